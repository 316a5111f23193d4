import PyProof.Rows.All
import Wide.All
import OpenK.AllK
import Wide.FinOn
import HandS.TupSets
import KE.KeyNested
import KE.KDictKeyed
import KE.SortData
import HandS.SetTxt0
import KE.DataCmp
import HandS.ForMost
import HandS.DictComp
import KE.GoesComp
import KE.GoesMore
import HandS.IsInst
import HandS.Defaults
import HandS.TupAny
import HandS.Deep
import HandS.Style
import HandS.Star
import HandS.ClsMeth
import HandS.Property
import HandS.CallLocal
import HandS.SlotsOwn
import HandS.Exc
import HandS.ExcInit
import HandS.ExcValue
import HandS.ExcIs
import HandS.ExcField
import KE.KStateDown
import HandS.Head0
import HandS.Head1
import HandS.Head2
import HandS.HeadEnd
import HandS.HeadHook1
import HandS.HeadHook2
import HandS.HeadHook3
import HandS.HeadHook4
import HandS.HeadNt
import PySem.Challenge.RW_ruleworlds_k02_what_programs_refuse
import HandS.SetBool
import HandS.WordsExc
import HandS.DeepEq
import HandS.Walk
import KE.KOpsOwn
import HandS.ExcOwn
import HandS.Zip
import HandS.TryOnly
set_option Elab.async false
set_option linter.all false
set_option maxRecDepth 100000
set_option maxHeartbeats 0
/-! Sets whose members are texts, or tuples of texts and of such tuples: made of a list or a tuple, and gathered again. -/
namespace Rw
open PySem PySem.Spec PyProof.Rows L2
abbrev NK := NestedKey
section
variable {P : Program} {w : World}
/-! no class statement stands in a key -/
mutual
theorem noCls : ∀ (k : NK) (v : Value) (n : Nat) (A : Around) (E : Value → Shared → Prop) (s : Shared) (Q : Bool → Shared → Prop), NestedIs s.heap k v → k.depth ≤ n → Q false s → wpAny (model P w) A (ofAClassStatement n v) Q E s
  | .none, _, n, A, E, s, Q, x, _, h => by
    cases x
    cases n <;> exact wpAny_pure h
  | .num i, _, n, A, E, s, Q, x, _, h => by
    cases x <;> cases n <;> exact wpAny_pure h
  | .text y, _, n, A, E, s, Q, x, _, h => by
    cases x
    cases n <;> exact wpAny_pure h
  | .tup ks, _, n, A, E, s, Q, x, hn, h => by
    cases x with
    | @tup a o vs m _ hg hc hd hk =>
      simp only [NestedKey.depth] at hn
      cases n with
      | zero => omega
      | succ n =>
        have hT : s.TypeIs (.ref a) "tuple" := ⟨o, hg, hc⟩
        unfold ofAClassStatement
        refine wpAny_bind (wpAny_typeOf hT ?_)
        dsimp only
        have e : (("tuple" : String) == "tuple") = true := by decide
        simp only [e, if_true, Bool.not_true, Bool.false_eq_true, if_false]
        try refine wpAny_bind (wpAny_pure ?_)
        try simp only [Bool.not_true, Bool.false_eq_true, if_false]
        show wpAny _ _ (seqItems? (.ref a) >>= _) _ _ s
        refine wpAny_bind (wpAny_seqItems hg hd ?_)
        dsimp only
        refine wpAny_bind ?_
        show wpAny _ _ (forIn vs _ _) _ _ s
        rw [← Array.forIn_toList]
        refine noClsAll ks vs.toList n A E s _ hk (by omega) ?_
        exact wpAny_pure h
theorem noClsAll : ∀ (ks : List NK) (vs : List Value) (n : Nat) (A : Around) (E : Value → Shared → Prop) (s : Shared) (Q : Option Bool × Unit → Shared → Prop), NestedAll s.heap ks vs → NestedKey.depthAll ks ≤ n → Q (none, ()) s →
    wpAny (model P w) A (forIn vs ((none, ()) : Option Bool × Unit) fun y r => do if ← ofAClassStatement n y then pure (ForInStep.done (some true, ())) else pure (ForInStep.yield (none, ()))) Q E s
  | [], _, n, A, E, s, Q, x, _, h => by
    cases x
    exact wpAny_pure h
  | k :: ks, _, n, A, E, s, Q, x, hn, h => by
    cases x with
    | cons x1 x2 =>
      simp only [NestedKey.depthAll] at hn
      rw [List.forIn_cons]
      refine wpAny_bind (wpAny_bind (noCls k _ n A E s _ x1 (by omega) ?_))
      simp only [Bool.false_eq_true, if_false]
      refine wpAny_pure ?_
      exact noClsAll ks _ n A E s Q x2 (by omega) h
end
/-! whether a key is hashed by its value: either answer -/
mutual
theorem byVal : ∀ (k : NK) (v : Value) (n : Nat) (A : Around) (E : Value → Shared → Prop) (s : Shared) (Q : Bool → Shared → Prop), NestedIs s.heap k v → (∀ b, Q b s) → wpAny (model P w) A (hashByValue n v) Q E s
  | .none, _, n, A, E, s, Q, x, h => by
    cases x
    cases n <;> exact wpAny_pure (h _)
  | .num i, _, n, A, E, s, Q, x, h => by
    cases x <;> cases n <;> exact wpAny_pure (h _)
  | .text y, _, n, A, E, s, Q, x, h => by
    cases x
    cases n <;> exact wpAny_pure (h _)
  | .tup ks, _, n, A, E, s, Q, x, h => by
    cases x with
    | @tup a o vs m _ hg hc hd hk =>
      cases n with
      | zero => exact wpAny_pure (h _)
      | succ n =>
        have hT : s.TypeIs (.ref a) "tuple" := ⟨o, hg, hc⟩
        unfold hashByValue
        refine wpAny_bind (wpAny_specialOf hT F.slot_tuple_hash.lookup ?_)
        show wpAny _ _ (seqItems? (.ref a) >>= _) _ _ s
        refine wpAny_bind (wpAny_seqItems hg hd ?_)
        refine wpAny_bind ?_
        show wpAny _ _ (forIn vs _ _) _ _ s
        rw [← Array.forIn_toList]
        refine byValAll ks vs.toList n A E s _ hk ?_ ?_
        · exact wpAny_pure (h _)
        · exact wpAny_pure (h _)
theorem byValAll : ∀ (ks : List NK) (vs : List Value) (n : Nat) (A : Around) (E : Value → Shared → Prop) (s : Shared) (Q : Option Bool × Unit → Shared → Prop), NestedAll s.heap ks vs → Q (none, ()) s → Q (some false, ()) s →
    wpAny (model P w) A (forIn vs ((none, ()) : Option Bool × Unit) fun y r => do if !(← hashByValue n y) then pure (ForInStep.done (some false, ())) else pure (ForInStep.yield (none, ()))) Q E s
  | [], _, n, A, E, s, Q, x, h, _ => by
    cases x
    exact wpAny_pure h
  | k :: ks, _, n, A, E, s, Q, x, h, h2 => by
    cases x with
    | cons x1 x2 =>
      rw [List.forIn_cons]
      refine wpAny_bind (wpAny_bind (byVal k _ n A E s _ x1 fun b => ?_))
      cases b with
      | true =>
        simp only [Bool.not_true, Bool.false_eq_true, if_false]
        refine wpAny_pure ?_
        exact byValAll ks _ n A E s Q x2 h h2
      | false =>
        simp only [Bool.not_false, if_true]
        exact wpAny_pure (wpAny_pure h2)
end
end
/-! ### sets of tuples -/
/-- a tuple that is a key, not too deep -/
def TupK (h : Heap) (k : NK) (a : Addr) : Prop := NestedIs h k (.ref a) ∧ k.depth ≤ 8
theorem TupK.one {h : Heap} {k k' : NK} {a : Addr} (x : TupK h k a) (y : TupK h k' a) : k = k' := NestedIs.inj _ _ _ x.1 y.1
theorem TupK.kept {h h' : Heap} {k : NK} {a : Addr} (x : TupK h k a) (u : ∀ b o, h.get? b = some o → h'.get? b = some o) : TupK h' k a :=
  ⟨NestedIs.at (fun b o _ _ e _ => u b o e) _ _ x.1, x.2⟩
/-- all but a set stays -/
theorem TupK.butSet {h h' : Heap} {k : NK} {a b : Addr} {o : Obj} {es : Array (Int × Value)} {ep : Nat} {t : SetTable} (x : TupK h k b) (ho : h.get? a = some o) (hd : o.data = .set es ep t) (sb : Heap.SameBut a h h') : TupK h' k b := by
  refine ⟨NestedIs.at (fun c u vs n e es' => (sb.2 c ?_).trans e) _ _ x.1, x.2⟩
  intro z
  subst z
  have q : u = o := Option.some.inj (e.symm.trans ho)
  rw [q, hd] at es'
  exact nomatch es'
/-- the entries of a table -/
def ents (w : World) (L : List (Addr × NK)) : List (Int × Value) := L.map fun p => (p.2.hash w, Value.ref p.1)
def hashes (w : World) (L : List (Addr × NK)) : List Int := L.map fun p => p.2.hash w
theorem ents_len (w : World) (L : List (Addr × NK)) : (ents w L).length = L.length := List.length_map _
theorem hashes_len (w : World) (L : List (Addr × NK)) : (hashes w L).length = L.length := List.length_map _
structure TSet (P : Program) (w : World) (h : Heap) (a : Addr) (L : List (Addr × NK)) (es : Array (Int × Value)) (ep : Nat) (t : SetTable) : Prop where
  ob : ∃ o, h.get? a = some o ∧ o.ExactSet ∧ o.data = .set es ep t
  en : es.toList = ents w L
  tab : TabOk t (hashes w L)
  nd : (L.map (·.2)).Nodup
  ks : ∀ p ∈ L, TupK h p.2 p.1
  led : w.params.followText "set-order" = true ∨ t.led = true
  room : L.length * 5 < t.mask * 3
  few : L.length < 64
section
variable {P : Program} {w : World} {A : Around} {E : Value → Shared → Prop} {s : Shared} {a : Addr} {L : List (Addr × NK)} {es : Array (Int × Value)} {ep : Nat} {t : SetTable}
theorem size_of_ents (h : es.toList = ents w L) : es.size = L.length := by
  rw [← Array.length_toList, h, ents_len]
theorem TSet.fits (R : TSet P w s.heap a L es ep t) : t.fits es.size = true := by
  have a1 := R.tab.sz
  have a2 := size_of_ents R.en
  have a3 := R.room
  rw [hashes_len] at a1
  unfold SetTable.fits SetTable.fill
  rw [R.tab.dm, Bool.and_eq_true, beq_iff_eq, decide_eq_true_eq]
  refine ⟨by omega, ?_⟩
  show t.place.size + 0 ≤ t.mask
  omega
theorem TSet.at (R : TSet P w s.heap a L es ep t) {i : Nat} {p : Addr × NK} (h : L[i]? = some p) : es[i]? = some (p.2.hash w, Value.ref p.1) := by
  rw [← Array.getElem?_toList, R.en]
  unfold ents
  rw [List.getElem?_map, h]
  rfl
/-- nobody sees a search among such tuples -/
theorem unseen {k : NK} {b : Addr} {Q : Bool → Shared → Prop} (hk : TupK s.heap k b) {ys : List Value} (hy : ∀ y ∈ ys, ∃ k' c, y = Value.ref c ∧ TupK s.heap k' c) (h : Q false s) : wpAny (model P w) A (searchCouldBeSeen (.ref b) ys) Q E s := by
  unfold searchCouldBeSeen
  refine wpAny_bind ?_
  refine wpAny_forIn_list _ (fun rest r s' => r.1 = none ∧ s' = s ∧ ∀ y ∈ rest, ∃ k' c, y = Value.ref c ∧ TupK s.heap k' c) _ ?turn ?last _ _ ⟨rfl, rfl, hy⟩
  case turn =>
    rintro v rest r s' ⟨hr, rfl, all⟩
    obtain ⟨k', c, rfl, hc⟩ := all v List.mem_cons_self
    have more : ∀ y ∈ rest, ∃ k' c, y = Value.ref c ∧ TupK s'.heap k' c := fun u hu => all u (List.mem_cons_of_mem _ hu)
    dsimp only
    by_cases hv : (b == c || (carriedByValue (.ref b) && carriedByValue (.ref c))) = true
    · exact wp_if_pos hv (wpAny_pure ⟨rfl, rfl, more⟩)
    · refine wp_if_neg hv (wpAny_bind ((nestedKind P w).quiet (k := k) hk ?_))
      simp only [Bool.not_true, Bool.false_eq_true, if_false]
      refine wpAny_bind ((nestedKind P w).quiet (k := k') hc ?_)
      simp only [Bool.not_true, Bool.false_eq_true, if_false]
      refine wpAny_bind (noCls k _ 8 _ _ _ _ hk.1 hk.2 ?_)
      simp only [Bool.false_eq_true, if_false]
      refine wpAny_bind (noCls k' _ 8 _ _ _ _ hc.1 hc.2 ?_)
      simp only [Bool.false_eq_true, if_false]
      exact wpAny_pure ⟨rfl, rfl, more⟩
  case last =>
    rintro ⟨r1, r2⟩ s' ⟨hr, rfl, _⟩
    simp only at hr
    subst hr
    exact wpAny_pure h
end
/-! ### the search -/
/-- the states of a search for the hash g, one after the other -/
def st (m : Nat) (g : Int) (c : Nat) : SetTable.Probe := nth m (runAt m (SetTable.bits g % (m + 1)) (SetTable.bits g)) c
theorem st_way (m : Nat) (g : Int) (c : Nat) : (st m g c).j = way m g c := rfl
theorem st_more (m : Nat) (g : Int) (c q : Nat) : nth m (st m g c) q = st m g (c + q) := (nth_add m c _ q).symm
theorem nth_dummy (m : Nat) : ∀ (n : Nat) (p : SetTable.Probe), p.dummy = none → (nth m p n).dummy = none
  | 0, _, h => h
  | n + 1, p, h => nth_dummy m n (adv m p) (by unfold adv; split <;> exact h)
theorem st_dummy (m : Nat) (g : Int) (c : Nat) : (st m g c).dummy = none := nth_dummy m c _ rfl
section
variable {P : Program} {w : World} {A : Around} {E : Value → Shared → Prop} {s : Shared} {a : Addr} {L : List (Addr × NK)} {es : Array (Int × Value)} {ep : Nat} {t : SetTable}
theorem hunt (R : TSet P w s.heap a L es ep t) {x : Addr} {k : NK} (hx : TupK s.heap k x) (hu : A.units + 8 < cLine) {g : Int} (hg : g = k.hash w) {K : Nat} (hf : K < 10 * SetTable.turns t.mask)
    (free : way t.mask g K ∉ t.place.toList) (full : ∀ c, c < K → way t.mask g c ∈ t.place.toList) {Q : SetFound → Shared → Prop}
    (yes : k ∈ L.map (·.2) → Q (.there none) s) (no : k ∉ L.map (·.2) → Q (.free (way t.mask g K) false) s) :
    ∀ (f c : Nat) (stand : Option SetTable.Probe), stand.getD (t.probeStart g) = st t.mask g c → c ≤ K → K - c < f →
      (∀ (i : Nat) p, L[i]? = some p → p.2 = k → ∃ c', c ≤ c' ∧ c' < K ∧ t.place.toList[i]? = some (way t.mask g c')) →
      wpAny (model P w) A (setSearchFrom a (.ref x) g true f stand) Q E s
  | 0, c, stand, _, _, h, _ => absurd h (Nat.not_lt_zero _)
  | f + 1, c, stand, hst, hc, hlt, ahead => by
    obtain ⟨o, ho, hex, hd⟩ := R.ob
    have big := R.fits
    have hashOf : ∀ (i : Nat) p, L[i]? = some p → (es[i]?.map (·.1)).getD 0 = p.2.hash w := fun i p hp => by
      rw [R.at hp]
      rfl
    have oddM := mask_odd R.tab.mok
    rw [setSearchFrom_succ]
    refine wpAny_bind (wpAny_setState_of ho hd big ?_)
    dsimp only
    refine wp_if_neg (by unfold SetTable.gaveWay; rw [oddM]; decide) ?_
    try refine wpAny_bind (wpAny_pure ?_)
    have jAt : ∀ q, (nth t.mask (st t.mask g c) q).j = way t.mask g (c + q) := fun q => congrArg SetTable.Probe.j (st_more t.mask g c q)
    rcases go_spec t R.tab.ris R.tab.dm (fun i => (es[i]?.map (·.1)).getD 0) g (10 * SetTable.turns t.mask) (K - c) (st t.mask g c) (st_dummy _ _ _) (by omega)
      (fun q hq => by rw [jAt]; exact full (c + q) (by omega)) (by rw [jAt, show c + (K - c) = K by omega]; exact free) with ⟨q, i, hq, hi, hh, first, met⟩ | ⟨none_, met⟩
    · -- an entry of this hash
      have met' : t.probe (fun i => (es[i]?.map (·.1)).getD 0) g (stand.getD (t.probeStart g)) = some (.candidate (way t.mask g (c + q)) i (st t.mask g (c + (q + 1)))) := by
        rw [hst, ← jAt, ← st_more]
        exact met
      rw [met']
      dsimp only
      rw [jAt] at hi
      have il : i < L.length := by
        have z1 : i < t.place.toList.length := (List.getElem?_eq_some_iff.mp hi).1
        have z2 := R.tab.sz
        rw [hashes_len] at z2
        rw [Array.length_toList] at z1
        omega
      obtain ⟨p, hp⟩ : ∃ p, L[i]? = some p := ⟨L[i], List.getElem?_eq_getElem il⟩
      have pm : p ∈ L := List.mem_of_getElem? hp
      have pk := R.ks p pm
      have go : wpAny (model P w) A (searchRest a (.ref x) g true f es t (way t.mask g (c + q)) i (st t.mask g (c + (q + 1)))) Q E s := by
        unfold searchRest
        rw [R.at hp]
        dsimp only
        refine wpAny_bind (wpAny_holding ((nestedKind P w).eqBool (x := p.2) (y := k) hu pk hx ?_))
        refine wpAny_bind (wpAny_setState_of ho hd big ?_)
        dsimp only
        by_cases same : p.2 = k
        · refine wp_if_pos (by simp [same]) (wpAny_pure (yes ?_))
          exact List.mem_map.mpr ⟨p, pm, same⟩
        · refine wp_if_neg (by simp [same]) ?_
          try refine wpAny_bind (wpAny_pure ?_)
          rw [sameMem]
          dsimp only
          have live : t.slot (way t.mask g (c + q)) = .live i := slot_live R.tab.ris hi
          simp only [if_true, live, R.at hp]
          refine wpAny_bind (wpAny_isSame_ref_self (wpAny_bind (wpAny_pure ?_)))
          simp only [if_true]
          refine wp_if_neg (by simp [same]) ?_
          refine hunt R hx hu hg hf free full yes no f (c + (q + 1)) _ rfl (by omega) (by omega) fun i0 p0 h0 k0 => ?_
          obtain ⟨c', b1, b2, b3⟩ := ahead i0 p0 h0 k0
          refine ⟨c', ?_, b2, b3⟩
          by_cases ec : c' = c + q
          · exfalso
            rw [ec] at b3
            have l0 := slot_live R.tab.ris b3
            rw [live] at l0
            injection l0 with l0
            rw [← l0, hp] at h0
            exact same ((congrArg Prod.snd (Option.some.inj h0)).trans k0)
          · by_cases lt : c' < c + q
            · exfalso
              refine first (c' - c) i0 (by omega) (by rw [jAt, show c + (c' - c) = c' by omega]; exact b3) ?_
              show (es[i0]?.map (·.1)).getD 0 = g
              rw [hashOf i0 p0 h0, k0, hg]
            · omega
      by_cases hl : t.led = true
      · refine wp_if_neg (by simp [hl]) ?_
        try refine wpAny_bind (wpAny_pure ?_)
        exact go
      · refine wp_if_pos (by simp [hl]) (wpAny_bind (unseen hx (fun y hy => ?_) ?_))
        · obtain ⟨e, he, ee⟩ := List.mem_map.mp hy
          have he1 : e ∈ es ∧ e.1 = g := by simpa using he
          have he2 : e ∈ es.toList := by simpa using he1.1
          rw [R.en] at he2
          obtain ⟨p2, hp2, e2⟩ := List.mem_map.mp he2
          exact ⟨p2.2, p2.1, by rw [← ee, ← e2], R.ks p2 hp2⟩
        · refine wp_if_neg (by decide) ?_
          try refine wpAny_bind (wpAny_pure ?_)
          exact go
    · -- a free slot
      have met' : t.probe (fun i => (es[i]?.map (·.1)).getD 0) g (stand.getD (t.probeStart g)) = some (.empty (way t.mask g K) none) := by
        have e2 : way t.mask g K = (nth t.mask (st t.mask g c) (K - c)).j := by
          rw [jAt, show c + (K - c) = K by omega]
        rw [hst, e2]
        exact met
      rw [met']
      dsimp only
      refine wpAny_pure (no fun hm => ?_)
      obtain ⟨p0, m0, k0⟩ := List.mem_map.mp hm
      obtain ⟨i0, hi0, e0⟩ := List.getElem_of_mem m0
      have h0 : L[i0]? = some p0 := by rw [List.getElem?_eq_getElem hi0, e0]
      obtain ⟨c', b1, b2, b3⟩ := ahead i0 p0 h0 k0
      refine none_ (c' - c) i0 (by omega) (by rw [jAt, show c + (c' - c) = c' by omega]; exact b3) ?_
      show (es[i0]?.map (·.1)).getD 0 = g
      rw [hashOf i0 p0 h0, k0, hg]
theorem hunted (R : TSet P w s.heap a L es ep t) {x : Addr} {k : NK} (hx : TupK s.heap k x) (hu : A.units + 8 < cLine) {Q : SetFound → Shared → Prop} (yes : k ∈ L.map (·.2) → Q (.there none) s)
    (no : ∀ K, k ∉ L.map (·.2) → way t.mask (k.hash w) K ∉ t.place.toList → (∀ c, c < K → way t.mask (k.hash w) c ∈ t.place.toList) → Q (.free (way t.mask (k.hash w) K) false) s) :
    wpAny (model P w) A (setSearch a (.ref x) (k.hash w) true) Q E s := by
  have space := R.room
  obtain ⟨K, kf, free, full⟩ := R.tab.first (by rw [hashes_len]; omega) (k.hash w)
  have small : K < 100000 := by
    have : 10 * SetTable.turns t.mask ≤ 1420 := by
      unfold SetTable.turns
      rcases R.tab.mok with e | e | e <;> omega
    omega
  unfold setSearch
  refine hunt R hx hu rfl kf free full yes (fun hn => no K hn free full) 100000 0 none rfl (Nat.zero_le _) (by omega) fun i p hp hk => ?_
  have hi : (hashes w L)[i]? = some (k.hash w) := by
    unfold hashes
    rw [List.getElem?_map, hp, ← hk]
    rfl
  have il : i < t.place.toList.length := by
    have z1 : i < L.length := (List.getElem?_eq_some_iff.mp hp).1
    have z2 := R.tab.sz
    rw [hashes_len] at z2
    rw [Array.length_toList]
    omega
  have hj := List.getElem?_eq_getElem il
  obtain ⟨c, hc, e⟩ := R.tab.before free hi hj
  exact ⟨c, Nat.zero_le _, hc, by rw [hj, e]⟩
end
/-! ### one put in -/
theorem relist {w : World} (L : List (Addr × NK)) (es : Array (Int × Value)) (order : Array Nat) (he : es.toList = ents w L) (hp : order.toList.Perm (List.range L.length)) :
    ∃ L2, (order.filterMap (es[·]?)).toList = ents w L2 ∧ L2.Perm L ∧ hashes w L2 = order.toList.map fun i => (es.map (·.1)).getD i 0 := by
  have one : ∀ i (h : i < L.length), es[i]? = some ((L[i]).2.hash w, Value.ref (L[i]).1) := fun i h => by
    rw [← Array.getElem?_toList, he]
    unfold ents
    rw [List.getElem?_map, List.getElem?_eq_getElem h]
    rfl
  have all : ∀ l : List Nat, (∀ i ∈ l, i < L.length) → l.filterMap (fun i => es[i]?) = ents w (l.filterMap fun i => L[i]?) ∧ hashes w (l.filterMap fun i => L[i]?) = l.map fun i => (es.map (·.1)).getD i 0 := by
    intro l
    induction l with
    | nil => exact fun _ => ⟨rfl, rfl⟩
    | cons i l ih =>
      intro hl
      have hi := hl i List.mem_cons_self
      obtain ⟨e1, e2⟩ := ih fun j hj => hl j (List.mem_cons_of_mem _ hj)
      rw [List.filterMap_cons_some (List.getElem?_eq_getElem hi), List.filterMap_cons_some (one i hi), e1, List.map_cons, ← e2]
      refine ⟨rfl, ?_⟩
      have e5 : (es.map (·.1))[i]? = some ((L[i]).2.hash w) := by
        rw [Array.getElem?_map, one i hi]
        rfl
      have e4 : (es.map (·.1)).getD i 0 = (L[i]).2.hash w := by simp [Array.getD_eq_getD_getElem?, e5]
      rw [e4]
      rfl
  obtain ⟨e1, e2⟩ := all order.toList fun i hi => List.mem_range.mp (hp.mem_iff.mp hi)
  refine ⟨order.toList.filterMap fun i => L[i]?, by first | (rw [Array.toList_filterMap]; exact e1) | simpa using e1, ?_, e2⟩
  have z := hp.filterMap fun i => L[i]?
  rw [List.filterMap_getElem?_range_length] at z
  exact z
theorem TabOk.unplain {t : SetTable} {hs : List Int} (T : TabOk t hs) : TabOk { t with plain := false } hs := ⟨T.ris, T.dm, T.sz, T.mok, T.bd, T.reach⟩
section
variable {P : Program} {w : World} {A : Around} {E : Value → Shared → Prop} {s : Shared} {a : Addr} {L : List (Addr × NK)} {es : Array (Int × Value)} {ep : Nat} {t : SetTable}
theorem relaid_at {o : Obj} (ho : s.heap.get? a = some o) (hex : o.ExactSet) (hd : o.data = .set es ep t) (en : es.toList = ents w L) (tab : TabOk t (hashes w L)) (hfl : L.length ≤ t.mask)
    (nd : (L.map (·.2)).Nodup) (ks : ∀ p ∈ L, TupK s.heap p.2 p.1) (ld : w.params.followText "set-order" = true ∨ t.led = true) (few : L.length < 64) {wanted M : Nat}
    (hw : SetTable.sizeAbove wanted - 1 = M) (hM : MaskOk M) (hw2 : SetTable.sizeAbove wanted ≤ 128) (hn : L.length * 5 < M * 3) {Q : Unit → Shared → Prop}
    (hQ : ∀ h' L' es' ep' t', Heap.SameBut a s.heap h' → TSet P w h' a L' es' ep' t' → L'.Perm L → Q () { s with heap := h' }) : wpAny (model P w) A (setRelay a wanted) Q E s := by
  have hsl := size_of_ents en
  have hps : t.place.size = es.size := by rw [tab.sz, hashes_len, hsl]
  have fits : t.fits es.size = true := by
    unfold SetTable.fits SetTable.fill
    rw [tab.dm, Bool.and_eq_true, beq_iff_eq, decide_eq_true_eq]
    refine ⟨hps, ?_⟩
    show t.place.size + 0 ≤ t.mask
    omega
  obtain ⟨t', order, e, hp, T, em, el, _, _⟩ := relaid_ok t (hs := es.map (·.1)) (wanted := wanted) hw hM (by rw [Array.size_map, hsl]; omega)
  rw [Array.size_map, hsl] at hp
  obtain ⟨L2, r1, r2, r3⟩ := relist L es order en hp
  rw [← r3] at T
  have hs2 : (order.filterMap (es[·]?)).size = es.size := by rw [size_of_ents r1, r2.length_eq, hsl]
  rw [setRelay_eq]
  refine wpAny_bind (wpAny_setState_of ho hd fits ?_)
  dsimp only
  refine wp_if_neg (by rw [sizeLine_eq]; omega) ?_
  try refine wpAny_bind (wpAny_pure ?_)
  rw [e]
  dsimp only
  refine wpAny_bind (wp_if_neg (by rw [hs2]; simp) ?_)
  try refine wpAny_bind (wpAny_pure ?_)
  refine wpAny_pure ?_
  dsimp only
  refine wpAny_storeSet_of ho hd ?_ (by rw [hs2, hsl, sizeLine_eq]; omega)
  have sb : Heap.SameBut a s.heap (s.heap.update a (Obj.putSet (order.filterMap (es[·]?)) t')) := Heap.SameBut.update ..
  refine hQ _ L2 (order.filterMap (es[·]?)) (ep + 1) t' sb ⟨⟨_, store_at ho hd, ⟨hex.1, hex.2.1, hex.2.2⟩, rfl⟩, r1, T, (r2.map (·.2)).nodup_iff.mpr nd, fun p hpm => (ks p (r2.mem_iff.mp hpm)).butSet ho hd sb, by rw [el]; exact ld, ?_, by rw [r2.length_eq]; exact few⟩ r2
  rw [r2.length_eq, em]
  exact hn
/-- adding -/
theorem added (R : TSet P w s.heap a L es ep t) {x : Addr} {k : NK} (hx : TupK s.heap k x) (hu : A.units + 8 < cLine) (hfew : L.length + 1 < 64) {Q : Bool → Shared → Prop}
    (hQ : ∀ b h' L' es' ep' t', Heap.SameBut a s.heap h' → TSet P w h' a L' es' ep' t' → (k ∈ L.map (·.2) → L' = L) → (k ∉ L.map (·.2) → L'.Perm ((x, k) :: L)) → Q b { s with heap := h' }) :
    wpAny (model P w) A (setAddHashed a (.ref x) (k.hash w)) Q E s := by
  obtain ⟨o, ho, hex, hd⟩ := R.ob
  have hsl := size_of_ents R.en
  have hroom := R.room
  unfold setAddHashed
  refine wpAny_holding ?_
  rw [show (100000 : Nat) = 99999 + 1 from rfl, setAddHashedIn_succ]
  refine wpAny_bind (wpAny_setState_of ho hd R.fits ?_)
  dsimp only
  refine wp_if_neg (by simp [byScan, Value.scannable]) ?_
  try refine wpAny_bind (wpAny_pure ?_)
  refine wpAny_bind (hunted R hx hu (fun hm => ?_) fun K hm hK hb => ?_)
  · dsimp only
    exact wpAny_pure (hQ false s.heap L es ep t (Heap.SameBut.refl a s.heap) R (fun _ => rfl) fun z => absurd hm z)
  · dsimp only
    refine wpAny_bind (wpAny_setState_of ho hd R.fits ?_)
    dsimp only
    obtain ⟨q1, q2, q3, q4, q5, _, _, _, q9⟩ := R.tab.put hK hb
    generalize hpt : t.put (way t.mask (k.hash w) K) = pt at q1 q3 q4 q5 q9 ⊢
    obtain ⟨t1, p⟩ := pt
    dsimp only at q1 q3 q4 q5 q9 ⊢
    subst q1
    generalize hpp : SetTable.below t.place (way t.mask (k.hash w) K) = p at q2 q3 ⊢
    have hin : (SetTable.insertAt es p (k.hash w, Value.ref x)).toList = ents w (L.take p ++ (x, k) :: L.drop p) := by
      rw [SetTable.toList_insertAt, R.en]
      unfold ents
      rw [List.map_append, List.map_cons, List.map_take, List.map_drop]
    have pm := put_perm L p (x, k)
    have hlen : (L.take p ++ (x, k) :: L.drop p).length = L.length + 1 := pm.length_eq
    have hhs : hashes w (L.take p ++ (x, k) :: L.drop p) = (hashes w L).take p ++ k.hash w :: (hashes w L).drop p := by
      unfold hashes
      rw [List.map_append, List.map_cons, List.map_take, List.map_drop]
    rw [← hhs] at q3
    have nd1 : ((L.take p ++ (x, k) :: L.drop p).map (·.2)).Nodup := by
      refine (pm.map (·.2)).nodup_iff.mpr ?_
      rw [List.map_cons]
      exact List.nodup_cons.mpr ⟨hm, R.nd⟩
    have hes : (SetTable.insertAt es p (k.hash w, Value.ref x)).size = L.length + 1 := by rw [size_of_ents hin, hlen]
    generalize SetTable.insertAt es p (k.hash w, Value.ref x) = es1 at hin hes ⊢
    generalize L.take p ++ (x, k) :: L.drop p = L1 at pm hlen q3 nd1 hin
    have ld1 : w.params.followText "set-order" = true ∨ t1.led = true := by rw [q5]; exact R.led
    -- behind the question whether the hash is by value: t2 is t1, but for one mark
    have rest : ∀ t2 : SetTable, TabOk t2 (hashes w L1) → t2.mask = t.mask → t2.fill = L.length + 1 → (w.params.followText "set-order" = true ∨ t2.led = true) →
        wpAny (model P w) A (do
          storeSet a es1 t2
          if (!false && t2.tooFull) = true then do
              setRelay a (SetTable.grown (es.size + 1))
              pure true
            else pure true) Q E s := by
      intro t2 T2 m2 f2 l2
      refine wpAny_bind (wpAny_storeSet_of ho hd ?_ (by rw [hes, sizeLine_eq]; omega))
      have sb : Heap.SameBut a s.heap (s.heap.update a (Obj.putSet es1 t2)) := Heap.SameBut.update ..
      have ho1 := store_at (es' := es1) (t' := t2) ho hd
      generalize s.heap.update a (Obj.putSet es1 t2) = h1 at sb ho1 ⊢
      have ks1 : ∀ p ∈ L1, TupK h1 p.2 p.1 := fun p hp => by
        rcases List.mem_cons.mp (pm.mem_iff.mp hp) with e | hp
        · rw [e]
          exact hx.butSet ho hd sb
        · exact (R.ks p hp).butSet ho hd sb
      by_cases hf : t2.tooFull = true
      · refine wp_if_pos (by simp [hf]) ?_
        have hfull : (L.length + 1) * 5 ≥ t2.mask * 3 := by
          have h := hf
          unfold SetTable.tooFull at h
          rw [decide_eq_true_eq, f2] at h
          exact h
        rw [hsl]
        have two : (t.mask = 7 ∧ L.length = 4) ∨ (t.mask = 31 ∧ L.length = 18) := by
          rcases R.tab.mok with e | e | e
          · left; rw [m2, e] at hfull; rw [e] at hroom; exact ⟨e, by omega⟩
          · right; rw [m2, e] at hfull; rw [e] at hroom; exact ⟨e, by omega⟩
          · exfalso; rw [m2, e] at hfull; omega
        have go : ∀ M, SetTable.sizeAbove (SetTable.grown (L.length + 1)) - 1 = M → MaskOk M → SetTable.sizeAbove (SetTable.grown (L.length + 1)) ≤ 128 → (L.length + 1) * 5 < M * 3 →
            wpAny (model P w) A (do setRelay a (SetTable.grown (L.length + 1)); pure true) Q E { s with heap := h1 } := fun M e1 e2 e3 e4 => by
          refine wpAny_bind (relaid_at (s := { s with heap := h1 }) ho1 ⟨hex.1, hex.2.1, hex.2.2⟩ rfl hin T2 (by rw [hlen, m2]; rcases two with ⟨e, e'⟩ | ⟨e, e'⟩ <;> omega) nd1 ks1 l2 (by rw [hlen]; exact hfew) e1 e2 e3 (by rw [hlen]; exact e4) ?_)
          intro h2 L2 es2 ep2 t2 sb2 R2 pm2
          exact wpAny_pure (hQ true h2 L2 es2 ep2 t2 (sb.trans sb2) R2 (fun z => absurd z hm) fun _ => pm2.trans pm)
        rcases two with ⟨_, e2⟩ | ⟨_, e2⟩
        · exact go 31 (by rw [e2, size_20]) (.inr (.inl rfl)) (by rw [e2, size_20]; decide) (by omega)
        · exact go 127 (by rw [e2, size_76]) (.inr (.inr rfl)) (by rw [e2, size_76]; decide) (by omega)
      · refine wp_if_neg (by simp [hf]) ?_
        refine wpAny_pure (hQ true h1 L1 es1 (ep + 1) t2 sb ⟨⟨_, ho1, ⟨hex.1, hex.2.1, hex.2.2⟩, rfl⟩, hin, T2, nd1, ks1, l2, ?_, by rw [hlen]; exact hfew⟩ (fun z => absurd z hm) fun _ => pm)
        have h := hf
        unfold SetTable.tooFull at h
        rw [decide_eq_true_eq, f2] at h
        rw [hlen]
        omega
    have f1 : t1.fill = L.length + 1 := by rw [q9, hashes_len]
    have close : ∀ b : Bool, wpAny (model P w) A (do
          storeSet a es1 (if b = true then t1 else { t1 with plain := false })
          if (!false && (if b = true then t1 else { t1 with plain := false }).tooFull) = true then do
              setRelay a (SetTable.grown (es.size + 1))
              pure true
            else pure true) Q E s := fun b => by
      cases b with
      | true => exact rest t1 q3 q4 f1 ld1
      | false => exact rest { t1 with plain := false } (TabOk.unplain q3) q4 f1 ld1
    by_cases hpl : t1.plain = true
    · first
        | exact wpAny_bind (wp_if_pos hpl (byVal k _ 8 _ _ _ _ hx.1 fun b => close b))
        | exact wp_if_pos hpl (wpAny_bind (byVal k _ 8 _ _ _ _ hx.1 fun b => close b))
    · first
        | exact wpAny_bind (wp_if_neg hpl (wpAny_pure (close true)))
        | exact wp_if_neg hpl (wpAny_bind (wpAny_pure (close true)))
end
end Rw
namespace Rw
open PySem PySem.Spec PyProof.Rows L2
/-! ### set(xs): filled item by item -/
/-- a new set -/
abbrev newSetObj (w : World) : Obj := { cls := .type "set", dict := none, data := .set #[] 0 (.fresh 0 0 (!w.params.followText "set-order")) }
/-- G i: the set at S has got the first i items -/
structure Fill (P : Program) (w : World) (S : Addr) (h0 : Heap) (items : List Value) (G : Nat → Heap → Prop) : Prop where
  start : ∀ h, h.get? S = some (newSetObj w) → G 0 h
  keep : ∀ i h h', G i h → (∀ o, h.get? S = some o → h'.get? S = some o) → (∀ b o, h0.get? b = some o → h'.get? b = some o) → G i h'
  put : ∀ i v (A : Around) (E : Value → Shared → Prop) (s : Shared) (Q : Bool → Shared → Prop), A.units + 8 < cLine → items[i]? = some v → G i s.heap → (∀ b o, h0.get? b = some o → s.heap.get? b = some o) →
    (∀ b h' tk, s.toks ≤ tk → Heap.SameBut S s.heap h' → G (i + 1) h' → Q b { s with heap := h', toks := tk }) → wpAny (model P w) A (setAdd S v) Q E s
section
variable {P : Program} {w : World} {A : Around} {E : Value → Shared → Prop} {s : Shared}
theorem fill_loop {I : Addr} {fp wr : List Addr} {GG : Array GenState → Array GenState → Prop} {n : Nat} {Pv : Nat → Value → Prop} {St : Nat → Shared → Prop} {R : Result → Shared → Prop} {S : Addr} {h0 : Heap} {items : List Value} {G : Nat → Heap → Prop}
    (W : WalksS P w A.in1 I fp wr GG n Pv St) (hSf : S ∉ fp) (T : Fill P w S h0 items G) (hval : ∀ i v, Pv i v → items[i]? = some v) (hS0 : h0.get? S = none) (hw0 : ∀ b ∈ wr, h0.get? b = none) (hu : A.in1.units + 8 < cLine) :
    ∀ (k i : Nat) (s : Shared), n - i = k → i ≤ n → St i s → (∀ b o, h0.get? b = some o → s.heap.get? b = some o) → G i s.heap →
      (∀ s', Moved (S :: wr) GG s s' → G n s'.heap → (∀ b o, h0.get? b = some o → s'.heap.get? b = some o) → R (.ok (.ret .none)) s') →
      codeAny (model P w) A (.builtin "set.update.loop" ⟨[.ref S, .ref I], []⟩) R s := by
  have hSw : S ∉ wr := fun h => hSf (W.sub _ h)
  have wider : ∀ b ∈ wr, b ∈ S :: wr := fun b hb => List.mem_cons_of_mem _ hb
  have old : ∀ {s s' : Shared}, Moved wr GG s s' → (∀ b o, h0.get? b = some o → s.heap.get? b = some o) → ∀ b o, h0.get? b = some o → s'.heap.get? b = some o := fun hm hkp b o e =>
    hm.heap b o (fun hb => by rw [hw0 b hb] at e; cases e) (hkp b o e)
  intro k
  induction k with
  | zero =>
    intro i s hk' hi hst hkp g hR
    have hin : i = n := by omega
    subst hin
    refine codeAny_builtin F.entry_set_update_loop ?_
    rw [Around.under_plainId F.plain_set_update_loop _]
    show wpAny _ A.in1 (pyNext (.ref I) >>= _) _ _ s
    refine wpAny_bind (W.done s _ _ hst fun s' hm => ?_)
    show wpAny _ A.in1 (ret Value.none) _ _ s'
    exact wpAny_pure (hR s' (hm.mono wider) (T.keep _ _ _ g (fun o e => hm.heap S o hSw e) (old hm hkp)) (old hm hkp))
  | succ k ih =>
    intro i s hk' hi hst hkp g hR
    have hlt : i < n := by omega
    refine codeAny_builtin F.entry_set_update_loop ?_
    rw [Around.under_plainId F.plain_set_update_loop _]
    show wpAny _ A.in1 (pyNext (.ref I) >>= _) _ _ s
    refine wpAny_bind (W.item i s _ _ hlt hst fun v s' hP hst' hm => ?_)
    have hkp' := old hm hkp
    show wpAny _ A.in1 (holding [v] (setAdd S v) >>= _) _ _ s'
    refine wpAny_bind (wpAny_holding (T.put i v A.in1 _ s' _ hu (hval i v hP) (T.keep _ _ _ g (fun o e => hm.heap S o hSw e) hkp') hkp' fun b h' tk htk hsb g' => ?_))
    have hkp2 : ∀ b o, h0.get? b = some o → h'.get? b = some o := fun b o e => (hsb.2 b (fun z => by rw [z, hS0] at e; cases e)).trans (hkp' b o e)
    refine wpAny_pure ⟨plainId_quiet F.plain_set_update_loop _, ih (i + 1) _ (by omega) hlt (W.frame _ s' _ _ hst' htk fun b hb o e => ?_) hkp2 g' fun s'' hm'' g'' hkp'' => ?_⟩
    · rw [hsb.2 b (fun h : b = S => hSf (by rw [← h]; exact hb))]
      exact e
    · refine hR s'' (Moved.trans W.gtrans ((hm.mono wider).then_heap htk fun b o hb e => ?_) hm'') g'' hkp''
      rw [hsb.2 b (fun h : b = S => hb (by rw [h]; exact List.mem_cons_self))]
      exact e
theorem call_fill_list {l : Addr} {items : Array Value} {G : Nat → Heap → Prop} {Q : Value → Shared → Prop} (hh : A.handled = none) (hl : s.heap.IsList l items) (T : Fill P w s.heap.objs.size s.heap items.toList G) (hu : A.units + 16 < cLine)
    (h : ∀ (h' : Heap) (tk : Nat), G items.size h' → (∀ b o, s.heap.get? b = some o → h'.get? b = some o) → Q (.ref s.heap.objs.size) { s with heap := h', toks := tk }) :
    wpAny (model P w) A (call (.type "set") [.ref l]) Q E s := by
  obtain ⟨c, tl, hmro⟩ := F.called_set.mro
  have hmade := F.called_set.made
  have hsub := F.called_set.sub
  refine wpAny_call (codeAny_of_tree ?_)
  show wpAny _ _ (callAny (.type "set") _) _ _ _
  refine wpAny_pure ⟨Code.quiet_builtin _ (by decide +kernel), codeAny_builtin F.entry_type_call ?_⟩
  rw [Around.under_plain (weight_type_call_type "set" [.ref l] []) rfl]
  have f1 := F.called_set.notType
  have f2 := F.called_set.canCreate
  have f3 := F.typeCall_set_1 (.ref l)
  repeat (any_goals (first | assumption | wp_step))
  refine codeAny_mono (code_set_led1 (.ref l) (E := E) (Q₁ := fun obj s₁ => obj = .ref s.heap.objs.size ∧ s₁ = { s with heap := s.heap.push (newSetObj w) }) ⟨rfl, rfl⟩) fun r s₁ hr => ?_
  cases r with
  | error e => exact hr
  | ok fl =>
    cases fl with
    | ret obj =>
      obtain ⟨rfl, rfl⟩ := hr
      have hS : (s.heap.push (newSetObj w)).get? s.heap.objs.size = some (newSetObj w) := Heap.get?_push_size _ rfl
      have hT : Shared.TypeIs { s with heap := s.heap.push (newSetObj w) } (.ref s.heap.objs.size) "set" := ⟨_, hS, rfl⟩
      have f4 := F.called_set.init.lookup
      have f5 := F.called_set.init.bind (.ref s.heap.objs.size)
      repeat (any_goals (first | assumption | wp_step))
      refine codeAny_mono (codeAny_call_builtin (R := wants (fun r s₂ => r = .none ∧ ∃ h' tk, s₂ = { s with heap := h', toks := tk } ∧ G items.size h' ∧ (∀ b o, s.heap.get? b = some o → h'.get? b = some o)) E) F.called_set.init.plain F.entry_set_init (check_set_init_1 hT ?_)) fun r₂ s₂ hr₂ => ?_
      · obtain ⟨ol, hol, hcl, nl, hdl⟩ := hl
        obtain ⟨ocls, odict, odata, oslots⟩ := ol
        simp only at hcl hdl
        subst hcl; subst hdl
        have hol' : (s.heap.push (newSetObj w)).get? l = some { cls := .type "list", dict := odict, data := .seq items nl, slots := oslots } := Heap.get?_push_of_some _ hol
        have f6 := F.sub_list_set
        have f7 := F.sub_list_frozenset
        have f8 : (Value.type "list" == Value.type "dict") = false := by decide
        have hl1 : (s.heap.push (newSetObj w)).IsList l items := ⟨_, hol', rfl, nl, rfl⟩
        unfold Builtin.«set.__init__» noKeywords Builtin.Frozenset.updateFrom
        generalize hPI : pyIter = PI
        wp_walk
        subst hPI
        refine wpAny_pyIter_list hl1 ?_
        refine wpAny_bind (wpAny_runValue ?_)
        have hlS : l < s.heap.objs.size := Heap.lt_size hol
        have hh3 : A.in1.in1.in1.handled = none := by simp [hh]
        have hz1 : (s.heap.push (newSetObj w)).objs.size = s.heap.objs.size + 1 := Heap.size_push ..
        have hneI : l ≠ (s.heap.push (newSetObj w)).objs.size := by
          rw [Heap.size_push]
          exact Nat.ne_of_lt (Nat.lt_succ_of_lt hlS)
        have hSf : s.heap.objs.size ∉ [(s.heap.push (newSetObj w)).objs.size, l] := by
          rw [Heap.size_push]
          simp only [List.mem_cons, List.mem_singleton, List.not_mem_nil, or_false, not_or]
          exact ⟨Nat.ne_of_lt (Nat.lt_succ_self _), Nat.ne_of_gt hlS⟩
        have none_of : ∀ b, s.heap.objs.size ≤ b → s.heap.get? b = none := fun b hb => by
          cases q : s.heap.get? b with
          | none => rfl
          | some o => exact absurd (Nat.lt_of_lt_of_le (Heap.lt_size q) hb) (Nat.lt_irrefl _)
        refine fill_loop ((Walks.list hh3 _ l hneI items).toS) hSf T (fun i v hv => by rw [Array.getElem?_toList]; exact hv) (none_of _ (Nat.le_refl _)) (fun b hb => none_of b (by
            rw [List.mem_singleton.mp hb, Heap.size_push]
            exact Nat.le_succ _)) (by simp only [Around.in1_units]; omega) (items.size - 0) 0 _ (by omega) (Nat.zero_le _)
          ⟨⟨_, Heap.get?_push_size _ rfl, rfl, rfl⟩, (hl1.push _)⟩ (fun b o e => Heap.get?_push_of_some _ (Heap.get?_push_of_some _ e)) (T.start _ (Heap.get?_push_of_some _ hS)) ?hR
        intro s' hm g' hkp
        obtain ⟨h', g2, d', tk', os'⟩ := s'
        have eg : g2 = s.gens := hm.gens
        have ed : d' = s.drawn := hm.drawn
        have eo : os' = s.os := hm.os
        subst eg; subst ed; subst eo
        show wpAny _ _ _ _ _ _
        refine wpAny_pure ?_
        show wpAny _ _ (ret Value.none) _ _ _
        exact wpAny_pure ⟨rfl, h', tk', rfl, g', hkp⟩
      · cases r₂ with
        | error e => exact hr₂
        | ok fl₂ =>
          cases fl₂ with
          | ret r =>
            obtain ⟨rfl, h', tk, rfl, g', hk'⟩ := hr₂
            repeat (any_goals (first | assumption | wp_step))
            exact h _ _ g' hk'
          | _ => exact hr₂.elim
    | _ => exact hr.elim
theorem call_fill_tuple {l : Addr} {items : Array Value} {G : Nat → Heap → Prop} {Q : Value → Shared → Prop} (hh : A.handled = none) (hl : s.heap.IsTuple l items) (T : Fill P w s.heap.objs.size s.heap items.toList G) (hu : A.units + 16 < cLine)
    (h : ∀ (h' : Heap) (tk : Nat), G items.size h' → (∀ b o, s.heap.get? b = some o → h'.get? b = some o) → Q (.ref s.heap.objs.size) { s with heap := h', toks := tk }) :
    wpAny (model P w) A (call (.type "set") [.ref l]) Q E s := by
  obtain ⟨c, tl, hmro⟩ := F.called_set.mro
  have hmade := F.called_set.made
  have hsub := F.called_set.sub
  refine wpAny_call (codeAny_of_tree ?_)
  show wpAny _ _ (callAny (.type "set") _) _ _ _
  refine wpAny_pure ⟨Code.quiet_builtin _ (by decide +kernel), codeAny_builtin F.entry_type_call ?_⟩
  rw [Around.under_plain (weight_type_call_type "set" [.ref l] []) rfl]
  have f1 := F.called_set.notType
  have f2 := F.called_set.canCreate
  have f3 := F.typeCall_set_1 (.ref l)
  repeat (any_goals (first | assumption | wp_step))
  refine codeAny_mono (code_set_led1 (.ref l) (E := E) (Q₁ := fun obj s₁ => obj = .ref s.heap.objs.size ∧ s₁ = { s with heap := s.heap.push (newSetObj w) }) ⟨rfl, rfl⟩) fun r s₁ hr => ?_
  cases r with
  | error e => exact hr
  | ok fl =>
    cases fl with
    | ret obj =>
      obtain ⟨rfl, rfl⟩ := hr
      have hS : (s.heap.push (newSetObj w)).get? s.heap.objs.size = some (newSetObj w) := Heap.get?_push_size _ rfl
      have hT : Shared.TypeIs { s with heap := s.heap.push (newSetObj w) } (.ref s.heap.objs.size) "set" := ⟨_, hS, rfl⟩
      have f4 := F.called_set.init.lookup
      have f5 := F.called_set.init.bind (.ref s.heap.objs.size)
      repeat (any_goals (first | assumption | wp_step))
      refine codeAny_mono (codeAny_call_builtin (R := wants (fun r s₂ => r = .none ∧ ∃ h' tk, s₂ = { s with heap := h', toks := tk } ∧ G items.size h' ∧ (∀ b o, s.heap.get? b = some o → h'.get? b = some o)) E) F.called_set.init.plain F.entry_set_init (check_set_init_1 hT ?_)) fun r₂ s₂ hr₂ => ?_
      · obtain ⟨ol, hol, hcl, nl, hdl⟩ := hl
        obtain ⟨ocls, odict, odata, oslots⟩ := ol
        simp only at hcl hdl
        subst hcl; subst hdl
        have hol' : (s.heap.push (newSetObj w)).get? l = some { cls := .type "tuple", dict := odict, data := .seq items nl, slots := oslots } := Heap.get?_push_of_some _ hol
        have f6 := F.sub_tuple_set
        have f7 := F.sub_tuple_frozenset
        have f8 : (Value.type "tuple" == Value.type "dict") = false := by decide
        have hl1 : (s.heap.push (newSetObj w)).IsTuple l items := ⟨_, hol', rfl, nl, rfl⟩
        unfold Builtin.«set.__init__» noKeywords Builtin.Frozenset.updateFrom
        generalize hPI : pyIter = PI
        wp_walk
        subst hPI
        refine wpAny_pyIter_tuple hl1 ?_
        refine wpAny_bind (wpAny_runValue ?_)
        have hlS : l < s.heap.objs.size := Heap.lt_size hol
        have hh3 : A.in1.in1.in1.handled = none := by simp [hh]
        have hz1 : (s.heap.push (newSetObj w)).objs.size = s.heap.objs.size + 1 := Heap.size_push ..
        have hneI : l ≠ (s.heap.push (newSetObj w)).objs.size := by
          rw [Heap.size_push]
          exact Nat.ne_of_lt (Nat.lt_succ_of_lt hlS)
        have hSf : s.heap.objs.size ∉ [(s.heap.push (newSetObj w)).objs.size, l] := by
          rw [Heap.size_push]
          simp only [List.mem_cons, List.mem_singleton, List.not_mem_nil, or_false, not_or]
          exact ⟨Nat.ne_of_lt (Nat.lt_succ_self _), Nat.ne_of_gt hlS⟩
        have none_of : ∀ b, s.heap.objs.size ≤ b → s.heap.get? b = none := fun b hb => by
          cases q : s.heap.get? b with
          | none => rfl
          | some o => exact absurd (Nat.lt_of_lt_of_le (Heap.lt_size q) hb) (Nat.lt_irrefl _)
        refine fill_loop ((Walks.tuple hh3 _ l hneI items).toS) hSf T (fun i v hv => by rw [Array.getElem?_toList]; exact hv) (none_of _ (Nat.le_refl _)) (fun b hb => none_of b (by
            rw [List.mem_singleton.mp hb, Heap.size_push]
            exact Nat.le_succ _)) (by simp only [Around.in1_units]; omega) (items.size - 0) 0 _ (by omega) (Nat.zero_le _)
          ⟨⟨_, Heap.get?_push_size _ rfl, rfl, rfl⟩, (hl1.push _)⟩ (fun b o e => Heap.get?_push_of_some _ (Heap.get?_push_of_some _ e)) (T.start _ (Heap.get?_push_of_some _ hS)) ?hR
        intro s' hm g' hkp
        obtain ⟨h', g2, d', tk', os'⟩ := s'
        have eg : g2 = s.gens := hm.gens
        have ed : d' = s.drawn := hm.drawn
        have eo : os' = s.os := hm.os
        subst eg; subst ed; subst eo
        show wpAny _ _ _ _ _ _
        refine wpAny_pure ?_
        show wpAny _ _ (ret Value.none) _ _ _
        exact wpAny_pure ⟨rfl, h', tk', rfl, g', hkp⟩
      · cases r₂ with
        | error e => exact hr₂
        | ok fl₂ =>
          cases fl₂ with
          | ret r =>
            obtain ⟨rfl, h', tk, rfl, g', hk'⟩ := hr₂
            repeat (any_goals (first | assumption | wp_step))
            exact h _ _ g' hk'
          | _ => exact hr₂.elim
    | _ => exact hr.elim
end
end Rw
namespace Rw
open PySem PySem.Spec PyProof.Rows PySem.W PySem.SeqAt
/-! ### tuples, perhaps empty ones among them, sorted -/
section
variable {prog : Program} {w : World} {A : Around} {E : Value → Shared → Prop} {s : Shared}
/-- each value is a tuple, and these are their first items -/
inductive Firsts (h : Heap) : List Value → List (Option Value) → Prop
  | nil : Firsts h [] []
  | cons {a : Addr} {o : Obj} {xs : Array Value} {n : Nat} {vs : List Value} {fs : List (Option Value)} : h.get? a = some o → o.cls = .type "tuple" → o.data = .seq xs n → Firsts h vs fs → Firsts h (.ref a :: vs) (xs[0]? :: fs)
theorem Firsts.len {h : Heap} {vs : List Value} {fs : List (Option Value)} (x : Firsts h vs fs) : fs.length = vs.length := by
  induction x with
  | nil => rfl
  | cons _ _ _ _ ih => rw [List.length_cons, List.length_cons, ih]
theorem firsts_run {M : Model} : ∀ (vs : List Value) (fs : List (Option Value)) {Q : List (Option Value) → Shared → Prop}, Firsts s.heap vs fs → Q fs s → wpAny M A (vs.mapM firstOfTuple') Q E s
  | _, _, _, .nil, h => by
    rw [List.mapM_nil]
    exact wpAny_pure h
  | _, _, Q, .cons (a := a) (xs := xs) (vs := vs) (fs := fs) ho hc hd t, h => by
    rw [List.mapM_cons]
    refine wpAny_bind ?_
    rw [kas_first_eq]
    refine wpAny_bind (Looks.here (show Looks M s.heap (typeOf (.ref a)) _ from (Looks.ld ho).andThen .now) ?_)
    rw [hc, if_neg (by first | decide | simp)]
    refine wpAny_bind (listItems_at ho hd (wpAny_pure ?_))
    exact wpAny_bind (firsts_run vs fs (Q := fun bs s' => wpAny M A (pure (xs[0]? :: bs)) Q E s') t (wpAny_pure h))
theorem firsts_ty {M : Model} {h : Heap} {vs : List Value} {fs : List (Option Value)} (x : Firsts h vs fs) : ∀ v ∈ vs, Looks M h (typeOf v) (.type "tuple") := by
  induction x with
  | nil => exact fun v hv => nomatch hv
  | cons ho hc hd _ ih =>
    intro v hv
    rcases List.mem_cons.mp hv with rfl | hv
    · show Looks M h (typeOf (Value.ref _)) (Value.type "tuple")
      exact hc ▸ (Looks.ld ho).andThen .now
    · exact ih v hv
/-- an empty one among the others, not the first -/
theorem kind_general {M : Model} {vs : List Value} {fs : List (Option Value)} {f : Value} {Q : SortKind → Shared → Prop} (x : Firsts s.heap vs fs) (h0 : fs[0]? = some (some f)) (hn : none ∈ fs) (h : Q general' s) : wpAny M A (keyKind' vs.toArray) Q E s := by
  rw [kat_kind_eq, List.mapM_toArray, map_eq_pure_bind]
  refine wpAny_bind (wpAny_bind (firsts_run vs fs x (wpAny_pure ?_)))
  have c : ¬ ((fs.toArray.all fun x => x.isSome) = true) := by
    intro q
    rw [List.all_toArray, List.all_eq_true] at q
    exact absurd (q none hn) (by simp)
  rw [if_neg c]
  have c2 : ((fs.toArray[0]?.bind id).isSome) = true := by
    have e : fs.toArray[0]? = some (some f) := by simpa using h0
    rw [e]
    rfl
  rw [if_pos c2]
  exact wpAny_pure h
/-- the first is empty -/
theorem kind_one {M : Model} {vs : List Value} {fs : List (Option Value)} {Q : SortKind → Shared → Prop} (x : Firsts s.heap vs fs) (h0 : fs[0]? = some none) (h : Q oneType' s) : wpAny M A (keyKind' vs.toArray) Q E s := by
  rw [kat_kind_eq, List.mapM_toArray, map_eq_pure_bind]
  refine wpAny_bind (wpAny_bind (firsts_run vs fs x (wpAny_pure ?_)))
  have c : ¬ ((fs.toArray.all fun x => x.isSome) = true) := by
    intro q
    rw [List.all_toArray, List.all_eq_true] at q
    exact absurd (q none (List.mem_of_getElem? h0)) (by simp)
  rw [if_neg c]
  have e : fs.toArray[0]? = some none := by simpa using h0
  have c2 : ¬ ((fs.toArray[0]?.bind id).isSome) = true := by
    rw [e]
    simp
  rw [if_neg c2, oneTypeOnly'_eq, List.mapM_toArray, map_eq_pure_bind]
  refine wpAny_bind (wpAny_bind (wpAny_bind (kas_mapM (r := Value.type "tuple") _ (fun v hv Q' hq => (firsts_ty x v hv).here hq) (wpAny_pure ?_))))
  have all : ((List.map (fun _ => Value.type "tuple") vs).toArray.all fun x => x == Value.type "tuple") = true := by
    simp only [List.all_toArray, List.all_map, List.all_eq_true]
    intro _ _
    show (Value.type "tuple" == Value.type "tuple") = true
    decide
  obtain ⟨v, r, ev⟩ : ∃ v r, vs = v :: r := by
    cases x with
    | nil => simp at h0
    | cons _ _ _ _ => exact ⟨_, _, rfl⟩
  have z : (List.map (fun _ => Value.type "tuple") vs).toArray[0]? = some (Value.type "tuple") := by
    rw [ev]
    simp
  rw [z]
  simp only [all, if_true]
  exact wpAny_pure (wpAny_pure h)
/-- by the type's own < -/
theorem oneLt_tuples {xs ys : List PyData} {a b : Value} {as bs : List Addr} {Q : Bool → Shared → Prop} (ra : Reads s.heap a (.tuple xs) as) (rb : Reads s.heap b (.tuple ys) bs) (hal : alikeAll xs ys = true)
    (hu : A.units + min (PyData.tuple xs).depth (PyData.tuple ys).depth < cLine) (hq : Q (dataLt (.tuple xs) (.tuple ys)) s) : wpAny (model prog w) A (oneLt' true a b) Q E s := by
  cases ra with
  | @tuple l o vs n _ _ h1 h2 h3 h4 =>
    cases rb with
    | @tuple l' o' vs' n' _ _ k1 k2 k3 k4 =>
      have n1 : vs.size = xs.length := by simpa using SeqAt.ReadsAll.length _ _ _ h4
      have n2 : vs'.size = ys.length := by simpa using SeqAt.ReadsAll.length _ _ _ k4
      rw [dataLt_tuple, ← firstLt_toks xs ys hal, ← n1, ← n2] at hq
      rw [oneLt'_eq]
      simp only [if_true]
      refine wpAny_bind (wpAny_cRoomFor (SeqAt.room_here hu) ?_)
      obtain ⟨ocls, odict, odata, oslots⟩ := o
      obtain ⟨pcls, pdict, pdata, pslots⟩ := o'
      simp only at h2 h3 k2 k3
      subst h2 h3 k2 k3
      refine wpAny_bind (wpAny_callSpecialIfBound?_slot (T := "tuple") ⟨_, h1, rfl⟩ F.slot_tuple_lt (call_meets F.slot_tuple_lt ⟨_, h1, rfl⟩ F.entry_tuple_lt (F.args_tuple_lt_2 _ _)
        (SeqAt.tuple_ltAt l l' vs vs' n n' odict pdict oslots pslots (pairEq xs ys) (fun j => dataLt (xs.getD j .none) (ys.getD j .none))) ⟨h1, k1, fun j j1 j2 => ?_, fun j j1 j2 hj => ?_, ?_⟩))
      · have := eqAt_alikeAll xs ys A.in1 s vs.toList vs'.toList _ _ h4 k4 hal (SeqAt.room_in hu) j (by simpa using j1) (by simpa using j2)
        simpa using this
      · have := rcLt_alikeAll xs ys A.in1 s vs.toList vs'.toList _ _ h4 k4 hal (SeqAt.room_in hu) j (by simpa using j1) (by simpa using j2) hj
        simpa using this
      · exact wpAny_truthy_bool hq
theorem firsts_of {h : Heap} : ∀ {vs : List Value} {ds : List PyData}, EachIs (fun v d => ∃ as, Reads h v d as) vs ds → (∀ d ∈ ds, ∃ xs, d = .tuple xs) → ∃ fs, Firsts h vs fs ∧ ∀ i : Nat, fs[i]? = some none ↔ ds[i]? = some (.tuple [])
  | _, _, .nil, _ => ⟨[], .nil, fun i => by simp⟩
  | _, _, .cons (b := d) ⟨as, r⟩ t, ht => by
    obtain ⟨fs, h1, h2⟩ := firsts_of t fun d hd => ht d (List.mem_cons_of_mem _ hd)
    obtain ⟨xs, rfl⟩ := ht d List.mem_cons_self
    cases r with
    | @tuple a o vs n _ _ ho hc hd hr =>
      refine ⟨_, .cons ho hc hd h1, fun i => ?_⟩
      cases i with
      | succ i => simpa using h2 i
      | zero =>
        have hl := SeqAt.ReadsAll.length _ _ _ hr
        rw [Array.length_toList] at hl
        simp only [List.getElem?_cons_zero, Option.some.injEq]
        constructor
        · intro q
          have z : vs.size = 0 := by
            have := Array.getElem?_eq_none_iff.mp q
            omega
          rw [z] at hl
          rw [List.length_eq_zero_iff.mp hl.symm]
        · intro q
          injection q with q
          subst q
          rw [List.length_nil] at hl
          exact Array.getElem?_eq_none (by omega)
/-- tuples of alike data can be sorted, empty ones too -/
theorem SortsAt.tups {vs : List Value} {ds : List PyData} (e : EachIs (fun v d => ∃ as, Reads s.heap v d as) vs ds) (hal : AllAlike ds) (ht : ∀ d ∈ ds, ∃ xs, d = .tuple xs) (hu : ∀ d, d ∈ ds → A.units + d.depth < cLine) : SortsAt prog w A s (dataKind s.heap ds) vs := by
  by_cases full : ∀ d ∈ ds, ∃ x r, d = .tuple (x :: r)
  · exact SortsAt.data e hal (.inl full) hu
  have hollow : PyData.tuple [] ∈ ds := by
    refine Classical.byContradiction fun hn => full fun d hd => ?_
    obtain ⟨xs, rfl⟩ := ht d hd
    cases xs with
    | nil => exact absurd hd hn
    | cons x r => exact ⟨x, r, rfl⟩
  have room : ∀ {d d' : PyData}, d ∈ ds → A.units + min d.depth d'.depth < cLine := fun {d d'} hd => Nat.lt_of_le_of_lt (Nat.add_le_add_left (Nat.min_le_left _ _) _) (hu d hd)
  refine ⟨fun v hv => ?_, ?_⟩
  · obtain ⟨d, hd, as, r⟩ := e.left v hv
    exact ⟨_, dataKind_some hal hd r⟩
  obtain ⟨fs, f1, f2⟩ := firsts_of e ht
  obtain ⟨i0, hi0, ei0⟩ := List.getElem_of_mem hollow
  have hnone : none ∈ fs := List.mem_of_getElem? ((f2 i0).mpr (by rw [List.getElem?_eq_getElem hi0, ei0]))
  have side : ∀ {x y : Value} {a b : List (Int ⊕ List Nat)}, (dataKind s.heap ds).keyOf x = some a → (dataKind s.heap ds).keyOf y = some b →
      ∃ xs ys as bs, Reads s.heap x (.tuple xs) as ∧ Reads s.heap y (.tuple ys) bs ∧ alike (.tuple xs) (.tuple ys) = true ∧ a = keyToks (.tuple xs) ∧ b = keyToks (.tuple ys) ∧ A.units + min (PyData.tuple xs).depth (PyData.tuple ys).depth < cLine := by
    intro x y a b ha hb
    obtain ⟨d, as, hd, ra, rfl⟩ := dataKind_inv ha
    obtain ⟨d', bs, hd', rb, rfl⟩ := dataKind_inv hb
    obtain ⟨xs, rfl⟩ := ht d hd
    obtain ⟨ys, rfl⟩ := ht d' hd'
    exact ⟨xs, ys, as, bs, ra, rb, hal _ hd _ hd', rfl, rfl, room hd⟩
  cases hz : fs[0]? with
  | none =>
    have : fs = [] := by
      cases fs with
      | nil => rfl
      | cons f r => simp at hz
    rw [this] at hnone
    exact nomatch hnone
  | some f =>
    cases f with
    | some f =>
      refine ⟨general', fun E x y a b Q ha hb hq => ?_, fun _ E Q hq => kind_general f1 hz hnone hq⟩
      obtain ⟨xs, ys, as, bs, ra, rb, hh, rfl, rfl, hr⟩ := side ha hb
      show wpAny _ _ (oneLt' false x y) _ _ _
      exact oneLt_alike (fun z => absurd z Bool.false_ne_true) ra rb hh (fun z => nomatch z) hr hq
    | none =>
      refine ⟨oneType', fun E x y a b Q ha hb hq => ?_, fun _ E Q hq => kind_one f1 hz hq⟩
      obtain ⟨xs, ys, as, bs, ra, rb, hh, rfl, rfl, hr⟩ := side ha hb
      rw [keyLt'_oneType]
      exact oneLt_tuples ra rb (by simpa [alike] using hh) hr hq
end
end Rw
namespace Rw
open PySem PySem.Spec PyProof.Rows L2 PySem.Froz
/-! ### filling a set with tuples -/
structure GotN (ks : List (Addr × NK)) (i : Nat) (L : List (Addr × NK)) : Prop where
  sub : ∀ p ∈ L, p ∈ ks.take i
  all : ∀ p ∈ ks.take i, p.2 ∈ L.map (·.2)
  len : L.length ≤ i
theorem take_snoc {α : Type} {l : List α} {i : Nat} {x : α} (h : l[i]? = some x) : l.take (i + 1) = l.take i ++ [x] := by
  rw [List.take_succ, h]
  rfl
theorem GotN.next {ks L L' : List (Addr × NK)} {i : Nat} {x : Addr × NK} (g : GotN ks i L) (h : ks[i]? = some x) (c1 : x.2 ∈ L.map (·.2) → L' = L) (c2 : x.2 ∉ L.map (·.2) → L'.Perm (x :: L)) : GotN ks (i + 1) L' := by
  have ht := take_snoc h
  by_cases hm : x.2 ∈ L.map (·.2)
  · rw [c1 hm]
    refine ⟨fun p hp => ?_, fun p hp => ?_, Nat.le_succ_of_le g.len⟩
    · rw [ht]
      exact List.mem_append_left _ (g.sub p hp)
    · rw [ht] at hp
      rcases List.mem_append.mp hp with z | z
      · exact g.all p z
      · rw [List.mem_singleton.mp z]
        exact hm
  · have pm := c2 hm
    refine ⟨fun p hp => ?_, fun p hp => ?_, ?_⟩
    · rw [ht]
      rcases List.mem_cons.mp (pm.mem_iff.mp hp) with e | z
      · rw [e]
        exact List.mem_append_right _ (List.mem_singleton.mpr rfl)
      · exact List.mem_append_left _ (g.sub p z)
    · rw [(pm.map (·.2)).mem_iff, List.map_cons]
      rw [ht] at hp
      rcases List.mem_append.mp hp with z | z
      · exact List.mem_cons_of_mem _ (g.all p z)
      · rw [List.mem_singleton.mp z]
        exact List.mem_cons_self
    · rw [pm.length_eq, List.length_cons]
      exact Nat.succ_le_succ g.len
theorem led_new (w : World) : w.params.followText "set-order" = true ∨ (!w.params.followText "set-order") = true := by
  cases w.params.followText "set-order"
  · exact .inr rfl
  · exact .inl rfl
section
variable {P : Program} {w : World} {A : Around} {E : Value → Shared → Prop} {s : Shared}
theorem TSet.empty {h : Heap} {a : Addr} (ho : h.get? a = some (newSetObj w)) : TSet P w h a [] #[] 0 (.fresh 0 0 (!w.params.followText "set-order")) where
  ob := ⟨_, ho, ⟨rfl, rfl, rfl⟩, rfl⟩
  en := rfl
  tab := ⟨List.Pairwise.nil, rfl, rfl, .inl rfl, fun x hx => (by cases hx), fun i h j hi => (by simp [hashes] at hi)⟩
  nd := List.nodup_nil
  ks := fun p hp => (by cases hp)
  led := led_new w
  room := by
    show 0 * 5 < 7 * 3
    decide
  few := by
    show 0 < 64
    decide
theorem TSet.moved {h h' : Heap} {a : Addr} {L : List (Addr × NK)} {es : Array (Int × Value)} {ep : Nat} {t : SetTable} (R : TSet P w h a L es ep t) (ha : ∀ o, h.get? a = some o → h'.get? a = some o) (ht : ∀ p ∈ L, TupK h' p.2 p.1) : TSet P w h' a L es ep t := by
  obtain ⟨o, ho, r⟩ := R.ob
  exact ⟨⟨o, ha o ho, r⟩, R.en, R.tab, R.nd, ht, R.led, R.room, R.few⟩
theorem fill_tups (S : Addr) (h0 : Heap) (ks : List (Addr × NK)) (hk : ∀ p ∈ ks, TupK h0 p.2 p.1) (few : ks.length < 64) :
    Fill P w S h0 (ks.map fun p => Value.ref p.1) (fun i h => ∃ L es ep t, TSet P w h S L es ep t ∧ GotN ks i L) where
  start := fun h ho => ⟨[], #[], 0, _, TSet.empty ho, ⟨fun p hp => (by cases hp), fun p hp => (by simp at hp), Nat.le_refl _⟩⟩
  keep := fun i h h' ⟨L, es, ep, t, R, g⟩ ha hold => ⟨L, es, ep, t, R.moved ha fun p hp => (hk p (List.mem_of_mem_take (g.sub p hp))).kept hold, g⟩
  put := fun i v A E s Q hu hv ⟨L, es, ep, t, R, g⟩ hold hQ => by
    rw [List.getElem?_map] at hv
    cases hx : ks[i]? with
    | none => rw [hx] at hv; simp at hv
    | some x =>
      rw [hx] at hv
      obtain rfl : Value.ref x.1 = v := Option.some.inj hv
      have il : i < ks.length := (List.getElem?_eq_some_iff.mp hx).1
      have hxk := (hk x (List.mem_of_getElem? hx)).kept hold
      unfold setAdd
      refine wpAny_holding ?_
      refine wpAny_bind ((nestedKind P w).pyHash (k := x.2) (show A.units + 8 < cLine from hu) hxk ?_)
      refine added (s := { s with toks := s.toks + (nestedKind P w).draws x.2 }) R hxk hu (by have := g.len; omega) fun b h' L' es' ep' t' sb R' c1 c2 => ?_
      exact hQ b h' _ (Nat.le_add_right _ _) sb ⟨L', es', ep', t', R', g.next hx c1 c2⟩
/-! ### filling a set with texts -/
structure XSet (P : Program) (w : World) (h : Heap) (a : Addr) (ms : List Str) (es : Array (Int × Value)) (ep : Nat) (t : SetTable) : Prop where
  ob : h.get? a = some (sObj "set" (es, ep, t))
  ok : TxOk P w (es, ep, t) ms
  nd : ms.Nodup
  ris : Ris t.place.toList
  led : w.params.followText "set-order" = true ∨ t.led = true
theorem add_ris {g : Int} {v : Value} {D : SD} (h : Ris D.2.2.place.toList) : Ris (addTx g v D).2.2.place.toList ∧ (addTx g v D).2.2.led = D.2.2.led := by
  obtain ⟨es, ep, t⟩ := D
  have n1 := layNew_ris t es g v h
  have n2 := layNew_led t es g v
  unfold addTx tailTx
  dsimp only at n1 n2 ⊢
  generalize layNew t es g v = N at n1 n2 ⊢
  obtain ⟨es1, t1, wd, gv⟩ := N
  dsimp only at n1 n2 ⊢
  have m1 : Ris (if t1.plain = true then { t1 with plain := false } else t1).place.toList ∧ (if t1.plain = true then { t1 with plain := false } else t1).led = t.led := by
    split <;> exact ⟨n1, n2⟩
  generalize (if t1.plain = true then { t1 with plain := false } else t1) = t2 at m1 ⊢
  split
  · exact ⟨relayAll_ris t2 es1 _, (relayAll_led t2 es1 _).trans m1.2⟩
  · exact m1
theorem XSet.moved {h h' : Heap} {a : Addr} {ms : List Str} {es : Array (Int × Value)} {ep : Nat} {t : SetTable} (R : XSet P w h a ms es ep t) (ha : ∀ o, h.get? a = some o → h'.get? a = some o) : XSet P w h' a ms es ep t :=
  ⟨ha _ R.ob, R.ok, R.nd, R.ris, R.led⟩
/-- a text that is in the set is put in again -/
theorem again_in {a : Addr} {ms : List Str} {es : Array (Int × Value)} {ep : Nat} {t : SetTable} {k : Str} {u : Tok} {Q : Bool → Shared → Prop} (R : XSet P w s.heap a ms es ep t) (hk : k ∈ ms) (hb : ms.length < scanBound) (h : Q false s) :
    wpAny (model P w) A (setAddHashed a (.str k u) (hashStr w k)) Q E s := by
  have hel : ElemsOf (strKind P w) es.toList := R.ok.el
  have hsz : es.size = ms.length := R.ok.sz
  have hf : t.fits es.size = true := R.ok.fit
  have hd : (sObj "set" (es, ep, t)).data = .set es ep t := rfl
  have hkey : (strKind P w).is k (.str k u) = true := is_str k u
  obtain ⟨e, he, hp⟩ := (R.ok.mem k).mp hk
  unfold setAddHashed setAddHashedIn
  refine wpAny_holding (wpAny_bind (wpAny_setState_of R.ob hd hf ?_))
  dsimp only
  rw [byScan_of rfl (by omega) hel]
  simp only [↓reduceIte]
  unfold setAddByScan
  refine wpAny_bind (wpAny_bind (wpAny_rule (wpAny_bind (wpAny_setScan_of (knd := strKind P w) (k := k) hkey R.ob hd hf hel ?_))))
  cases hr : List.findIdx? (fun e => (strKind P w).is k e.2) es.toList with
  | none =>
    have z := List.findIdx?_eq_none_iff.mp hr e he
    rw [hp] at z
    exact nomatch z
  | some j =>
    dsimp only
    exact wpAny_pure (wpAny_pure h)
theorem put_text {a : Addr} {ms : List Str} {es : Array (Int × Value)} {ep : Nat} {t : SetTable} {k : Str} {u : Tok} {Q : Bool → Shared → Prop} (R : XSet P w s.heap a ms es ep t) (hb : ms.length + 1 < scanBound)
    (h : ∀ b h' ms' es' ep' t', Heap.SameBut a s.heap h' → XSet P w h' a ms' es' ep' t' → (∀ z, z ∈ ms' ↔ z = k ∨ z ∈ ms) → ms'.length ≤ ms.length + 1 → Q b { s with heap := h' }) :
    wpAny (model P w) A (setAddHashed a (.str k u) (hashStr w k)) Q E s := by
  by_cases hk : k ∈ ms
  · refine again_in R hk (by omega) (h false s.heap ms es ep t (Heap.SameBut.refl a s.heap) R (fun z => ⟨.inr, fun q => q.elim (fun e => e ▸ hk) id⟩) (Nat.le_succ _))
  · refine add_x R.ob R.ok hk hb ?_
    have sb : Heap.SameBut a s.heap (s.heap.update a (fun _ => sObj "set" (addTx (hashStr w k) (.str k u) (es, ep, t)))) := Heap.SameBut.update ..
    have ho : (s.heap.update a (fun _ => sObj "set" (addTx (hashStr w k) (.str k u) (es, ep, t)))).get? a = some (sObj "set" (addTx (hashStr w k) (.str k u) (es, ep, t))) := get_upd _ R.ob rfl
    have ok := add_ok u R.ok (k := k)
    have rl := add_ris (g := hashStr w k) (v := .str k u) (D := (es, ep, t)) R.ris
    generalize addTx (hashStr w k) (.str k u) (es, ep, t) = D at sb ho ok rl ⊢
    obtain ⟨es', ep', t'⟩ := D
    refine h true _ (k :: ms) es' ep' t' sb ⟨ho, ok, List.nodup_cons.mpr ⟨hk, R.nd⟩, rl.1, ?_⟩ (fun z => List.mem_cons) (Nat.le_refl _)
    have e : t'.led = t.led := rl.2
    rw [e]
    exact R.led
theorem fill_texts (S : Addr) (h0 : Heap) (zs : List Str) {vs : List Value} (hv : PySem.W.EachIs (fun v z => ∃ u, v = Value.str z u) vs zs) (few : zs.length + 1 < scanBound) :
    Fill P w S h0 vs (fun i h => ∃ ms es ep t, XSet P w h S ms es ep t ∧ (∀ z, z ∈ ms ↔ z ∈ zs.take i) ∧ ms.length ≤ i) where
  start := fun h ho => ⟨[], #[], 0, _, ⟨ho, TxOk.nil rfl, List.nodup_nil, List.Pairwise.nil, led_new w⟩, fun z => by simp, Nat.le_refl _⟩
  keep := fun i h h' ⟨ms, es, ep, t, R, g⟩ ha _ => ⟨ms, es, ep, t, R.moved ha, g⟩
  put := fun i v A E s Q hu hvi ⟨ms, es, ep, t, R, g, hl⟩ hold hQ => by
    have hlen := hv.length
    have il : i < vs.length := (List.getElem?_eq_some_iff.mp hvi).1
    have iz : i < zs.length := by omega
    have hz : zs[i]? = some zs[i] := List.getElem?_eq_getElem iz
    have pz : (v, zs[i]) ∈ vs.zip zs := List.mem_of_getElem? (i := i) (by rw [List.getElem?_zip_eq_some]; exact ⟨hvi, hz⟩)
    obtain ⟨u, rfl⟩ : ∃ u, v = Value.str zs[i] u := hv.zip _ pz
    unfold setAdd
    refine wpAny_holding ?_
    refine wpAny_bind ((strKind P w).pyHash (k := zs[i]) (is_str _ _) ?_)
    refine put_text (s := { s with toks := s.toks + 1 }) R (by omega) fun b h' ms' es' ep' t' sb R' hm hl' => ?_
    refine hQ b h' _ (Nat.le_succ _) sb ⟨ms', es', ep', t', R', fun z => ?_, by omega⟩
    rw [hm, take_snoc hz, List.mem_append, List.mem_singleton, g z]
    exact ⟨fun q => q.elim .inr .inl, fun q => q.elim .inr .inl⟩
/-! ### sorted of a set -/
theorem each_perm {α β : Type} {R : α → β → Prop} {l l' : List α} (p : l'.Perm l) : ∀ {bs : List β}, PySem.W.EachIs R l bs → ∃ bs', PySem.W.EachIs R l' bs' ∧ bs'.Perm bs := by
  induction p with
  | nil => exact fun {bs} e => ⟨bs, e, List.Perm.refl _⟩
  | cons x _ ih =>
    intro bs e
    cases e with
    | cons h t =>
      obtain ⟨bs', e', p'⟩ := ih t
      exact ⟨_ :: bs', .cons h e', p'.cons _⟩
  | swap x y l =>
    intro bs e
    cases e with
    | cons h t =>
      cases t with
      | cons h' t' => exact ⟨_, .cons h' (.cons h t'), List.Perm.swap _ _ _⟩
  | trans _ _ ih1 ih2 =>
    intro bs e
    obtain ⟨b1, e1, p1⟩ := ih2 e
    obtain ⟨b2, e2, p2⟩ := ih1 e1
    exact ⟨b2, e2, p2.trans p1⟩
open PySem.W in
theorem each_and {α β : Type} {R S : α → β → Prop} : ∀ {as : List α} {bs : List β}, EachIs R as bs → EachIs S as bs → EachIs (fun a b => R a b ∧ S a b) as bs
  | _, _, .nil, .nil => .nil
  | _, _, .cons h t, .cons h' t' => .cons ⟨h, h'⟩ (each_and t t')
open PySem.W in
/-- xs.sort(): the list's own object then holds the sorted values -/
theorem list_sorts {β : Type} {a : Addr} {n : Nat} {vs : List Value} {bs : List β} {enc : β → PyData} {R : Value → β → Prop} {Q : Value → Shared → Prop} (ho : s.heap.get? a = some (seqObj "list" vs.toArray n)) (e : EachIs R vs bs) (er : EachIs (fun v b => ∃ as, Reads s.heap v (enc b) as ∧ a ∉ as) vs bs) (hal : AllAlike (bs.map enc)) (hk : (∀ d ∈ bs.map enc, ∃ xs, d = .tuple xs) ∨ Sortable (bs.map enc)) (hL : bs.length ≤ sizeLine)
    (hu : ∀ b, b ∈ bs → A.units + 1 + (enc b).depth < cLine) (h : ∀ out, out.length = bs.length → EachIs R out (bs.mergeSort (dataLe false enc)) → Q .none { s with heap := sortedHeap s.heap a vs (List.toArray out) }) :
    wpAny (model P w) A (call (.builtin "list.sort") [.ref a]) Q E s := by
  have er' : EachIs (fun v b => ∃ as, Reads (sortingHeap s.heap a vs) v (enc b) as) vs bs := each_keepBut (h' := sortingHeap s.heap a vs) (fun _ _ hb q => sortingHeap_old hb q) (fun o q => by rw [ho] at q; rw [← Option.some.inj q]) hal er
  have em := each_map (R := fun v d => ∃ as, Reads (sortingHeap s.heap a vs) v d as) enc er'
  have can : SortsAt P w A.in1 { s with heap := sortingHeap s.heap a vs } (dataKind (sortingHeap s.heap a vs) (bs.map enc)) vs := by
    rcases hk with ht | hs
    · exact SortsAt.tups (s := { s with heap := sortingHeap s.heap a vs }) em hal ht (bound_map hu)
    · exact SortsAt.data (s := { s with heap := sortingHeap s.heap a vs }) em hal hs (bound_map hu)
  refine wpAny_call_entry slot_list_sort ⟨_, ho, rfl⟩ entry_list_sort (list_sort_vals (κ := dataKind (sortingHeap s.heap a vs) (bs.map enc)) ho can (by rw [e.length]; exact hL) ⟨.none, rfl, ?_⟩) (args_list_sort _)
  exact h _ (by rw [sortVals_length false rfl]; exact e.length) (sortVals_data false e er' hal)
open PySem.W in
theorem sort_facts {β : Type} (enc : β → PyData) (bs : List β) : (bs.mergeSort (dataLe false enc)).Perm bs ∧ (bs.mergeSort (dataLe false enc)).Pairwise (fun a b => dataLe false enc a b = true) :=
  ⟨List.mergeSort_perm _ _, sort_pairwise (sortLe_total (listOrd itemOrd) false fun b => keyToks (enc b)) bs⟩
open PySem.W in
theorem sorted_coll {β : Type} {a : Addr} {es : Array (Int × Value)} {ep : Nat} {t : SetTable} {bs : List β} {enc : β → PyData} {R : Value → β → Prop} {Q : Value → Shared → Prop} (hh : A.handled = none) (ha : SetAt s.heap a es ep t) (hf : t.fits es.size = true) (hsz : es.size < scanBound) (r : Ris t.place.toList)
    (hl : w.params.followText "set-order" = true ∨ t.led = true) (e : EachIs R (es.toList.map (·.2)) bs) (er : EachIs (fun v b => ∃ as, Reads s.heap v (enc b) as ∧ ∀ c ∈ as, c < s.heap.objs.size) (es.toList.map (·.2)) bs)
    (hal : AllAlike (bs.map enc)) (hk : (∀ d ∈ bs.map enc, ∃ xs, d = .tuple xs) ∨ Sortable (bs.map enc)) (hu : ∀ b, b ∈ bs → A.units + 3 + (enc b).depth < cLine)
    (hQ : ∀ s' p (out : Array Value) (c : Nat) (bs' : List β), (∀ b o, s.heap.get? b = some o → s'.heap.get? b = some o) → s'.gens = s.gens → s'.os = s.os → s.heap.objs.size ≤ p → s'.heap.get? p = some (seqObj "list" out c) →
      EachIs R out.toList bs' → bs'.Perm bs → bs'.Pairwise (fun a b => dataLe false enc a b = true) → Q (.ref p) s') :
    wpAny (model P w) A (call (.builtin "sorted") [.ref a]) Q E s := by
  refine Calls.call_function_entry kind_sorted plain_sorted entry_sorted (args_sorted1 _) ?_
  unfold Builtin.«sorted»
  refine wpAny_bind (m := checkCount "sorted" 1 1 _) (wpAny_pure ?_)
  refine wpAny_bind (collect_set (A := A.in1) hh ha hf hsz r hl fun s1 vs k1 hz g1 o1 pm => ?_)
  obtain ⟨bs1, e1, p1⟩ := each_perm pm (each_and e er)
  have lb : bs.length = es.size := by rw [← e.length, List.length_map, Array.length_toList]
  have lv : vs.length = bs1.length := e1.length
  have l1 : bs1.length = bs.length := p1.length_eq
  have sl : scanBound = 4096 := rfl
  refine wpAny_bind (wpAny_newList ?_ (by rw [sizeLine_eq]; omega))
  have hoL : (s1.heap.push (seqObj "list" vs.toArray 0)).get? s1.heap.objs.size = some (seqObj "list" vs.toArray 0) := Heap.get?_push_size _ rfl
  have mem1 : ∀ d, d ∈ bs1.map enc ↔ d ∈ bs.map enc := fun d => (p1.map enc).mem_iff
  refine wpAny_bind (wpAny_holding (list_sorts (s := { s1 with heap := s1.heap.push (seqObj "list" vs.toArray 0) }) (enc := enc) (R := R) hoL (e1.mono fun _ _ z => z.1)
    (e1.mono fun v b z => ?_) (fun d hd d' hd' => hal d ((mem1 d).mp hd) d' ((mem1 d').mp hd')) ?_ (by rw [sizeLine_eq]; omega) (fun b hb => ?_) fun out ho eo => ?_))
  · obtain ⟨_, as, rd, lo⟩ := z
    refine ⟨as, PyProof.Rows.Reads.keeps (fun c o q => Heap.get?_push_of_some _ (k1 c o q)) rd, fun hm => ?_⟩
    exact absurd (Nat.lt_of_lt_of_le (lo _ hm) hz) (Nat.lt_irrefl _)
  · rcases hk with ht | hs
    · exact .inl fun d hd => ht d ((mem1 d).mp hd)
    · rcases hs with h1 | h2
      · exact .inr (.inl fun d hd => h1 d ((mem1 d).mp hd))
      · exact .inr (.inr fun d hd => h2 d ((mem1 d).mp hd))
  · have := hu b (p1.mem_iff.mp hb)
    simp only [Around.in1_units]
    omega
  · obtain ⟨c, hc⟩ := sortedHeap_at (vs := vs) (out := out.toArray) hoL
    have sf := sort_facts enc bs1
    refine wpAny_pure ⟨_, rfl, hQ _ s1.heap.objs.size out.toArray c (bs1.mergeSort (dataLe false enc)) (fun b u q => ?_) g1 o1 hz hc (by simpa using eo) (sf.1.trans p1) sf.2⟩
    have q1 := k1 b u q
    have hlt := Heap.lt_size q1
    show (sortedHeap (s1.heap.push (seqObj "list" vs.toArray 0)) s1.heap.objs.size vs out.toArray).get? b = some u
    rw [sortedHeap_old (Nat.ne_of_lt hlt) (by rw [size_push']; exact Nat.lt_succ_of_lt hlt)]
    exact Heap.get?_push_of_some _ q1
end
end Rw
namespace Rw
open PySem PySem.Spec PyProof.Rows L2 PySem.Froz
/-! ### data made of texts, whole numbers, None and tuples -/
mutual
def okD : PyData → Bool
  | .none => true
  | .int _ => true
  | .str _ => true
  | .tuple xs => okDs xs
  | .bool _ => false
  | .list _ => false
  | .dict _ => false
def okDs : List PyData → Bool
  | [] => true
  | x :: xs => okD x && okDs xs
end
mutual
def toK : PyData → NK
  | .none => .none
  | .int i => .num i
  | .str x => .text x
  | .tuple xs => .tup (toKs xs)
  | .bool _ => .none
  | .list _ => .none
  | .dict _ => .none
def toKs : List PyData → List NK
  | [] => []
  | x :: xs => toK x :: toKs xs
end
theorem okDs_cons {x : PyData} {xs : List PyData} (h : okDs (x :: xs) = true) : okD x = true ∧ okDs xs = true := by
  rw [okDs, Bool.and_eq_true] at h
  exact h
mutual
theorem toK_data : ∀ d : PyData, okD d = true → (toK d).data = d
  | .none, _ => by simp [toK, NestedKey.data]
  | .int _, _ => by simp [toK, NestedKey.data]
  | .str _, _ => by simp [toK, NestedKey.data]
  | .tuple xs, h => by
    rw [okD] at h
    rw [toK, NestedKey.data, toKs_data xs h]
  | .bool _, h => by simp [okD] at h
  | .list _, h => by simp [okD] at h
  | .dict _, h => by simp [okD] at h
theorem toKs_data : ∀ ds : List PyData, okDs ds = true → NestedKey.datas (toKs ds) = ds
  | [], _ => by simp [toKs, NestedKey.datas]
  | x :: xs, h => by
    obtain ⟨h1, h2⟩ := okDs_cons h
    rw [toKs, NestedKey.datas, toK_data x h1, toKs_data xs h2]
end
theorem toK_inj {d e : PyData} (hd : okD d = true) (he : okD e = true) (h : toK d = toK e) : d = e := by
  rw [← toK_data d hd, ← toK_data e he, h]
mutual
theorem toK_depth : ∀ d : PyData, (toK d).depth ≤ d.depth
  | .none => by simp [toK, NestedKey.depth]
  | .int _ => by simp [toK, NestedKey.depth]
  | .str _ => by simp [toK, NestedKey.depth]
  | .tuple xs => by
    have z := toKs_depth xs
    rw [toK, NestedKey.depth, PyData.depth]
    omega
  | .bool _ => by simp [toK, NestedKey.depth]
  | .list _ => by simp [toK, NestedKey.depth]
  | .dict _ => by simp [toK, NestedKey.depth]
theorem toKs_depth : ∀ ds : List PyData, NestedKey.depthAll (toKs ds) ≤ PyData.depthAll ds
  | [] => by simp [toKs, NestedKey.depthAll]
  | x :: xs => by
    have z1 := toK_depth x
    have z2 := toKs_depth xs
    rw [toKs, NestedKey.depthAll, PyData.depthAll]
    omega
end
mutual
theorem isK_of : ∀ (d : PyData) (h : Heap) (v : Value) (as : List Addr), okD d = true → Reads h v d as → NestedIs h (toK d) v ∧ as = []
  | .none, _, _, _, _, r => by
    cases r
    exact ⟨.none, rfl⟩
  | .int _, _, _, _, _, r => by
    cases r
    exact ⟨.int _ _, rfl⟩
  | .str _, _, _, _, _, r => by
    cases r
    exact ⟨.text _ _, rfl⟩
  | .tuple xs, h, _, _, ok, r => by
    rw [okD] at ok
    cases r with
    | tuple h1 h2 h3 h4 =>
      obtain ⟨k, e⟩ := isKs_of xs h _ _ ok h4
      exact ⟨.tup h1 h2 h3 k, e⟩
  | .bool _, _, _, _, ok, _ => by simp [okD] at ok
  | .list _, _, _, _, ok, _ => by simp [okD] at ok
  | .dict _, _, _, _, ok, _ => by simp [okD] at ok
theorem isKs_of : ∀ (ds : List PyData) (h : Heap) (vs : List Value) (as : List Addr), okDs ds = true → ReadsAll h vs ds as → NestedAll h (toKs ds) vs ∧ as = []
  | [], _, _, _, _, r => by
    cases r
    exact ⟨.nil, rfl⟩
  | x :: xs, h, _, _, ok, r => by
    obtain ⟨o1, o2⟩ := okDs_cons ok
    cases r with
    | cons r1 r2 =>
      obtain ⟨k1, e1⟩ := isK_of x h _ _ o1 r1
      obtain ⟨k2, e2⟩ := isKs_of xs h _ _ o2 r2
      exact ⟨.cons k1 k2, by rw [e1, e2]; rfl⟩
end
/-- a tuple of such, not too deep -/
structure Good (d : PyData) : Prop where
  ok : okD d = true
  dp : d.depth ≤ 8
  tu : ∃ xs, d = .tuple xs
/-! ### what stays while tuples stay -/
def Stay (H H' : Hp) : Prop := ∀ b xs, Rd H b (.tup xs) → Rd H' b (.tup xs)
theorem Stay.refl (H : Hp) : Stay H H := fun _ _ h => h
theorem Stay.trans {H H1 H2 : Hp} (a : Stay H H1) (b : Stay H1 H2) : Stay H H2 := fun c xs h => b c xs (a c xs h)
theorem Stay.same {H H' : Hp} (h : Same H H') : Stay H H' := fun b xs r => by
  rcases r with r | ⟨o, r⟩
  · exact .inl (h _ _ r)
  · exact .inr ⟨o, h _ _ r⟩
theorem same_new {H : Hp} {p : Addr} (h : H p = none) (o : HO) : Same H (upd H p o) := fun b u q => by
  rw [upd_ne (ne_of_none q h)]
  exact q
theorem Stay.new {H : Hp} {p : Addr} (h : H p = none) (o : HO) : Stay H (upd H p o) := .same (same_new h o)
theorem Stay.put {H : Hp} {p : Addr} (h : Mut (H p)) (o : HO) : Stay H (upd H p o) := fun b xs r => by
  have ne : b ≠ p := fun z => by
    subst z
    rcases r with r | ⟨u, r⟩
    · rw [r] at h; exact h
    · rw [r] at h; exact h
  unfold Rd
  rw [upd_ne ne]
  exact r
theorem Stay.seq {K : PySem.W.Frag} {H H' : Hp} {a : Addr} {xs : List V} (e : Stay H H') (h : SqT K H a xs) : SqT K H' a xs := by
  rcases h with h | h
  · exact .inl (e _ _ h)
  · exact .inr h
theorem same_tup {K : PySem.W.Frag} {H H' : Hp} {a : Addr} {xs : List V} (e : Same H H') (h : SqT K H a xs) : SqT K H' a xs := (Stay.same e).seq h
section
variable {K : PySem.W.Frag} {H H' : Hp}
mutual
theorem Stay.dp (e : Stay H H') : ∀ (d : PyData) (x : V), okD d = true → Dp K H x d → Dp K H' x d
  | .none, _, _, h => by cases h; exact .non
  | .int _, _, _, h => by cases h; exact .int _
  | .str _, _, _, h => by cases h; exact .str _
  | .tuple ds, _, ok, h => by
    rw [okD] at ok
    cases h with
    | tup h1 h2 => exact .tup (e.seq h1) (Stay.dpAll e ds _ ok h2)
  | .bool _, _, ok, _ => by simp [okD] at ok
  | .list _, _, ok, _ => by simp [okD] at ok
  | .dict _, _, ok, _ => by simp [okD] at ok
theorem Stay.dpAll (e : Stay H H') : ∀ (ds : List PyData) (xs : List V), okDs ds = true → DpAll K H xs ds → DpAll K H' xs ds
  | [], _, _, h => by cases h; exact .nil
  | d :: ds, _, ok, h => by
    obtain ⟨o1, o2⟩ := okDs_cons ok
    cases h with
    | cons h1 h2 => exact .cons (Stay.dp e d _ o1 h1) (Stay.dpAll e ds _ o2 h2)
end
theorem okDs_all {ds : List PyData} (h : ∀ d ∈ ds, okD d = true) : okDs ds = true := by
  induction ds with
  | nil => rfl
  | cons d ds ih =>
    rw [okDs, h d List.mem_cons_self, ih fun e he => h e (List.mem_cons_of_mem _ he)]
    rfl
theorem dpAll_len : ∀ {xs : List V} {ds : List PyData}, DpAll K H xs ds → xs.length = ds.length
  | _, _, .nil => rfl
  | _, _, .cons _ t => by rw [List.length_cons, List.length_cons, dpAll_len t]
theorem dpAll_at : ∀ {xs : List V} {ds : List PyData} {i : Nat} {d : PyData}, DpAll K H xs ds → ds[i]? = some d → ∃ x, xs[i]? = some x ∧ Dp K H x d
  | _, _, _, _, .nil, e => by simp at e
  | _, _, 0, _, .cons h _, e => by
    simp at e
    subst e
    exact ⟨_, rfl, h⟩
  | _, _, i + 1, _, .cons _ t, e => by
    obtain ⟨x, h1, h2⟩ := dpAll_at (i := i) t (by simpa using e)
    exact ⟨x, by simpa using h1, h2⟩
theorem dpAll_at' : ∀ {xs : List V} {ds : List PyData} {i : Nat} {x : V}, DpAll K H xs ds → xs[i]? = some x → ∃ d, ds[i]? = some d ∧ Dp K H x d
  | _, _, _, _, .nil, e => by simp at e
  | _, _, 0, _, .cons h _, e => by
    simp at e
    subst e
    exact ⟨_, rfl, h⟩
  | _, _, i + 1, _, .cons _ t, e => by
    obtain ⟨x, h1, h2⟩ := dpAll_at' (i := i) t (by simpa using e)
    exact ⟨x, by simpa using h1, h2⟩
theorem dpAll_app : ∀ {xs ys : List V} {ds es : List PyData}, DpAll K H xs ds → DpAll K H ys es → DpAll K H (xs ++ ys) (ds ++ es)
  | _, _, _, _, .nil, h => h
  | _, _, _, _, .cons a t, h => .cons a (dpAll_app t h)
theorem Good.ref {x : V} {d : PyData} (g : Good d) (h : Dp K H x d) : ∃ a, x = .ref a := by
  obtain ⟨xs, rfl⟩ := g.tu
  cases h with
  | tup _ _ => exact ⟨_, rfl⟩
end
/-! ### the rules over the abstract heap -/
def tk (L : List (Addr × PyData)) : List (Addr × NK) := L.map fun p => (p.1, toK p.2)
/-- the set of tuples at a, without the tuples -/
def TSetO (w : World) (a : Addr) (L : List (Addr × PyData)) : HO := .ext fun h => ∃ (es : Array (Int × Value)) (ep : Nat) (t : SetTable), (∃ o, h.get? a = some o ∧ o.ExactSet ∧ o.data = .set es ep t) ∧ es.toList = ents w (tk L) ∧ TabOk t (hashes w (tk L)) ∧ ((tk L).map (·.2)).Nodup ∧
  (w.params.followText "set-order" = true ∨ t.led = true) ∧ (tk L).length * 5 < t.mask * 3 ∧ (tk L).length < 64
def XSetO (P : Program) (w : World) (a : Addr) (ms : List Str) : HO := .ext fun h => ∃ (es : Array (Int × Value)) (ep : Nat) (t : SetTable), XSet P w h a ms es ep t
section
variable {X : Cx} {pins : List (Addr × Obj)} {σ : L2.St} {H : Hp} {s : Shared}
theorem key_at (I : Inv X pins σ H s) {a : Addr} {d : PyData} (h : Dp X.K H (.ref a) d) (g : Good d) : TupK s.heap (toK d) a := by
  obtain ⟨as, r⟩ := Dp.reads I d (.ref a) (.ref a) h rfl
  exact ⟨(isK_of d s.heap _ as g.ok r).1, Nat.le_trans (toK_depth d) g.dp⟩
theorem refs_of (g : ∀ d ∈ ds, Good d) {K : PySem.W.Frag} {H : Hp} : ∀ {xs : List V}, DpAll K H xs ds → ∃ L : List (Addr × PyData), xs = L.map (fun p => V.ref p.1) ∧ ds = L.map (·.2) ∧ ∀ p ∈ L, Dp K H (.ref p.1) p.2 := by
  induction ds with
  | nil =>
    intro xs h
    cases h
    exact ⟨[], rfl, rfl, fun p hp => nomatch hp⟩
  | cons d ds ih =>
    intro xs h
    cases h with
    | cons h1 h2 =>
      obtain ⟨L, e1, e2, e3⟩ := ih (fun e he => g e (List.mem_cons_of_mem _ he)) h2
      obtain ⟨a, rfl⟩ := (g d List.mem_cons_self).ref h1
      refine ⟨(a, d) :: L, by rw [e1]; rfl, by rw [e2]; rfl, fun p hp => ?_⟩
      rcases List.mem_cons.mp hp with e | hp
      · rw [e]
        exact h1
      · exact e3 p hp
theorem vals_refs : ∀ {L : List (Addr × PyData)} {us : List Value}, Vals (L.map fun p => V.ref p.1) us → us = (tk L).map fun p => Value.ref p.1
  | [], _, .nil => rfl
  | p :: L, _, .cons r t => by
    cases r
    rw [vals_refs t]
    rfl
/-- set(xs), xs a list or a tuple of tuples -/
def rSetT (K : PySem.W.Frag) (w : World) : List V → Hp → VK → Prop := fun vs H Q => ∃ (l : Addr) (xs : List V) (ds : List PyData), vs = [V.ref l] ∧ (SqL K H l xs ∨ SqT K H l xs) ∧ DpAll K H xs ds ∧ (∀ d ∈ ds, Good d) ∧ ds.length < 64 ∧
  ∀ a L, H a = none → (∀ p ∈ L, p.2 ∈ ds ∧ Dp K H (.ref p.1) p.2) → (∀ d ∈ ds, d ∈ L.map (·.2)) → Q (.ref a) (upd H a (TSetO w a L))
theorem cr_setT (hc : X.calm = true) (hu : X.A.units + 64 < cLine) : CallR X (.type "set") (rSetT X.K X.w) := by
  intro pins s σ H vs us Q I r h
  obtain ⟨l, xs, ds, rfl, hl, hd, hg, hf, q⟩ := h
  obtain ⟨L0, rfl, rfl, hL0⟩ := refs_of hg hd
  rw [Vals.ref1 r]
  have hn : H s.heap.objs.size = none := I.hok.fresh (Nat.le_refl _)
  have hk0 : ∀ p ∈ tk L0, TupK s.heap p.2 p.1 := fun p hp => by
    obtain ⟨z, hz, rfl⟩ := List.mem_map.mp hp
    exact key_at I (hL0 z hz) (hg z.2 (List.mem_map.mpr ⟨z, hz, rfl⟩))
  have few : (tk L0).length < 64 := by
    unfold tk
    rw [List.length_map]
    rw [List.length_map] at hf
    exact hf
  have T := fill_tups (P := X.prog) (w := X.w) s.heap.objs.size s.heap (tk L0) hk0 few
  have fin : ∀ (n : Nat), n = (tk L0).length → ∀ (h' : Heap) (tk' : Nat), (∃ L es ep t, TSet X.prog X.w h' s.heap.objs.size L es ep t ∧ GotN (tk L0) n L) → (∀ b o, s.heap.get? b = some o → h'.get? b = some o) → EP X pins σ Q (.ref s.heap.objs.size) { s with heap := h', toks := tk' } := by
    intro n en h' tk' ⟨L, es, ep, t, R, g⟩ k
    subst en
    have back : ∀ M : List (Addr × NK), (∀ p ∈ M, p ∈ tk L0) → ∃ M0 : List (Addr × PyData), M = tk M0 ∧ ∀ p ∈ M0, p ∈ L0 := by
      intro M
      induction M with
      | nil => exact fun _ => ⟨[], rfl, fun p hp => nomatch hp⟩
      | cons m M ih =>
        intro hm
        obtain ⟨M0, e, h0⟩ := ih fun p hp => hm p (List.mem_cons_of_mem _ hp)
        obtain ⟨z, hz, ez⟩ := List.mem_map.mp (hm m List.mem_cons_self)
        refine ⟨z :: M0, by rw [e, ← ez]; rfl, fun p hp => ?_⟩
        rcases List.mem_cons.mp hp with e' | hp
        · rw [e']
          exact hz
        · exact h0 p hp
    obtain ⟨M, rfl, hM⟩ := back L fun p hp => List.mem_of_mem_take (g.sub p hp)
    have new : ObjOk X.prog X.w (upd H s.heap.objs.size (TSetO X.w s.heap.objs.size M)) h' s.heap.objs.size (TSetO X.w s.heap.objs.size M) := by
      obtain ⟨o, ho, ho2⟩ := R.ob
      refine ⟨⟨es, ep, t, ⟨o, ho, ho2⟩, R.en, R.tab, R.nd, R.led, R.room, R.few⟩, ⟨o, ho⟩, fun h1 h2 ⟨es', ep', t', ⟨o', e1, e2⟩, z⟩ kk => ⟨es', ep', t', ⟨o', kk o' e1, e2⟩, z⟩⟩
    refine ⟨.ref s.heap.objs.size, upd H s.heap.objs.size (TSetO X.w s.heap.objs.size M), I.laid (t' := tk') k (Nat.le_refl _) new, rfl, q _ M hn (fun p hp => ⟨List.mem_map.mpr ⟨p, hM p hp, rfl⟩, hL0 p (hM p hp)⟩) fun d hd => ?_⟩
    obtain ⟨z, hz, rfl⟩ := List.mem_map.mp hd
    have := g.all (z.1, toK z.2) (by rw [List.take_length]; exact List.mem_map.mpr ⟨z, hz, rfl⟩)
    obtain ⟨y, hy, ey⟩ := List.mem_map.mp this
    obtain ⟨y0, hy0, e0⟩ := List.mem_map.mp hy
    have e3 : toK y0.2 = toK z.2 := by
      have e := ey
      rw [← e0] at e
      exact e
    have e4 : y0.2 = z.2 := toK_inj (hg _ (List.mem_map.mpr ⟨y0, hM y0 hy0, rfl⟩)).ok (hg _ (List.mem_map.mpr ⟨z, hz, rfl⟩)).ok e3
    exact List.mem_map.mpr ⟨y0, hy0, e4⟩
  have vlen : ∀ {its : List Value}, its = (tk L0).map (fun p => Value.ref p.1) → its.toArray.size = (tk L0).length := fun e => by
    rw [e, List.size_toArray, List.length_map]
  rcases hl with hl | hl
  · obtain ⟨its, rv, pl, hz⟩ := I.list hl
    have ev := vals_refs rv
    exact call_fill_list (I.ok.hd hc) pl.isList (by rw [show its.toArray.toList = its by simp, ev]; exact T) (by omega) fun h' tk' G k => fin _ (vlen ev) h' tk' G k
  · obtain ⟨its, rv, pl, hz⟩ := I.tuple hl
    have ev := vals_refs rv
    obtain ⟨o, e1, e2, n, e3⟩ := pl
    exact call_fill_tuple (I.ok.hd hc) ⟨o, e1, e2, n, e3⟩ (by rw [show its.toArray.toList = its by simp, ev]; exact T) (by omega) fun h' tk' G k => fin _ (vlen ev) h' tk' G k
theorem tset_get (I : Inv X pins σ H s) {a : Addr} {L : List (Addr × PyData)} (ha : H a = some (TSetO X.w a L)) (hL : ∀ p ∈ L, Good p.2 ∧ Dp X.K H (.ref p.1) p.2) : ∃ es ep t, TSet X.prog X.w s.heap a (tk L) es ep t := by
  obtain ⟨es, ep, t, h1, h2, h3, h4, h5, h6, h7⟩ := (I.hok a _ ha).1
  refine ⟨es, ep, t, h1, h2, h3, h4, fun p hp => ?_, h5, h6, h7⟩
  obtain ⟨z, hz, rfl⟩ := List.mem_map.mp hp
  exact key_at I (hL z hz).2 (hL z hz).1
open PySem.W in
/-- values that stand for data, as values of the layer -/
theorem each_vals {K : PySem.W.Frag} {H : Hp} : ∀ {us : List Value} {ds : List PyData}, EachIs (fun u d => ∃ x, RelV x u ∧ Dp K H x d) us ds → ∃ ys, Vals ys us ∧ DpAll K H ys ds
  | _, _, .nil => ⟨[], .nil, .nil⟩
  | _, _, .cons ⟨x, r, h⟩ t => by
    obtain ⟨ys, v, h'⟩ := each_vals t
    exact ⟨x :: ys, .cons r v, .cons h h'⟩
open PySem.W in
theorem each_map' {α γ δ : Type} {R : γ → δ → Prop} (f : α → γ) (g : α → δ) : ∀ {l : List α}, (∀ a ∈ l, R (f a) (g a)) → EachIs R (l.map f) (l.map g)
  | [], _ => .nil
  | a :: l, h => .cons (h a List.mem_cons_self) (each_map' f g fun b hb => h b (List.mem_cons_of_mem _ hb))
/-- in rising order, as Python's < says -/
abbrev Rising (ds : List PyData) : Prop := ds.Pairwise fun a b => PySem.W.dataLe false id a b = true
/-- sorted(a set of tuples) -/
def rSortT (K : PySem.W.Frag) (w : World) : List V → Hp → VK → Prop := fun vs H Q => ∃ (a : Addr) (L : List (Addr × PyData)), vs = [V.ref a] ∧ H a = some (TSetO w a L) ∧ (∀ p ∈ L, Good p.2 ∧ Dp K H (.ref p.1) p.2) ∧ PySem.W.AllAlike (L.map (·.2)) ∧
  ∀ (ys : List V) (ds : List PyData) (p : Addr), ds.Perm (L.map (·.2)) → ds.Nodup → ds.length < 64 → Rising ds → DpAll K H ys ds → H p = none → Q (.ref p) (upd H p (.lst ys))
theorem cr_sortT (hc : X.calm = true) (hu : X.A.units + 64 < cLine) : CallR X (.builtin "sorted") (rSortT X.K X.w) := by
  intro pins s σ H vs us Q I r h
  obtain ⟨a, L, rfl, ha, hL, hal, q⟩ := h
  obtain ⟨es, ep, t, R⟩ := tset_get I ha hL
  rw [Vals.ref1 r]
  obtain ⟨o, ho, hex, hd⟩ := R.ob
  have hvals : es.toList.map (·.2) = L.map fun p => Value.ref p.1 := by
    rw [R.en]
    unfold ents tk
    rw [List.map_map, List.map_map]
    rfl
  have few : L.length < 64 := by
    have := R.few
    unfold tk at this
    rw [List.length_map] at this
    exact this
  have e1 : PySem.W.EachIs (fun u d => ∃ x, RelV x u ∧ Dp X.K H x d) (es.toList.map (·.2)) (L.map (·.2)) := by
    rw [hvals]
    exact each_map' _ _ fun p hp => ⟨.ref p.1, rfl, (hL p hp).2⟩
  have e2 : PySem.W.EachIs (fun v d => ∃ as, Reads s.heap v (id d) as ∧ ∀ c ∈ as, c < s.heap.objs.size) (es.toList.map (·.2)) (L.map (·.2)) := by
    rw [hvals]
    refine each_map' _ _ fun p hp => ?_
    obtain ⟨as, rd⟩ := Dp.reads I p.2 (.ref p.1) (.ref p.1) (hL p hp).2 rfl
    refine ⟨as, rd, ?_⟩
    rw [(isK_of p.2 s.heap _ as (hL p hp).1.ok rd).2]
    exact fun c hc => nomatch hc
  have hm : ∀ d ∈ (L.map (·.2)).map id, Good d := fun d hd => by
    rw [List.map_id] at hd
    obtain ⟨p, hp, rfl⟩ := List.mem_map.mp hd
    exact (hL p hp).1
  refine sorted_coll (enc := id) (I.ok.hd hc) ⟨o, ho, hex.1, hd⟩ R.fits (by have := size_of_ents R.en; unfold tk at this; rw [List.length_map] at this; unfold scanBound; omega) R.tab.ris R.led e1 e2 (by rw [List.map_id]; exact hal) (.inl fun d hd => (hm d hd).tu) (fun d hd => ?_) fun s' p out c ds k g os hp hg ho' pm sr => ?_
  · have z := (hm d (by rw [List.map_id]; exact hd)).dp
    show X.A.units + 3 + d.depth < cLine
    omega
  · obtain ⟨ys, hv, hd'⟩ := each_vals ho'
    have hn : H p = none := I.hok.fresh hp
    have hl : ds.length = L.length := by rw [pm.length_eq, List.length_map]
    have hlen : ys.length ≤ sizeLine := by
      rw [dpAll_len hd', sizeLine_eq]
      omega
    have nd : ds.Nodup := by
      refine pm.nodup_iff.mpr ?_
      have z := R.nd
      unfold tk at z
      rw [List.map_map] at z
      have z' : (L.map fun p => toK p.2).Nodup := z
      have y : ((L.map (·.2)).map toK).Nodup := by
        rw [List.map_map]
        exact z'
      exact nodup_of_map y
    have J : Inv X pins σ (upd H p (.lst ys)) { s with heap := s'.heap, gens := s'.gens, drawn := s'.drawn, toks := s'.toks } :=
      I.call (ch := []) (Un.laid k hp hn) (I.hok.laid k hp ⟨hlen, out.toList, c, hv, hg⟩) (by rw [g]; exact I.bare) (fun _ z => nomatch z)
    have e : s' = { s with heap := s'.heap, gens := s'.gens, drawn := s'.drawn, toks := s'.toks } := by
      cases s'
      cases s
      cases os
      rfl
    rw [e]
    exact ⟨.ref p, _, J, rfl, q ys ds p pm nd (by omega) sr hd' hn⟩
/-- set(xs), xs a list or a tuple of texts -/
def rSetX (K : PySem.W.Frag) (P : Program) (w : World) : List V → Hp → VK → Prop := fun vs H Q => ∃ (l : Addr) (zs : List Str), vs = [V.ref l] ∧ (SqL K H l (zs.map V.str) ∨ SqT K H l (zs.map V.str)) ∧ zs.length < 1000 ∧
  ∀ a ms, H a = none → ms.Nodup → (∀ z, z ∈ ms ↔ z ∈ zs) → ms.length ≤ zs.length → Q (.ref a) (upd H a (XSetO P w a ms))
theorem vals_texts : ∀ {zs : List Str} {us : List Value}, Vals (zs.map V.str) us → PySem.W.EachIs (fun v z => ∃ u, v = Value.str z u) us zs
  | [], _, .nil => .nil
  | _ :: _, _, .cons r t => .cons r (vals_texts t)
theorem texts_vals {zs : List Str} {us : List Value} (h : PySem.W.EachIs (fun v z => ∃ u, v = Value.str z u) us zs) : Vals (zs.map V.str) us := by
  induction h with
  | nil => exact .nil
  | cons h _ ih => exact .cons h ih
theorem cr_setX (hc : X.calm = true) (hu : X.A.units + 64 < cLine) : CallR X (.type "set") (rSetX X.K X.prog X.w) := by
  intro pins s σ H vs us Q I r h
  obtain ⟨l, zs, rfl, hl, few, q⟩ := h
  rw [Vals.ref1 r]
  have hn : H s.heap.objs.size = none := I.hok.fresh (Nat.le_refl _)
  have fin : ∀ (n : Nat), n = zs.length → ∀ (h' : Heap) (tk' : Nat), (∃ ms es ep t, XSet X.prog X.w h' s.heap.objs.size ms es ep t ∧ (∀ z, z ∈ ms ↔ z ∈ zs.take n) ∧ ms.length ≤ n) → (∀ b o, s.heap.get? b = some o → h'.get? b = some o) → EP X pins σ Q (.ref s.heap.objs.size) { s with heap := h', toks := tk' } := by
    intro n en h' tk' ⟨ms, es, ep, t, R, g, hl⟩ k
    subst en
    have new : ObjOk X.prog X.w (upd H s.heap.objs.size (XSetO X.prog X.w s.heap.objs.size ms)) h' s.heap.objs.size (XSetO X.prog X.w s.heap.objs.size ms) :=
      ⟨⟨es, ep, t, R⟩, ⟨_, R.ob⟩, fun h1 h2 ⟨es', ep', t', R'⟩ kk => ⟨es', ep', t', R'.moved kk⟩⟩
    exact ⟨.ref s.heap.objs.size, _, I.laid (t' := tk') k (Nat.le_refl _) new, rfl, q _ ms hn R.nd (fun z => by rw [g z, List.take_length]) hl⟩
  have sb : scanBound = 4096 := rfl
  rcases hl with hl | hl
  · obtain ⟨its, rv, pl, hz⟩ := I.list hl
    have ev := vals_texts rv
    have T := fill_texts (P := X.prog) (w := X.w) s.heap.objs.size s.heap zs ev (by omega)
    exact call_fill_list (I.ok.hd hc) pl.isList (by rw [show its.toArray.toList = its by simp]; exact T) (by omega) fun h' tk' G k => fin its.toArray.size (by rw [List.size_toArray]; exact ev.length) h' tk' G k
  · obtain ⟨its, rv, pl, hz⟩ := I.tuple hl
    have ev := vals_texts rv
    have T := fill_texts (P := X.prog) (w := X.w) s.heap.objs.size s.heap zs ev (by omega)
    obtain ⟨o, e1, e2, n, e3⟩ := pl
    exact call_fill_tuple (I.ok.hd hc) ⟨o, e1, e2, n, e3⟩ (by rw [show its.toArray.toList = its by simp]; exact T) (by omega) fun h' tk' G k => fin its.toArray.size (by rw [List.size_toArray]; exact ev.length) h' tk' G k
abbrev RisingX (zs : List Str) : Prop := zs.Pairwise fun a b => decide (a.cps.toList ≤ b.cps.toList) = true
open PySem.W in
theorem each_iff {es : List (Int × Value)} : ∀ {ms : List Str}, (∀ e ∈ es, ∃ k u, e.2 = Value.str k u) → ∃ zs, EachIs (fun v z => ∃ u, v = Value.str z u) (es.map (·.2)) zs := by
  induction es with
  | nil => exact fun _ => ⟨[], .nil⟩
  | cons e es ih =>
    intro ms h
    obtain ⟨k, u, ek⟩ := h e List.mem_cons_self
    obtain ⟨zs, hz⟩ := ih (ms := ms) fun e' he => h e' (List.mem_cons_of_mem _ he)
    exact ⟨k :: zs, .cons ⟨u, ek⟩ hz⟩
/-- sorted(a set of texts) -/
def rSortX (P : Program) (w : World) : List V → Hp → VK → Prop := fun vs H Q => ∃ (a : Addr) (ms : List Str), vs = [V.ref a] ∧ H a = some (XSetO P w a ms) ∧ ms.length < 1000 ∧
  ∀ (zs : List Str) (p : Addr), (∀ z, z ∈ zs ↔ z ∈ ms) → zs.Nodup → zs.length ≤ ms.length → RisingX zs → H p = none → Q (.ref p) (upd H p (.lst (zs.map V.str)))
theorem nodup_len_le : ∀ {l m : List Str}, l.Nodup → (∀ z ∈ l, z ∈ m) → l.length ≤ m.length
  | [], _, _, _ => Nat.zero_le _
  | x :: l, m, hn, hs => by
    obtain ⟨h1, h2⟩ := List.nodup_cons.mp hn
    have hx : x ∈ m := hs x List.mem_cons_self
    have ih := nodup_len_le (l := l) (m := m.erase x) h2 fun y hy => (List.mem_erase_of_ne (show y ≠ x from fun e => h1 (by rw [← e]; exact hy))).2 (hs y (List.mem_cons_of_mem _ hy))
    rw [List.length_erase_of_mem hx] at ih
    have := List.length_pos_of_mem hx
    rw [List.length_cons]
    omega
theorem nodup_of_len : ∀ {l m : List Str}, m.Nodup → (∀ z ∈ m, z ∈ l) → l.length ≤ m.length → l.Nodup
  | [], _, _, _, _ => List.nodup_nil
  | x :: l, m, hm, hs, hl => by
    have hxl : x ∉ l := fun hx => by
      have z := nodup_len_le (l := m) (m := l) hm fun z hz => (List.mem_cons.mp (hs z hz)).elim (fun e => by rw [e]; exact hx) id
      rw [List.length_cons] at hl
      omega
    refine List.nodup_cons.mpr ⟨hxl, nodup_of_len (m := m.erase x) (hm.erase x) (fun z hz => ?_) ?_⟩
    · have hz' := List.mem_of_mem_erase hz
      rcases List.mem_cons.mp (hs z hz') with e | h
      · rw [e] at hz
        exact absurd hz (List.Nodup.not_mem_erase hm)
      · exact h
    · by_cases hx : x ∈ m
      · rw [List.length_erase_of_mem hx]
        rw [List.length_cons] at hl
        omega
      · rw [List.erase_of_not_mem hx]
        rw [List.length_cons] at hl
        omega
theorem cr_sortX (hc : X.calm = true) (hu : X.A.units + 64 < cLine) : CallR X (.builtin "sorted") (rSortX X.prog X.w) := by
  intro pins s σ H vs us Q I r h
  obtain ⟨a, ms, rfl, ha, hlt, q⟩ := h
  obtain ⟨es, ep, t, R⟩ := (I.hok a _ ha).1
  rw [Vals.ref1 r]
  have hel := R.ok.el
  have hsz : es.size = ms.length := R.ok.sz
  obtain ⟨zs, hz⟩ := each_iff (es := es.toList) (ms := ms) fun e he => by
    obtain ⟨⟨k, hk, _⟩, _⟩ := hel e he
    obtain ⟨u, hu⟩ := Value.isStrOf_shape (x := k) (v := e.2) hk
    exact ⟨k, u, hu⟩
  have e1 : PySem.W.EachIs (fun u z => RelV (.str z) u) (es.toList.map (·.2)) zs := hz
  have e2 : PySem.W.EachIs (fun v z => ∃ as, Reads s.heap v (PyData.str z) as ∧ ∀ c ∈ as, c < s.heap.objs.size) (es.toList.map (·.2)) zs := hz.mono fun v z ⟨u, e⟩ => ⟨[], by rw [e]; exact .str z u, fun c hc => nomatch hc⟩
  have mem : ∀ z, z ∈ zs ↔ z ∈ ms := fun z => by
    rw [R.ok.mem z]
    constructor
    · intro hm
      obtain ⟨i, hi, ei⟩ := List.getElem_of_mem hm
      have hi2 : i < (es.toList.map (·.2)).length := by rw [hz.length]; exact hi
      have pz : ((es.toList.map (·.2))[i], zs[i]) ∈ (es.toList.map (·.2)).zip zs := List.mem_of_getElem? (i := i) (by rw [List.getElem?_zip_eq_some]; exact ⟨List.getElem?_eq_getElem hi2, List.getElem?_eq_getElem hi⟩)
      obtain ⟨u, hu⟩ := hz.zip _ pz
      have hin := List.getElem_mem hi2
      rw [show (es.toList.map (·.2))[i] = Value.str zs[i] u from hu, ei] at hin
      obtain ⟨e, he, ee⟩ := List.mem_map.mp hin
      exact ⟨e, he, by rw [ee]; exact is_str z u⟩
    · rintro ⟨e, he, hk⟩
      obtain ⟨z', hz', u, hu⟩ := hz.left e.2 (List.mem_map.mpr ⟨e, he, rfl⟩)
      rw [hu] at hk
      have : z = z' := (strKind X.prog X.w).inj (.str z' u) z z' hk (is_str z' u)
      rw [this]
      exact hz'
  have zl : zs.length = ms.length := by rw [← hz.length, List.length_map, Array.length_toList, hsz]
  refine sorted_coll (enc := fun z : Str => PyData.str z) (I.ok.hd hc) ⟨_, R.ob, rfl, rfl⟩ R.ok.fit (by show es.size < scanBound; unfold scanBound; omega) R.ris R.led e1 e2 (PySem.W.AllAlike.of fun b b' => by simp [PySem.W.alike]) (.inr (PySem.W.Sortable.others fun b => ⟨(fun z => nomatch z), (fun xs z => nomatch z)⟩)) (fun d hd => ?_) fun s' p out c zs' k g os hp hg ho' pm sr => ?_
  · show X.A.units + 3 + (PyData.str d).depth < cLine
    simp only [PyData.depth]
    omega
  · have hn : H p = none := I.hok.fresh hp
    have hv : Vals (zs'.map V.str) out.toList := texts_vals ho'
    have hl : zs'.length = ms.length := by rw [pm.length_eq, zl]
    have hlen : (zs'.map V.str).length ≤ sizeLine := by
      rw [List.length_map, sizeLine_eq]
      omega
    have J : Inv X pins σ (upd H p (.lst (zs'.map V.str))) { s with heap := s'.heap, gens := s'.gens, drawn := s'.drawn, toks := s'.toks } :=
      I.call (ch := []) (Un.laid k hp hn) (I.hok.laid k hp ⟨hlen, out.toList, c, hv, hg⟩) (by rw [g]; exact I.bare) (fun _ z => nomatch z)
    have e : s' = { s with heap := s'.heap, gens := s'.gens, drawn := s'.drawn, toks := s'.toks } := by
      cases s'
      cases s
      cases os
      rfl
    rw [e]
    rw [PySem.W.dataLe_str fun z : Str => z] at sr
    have mem' : ∀ z, z ∈ zs' ↔ z ∈ ms := fun z => by rw [pm.mem_iff]; exact mem z
    exact ⟨.ref p, _, J, rfl, q zs' p mem' (nodup_of_len R.nd (fun z hz => (mem' z).mpr hz) (Nat.le_of_eq hl)) (Nat.le_of_eq hl) sr hn⟩
/-- sorted(a list of tuples) -/
def rSortL (K : PySem.W.Frag) : List V → Hp → VK → Prop := fun vs H Q => ∃ (a : Addr) (xs : List V) (ds : List PyData), vs = [V.ref a] ∧ SqL K H a xs ∧ DpAll K H xs ds ∧ (∀ d ∈ ds, Good d) ∧ PySem.W.AllAlike ds ∧
  ∀ (ys : List V) (es : List PyData) (p : Addr), es.Perm ds → Rising es → DpAll K H ys es → H p = none → Q (.ref p) (upd H p (.lst ys))
theorem cr_sortL (hu : X.A.units + 64 < cLine) : CallR X (.builtin "sorted") (rSortL X.K) := by
  intro pins s σ H vs us Q I r h
  obtain ⟨a, xs, ds, rfl, ha, hd, hg, hal, q⟩ := h
  rw [Vals.ref1 r]
  obtain ⟨its, rv, pl, hz⟩ := I.list ha
  have both : ∀ {xs : List V} {ds : List PyData} {its : List Value}, Vals xs its → DpAll X.K H xs ds → (∀ d ∈ ds, Good d) → PySem.W.EachIs (fun u d => (∃ x, RelV x u ∧ Dp X.K H x d) ∧ ∃ as, Reads s.heap u (id d) as) its ds := by
    intro xs ds its rv
    induction rv generalizing ds with
    | nil =>
      intro hd _
      cases hd
      exact .nil
    | cons r _ ih =>
      intro hd hg
      cases hd with
      | cons h1 h2 => exact .cons ⟨⟨_, r, h1⟩, Dp.reads I _ _ _ h1 r⟩ (ih h2 fun d hd => hg d (List.mem_cons_of_mem _ hd))
  have e0 := both rv hd hg
  have il : its.length = ds.length := e0.length
  have sl := sizeLine_eq
  have xl := rv.length
  have er' : PySem.W.EachIs (fun v d => ∃ as, Reads (PySem.W.sortingHeap (PySem.W.copyHeap s.heap its) (s.heap.objs.size + 1) its) v (id d) as) its ds := e0.mono fun _ _ z => by
    obtain ⟨_, as, rd⟩ := z
    exact ⟨as, PyProof.Rows.Reads.keeps (fun _ _ => PySem.W.sorting_copy_old) rd⟩
  have can : PySem.W.SortsAt X.prog X.w X.A.in1.in1 { s with heap := PySem.W.sortingHeap (PySem.W.copyHeap s.heap its) (s.heap.objs.size + 1) its } (PySem.W.dataKind (PySem.W.sortingHeap (PySem.W.copyHeap s.heap its) (s.heap.objs.size + 1) its) ds) its :=
    SortsAt.tups (s := { s with heap := PySem.W.sortingHeap (PySem.W.copyHeap s.heap its) (s.heap.objs.size + 1) its }) er' hal (fun d hd => (hg d hd).tu) fun d hd => by
      have z := (hg d hd).dp
      simp only [Around.in1_units]
      omega
  refine PySem.W.sorted_vals pl.isList can (by omega) ?_
  have eo : PySem.W.EachIs (fun u d => ∃ x, RelV x u ∧ Dp X.K H x d) (PySem.W.sortVals (PySem.W.dataKind (PySem.W.sortingHeap (PySem.W.copyHeap s.heap its) (s.heap.objs.size + 1) its) ds) false its its) (ds.mergeSort (PySem.W.dataLe false id)) := by
    have z := PySem.W.sortVals_data (h' := PySem.W.sortingHeap (PySem.W.copyHeap s.heap its) (s.heap.objs.size + 1) its) (enc := id) false (e0.mono fun _ _ z => z.1) er' (by rw [List.map_id]; exact hal)
    rw [List.map_id] at z
    exact z
  obtain ⟨ys, hv, hd'⟩ := each_vals eo
  have sf := sort_facts id ds
  generalize hout : PySem.W.sortVals (PySem.W.dataKind (PySem.W.sortingHeap (PySem.W.copyHeap s.heap its) (s.heap.objs.size + 1) its) ds) false its its = out at eo hv
  have hn : H (s.heap.objs.size + 1) = none := I.hok.fresh (Nat.le_succ _)
  obtain ⟨c, hcc⟩ := sortedAll_at s.heap its out.toArray
  have hlen : ys.length ≤ sizeLine := by
    rw [dpAll_len hd', sf.1.length_eq]
    omega
  exact ⟨.ref (s.heap.objs.size + 1), upd H (s.heap.objs.size + 1) (.lst ys), I.laid (t' := s.toks) (fun b o e => sortedAll_old e) (Nat.le_succ _) ⟨hlen, out, c, hv, hcc⟩, rfl, q ys _ _ sf.1 sf.2 hd' hn⟩
end
end Rw
namespace Rw
open PySem PySem.Spec PyProof.Rows L2
/-! ### dicts whose keys are tuples of texts and of such tuples -/
abbrev Ent := PyData × Addr × V
def RelE (p : Ent) (q : NK × Addr × Value) : Prop := toK p.1 = q.1 ∧ p.2.1 = q.2.1 ∧ RelV p.2.2 q.2.2
def NDO (P : Program) (w : World) (d : Addr) (kvs : List Ent) : HO := .ext fun h => kvs.length ≤ 100000 ∧ (d == sysModules) = false ∧ ∃ xs : List (NK × Addr × Value), Paired RelE kvs xs ∧
  ∃ o es ep, h.get? d = some o ∧ o.ExactDict ∧ o.data = .dict es ep ∧ es.toList = xs.map (entryOfKey (nestedKind P w)) ∧ (xs.map (·.1)).Nodup
/-- the entries' keys stand -/
abbrev KeysOk (K : PySem.W.Frag) (H : Hp) (kvs : List Ent) : Prop := ∀ p ∈ kvs, Good p.1 ∧ Dp K H (.ref p.2.1) p.1
theorem KeysOk.stay {K : PySem.W.Frag} {H H' : Hp} {kvs : List Ent} (h : KeysOk K H kvs) (e : Stay H H') : KeysOk K H' kvs := fun p hp => ⟨(h p hp).1, e.dp _ _ (h p hp).1.ok (h p hp).2⟩
theorem paired_mem {α β : Type} {F : α → β → Prop} : ∀ {l : List α} {m : List β}, Paired F l m → ∀ y ∈ m, ∃ x ∈ l, F x y
  | _, _, .nil, y, h => nomatch h
  | _, _, .cons r t, y, h => by
    rcases List.mem_cons.mp h with e | h
    · subst e
      exact ⟨_, List.mem_cons_self, r⟩
    · obtain ⟨x, hx, hr⟩ := paired_mem t y h
      exact ⟨x, List.mem_cons_of_mem _ hx, hr⟩
theorem paired_snoc {α β : Type} {F : α → β → Prop} {x : α} {y : β} (r : F x y) : ∀ {l : List α} {m : List β}, Paired F l m → Paired F (l ++ [x]) (m ++ [y])
  | _, _, .nil => .cons r .nil
  | _, _, .cons q t => .cons q (paired_snoc r t)
/-- what a look-up finds -/
theorem nd_look {kvs : List Ent} {xs : List (NK × Addr × Value)} (p : Paired RelE kvs xs) (hk : ∀ p ∈ kvs, Good p.1) {k : PyData} (g : Good k) :
    (∀ q, atKey xs (toK k) = some q → ∃ z ∈ kvs, z.1 = k ∧ RelV z.2.2 q.2) ∧ (atKey xs (toK k) = none → ∀ z ∈ kvs, z.1 ≠ k) := by
  induction p with
  | nil => exact ⟨fun q h => by simp [atKey] at h, fun _ z hz => nomatch hz⟩
  | @cons a b as bs r t ih =>
    obtain ⟨r1, r2, r3⟩ := r
    obtain ⟨i1, i2⟩ := ih fun p hp => hk p (List.mem_cons_of_mem _ hp)
    by_cases e : b.1 = toK k
    · have ek : a.1 = k := toK_inj (hk a List.mem_cons_self).ok g.ok (r1.trans e)
      have ea : atKey (b :: bs) (toK k) = some b.2 := by simp [atKey, e]
      refine ⟨fun q h => ?_, fun h => ?_⟩
      · rw [ea] at h
        cases h
        exact ⟨a, List.mem_cons_self, ek, r3⟩
      · rw [ea] at h
        cases h
    · have ea : atKey (b :: bs) (toK k) = atKey bs (toK k) := by simp [atKey, e]
      have ne : a.1 ≠ k := fun z => e (by rw [← r1, z])
      refine ⟨fun q h => ?_, fun h z hz => ?_⟩
      · rw [ea] at h
        obtain ⟨z, hz, h1⟩ := i1 q h
        exact ⟨z, List.mem_cons_of_mem _ hz, h1⟩
      · rw [ea] at h
        rcases List.mem_cons.mp hz with e' | hz
        · rw [e']
          exact ne
        · exact i2 h z hz
section
variable {X : Cx} {pins : List (Addr × Obj)} {σ : L2.St} {H : Hp} {s : Shared} {d : Addr} {kvs : List Ent} {E : Value → Shared → Prop}
theorem nd_get (I : Inv X pins σ H s) (hd : H d = some (NDO X.prog X.w d kvs)) (hk : KeysOk X.K H kvs) : kvs.length ≤ 100000 ∧ (d == sysModules) = false ∧ ∃ xs, Paired RelE kvs xs ∧ s.heap.DictOfH (nestedKind X.prog X.w) d xs := by
  obtain ⟨hz, hs, xs, p, o, es, ep, h1, h2, h3, h4, h5⟩ := (I.hok d _ hd).1
  refine ⟨hz, hs, xs, p, o, es, ep, h1, h2, h3, h4, fun x hx => ?_, h5⟩
  obtain ⟨q, hq, r1, r2, _⟩ := paired_mem p x hx
  have := key_at I (hk q hq).2 (hk q hq).1
  rw [r1, r2] at this
  exact this
theorem nd_new {kvs : List Ent} {xs : List (NK × Addr × Value)} {h' : Heap} {H' : Hp} (hz : kvs.length ≤ 100000) (hs : (d == sysModules) = false) (p : Paired RelE kvs xs) (m : h'.DictOfH (nestedKind X.prog X.w) d xs) : ObjOk X.prog X.w H' h' d (NDO X.prog X.w d kvs) := by
  obtain ⟨o, es, ep, h1, h2, h3, h4, _, h5⟩ := m
  refine ⟨⟨hz, hs, xs, p, o, es, ep, h1, h2, h3, h4, h5⟩, ⟨o, h1⟩, fun a b ⟨z1, z2, xs', p', o', es', ep', k1, k2⟩ kk => ⟨z1, z2, xs', p', o', es', ep', kk o' k1, k2⟩⟩
/-- k in d, k not in d -/
def rInN (K : PySem.W.Frag) (P : Program) (w : World) (neg : Bool) : R2 := fun x y H Q => ∃ (a d : Addr) (kvs : List Ent) (k : PyData), x = .ref a ∧ y = .ref d ∧ H d = some (NDO P w d kvs) ∧ KeysOk K H kvs ∧ Good k ∧ Dp K H (.ref a) k ∧
  ∀ b : Bool, (b = true ↔ k ∈ kvs.map (·.1)) → Q (.bl (if neg then !b else b)) H
theorem nd_isSome {xs : List (NK × Addr × Value)} (p : Paired RelE kvs xs) (hk : ∀ p ∈ kvs, Good p.1) {k : PyData} (g : Good k) : (atKey xs (toK k)).isSome = true ↔ k ∈ kvs.map (·.1) := by
  obtain ⟨l1, l2⟩ := nd_look p hk g
  cases e : atKey xs (toK k) with
  | none => exact ⟨(fun h => nomatch h), fun h => by
      obtain ⟨z, hz, ez⟩ := List.mem_map.mp h
      exact absurd ez (l2 e z hz)⟩
  | some q => exact ⟨fun _ => by
      obtain ⟨z, hz, h1, _⟩ := l1 q e
      exact List.mem_map.mpr ⟨z, hz, h1⟩, fun _ => rfl⟩
theorem op_inN (hu : X.A.units + 64 < cLine) : OpR X (compareOp .In) (rInN X.K X.prog X.w false) := by
  intro pins s σ H x y v u Q I rx ry h
  obtain ⟨a, d, kvs, k, rfl, rfl, hd, hk, g, da, q⟩ := h
  cases rx
  cases ry
  obtain ⟨hz, hs, xs, p, m⟩ := nd_get I hd hk
  refine wpAny_in_heap (knd := nestedKind X.prog X.w) (by show X.A.units + 1 + 8 < cLine; omega) (key_at I da g) hs m ?_
  exact ⟨.bl _, H, I.tok _, rfl, q _ (nd_isSome p (fun z hz => (hk z hz).1) g)⟩
theorem op_notInN (hu : X.A.units + 64 < cLine) : OpR X (compareOp .NotIn) (rInN X.K X.prog X.w true) := by
  intro pins s σ H x y v u Q I rx ry h
  obtain ⟨a, d, kvs, k, rfl, rfl, hd, hk, g, da, q⟩ := h
  cases rx
  cases ry
  obtain ⟨hz, hs, xs, p, m⟩ := nd_get I hd hk
  refine wpAny_notIn_heap (knd := nestedKind X.prog X.w) (by show X.A.units + 1 + 8 < cLine; omega) (key_at I da g) hs m ?_
  exact ⟨.bl _, H, I.tok _, rfl, q _ (nd_isSome p (fun z hz => (hk z hz).1) g)⟩
/-- d[k], k is there -/
def rGetN (K : PySem.W.Frag) (P : Program) (w : World) : R2 := fun x y H Q => ∃ (a d : Addr) (kvs : List Ent) (k : PyData), x = .ref d ∧ y = .ref a ∧ H d = some (NDO P w d kvs) ∧ KeysOk K H kvs ∧ Good k ∧ Dp K H (.ref a) k ∧ k ∈ kvs.map (·.1) ∧
  ∀ z ∈ kvs, z.1 = k → Q z.2.2 H
theorem pe_getN {o i : Expr} {td ty : TE} {pos : Pos} (hu : X.A.units + 64 < cLine) (hr : PE X o td) (hi : PE X i ty) (hs : NoSl i) : PE X (.Subscript o i pos) (tOp (rGetN X.K X.prog X.w) td ty) := by
  refine ⟨fun pins s σ H Q I h => ?_⟩
  refine subD_of PySem.F.slot_dict_getitem.lookup hs (thn (hr.run pins s σ H _ I h) fun v s1 ⟨x, H1, I1, r1, q1⟩ => thn (hi.run pins s1 σ H1 _ I1 q1) fun u s2 ⟨y, H2, I2, r2, a, d, kvs, k, ex, ey, hd, hk, g, da, hm, q⟩ => ?_)
  subst ex ey
  cases r1
  cases r2
  obtain ⟨hz, hs', xs, p, m⟩ := nd_get I2 hd hk
  obtain ⟨l1, l2⟩ := nd_look p (fun z hz => (hk z hz).1) g
  refine ⟨m.typeIs, ?_⟩
  cases e : atKey xs (toK k) with
  | none =>
    obtain ⟨z, hz, ez⟩ := List.mem_map.mp hm
    exact absurd ez (l2 e z hz)
  | some pv =>
    obtain ⟨z, hz, ez, rz⟩ := l1 pv e
    exact wpAny_getItem_heap (knd := nestedKind X.prog X.w) (by show X.A.units + 1 + 8 < cLine; omega) (key_at I2 da g) m e ⟨z.2.2, H2, I2.tok _, rz, q z hz ez⟩
/-- {} -/
theorem pe_dnewN {pos : Pos} : PE X (.Dict [] [] pos) (fun _ H Q => ∀ p, H p = none → Q (.ref p) (upd H p (NDO X.prog X.w p []))) := ⟨fun pins s σ H Q I h =>
  wpAny_Dict_empty ⟨.ref s.heap.objs.size, _, I.laid (a := s.heap.objs.size) (o := NDO X.prog X.w s.heap.objs.size []) (t' := s.toks) (fun _ _ q => Heap.get?_push_of_some _ q) (Nat.le_refl _)
    (nd_new (X := X) (Nat.zero_le _) (by have := I.big; exact beq_eq_false_iff_ne.mpr (Nat.ne_of_gt this)) .nil (Heap.DictOfH.new _)), rfl, h _ (I.hok.fresh (Nat.le_refl _))⟩⟩
/-- an entry more -/
theorem nd_put {a : Addr} {k : PyData} {x : V} {u : Value} {A : Around} {Q : Unit → Shared → Prop} (hu : A.units + 8 < cLine) (I : Inv X pins σ H s) (hd : H d = some (NDO X.prog X.w d kvs)) (hk : KeysOk X.K H kvs) (g : Good k) (da : Dp X.K H (.ref a) k) (new : k ∉ kvs.map (·.1)) (few : kvs.length < 100000) (r : RelV x u)
    (h : ∀ s', Inv X pins σ (upd H d (NDO X.prog X.w d (kvs ++ [(k, a, x)]))) s' → (∀ b o, b ≠ d → s.heap.get? b = some o → s'.heap.get? b = some o) → Q () s') : wpAny (model X.prog X.w) A (dictSet d (.ref a) u) Q E s := by
  obtain ⟨hz, hs, xs, p, m⟩ := nd_get I hd hk
  have xl : xs.length = kvs.length := (Paired.length p).symm
  have none_ : atKey xs (toK k) = none := by
    cases e : atKey xs (toK k) with
    | none => rfl
    | some q => exact absurd ((nd_isSome p (fun z hz => (hk z hz).1) g).mp (by rw [e]; rfl)) new
  refine wpAny_dictSet_heap (knd := nestedKind X.prog X.w) (hsz := by rw [sizeLine_eq]; omega) hu (key_at I da g) m fun h' m' sb => ?_
  rw [storedH_new none_] at m'
  have ex : ∃ q, h'.get? d = some q := let ⟨q, _, _, hq, _⟩ := m'; ⟨q, hq⟩
  refine h _ (d_write (t' := _) I (by rw [hd]; exact True.intro) sb ex (nd_new (by rw [List.length_append, List.length_singleton]; omega) hs (paired_snoc ⟨rfl, rfl, r⟩ p) m')) fun b o hb e => (sb.2 b hb).trans e
/-- d.setdefault(k, x) -/
def tSetdN (K : PySem.W.Frag) (P : Program) (w : World) (td ty tx : TE) : TE := fun σ H Q => td σ H fun x H1 => ∃ d kvs0, x = .ref d ∧ H1 d = some (NDO P w d kvs0) ∧ ty σ H1 fun y H2 => tx σ H2 fun z H3 => ∃ (a : Addr) (kvs : List Ent) (k : PyData), y = .ref a ∧ H3 d = some (NDO P w d kvs) ∧ KeysOk K H3 kvs ∧
  Good k ∧ Dp K H3 (.ref a) k ∧ kvs.length < 100000 ∧ (∀ e ∈ kvs, e.1 = k → Q e.2.2 H3) ∧ (k ∉ kvs.map (·.1) → Q z (upd H3 d (NDO P w d (kvs ++ [(k, a, z)]))))
theorem pe_setdN {o e f : Expr} {td ty tx : TE} {apos cpos : Pos} (hu : X.A.units + 64 < cLine) (ho : PE X o td) (he : PE X e ty) (hf : PE X f tx) (m : M2 X o "setdefault" apos e f cpos) : PE X (.Call (.Attribute o "setdefault" apos) [e, f] [] cpos) (tSetdN X.K X.prog X.w td ty tx) := by
  refine ⟨fun pins s σ H Q I h => ?_⟩
  refine wpAny_Call_method m.base m.few m.line PySem.F.plainAttrs_dict PySem.F.slot_dict_setdefault PySem.F.type_dict_setdefault (thn (ho.run pins s σ H _ I h) fun u s1 ⟨x, H1, I1, rx, d, kvs0, ex, d0, q1⟩ => ?_)
  subst ex
  obtain rfl : u = Value.ref d := rx
  have ty0 : ∃ o, s1.heap.get? d = some o ∧ o.cls = .type "dict" ∧ o.dict = none := by
    obtain ⟨_, _, xs, _, o, es, ep, h1, h2, _⟩ := (I1.hok d _ d0).1
    exact ⟨o, h1, h2.1, h2.2.1⟩
  obtain ⟨ob, ho1, ho2, ho3⟩ := ty0
  refine ⟨⟨ob, ho1, ho2⟩, fun b eb => ?_, ?_⟩
  · cases eb
    exact ⟨ob, ho1, ho3⟩
  rw [m.trees]
  refine Calls.callWith_builtin rfl (Calls.evalArgs_plain (Calls.spliced_cons (thn (he.run pins s1 σ H1 _ I1 q1) fun iv s2 ⟨y, H2, I2, ry, q2⟩ =>
    Calls.spliced_cons (thn (hf.run pins s2 σ H2 _ I2 q2) fun fv s3 ⟨z, H3, I3, rz, a, kvs, k, ey, hd, hk, g, da, few, q3, q4⟩ => Calls.spliced_nil ?_))))
  subst ey
  obtain rfl : iv = Value.ref a := ry
  obtain ⟨hz, hs, xs, p, mm⟩ := nd_get I3 hd hk
  have xl : xs.length = kvs.length := (Paired.length p).symm
  obtain ⟨l1, l2⟩ := nd_look p (fun z hz => (hk z hz).1) g
  refine call_setdefault_heap (knd := nestedKind X.prog X.w) (hsz := by rw [sizeLine_eq]; omega) (by show X.A.units + 1 + 8 < cLine; omega) (key_at I3 da g) hs mm (fun pv hp => ?_) fun hn h' m' sb => ?_
  · obtain ⟨z', hz', ez, rz'⟩ := l1 pv hp
    exact ⟨z'.2.2, H3, I3.tok _, rz', q3 z' hz' ez⟩
  · rw [storedH_new hn] at m'
    have ex : ∃ q, h'.get? d = some q := let ⟨q, _, _, hq, _⟩ := m'; ⟨q, hq⟩
    refine ⟨z, _, d_write (t' := _) I3 (by rw [hd]; exact True.intro) sb ex (nd_new (by rw [List.length_append, List.length_singleton]; omega) hs (paired_snoc ⟨rfl, rfl, rz⟩ p) m'), rz, q4 fun hm => ?_⟩
    obtain ⟨z', hz', ez⟩ := List.mem_map.mp hm
    exact l2 hn z' hz' ez
end
end Rw
namespace Rw
open PySem PySem.Spec PyProof.Rows L2
/-! ### y = {x: True for x in xs}, xs a list of tuples, no two alike -/
theorem idx_new {ds : List PyData} (hn : ds.Nodup) {i : Nat} {d : PyData} (h : ds[i]? = some d) : d ∉ ds.take i := fun hm => by
  have z := take_snoc h
  have nd : (ds.take (i + 1)).Nodup := List.Nodup.sublist (List.take_sublist _ _) hn
  rw [z] at nd
  obtain ⟨_, _, h3⟩ := List.nodup_append.mp nd
  exact h3 d hm d (List.mem_singleton.mpr rfl) rfl
theorem vals_at : ∀ {xs : List V} {us : List Value} {i : Nat} {u : Value}, Vals xs us → us[i]? = some u → ∃ x, xs[i]? = some x ∧ RelV x u
  | _, _, _, _, .nil, e => by simp at e
  | _, _, 0, _, .cons r _, e => by
    simp at e
    subst e
    exact ⟨_, rfl, r⟩
  | _, _, i + 1, _, .cons _ t, e => by
    obtain ⟨x, h1, h2⟩ := vals_at (i := i) t (by simpa using e)
    exact ⟨x, by simpa using h1, h2⟩
section
variable {X : Cx}
def tSetD (K : PySem.W.Frag) (P : Program) (w : World) (ti : TE) : TE := fun σ H Q => ti σ H fun v H1 => ∃ (l : Addr) (xs : List V) (ds : List PyData), v = .ref l ∧ SqL K H1 l xs ∧ DpAll K H1 xs ds ∧ (∀ d ∈ ds, Good d) ∧ ds.Nodup ∧ ds.length ≤ 1000 ∧
  ∀ D kvs, H1 D = none → kvs.map (·.1) = ds → KeysOk K H1 kvs → Q (.ref D) (upd H1 D (NDO P w D kvs))
theorem ps_setDictTrue {i : Nat} {y x : Str} {py p1 p2 p3 pos spos : Pos} {kk : Nat} {iter : Expr} {scope : Scope} {own : List (Str × Nat)} {ti : TE} (hc : X.calm = true) (hu : X.A.units + 64 < cLine) (hN : X.N.Nodup) (hy : X.N[i]? = some y) (hyl : X.env.scope.names.lookup y = some .local)
    (hsw : swapsWith (.DictComp (.Name x p1) (.Constant (.bool true) kk p2) [⟨.Name x p3, iter, [], 0⟩] scope pos) (some (.Name y py)) spos.line X.env = pure true) (hi : PE X iter ti) (ok : BlkOk X.N X.env.scope scope own)
    (hx : scope.names.lookup x = some .local) (hdeb : (x == ("__debug__" : Str)) = false) (hcell : ∀ z ∈ scope.names, z.2 ≠ .cell) (hs : ∀ x, foldedSetIterable iter X.env x = pure x := by intro _; rfl) :
    PS X (.Assign [.Name y py] (.DictComp (.Name x p1) (.Constant (.bool true) kk p2) [⟨.Name x p3, iter, [], 0⟩] scope pos) spos) (tAsg (tSetD X.K X.prog X.w ti) (gName i)) := by
  refine ⟨fun pins s σ H D I h => ?_⟩
  have h : tSetD X.K X.prog X.w ti σ H (fun x H1 => gName i x σ H1 D.nx) := h
  have hfree : ∀ y ∈ scope.names, y.2 = .free → ∃ c, X.env.cells.lookup y.1 = some c := fun y hy e => by
    rcases ok.free y hy e with k | k
    · exact I.ok.has _ (.inl k)
    · exact I.ok.has _ (.inr k)
  rw [exec_Assign_Name_used _ _ _ _ hsw]
  refine wpAny_bind (wpAny_standAt (wpAny_bind ?_))
  show wpAny _ X.A (do let _ ← comprehension (.DictComp (.Name x p1) (.Constant (.bool true) kk p2) [⟨.Name x p3, iter, [], 0⟩] scope pos) scope X.env _ newDict false (eval iter X.env) (some (assign (.Name y py) X.env))) _ _ s
  have main : wpAny (model X.prog X.w) X.A (eval iter X.env) (fun xv s₁ => wpAny (model X.prog X.w) X.A (pyIter xv)
      (DcGoes X.prog X.w X.A X.xe X.env scope (cloFrom X.env.cells scope.names []) (.Name x p3) [] (.Name x p1) (.Constant (.bool true) kk p2) (some (assign (.Name y py) X.env)) (fun _ s' => SP X pins D .next s')) X.xe s₁) X.xe s := by
    refine thn (hi.run pins s σ H _ I h) fun xv s1 ⟨v, H1, I1, rv, l, xs, ds, ev, hl, hd, hg, hnd, hlen, q⟩ => ?_
    subst ev
    obtain rfl : xv = Value.ref l := rv
    obtain ⟨its, rvs, pl, _⟩ := I1.list hl
    have hl0 : s1.heap.IsList l its.toArray := pl.isList
    have hlt : (l : Nat) < s1.heap.objs.size := by
      obtain ⟨o, ho, _⟩ := hl0
      exact Heap.lt_size ho
    have il : its.length = ds.length := by rw [← rvs.length, dpAll_len hd]
    refine wpAny_pyIter_list hl0 ?_
    refine ⟨s1.heap.objs.size, [s1.heap.objs.size, l], [s1.heap.objs.size], its.toArray.size, _, _, rfl, Goes.list (I1.ok.hd hc) s1.heap.objs.size l (Nat.ne_of_lt hlt) its.toArray, ⟨⟨_, Heap.get?_push_size _ rfl, rfl, rfl⟩, hl0.push _⟩, ?_⟩
    intro D0 C s3 hB hDobj
    obtain ⟨⟨h3, tk3, rfl⟩, old, nD, nC, hDC, hnm⟩ := hB
    have szp : (s1.heap.push { cls := .type "list_iterator", data := .fields #[.ref l, .int 0 0] }).objs.size = s1.heap.objs.size + 1 := Heap.size_push ..
    have nD' : s1.heap.objs.size + 1 ≤ D0 := by
      have q := nD
      rw [szp] at q
      exact q
    have nC' : s1.heap.objs.size + 1 ≤ C := by
      have q := nC
      rw [szp] at q
      exact q
    have sD : s1.heap.objs.size ≤ D0 := Nat.le_trans (Nat.le_succ _) nD'
    have sC : s1.heap.objs.size ≤ C := Nat.le_trans (Nat.le_succ _) nC'
    have neDI : s1.heap.objs.size ≠ D0 := Nat.ne_of_lt nD'
    have neCI : s1.heap.objs.size ≠ C := Nat.ne_of_lt nC'
    have neDl : (l : Nat) ≠ D0 := Nat.ne_of_lt (Nat.lt_of_lt_of_le hlt sD)
    have neCl : (l : Nat) ≠ C := Nat.ne_of_lt (Nat.lt_of_lt_of_le hlt sC)
    have hDn : H1 D0 = none := I1.hok.fresh sD
    have hIn : H1 s1.heap.objs.size = none := I1.hok.fresh (Nat.le_refl _)
    have hCn : H1 C = none := I1.hok.fresh sC
    have all3 : ∀ b o, s1.heap.get? b = some o → h3.get? b = some o := fun b o e => old b o (Heap.get?_push_of_some _ e)
    have kx : (compEnvC scope (cloFrom X.env.cells scope.names []) C X.env).kindOf x = some .local := lookup_relabel_local hx
    have hp : ((compEnvC scope (cloFrom X.env.cells scope.names []) C X.env).scope.kind == .class || ((compEnvC scope (cloFrom X.env.cells scope.names []) C X.env).scope.kind == .module && (compEnvC scope (cloFrom X.env.cells scope.names []) C X.env).locals != (compEnvC scope (cloFrom X.env.cells scope.names []) C X.env).globals)) = false := by
      show (scope.kind == .class || (scope.kind == .module && _)) = false
      rw [ok.kind]
      rfl
    have fpI : ∀ kvs, FpOk X pins (upd H1 D0 (NDO X.prog X.w D0 kvs)) s1.heap.objs.size := fun kvs => I1.fpOk (Nat.le_refl _) (by rw [upd_ne neDI]; exact hIn)
    have fpC : ∀ kvs, FpOk X pins (upd H1 D0 (NDO X.prog X.w D0 kvs)) C := fun kvs => I1.fpOk sC (by rw [upd_ne (fun e => hDC e.symm)]; exact hCn)
    refine ⟨fun i s₁ => ∃ kvs m, Inv X pins σ (upd H1 D0 (NDO X.prog X.w D0 kvs)) s₁ ∧ s₁.heap.Ns C m ∧ kvs.map (·.1) = ds.take i ∧ KeysOk X.K H1 kvs, ?_, ?_, ?_, ?_⟩
    · -- at the start
      refine ⟨[], _, I1.laid (t' := tk3) all3 sD (nd_new (X := X) (Nat.zero_le _) ?_ .nil ?_), hnm, rfl, fun p hp => nomatch hp⟩
      · exact beq_eq_false_iff_ne.mpr (Nat.ne_of_gt (Nat.lt_of_lt_of_le I1.big sD))
      · exact ⟨_, #[], 0, hDobj, ⟨rfl, rfl, rfl⟩, rfl, rfl, (fun _ z => nomatch z), List.nodup_nil⟩
    · -- the iterator turns
      rintro i s₁ h' tk ⟨kvs, m, J, hn, e, ko⟩ kp _
      obtain ⟨f0, f1, f2, f3, f4, f5⟩ := fpI kvs
      exact ⟨kvs, m, J.turned (t' := tk) (fun b o hb q => kp b o (by simpa using hb) q) f0 f1 f3 f4 f5, hn.at' fun o q => kp _ o (by simpa using (fun z => neCI z.symm)) q, e, ko⟩
    · -- one turn
      rintro i v s₁ hi' hv st ⟨kvs, m, J, hn, e, ko⟩
      have hv' : its[i]? = some v := by simpa using hv
      obtain ⟨x0, hx0, rx0⟩ := vals_at rvs hv'
      obtain ⟨d, hd0, dd⟩ := dpAll_at' hd hx0
      have gd := hg d (List.mem_of_getElem? hd0)
      obtain ⟨a, rfl⟩ := gd.ref dd
      obtain rfl : v = Value.ref a := rx0
      refine wpAny_assign_Name (wpAny_storeName_local kx hn (fun h5 n5 s5 => ?_) hp)
      refine wpAny_tests_nil ?_
      show wpAny _ _ _ _ _ _
      obtain ⟨f0, f1, f2, f3, f4, f5⟩ := fpC kvs
      have J5 : Inv X pins σ (upd H1 D0 (NDO X.prog X.w D0 kvs)) { s₁ with heap := h5, toks := s₁.toks + 1 } := J.turned (t' := s₁.toks + 1) (fun b o hb q => (s5.2 b hb).trans q) f0 f1 f3 f4 f5
      rw [eval_Name _ _ _ hdeb]
      refine wpAny_bind (wpAny_standAt (wpAny_loadName_local ok.kind kx n5 (v := .ref a) (if_pos rfl) ?_))
      refine Constant_bool ?_
      have st5 : h5.IsListIter s1.heap.objs.size l (i + 1) ∧ h5.IsList l its.toArray := ⟨st.1.at fun o q => (s5.2 _ neCI).trans q, st.2.at fun o q => (s5.2 _ neCl).trans q⟩
      have sty : Stay H1 (upd H1 D0 (NDO X.prog X.w D0 kvs)) := Stay.new hDn _
      refine nd_put (s := { s₁ with heap := h5, toks := s₁.toks + 1 }) (by omega) J5 upd_same (ko.stay sty) gd (sty.dp _ _ gd.ok dd) (by rw [e]; exact idx_new hnd hd0) ?_ (x := .bl true) rfl fun s' J' kept => ?_
      · have z := congrArg List.length e
        rw [List.length_map, List.length_take] at z
        omega
      · rw [upd_upd] at J'
        refine ⟨⟨_, _, J', n5.at' fun o q => kept _ o (fun z => hDC z.symm) q, ?_, ?_⟩, st5.1.at fun o q => kept _ o neDI q, st5.2.at fun o q => kept _ o neDl q⟩
        · rw [List.map_append, e, take_snoc hd0]
          rfl
        · intro p hp
          rcases List.mem_append.mp hp with hp | hp
          · exact ko p hp
          · rw [List.mem_singleton.mp hp]
            exact ⟨gd, dd⟩
    · -- behind the last
      rintro s₁ ⟨kvs, m, J, hn, e, ko⟩
      have e' : kvs.map (·.1) = ds := by
        rw [e, List.size_toArray, il, List.take_length]
      show wpAny _ X.A (assign (.Name y py) X.env (.ref D0)) _ _ _
      obtain ⟨f0, f1, f2, f3, f4, f5⟩ := fpC kvs
      refine wpAny_assign_Name (store_ok2 (v := V.ref D0) J hN hy (.inl hyl) rfl (fun s2 J2 ⟨a, sb, ha⟩ => ?_) (.inr hyl))
      have haC : C ≠ a := by
        rcases ha with z | z
        · rw [z]
          exact f1
        · exact fun e => f4 y a z e.symm
      exact ⟨m, hn.sameBut sb haC, fun h3' sb3 => ⟨_, _, J2.turned (t' := s2.toks) (fun b o hb q => (sb3.2 b hb).trans q) f0 f1 f3 f4 f5, q D0 kvs hDn e' ko⟩⟩
  refine wpAny_bind (wpAny_mono (comprehension_at (use := some (assign (.Name y py) X.env)) (Q := fun _ s' => SP X pins D .next s') rfl hs (closure_ok hfree) ok.kind (fun z hz e => by rw [ok.uniq z hz, e])
    (wpAny_mono main (fun xv s₁ h₁ => wpAny_mono h₁ (fun it s₂ h₂ => compBlock_dict hcell ok.kind h₂) fun _ _ e => e) fun _ _ e => e)) (fun _ s' hq => wpAny_pure (wpAny_pure hq)) fun _ _ e => e)
end
end Rw
namespace Rw
open PySem PySem.Spec PyProof.Rows L2
/-! ### names, worlds, pairs -/
def letter (c : Nat) : Bool := decide (97 ≤ c) && decide (c ≤ 122)
def notS : Str := ("not" : Str)
def nameB (x : Str) : Bool := x.cps.toList.all letter && decide (1 ≤ x.cps.size) && decide (x.cps.size ≤ 8) && !decide (x = notS)
theorem nameB_iff {x : Str} : nameB x = true ↔ (∀ c ∈ x.cps.toList, letter c = true) ∧ 1 ≤ x.cps.size ∧ x.cps.size ≤ 8 ∧ x ≠ notS := by
  unfold nameB
  simp only [Bool.and_eq_true, List.all_eq_true, decide_eq_true_eq, Bool.not_eq_true', decide_eq_false_iff_not]
  exact ⟨fun ⟨⟨⟨a, b⟩, c⟩, d⟩ => ⟨a, b, c, d⟩, fun ⟨a, b, c, d⟩ => ⟨⟨⟨a, b⟩, c⟩, d⟩⟩
theorem name_strOk {x : Str} (h : nameB x = true) : PyData.strOk x = true := by
  obtain ⟨h1, _⟩ := nameB_iff.mp h
  unfold PyData.strOk
  rw [← Array.all_toList, List.all_eq_true]
  intro c hc
  have := h1 c hc
  unfold letter at this
  simp only [Bool.and_eq_true, decide_eq_true_eq] at this
  exact decide_eq_true (by omega)
abbrev W := List Str
abbrev Pr := W × W
/-- strictly rising -/
abbrev UpX (ns : W) : Prop := ns.Pairwise fun a b => a.cps.toList < b.cps.toList
structure IsW (ns : W) : Prop where
  names : ∀ x ∈ ns, nameB x = true
  up : UpX ns
  few : ns.length ≤ 40
def wd (ns : W) : PyData := .tuple (ns.map .str)
def pd (p : Pr) : PyData := .tuple [wd p.1, wd p.2]
theorem str_inj : ∀ {a b : W}, a.map PyData.str = b.map PyData.str → a = b
  | [], [], _ => rfl
  | [], _ :: _, h => by simp at h
  | _ :: _, [], h => by simp at h
  | x :: a, y :: b, h => by
    simp only [List.map_cons, List.cons.injEq, PyData.str.injEq] at h
    rw [h.1, str_inj h.2]
theorem wd_inj {a b : W} (h : wd a = wd b) : a = b := by
  unfold wd at h
  injection h with h
  exact str_inj h
theorem pd_inj {p q : Pr} (h : pd p = pd q) : p = q := by
  unfold pd at h
  injection h with h
  injection h with h1 h2
  injection h2 with h2 _
  exact Prod.ext (wd_inj h1) (wd_inj h2)
theorem okDs_str : ∀ ns : W, okDs (ns.map .str) = true
  | [] => rfl
  | x :: ns => by
    rw [List.map_cons, okDs, okDs_str ns]
    rfl
theorem depth_str : ∀ ns : W, PyData.depthAll (ns.map .str) = 0
  | [] => by simp [PyData.depthAll]
  | x :: ns => by
    rw [List.map_cons, PyData.depthAll, depth_str ns]
    simp [PyData.depth]
theorem ok_wd (ns : W) : okD (wd ns) = true := by
  unfold wd
  rw [okD]
  exact okDs_str ns
theorem depth_wd (ns : W) : (wd ns).depth = 1 := by
  unfold wd
  rw [PyData.depth, depth_str]
theorem good_wd (ns : W) : Good (wd ns) := ⟨ok_wd ns, by rw [depth_wd]; decide, ⟨_, rfl⟩⟩
theorem ok_pd (p : Pr) : okD (pd p) = true := by
  unfold pd
  rw [okD, okDs, okDs, okDs, ok_wd, ok_wd]
  rfl
theorem depth_pd (p : Pr) : (pd p).depth = 2 := by
  unfold pd
  simp [PyData.depth, PyData.depthAll, depth_wd]
theorem good_pd (p : Pr) : Good (pd p) := ⟨ok_pd p, by rw [depth_pd]; decide, ⟨_, rfl⟩⟩
theorem lay_strs : ∀ {ns : W}, (∀ x ∈ ns, nameB x = true) → PyData.canLayAll0 (ns.map .str) = true
  | [], _ => by simp [PyData.canLayAll0]
  | x :: ns, h => by
    rw [List.map_cons, PyData.canLayAll0, lay_strs fun y hy => h y (List.mem_cons_of_mem _ hy), PyData.canLay0, name_strOk (h x List.mem_cons_self)]
    rfl
theorem lay_wd {ns : W} (h : ∀ x ∈ ns, nameB x = true) : (wd ns).canLay0 = true := by
  unfold wd
  rw [PyData.canLay0]
  exact lay_strs h
theorem shaped_wd {ns : W} (h : IsW ns) : SeqAt.shaped (wd ns) = true := by
  unfold SeqAt.shaped
  rw [lay_wd h.names, depth_wd]
  rfl
theorem lay_pd {p : Pr} (h1 : IsW p.1) (h2 : IsW p.2) : (pd p).canLay0 = true := by
  unfold pd
  rw [PyData.canLay0, PyData.canLayAll0, PyData.canLayAll0, PyData.canLayAll0, lay_wd h1.names, lay_wd h2.names]
  rfl
theorem shaped_pd {p : Pr} (h1 : IsW p.1) (h2 : IsW p.2) : SeqAt.shaped (pd p) = true := by
  unfold SeqAt.shaped
  rw [lay_pd h1 h2, depth_pd]
  rfl
theorem alike_strs : ∀ a b : W, PySem.W.alikeAll (a.map .str) (b.map .str) = true
  | [], _ => by simp [PySem.W.alikeAll]
  | _ :: _, [] => by simp [PySem.W.alikeAll]
  | x :: a, y :: b => by
    rw [List.map_cons, List.map_cons, PySem.W.alikeAll, alike_strs a b]
    simp [PySem.W.alike]
theorem alike_wd (a b : W) : PySem.W.alike (wd a) (wd b) = true := by
  unfold wd
  rw [PySem.W.alike]
  exact alike_strs a b
theorem alike_pd (p q : Pr) : PySem.W.alike (pd p) (pd q) = true := by
  unfold pd
  rw [PySem.W.alike, PySem.W.alikeAll, PySem.W.alikeAll, PySem.W.alikeAll, alike_wd, alike_wd]
  rfl
theorem eqv_strs : ∀ a b : W, PyData.eqvAll (a.map .str) (b.map .str) = decide (a = b)
  | [], [] => by simp [PyData.eqvAll]
  | [], _ :: _ => by simp [PyData.eqvAll]
  | _ :: _, [] => by simp [PyData.eqvAll]
  | x :: a, y :: b => by
    rw [List.map_cons, List.map_cons, PyData.eqvAll, eqv_strs a b, PyData.eqv]
    by_cases h : x = y
    · subst h
      by_cases h2 : a = b <;> simp [h2]
    · simp [h]
theorem eqv_wd (a b : W) : PyData.eqv (wd a) (wd b) = decide (a = b) := by
  unfold wd
  rw [PyData.eqv]
  exact eqv_strs a b
theorem eqv_pd (p q : Pr) : PyData.eqv (pd p) (pd q) = decide (p = q) := by
  unfold pd
  rw [PyData.eqv, PyData.eqvAll, PyData.eqvAll, PyData.eqvAll, eqv_wd, eqv_wd]
  obtain ⟨a, b⟩ := p
  obtain ⟨c, d⟩ := q
  by_cases h1 : a = c
  · by_cases h2 : b = d <;> simp [h1, h2]
  · simp [h1]
/-! ### sorted lists are told by their members -/
theorem toks_ne {d e : PyData} (h : PySem.W.alike d e = true) (he : PyData.eqv d e = false) : PySem.W.keyToks d ≠ PySem.W.keyToks e := fun t => by
  have z := (PySem.W.toks_eqv d e h).2 he [.inl 0] [.inl 1]
  rw [t, PySem.W.lex_pre, lex_irrefl] at z
  exact absurd z (by decide)
theorem lt_or {d e : PyData} (h : PySem.W.alike d e = true) (he : PyData.eqv d e = false) : PySem.W.dataLt d e = true ∨ PySem.W.dataLt e d = true := by
  cases h1 : PySem.W.dataLt d e with
  | true => exact .inl rfl
  | false =>
    cases h2 : PySem.W.dataLt e d with
    | true => exact .inr rfl
    | false => exact absurd (lex_total _ _ h1 h2) (toks_ne h he)
/-- rising and without repetition: told by the members -/
theorem rising_one {α : Type} {enc : α → PyData} (al : ∀ a b, PySem.W.alike (enc a) (enc b) = true) (inj : ∀ a b, PyData.eqv (enc a) (enc b) = true → a = b) :
    ∀ {l m : List α}, Rising (l.map enc) → Rising (m.map enc) → l.Nodup → m.Nodup → (∀ a, a ∈ l ↔ a ∈ m) → l = m
  | [], [], _, _, _, _, _ => rfl
  | [], b :: m, _, _, _, _, h => absurd ((h b).mpr List.mem_cons_self) (List.not_mem_nil)
  | a :: l, [], _, _, _, _, h => absurd ((h a).mp List.mem_cons_self) (List.not_mem_nil)
  | a :: l, b :: m, r1, r2, n1, n2, h => by
    have le_of : ∀ {x y : α} {k : List α}, Rising ((x :: k).map enc) → y ∈ x :: k → y = x ∨ PySem.W.dataLt (enc y) (enc x) = false := by
      intro x y k r hy
      rcases List.mem_cons.mp hy with e | hy
      · exact .inl e
      · right
        have z := (List.pairwise_cons.mp r).1 (enc y) (List.mem_map.mpr ⟨y, hy, rfl⟩)
        have z' : (!PySem.W.dataLt (enc y) (enc x)) = true := z
        simpa using z'
    have e : a = b := by
      have h1 := le_of r1 ((h b).mpr List.mem_cons_self)
      have h2 := le_of r2 ((h a).mp List.mem_cons_self)
      rcases h1 with e | h1
      · exact e.symm
      · rcases h2 with e | h2
        · exact e
        · cases ev : PyData.eqv (enc a) (enc b) with
          | true => exact inj a b ev
          | false =>
            rcases lt_or (al a b) ev with z | z
            · rw [h2] at z
              exact nomatch z
            · rw [h1] at z
              exact nomatch z
    subst e
    obtain ⟨a1, a2⟩ := List.nodup_cons.mp n1
    obtain ⟨b1, b2⟩ := List.nodup_cons.mp n2
    rw [rising_one al inj (List.pairwise_cons.mp r1).2 (List.pairwise_cons.mp r2).2 a2 b2 fun x => ?_]
    constructor
    · intro hx
      rcases List.mem_cons.mp ((h x).mp (List.mem_cons_of_mem _ hx)) with e | z
      · rw [e] at hx
        exact absurd hx a1
      · exact z
    · intro hx
      rcases List.mem_cons.mp ((h x).mpr (List.mem_cons_of_mem _ hx)) with e | z
      · rw [e] at hx
        exact absurd hx b1
      · exact z
theorem pairs_one {R R' : List Pr} (r1 : Rising (R.map pd)) (r2 : Rising (R'.map pd)) (n1 : R.Nodup) (n2 : R'.Nodup) (h : ∀ p, p ∈ R ↔ p ∈ R') : R = R' :=
  rising_one alike_pd (fun p q e => by rw [eqv_pd] at e; exact of_decide_eq_true e) r1 r2 n1 n2 h
theorem worlds_one {R R' : List W} (r1 : Rising (R.map wd)) (r2 : Rising (R'.map wd)) (n1 : R.Nodup) (n2 : R'.Nodup) (h : ∀ p, p ∈ R ↔ p ∈ R') : R = R' :=
  rising_one alike_wd (fun p q e => by rw [eqv_wd] at e; exact of_decide_eq_true e) r1 r2 n1 n2 h
/-- texts: likewise -/
theorem upX_one : ∀ {l m : W}, UpX l → UpX m → (∀ a, a ∈ l ↔ a ∈ m) → l = m
  | [], [], _, _, _ => rfl
  | [], b :: m, _, _, h => absurd ((h b).mpr List.mem_cons_self) (List.not_mem_nil)
  | a :: l, [], _, _, h => absurd ((h a).mp List.mem_cons_self) (List.not_mem_nil)
  | a :: l, b :: m, r1, r2, h => by
    obtain ⟨p1, q1⟩ := List.pairwise_cons.mp r1
    obtain ⟨p2, q2⟩ := List.pairwise_cons.mp r2
    have e : a = b := by
      rcases List.mem_cons.mp ((h a).mp List.mem_cons_self) with e | z
      · exact e
      · rcases List.mem_cons.mp ((h b).mpr List.mem_cons_self) with e | z'
        · exact e.symm
        · exact absurd (p1 b z') (List.lt_asymm (p2 a z))
    subst e
    have na : ∀ {k : W}, (∀ x ∈ k, a.cps.toList < x.cps.toList) → a ∉ k := fun h hm => List.lt_irrefl _ (h a hm)
    rw [upX_one q1 q2 fun x => ?_]
    constructor
    · intro hx
      rcases List.mem_cons.mp ((h x).mp (List.mem_cons_of_mem _ hx)) with e | z
      · rw [e] at hx
        exact absurd hx (na p1)
      · exact z
    · intro hx
      rcases List.mem_cons.mp ((h x).mpr (List.mem_cons_of_mem _ hx)) with e | z
      · rw [e] at hx
        exact absurd hx (na p2)
      · exact z
/-- ≤ and without repetition: strictly rising -/
theorem upX_of {zs : W} (h : RisingX zs) (n : zs.Nodup) : UpX zs := by
  induction zs with
  | nil => exact List.Pairwise.nil
  | cons x zs ih =>
    obtain ⟨p, q⟩ := List.pairwise_cons.mp h
    obtain ⟨n1, n2⟩ := List.nodup_cons.mp n
    refine List.pairwise_cons.mpr ⟨fun y hy => ?_, ih q n2⟩
    have le := of_decide_eq_true (p y hy)
    refine Classical.byContradiction fun c => ?_
    have ge : y.cps.toList ≤ x.cps.toList := List.not_lt.mp c
    have e : x.cps.toList = y.cps.toList := List.le_antisymm le ge
    exact n1 ((PySem.W.str_of_cps e) ▸ hy)
theorem upX_nodup {zs : W} (h : UpX zs) : zs.Nodup := List.Pairwise.imp (fun {a b} h e => by subst e; exact List.lt_irrefl _ h) h
end Rw
namespace Rw
open PySem PySem.Spec PyProof.Rows L2
def lettersS : Str := ("abcdefghijklmnopqrstuvwxyz" : Str)
theorem in_letters {c : Nat} (h : letter c = true) : c ∈ lettersS.cps.toList := by
  have all : ((List.range 123).all fun c => !letter c || decide (c ∈ lettersS.cps.toList)) = true := by decide +kernel
  have z := h
  unfold letter at z
  simp only [Bool.and_eq_true, decide_eq_true_eq] at z
  have q := List.all_eq_true.mp all c (List.mem_range.mpr (by omega))
  rw [h] at q
  simpa using q
/-- a comprehension over a text's signs -/
theorem lc_sgn {x : Str} {g : TG} {tt : TT} {te : TE} {vs : List Nat} {σ : L2.St} {H1 : Hp} {D : Addr} {Qd : Hp → Prop} (Pv : Nat → Hp → Prop) (h0 : Pv 0 (upd H1 D (.lst [])))
    (hs : ∀ i c H, x.cps[i]? = some c → Pv i H → g (.str ⟨#[c]⟩) (wipe σ vs) H fun σ2 H2 => wipe σ2 vs = wipe σ vs ∧ tt σ2 H2 fun b H3 =>
      if b = true then te σ2 H3 fun y H4 => ∃ acc, H4 D = some (.lst acc) ∧ acc.length < sizeLine ∧ Pv (i + 1) (upd H4 D (.lst (acc ++ [y]))) else Pv (i + 1) H3) (hd : ∀ H, Pv x.cps.size H → Qd H) :
    ∃ W : Nat → Nat → Hp → Prop, (∃ m, W 0 m (upd H1 D (.lst []))) ∧ ∀ i m H, W i m H →
      ((Its x).stop i H ∧ Qd H) ∨ ((Its x).go i H ∧ ∃ Nx : Hp → Prop, (∀ H', Nx H' → ∃ m', m' < m ∧ W (i + 1) m' H') ∧ ∀ y H', (Its x).yld i H y H' → g y (wipe σ vs) H' fun σ2 H2 => wipe σ2 vs = wipe σ vs ∧ tt σ2 H2 fun b H3 =>
        if b = true then te σ2 H3 fun y H4 => ∃ acc, H4 D = some (.lst acc) ∧ acc.length < sizeLine ∧ Nx (upd H4 D (.lst (acc ++ [y]))) else Nx H3) := by
  refine ⟨fun i m H => m = x.cps.size - i ∧ i ≤ x.cps.size ∧ Pv i H, ⟨x.cps.size, by simp, Nat.zero_le _, h0⟩, ?_⟩
  rintro i m H ⟨rfl, hi, p⟩
  by_cases hlt : i < x.cps.size
  · refine .inr ⟨hlt, Pv (i + 1), fun H' p' => ⟨x.cps.size - (i + 1), by omega, rfl, hlt, p'⟩, fun y H' yy => ?_⟩
    obtain ⟨rfl, c, hc, rfl⟩ := yy
    exact hs i c _ hc p
  · have e : i = x.cps.size := by omega
    subst e
    exact .inl ⟨Nat.le_refl _, hd H p⟩
theorem small_line {n : Nat} (h : n ≤ 10000) : n ≤ sizeLine := by
  rw [sizeLine_eq]
  omega
theorem small_line' {n : Nat} (h : n ≤ 10000) : n < sizeLine := by
  rw [sizeLine_eq]
  omega
theorem map_at {α β : Type} {l : List α} {f : α → β} {i : Nat} {y : β} (h : (l.map f)[i]? = some y) : ∃ x, l[i]? = some x ∧ y = f x := by
  rw [List.getElem?_map] at h
  cases e : l[i]? with
  | none => rw [e] at h; simp at h
  | some x =>
    rw [e] at h
    exact ⟨x, rfl, (Option.some.inj h).symm⟩
theorem same_put {H H1 : Hp} {D : Addr} {o : HO} (sm : Same H H1) (hD : H D = none) : Same H (upd H1 D o) := fun b u e => by
  rw [upd_ne (ne_of_none e hD)]
  exact sm b u e
theorem dps_str {K : PySem.W.Frag} {H : Hp} : ∀ {ns : W} {xs : List V}, DpAll K H xs (ns.map .str) → xs = ns.map V.str
  | [], _, h => by cases h; rfl
  | x :: ns, _, h => by
    cases h with
    | cons h1 h2 =>
      cases h1
      rw [dps_str h2]
      rfl
theorem dps_strs {K : PySem.W.Frag} {H : Hp} : ∀ ns : W, DpAll K H (ns.map V.str) (ns.map .str)
  | [] => .nil
  | x :: ns => .cons (.str x) (dps_strs ns)
theorem of_wd {K : PySem.W.Frag} {H : Hp} {x : V} {ns : W} (h : Dp K H x (wd ns)) : ∃ a, x = .ref a ∧ SqT K H a (ns.map V.str) := by
  unfold wd at h
  cases h with
  | tup h1 h2 =>
    rw [dps_str h2] at h1
    exact ⟨_, rfl, h1⟩
theorem to_wd {K : PySem.W.Frag} {H : Hp} {a : Addr} {ns : W} (h : SqT K H a (ns.map V.str)) : Dp K H (.ref a) (wd ns) := .tup h (dps_strs ns)
theorem Stay.wd {K : PySem.W.Frag} {H H' : Hp} {x : V} {ns : W} (e : Stay H H') (h : Dp K H x (Rw.wd ns)) : Dp K H' x (Rw.wd ns) := e.dp _ _ (ok_wd ns) h
theorem tyx_tup {K : PySem.W.Frag} {H : Hp} {a : Addr} {xs : List V} (h : SqT K H a xs) : TyX K H (.ref a) (.type "tuple") := by
  rcases h with (h | ⟨o, h⟩) | ⟨o, its, n, h1, h2, _⟩
  · exact .base (.tup h)
  · exact .fTuple h
  · exact .kTuple h1 h2
/-- all of ms are in ns -/
def sub (ms ns : W) : Bool := ms.all fun z => decide (z ∈ ns)
theorem inV_str (z : Str) : ∀ ns : W, inV (.str z) (ns.map V.str) = decide (z ∈ ns)
  | [] => by simp [inV]
  | x :: ns => by
    have ih := inV_str z ns
    unfold inV at ih ⊢
    rw [List.map_cons, List.any_cons, ih]
    show ((x == z) || decide (z ∈ ns)) = decide (z ∈ x :: ns)
    by_cases h : x = z
    · subst h
      simp
    · have h' : z ≠ x := fun e => h e.symm
      simp [h, h']
theorem flat_strs (ns : W) : (ns.map V.str).all flatV = true := by
  rw [List.all_map, List.all_eq_true]
  exact fun _ _ => rfl
/-- the first that is told -/
theorem first_at {α β : Type} {f : α → Option β} {y : β} : ∀ {l : List α} {i : Nat} {p : α}, (∀ q ∈ l.take i, f q = none) → l[i]? = some p → f p = some y → l.findSome? f = some y
  | [], _, _, _, h, _ => by simp at h
  | a :: l, 0, p, _, h, e => by
    simp at h
    subst h
    rw [List.findSome?_cons, e]
  | a :: l, i + 1, p, h0, h, e => by
    rw [List.findSome?_cons, h0 a (by simp)]
    exact first_at (i := i) (fun q hq => h0 q (by rw [List.take_succ_cons]; exact List.mem_cons_of_mem _ hq)) (by simpa using h) e
theorem first_none {α β : Type} {f : α → Option β} {l : List α} (h : ∀ q ∈ l, f q = none) : l.findSome? f = none := List.findSome?_eq_none_iff.mpr h
theorem none_snoc {α β : Type} {f : α → Option β} {l : List α} {i : Nat} {p : α} (h0 : ∀ q ∈ l.take i, f q = none) (h : l[i]? = some p) (e : f p = none) : ∀ q ∈ l.take (i + 1), f q = none := fun q hq => by
  rw [take_snoc h] at hq
  rcases List.mem_append.mp hq with hq | hq
  · exact h0 q hq
  · rw [List.mem_singleton.mp hq]
    exact e
theorem filt_t {α : Type} {p : α → Bool} {l : List α} {i : Nat} {z : α} (hz : l[i]? = some z) (e : p z = true) : (l.take (i + 1)).filter p = (l.take i).filter p ++ [z] := by
  rw [take_snoc hz, List.filter_append]
  simp [e]
theorem filt_f {α : Type} {p : α → Bool} {l : List α} {i : Nat} {z : α} (hz : l[i]? = some z) (e : p z = false) : (l.take (i + 1)).filter p = (l.take i).filter p := by
  rw [take_snoc hz, List.filter_append]
  simp [e]
theorem okDs_wd (L : List W) : okDs (L.map wd) = true := okDs_all fun d hd => by
  obtain ⟨q, _, rfl⟩ := List.mem_map.mp hd
  exact ok_wd q
theorem none_back {H0 H : Hp} (h : Same H0 H) {o : Addr} (n : H o = none) : H0 o = none := by
  cases e : H0 o with
  | none => rfl
  | some u =>
    rw [h _ _ e] at n
    cases n
theorem map_inj_nodup {α β : Type} {f : α → β} : ∀ {l : List α}, (l.map f).Nodup → ∀ a ∈ l, ∀ b ∈ l, f a = f b → a = b
  | [], _, a, h, _, _, _ => nomatch h
  | x :: l, hn, a, ha, b, hb, e => by
    rw [List.map_cons] at hn
    obtain ⟨h1, h2⟩ := List.nodup_cons.mp hn
    rcases List.mem_cons.mp ha with ea | ha
    · rcases List.mem_cons.mp hb with eb | hb
      · rw [ea, eb]
      · exact absurd (List.mem_map.mpr ⟨b, hb, by rw [← e, ea]⟩) h1
    · rcases List.mem_cons.mp hb with eb | hb
      · exact absurd (List.mem_map.mpr ⟨a, ha, by rw [e, eb]⟩) h1
      · exact map_inj_nodup h2 a ha b hb e
theorem sw_trueD {key val : Expr} {gs : List Comprehension} {scope : Scope} {pos py : Pos} {y : Str} {l : Nat} {env : Env} (hk : env.scope.kind = .function) (hy : env.scope.names.lookup y = some .local) (hl : (py.line == pos.line) = true)
    (ha : (scope.names.any fun (n, k) => n == y && (k == .local || k == .cell)) = false) : swapsWith (.DictComp key val gs scope pos) (some (.Name y py)) l env = pure true :=
  (show swapsWith (.DictComp key val gs scope pos) (some (.Name y py)) l env = swapsWith (.ListComp key gs scope pos) (some (.Name y py)) l env from rfl).trans (sw_true hk hy hl ha)
theorem op_powB {X : Cx} : OpR X (binaryOp .Pow) (rI (fun i j => 0 ≤ j ∧ (Builtin.Int.intBits i : Int) * j ≤ 2 ^ 27) fun i j => .int (i ^ j.toNat)) := opI fun _ _ _ _ _ _ _ hc q => pow_int hc.1 hc.2 q
theorem b64 {i : Int} (h0 : 0 ≤ i) (h1 : i < 2147483647) : -(2 ^ 64) < i ∧ i < 2 ^ 64 := ⟨by omega, by omega⟩
/-- a purse: three numbers -/
def Pur (H : Hp) (p : Addr) (c : Int) : Prop := ∃ a b e : Int, H p = some (.lst [.int a, .int b, .int e]) ∧ 0 ≤ a ∧ 0 ≤ b ∧ b < 2147483647 ∧ 0 ≤ e ∧ e ≤ c
def subsR : W → List W
  | [] => [[]]
  | x :: r => subsR r ++ (subsR r).map fun t => t ++ [x]
def subs (ns : W) : List W := subsR ns.reverse
theorem mem_subsR : ∀ {r t : W}, t ∈ subsR r ↔ t.Sublist r.reverse
  | [], t => by
    rw [subsR, List.mem_singleton, List.reverse_nil, List.sublist_nil]
  | x :: r, t => by
    rw [subsR, List.mem_append, List.mem_map, List.reverse_cons, List.sublist_append_iff]
    constructor
    · rintro (h | ⟨s, hs, rfl⟩)
      · exact ⟨t, [], by simp, mem_subsR.mp h, by simp⟩
      · exact ⟨s, [x], rfl, mem_subsR.mp hs, List.Sublist.refl _⟩
    · rintro ⟨a, b, rfl, ha, hb⟩
      cases hb with
      | cons _ h =>
        left
        rw [List.sublist_nil.mp h, List.append_nil]
        exact mem_subsR.mpr ha
      | cons_cons _ h =>
        right
        exact ⟨a, mem_subsR.mpr ha, by rw [List.sublist_nil.mp h]⟩
theorem mem_subs {ns t : W} : t ∈ subs ns ↔ t.Sublist ns := by
  unfold subs
  rw [mem_subsR, List.reverse_reverse]
theorem subsR_nodup : ∀ {r : W}, r.Nodup → (subsR r).Nodup
  | [], _ => by simp [subsR]
  | x :: r, h => by
    obtain ⟨h1, h2⟩ := List.nodup_cons.mp h
    have ih := subsR_nodup h2
    rw [subsR]
    refine List.nodup_append.mpr ⟨ih, ?_, fun a ha b hb e => ?_⟩
    · exact List.Pairwise.map _ (fun a b (hab : a ≠ b) (e : a ++ [x] = b ++ [x]) => hab (List.append_cancel_right e)) ih
    · subst e
      obtain ⟨s, hs, rfl⟩ := List.mem_map.mp hb
      have z := (mem_subsR.mp ha).subset (List.mem_append_right s (List.mem_singleton.mpr rfl))
      exact h1 (List.mem_reverse.mp z)
theorem subs_nodup {ns : W} (h : ns.Nodup) : (subs ns).Nodup := subsR_nodup (List.pairwise_reverse.mpr (h.imp fun hne e => hne e.symm))
theorem subsR_len : ∀ r : W, (subsR r).length = 2 ^ r.length
  | [] => rfl
  | x :: r => by
    rw [subsR, List.length_append, List.length_map, subsR_len r, List.length_cons, Nat.pow_succ]
    omega
theorem subs_len (ns : W) : (subs ns).length = 2 ^ ns.length := by
  unfold subs
  rw [subsR_len, List.length_reverse]
theorem subs_snoc (ns : W) (x : Str) : subs (ns ++ [x]) = subs ns ++ (subs ns).map fun t => t ++ [x] := by
  unfold subs
  rw [List.reverse_append, List.reverse_singleton]
  rfl
theorem sub_mem {a b : W} (h : sub a b = true) : ∀ x ∈ a, x ∈ b := fun x hx => by
  unfold sub at h
  exact of_decide_eq_true (List.all_eq_true.mp h x hx)
theorem sub_of {a b : W} (h : ∀ x ∈ a, x ∈ b) : sub a b = true := by
  unfold sub
  exact List.all_eq_true.mpr fun x hx => decide_eq_true (h x hx)
/-- the parts of a world are the worlds within it -/
theorem parts_iff {ns t : W} (h : IsW ns) : t ∈ subs ns ↔ IsW t ∧ sub t ns = true := by
  rw [mem_subs]
  constructor
  · intro s
    exact ⟨⟨fun x hx => h.names x (s.subset hx), h.up.sublist s, Nat.le_trans s.length_le h.few⟩, sub_of fun x hx => s.subset hx⟩
  · rintro ⟨hw, hs⟩
    have e : ns.filter (fun x => decide (x ∈ t)) = t := upX_one (h.up.sublist List.filter_sublist) hw.up fun a => by
      rw [List.mem_filter, decide_eq_true_iff]
      exact ⟨fun z => z.2, fun z => ⟨sub_mem hs a z, z⟩⟩
    rw [← e]
    exact List.filter_sublist
/-- the list of worlds at l -/
def WL (K : PySem.W.Frag) (H : Hp) (l : Addr) (S : List W) : Prop := ∃ ys, H l = some (.lst ys) ∧ DpAll K H ys (S.map wd)
theorem WL.same {K : PySem.W.Frag} {H H' : Hp} {l : Addr} {R : List W} (h : WL K H l R) (e : Same H H') : WL K H' l R := by
  obtain ⟨xs, h1, h2⟩ := h
  exact ⟨xs, e _ _ h1, (Stay.same e).dpAll _ _ (okDs_wd R) h2⟩
theorem all_wd : ∀ {ds : List PyData}, (∀ d ∈ ds, ∃ p, d = wd p) → ∃ R : List W, ds = R.map wd
  | [], _ => ⟨[], rfl⟩
  | d :: ds, h => by
    obtain ⟨p, rfl⟩ := h d List.mem_cons_self
    obtain ⟨R, rfl⟩ := all_wd fun e he => h e (List.mem_cons_of_mem _ he)
    exact ⟨p :: R, rfl⟩
theorem perm_of_map {α β : Type} {f : α → β} (inj : ∀ a b, f a = f b → a = b) : ∀ {l m : List α}, (l.map f).Perm (m.map f) → l.Perm m := by
  intro l m h
  classical
  refine List.perm_iff_count.mpr fun a => ?_
  have z := List.perm_iff_count.mp h (f a)
  have c : ∀ k : List α, List.count (f a) (k.map f) = List.count a k := fun k => by
    induction k with
    | nil => rfl
    | cons x k ih =>
      rw [List.map_cons, List.count_cons, List.count_cons, ih]
      by_cases e : x = a
      · subst e
        simp
      · have e' : f x ≠ f a := fun z => e (inj _ _ z)
        simp [e, e']
  rw [c, c] at z
  exact z
theorem shaped_strs {ns : W} (h : ∀ x ∈ ns, nameB x = true) : SeqAt.shaped (.list (ns.map .str)) = true := by
  unfold SeqAt.shaped
  rw [PyData.canLay0, lay_strs h, PyData.depth, depth_str]
  rfl
theorem first_map {α β γ : Type} {f : β → Option γ} {g : α → β} : ∀ {l : List α}, (l.map g).findSome? f = l.findSome? fun a => f (g a)
  | [] => rfl
  | a :: l => by
    rw [List.map_cons, List.findSome?_cons, List.findSome?_cons, first_map (l := l)]
theorem first_filter {α γ : Type} {f : α → Option γ} {p : α → Bool} : ∀ {l : List α}, (l.filter p).findSome? f = l.findSome? fun a => if p a = true then f a else none
  | [] => rfl
  | a :: l => by
    rw [List.findSome?_cons, ← first_filter (l := l)]
    by_cases h : p a = true
    · rw [List.filter_cons_of_pos h, List.findSome?_cons, if_pos h]
    · rw [List.filter_cons_of_neg h, if_neg h]
theorem first_congr {α γ : Type} {f g : α → Option γ} {l : List α} (h : ∀ a ∈ l, f a = g a) : l.findSome? f = l.findSome? g := by
  induction l with
  | nil => rfl
  | cons a l ih =>
    rw [List.findSome?_cons, List.findSome?_cons, h a List.mem_cons_self, ih fun b hb => h b (List.mem_cons_of_mem _ hb)]
theorem sub_self (t : W) : sub t t = true := sub_of fun _ h => h
theorem sub_trans {a b c : W} (h : sub a b = true) (h2 : sub b c = true) : sub a c = true := sub_of fun x hx => sub_mem h2 x (sub_mem h x hx)
theorem room65 {k : Nat} {A : Around} (hr : Room k A) : A.units + 65 < cLine := by
  have := hr.un
  omega
theorem len_le {α : Type} [DecidableEq α] : ∀ {l m : List α}, l.Nodup → (∀ z ∈ l, z ∈ m) → l.length ≤ m.length
  | [], _, _, _ => Nat.zero_le _
  | x :: l, m, hn, hs => by
    obtain ⟨h1, h2⟩ := List.nodup_cons.mp hn
    have hx : x ∈ m := hs x List.mem_cons_self
    have ih := len_le (l := l) (m := m.erase x) h2 fun y hy => (List.mem_erase_of_ne (show y ≠ x from fun e => h1 (by rw [← e]; exact hy))).2 (hs y (List.mem_cons_of_mem _ hy))
    rw [List.length_erase_of_mem hx] at ih
    have := List.length_pos_of_mem hx
    rw [List.length_cons]
    omega
theorem prod_len {α β : Type} (m : List β) : ∀ l : List α, (l.flatMap fun a => m.map fun b => (a, b)).length = l.length * m.length
  | [] => by simp
  | a :: l => by
    rw [List.flatMap_cons, List.length_append, prod_len m l, List.length_map, List.length_cons, Nat.succ_mul]
    omega
theorem prod_mem {α β : Type} {l : List α} {m : List β} {a : α} {b : β} (ha : a ∈ l) (hb : b ∈ m) : (a, b) ∈ l.flatMap fun a => m.map fun b => (a, b) :=
  List.mem_flatMap.mpr ⟨a, ha, List.mem_map.mpr ⟨b, hb, rfl⟩⟩
def meet (ns ms : W) : W := ns.filter fun z => decide (z ∈ ms)
theorem isW_meet {a b : W} (h : IsW a) : IsW (meet a b) := ⟨fun x hx => h.names x (List.mem_filter.mp hx).1, h.up.sublist List.filter_sublist, Nat.le_trans (List.length_filter_le _ _) h.few⟩
theorem nodup_snoc {α : Type} {L : List α} {p : α} (n : L.Nodup) (h : p ∉ L) : (L ++ [p]).Nodup := List.nodup_append.mpr ⟨n, by simp, fun a ha b hb e => by
  rw [List.mem_singleton] at hb
  subst hb
  exact h (e ▸ ha)⟩
def Bar (p : Addr) (H H' : Hp) : Prop := ∀ b u, b ≠ p → H b = some u → H' b = some u
theorem Bar.same {p : Addr} {H H' : Hp} (h : Same H H') : Bar p H H' := fun b u _ e => h b u e
theorem Bar.trans {p : Addr} {H H1 H2 : Hp} (a : Bar p H H1) (b : Bar p H1 H2) : Bar p H H2 := fun c u n e => b c u n (a c u n e)
theorem Bar.draw {p : Addr} {H : Hp} {o : HO} : Bar p H (upd H p o) := fun b u n e => by
  rw [upd_ne n]
  exact e
theorem Bar.put {p l : Addr} {H H' : Hp} (h : Bar p H H') (n : H l = none) {o : HO} : Bar p H (upd H' l o) := fun b u nb e => by
  rw [upd_ne (ne_of_none e n)]
  exact h b u nb e
theorem Pur.mut {H : Hp} {p : Addr} {c : Int} (h : Pur H p c) : Mut (H p) := by
  obtain ⟨a, b, e, h, _⟩ := h
  rw [h]
  exact True.intro
theorem Pur.some {H : Hp} {p : Addr} {c : Int} (h : Pur H p c) {q : Addr} (n : H q = none) : q ≠ p := fun e => by
  obtain ⟨a, b, e', h, _⟩ := h
  rw [e, h] at n
  cases n
theorem Pur.same {H H' : Hp} {p : Addr} {c : Int} (h : Pur H p c) (e : Same H H') : Pur H' p c := by
  obtain ⟨a, b, e', h, g⟩ := h
  exact ⟨a, b, e', e _ _ h, g⟩
theorem Pur.put {H : Hp} {p l : Addr} {c : Int} (h : Pur H p c) (n : l ≠ p) {o : HO} : Pur (upd H l o) p c := by
  obtain ⟨a, b, e', h, g⟩ := h
  refine ⟨a, b, e', ?_, g⟩
  rw [upd_ne n.symm]
  exact h
theorem Pur.le {H : Hp} {p : Addr} {c d : Int} (h : Pur H p c) (l : c ≤ d) : Pur H p d := by
  obtain ⟨a, b, e', h, g1, g2, g3, g4, g5⟩ := h
  exact ⟨a, b, e', h, g1, g2, g3, g4, Int.le_trans g5 l⟩
theorem Bar.stay {p : Addr} {H H' : Hp} (h : Bar p H H') (m : Mut (H p)) : Stay H H' := fun b xs r => by
  have ne : b ≠ p := fun z => by
    subst z
    rcases r with r | ⟨u, r⟩
    · rw [r] at m; exact m
    · rw [r] at m; exact m
  rcases r with r | ⟨o, r⟩
  · exact .inl (h _ _ ne r)
  · exact .inr ⟨o, h _ _ ne r⟩
theorem idx_new' {α : Type} {ds : List α} (hn : ds.Nodup) {i : Nat} {d : α} (h : ds[i]? = some d) : d ∉ ds.take i := fun hm => by
  have z := take_snoc h
  have nd : (ds.take (i + 1)).Nodup := List.Nodup.sublist (List.take_sublist _ _) hn
  rw [z] at nd
  obtain ⟨_, _, h3⟩ := List.nodup_append.mp nd
  exact h3 d hm d (List.mem_singleton.mpr rfl) rfl
theorem evalArgs_kw0 {M : Model} {A : Around} {E : Value → Shared → Prop} {s : Shared} {f : Value} {kwl : List (Option Str × Sem Value)} {Q : Args → Shared → Prop} (hall : (kwl.all fun x => x.1.isSome) = true)
    (h : wpAny M A (evalAll (kwl.map fun x => x.2)) (fun ks s₂ => Q { pos := [], kw := (kwl.filterMap fun x => x.1).zip ks } s₂) E s) : wpAny M A (evalArgs f true [] kwl) Q E s := by
  unfold evalArgs
  refine wpAny_bind (Calls.spliced_nil ?_)
  refine wpAny_bind (wpAny_pure ?_)
  refine wpAny_holding ?_
  rw [if_pos hall]
  refine wpAny_bind (wpAny_mono h (fun ks s2 q => ?_) fun _ _ e => e)
  exact wpAny_bind (wpAny_pure (wpAny_pure q))
theorem pe_callK0 {X : Cx} {CX : CXT} {k : Nat} {f : Addr} {fd : FuncData} {ps ks : List Str} {sp : Sp} {E : XK} {x : Str} {p pos : Pos} {kws : List Keyword} {tk : TA} {g : List Value → List Value → List Value} {gV : List V → List V → List V}
    (F : FnOk X.prog X.w X.K X.mg X.base CX k f fd ps sp) (hr : Room k X.A) (hg : Gl X x) (hm : X.mg x = some (.ref f)) (hk : PySem.W.keepIn X.K (.ref f) = true) (hb : KBn X.K fd ps 0 ks g gV) (hx : Passes CX X E) (hkw : PK X kws tk)
    (hall : ((backToKw pos (keywordEach kws X.env)).all fun x => x.1.isSome) = true) (hks : (backToKw pos (keywordEach kws X.env)).filterMap (fun x => x.1) = ks) (hdb : (x == ("__debug__" : Str)) = false)
    (hpl : ((([] : List (Bool × Sem Value)).any fun x => x.1) || (backToKw pos (keywordEach kws X.env)).any fun x => x.1.isNone) = false) (hst : backTo pos (starEach [] X.env) = []) :
    PE X (.Call (.Name x p) [] kws pos) (fun σ H Q => tk σ H fun zs H1 => zs.length = ks.length ∧ sp (gV [] zs) H1 Q E) := by
  refine ⟨fun pins s σ H Q I h => wpAny_Call_Name_kw (ld_glob I hg hm ?_ hdb)⟩
  rw [hst]
  refine PySem.W.callWith_of hpl (PySem.W.keeps_K hk) (evalArgs_kw0 hall (thn (hkw.run pos pins s σ H (fun zs H1 => zs.length = ks.length ∧ sp (gV [] zs) H1 Q E) I h) fun ws s2 ⟨zs, H2, I2, rz, l2, q2⟩ => ⟨Inv.kIn I2, ?_⟩))
  rw [hks]
  exact run_fnN F hr hb hx I2 .nil rz rfl l2 q2
def tMid (t u : TS) : TS := fun D σ H => ∃ I : L2.St → Hp → Prop, t { nx := I, rt := D.rt, bk := D.bk, ct := D.ct } σ H ∧ ∀ σ' H', I σ' H' → u D σ' H'
/-- the first statement up to a mark of one's own, then the rest from it -/
theorem pss_mid {X : Cx} {st : Stmt} {rest : List Stmt} {t u : TS} (h1 : PS X st t) (h2 : PSs X rest u) : PSs X (st :: rest) (tMid t u) := by
  refine ⟨fun pins s σ H D I ⟨J, a, b⟩ => ?_⟩
  refine wpAny_execs_cons (thn (h1.run pins s σ H _ I a) fun f s1 q => ?_)
  cases f with
  | next =>
    obtain ⟨σ', H', I', q⟩ := q
    exact h2.run pins s1 σ' H' D I' (b σ' H' q)
  | brk => exact q
  | cont => exact q
  | ret v => exact q
/-- a def with defaults, called by names -/
theorem kbn_def {K : PySem.W.Frag} {x qual : Str} {params : Arguments} {body : List Stmt} {scope : Scope} {dvs : List V} {kws : List (Str × V)} {f : Addr} {fd : FuncData} {ps : List Str} (F : FunD K x qual params body scope dvs kws f fd) (hd : dvs ≠ []) (n : Nat) (ks : List Str) (g : List Value → List Value → List Value → List Value) (gV : List V → List V → List V)
    (h : ∀ (T : Addr) (kV doc pm : Value) (an : Option Addr) (cdv ct : Value) (us its ws : List Value), us.length = n → its.length = dvs.length → ws.length = ks.length → ∃ k, bindArgs (PySem.W.fnOf x qual params body scope (.ref T) kV doc pm an cdv ct) { pos := us, kw := ks.zip ws } = seqItems? (.ref T) >>= k ∧ k (some its.toArray) = pure (ps.zip (g us its ws)))
    (rel : ∀ {vs : List V} {us its : List Value} {zs : List V} {ws : List Value}, Vals vs us → Vals dvs its → Vals zs ws → Vals (gV vs zs) (g us its ws)) : ∃ its, Vals dvs its ∧ KBn K fd ps n ks (fun us ws => g us its ws) gV := by
  obtain ⟨oc, od, dV, kV, doc, pm, an, cdv, ct, osl, rfl, lk, hcd, hD, hK⟩ := F.ex
  rcases hD with ⟨e, _⟩ | ⟨_, T, o, its, m, rfl, lT, oT, rT⟩
  · exact absurd e hd
  · refine ⟨its, rT, ⟨fun s us ws X l1 l2 => ?_, fun a b => rel a rT b⟩⟩
    intro M A E Q q
    obtain ⟨k, e1, e2⟩ := h T kV doc pm an cdv ct us its ws l1 rT.length.symm l2
    rw [e1]
    refine wpAny_bind (wpAny_seqItems (X T o lT) oT ?_)
    rw [e2]
    exact wpAny_pure q
theorem shaped_of {d : PyData} (h : d.canLay0 = true) (n : d.depth ≤ 64) : SeqAt.shaped d = true := by
  unfold SeqAt.shaped
  rw [h, decide_eq_true n]
  rfl
theorem eqv_self {d : PyData} (h : SeqAt.shaped d = true) : PyData.eqv d d = true := by
  unfold SeqAt.shaped at h
  rw [Bool.and_eq_true] at h
  exact SeqAt.eqv_refl d h.1
theorem dpAll_drop {K : PySem.W.Frag} {H : Hp} : ∀ {xs : List V} {ds : List PyData} (n : Nat), DpAll K H xs ds → DpAll K H (xs.drop n) (ds.drop n)
  | _, _, 0, h => h
  | _, _, _ + 1, .nil => .nil
  | _, _, n + 1, .cons _ t => dpAll_drop n t
theorem dpAll_take {K : PySem.W.Frag} {H : Hp} : ∀ {xs : List V} {ds : List PyData} (n : Nat), DpAll K H xs ds → DpAll K H (xs.take n) (ds.take n)
  | _, _, 0, _ => by
    rw [List.take_zero, List.take_zero]
    exact .nil
  | _, _, _ + 1, .nil => .nil
  | _, _, n + 1, .cons h t => .cons h (dpAll_take n t)
theorem dpAll_rev {K : PySem.W.Frag} {H : Hp} : ∀ {xs : List V} {ds : List PyData}, DpAll K H xs ds → DpAll K H xs.reverse ds.reverse
  | _, _, .nil => .nil
  | _, _, .cons h t => by
    rw [List.reverse_cons, List.reverse_cons]
    exact dpAll_app (dpAll_rev t) (.cons h .nil)
theorem dpAll_erase {K : PySem.W.Frag} {H : Hp} : ∀ {xs : List V} {ds : List PyData} (n : Nat), DpAll K H xs ds → DpAll K H (xs.eraseIdx n) (ds.eraseIdx n)
  | _, _, 0, .cons _ t => t
  | _, _, _ + 1, .cons h t => .cons h (dpAll_erase _ t)
  | _, _, _, .nil => .nil
theorem map_erase {α β : Type} (f : α → β) : ∀ (l : List α) (n : Nat), (l.map f).eraseIdx n = (l.eraseIdx n).map f
  | [], _ => rfl
  | _ :: _, 0 => rfl
  | a :: l, n + 1 => congrArg (f a :: ·) (map_erase f l n)
theorem none_bar {p l : Addr} {H H' : Hp} {c : Int} (b : Bar p H H') (pu : Pur H' p c) (n : H' l = none) : H l = none := by
  have ne := pu.some n
  cases e : H l with
  | none => rfl
  | some u =>
    rw [b l u ne e] at n
    cases n
theorem vals_app : ∀ {xs ys : List V} {us ws : List Value}, Vals xs us → Vals ys ws → Vals (xs ++ ys) (us ++ ws)
  | _, _, _, _, .nil, h => h
  | _, _, _, _, .cons r t, h => .cons r (vals_app t h)
theorem fun_of {K : PySem.W.Frag} {x qual : Str} {st : Stmt} {f : Addr} {fd : FuncData} (F : FunD K x qual (defArgs st) (defBody st) (defScope st) [] [] f fd) : Fun K x qual st f fd := by
  obtain ⟨oc, od, dV, kV, doc, pm, an, cdv, ct, osl, e, lk, hcd, hD, hK⟩ := F.ex
  rcases hD with ⟨_, rfl⟩ | ⟨h, _⟩
  · exact ⟨⟨oc, od, kV, doc, pm, an, cdv, ct, osl, e, lk, hcd⟩, F.kp⟩
  · exact absurd rfl h
end Rw
namespace Rw
open PySem PySem.Spec PyProof.Rows L2
/-! ### enumerate of a tuple -/
theorem meets_enumT (l : Addr) (items : Array Value) : Meets (Builtin.«enumerate.__new__» { pos := [Value.type "enumerate", Value.ref l] }) fun _ R s =>
    s.heap.IsTuple l items ∧ R (Except.ok (Flow.ret (Value.ref (s.heap.push { cls := Value.type "tuple_iterator", data := Data.fields #[Value.ref l, Value.int 0 0] }).objs.size)))
        { heap := (s.heap.push { cls := Value.type "tuple_iterator", data := Data.fields #[Value.ref l, Value.int 0 0] }).push
              { cls := Value.type "enumerate", data := Data.fields #[Value.none, Value.bool false, Value.ref s.heap.objs.size, rawInt 0, Value.none, Value.none] },
          gens := s.gens, drawn := s.drawn, toks := s.toks, os := s.os } := by
  refine Meets.of_wp fun prog w A R s h => ?_
  obtain ⟨hl, h⟩ := h
  have hsub := sub_enumerate
  unfold Builtin.«enumerate.__new__»
  refine wpAny_bind ?_
  unfold Builtin.SmallTypes.newClass
  refine wpAny_bind (wpAny_pure (wpAny_ite_false rfl (wpAny_bind (wpAny_of_eq hsub (wpAny_ite_false rfl (wpAny_pure (wpAny_ite_true rfl (wpAny_bind ?_))))))))
  unfold Builtin.SmallTypes.calledThroughType
  refine wpAny_bind (wpAny_stack_any fun st => wpAny_pure ?_)
  have fin : wpAny (model prog w) A.in1 (do
      let it ← pyIter (.ref l)
      let r ← Builtin.SmallTypes.newRecord (.type "enumerate") (Builtin.SmallTypes.ownedTupleFields ++ [it, rawInt 0, Value.none, Value.none])
      ret r) (fun fin s' => ∃ v, fin = Fin.done (Flow.ret v) ∧ R (Except.ok (Flow.ret v)) s') (fun e s' => R (Except.error e) s') s := by
    refine wpAny_bind (wpAny_pyIter_tuple hl ?_)
    refine wpAny_bind ?_
    unfold Builtin.SmallTypes.newRecord
    refine wpAny_bind (wpAny_alloc ?_)
    refine wpAny_pure ?_
    exact wpAny_pure ⟨_, rfl, h⟩
  split
  · generalize (_ == Value.type "enumerate") = b
    cases b
    · refine wpAny_ite_false rfl (wpAny_bind (wpAny_of_eq (a := (Value.ref l, none)) rfl fin))
    · refine wpAny_ite_true rfl (wpAny_bind (wpAny_of_eq (a := (Value.ref l, none)) rfl fin))
  · refine wpAny_ite_false rfl (wpAny_bind (wpAny_of_eq (a := (Value.ref l, none)) rfl fin))
theorem call_enumT {prog : Program} {w : World} {A : Around} {E : Value → Shared → Prop} {s : Shared} {l : Addr} {items : Array Value} {Q : Value → Shared → Prop} (hT : s.heap.IsTuple l items)
    (h : ∀ h' : Heap, IsEnum h' (s.heap.objs.size + 1) s.heap.objs.size 0 Value.none → h'.IsTupleIter s.heap.objs.size l 0 → h'.objs.size = s.heap.objs.size + 2 → (∀ (b : Addr) (o : Obj), s.heap.get? b = some o → h'.get? b = some o) →
      Q (.ref (s.heap.objs.size + 1)) { heap := h', gens := s.gens, drawn := s.drawn, toks := s.toks, os := s.os }) : wpAny (model prog w) A (call (.type "enumerate") [.ref l]) Q E s := by
  refine callType_new F.called_enumerate (by decide) (F.typeCall_enumerate_1 (.ref l)) (F.newCall_enumerate_1 (.ref l)) (fun obj => F.args_object_init_2 obj (.ref l)) F.entry_enumerate_new (meets_enumT l items) ⟨hT, ?_⟩
  have hz := Heap.size_push s.heap { cls := .type "tuple_iterator", data := .fields #[.ref l, .int 0 0] }
  show _ ∧ _
  rw [hz]
  have he := Heap.get?_push_size (s.heap.push { cls := .type "tuple_iterator", data := .fields #[.ref l, .int 0 0] }) (o := { cls := .type "enumerate", data := .fields #[.none, .bool false, .ref s.heap.objs.size, rawInt 0, .none, .none] }) rfl
  rw [hz] at he
  refine ⟨⟨_, he, rfl⟩, h _ he ⟨_, Heap.get?_push_of_some _ (Heap.get?_push_size s.heap rfl), rfl, rfl⟩ ?_ fun b o e => Heap.get?_push_of_some _ (Heap.get?_push_of_some _ e)⟩
  rw [Heap.size_push, hz]
/-- enumerate of a tuple: what it gives -/
def Ietup (K : PySem.W.Frag) (a : Addr) : It where
  go := fun i H => ∃ xs x, SqT K H a xs ∧ xs[i]? = some x
  yld := fun i H v H' => ∃ T x, v = .ref T ∧ H T = none ∧ H' = upd H T (.tup [.int (i : Int), x]) ∧ ∀ xs, SqT K H a xs → xs[i]? = some x
  stop := fun i H => ∃ xs, SqT K H a xs ∧ xs.length = i
theorem tup_enum_ne {h : Heap} {a e it : Addr} {items : Array Value} {i : Int} {old : Value} (ht : h.IsTuple a items) (he : IsEnum h e it i old) : e ≠ a := fun z => by
  obtain ⟨o, h1, h2, _⟩ := ht
  rw [← z, he] at h1
  cases h1
  exact absurd (show Value.type "enumerate" = Value.type "tuple" from h2) (by decide)
theorem tup_iter_ne {h : Heap} {a it l : Addr} {items : Array Value} {i : Nat} (ht : h.IsTuple a items) (he : h.IsTupleIter it l i) : a ≠ it := fun z => by
  obtain ⟨o, h1, h2, _⟩ := ht
  obtain ⟨o', h3, h4, _⟩ := he
  rw [z, h3] at h1
  cases h1
  rw [h4] at h2
  exact absurd h2 (by decide)
theorem turn_enumT {P : Program} {w : World} {K : PySem.W.Frag} {elts : List Expr} {kk : Nat} {tpos : Pos} (a e it : Addr) : Turn P w K (.Tuple elts kk tpos) (Ietup K a) [e, it] e (fun i h => (∃ old, IsEnum h e it (i : Int) old) ∧ h.IsTupleIter it a i ∧ e ≠ it) := by
  refine ⟨by simp, fun i h st b hb => ?_, fun i h h' st k => ?_, fun X hP hw hK hc i pins s σ H E I hf st hg => ?_, fun X hP hw hK hc i pins s σ H E I hf st hg => ?_, fun A i s Q E st h => ?_⟩
  · obtain ⟨⟨old, he⟩, ⟨o, ho, hcl, hd⟩, _⟩ := st
    rcases List.mem_cons.mp hb with z | hb
    · subst z
      exact ⟨_, he, fun v q => nomatch q⟩
    · rw [List.mem_singleton.mp hb]
      refine ⟨o, ho, fun v q => ?_⟩
      rw [hd] at q
      cases q
  · obtain ⟨⟨old, he⟩, hi, hne⟩ := st
    exact ⟨⟨old, k e (by simp) _ he⟩, hi.at fun o q => k it (by simp) o q, hne⟩
  · subst hP hw hK
    obtain ⟨⟨old, he⟩, hit, hne⟩ := st
    obtain ⟨xs, x, hq, hx⟩ := hg
    obtain ⟨its, rv, p, hz⟩ := I.tuple hq
    have ht : s.heap.IsTuple a its.toArray := p
    have ea := tup_enum_ne ht he
    have ai := tup_iter_ne ht hit
    have hl := rv.length
    have hin : i < its.toArray.size := by
      rw [List.size_toArray, ← hl]
      exact (List.getElem?_eq_some_iff.mp hx).1
    refine wpAny_pyNext_enum_itemD (Draws.tuple (A := X.A.in1) (I.ok.hd hc) it a ai its.toArray) he ⟨hit, ht⟩ hin hne (by simp [hne, ea]) fun u h' tk hu ho st' hT hsz hk => ⟨.ref s.heap.objs.size, rfl, ?_⟩
    refine wpAny_letOwnedTupleGo_enum ho fun h'' he' sb => ?_
    have hel : e < s.heap.objs.size := Heap.lt_size he
    have hil : it < s.heap.objs.size := by
      obtain ⟨o, ho, _⟩ := hit
      exact Heap.lt_size ho
    have hT2 : h''.get? s.heap.objs.size = _ := (sb.2 s.heap.objs.size (Nat.ne_of_gt hel)).trans hT
    have hu' : its[i]? = some u := by simpa using hu
    obtain ⟨x', hx', ru⟩ := vals_at rv hu'
    have exx : x' = x := Option.some.inj (hx'.symm.trans hx)
    subst exx
    have new : ObjOk X.prog X.w (upd H s.heap.objs.size (.tup [.int (i : Int), x'])) h'' s.heap.objs.size (.tup [.int (i : Int), x']) :=
      ⟨by show 2 ≤ sizeLine; decide, [.int (i : Int) tk, u], .cons ⟨tk, rfl⟩ (.cons ru .nil), ⟨_, hT2, rfl, 0, rfl⟩⟩
    have kept : ∀ (b : Addr) (o : Obj), b ∉ [e, it] → s.heap.get? b = some o → h''.get? b = some o := fun b o hb q => by
      have n1 : b ≠ e := fun z => hb (by simp [z])
      have n2 : b ≠ it := fun z => hb (by simp [z])
      exact (sb.2 b n1).trans (hk b o n1 n2 q)
    have I1 := I.turnedNew (t' := tk + 1) kept hf (Nat.le_refl _) new
    refine ⟨.ref s.heap.objs.size, _, I1, rfl, ⟨s.heap.objs.size, x', rfl, I.hok.fresh (Nat.le_refl _), rfl, fun ys hy => ?_⟩, ⟨⟨u, ?_⟩, st'.1.at fun o q => (sb.2 it hne.symm).trans q, hne⟩, fun b hb => ?_⟩
    · obtain ⟨its2, rv2, p2, _⟩ := I.tuple hy
      have ht2 : s.heap.IsTuple a its2.toArray := p2
      have ei : its2.toArray = its.toArray := by
        obtain ⟨o, a1, a2, n, a3⟩ := ht
        obtain ⟨o', b1, b2, n', b3⟩ := ht2
        rw [a1] at b1
        cases b1
        rw [a3] at b3
        cases b3
        rfl
      have ei' : its2 = its := by
        have := congrArg Array.toList ei
        simpa using this
      subst ei'
      obtain ⟨y, hy1, ry⟩ := vals_at rv2 hu'
      rw [RelV.inj ru ry]
      exact hy1
    · have e1 : ((i : Int) + 1) = ((i + 1 : Nat) : Int) := rfl
      rw [← e1]
      exact he'
    · have hb' : b < s.heap.objs.size := by
        rcases List.mem_cons.mp hb with z | hb
        · rw [z]
          exact hel
        · rw [List.mem_singleton.mp hb]
          exact hil
      rw [upd_ne (Nat.ne_of_lt hb')]
      exact (hf b hb).1
  · subst hP hw hK
    obtain ⟨⟨old, he⟩, hit, hne⟩ := st
    obtain ⟨xs, hq, hx⟩ := hg
    obtain ⟨its, rv, p, hz⟩ := I.tuple hq
    have ht : s.heap.IsTuple a its.toArray := p
    have ai := tup_iter_ne ht hit
    obtain ⟨f0, f1, f2, f3, f4, f5⟩ := hf it (by simp)
    have sz : its.toArray.size = i := by rw [List.size_toArray, ← rv.length, hx]
    refine wpAny_pyNext_enum_endD (Draws.tuple (A := X.A.in1) (I.ok.hd hc) it a ai its.toArray) he ⟨by rw [sz]; exact hit, ht⟩ fun h' eb => ⟨rfl, I.turned (fun b o hb q => eb b o hb q) f0 f1 f3 f4 f5⟩
  · obtain ⟨⟨_, he⟩, _⟩ := st
    exact wpAny_pyIter_enum he h
def iEnumT (K : PySem.W.Frag) (ta : TA) : TI := fun σ H R => ta σ H fun vs H1 => ∃ a xs, vs = [.ref a] ∧ SqT K H1 a xs ∧ R (Ietup K a) H1
theorem pi_enumT {X : Cx} {e : Expr} {ta : TA} {p pos tpos : Pos} {elts : List Expr} {kk : Nat} (hg : Gl X "enumerate") (hm : X.mg "enumerate" = none) (ha : PA X [e] ta) (hs : starEach [e] X.env = [(false, eval e X.env)] := by rfl) : PI X (.Tuple elts kk tpos) (.Call (.Name "enumerate" p) [e] [] pos) (iEnumT X.K ta) := by
  refine ⟨fun pins s σ H R I h => Call_ (ld_blt I hg hm boot_enumerate (PyProof.Rows.callWith_type1 (thn (ha.run pos pins s σ H _ I h) fun us s1 ⟨vs, H1, I1, r1, a, xs, ex, hq, q⟩ => ?_) hs rfl) (by decide) (by decide)) rfl⟩
  subst ex
  rw [Vals.ref1 r1]
  obtain ⟨its, rv, p', hz⟩ := I1.tuple hq
  refine call_enumT p' fun h' he hit hsz hk => ?_
  refine wpAny_pyIter_enum he ?_
  have I2 := I1.kept (t' := s1.toks) hk
  refine ⟨s1.heap.objs.size + 1, [s1.heap.objs.size + 1, s1.heap.objs.size], _, Ietup X.K a, H1, rfl, I2, turn_enumT a (s1.heap.objs.size + 1) s1.heap.objs.size, ⟨⟨_, he⟩, hit, Nat.succ_ne_self _⟩, fun b hb => ?_, q⟩
  rcases List.mem_cons.mp hb with z | hb
  · subst z
    exact I1.fpOk (Nat.le_succ _) (I1.hok.fresh (Nat.le_succ _))
  · rw [List.mem_singleton.mp hb]
    exact I1.fpOk (Nat.le_refl _) (I1.hok.fresh (Nat.le_refl _))
end Rw
namespace Rw
open PySem PySem.Spec PyProof.Rows L2
/-! ### walks over enumerate(tuple); instances made of starred arguments -/
theorem for_enumT {K : PySem.W.Frag} {a : Addr} {xs : List V} {g : TG} {tb : TS} {D : Ends} {σ : L2.St} {H : Hp} (Pv : Nat → L2.St → Hp → Prop) (h0 : Pv 0 σ H) (hl : ∀ i σ H, i ≤ xs.length → Pv i σ H → SqT K H a xs)
    (hs : ∀ i x σ H T, xs[i]? = some x → Pv i σ H → H T = none → g (.ref T) σ (upd H T (.tup [.int (i : Int), x])) fun σ2 H2 => tb { nx := Pv (i + 1), rt := D.rt, bk := D.nx, ct := Pv (i + 1) } σ2 H2) (hd : ∀ σ H, Pv xs.length σ H → D.nx σ H) :
    ∃ W : Nat → Nat → L2.St → Hp → Prop, (∃ m, W 0 m σ H) ∧ ∀ i m σ H, W i m σ H → ((Ietup K a).stop i H ∧ D.nx σ H) ∨ ((Ietup K a).go i H ∧ ∃ N : L2.St → Hp → Prop, (∀ σ' H', N σ' H' → ∃ m', m' < m ∧ W (i + 1) m' σ' H') ∧
      ∀ x H', (Ietup K a).yld i H x H' → g x σ H' fun σ2 H2 => tb { nx := N, rt := D.rt, bk := D.nx, ct := N } σ2 H2) := by
  refine ⟨fun i m σ H => m = xs.length - i ∧ i ≤ xs.length ∧ Pv i σ H, ⟨xs.length, by simp, Nat.zero_le _, h0⟩, ?_⟩
  rintro i m σ H ⟨rfl, hi, p⟩
  have hS := hl i σ H hi p
  by_cases hlt : i < xs.length
  · refine .inr ⟨⟨xs, xs[i], hS, List.getElem?_eq_getElem hlt⟩, Pv (i + 1), fun σ' H' p' => ⟨xs.length - (i + 1), by omega, rfl, hlt, p'⟩, fun y H' yy => ?_⟩
    obtain ⟨T, x, rfl, hT, rfl, hx⟩ := yy
    exact hs i x σ H T (hx xs hS) p hT
  · have e : i = xs.length := by omega
    subst e
    exact .inl ⟨⟨xs, hS, rfl⟩, hd σ H p⟩
def tMakeS (K : PySem.W.Frag) (C : Addr) (sp : Sp) (E : XK) (te : TE) : TE := fun σ H Q => te σ H fun y H1 => ∃ a xs, y = V.ref a ∧ (SqT K H1 a xs ∨ SqL K H1 a xs) ∧ ∀ x dx, H1 x = none → H1 dx = none → dx ≠ x → sp (V.ref x :: xs) (upd (upd H1 dx (.own x)) x (.ins C dx [])) (fun v H2 => v = .non ∧ Q (.ref x) H2) E
/-- C(*e), C a class of the module -/
theorem pe_makeS {X : Cx} {CX : CXT} {k : Nat} {f C : Addr} {sp : Sp} {E : XK} {x : Str} {e : Expr} {te : TE} {p sp_ pos : Pos} (M : Mk X.K C f) (F : FnR X.prog X.w X.K X.mg X.base CX k f sp) (hr : Room (k + 1) X.A) (hg : Gl X x) (hm : X.mg x = some (.ref C)) (hx : Passes CX X E) (he : PE X e te)
    (hd : (x == ("__debug__" : Str)) = false := by rfl) (hst : starEach [e.Starred sp_] X.env = [(true, eval e X.env)] := by rfl) : PE X (.Call (.Name x p) [.Starred e sp_] [] pos) (tMakeS X.K C sp E te) :=
  ⟨fun pins s σ H Q I h => wpAny_Call_Name_kw (ld_glob I hg hm (PySem.W.callWith_S I.ok.mod.kin M.kp (thn (he.run pins s σ H _ I h) fun v s1 ⟨y, H1, I1, ry, a, xs, ey, hxs, q⟩ => by
    subst ey
    obtain rfl : v = Value.ref a := ry
    exact StX.star_any I1 hxs fun us s2 I2 rv => ⟨Inv.kIn I2, StX.run_makeR M F hr hx I2 rv q⟩) hst) hd)⟩
/-- cls(*e), cls a local name that holds the class -/
theorem pe_makeSL {X : Cx} {CX : CXT} {k i : Nat} {f C : Addr} {sp : Sp} {E : XK} {x : Str} {e : Expr} {te : TE} {p sp_ pos : Pos} (M : Mk X.K C f) (F : FnR X.prog X.w X.K X.mg X.base CX k f sp) (hr : Room (k + 1) X.A) (hN : X.N[i]? = some x) (hv : Vis X.env.scope x) (hx : Passes CX X E) (he : PE X e te)
    (hd : (x == ("__debug__" : Str)) = false := by rfl) (hcd : (x == ("__classdict__" : Str)) = false := by rfl) (hst : starEach [e.Starred sp_] X.env = [(true, eval e X.env)] := by rfl) :
    PE X (.Call (.Name x p) [.Starred e sp_] [] pos) (fun σ H Q => σ[i]? = some (some (.ref C)) ∧ tMakeS X.K C sp E te σ H Q) := by
  refine ⟨fun pins s σ H Q I ⟨hs, h⟩ => wpAny_Call_Name_kw (thn ((pe_var hN hv hd hcd).run pins s σ H (fun v H1 => v = V.ref C ∧ H1 = H) I ⟨.ref C, hs, rfl, rfl⟩) fun u s1 ⟨v, H0, I1, r1, ev, eH⟩ => ?_)⟩
  subst ev eH
  obtain rfl : u = Value.ref C := r1
  exact PySem.W.callWith_S I1.ok.mod.kin M.kp (thn (he.run pins s1 σ _ _ I1 h) fun v s1 ⟨y, H1, I1, ry, a, xs, ey, hxs, q⟩ => by
    subst ey
    obtain rfl : v = Value.ref a := ry
    exact StX.star_any I1 hxs fun us s2 I2 rv => ⟨Inv.kIn I2, StX.run_makeR M F hr hx I2 rv q⟩) hst
theorem fnr_of {P : Program} {w : World} {K : PySem.W.Frag} {mg : Str → Option Value} {base : Heap} {CX : CXT} {k : Nat} {f : Addr} {fd : FuncData} {ps : List Str} {sp : Sp} (F : FnOk P w K mg base CX k f fd ps sp) (b : Binds K fd ps []) : FnR P w K mg base CX k f sp := fun A outer s H us vs Q E hr e0 r h => by
  have hl := F.len vs H Q E h
  have ul : us.length = ps.length := by rw [← r.length, hl]
  have z := b s us (PySem.W.Frag.In.keeps e0.mod.kin fun b o e => (e0.bs b o e).1) (by rw [List.append_nil]; exact ul)
  rw [List.append_nil] at z
  exact F.run A outer s H _ us vs Q E hr e0 z r h
end Rw
namespace Rw
open PySem PySem.Spec PyProof.Rows L2
/-! ### rules: heads, denied, needs, bars -/
abbrev Rl := W × W × W × W
def parts (r : Rl) : List W := [r.1, r.2.1, r.2.2.1, r.2.2.2]
def rd (r : Rl) : PyData := .tuple ((parts r).map wd)
structure IsR (r : Rl) : Prop where
  h : IsW r.1
  d : IsW r.2.1
  n : IsW r.2.2.1
  b : IsW r.2.2.2
theorem IsR.all {r : Rl} (h : IsR r) : ∀ t ∈ parts r, IsW t := fun t ht => by
  unfold parts at ht
  simp only [List.mem_cons, List.mem_nil_iff, or_false] at ht
  rcases ht with e | e | e | e <;> subst e
  · exact h.h
  · exact h.d
  · exact h.n
  · exact h.b
theorem wds_inj : ∀ {a b : List W}, a.map wd = b.map wd → a = b
  | [], [], _ => rfl
  | [], _ :: _, h => by simp at h
  | _ :: _, [], h => by simp at h
  | x :: a, y :: b, h => by
    simp only [List.map_cons, List.cons.injEq] at h
    rw [wd_inj h.1, wds_inj h.2]
theorem rd_inj {p q : Rl} (h : rd p = rd q) : p = q := by
  unfold rd at h
  injection h with h
  have z := wds_inj h
  unfold parts at z
  simp only [List.cons.injEq, and_true] at z
  obtain ⟨h1, h2, h3, h4⟩ := z
  exact Prod.ext h1 (Prod.ext h2 (Prod.ext h3 h4))
theorem ok_rd (r : Rl) : okD (rd r) = true := by
  unfold rd
  rw [okD]
  exact okDs_wd _
theorem depthAll_wd : ∀ L : List W, PyData.depthAll (L.map wd) ≤ 1
  | [] => by simp [PyData.depthAll]
  | x :: L => by
    have := depthAll_wd L
    rw [List.map_cons, PyData.depthAll, depth_wd]
    omega
theorem depth_rd (r : Rl) : (rd r).depth ≤ 2 := by
  have := depthAll_wd (parts r)
  unfold rd
  rw [PyData.depth]
  omega
theorem good_rd (r : Rl) : Good (rd r) := ⟨ok_rd r, Nat.le_trans (depth_rd r) (by decide), ⟨_, rfl⟩⟩
theorem lay_wds : ∀ {L : List W}, (∀ t ∈ L, IsW t) → PyData.canLayAll0 (L.map wd) = true
  | [], _ => by simp [PyData.canLayAll0]
  | t :: L, h => by
    rw [List.map_cons, PyData.canLayAll0, lay_wds fun y hy => h y (List.mem_cons_of_mem _ hy), lay_wd (h t List.mem_cons_self).names]
    rfl
theorem lay_rd {r : Rl} (h : IsR r) : (rd r).canLay0 = true := by
  unfold rd
  rw [PyData.canLay0]
  exact lay_wds h.all
theorem shaped_rd {r : Rl} (h : IsR r) : SeqAt.shaped (rd r) = true := shaped_of (lay_rd h) (Nat.le_trans (depth_rd r) (by decide))
theorem alike_wds : ∀ a b : List W, PySem.W.alikeAll (a.map wd) (b.map wd) = true
  | [], _ => by simp [PySem.W.alikeAll]
  | _ :: _, [] => by simp [PySem.W.alikeAll]
  | x :: a, y :: b => by
    rw [List.map_cons, List.map_cons, PySem.W.alikeAll, alike_wds a b, alike_wd]
    rfl
theorem alike_rd (p q : Rl) : PySem.W.alike (rd p) (rd q) = true := by
  unfold rd
  rw [PySem.W.alike]
  exact alike_wds _ _
theorem eqv_wds : ∀ a b : List W, PyData.eqvAll (a.map wd) (b.map wd) = decide (a = b)
  | [], [] => by simp [PyData.eqvAll]
  | [], _ :: _ => by simp [PyData.eqvAll]
  | _ :: _, [] => by simp [PyData.eqvAll]
  | x :: a, y :: b => by
    rw [List.map_cons, List.map_cons, PyData.eqvAll, eqv_wds a b, eqv_wd]
    by_cases h : x = y
    · subst h
      by_cases h2 : a = b <;> simp [h2]
    · simp [h]
theorem eqv_rd (p q : Rl) : PyData.eqv (rd p) (rd q) = decide (p = q) := by
  have e : (p = q) ↔ (parts p = parts q) := ⟨fun h => by rw [h], fun h => rd_inj (by unfold rd; rw [h])⟩
  unfold rd
  rw [PyData.eqv, eqv_wds]
  by_cases h : parts p = parts q
  · rw [decide_eq_true h, decide_eq_true (e.mpr h)]
  · rw [decide_eq_false h, decide_eq_false fun z => h (e.mp z)]
theorem rules_one {R R' : List Rl} (r1 : Rising (R.map rd)) (r2 : Rising (R'.map rd)) (n1 : R.Nodup) (n2 : R'.Nodup) (h : ∀ p, p ∈ R ↔ p ∈ R') : R = R' :=
  rising_one alike_rd (fun p q e => by rw [eqv_rd] at e; exact of_decide_eq_true e) r1 r2 n1 n2 h
theorem okDs_rd (R : List Rl) : okDs (R.map rd) = true := okDs_all fun d hd => by
  obtain ⟨p, _, rfl⟩ := List.mem_map.mp hd
  exact ok_rd p
theorem all_rd : ∀ {ds : List PyData}, (∀ d ∈ ds, ∃ p, d = rd p) → ∃ R : List Rl, ds = R.map rd
  | [], _ => ⟨[], rfl⟩
  | d :: ds, h => by
    obtain ⟨p, rfl⟩ := h d List.mem_cons_self
    obtain ⟨R, rfl⟩ := all_rd fun e he => h e (List.mem_cons_of_mem _ he)
    exact ⟨p :: R, rfl⟩
theorem rd_mem {R : List Rl} {p : Rl} : rd p ∈ R.map rd ↔ p ∈ R :=
  ⟨fun h => by obtain ⟨q, hq, e⟩ := List.mem_map.mp h; rw [← rd_inj e]; exact hq, fun h => List.mem_map.mpr ⟨p, h, rfl⟩⟩
theorem Stay.rd {K : PySem.W.Frag} {H H' : Hp} {x : V} {r : Rl} (e : Stay H H') (h : Dp K H x (Rw.rd r)) : Dp K H' x (Rw.rd r) := e.dp _ _ (ok_rd r) h
theorem of_rd {K : PySem.W.Frag} {H : Hp} {x : V} {r : Rl} (h : Dp K H x (rd r)) : ∃ a v1 v2 v3 v4, x = .ref a ∧ SqT K H a [v1, v2, v3, v4] ∧ Dp K H v1 (wd r.1) ∧ Dp K H v2 (wd r.2.1) ∧ Dp K H v3 (wd r.2.2.1) ∧ Dp K H v4 (wd r.2.2.2) := by
  unfold rd parts at h
  cases h with
  | tup h1 h2 =>
    cases h2 with
    | cons a1 t =>
      cases t with
      | cons a2 t =>
        cases t with
        | cons a3 t =>
          cases t with
          | cons a4 t =>
            cases t
            exact ⟨_, _, _, _, _, rfl, h1, a1, a2, a3, a4⟩
theorem to_rd {K : PySem.W.Frag} {H : Hp} {a : Addr} {v1 v2 v3 v4 : V} {r : Rl} (h : SqT K H a [v1, v2, v3, v4]) (h1 : Dp K H v1 (wd r.1)) (h2 : Dp K H v2 (wd r.2.1)) (h3 : Dp K H v3 (wd r.2.2.1)) (h4 : Dp K H v4 (wd r.2.2.2)) : Dp K H (.ref a) (rd r) :=
  .tup h (.cons h1 (.cons h2 (.cons h3 (.cons h4 .nil))))
/-- a sorted list without repetition -/
structure Srt (S L : List Rl) : Prop where
  nd : S.Nodup
  ris : Rising (S.map rd)
  mem : ∀ p, p ∈ S ↔ p ∈ L
theorem Srt.one {S S' L L' : List Rl} (a : Srt S L) (b : Srt S' L') (h : ∀ p, p ∈ L ↔ p ∈ L') : S = S' := rules_one a.ris b.ris a.nd b.nd fun p => (a.mem p).trans ((h p).trans (b.mem p).symm)
/-! ### sorted(set(xs)) of rules -/
section
variable {X : Cx}
/-- set(xs), xs a list or a tuple of rules -/
def rSetR (K : PySem.W.Frag) (w : World) : List V → Hp → VK → Prop := fun vs H Q => ∃ (l : Addr) (xs : List V) (L : List Rl), vs = [.ref l] ∧ (SqL K H l xs ∨ SqT K H l xs) ∧ DpAll K H xs (L.map rd) ∧ L.length < 64 ∧
  ∀ a M, H a = none → (∀ p ∈ M, Good p.2 ∧ Dp K H (.ref p.1) p.2) → (∀ p ∈ M, ∃ r ∈ L, p.2 = rd r) → (∀ r ∈ L, rd r ∈ M.map (·.2)) → Q (.ref a) (upd H a (TSetO w a M))
theorem cr_setR (hc : X.calm = true) (hu : X.A.units + 64 < cLine) : CallR X (.type "set") (rSetR X.K X.w) := fun pins s σ H vs us Q I r ⟨l, xs, L, e, hl, hd, few, q⟩ =>
  cr_setT hc hu pins s σ H vs us Q I r ⟨l, xs, L.map rd, e, hl, hd, (fun d hd => by obtain ⟨p, _, rfl⟩ := List.mem_map.mp hd; exact good_rd p), by rw [List.length_map]; exact few, fun a M ha hM hall => by
    have isP : ∀ e ∈ M, ∃ p ∈ L, e.2 = rd p := fun e he => by
      obtain ⟨p, hp, ep⟩ := List.mem_map.mp (hM e he).1
      exact ⟨p, hp, ep.symm⟩
    refine q a M ha (fun e he => ?_) isP fun r hr => hall _ (List.mem_map.mpr ⟨r, hr, rfl⟩)
    obtain ⟨p, _, ep⟩ := isP e he
    exact ⟨by rw [ep]; exact good_rd p, (hM e he).2⟩⟩
/-- sorted(a set of rules) -/
def rSortR (K : PySem.W.Frag) (w : World) : List V → Hp → VK → Prop := fun vs H Q => ∃ (a : Addr) (M : List (Addr × PyData)) (L : List Rl), vs = [.ref a] ∧ H a = some (TSetO w a M) ∧ (∀ p ∈ M, Good p.2 ∧ Dp K H (.ref p.1) p.2) ∧ (∀ p ∈ M, ∃ r ∈ L, p.2 = rd r) ∧ (∀ r ∈ L, rd r ∈ M.map (·.2)) ∧
  ∀ (ys : List V) (S : List Rl) (p : Addr), Srt S L → S.length < 64 → DpAll K H ys (S.map rd) → H p = none → Q (.ref p) (upd H p (.lst ys))
theorem cr_sortR (hc : X.calm = true) (hu : X.A.units + 64 < cLine) : CallR X (.builtin "sorted") (rSortR X.K X.w) := fun pins s σ H vs us Q I r ⟨a, M, L, e, ha, hM, isP, hall, q⟩ =>
  cr_sortT hc hu pins s σ H vs us Q I r ⟨a, M, e, ha, hM, (fun d hd d' hd' => by
    obtain ⟨e, he, rfl⟩ := List.mem_map.mp hd
    obtain ⟨e', he', rfl⟩ := List.mem_map.mp hd'
    obtain ⟨p, _, ep⟩ := isP e he
    obtain ⟨p', _, ep'⟩ := isP e' he'
    rw [ep, ep']
    exact alike_rd p p'), fun ys ds p perm nd lt ris hys hp' => by
    obtain ⟨S, rfl⟩ := all_rd (ds := ds) fun d hd => by
      obtain ⟨e, he, rfl⟩ := List.mem_map.mp (perm.mem_iff.mp hd)
      obtain ⟨p, _, ep⟩ := isP e he
      exact ⟨p, ep⟩
    rw [List.length_map] at lt
    refine q ys S p ⟨nodup_of_map nd, ris, fun p => ?_⟩ lt hys hp'
    rw [← rd_mem, perm.mem_iff]
    constructor
    · intro hm
      obtain ⟨e, he, ee⟩ := List.mem_map.mp hm
      obtain ⟨p', hp', ep⟩ := isP e he
      rw [← rd_inj (ep.symm.trans ee)]
      exact hp'
    · intro hm
      exact hall _ hm⟩
end
end Rw
namespace Rw
open PySem PySem.Spec PyProof.Rows L2
/-! ### == and != of instances by their class's own __eq__ -/
section
variable {X : Cx}
def rEqP (C : Addr) (sp : Sp) (E : XK) : R2 := fun x y H Q => ∃ a dx fs b dy gs, x = .ref a ∧ y = .ref b ∧ H a = some (.ins C dx fs) ∧ H b = some (.ins C dy gs) ∧ sp [x, y] H Q E
theorem op_eqP {CX : CXT} {C g : Addr} {n : Nat} {sp : Sp} {E : XK} (hs : PySem.W.findIn X.K (.ref C) "__eq__" = some (some (.ref g))) (hf : PySem.W.isFn X.K (.ref g) = true) (F : FnR X.prog X.w X.K X.mg X.base CX n g sp) (hr : Room n X.A) (hx : Passes CX X E) : OpR X (compareOp .Eq) (rEqP C sp E) := by
  intro pins s σ H x y v u Q I rx ry h
  obtain ⟨a, dx, fs, b, dy, gs, rfl, rfl, ha, hb, q⟩ := h
  obtain rfl : v = Value.ref a := rx
  obtain rfl : u = Value.ref b := ry
  obtain ⟨mA, J, _⟩ := ins_get I.hok ha
  obtain ⟨mB, J', _⟩ := ins_get I.hok hb
  obtain ⟨od, J, _⟩ := J.look
  obtain ⟨od', J', _⟩ := J'.look
  obtain ⟨m, hF⟩ := I.fr
  show wpAny _ _ (richCompare .Eq (.ref a) (.ref b)) _ _ _
  refine PySem.W.cmp_K hr.units0 hF I.ok.mod.kin J J'.type (by simp [PySem.W.notFirst]) hs hf ?_
  refine wpAny_mono (wpAny_call (run_fnR F hr hx I (vs := [.ref a, .ref b]) (.cons rfl (.cons rfl .nil)) q)) (fun r s' h => ?_) fun e s' h => h
  obtain ⟨z, H', I', r, q⟩ := h
  exact SlX.cmpback r ⟨z, H', I', r, q⟩
/-- what the class is, for != -/
structure NeC (K : PySem.W.Frag) (C g : Addr) : Prop where
  cls : ∃ nm q N bs hd sn sub ab col dd k0 k1 k2 k3 k5 nid oN es ep, K.lookup C = some (excClassObj nm q C N bs [.type "object"] hd sn sub ab col dd k0 k1 k2 k3 k5 nid) ∧ K.lookup N = some oN ∧ oN.data = .dict es ep ∧ StrKeys es ∧ nsFind es "__eq__" = some (.ref g) ∧ nsFind es "__ne__" = none
  fn : ∃ og, K.lookup g = some og ∧ og.cls = .type "function"
def rNeP (C : Addr) (sp : Sp) (E : XK) : R2 := fun x y H Q => ∃ a dx fs b dy gs, x = .ref a ∧ y = .ref b ∧ H a = some (.ins C dx fs) ∧ H b = some (.ins C dy gs) ∧ sp [x, y] H (fun v H' => ∃ t, v = .bl t ∧ Q (.bl (!t)) H') E
theorem op_neP {CX : CXT} {C g : Addr} {n : Nat} {sp : Sp} {E : XK} (N : NeC X.K C g) (F : FnR X.prog X.w X.K X.mg X.base CX n g sp) (hr : Room (n + 1) X.A) (hx : Passes CX X E) : OpR X (compareOp .NotEq) (rNeP C sp E) := by
  intro pins s σ H x y v u Q I rx ry h
  obtain ⟨a, dx, fs, b, dy, gs, rfl, rfl, ha, hb, q⟩ := h
  obtain rfl : v = Value.ref a := rx
  obtain rfl : u = Value.ref b := ry
  obtain ⟨mA, J, _⟩ := ins_get I.hok ha
  obtain ⟨mB, J', _⟩ := ins_get I.hok hb
  obtain ⟨od, J, _⟩ := J.look
  obtain ⟨od', J', _⟩ := J'.look
  obtain ⟨nm, q1, NN, bs, hd, sn, sub, ab, col, dd, k0, k1, k2, k3, k5, nid, oN, es, ep, c1, c2, c3, c4, c5, c6⟩ := N.cls
  obtain ⟨og, g1, g2⟩ := N.fn
  have kin := I.kIn
  have own : s.heap.OwnEqNoNe a C g "object" [.type "object"] := ⟨_, og, nm, q1, NN, bs, hd, sn, sub, ab, col, dd, k0, k1, k2, k3, k5, nid, _, _, J.at_, J.cls, kin _ _ c1, ⟨oN, es, ep, kin _ _ c2, c3, c4, fun _ => rfl⟩, c5, kin _ _ g1, g2, PySem.F.cmp_object.mro, PySem.F.cmp_object.eq.lookup, c6⟩
  have un := hr.un
  refine compareOp_ne_ownEq PySem.F.cmp_object own J'.at_ J'.cls (by omega) ?_
  have e0 := I.env0
  have e1 : Env0 X.prog X.w X.K X.mg X.base X.A.in1 X.stack s H := ⟨e0.frames, e0.mod, e0.bs, e0.bsz, e0.funs, e0.frf, e0.hok, e0.bare⟩
  refine wpAny_call (codeAny_mono (F X.A.in1 X.stack s H [.ref a, .ref b] [.ref a, .ref b] _ E hr.in1 e1 (.cons rfl (.cons rfl .nil)) q) fun r s' h => ?_)
  cases r with
  | error e => exact hx pins σ H s e s' I h
  | ok f =>
    cases f with
    | ret v =>
      obtain ⟨z, H', I', r, t, rfl, q⟩ := I.after h
      obtain rfl : v = Value.bool t := r
      exact ⟨t, rfl, .bl (!t), H', I', rfl, q⟩
    | _ => exact h.elim
end
end Rw
namespace Rw
open PySem PySem.Spec PyProof.Rows L2
/-! ### an error that was caught and kept -/
/-- an error of the class cls at a, whose own dict is d -/
def ExH (cls : Value) (d : Option Addr) (a : Addr) : HO := .ext fun h => ∃ oe vs, h.get? a = some oe ∧ Zc cls d oe ∧ oe.data = .fields vs
def wKeep (K : PySem.W.Frag) (c : Value) (i j : Nat) (D : Ends) : WX := fun cls d σ H => PySem.W.exmOne K cls c = some true ∧ ∀ a, H a = none → D.nx (((σ.set i (some (.ref a))).set j (some (.ref a))).set i none) (upd H a (ExH cls d a))
/-- an error's object is tracked from now on -/
theorem keep_inv {X : Cx} {pins : List (Addr × Obj)} {σ : L2.St} {H : Hp} {s : Shared} {a : Addr} {oe : Obj} {cls : Value} {d : Option Addr} {vs : Array Value} (I : Inv X pins σ H s) (he : s.heap.get? a = some oe) (hz : Zc cls d oe) (hd : oe.data = .fields vs) (hH : H a = none) (nL : a ≠ X.env.locals)
    (h0 : X.s_0.heap.get? a = none) (hp : ∀ p ∈ X.pn ++ pins, p.1 ≠ a) : Inv X pins σ (upd H a (ExH cls d a)) s := by
  have cell : ∀ x c, X.env.cells.lookup x = some c → c ≠ a := fun x c e z => by
    obtain ⟨v, o, h1, h2⟩ := I.cell x c e
    rw [z, he] at h1
    cases h1
    rw [hd] at h2
    cases h2
  refine ⟨I.ok, I.os, I.bare, ?_, I.loc, I.cell, ?_, fun x c e => ?_, fun p hpm => ?_, fun b o hb => ?_, I.len⟩
  · have u := I.base
    refine ⟨u.keep, u.slot, fun b o e1 e2 e3 => ?_, u.there, fun b xs e => ?_, fun b o w' e => ?_, fun b ps e => ?_⟩
    · have nb : b ≠ a := fun z => by
        rw [z, h0] at e1
        cases e1
      rw [upd_ne nb]
      exact u.free b o e1 e2 e3
    · have z := u.tups b xs e
      rw [upd_ne (ne_of_none z hH)]
      exact z
    · have z := u.frzs b o w' e
      rw [upd_ne (ne_of_none z hH)]
      exact z
    · obtain ⟨more, z⟩ := u.tbls b ps e
      refine ⟨more, ?_⟩
      rw [upd_ne (ne_of_none z hH)]
      exact z
  · rw [upd_ne nL.symm]
    exact I.free
  · rw [upd_ne (cell x c e)]
    exact I.freeC x c e
  · obtain ⟨p1, p2, p3⟩ := I.pin p hpm
    refine ⟨p1, ?_, p3⟩
    rw [upd_ne (hp p hpm)]
    exact p2
  · have new : ObjOk X.prog X.w (upd H a (ExH cls d a)) s.heap a (ExH cls d a) := ⟨⟨oe, vs, he, hz, hd⟩, ⟨oe, he⟩, fun h1 h2 ⟨oe', vs', e1, e2⟩ kk => ⟨oe', vs', kk oe' e1, e2⟩⟩
    by_cases e : b = a
    · subst e
      rw [upd_same] at hb
      cases hb
      exact new
    · rw [upd_ne e] at hb
      have same : ∀ (b' : Addr) (u : HO), H b' = some u → (upd H a (ExH cls d a)) b' = some u := fun b' u h => by
        rw [upd_ne (ne_of_none h hH)]
        exact h
      exact (I.hok b o hb).stay (fun _ _ _ e => e) (fun b' h => same b' _ h) fun b' xs h => same b' _ h
/-- try: body except x as n: y = n (every error of the body is an x) -/
theorem ps_try_keep {X : Cx} {x n y : Str} {c : Value} {i j : Nat} {body : List Stmt} {np pos pos' p1 p2 p3 : Pos} {tb : WX → TS} (hs : X.stack = X.env :: X.outer) (hf : X.env.frame = some X.env.locals) (hN : X.N.Nodup) (hi : X.N[i]? = some n) (hln : X.env.kindOf n = some .local) (hc : Names X x c)
    (hj : X.N[j]? = some y) (hyl : X.env.scope.names.lookup y = some .local) (hnl : X.env.scope.names.lookup n = some .local) (hex : X.ex = []) (hdb : (n == ("__debug__" : Str)) = false) (hcd : (n == ("__classdict__" : Str)) = false) (hsw : swapsWith (.Name n p2) (some (.Name y p1)) p3.line X.env = pure false)
    (hb : ∀ (W : WX) (pn : List (Addr × Obj)) (xe : Value → Shared → Prop), Takes (X.tr pn xe) W → PassesOwn (model X.prog X.w) X.A X.env xe → PSs (X.tr pn xe) body (tb W)) :
    PS X (.Try body [.ExceptHandler (some (.Name x np)) (some n) [.Assign [.Name y p1] (.Name n p2) p3] pos'] [] [] pos) (fun D σ H => tb (wKeep X.K c i j D) D σ H) := by
  refine ⟨fun pins s σ H D I h => ?_⟩
  have ok := I.ok
  have hfr : X.A.frames = some (X.env :: X.outer) := by rw [ok.frames, hs]
  have hloc : L2.Loc X.env.scope n := Or.inl hln
  refine wpAny_Try_except (wpAny_mono ((hb (wKeep X.K c i j D) (X.pn ++ pins) (fun e s₁ => wpAny (model X.prog X.w) X.A (noteFrame e X.env) (fun _ s₂ => wpAny (model X.prog X.w) X.A (setFlight e none) (fun _ s₃ => wpAny (model X.prog X.w) X.A (handleBy e X.env [.ExceptHandler (some (.Name x np)) (some n) [.Assign [.Name y p1] (.Name n p2) p3] pos']) (SP X pins D) X.xe s₃) X.xe s₂) X.xe s₁) ?_ PassesOwn.looking).run [] s σ H D (I.toTry _) h) ?_ fun e s1 he => he)
  · rintro u s' ⟨a, B, sI, pins', σ', H', cls, d, rfl, J', nb, up, sky, na, os, ag, hb1, hyes⟩
    have J := J'.ofTry ok
    have sky' : Sky B (X.env :: X.outer) a (Zc cls d) X.env.locals s'.heap := by
      rw [← hs]
      exact sky
    refine Sky.land Zc.steady hfr hf sky' fun h3 fl3 up3 => ?_
    have J3 := J.landed (s' := { heap := h3, gens := s'.gens, drawn := s'.drawn, toks := s'.toks, os := s'.os }) nb fl3.left (up.trans up3) os ag
    obtain ⟨oe3, vs3, he3, hz3, hd3⟩ := fl3.there
    have notFr : ∀ {h : Heap} {o : Obj} {vs : Array Value}, h.FunFrames B (X.env :: X.outer) → h.get? a = some o → o.data = .fields vs → a ∉ frs (X.env :: X.outer) := fun ff e dd hm => by
      obtain ⟨_, o', e', hnf⟩ := ff.mem hm
      rw [e] at e'
      cases e'
      exact hnf _ dd
    have nfr := notFr fl3.2.2.1 he3 hd3
    have nL : a ≠ X.env.locals := fun z => nfr (List.mem_filterMap.mpr ⟨X.env, List.mem_cons_self, by rw [hf, z]⟩)
    have nF : a ∉ X.fs := fun hm => by
      obtain ⟨e, he, q⟩ := List.mem_filterMap.mp hm
      exact nfr (List.mem_filterMap.mpr ⟨e, List.mem_cons_of_mem _ he, q⟩)
    have Ba : B.get? a = none := fl3.2.1
    have nfr' : a ∉ frs X.stack := by
      rw [hs]
      exact nfr
    have sIa : sI.heap.get? a = none := by
      cases e : sI.heap.get? a with
      | none => rfl
      | some o =>
        rw [nb a o e nfr'] at Ba
        cases Ba
    have h0 : X.s_0.heap.get? a = none := by
      cases e : X.s_0.heap.get? a with
      | none => rfl
      | some o =>
        obtain ⟨o', e'⟩ := J.base.there a o e (by rw [hex]; exact List.not_mem_nil)
        rw [sIa] at e'
        cases e'
    have hp : ∀ p ∈ X.pn ++ pins, p.1 ≠ a := fun p hpm z => by
      have := (J.pin p hpm).1
      rw [z, sIa] at this
      cases this
    have S3 := J3.suite he3 hd3 na nL nF
    have LT : ∀ (A : Around) (Q : Value → Shared → Prop) (E : Value → Shared → Prop) (s : Shared), (∀ b o, h3.get? b = some o → s.heap.get? b = some o) → Q cls s → wpAny (model X.prog X.w) A (typeOf (.ref a)) Q E s := fun A Q E s k q => wpAny_typeOf_ref (k a oe3 he3) (by rw [hz3.1]; exact q)
    refine wpAny_handleBy_cons (codeAny_handlers_test ?_) (by intro z; cases z)
    have LM := PySem.W.exm_one J3.kIn LT hb1
    have test : ∀ {Q : Value → Shared → Prop} {E : Value → Shared → Prop}, Q c { heap := h3, gens := s'.gens, drawn := s'.drawn, toks := s'.toks, os := s'.os } → wpAny (model X.prog X.w) (X.A.mark (some (.ref a))) (eval (.Name x np) X.env) Q E { heap := h3, gens := s'.gens, drawn := s'.drawn, toks := s'.toks, os := s'.os } := fun {Q E} q => by
      obtain ⟨hg, hdbg, hm | ⟨hm, hv, hnn⟩⟩ := hc
      · exact ld_glob (X := X.suite a ((a, oe3) :: (X.pn ++ pins))) S3 hg hm q hdbg
      · exact ld_blt (X := X.suite a ((a, oe3) :: (X.pn ++ pins))) S3 hg hm hv q hnn hdbg
    refine test (PySem.W.Looks.here LM ?_)
    refine codeAny_handlers_suite_as (HandSPX.lands_againZ fl3 fun h4 fl4 up4 => ?_)
    have J4 := J.landed (s' := { heap := h4, gens := s'.gens, drawn := s'.drawn, toks := s'.toks, os := s'.os }) nb fl4.left ((up.trans up3).trans up4) os ag
    obtain ⟨oe4, vs4, he4, hz4, hd4⟩ := fl4.there
    have S4 := J4.suite he4 hd4 na nL nF
    refine store_ok (X := X.suite a ((a, oe4) :: (X.pn ++ pins))) (v := .ref a) S4 hN hi hloc rfl (fun s5 S5 => ?_) (.inr hnl)
    have suite : PSs (X.suite a ((a, oe4) :: (X.pn ++ pins))) [.Assign [.Name y p1] (.Name n p2) p3] _ := pss_one (ps_asg (pe_var (i := i) hi (.inl hnl) hdb hcd) (pg_name (i := j) hN hj (.inl hyl) (.inr hyl)) hsw)
    have il : i < σ'.length := by
      rw [J.len]
      exact (List.getElem?_eq_some_iff.mp hi).1
    refine wpAny_mono (suite.run [] s5 (σ'.set i (some (.ref a))) H' { nx := fun σ6 H6 => σ6 = (σ'.set i (some (.ref a))).set j (some (.ref a)) ∧ H6 = H', rt := fun _ _ => False } S5 ⟨.ref a, by rw [List.getElem?_set_self il], rfl, rfl⟩) (fun f s6 hsp => ?_) fun e s' z => z.elim
    cases f with
    | next =>
      obtain ⟨σ6, H6, S6, rfl, rfl⟩ := hsp
      have he6 := (S6.pin (a, oe4) (List.mem_append_left _ List.mem_cons_self)).1
      have K6 := keep_inv (Inv.unsuite S6 ok) he6 hz4 hd4 na nL h0 hp
      exact gone_ok K6 hN hi hln fun s7 J7 => ⟨_, _, J7, hyes a na⟩
    | brk =>
      obtain ⟨_, _, _, z⟩ := hsp
      exact z.elim
    | cont =>
      obtain ⟨_, _, _, z⟩ := hsp
      exact z.elim
    | ret v =>
      obtain ⟨_, _, _, _, _, z⟩ := hsp
      exact z.elim
  · intro f s1 hsp
    cases f with
    | next =>
      obtain ⟨σ', H', J', q⟩ := hsp
      exact wpAny_execs_nil ⟨σ', H', J'.ofTry ok, q⟩
    | brk =>
      obtain ⟨σ', H', J', q⟩ := hsp
      exact ⟨σ', H', J'.ofTry ok, q⟩
    | cont =>
      obtain ⟨σ', H', J', q⟩ := hsp
      exact ⟨σ', H', J'.ofTry ok, q⟩
    | ret v =>
      obtain ⟨v', σ', H', J', r, q⟩ := hsp
      exact ⟨v', σ', H', J'.ofTry ok, r, q⟩
end Rw
namespace Rw
open PySem PySem.Spec PyProof.Rows L2
/-! ### what is asked of a kept error -/
open PySem.W in
theorem kin_classD {prog : Program} {w : World} {A : Around} {E : Value → Shared → Prop} {s : Shared} {K : PySem.W.Frag} {x D : Addr} {ox od : Obj} {Q : Option Value → Shared → Prop} (hga : PySem.W.findIn K (.ref D) "__getattribute__" = some (some (.builtin "BaseException.__getattribute__"))) (hgt : PySem.W.findIn K (.ref D) "__getattr__" = some none)
    (hsub : PySem.W.subIn K (.ref D) (.type "BaseException") = some true) (hdct : PySem.W.hasDictIn K D = true) (ha : PySem.W.findIn K (.ref D) "__class__" = some (some (.builtin "object.__class__"))) (hn : PySem.W.specialIn K (.builtin "object.__class__") "__get__" = some (some (.builtin "getset_descriptor.__get__"))) (htk : PySem.W.takesIn K (.builtin "object.__class__") = some true) (hm : PySem.W.mroIn K D (.type "object") = some true)
    (X : K.In s.heap) (I : PySem.W.InstAt s.heap x ox D (some od)) (h : Q (some (.ref D)) { heap := s.heap, gens := s.gens, drawn := s.drawn, toks := s.toks + 1, os := s.os }) : wpAny (model prog w) A (getAttr? (.ref x) "__class__") Q E s := by
  have hf := PySem.W.findObj_data (K := K) (C := D) (od := od) (by obtain ⟨cd, hc, _⟩ := PySem.W.any_some hdct; rw [hc]; rfl) ha hn htk
  obtain ⟨hp, g, d, t, os⟩ := s
  have L0 := PySem.W.InstAt.type (M := model prog w) I
  have L1 := PySem.W.looks_findIn (M := model prog w) X hga
  have L2 := PySem.W.looks_findIn (M := model prog w) X hgt
  have L3 := PySem.W.looks_find (M := model prog w) X I hf
  have sub : PySem.W.Looks (model prog w) hp (typeOf (.ref x) >>= fun t => isSubtype t (.type "BaseException")) true := PySem.W.Looks.andThen L0 (PySem.W.looks_subIn X hsub)
  unfold getAttr?
  refine wpAny_bind (wpAny_mkText (wpAny_bind (wpAny_attempt (wpAny_holding ?_))))
  refine wpAny_bind (PySem.W.Looks.at L0 (wpAny_bind (PySem.W.Looks.at L1 ?_)))
  have c1 : (onTheHeap (Value.ref D) && (Value.builtin "BaseException.__getattribute__" == Value.builtin "object.__getattribute__")) = false := by
    rw [show (Value.builtin "BaseException.__getattribute__" == Value.builtin "object.__getattribute__") = false by decide]
    rfl
  show wpAny _ _ (if (onTheHeap (Value.ref D) && (Value.builtin "BaseException.__getattribute__" == Value.builtin "object.__getattribute__")) = true then _ else _) _ _ _
  rw [c1, if_neg Bool.false_ne_true]
  unfold getAttrByItsOwn
  refine wpAny_bind ?_
  unfold hookBefore
  rw [if_pos (show onTheHeap (Value.ref D) = true from rfl)]
  refine PySem.W.Looks.at L2 (wpAny_bind (wpAny_attempt (wpAny_holding ?_)))
  unfold callGetattribute
  rw [if_neg (show ¬ ((false && onTheHeap (Value.builtin "BaseException.__getattribute__")) = true) from Bool.false_ne_true)]
  unfold boundAndCalled
  rw [F.excAttr_ValueError.ga.bind (Value.ref x)]
  refine wpAny_bind (wpAny_pure ?_)
  show wpAny _ _ (call (Value.builtin "BaseException.__getattribute__") [.ref x, .str "__class__" t]) _ _ _
  refine wpAny_call ?_
  refine codeAny_call_builtin (id := "BaseException.__getattribute__") (b := Builtin.«object.__getattribute__») F.excAttr_ValueError.ga.plain F.entry_bexc_ga ?_
  refine PySem.W.check_slot (i := "BaseException.__getattribute__") (owner := "BaseException") (n := "__getattribute__") (self := .ref x) (rest := [.str "__class__" t]) (kw := []) PySem.W.kin_classE._proof_2 PySem.W.kin_classE._proof_3 sub (F.args_bexc_ga (.ref x) (.str "__class__" t)) ?_
  unfold Builtin.«object.__getattribute__»
  refine wpAny_bind ?_
  refine wpAny_of_eq (a := (Value.ref x, [Value.str "__class__" t])) rfl ?_
  refine wpAny_bind (wpAny_pure (wpAny_bind (PySem.W.Looks.at L0 (wpAny_bind (PySem.W.Looks.at L3 ?_)))))
  unfold Builtin.ObjectAttr.bindTo
  refine wpAny_bind (wpAny_holding (wpAny_call (PySem.W.class_get X I hm (wpAny_pure ?_))))
  show wpAny (model prog w) A (handedOut (.ref D)) _ _ _
  rw [PySem.W.handedOut_of rfl]
  exact wpAny_pure (wpAny_pure h)
theorem cls_at {K : PySem.W.Frag} {D : Addr} (h : PySem.W.hasDictIn K D = true) : ∃ o cd, K.lookup D = some o ∧ o.data = .cls cd := by
  obtain ⟨cd, hc, _⟩ := PySem.W.any_some h
  unfold PySem.W.clsIn at hc
  split at hc
  · rename_i heq
    exact ⟨_, _, heq, rfl⟩
  · cases hc
theorem kitx_excD {K : PySem.W.Frag} {x D : Addr} {ox od : Obj} (C : ExcC K D) : PySem.W.KitX K (.ref x) (.ref D) (fun h => PySem.W.InstAt h x ox D (some od)) := by
  obtain ⟨⟨cl, dc, da, sl⟩, cd, ho, hd⟩ := cls_at C.hd
  refine ⟨fun M h X I => PySem.W.InstAt.type I, fun M h X _ => ?_, fun h tp dd its n sl' X htp => ?_, fun X I k => kin_classD C.hg C.hk C.hs C.hd C.ha C.hn C.ht C.hm X I k⟩
  · subst hd
    intro A' Q' E' s' k q
    exact wpAny_bind (wpAny_loadPart (k D _ (X D _ ho)) (wpAny_pure q))
  · refine Bool.eq_false_iff.mpr fun q => ?_
    have e := Value.ref.inj (beq_iff_eq.mp q)
    subst e
    have z := (X D _ ho).symm.trans htp
    cases z
    cases hd
/-- isinstance(caught, C): None, or a kept error -/
def rIsH (K : PySem.W.Frag) : List V → Hp → VK → Prop := fun xs H Q => ∃ (x c : V) (u : Value), xs = [x, c] ∧ (∀ v, RelV c v → v = u) ∧
  ((x = .non ∧ ∃ b, PySem.W.kitOne K (.type "NoneType") u = some b ∧ Q (.bl b) H) ∨
   (∃ (a D dd : Addr) (fs : List (Str × V)) (b : Bool), x = .ref a ∧ H a = some (ExH (.ref D) (some dd) a) ∧ H dd = some (.xd fs) ∧ ExcC K D ∧ PySem.W.kitOne K (.ref D) u = some b ∧ Q (.bl b) H))
theorem call_isH {X : Cx} : CallR X (.builtin "isinstance") (rIsH X.K) := by
  intro pins s σ H xs us Q I r h
  obtain ⟨x, c, u, rfl, hu, h⟩ := h
  cases r with
  | cons r1 r2 =>
    cases r2 with
    | cons r2 r3 =>
      cases r3
      obtain rfl := hu _ r2
      rcases h with ⟨rfl, b, hk, q⟩ | ⟨a, D, dd, fs, b, rfl, ha, hd, C, hk, q⟩
      · cases r1
        exact PySem.W.kia_one PySem.W.kitx_none I.kIn trivial hk (fun z => nomatch z) fun tk => ⟨.bl b, H, I.tok _, rfl, q⟩
      · obtain ⟨oe, vs, hget, hz, hdat⟩ := (I.hok a _ ha).1
        obtain ⟨mA, hns, hr⟩ := I.hok dd _ hd
        obtain ⟨od, ho, hl⟩ := lookIn_ns hns
        have J : PySem.W.InstAt s.heap a oe D (some od) := ⟨hget, hz.1, by unfold PySem.W.notCls; rw [hdat] <;> rfl, by rw [hz.2]; exact ho⟩
        rw [show _ = Value.ref a from r1]
        exact PySem.W.kia_one (kitx_excD C) I.kIn J hk (fun z => nomatch z) fun tk => ⟨.bl b, H, I.tok _, rfl, q⟩
/-- caught.n -/
def tFldH (C : Addr) (n : Str) (te : TE) : TE := fun σ H Q => te σ H fun x H1 => ∃ (a dd : Addr) (fs : List (Str × V)) (v : V), x = .ref a ∧ H1 a = some (ExH (.ref C) (some dd) a) ∧ H1 dd = some (.xd fs) ∧ fs.lookup n = some v ∧ Q v H1
theorem pe_fldH {X : Cx} {C : Addr} {e : Expr} {te : TE} {pos : Pos} {n : Str} (T : XfC X.K C) (hno : PySem.W.findIn X.K (.ref C) n = some none) (he : PE X e te) (hb : attributeBase e n X.env (eval e X.env) = eval e X.env := by rfl) : PE X (.Attribute e n pos) (tFldH C n te) := by
  refine ⟨fun pins s σ H Q I h => attr_of hb (thn (he.run pins s σ H _ I h) fun u s1 ⟨x, H1, I1, rx, a, dd, fs, v, ex, ha, hdd, l, q⟩ => ?_)⟩
  subst ex
  obtain rfl : u = Value.ref a := rx
  obtain ⟨oe, vs, hget, hz, hdat⟩ := (I1.hok a _ ha).1
  obtain ⟨mA, hns, hr⟩ := I1.hok dd _ hdd
  obtain ⟨od, ho, hl⟩ := lookIn_ns hns
  obtain ⟨u, hu, ru⟩ := RelO.some_of (v := v) (o := mA n) (by rw [← l]; exact hr n)
  have J : PySem.W.InstAt s1.heap a oe C (some od) := ⟨hget, hz.1, by unfold PySem.W.notCls; rw [hdat] <;> rfl, by rw [hz.2]; exact ho⟩
  exact HandSPX.exc_get I1.kIn J T.ga T.gg T.exC (PySem.W.findObj_own T.hdC hno rfl (by rw [hl, hu])) (handed_of ru) ⟨v, H1, I1.tok _, ru, q⟩
end Rw
namespace Rw
open PySem PySem.Spec PyProof.Rows L2
/-! ### own errors with one field -/
/-- __init__(self, n): self.n = n -/
def spErr (C : Addr) (n : Str) : Sp := fun vs H Q _ => ∃ (a : Addr) (v : V), vs = [.ref a, v] ∧ H a = some (exo a C none) ∧ ∀ dx, H dx = none → dx ≠ a → Q .non (upd (upd H dx (exd dx [(n, v)])) a (exo a C (some dx)))
/-- C(v) made: what its making asks -/
theorem err_made {C : Addr} {n : Str} {v : V} {H1 : Hp} {Q : XK} (h : ∀ d, H1 d = none → Q (.ref C) (some d) (upd H1 d (.xd [(n, v)]))) : [v].length ≤ 1000 ∧ ∀ a : Addr, H1 a = none → spErr C n (.ref a :: ([v] ++ [])) (upd H1 a (exo a C none))
    (fun u H2 => u = .non ∧ ∃ d fs, H2 a = some (exo a C (some d)) ∧ H2 d = some (exd d fs) ∧ H1 d = none ∧ Q (.ref C) (some d) (upd (del H2 a) d (.xd fs))) (fun _ _ _ => False) := by
  refine ⟨by simp, fun a ha => ⟨a, v, rfl, upd_same, fun dx hdx ne => ?_⟩⟩
  have hd1 : H1 dx = none := by
    rw [upd_ne ne] at hdx
    exact hdx
  refine ⟨rfl, dx, [(n, v)], upd_same, ?_, hd1, ?_⟩
  · rw [upd_ne ne, upd_same]
  · have e : upd (del (upd (upd (upd H1 a (exo a C none)) dx (exd dx [(n, v)])) a (exo a C (some dx))) a) dx (.xd [(n, v)]) = upd H1 dx (.xd [(n, v)]) := by
      funext b
      by_cases h1 : b = dx
      · subst h1
        rw [upd_same, upd_same]
      · rw [upd_ne h1, upd_ne h1]
        by_cases h2 : b = a
        · subst h2
          unfold del
          rw [ha]
          simp
        · unfold del
          rw [if_neg h2, upd_ne h2, upd_ne h1, upd_ne h2]
    rw [e]
    exact h dx hd1
end Rw
namespace Rw
open PySem PySem.Spec PyProof.Rows L2
/-! ### a head that tells of defs anywhere, and more -/
def hookY (n : Nat) (fa : List He.Fa) (fn : List He5.DefA) (ex : PySem.W.Frag → Bool) : PySem.W.Hook where
  α := He.AlD × Bool
  obs s := (He5.obsAG n fa fn s.heap.get?, ex (He.frG s.heap.get? (He5.asA s.heap.get? n)))
  val _ := (He5.valA fn, true)
  says _ h := ∃ K : PySem.W.Frag, K.In h ∧ He5.SaysA fa fn K ∧ ex K = true
  of _ s e := ⟨_, He.frG_in, (Prod.mk.inj e).1, (Prod.mk.inj e).2⟩
  keeps _ _ _ | ⟨K, X, a, b⟩, k => ⟨K, fun c o e => k _ _ (X c o e), a, b⟩
def obY (n : Nat) (fa : List He.Fa) (fn : List He5.DefA) (ex : PySem.W.Frag → Bool) (g : Addr → Option Obj) : He.AlD × Bool := (He5.obsAG n fa fn g, ex (He.frG g (He5.asA g n)))
theorem obY_eq {n : Nat} {fa : List He.Fa} {fn : List He5.DefA} {ex : PySem.W.Frag → Bool} {g : Addr → Option Obj} {s : Shared} (h : ∀ a, g a = s.heap.get? a) : obY n fa fn ex g = (hookY n fa fn ex).obs s := by
  have e : g = s.heap.get? := funext h
  subst e
  rfl
/-! ### what a class is, as a test -/
def clsB (K : PySem.W.Frag) (C : Addr) (f : List Value → Addr → Bool → Bool) (nid : String) : Bool :=
  match K.lookup C with
  | some ⟨.type t, _, .cls cd, sl⟩ => decide (t = "type" ∧ cd.hasDel = false) && (decide (cd.mro = .ref C :: cd.mro.tail) && (f cd.mro.tail cd.ns cd.hasDict && (match sl with | ⟨[_, _, _, _, some (.builtin i), _]⟩ => decide (i = nid) | _ => false)))
  | _ => false
theorem clsB_ok {K : PySem.W.Frag} {C : Addr} {f : List Value → Addr → Bool → Bool} {nid : String} (h : clsB K C f nid = true) : ∃ nm q N bs bm hd sn sub ab col dd k0 k1 k2 k3 k5, K.lookup C = some (excClassObj nm q C N bs bm hd sn sub ab col dd k0 k1 k2 k3 k5 nid) ∧ f bm N hd = true := by
  unfold clsB at h
  split at h
  · rename_i t dd cd sl e
    rw [Bool.and_eq_true, Bool.and_eq_true, Bool.and_eq_true] at h
    obtain ⟨h1, h2, h3, h4⟩ := h
    obtain ⟨h1, h0⟩ := of_decide_eq_true h1
    have h2 := of_decide_eq_true h2
    split at h4
    · rename_i k0 k1 k2 k3 i k5
      have h4 := of_decide_eq_true h4
      subst h1 h4
      obtain ⟨nm, bs, mro, ns, q, hd, sn, sub, ab, col, del⟩ := cd
      refine ⟨nm, q, ns, bs, mro.tail, hd, sn, sub, ab, col, dd, k0, k1, k2, k3, k5, ?_, h3⟩
      rw [e]
      have h2' : mro = .ref C :: mro.tail := h2
      have h0' : del = false := h0
      subst h0'
      unfold excClassObj
      rw [← h2']
    · exact nomatch h4
  · exact nomatch h
def strKeysB (es : Array DictEntry) : Bool := es.toList.all fun e => match e.key with | .str _ _ => true | _ => false
theorem strKeysB_ok {es : Array DictEntry} (h : strKeysB es = true) : StrKeys es := fun e he => by
  have z := List.all_eq_true.mp h e (Array.mem_toList_iff.mpr he)
  split at z
  · exact ⟨_, _, by assumption⟩
  · exact nomatch z
def nsB (K : PySem.W.Frag) (N g : Addr) : Bool :=
  match K.lookup N with
  | some ⟨_, _, .dict es _, _⟩ => strKeysB es && (decide (nsFind es "__eq__" = some (.ref g)) && decide (nsFind es "__ne__" = none))
  | _ => false
def fnB (K : PySem.W.Frag) (g : Addr) : Bool :=
  match K.lookup g with
  | some o => decide (o.cls = .type "function")
  | none => false
theorem neC_of {K : PySem.W.Frag} {C g : Addr} (h1 : clsB K C (fun bm N _ => decide (bm = [.type "object"]) && nsB K N g) "object.__new__" = true) (h2 : fnB K g = true) : NeC K C g := by
  obtain ⟨nm, q, N, bs, bm, hd, sn, sub, ab, col, dd, k0, k1, k2, k3, k5, e, hf⟩ := clsB_ok h1
  rw [Bool.and_eq_true] at hf
  obtain ⟨f1, f2⟩ := hf
  have f1 := of_decide_eq_true f1
  subst f1
  constructor
  · unfold nsB at f2
    split at f2
    · rename_i oc od es ep os eN
      rw [Bool.and_eq_true, Bool.and_eq_true] at f2
      obtain ⟨g1, g2, g3⟩ := f2
      exact ⟨nm, q, N, bs, hd, sn, sub, ab, col, dd, k0, k1, k2, k3, k5, "object.__new__", _, es, ep, e, eN, rfl, strKeysB_ok g1, of_decide_eq_true g2, of_decide_eq_true g3⟩
    · exact nomatch f2
  · unfold fnB at h2
    split at h2
    · exact ⟨_, by assumption, of_decide_eq_true h2⟩
    · exact nomatch h2
/-- an own error class, by tests -/
def oexB (K : PySem.W.Frag) (C : Addr) : Bool := clsB K C (fun bm _ hd => hd && HandSPX.refsVE bm) "ValueError.__new__" && (decide (PySem.W.findIn K (.ref C) "__setattr__" = some (some (.builtin "object.__setattr__"))) && (decide (PySem.W.subIn K (.ref C) (.type "BaseException") = some true) && (decide (PySem.W.typeIn K (.ref C) = some (.type "type")) && PySem.W.keepIn K (.ref C))))
theorem oexB_ok {K : PySem.W.Frag} {C : Addr} (h : oexB K C = true) : OexC K C := by
  unfold oexB at h
  rw [Bool.and_eq_true, Bool.and_eq_true, Bool.and_eq_true, Bool.and_eq_true] at h
  obtain ⟨h1, h2, h3, h4, h5⟩ := h
  obtain ⟨nm, q, N, bs, bm, hd, sn, sub, ab, col, dd, k0, k1, k2, k3, k5, e, hf⟩ := clsB_ok h1
  rw [Bool.and_eq_true] at hf
  obtain ⟨f1, f2⟩ := hf
  subst f1
  exact ⟨⟨nm, q, N, bs, bm, sn, sub, ab, col, dd, k0, k1, k2, k3, k5, e, f2⟩, of_decide_eq_true h2, of_decide_eq_true h3, of_decide_eq_true h4, h5⟩
def excP (K : PySem.W.Frag) (D : Addr) : Prop := PySem.W.findIn K (.ref D) "__getattribute__" = some (some (.builtin "BaseException.__getattribute__")) ∧ PySem.W.findIn K (.ref D) "__getattr__" = some none ∧ PySem.W.subIn K (.ref D) (.type "BaseException") = some true ∧ PySem.W.hasDictIn K D = true ∧
  PySem.W.findIn K (.ref D) "__class__" = some (some (.builtin "object.__class__")) ∧ PySem.W.specialIn K (.builtin "object.__class__") "__get__" = some (some (.builtin "getset_descriptor.__get__")) ∧ PySem.W.takesIn K (.builtin "object.__class__") = some true ∧ PySem.W.mroIn K D (.type "object") = some true
instance (K : PySem.W.Frag) (D : Addr) : Decidable (excP K D) := by unfold excP; infer_instance
theorem excP_ok {K : PySem.W.Frag} {D : Addr} (h : excP K D) : ExcC K D := by
  obtain ⟨h1, h2, h3, h4, h5, h6, h7, h8⟩ := h
  exact ⟨h1, h2, h3, h4, h5, h6, h7, h8⟩
def initP (K : PySem.W.Frag) (C : Addr) : Prop := PySem.W.findIn K (.ref C) "__init__" = some (some (.ref (He.ma K C "__init__"))) ∧ PySem.W.typeIn K (.ref (He.ma K C "__init__")) = some (.type "function")
instance (K : PySem.W.Frag) (D : Addr) : Decidable (initP K D) := by unfold initP; infer_instance
def propP (K : PySem.W.Frag) (C : Addr) (f : Str) : Prop := PySem.W.findIn K (.ref C) f = some (some (.ref (He.ma K C f))) ∧ PySem.W.specialIn K (.ref (He.ma K C f)) "__get__" = some (some (.builtin "property.__get__")) ∧ PySem.W.takesIn K (.ref (He.ma K C f)) = some true
instance (K : PySem.W.Frag) (D : Addr) (f : Str) : Decidable (propP K D f) := by unfold propP; infer_instance
def recB (K : PySem.W.Frag) (p : Addr) (T : String) : Bool := match PySem.W.recIn K p T with | some (.ref _ :: _) => true | _ => false
theorem propP_ok {K : PySem.W.Frag} {C : Addr} {f : Str} (h : propP K C f) (r : recB K (He.ma K C f) "property" = true) : PropOf K C f (He.ma K C f) (He5.wf K C "property" f) := by
  obtain ⟨h1, h2, h3⟩ := h
  refine ⟨h1, h2, h3, ?_⟩
  unfold recB at r
  unfold He5.wf
  split at r
  · rename_i a l e
    rw [e]
    exact ⟨_, rfl⟩
  · exact nomatch r
end Rw
namespace Rw
open PySem PySem.Spec PyProof.Rows L2
/-! ### the text -/
def topS (i : Nat) : Stmt := PySem.Challenge.pw_ruleworlds_k02_what_programs_refuse.main.body.getD i (.Pass ⟨0, 0, 0, 0⟩)
abbrev sIsName : Stmt := topS 11
abbrev sIsWorld : Stmt := topS 12
abbrev sIsRule : Stmt := topS 13
abbrev sAreNames : Stmt := topS 17
abbrev sSetOf : Stmt := topS 18
abbrev sInit : Stmt := inClass (topS 16) 0
abbrev sOf : Stmt := inClass (topS 16) 1
abbrev sRules : Stmt := inClass (topS 16) 5
theorem scIsName : FnScope ["thing", "letter"] ["thing"] (defScope sIsName) := ⟨rfl, rfl, rfl, by decide +kernel, rfl, by decide +kernel, by decide +kernel⟩
theorem scIsWorld : FnScope ["thing"] ["thing"] (defScope sIsWorld) := ⟨rfl, rfl, rfl, by decide +kernel, rfl, by decide +kernel, by decide +kernel⟩
theorem scIsRule : FnScope ["thing", "part"] ["thing"] (defScope sIsRule) := ⟨rfl, rfl, rfl, by decide +kernel, rfl, by decide +kernel, by decide +kernel⟩
theorem scAreNames : FnScope ["thing", "item"] ["thing"] (defScope sAreNames) := ⟨rfl, rfl, rfl, by decide +kernel, rfl, by decide +kernel, by decide +kernel⟩
theorem scSetOf : FnScope ["names"] ["names"] (defScope sSetOf) := ⟨rfl, rfl, rfl, by decide +kernel, rfl, by decide +kernel, by decide +kernel⟩
theorem scInit : FnScope ["self", "rules", "place", "row"] ["self", "rules"] (defScope sInit) := ⟨rfl, rfl, rfl, by decide +kernel, rfl, by decide +kernel, by decide +kernel⟩
theorem scOf : FnScope ["cls", "rules"] ["cls", "rules"] (defScope sOf) := ⟨rfl, rfl, rfl, by decide +kernel, rfl, by decide +kernel, by decide +kernel⟩
theorem scRules : FnScope ["self"] ["self"] (defScope sRules) := ⟨rfl, rfl, rfl, by decide +kernel, rfl, by decide +kernel, by decide +kernel⟩
/-- the built-in names that the text does not bind -/
structure Bl (mg : Str → Option Value) : Prop where
  len : mg "len" = none
  isi : mg "isinstance" = none
  all : mg "all" = none
  any : mg "any" = none
  tuple : mg "tuple" = none
  list : mg "list" = none
  sorted : mg "sorted" = none
  set : mg "set" = none
  str : mg "str" = none
  int : mg "int" = none
  max : mg "max" = none
  min : mg "min" = none
  range : mg "range" = none
  enum : mg "enumerate" = none
/-! ### odd values -/
def nameD : PyData → Bool
  | .str x => nameB x
  | _ => false
def oddN : PyData → Prop
  | .str x => x.cps.size ≤ 10000
  | .bool _ => False
  | .dict _ => False
  | _ => True
def tyName : PyData → String
  | .none => "NoneType"
  | .bool _ => "bool"
  | .int _ => "int"
  | .str _ => "str"
  | .list _ => "list"
  | .tuple _ => "tuple"
  | .dict _ => "dict"
theorem tyx_dp {K : PySem.W.Frag} {H : Hp} {x : V} {d : PyData} (h : Dp K H x d) : TyX K H x (.type (tyName d)) := by
  cases h with
  | non => exact .base .non
  | bl b => exact .base (.bl b)
  | int i => exact .base (.int i)
  | str x => exact .base (.str x)
  | lst h1 _ =>
    rcases h1 with (h | ⟨o, h⟩) | ⟨o, its, n, h1, h2, _⟩
    · exact .base (.lst h)
    · exact .base (.frz h)
    · exact .kList h1 h2
  | tup h1 _ => exact tyx_tup h1
section
variable {K : PySem.W.Frag} {H H' : Hp}
mutual
theorem dp_same (e : Same H H') : ∀ (d : PyData) (x : V), Dp K H x d → Dp K H' x d
  | .none, _, h => by cases h; exact .non
  | .bool _, _, h => by cases h; exact .bl _
  | .int _, _, h => by cases h; exact .int _
  | .str _, _, h => by cases h; exact .str _
  | .list ds, _, h => by
    cases h with
    | lst h1 h2 => exact .lst (e.seq h1) (dpAll_same e ds _ h2)
  | .tuple ds, _, h => by
    cases h with
    | tup h1 h2 => exact .tup (same_tup e h1) (dpAll_same e ds _ h2)
  | .dict _, _, h => by cases h
theorem dpAll_same (e : Same H H') : ∀ (ds : List PyData) (xs : List V), DpAll K H xs ds → DpAll K H' xs ds
  | [], _, h => by cases h; exact .nil
  | d :: ds, _, h => by
    cases h with
    | cons h1 h2 => exact .cons (dp_same e d _ h1) (dpAll_same e ds _ h2)
end
end
theorem letter_in {c : Nat} : decide (c ∈ lettersS.cps.toList) = letter c := by
  cases h : letter c with
  | true => exact decide_eq_true (in_letters h)
  | false =>
    refine decide_eq_false fun m => ?_
    have all : (lettersS.cps.toList.all letter) = true := by decide +kernel
    rw [List.all_eq_true.mp all c m] at h
    exact nomatch h
section
variable {P : Program} {w : World} {K : PySem.W.Frag} {mg : Str → Option Value} {base : Heap} {f : Addr} {fd : FuncData} {k : Nat}
/-! ### is_name -/
def spIsName (K : PySem.W.Frag) : Sp := fun vs H Q _ => ∃ (x : V) (d : PyData), vs = [x] ∧ Dp K H x d ∧ oddN d ∧ ∀ H', Same H H' → Q (.bl (nameD d)) H'
theorem ok_isName (F : Fun K "is_name" "is_name" sIsName f fd) (T : Bl mg) (mL : ∃ t, mg "LETTERS" = some (.str lettersS t)) : FnOk P w K mg base CX0 (k + 1) f fd ["thing"] (spIsName K) := by
  refine F.ok scIsName (fun vs H Q E h => ?_) (fun cdv A outer s H vs Q E hr h => ?_)
  · obtain ⟨x, d, rfl, _⟩ := h
    rfl
  obtain ⟨x, d, rfl, hd, odd, q⟩ := h
  obtain ⟨tl, mL⟩ := mL
  refine ⟨_, pss_cons (ps_if (PW.pt (pw_or (pt_not (pt_val (pe_callB call_isi (by rfl) T.isi PyProof.Rows.boot_isinstance (pa_cons (pv 0) (pa_cons (pe_bltn (v := .ty "str") (by rfl) T.str (by decide +kernel) rfl) pa_nil)))))
      (pw_or1 (pt_cmpR op_eq (pv 0) pe_str (nomark _))))) (pss_one (ps_ret pe_bl)) pss_nil)
    (pss_one (ps_ret (pe_and (pe_chain op_le op_le pe_int (pe_callB call_len_str (by rfl) T.len PySem.boot_len (pa_cons (pv 0) pa_nil)) pe_int)
      (pe_one (pe_callB (cr_all rfl) (by rfl) T.all (by decide +kernel) (pa_cons (pe_lc (own := [("letter", 1)]) (g := gName 1) (by rfl) scIsName.nd (pi_str (pv 0)) (blkOk_by (N := ["thing", "letter"]) (sc := defScope sIsName) (by decide +kernel))
        (fun _ _ _ _ _ => pg_name (i := 1) scIsName.nd rfl (Or.inl rfl)) (fun _ _ _ _ _ => pts_nil) (fun _ _ _ _ _ => pe_cmpR op_in_sign (pv 1) (pe_glob (v := .str lettersS) (by rfl) mL ⟨_, rfl⟩) (by rfl))) pa_nil)))))), ?_⟩
  have cases' : (∃ t : String, TyX K H x (.type t) ∧ PySem.W.kitOne K (.type t) (.type "str") = some false ∧ nameD d = false) ∨ ∃ z, d = .str z := by
    have ty := tyx_dp hd
    cases d with
    | none => exact .inl ⟨"NoneType", ty, kit_ty (by decide +kernel), rfl⟩
    | bool _ => exact absurd odd id
    | dict _ => exact absurd odd id
    | int i => exact .inl ⟨"int", ty, kit_ty (by decide +kernel), rfl⟩
    | list ds => exact .inl ⟨"list", ty, kit_ty (by decide +kernel), rfl⟩
    | tuple ds => exact .inl ⟨"tuple", ty, kit_ty (by decide +kernel), rfl⟩
    | str z => exact .inr ⟨z, rfl⟩
  rcases cases' with ⟨t, h1, h2, h3⟩ | ⟨z, rfl⟩
  · refine ⟨x, rfl, x, .ty "str", .type t, .type "str", false, rfl, .ty "str", h1, h2, false, rfl, iteT ?_⟩
    have := q H fun _ _ e => e
    rw [h3] at this
    exact this
  · cases hd
    have few : z.cps.size ≤ 10000 := odd
    refine ⟨.str z, rfl, .str z, .ty "str", .type "str", .type "str", true, rfl, .ty "str", .base (.str z), kit_ty (by decide +kernel), true, rfl, ?_⟩
    refine ⟨.str z, rfl, rfl, _, rfl, ?_⟩
    refine ite2 (fun e => ?_) (fun e => ?_)
    · have ez : z = notS := V.str.inj (of_decide_eq_true e)
      have en : nameB z = false := by
        rw [ez]
        decide +kernel
      have := q H fun _ _ e => e
      rw [show nameD (.str z) = nameB z from rfl, en] at this
      exact this
    · have nz : z ≠ notS := fun h => e (decide_eq_true (by rw [h]; rfl))
      have val : nameB z = (decide (1 ≤ z.cps.size) && (decide (z.cps.size ≤ 8) && z.cps.toList.all letter)) := by
        unfold nameB
        rw [decide_eq_false nz]
        cases z.cps.toList.all letter <;> cases decide (1 ≤ z.cps.size) <;> cases decide (z.cps.size ≤ 8) <;> rfl
      have q' : ∀ H', Same H H' → Q (.bl (decide (1 ≤ z.cps.size) && (decide (z.cps.size ≤ 8) && z.cps.toList.all letter))) H' := fun H' s => by
        have := q H' s
        rw [show nameD (.str z) = nameB z from rfl, val] at this
        exact this
      refine ⟨.str z, rfl, z, rfl, small_line few, 1, z.length, rfl, rfl, decide ((1 : Int) ≤ (z.length : Int)), rfl, ite2 (fun e1 => ?_) (fun e1 => ?_)⟩
      · have h1 : decide (1 ≤ z.cps.size) = true := by
          have := of_decide_eq_true e1
          exact decide_eq_true (by have : (1 : Int) ≤ (z.cps.size : Int) := this; omega)
        rw [h1] at q'
        refine ⟨z.length, 8, rfl, rfl, decide ((z.length : Int) ≤ 8), rfl, ite2 (fun e2 => ?_) (fun e2 => ?_)⟩
        · have h2 : decide (z.cps.size ≤ 8) = true := by
            have := of_decide_eq_true e2
            exact decide_eq_true (by have : (z.cps.size : Int) ≤ 8 := this; omega)
          rw [h2] at q'
          refine ⟨.str z, rfl, z, rfl, fun D hD => ?_⟩
          have s1 : Same H (upd H D (.lst [])) := same_new hD _
          refine lc_sgn (x := z) (fun i H1 => Same H H1 ∧ H1 D = some (.lst ((z.cps.toList.take i).map fun c => V.bl (letter c)))) ⟨s1, upd_same⟩ (fun i c H1 hc hI => ?_) (fun H1 hI => ?_)
          · obtain ⟨sm, hd⟩ := hI
            have hc' : z.cps.toList[i]? = some c := by rw [Array.getElem?_toList]; exact hc
            have il : i < z.cps.size := (Array.getElem?_eq_some_iff.mp hc).1
            refine ⟨rfl, .str ⟨#[c]⟩, rfl, c, lettersS, rfl, rfl, ?_⟩
            rw [letter_in]
            refine ⟨_, hd, small_line' (by rw [List.length_map, List.length_take, Array.length_toList]; omega), same_put sm hD, ?_⟩
            rw [upd_same, take_snoc hc', List.map_append]
            rfl
          · obtain ⟨sm, hd⟩ := hI
            rw [show z.cps.size = z.cps.toList.length by rw [Array.length_toList], List.take_length] at hd
            refine ⟨D, z.cps.toList.map letter, rfl, SqL.of (by rw [List.map_map]; exact hd), ?_⟩
            have eq : (z.cps.toList.map letter).all id = z.cps.toList.all letter := by
              rw [List.all_map]
              rfl
            rw [eq]
            exact q' H1 sm
        · have h2 : decide (z.cps.size ≤ 8) = false := decide_eq_false fun h => e2 (decide_eq_true (by show (z.cps.size : Int) ≤ 8; omega))
          rw [h2] at q'
          exact q' H fun _ _ e => e
      · have h1 : decide (1 ≤ z.cps.size) = false := decide_eq_false fun h => e1 (decide_eq_true (by show (1 : Int) ≤ (z.cps.size : Int); omega))
        rw [h1] at q'
        exact ⟨false, rfl, iteF (q' H fun _ _ e => e)⟩
end
end Rw
namespace Rw
open PySem PySem.Spec PyProof.Rows L2
/-! ### worlds of odd values -/
def strOf : PyData → Str
  | .str x => x
  | _ => notS
theorem strs_of : ∀ {ds : List PyData}, ds.all nameD = true → ds = (ds.map strOf).map PyData.str ∧ ∀ x ∈ ds.map strOf, nameB x = true
  | [], _ => ⟨rfl, fun x hx => nomatch hx⟩
  | d :: ds, h => by
    rw [List.all_cons, Bool.and_eq_true] at h
    obtain ⟨h1, h2⟩ := h
    obtain ⟨e, hn⟩ := strs_of h2
    cases d with
    | str x =>
      refine ⟨by rw [List.map_cons, List.map_cons, ← e]; rfl, fun y hy => ?_⟩
      rw [List.map_cons] at hy
      rcases List.mem_cons.mp hy with z | hy
      · rw [z]
        exact h1
      · exact hn y hy
    | _ => exact absurd h1 (by simp [nameD])
instance (ns : W) : Decidable (UpX ns) := inferInstanceAs (Decidable (ns.Pairwise fun a b => a.cps.toList < b.cps.toList))
def worldD : PyData → Bool
  | .tuple ds => ds.all nameD && decide (UpX (ds.map strOf))
  | _ => false
def oddW : PyData → Prop
  | .tuple ds => (∀ d ∈ ds, oddN d) ∧ ds.length ≤ 40
  | .bool _ => False
  | .dict _ => False
  | _ => True
theorem worldD_wd {ns : W} (h : IsW ns) : worldD (wd ns) = true := by
  unfold worldD wd
  have e1 : ((ns.map PyData.str).all nameD) = true := by
    rw [List.all_map, List.all_eq_true]
    exact fun x hx => h.names x hx
  have e2 : (ns.map PyData.str).map strOf = ns := by
    rw [List.map_map]
    exact List.map_id' ns
  show ((ns.map PyData.str).all nameD && decide (UpX ((ns.map PyData.str).map strOf))) = true
  rw [e1, e2, decide_eq_true h.up]
  rfl
theorem worldD_of {d : PyData} (o : oddW d) (h : worldD d = true) : ∃ ns, IsW ns ∧ d = wd ns := by
  cases d with
  | tuple ds =>
    have h' : (ds.all nameD && decide (UpX (ds.map strOf))) = true := h
    rw [Bool.and_eq_true] at h'
    obtain ⟨h1, h2⟩ := h'
    obtain ⟨e, hn⟩ := strs_of h1
    refine ⟨ds.map strOf, ⟨hn, of_decide_eq_true h2, by rw [List.length_map]; exact o.2⟩, ?_⟩
    unfold wd
    rw [← e]
  | _ => exact nomatch h
theorem oddN_name {x : Str} (h : nameB x = true) : oddN (.str x) := by
  obtain ⟨_, _, h3, _⟩ := nameB_iff.mp h
  show x.cps.size ≤ 10000
  omega
theorem oddW_wd {ns : W} (h : IsW ns) : oddW (wd ns) := ⟨fun d hd => by
  obtain ⟨x, hx, rfl⟩ := List.mem_map.mp hd
  exact oddN_name (h.names x hx), by rw [List.length_map]; exact h.few⟩
theorem shaped_names {ns : W} (h : ∀ x ∈ ns, nameB x = true) : SeqAt.shaped (wd ns) = true := shaped_of (lay_wd h) (by rw [depth_wd]; decide)
section
variable {P : Program} {w : World} {K : PySem.W.Frag} {mg : Str → Option Value} {base : Heap} {f : Addr} {fd : FuncData} {k : Nat}
def spAreNames (K : PySem.W.Frag) : Sp := fun vs H Q _ => ∃ (a : Addr) (xs : List V) (ds : List PyData), vs = [.ref a] ∧ SqT K H a xs ∧ DpAll K H xs ds ∧ (∀ d ∈ ds, oddN d) ∧ ds.length ≤ 1000 ∧ ∀ H', Same H H' → Q (.bl (ds.all nameD)) H'
theorem ok_areNames {f1 : Addr} {fd1 : FuncData} (F : Fun K "_are_names" "_are_names" sAreNames f fd) (T : Bl mg) (G : FnOk P w K mg base CX0 k f1 fd1 ["thing"] (spIsName K)) (b1 : Binds K fd1 ["thing"] []) (k1 : PySem.W.keepIn K (.ref f1) = true) (m1 : mg "is_name" = some (.ref f1)) :
    FnOk P w K mg base CX0 (k + 1) f fd ["thing"] (spAreNames K) := by
  refine F.ok scAreNames (fun vs H Q E h => ?_) (fun cdv A outer s H vs Q E hr h => ?_)
  · obtain ⟨a, xs, ds, rfl, _⟩ := h
    rfl
  obtain ⟨a, xs, ds, rfl, hS, hx, odd, few, q⟩ := h
  have xl := dpAll_len hx
  refine ⟨_, pss_one (ps_ret (pe_and (pe_isiTL (pv 0) (by rfl) T.isi (pa_cons (pe_bltn (v := .ty "tuple") (by rfl) T.tuple (by decide +kernel) rfl) (pa_cons (pe_bltn (v := .ty "list") (by rfl) T.list (by decide +kernel) rfl) pa_nil)))
      (pe_one (pe_callB (cr_all rfl) (by rfl) T.all (by decide +kernel) (pa_cons (pe_lc (own := [("item", 1)]) (g := gName 1) (by rfl) scAreNames.nd (pi_tup (pv 0)) (blkOk_by (N := ["thing", "item"]) (sc := defScope sAreNames) (by decide +kernel))
        (fun _ _ _ _ _ => pg_name (i := 1) scAreNames.nd rfl (Or.inl rfl)) (fun _ _ _ _ _ => pts_nil) (fun _ _ _ _ _ => pe_call G hr (by rfl) m1 k1 b1 .nil pass0 (pa_cons (pv 1) pa_nil))) pa_nil))))), ?_⟩
  refine ⟨.ref a, rfl, ⟨a, _, rfl, hS⟩, fun T0 hT => ⟨true, rfl, iteT ?_⟩⟩
  have s0 : Same H (upd H T0 (.tup [.ty "tuple", .ty "list"])) := same_new hT _
  generalize upd H T0 (.tup [.ty "tuple", .ty "list"]) = H0 at s0 ⊢
  refine ⟨.ref a, rfl, a, rfl, ⟨_, same_tup s0 hS⟩, fun D hD => ?_⟩
  have s1 : Same H0 (upd H0 D (.lst [])) := same_new hD _
  refine lc_tup (xs := xs) (fun i H1 => Same H0 H1 ∧ H1 D = some (.lst ((ds.take i).map fun d => V.bl (nameD d)))) ⟨s1, upd_same⟩ (fun i H1 _ hI => same_tup (s0.trans hI.1) hS) (fun i x H1 hxi hI => ?_) (fun H1 hI => ?_)
  · obtain ⟨sm, hd⟩ := hI
    obtain ⟨d, hdi, hxd⟩ := dpAll_at' hx hxi
    have il : i < ds.length := (List.getElem?_eq_some_iff.mp hdi).1
    refine ⟨rfl, x, rfl, x, d, rfl, dp_same (s0.trans sm) _ _ hxd, odd d (List.mem_of_getElem? hdi), fun H2 sm2 => ⟨_, sm2 _ _ hd, small_line' (by rw [List.length_map, List.length_take]; omega), same_put (sm.trans sm2) hD, ?_⟩⟩
    rw [upd_same, take_snoc hdi, List.map_append]
    rfl
  · obtain ⟨sm, hd⟩ := hI
    rw [xl, List.take_length] at hd
    refine ⟨D, ds.map nameD, rfl, SqL.of (by rw [List.map_map]; exact hd), ?_⟩
    have z : (ds.map nameD).all id = ds.all nameD := by
      rw [List.all_map]
      rfl
    rw [z]
    exact q H1 (s0.trans sm)
/-! ### _set_of -/
def spSetOf (K : PySem.W.Frag) : Sp := fun vs H Q _ => ∃ (a : Addr) (ns : W), vs = [.ref a] ∧ (SqL K H a (ns.map V.str) ∨ SqT K H a (ns.map V.str)) ∧ ns.length < 1000 ∧ ∀ (H' : Hp) (p : Addr) (zs : W), Same H H' → H' p = some (.tup (zs.map V.str)) → UpX zs → (∀ z, z ∈ zs ↔ z ∈ ns) → Q (.ref p) H'
theorem ok_setOf (F : Fun K "_set_of" "_set_of" sSetOf f fd) (T : Bl mg) : FnOk P w K mg base CX0 (k + 1) f fd ["names"] (spSetOf K) := by
  refine F.ok scSetOf (fun vs H Q E h => ?_) (fun cdv A outer s H vs Q E hr h => ?_)
  · obtain ⟨a, ns, rfl, _⟩ := h
    rfl
  obtain ⟨a, ns, rfl, hS, few, q⟩ := h
  refine ⟨_, pss_one (ps_ret (pe_callTy call_tuple_of (by rfl) T.tuple (by decide +kernel) (pa_cons (pe_callB (cr_sortX rfl hr.units) (by rfl) T.sorted (by decide +kernel) (pa_cons (pe_callTy (cr_setX rfl hr.units) (by rfl) T.set (by decide +kernel) (pa_cons (pv 0) pa_nil)) pa_nil)) pa_nil))), ?_⟩
  refine ⟨.ref a, rfl, a, ns, rfl, hS, few, fun b ms hb nd hm hl => ?_⟩
  refine ⟨b, ms, rfl, upd_same, by omega, fun zs p hz nz hlz rz hp => ?_⟩
  refine ⟨p, zs.map V.str, rfl, .inl ⟨SqL.of upd_same, fun l hl2 => ?_⟩⟩
  exact q _ l zs ((same_new hb _).trans ((same_new hp _).trans (same_new hl2 _))) upd_same (upX_of rz nz) fun z => (hz z).trans (hm z)
/-! ### is_world -/
def spIsWorld (K : PySem.W.Frag) : Sp := fun vs H Q _ => ∃ (x : V) (d : PyData), vs = [x] ∧ Dp K H x d ∧ oddW d ∧ ∀ H', Same H H' → Q (.bl (worldD d)) H'
theorem ok_isWorld {f1 f2 : Addr} {fd1 fd2 : FuncData} (F : Fun K "is_world" "is_world" sIsWorld f fd) (T : Bl mg) (G1 : FnOk P w K mg base CX0 k f1 fd1 ["thing"] (spAreNames K)) (b1 : Binds K fd1 ["thing"] []) (k1 : PySem.W.keepIn K (.ref f1) = true) (m1 : mg "_are_names" = some (.ref f1))
    (G2 : FnOk P w K mg base CX0 k f2 fd2 ["names"] (spSetOf K)) (b2 : Binds K fd2 ["names"] []) (k2 : PySem.W.keepIn K (.ref f2) = true) (m2 : mg "_set_of" = some (.ref f2)) : FnOk P w K mg base CX0 (k + 1) f fd ["thing"] (spIsWorld K) := by
  refine F.ok scIsWorld (fun vs H Q E h => ?_) (fun cdv A outer s H vs Q E hr h => ?_)
  · obtain ⟨x, d, rfl, _⟩ := h
    rfl
  obtain ⟨x, d, rfl, hx, odd, q⟩ := h
  refine ⟨_, pss_one (ps_ret (pe_and (pe_callB call_isi (by rfl) T.isi PyProof.Rows.boot_isinstance (pa_cons (pv 0) (pa_cons (pe_bltn (v := .ty "tuple") (by rfl) T.tuple (by decide +kernel) rfl) pa_nil)))
    (pe_and (pe_call G1 hr (by rfl) m1 k1 b1 .nil pass0 (pa_cons (pv 0) pa_nil)) (pe_one (pe_cmpR (op_eqD hr.units) (pv 0) (pe_call G2 hr (by rfl) m2 k2 b2 .nil pass0 (pa_cons (pv 0) pa_nil)) (nomark _)))))), ?_⟩
  have cases' : (∃ t : String, TyX K H x (.type t) ∧ PySem.W.kitOne K (.type t) (.type "tuple") = some false ∧ worldD d = false) ∨ ∃ ds, d = .tuple ds := by
    have ty := tyx_dp hx
    cases d with
    | none => exact .inl ⟨"NoneType", ty, kit_ty (by decide +kernel), rfl⟩
    | bool _ => exact absurd odd id
    | dict _ => exact absurd odd id
    | int i => exact .inl ⟨"int", ty, kit_ty (by decide +kernel), rfl⟩
    | list ds => exact .inl ⟨"list", ty, kit_ty (by decide +kernel), rfl⟩
    | str z => exact .inl ⟨"str", ty, kit_ty (by decide +kernel), rfl⟩
    | tuple ds => exact .inr ⟨ds, rfl⟩
  rcases cases' with ⟨t, h1, h2, h3⟩ | ⟨ds, rfl⟩
  · refine ⟨x, rfl, x, .ty "tuple", .type t, .type "tuple", false, rfl, .ty "tuple", h1, h2, false, rfl, iteF ?_⟩
    have := q H fun _ _ e => e
    rw [h3] at this
    exact this
  obtain ⟨o1, o2⟩ := odd
  cases hx with
  | @tup a xs _ hS hxs =>
    refine ⟨.ref a, rfl, .ref a, .ty "tuple", .type "tuple", .type "tuple", true, rfl, .ty "tuple", tyx_tup hS, kit_ty (by decide +kernel), true, rfl, iteT ?_⟩
    refine ⟨.ref a, rfl, a, xs, ds, rfl, hS, hxs, o1, by omega, fun H1 s1 => ⟨_, rfl, ?_⟩⟩
    have val : ∀ b, ds.all nameD = b → worldD (.tuple ds) = (b && decide (UpX (ds.map strOf))) := fun b e => by
      rw [← e]
      rfl
    refine ite2 (fun c => ?_) (fun c => ?_)
    · rw [val _ c] at q
      obtain ⟨e, hn⟩ := strs_of c
      have ex : xs = (ds.map strOf).map V.str := dps_str (K := K) (H := H) (by rw [← e]; exact hxs)
      rw [ex] at hS
      refine ⟨.ref a, rfl, .ref a, rfl, a, ds.map strOf, rfl, .inr (same_tup s1 hS), by rw [List.length_map]; omega, fun H2 p zs s2 hp hu hm => ?_⟩
      have hz : ∀ x ∈ zs, nameB x = true := fun x hx => hn x ((hm x).mp hx)
      refine ⟨wd (ds.map strOf), wd zs, to_wd (same_tup (s1.trans s2) hS), to_wd (SqT.of hp), shaped_names hn, shaped_names hz, ?_⟩
      rw [eqv_wd]
      have ed : decide (ds.map strOf = zs) = decide (UpX (ds.map strOf)) := by
        by_cases u : UpX (ds.map strOf)
        · rw [decide_eq_true u, decide_eq_true (upX_one u hu fun z => (hm z).symm)]
        · rw [decide_eq_false u, decide_eq_false fun z => u (by rw [z]; exact hu)]
      rw [ed]
      exact q H2 (s1.trans s2)
    · rw [val false (by simpa using c)] at q
      exact q H1 s1
/-! ### is_rule -/
def spIsRule (K : PySem.W.Frag) : Sp := fun vs H Q _ => ∃ (x : V) (r : Rl), vs = [x] ∧ Dp K H x (rd r) ∧ IsR r ∧ ∀ H', Same H H' → Q (.bl true) H'
theorem ok_isRule {f1 : Addr} {fd1 : FuncData} (F : Fun K "is_rule" "is_rule" sIsRule f fd) (T : Bl mg) (G1 : FnOk P w K mg base CX0 k f1 fd1 ["thing"] (spIsWorld K)) (b1 : Binds K fd1 ["thing"] []) (k1 : PySem.W.keepIn K (.ref f1) = true) (m1 : mg "is_world" = some (.ref f1)) :
    FnOk P w K mg base CX0 (k + 1) f fd ["thing"] (spIsRule K) := by
  refine F.ok scIsRule (fun vs H Q E h => ?_) (fun cdv A outer s H vs Q E hr h => ?_)
  · obtain ⟨x, r, rfl, _⟩ := h
    rfl
  obtain ⟨x, r, rfl, hx, hr', q⟩ := h
  refine ⟨_, pss_one (ps_ret (pe_and (pe_callB call_isi (by rfl) T.isi PyProof.Rows.boot_isinstance (pa_cons (pv 0) (pa_cons (pe_bltn (v := .ty "tuple") (by rfl) T.tuple (by decide +kernel) rfl) pa_nil)))
    (pe_and (pe_cmpR op_eq (pe_callB call_len_seq (by rfl) T.len PySem.boot_len (pa_cons (pv 0) pa_nil)) pe_int (nomark _)) (pe_one (pe_callB (cr_all rfl) (by rfl) T.all (by decide +kernel) (pa_cons (pe_lc (own := [("part", 1)]) (g := gName 1) (by rfl) scIsRule.nd (pi_tup (pv 0)) (blkOk_by (N := ["thing", "part"]) (sc := defScope sIsRule) (by decide +kernel))
        (fun _ _ _ _ _ => pg_name (i := 1) scIsRule.nd rfl (Or.inl rfl)) (fun _ _ _ _ _ => pts_nil) (fun _ _ _ _ _ => pe_call G1 hr (by rfl) m1 k1 b1 .nil pass0 (pa_cons (pv 1) pa_nil))) pa_nil)))))), ?_⟩
  unfold rd at hx
  cases hx with
  | @tup a xs _ hS hxs =>
    have xl : xs.length = 4 := by
      rw [dpAll_len hxs, List.length_map]
      rfl
    refine ⟨.ref a, rfl, .ref a, .ty "tuple", .type "tuple", .type "tuple", true, rfl, .ty "tuple", tyx_tup hS, kit_ty (by decide +kernel), true, rfl, iteT ?_⟩
    refine ⟨.ref a, rfl, a, xs, rfl, .inr hS, rfl, true, congrArg V.bl (decide_eq_true (by rw [xl]; rfl)), iteT ?_⟩
    refine ⟨.ref a, rfl, a, rfl, ⟨_, hS⟩, fun D hD => ?_⟩
    refine lc_tup (xs := xs) (fun i H1 => Same H H1 ∧ H1 D = some (.lst (List.replicate i (V.bl true)))) ⟨same_new hD _, upd_same⟩ (fun i H1 _ hI => same_tup hI.1 hS) (fun i x H1 hxi hI => ?_) (fun H1 hI => ?_)
    · obtain ⟨sm, hd⟩ := hI
      obtain ⟨d, hdi, hxd⟩ := dpAll_at' hxs hxi
      obtain ⟨t, ht, rfl⟩ := map_at hdi
      have wt := hr'.all t (List.mem_of_getElem? ht)
      have il : i < (parts r).length := (List.getElem?_eq_some_iff.mp ht).1
      have il' : i < 4 := il
      refine ⟨rfl, x, rfl, x, wd t, rfl, (Stay.same sm).wd hxd, oddW_wd wt, fun H2 sm2 => ?_⟩
      rw [worldD_wd wt]
      refine ⟨_, sm2 _ _ hd, small_line' (by rw [List.length_replicate]; omega), same_put (sm.trans sm2) hD, ?_⟩
      rw [upd_same, show List.replicate (i + 1) (V.bl true) = List.replicate i (V.bl true) ++ [V.bl true] from List.replicate_succ']
    · obtain ⟨sm, hd⟩ := hI
      refine ⟨D, List.replicate xs.length true, rfl, SqL.of (by rw [List.map_replicate]; exact hd), ?_⟩
      have z : (List.replicate xs.length true).all id = true := by simp
      rw [z]
      exact q H1 sm
end
end Rw
namespace Rw
open PySem PySem.Spec PyProof.Rows L2
/-! ### programs -/
/-- an instance of the class at C whose rules are S -/
def PgAt (K : PySem.W.Frag) (C : Addr) (H : Hp) (v : V) (S : List Rl) : Prop := ∃ a dx t ys, v = .ref a ∧ H a = some (.ins C dx [(("_rules" : Str), .ref t)]) ∧ SqT K H t ys ∧ DpAll K H ys (S.map rd)
theorem PgAt.same {K : PySem.W.Frag} {C : Addr} {H H' : Hp} {v : V} {S : List Rl} (h : PgAt K C H v S) (e : Same H H') : PgAt K C H' v S := by
  obtain ⟨a, dx, t, ys, h1, h2, h3, h4⟩ := h
  exact ⟨a, dx, t, ys, h1, e _ _ h2, same_tup e h3, dpAll_same e _ _ h4⟩
theorem mut_ins {H : Hp} {p C dx : Addr} {fs : List (Str × V)} (h : H p = some (.ins C dx fs)) : Mut (H p) := by
  rw [h]
  exact True.intro
section
variable {P : Program} {w : World} {K : PySem.W.Frag} {mg : Str → Option Value} {base : Heap} {f : Addr} {fd : FuncData} {k : Nat}
/-- Program.__init__(self, *rules) -/
def spInit (K : PySem.W.Frag) (C : Addr) : Sp := fun vs H Q _ => ∃ (x dx : Addr) (xs : List V) (L : List Rl), vs = .ref x :: xs ∧ H x = some (.ins C dx []) ∧ DpAll K H xs (L.map rd) ∧ (∀ r ∈ L, IsR r) ∧ L.length < 64 ∧
  ∀ H' S, (∀ b u, b ≠ x → H b = some u → H' b = some u) → Srt S L → S.length < 64 → PgAt K C H' (.ref x) S → Q .non H'
theorem ok_init {C f1 : Addr} {fd1 : FuncData} {name qual : Str} {kV doc pm cdv ct oc : Value} {an od : Option Addr} {osl : Array (Option Value)}
    (lk : K.lookup f = some ⟨oc, od, .func (PySem.W.fnOf name qual (defArgs sInit) (defBody sInit) (defScope sInit) .none kV doc pm an cdv ct), osl⟩) (hcd : PySem.W.codeIn K cdv qual = true) (T : Bl mg) (c : Cls K C) (n : NoAttr K C "_rules")
    (G1 : FnOk P w K mg base CX0 k f1 fd1 ["thing"] (spIsRule K)) (b1 : Binds K fd1 ["thing"] []) (k1 : PySem.W.keepIn K (.ref f1) = true) (m1 : mg "is_rule" = some (.ref f1)) : FnR P w K mg base CX0 (k + 1) f (spInit K C) := by
  have main := StX.fn_star (CX := CX0) (P := P) (w := w) (mg := mg) (base := base) (k := k) (N := ["self", "rules", "place", "row"]) (ps := ["self"]) (pv := "rules") (sp := fun vs H Q E => ∃ (x p dx : Addr) (xs : List V) (L : List Rl), vs = [.ref x, .ref p] ∧ H x = some (.ins C dx []) ∧ SqT K H p xs ∧ DpAll K H xs (L.map rd) ∧ (∀ r ∈ L, IsR r) ∧ L.length < 64 ∧
      ∀ H' S, (∀ b u, b ≠ x → H b = some u → H' b = some u) → Srt S L → S.length < 64 → PgAt K C H' (.ref x) S → Q .non H') lk hcd scInit StX.cxUp_none (StX.bind_star1 (p1 := "self") (pv := "rules") (B := fun vs => bindArgs (PySem.W.fnOf name qual (defArgs sInit) (defBody sInit) (defScope sInit) .none kV doc pm an cdv ct) { pos := vs }) (fun _ => by first | rfl | with_unfolding_all rfl) (fun _ _ _ => by first | rfl | with_unfolding_all rfl)) (fun A outer s H vs Q E hr h => ?_)
  · intro A outer s H us vs Q E hr e0 r h
    refine main A outer s H us vs Q E hr e0 r ?_
    obtain ⟨x, dx, xs, L, rfl, hx, hxs, hL, few, q⟩ := h
    refine ⟨[.ref x], xs, rfl, rfl, small_line (by rw [dpAll_len hxs, List.length_map]; omega), fun p hp => ?_⟩
    have sp := same_new hp (.tup xs)
    exact ⟨x, p, dx, xs, L, rfl, sp _ _ hx, SqT.of upd_same, dpAll_same sp _ _ hxs, hL, few, fun H' S hb hs hl hg => q H' S (fun b u nb e => hb b u nb (sp _ _ e)) hs hl hg⟩
  obtain ⟨x, p, dx, xs, L, rfl, hx, hp, hxs, hL, few, q⟩ := h
  have xl : xs.length = L.length := by rw [dpAll_len hxs, List.length_map]
  refine ⟨_, PSs.nox (pss_cons (ps_for PassesOwn.never rfl (pi_enumT (by rfl) T.enum (pa_cons (pv 1) pa_nil)) (pg_tup (by rfl) (pgs_cons (pg_name (i := 2) scInit.nd rfl (.inl rfl)) (pgs_cons (pg_name (i := 3) scInit.nd rfl (.inl rfl)) pgs_nil)))
      (pss_one (ps_if (pt_not (pt_val (pe_call G1 hr (by rfl) m1 k1 b1 .nil pass0 (pa_cons (pv 3) pa_nil)))) pss_never pss_nil)))
    (pss_one (ps_fld (pv 0) (pe_callTy call_tuple_of (by rfl) T.tuple (by decide +kernel) (pa_cons (pe_callB (cr_sortR rfl hr.units) (by rfl) T.sorted (by decide +kernel) (pa_cons (pe_callTy (cr_setR rfl hr.units) (by rfl) T.set (by decide +kernel) (pa_cons (pv 1) pa_nil)) pa_nil)) pa_nil)) rfl))), ?_⟩
  refine ⟨.ref p, rfl, p, xs, rfl, hp, for_enumT (xs := xs) (fun i σ H1 => (∃ y2 y3, σ = [some (.ref x), some (.ref p), y2, y3]) ∧ Same H H1) ⟨⟨none, none, rfl⟩, fun _ _ e => e⟩ (fun i σ H1 _ hI => same_tup hI.2 hp) (fun i v σ H1 T0 hv hI hT => ?_) (fun σ H1 hI => ?_)⟩
  · obtain ⟨⟨y2, y3, rfl⟩, sm⟩ := hI
    obtain ⟨d, hd, hvd⟩ := dpAll_at' hxs hv
    obtain ⟨r, hr', rfl⟩ := map_at hd
    have st := same_new hT (.tup [.int (i : Int), v])
    refine ⟨T0, [.int (i : Int), v], rfl, SqT.of upd_same, rfl, .int (i : Int), [v], rfl, v, [], rfl, rfl, ?_⟩
    refine ⟨v, rfl, v, r, rfl, dp_same (sm.trans st) _ _ hvd, hL r (List.mem_of_getElem? hr'), fun H2 s2 => ⟨true, rfl, iteF ⟨⟨_, _, rfl⟩, sm.trans (st.trans s2)⟩⟩⟩
  · obtain ⟨⟨y2, y3, rfl⟩, sm⟩ := hI
    refine ⟨.ref p, rfl, p, xs, L, rfl, .inr (same_tup sm hp), dpAll_same sm _ _ hxs, few, fun a M ha hM isP hall => ?_⟩
    have sa := same_new ha (TSetO w a M)
    refine ⟨a, M, L, rfl, upd_same, (fun e he => ⟨(hM e he).1, (Stay.same sa).dp _ _ (hM e he).1.ok (hM e he).2⟩), isP, hall, fun ys S l hS hSl hys hl => ?_⟩
    have sl := same_new hl (.lst ys)
    refine ⟨l, ys, rfl, .inl ⟨SqL.of upd_same, fun t ht => ?_⟩⟩
    have st := same_new ht (.tup ys)
    have all := sm.trans (sa.trans (sl.trans st))
    refine ⟨.ref x, rfl, x, C, dx, _, rfl, all _ _ hx, c, n, by show 0 < 1000; decide, ?_⟩
    have hx' := all _ _ hx
    have stp := Stay.put (mut_ins hx') (.ins C dx [(("_rules" : Str), .ref t)])
    refine q _ S (fun b u nb e => ?_) hS hSl ⟨x, dx, t, ys, rfl, upd_same, stp.seq (SqT.of upd_same), (Stay.same st |>.trans stp).dpAll _ _ (okDs_rd S) ((Stay.same sl).dpAll _ _ (okDs_rd S) hys)⟩
    rw [upd_ne nb]
    exact all _ _ e
/-- a program made: where the class is called with the rules L -/
theorem made_ok {C : Addr} {H : Hp} {xs : List V} {L : List Rl} {Q : VK} {E : XK} (hx : DpAll K H xs (L.map rd)) (hL : ∀ r ∈ L, IsR r) (few : L.length < 64) (q : ∀ H' v S, Same H H' → Srt S L → S.length < 64 → PgAt K C H' v S → Q v H') :
    ∀ x dx, H x = none → H dx = none → dx ≠ x → spInit K C (.ref x :: xs) (upd (upd H dx (.own x)) x (.ins C dx [])) (fun v H2 => v = .non ∧ Q (.ref x) H2) E := fun x dx hx0 hd0 ne => by
  have s1 := same_new hd0 (.own x)
  have hx1 : (upd H dx (.own x)) x = none := by
    rw [upd_ne ne.symm]
    exact hx0
  have s2 := s1.trans (same_new hx1 (.ins C dx []))
  refine ⟨x, dx, xs, L, rfl, upd_same, (Stay.same s2).dpAll _ _ (okDs_rd L) hx, hL, few, fun H' S hb hS hl hg => ⟨rfl, q H' _ S (fun b u e => ?_) hS hl hg⟩⟩
  exact hb b u (ne_of_none e hx0) (s2 _ _ e)
/-- Program.of(cls, rules) -/
def spOf (K : PySem.W.Frag) (C : Addr) : Sp := fun vs H Q _ => ∃ (l : Addr) (xs : List V) (L : List Rl), vs = [.ref C, .ref l] ∧ (SqT K H l xs ∨ SqL K H l xs) ∧ DpAll K H xs (L.map rd) ∧ (∀ r ∈ L, IsR r) ∧ L.length < 64 ∧ ∀ H' v S, Same H H' → Srt S L → S.length < 64 → PgAt K C H' v S → Q v H'
theorem ok_of {C f1 : Addr} (F : Fun K "of" "Program.of" sOf f fd) (M : Mk K C f1) (G : FnR P w K mg base CX0 k f1 (spInit K C)) : FnOk P w K mg base CX0 (k + 2) f fd ["cls", "rules"] (spOf K C) := by
  refine F.ok scOf (fun vs H Q E h => ?_) (fun cdv A outer s H vs Q E hr h => ?_)
  · obtain ⟨l, xs, L, rfl, _⟩ := h
    rfl
  obtain ⟨l, xs, L, rfl, hS, hx, hL, few, q⟩ := h
  refine ⟨_, pss_one (ps_ret (pe_makeSL (i := 0) M G hr rfl (.inl rfl) pass0 (pv 1))), ?_⟩
  exact ⟨rfl, .ref l, rfl, l, xs, rfl, hS, made_ok hx hL few q⟩
/-- program.rules -/
def spRules (K : PySem.W.Frag) (C : Addr) : Sp := fun vs H Q _ => ∃ (v : V) (S : List Rl), vs = [v] ∧ PgAt K C H v S ∧ ∀ t ys, SqT K H t ys → DpAll K H ys (S.map rd) → Q (.ref t) H
theorem ok_rules {C : Addr} (F : Fun K "rules" "Program.rules" sRules f fd) (c : Cls K C) (n : NoAttr K C "_rules") : FnOk P w K mg base CX0 (k + 1) f fd ["self"] (spRules K C) := by
  refine F.ok scRules (fun vs H Q E h => ?_) (fun cdv A outer s H vs Q E hr h => ?_)
  · obtain ⟨v, S, rfl, _⟩ := h
    rfl
  obtain ⟨v, S, rfl, ⟨a, dx, t, ys, rfl, h1, h2, h3⟩, q⟩ := h
  refine ⟨_, pss_one (ps_ret (pe_fld (pv 0) rfl)), ?_⟩
  exact ⟨.ref a, rfl, a, C, dx, _, .ref t, rfl, h1, c, n, rfl, q t ys h2 h3⟩
end
end Rw
namespace Rw
open PySem PySem.Spec PyProof.Rows L2 PySem.Froz
/-! ### comprehensions of any depth: one level of their loops -/
def turnOf (tg : Expr) (ifs : List Expr) (pos : Pos) (it : Value) (env : Env) (bk : Sem PySem.Fin) (c : Code) : Sem PySem.Fin := do
  standAt pos
  let r ← pyNext it
  match r with
  | none => pure (PySem.Fin.done Flow.next)
  | some v => do
    letOwnedTupleGo tg it v
    assign tg env v
    let ok ← forIn ifs true fun c r => if r = true then do let ok ← PySem.isTrue c env (eval c env); pure (ForInStep.yield ok) else pure (ForInStep.yield r)
    if ok = true then bk else again c
def Le (σ σ' : L2.St) : Prop := σ.length = σ'.length ∧ ∀ (i : Nat) (v : V), σ[i]? = some (some v) → σ'[i]? = some (some v)
theorem Le.refl (σ : L2.St) : Le σ σ := ⟨rfl, fun _ _ e => e⟩
theorem Le.trans {a b c : L2.St} (h : Le a b) (g : Le b c) : Le a c := ⟨h.1.trans g.1, fun i v e => g.2 i v (h.2 i v e)⟩
theorem Le.wipe (σ : L2.St) (vs : List Nat) : Le (wipe σ vs) σ := ⟨wipe_length σ vs, fun i v e => (wipe_some e).1⟩
theorem Le.wipes {σ : L2.St} {vs vs1 : List Nat} (h : ∀ i ∈ vs1, i ∈ vs) : Le (L2.wipe σ vs) (L2.wipe σ vs1) := ⟨(wipe_length σ vs).trans (wipe_length σ vs1).symm, fun i v e => by
  obtain ⟨h1, h2⟩ := wipe_some e
  rw [wipe_out fun z => h2 (h i z)]
  exact h1⟩
theorem loop_lvl {Y : Cx} {elt : Expr} {gens : List Comprehension} {scope : Scope} {ep : Pos} {d : Nat} {tg : Expr} {ifs : List Expr} {pos : Pos} {it : Addr} {acc : Value} {bk : Sem PySem.Fin} {fp : List Addr} {tn : Nat → Heap → Prop} {J : It} {pins : List (Addr × Obj)} {σ0 : L2.St} {g : TG} {tt : TT} {B : L2.St → Hp → (Hp → Prop) → Prop} {C : L2.St → Prop} {R : Result → Shared → Prop} {N : Hp → Prop} {W : Nat → Nat → Hp → Prop}
    (hc : Y.calm = true) (hxe : ∀ e s, ¬ Y.xe e s) (hT : compTurn (.SetComp elt gens scope ep) d (.ref it) acc Y.env = turnOf tg ifs pos (.ref it) Y.env bk (.compLoop (.SetComp elt gens scope ep) d (.ref it) acc Y.env)) (T : Turn Y.prog Y.w Y.K tg J fp it tn) (hg : PG Y tg g) (ht : PTs Y ifs tt)
    (hb : ∀ pl s σ H (Nx : Hp → Prop) (Q : PySem.Fin → Shared → Prop) (E : Value → Shared → Prop), L2.Inv Y (pins ++ pl) σ H s → C σ → B σ H Nx → (∀ σ' H' s', L2.Inv Y (pins ++ pl) σ' H' s' → Le σ0 σ' → Nx H' → Q (.again (.compLoop (.SetComp elt gens scope ep) d (.ref it) acc Y.env)) s') → wpAny (model Y.prog Y.w) Y.A bk Q E s)
    (hC : ∀ σ, C σ → Le σ0 σ)
    (turn : ∀ i m H, W i m H → (J.stop i H ∧ N H) ∨ (J.go i H ∧ ∃ Nx : Hp → Prop, (∀ H', Nx H' → ∃ m', m' < m ∧ W (i + 1) m' H') ∧ ∀ x H', J.yld i H x H' → g x σ0 H' fun σ2 H2 => C σ2 ∧ tt σ2 H2 fun b H3 => if b = true then B σ2 H3 Nx else Nx H3))
    (hR : ∀ s' H', L2.Inv Y pins σ0 H' s' → N H' → R (.ok .next) s') :
    ∀ (n i : Nat) (H : Hp) (s : Shared), L2.Inv Y pins σ0 H s → tn i s.heap → (∀ b ∈ fp, FpOk Y pins H b) → W i n H → codeAny (model Y.prog Y.w) Y.A (.compLoop (.SetComp elt gens scope ep) d (.ref it) acc Y.env) R s := by
  intro n i H s I0 t0 f0 w0
  refine codeAny_loop (c := .compLoop (.SetComp elt gens scope ep) d (.ref it) acc Y.env) rfl (fun n s' => ∃ i H', L2.Inv Y pins σ0 H' s' ∧ tn i s'.heap ∧ (∀ b ∈ fp, FpOk Y pins H' b) ∧ W i n H') (fun n s5 ⟨i, H5, I5, st5, n5, w5⟩ => ?_) n ⟨i, H, I0, t0, f0, w0⟩
  show wpAny (model Y.prog Y.w) Y.A (Sem.onRaise (compTurn (.SetComp elt gens scope ep) d (.ref it) acc Y.env) fun x => do noteFrame x Y.env; theTreesLotGoes x) _ _ s5
  refine wpAny_noted ?_
  rw [hT]
  unfold turnOf
  refine wpAny_bind (wpAny_standAt (wpAny_bind ?_))
  rcases turn i n H5 w5 with ⟨stop, qq⟩ | ⟨go, Nx, hNx, step⟩
  · refine thnF (T.done Y rfl rfl rfl hc i pins s5 σ0 H5 (fun _ _ => False) I5 n5 st5 stop) fun r s6 ⟨hr, I6⟩ => ?_
    subst hr
    exact wpAny_pure (hR s6 H5 I6 qq)
  · refine thnF (T.item Y rfl rfl rfl hc i pins s5 σ0 H5 (fun _ _ => False) I5 n5 st5 go) fun r s6 ⟨u, hr, h6⟩ => ?_
    subst hr
    refine wpAny_bind (thnF h6 fun _ s7 ⟨x, H7, I7, r7, y7, st7, n7⟩ => ?_)
    have fp7 : ∀ b ∈ fp, FpOk Y pins H7 b := fun b hb => ⟨n7 b hb, (n5 b hb).2⟩
    have I7' := Inv.pinned I7 fp7 (T.obj (i + 1) s7.heap st7)
    refine wpAny_bind (wpAny_mono (hg.run (pins ++ pinsAt fp s7.heap) s7 σ0 H7 x u _ I7' r7 (step x H7 y7)) (fun _ s8 ⟨σ8, H8, I8, hw8, q8⟩ => ?_) fun e s z => (hxe e s z).elim)
    have fin : ∀ {s' : Shared} {H' : Hp} {σ' : L2.St}, L2.Inv Y (pins ++ pinsAt fp s7.heap) σ' H' s' → Le σ0 σ' → Nx H' → ∃ m, m < n ∧ ∃ i H', L2.Inv Y pins σ0 H' s' ∧ tn i s'.heap ∧ (∀ b ∈ fp, FpOk Y pins H' b) ∧ W i m H' := fun {s' H' σ'} I' le nx => by
      obtain ⟨m', hm, w'⟩ := hNx H' nx
      have pin' : ∀ b ∈ fp, ∀ o, s7.heap.get? b = some o → s'.heap.get? b = some o ∧ H' b = none := fun b hb o e => by
        have z := I'.pin (b, o) (List.mem_append_right Y.pn (List.mem_append_right pins (mem_pinsAt hb e)))
        exact ⟨z.1, z.2.1⟩
      refine ⟨m', hm, i + 1, H', Inv.weak (Inv.unpinned I') le.1 le.2, T.keep (i + 1) s7.heap s'.heap st7 fun b hb o e => (pin' b hb o e).1, fun b hb => ?_, w'⟩
      obtain ⟨o, e, _⟩ := T.obj (i + 1) s7.heap st7 b hb
      exact ⟨(pin' b hb o e).2, (n5 b hb).2⟩
    refine wpAny_bind (wpAny_mono (ht.run _ s8 σ8 H8 _ I8 q8) (fun b s9 ⟨H9, I9, q9⟩ => ?_) fun e s z => (hxe e s z).elim)
    cases b with
    | false =>
      have q9' : Nx H9 := q9
      exact wpAny_pure ⟨rfl, fin I9 (hC σ8 hw8) q9'⟩
    | true =>
      have q9' : B σ8 H9 Nx := q9
      exact hb (pinsAt fp s7.heap) s9 σ8 H9 Nx _ _ I9 hw8 q9' fun σ' H' s' I' le nx => ⟨rfl, fin I' le nx⟩
/-- the start of a level -/
theorem start_lvl {P : Program} {w : World} {A : Around} {R : Result → Shared → Prop} {s : Shared} {elt : Expr} {gens : List Comprehension} {scope : Scope} {ep : Pos} {d : Nat} {t i : Expr} {ifs : List Expr} {it acc : Value} {env : Env} (hcl : gens[d]? = some ⟨t, i, ifs, 0⟩)
    (h0 : codeAny (model P w) A (.compLoop (.SetComp elt gens scope ep) d it acc env) R s) (h : wpAny (model P w) A (pyIter it) (fun it' s' => codeAny (model P w) A (.compLoop (.SetComp elt gens scope ep) d it' acc env) R s') (notedBy (model P w) A env fun x s' => R (.error x) s') s) :
    codeAny (model P w) A (.compStart (.SetComp elt gens scope ep) d it acc env) R s := by
  refine codeAny_of_tree ?_
  show wpAny (model P w) A (Sem.onRaise (compStart (.SetComp elt gens scope ep) d it acc env) fun x => do noteFrame x env; standAt theWindowsPlace) _ _ s
  refine wpAny_notedAt ?_
  unfold compStart
  rw [show (clausesOf (.SetComp elt gens scope ep))[d]? = some ⟨t, i, ifs, 0⟩ from hcl]
  show wpAny (model P w) A (ask >>= _) _ _ s
  refine wpAny_bind (wpAny_askSetting ?_)
  split
  · exact wpAny_pure ⟨rfl, h0⟩
  · refine wpAny_bind (wpAny_rule ?_)
    refine wpAny_bind (wpAny_standAt (wpAny_bind (wpAny_mono h (fun it' s' h' => wpAny_pure ⟨rfl, h'⟩) fun _ _ z => z)))
/-! ### a set of texts, one more put in -/
theorem addX_ok {X : Cx} {pins : List (Addr × Obj)} {σ : L2.St} {H : Hp} {s : Shared} {E : Value → Shared → Prop} {D : Addr} {ms : List Str} {z : Str} {u : Tok} {Q : Value → Shared → Prop} (I : L2.Inv X pins σ H s) (hD : H D = some (XSetO X.prog X.w D ms)) (room : ms.length + 1 < scanBound)
    (h : ∀ s' ms', ms'.Nodup → (∀ y, y ∈ ms' ↔ y = z ∨ y ∈ ms) → ms'.length ≤ ms.length + 1 → L2.Inv X pins σ (upd H D (XSetO X.prog X.w D ms')) s' → Q .none s') : wpAny (model X.prog X.w) X.A (call (.builtin "set.add") [.ref D, .str z u]) Q E s := by
  obtain ⟨es, ep, t, R⟩ := (I.hok D _ hD).1
  refine wpAny_call_entry PySem.F.slot_set_add ⟨_, R.ob, rfl⟩ PySem.F.entry_set_add ?_ (PySem.F.args_set_add_2 _ _)
  unfold Builtin.«set.add»
  show wpAny _ _ (Builtin.Frozenset.oneOther "add" _ >>= _) _ _ _
  unfold Builtin.Frozenset.oneOther
  refine wpAny_bind (wpAny_bind (wpAny_pure (wpAny_bind (wpAny_pure (wpAny_pure ?_)))))
  unfold setAdd
  refine wpAny_bind (wpAny_holding (wpAny_bind ((strKind X.prog X.w).pyHash (k := z) (is_str _ _) ?_)))
  refine put_text (s := { s with toks := s.toks + 1 }) R room fun b h' ms' es' ep' t' sb R' hm hl' => ?_
  refine wpAny_pure ⟨.none, rfl, h _ ms' R'.nd hm hl' ?_⟩
  exact Inv.write (I.tok (s.toks + 1)) (by rw [hD]; exact True.intro) (Or.inl rfl) (fun b u hb hu => (sb.2 b hb).trans hu) ⟨_, R'.ob⟩ ⟨⟨es', ep', t', R'⟩, ⟨_, R'.ob⟩, fun h1 h2 ⟨a1, a2, a3, a4⟩ kk => ⟨a1, a2, a3, a4.moved kk⟩⟩
/-! ### {e for x in a for y in b for z in c}, of texts -/
def lvlR (wi : TI) (g : TG) (vs : List Nat) (B : L2.St → Hp → (Hp → Prop) → Prop) : L2.St → Hp → (Hp → Prop) → Prop := fun σ H N => wi σ H fun J H1 => ∃ W : Nat → Nat → Hp → Prop, (∃ m, W 0 m H1) ∧
  ∀ i m H, W i m H → (J.stop i H ∧ N H) ∨ (J.go i H ∧ ∃ Nx : Hp → Prop, (∀ H', Nx H' → ∃ m', m' < m ∧ W (i + 1) m' H') ∧ ∀ x H', J.yld i H x H' → g x (wipe σ vs) H' fun σ2 H2 => wipe σ2 vs = wipe σ vs ∧ B σ2 H2 Nx)
def lastR (P : Program) (w : World) (D : Addr) (te : TE) : L2.St → Hp → (Hp → Prop) → Prop := fun σ H N => te σ H fun y H1 => ∃ z ms, y = .str z ∧ H1 D = some (XSetO P w D ms) ∧ ms.length + 1 < scanBound ∧ ∀ ms', ms'.Nodup → (∀ u, u ∈ ms' ↔ u = z ∨ u ∈ ms) → ms'.length ≤ ms.length + 1 → N (upd H1 D (XSetO P w D ms'))
def tSc3 (P : Program) (w : World) (wi0 wi1 wi2 : TI) (g0 g1 g2 : TG) (te : TE) (vs vs1 vs2 : List Nat) : TE := fun σ H Q => wi0 σ H fun J H1 => ∀ D, H1 D = none → ∃ W : Nat → Nat → Hp → Prop, (∃ m, W 0 m (upd H1 D (XSetO P w D []))) ∧
  ∀ i m H, W i m H → (J.stop i H ∧ Q (.ref D) H) ∨ (J.go i H ∧ ∃ Nx : Hp → Prop, (∀ H', Nx H' → ∃ m', m' < m ∧ W (i + 1) m' H') ∧ ∀ x H', J.yld i H x H' → g0 x (wipe σ vs) H' fun σ2 H2 => wipe σ2 vs = wipe σ vs ∧ lvlR wi1 g1 vs1 (lvlR wi2 g2 vs2 (lastR P w D te)) σ2 H2 Nx)
section
variable {elt t0 i0 t1 i1 t2 i2 : Expr} {scope : Scope} {ep : Pos}
abbrev gens3 (t0 i0 t1 i1 t2 i2 : Expr) : List Comprehension := [⟨t0, i0, [], 0⟩, ⟨t1, i1, [], 0⟩, ⟨t2, i2, [], 0⟩]
def bkIn (i1 : Expr) (e : Expr) (d : Nat) (acc : Value) (env : Env) (c : Code) : Sem PySem.Fin := do
  let x ← eval i1 env
  standAt i1.pos
  let x ← foldedSetIterable i1 env x
  let it ← holding [x] (pyIter x)
  let _ ← runOwn (.compStart e (d + 1) it acc env) env
  again c
def bkLast (elt : Expr) (acc : Value) (env : Env) (c : Code) : Sem PySem.Fin := do
  let _ ← (do let v ← eval elt env; standAt elt.pos; let _ ← call (.builtin "set.add") [acc, v]; pure () : Sem Unit)
  again c
theorem turn3_0 (it acc : Value) (env : Env) : compTurn (.SetComp elt (gens3 t0 i0 t1 i1 t2 i2) scope ep) 0 it acc env = turnOf t0 [] i0.pos it env (bkIn i1 (.SetComp elt (gens3 t0 i0 t1 i1 t2 i2) scope ep) 0 acc env (.compLoop (.SetComp elt (gens3 t0 i0 t1 i1 t2 i2) scope ep) 0 it acc env)) (.compLoop (.SetComp elt (gens3 t0 i0 t1 i1 t2 i2) scope ep) 0 it acc env) := rfl
theorem turn3_1 (it acc : Value) (env : Env) : compTurn (.SetComp elt (gens3 t0 i0 t1 i1 t2 i2) scope ep) 1 it acc env = turnOf t1 [] i1.pos it env (bkIn i2 (.SetComp elt (gens3 t0 i0 t1 i1 t2 i2) scope ep) 1 acc env (.compLoop (.SetComp elt (gens3 t0 i0 t1 i1 t2 i2) scope ep) 1 it acc env)) (.compLoop (.SetComp elt (gens3 t0 i0 t1 i1 t2 i2) scope ep) 1 it acc env) := rfl
theorem turn3_2 (it acc : Value) (env : Env) : compTurn (.SetComp elt (gens3 t0 i0 t1 i1 t2 i2) scope ep) 2 it acc env = turnOf t2 [] i2.pos it env (bkLast elt acc env (.compLoop (.SetComp elt (gens3 t0 i0 t1 i1 t2 i2) scope ep) 2 it acc env)) (.compLoop (.SetComp elt (gens3 t0 i0 t1 i1 t2 i2) scope ep) 2 it acc env) := rfl
theorem bk_step {Y : Cx} {elt : Expr} {gens : List Comprehension} {scope : Scope} {ep : Pos} {d : Nat} {tg iter : Expr} {acc : Value} {wi : TI} {g : TG} {vs : List Nat} {B : L2.St → Hp → (Hp → Prop) → Prop} {bkf : Value → Sem PySem.Fin} {D : L2.St → L2.St → Prop}
    (hc : Y.calm = true) (hxe : ∀ e s, ¬ Y.xe e s) (hgen : gens[d + 1]? = some ⟨tg, iter, [], 0⟩) (hs : ∀ x, foldedSetIterable iter Y.env x = pure x) (hi : PI Y tg iter wi) (hg : PG Y tg g)
    (hT : ∀ it, compTurn (.SetComp elt gens scope ep) (d + 1) it acc Y.env = turnOf tg [] iter.pos it Y.env (bkf it) (.compLoop (.SetComp elt gens scope ep) (d + 1) it acc Y.env))
    (hb : ∀ it pl s σ H (Nx : Hp → Prop) (Q : PySem.Fin → Shared → Prop) (E : Value → Shared → Prop), L2.Inv Y pl σ H s → B σ H Nx → (∀ σ' H' s', L2.Inv Y pl σ' H' s' → D σ σ' → Nx H' → Q (.again (.compLoop (.SetComp elt gens scope ep) (d + 1) it acc Y.env)) s') → wpAny (model Y.prog Y.w) Y.A (bkf it) Q E s)
    (hD : ∀ σ σ2 σ', wipe σ2 vs = wipe σ vs → D σ2 σ' → Le (wipe σ vs) σ') :
    ∀ pl s σ H (Nx : Hp → Prop) (Q : PySem.Fin → Shared → Prop) (E : Value → Shared → Prop) (c : Code), L2.Inv Y pl σ H s → lvlR wi g vs B σ H Nx → (∀ H' s', L2.Inv Y pl (wipe σ vs) H' s' → Nx H' → Q (.again c) s') → wpAny (model Y.prog Y.w) Y.A (bkIn iter (.SetComp elt gens scope ep) d acc Y.env c) Q E s := by
  intro pl s σ H Nx Q E c I hL hQ
  unfold bkIn
  refine wpAny_bind (wpAny_mono (hi.run pl s σ H _ I hL) (fun v s1 h1 => ?_) (fun e s z => (hxe e s z).elim))
  refine wpAny_bind (wpAny_standAt ?_)
  rw [hs v]
  refine wpAny_bind (wpAny_pure ?_)
  refine wpAny_bind (wpAny_holding (wpAny_mono h1 (fun itv s2 ⟨it, fp, tn, J, H2, e, I2, T, st2, f2, W, ⟨m, w0⟩, turn⟩ => ?_) (fun e s z => (hxe e s z).elim)))
  subst e
  have I2' : L2.Inv Y pl (wipe σ vs) H2 s2 := Inv.weak I2 (Le.wipe σ vs).1 (Le.wipe σ vs).2
  have loop : ∀ R : Result → Shared → Prop, (∀ s' H', L2.Inv Y pl (wipe σ vs) H' s' → Nx H' → R (.ok .next) s') → codeAny (model Y.prog Y.w) Y.A (.compLoop (.SetComp elt gens scope ep) (d + 1) (.ref it) acc Y.env) R s2 := fun R hR =>
    loop_lvl (Y := Y) (σ0 := wipe σ vs) (C := fun σ2 => wipe σ2 vs = wipe σ vs) (B := B) (tt := tYes) (W := W) (N := Nx) hc hxe (hT (.ref it)) T hg pts_nil
      (fun pl2 s σ2 H Nx2 Q E I hC hB hq => hb (.ref it) (pl ++ pl2) s σ2 H Nx2 Q E I hB fun σ' H' s' I' hd nx => hq σ' H' s' I' (hD σ σ2 σ' hC hd) nx)
      (fun σ2 hC => by have z := Le.wipe σ2 vs; rw [hC] at z; exact z) turn hR m 0 H2 s2 I2' st2 f2 w0
  refine wpAny_bind (wpAny_runOwn (h := none) (start_lvl hgen ?_ ?_))
  · exact loop _ fun s' H' I' nx => wpAny_pure (hQ H' s' I' nx)
  · exact T.self _ 0 s2 _ _ st2 (loop _ fun s' H' I' nx => wpAny_pure (hQ H' s' I' nx))
theorem last_step {Y : Cx} {elt : Expr} {D : Addr} {te : TE} (hxe : ∀ e s, ¬ Y.xe e s) (he : PE Y elt te) :
    ∀ pl s σ H (Nx : Hp → Prop) (Q : PySem.Fin → Shared → Prop) (E : Value → Shared → Prop) (c : Code), L2.Inv Y pl σ H s → lastR Y.prog Y.w D te σ H Nx → (∀ H' s', L2.Inv Y pl σ H' s' → Nx H' → Q (.again c) s') → wpAny (model Y.prog Y.w) Y.A (bkLast elt (.ref D) Y.env c) Q E s := by
  intro pl s σ H Nx Q E c I hL hQ
  unfold bkLast
  refine wpAny_bind (wpAny_bind (wpAny_mono (he.run pl s σ H _ I hL) (fun v s1 ⟨y, H1, I1, ry, z, ms, ey, hD, room, next⟩ => ?_) (fun e s z => (hxe e s z).elim)))
  subst ey
  obtain ⟨u, rfl⟩ := ry
  exact wpAny_bind (wpAny_standAt (wpAny_bind (addX_ok I1 hD room fun s' ms' nd hm hl I' => wpAny_pure (wpAny_pure (hQ _ s' I' (next ms' nd hm hl))))))
/-- a set comprehension of three clauses, of texts -/
theorem pe_sc3 {X : Cx} {own : List (Str × Nat)} {wi0 wi1 wi2 : TI} {g0 g1 g2 : TG} {te : TE} {vs1 vs2 : List Nat} (hc : X.calm = true) (hN : X.N.Nodup) (hi : PI X t0 i0 wi0) (ok : BlkOk X.N X.env.scope scope own) (hv1 : ∀ i ∈ vs1, i ∈ own.map (·.2)) (hv2 : ∀ i ∈ vs2, i ∈ vs1)
    (hg0 : ∀ s H C cl fp, PG (X.blk s H scope (compEnvC scope cl C X.env) fp) t0 g0) (hi1 : ∀ s H C cl fp, PI (X.blk s H scope (compEnvC scope cl C X.env) fp) t1 i1 wi1) (hg1 : ∀ s H C cl fp, PG (X.blk s H scope (compEnvC scope cl C X.env) fp) t1 g1)
    (hi2 : ∀ s H C cl fp, PI (X.blk s H scope (compEnvC scope cl C X.env) fp) t2 i2 wi2) (hg2 : ∀ s H C cl fp, PG (X.blk s H scope (compEnvC scope cl C X.env) fp) t2 g2) (he : ∀ s H C cl fp, PE (X.blk s H scope (compEnvC scope cl C X.env) fp) elt te)
    (hs : ∀ x, foldedSetIterable i0 X.env x = pure x := by intro x; rfl) (hs1 : ∀ env x, foldedSetIterable i1 env x = pure x := by intro env x; rfl) (hs2 : ∀ env x, foldedSetIterable i2 env x = pure x := by intro env x; rfl) :
    PE X (.SetComp elt (gens3 t0 i0 t1 i1 t2 i2) scope ep) (tSc3 X.prog X.w wi0 wi1 wi2 g0 g1 g2 te (own.map (·.2)) vs1 vs2) := by
  refine ⟨fun pins s σ H Q I h => ?_⟩
  rw [PpSet.eval_SetComp]
  have hfree : ∀ y ∈ scope.names, y.2 = NameKind.free → ∃ c, X.env.cells.lookup y.1 = some c := fun y hy e => (ok.free y hy e).elim (fun k => I.ok.has y.1 (.inl k)) fun k => I.ok.has y.1 (.inr k)
  refine wpAny_comprehension_free (g := ⟨t0, i0, [], 0⟩) (gs := [⟨t1, i1, [], 0⟩, ⟨t2, i2, [], 0⟩]) rfl hs (closure_ok hfree) ok.kind (fun y hy e => by rw [ok.uniq y hy, e]) ?_
  refine thn (hi.run pins s σ H _ I h) fun xv s1 hx => thn hx fun itv s2 ⟨it, fp, tn, J, H2, e, I2, T, st2, f2, q⟩ => ?_
  subst e
  refine PpSet.newSet_ok ?_
  refine newEnv_comp ?_
  have hDn := I2.hok.fresh (Nat.le_refl _)
  obtain ⟨W, ⟨m0, w0⟩, turn⟩ := q s2.heap.objs.size hDn
  have ho : (s2.heap.push (newSetObj X.w)).get? s2.heap.objs.size = some (newSetObj X.w) := Heap.get?_push_size s2.heap rfl
  have R0 : XSet X.prog X.w (s2.heap.push (newSetObj X.w)) s2.heap.objs.size [] #[] 0 (.fresh 0 0 (!X.w.params.followText "set-order")) := ⟨ho, TxOk.nil rfl, List.nodup_nil, List.Pairwise.nil, led_new X.w⟩
  have new : ObjOk X.prog X.w (upd H2 s2.heap.objs.size (XSetO X.prog X.w s2.heap.objs.size [])) (s2.heap.push (newSetObj X.w)) s2.heap.objs.size (XSetO X.prog X.w s2.heap.objs.size []) :=
    ⟨⟨_, _, _, R0⟩, ⟨_, ho⟩, fun h1 h2 ⟨a1, a2, a3, a4⟩ kk => ⟨a1, a2, a3, a4.moved kk⟩⟩
  have I3 : L2.Inv X pins σ (upd H2 s2.heap.objs.size (XSetO X.prog X.w s2.heap.objs.size [])) { s2 with heap := s2.heap.push (newSetObj X.w) } := I2.laid (t' := s2.toks) (fun b o e => Heap.get?_push_of_some _ e) (Nat.le_refl _) new
  have sz : ∀ b ∈ fp, b < s2.heap.objs.size := fun b hb => by
    obtain ⟨o, e, _⟩ := T.obj 0 s2.heap st2 b hb
    exact Heap.lt_size e
  have f3 : ∀ b ∈ fp, FpOk X pins (upd H2 s2.heap.objs.size (XSetO X.prog X.w s2.heap.objs.size [])) b ∧ b < (s2.heap.push (newSetObj X.w)).objs.size := fun b hb => by
    have hlt := sz b hb
    refine ⟨⟨?_, (f2 b hb).2⟩, ?_⟩
    · rw [upd_ne (Nat.ne_of_lt hlt)]
      exact (f2 b hb).1
    · rw [Heap.size_push]
      exact Nat.lt_succ_of_lt hlt
  have I4 := block_start I3 ok hN f3
  have st4 : tn 0 (pushCells ((s2.heap.push (newSetObj X.w)).push { cls := .type "dict", data := .dict #[] }) scope.names) := T.keep 0 s2.heap _ st2 fun b hb o e => pushCells_keeps scope.names _ b o (Heap.get?_push_of_some _ (Heap.get?_push_of_some _ e))
  let s3 : Shared := { s2 with heap := s2.heap.push (newSetObj X.w) }
  let H3 : Hp := upd H2 s2.heap.objs.size (XSetO X.prog X.w s2.heap.objs.size [])
  let cl := cellsFrom (s3.heap.objs.size + 1) scope.names (cloFrom X.env.cells scope.names [])
  let Y : Cx := X.blk s3 H3 scope (compEnvC scope cl s3.heap.objs.size X.env) fp
  have hxe : ∀ e s, ¬ Y.xe e s := fun _ _ z => z
  have stat : ∀ {σ' H' s'}, L2.Inv Y [] σ' H' s' → (∀ b ∈ fp, H' b = none) → ∀ b ∈ fp, FpOk Y [] H' b := fun {σ' H' s'} I' hn b hb => ⟨hn b hb, (I'.ok.exf b hb).1, I'.ok.exfs b hb, .inl hb, fun x c e => (I'.ok.exf b hb).2 x c e, fun p hp => by
    have z : p ∈ ([] : List (Addr × Obj)) := hp
    exact nomatch z⟩
  have last := last_step (Y := Y) (D := s2.heap.objs.size) hxe (he s3 H3 s3.heap.objs.size cl fp)
  have mid := bk_step (Y := Y) (scope := scope) (ep := ep) (d := 1) (acc := .ref s2.heap.objs.size) (vs := vs2) (D := fun σ σ' => σ' = σ) hc hxe (gens := gens3 t0 i0 t1 i1 t2 i2) rfl (hs2 _) (hi2 s3 H3 s3.heap.objs.size cl fp) (hg2 s3 H3 s3.heap.objs.size cl fp) (fun it => turn3_2 it _ _)
    (fun it pl s σ H Nx Q E I hB hq => last pl s σ H Nx Q E _ I hB fun H' s' I' nx => hq σ H' s' I' rfl nx) (fun σ σ2 σ' hw hd => by subst hd; rw [← hw]; exact Le.wipe _ _)
  have top := bk_step (Y := Y) (scope := scope) (ep := ep) (d := 0) (acc := .ref s2.heap.objs.size) (vs := vs1) (D := fun σ σ' => σ' = wipe σ vs2) hc hxe (gens := gens3 t0 i0 t1 i1 t2 i2) rfl (hs1 _) (hi1 s3 H3 s3.heap.objs.size cl fp) (hg1 s3 H3 s3.heap.objs.size cl fp) (fun it => turn3_1 it _ _)
    (fun it pl s σ H Nx Q E I hB hq => mid pl s σ H Nx Q E _ I hB fun H' s' I' nx => hq _ H' s' I' rfl nx) (fun σ σ2 σ' hw hd => by subst hd; rw [← hw]; exact Le.wipes hv2)
  have loop : ∀ R : Result → Shared → Prop, (∀ s' H', L2.Inv Y [] (wipe σ (own.map (·.2))) H' s' → Q (.ref s2.heap.objs.size) H' → R (.ok .next) s') → codeAny (model Y.prog Y.w) Y.A (.compLoop (.SetComp elt (gens3 t0 i0 t1 i1 t2 i2) scope ep) 0 (.ref it) (.ref s2.heap.objs.size) Y.env) R _ := fun R hR =>
    loop_lvl (Y := Y) (σ0 := wipe σ (own.map (·.2))) (pins := []) (C := fun σ2 => wipe σ2 (own.map (·.2)) = wipe σ (own.map (·.2))) (B := lvlR wi1 g1 vs1 (lvlR wi2 g2 vs2 (lastR Y.prog Y.w s2.heap.objs.size te))) (tt := tYes) (W := W) (N := fun H' => Q (.ref s2.heap.objs.size) H') hc hxe (turn3_0 _ _ _) T (hg0 s3 H3 s3.heap.objs.size cl fp) pts_nil
      (fun pl2 s σ2 H Nx2 Q E I hC hB hq => top pl2 s σ2 H Nx2 Q E _ I hB fun H' s' I' nx => hq _ H' s' I' (by rw [← hC]; exact Le.wipes hv1) nx)
      (fun σ2 hC => by have z := Le.wipe σ2 (own.map (·.2)); rw [hC] at z; exact z) turn hR m0 0 H3 _ I4 st4 (stat I4 fun b hb => (f3 b hb).1.1) w0
  have fin : ∀ s6 H5, L2.Inv Y [] (wipe σ (own.map (·.2))) H5 s6 → Q (.ref s2.heap.objs.size) H5 → compPost (model X.prog X.w) X.A X.xe none (EP X pins σ Q) (.ref s2.heap.objs.size) s3.heap.objs.size (.ok .next) s6 := fun s6 H5 I6 qq => by
    have I7 : L2.Inv X pins σ H5 s6 := Inv.call' I3 I6.os I6.base I6.hok I6.bare fun b hb => ⟨(f3 b hb).1.2.2.2.1, (f3 b hb).1.2.1, (f3 b hb).1.2.2.2.2.1, (f3 b hb).1.2.2.2.2.2⟩
    have nC : H5 s3.heap.objs.size = none := I6.free
    obtain ⟨m, hn, _⟩ := I6.loc
    obtain ⟨k0, k1, k2, k3, k4, k5⟩ := Inv.fpOk I3 (Nat.le_refl _) nC
    exact ⟨m, hn, fun h'' sb => ⟨.ref s2.heap.objs.size, H5, Inv.turned I7 (fun b o hb e => (sb.2 b hb).trans e) k0 k1 k3 k4 k5, rfl, qq⟩⟩
  refine start_lvl (d := 0) (t := t0) (i := i0) (ifs := []) rfl ?_ ?_
  · exact loop _ fin
  · exact T.self _ 0 _ _ _ st4 (loop _ fin)
end
end Rw
namespace Rw
open PySem PySem.Spec PyProof.Rows L2
/-! ### Program.names -/
abbrev sNames : Stmt := inClass (topS 16) 6
theorem scNames : FnScope ["self", "row", "part", "name"] ["self"] (defScope sNames) := ⟨rfl, rfl, rfl, by decide +kernel, rfl, by decide +kernel, by decide +kernel⟩
/-- a walk over a tuple, the heap followed, as one level of a comprehension reads it -/
theorem lvl_tup {K : PySem.W.Frag} {a : Addr} {xs : List V} {H0 : Hp} {Qd : Hp → Prop} {B : V → Hp → (Hp → Prop) → Prop} (Pv : Nat → Hp → Prop) (h0 : Pv 0 H0) (hl : ∀ i H, i ≤ xs.length → Pv i H → SqT K H a xs) (hs : ∀ i x H, xs[i]? = some x → Pv i H → B x H (Pv (i + 1))) (hd : ∀ H, Pv xs.length H → Qd H) :
    ∃ W : Nat → Nat → Hp → Prop, (∃ m, W 0 m H0) ∧ ∀ i m H, W i m H → ((Itt K a).stop i H ∧ Qd H) ∨ ((Itt K a).go i H ∧ ∃ Nx : Hp → Prop, (∀ H', Nx H' → ∃ m', m' < m ∧ W (i + 1) m' H') ∧ ∀ x H', (Itt K a).yld i H x H' → B x H' Nx) := by
  refine ⟨fun i m H => m = xs.length - i ∧ i ≤ xs.length ∧ Pv i H, ⟨xs.length, by simp, Nat.zero_le _, h0⟩, ?_⟩
  rintro i m H ⟨rfl, hi, p⟩
  have hS := hl i H hi p
  by_cases hlt : i < xs.length
  · refine .inr ⟨⟨xs, xs[i], hS, List.getElem?_eq_getElem hlt⟩, Pv (i + 1), fun H' p' => ⟨xs.length - (i + 1), by omega, rfl, hlt, p'⟩, fun y H' yy => ?_⟩
    obtain ⟨rfl, fv⟩ := yy
    exact hs i y _ (fv xs hS) p
  · have e : i = xs.length := by omega
    subst e
    exact .inl ⟨⟨xs, hS, Nat.le_refl _⟩, hd H p⟩
/-- the names of a rule, of rules -/
def ownN (r : Rl) : W := (parts r).flatMap id
def namesL (S : List Rl) : W := S.flatMap ownN
theorem ownN_len {r : Rl} (h : IsR r) : (ownN r).length ≤ 160 := by
  unfold ownN parts
  simp only [List.flatMap_cons, List.flatMap_nil, List.length_append, List.length_nil, id]
  have := h.h.few
  have := h.d.few
  have := h.n.few
  have := h.b.few
  omega
section
variable {P : Program} {w : World} {K : PySem.W.Frag} {mg : Str → Option Value} {base : Heap} {f : Addr} {fd : FuncData} {k : Nat}
/-- the sorted names of a program whose names are among few -/
def spNames (K : PySem.W.Frag) (C : Addr) : Sp := fun vs H Q _ => ∃ (v : V) (S : List Rl) (bd : W), vs = [v] ∧ PgAt K C H v S ∧ (∀ r ∈ S, IsR r) ∧ (∀ z ∈ namesL S, z ∈ bd) ∧ bd.length ≤ 40 ∧ ∀ H' t (ns : W), Same H H' → SqT K H' t (ns.map V.str) → IsW ns → (∀ z, z ∈ ns ↔ z ∈ namesL S) → Q (.ref t) H'
theorem ok_names {C : Addr} (F : Fun K "names" "Program.names" sNames f fd) (T : Bl mg) (c : Cls K C) (n : NoAttr K C "_rules") : FnOk P w K mg base CX0 (k + 1) f fd ["self"] (spNames K C) := by
  refine F.ok scNames (fun vs H Q E h => ?_) (fun cdv A outer s H vs Q E hr h => ?_)
  · obtain ⟨v, S, bd, rfl, _⟩ := h
    rfl
  obtain ⟨v, S, bd, rfl, ⟨a, dx, t, ys, rfl, h1, h2, h3⟩, hI, hbd, b40, q⟩ := h
  refine ⟨_, pss_one (ps_ret (pe_callTy call_tuple_of (by rfl) T.tuple (by decide +kernel) (pa_cons (pe_callB (cr_sortX rfl hr.units) (by rfl) T.sorted (by decide +kernel) (pa_cons
    (pe_sc3 (own := [("row", 1), ("part", 2), ("name", 3)]) (vs1 := [2, 3]) (vs2 := [3]) (g0 := gName 1) (g1 := gName 2) (g2 := gName 3) (wi1 := iTup K (tVar 1)) (wi2 := iTup K (tVar 2)) (te := tVar 3) rfl scNames.nd (pi_tup (pe_fld (pv 0) rfl)) (blkOk_by (N := ["self", "row", "part", "name"]) (sc := defScope sNames) (by decide +kernel)) (by decide) (by decide)
      (fun _ _ _ _ _ => pg_name (i := 1) scNames.nd rfl (Or.inl rfl)) (fun _ _ _ _ _ => pi_tup (pv 1)) (fun _ _ _ _ _ => pg_name (i := 2) scNames.nd rfl (Or.inl rfl)) (fun _ _ _ _ _ => pi_tup (pv 2)) (fun _ _ _ _ _ => pg_name (i := 3) scNames.nd rfl (Or.inl rfl)) (fun _ _ _ _ _ => pv 3)) pa_nil)) pa_nil))), ?_⟩
  have yl : ys.length = S.length := by rw [dpAll_len h3, List.length_map]
  have few : ∀ ms : W, ms.Nodup → (∀ z ∈ ms, z ∈ bd) → ms.length ≤ 40 := fun ms nd h => Nat.le_trans (nodup_len_le nd h) b40
  have sb : scanBound = 4096 := rfl
  refine ⟨.ref a, rfl, a, C, dx, _, .ref t, rfl, h1, c, n, rfl, t, rfl, ⟨_, h2⟩, fun D hD => ?_⟩
  refine lvl_tup (xs := ys) (fun i H1 => Same H H1 ∧ ∃ ms : W, H1 D = some (XSetO P w D ms) ∧ ms.Nodup ∧ ∀ z, z ∈ ms ↔ z ∈ namesL (S.take i)) ⟨same_new hD _, [], upd_same, List.nodup_nil, fun z => Iff.rfl⟩ (fun i H1 _ hI => same_tup hI.1 h2) (fun i x H1 hx hI1 => ?_) (fun H1 hI1 => ?_)
  · obtain ⟨sm, ms, hm, nd, mem⟩ := hI1
    obtain ⟨dd, hdd, hxd⟩ := dpAll_at' h3 hx
    obtain ⟨r, hr0, rfl⟩ := map_at hdd
    have hrS := List.mem_of_getElem? hr0
    have hr' := hI r hrS
    have own_bd : ∀ z ∈ ownN r, z ∈ bd := fun z hz => hbd z (List.mem_flatMap.mpr ⟨r, hrS, hz⟩)
    have top_bd : ∀ z ∈ namesL (S.take i), z ∈ bd := fun z hz => by
      obtain ⟨q, hq, hz⟩ := List.mem_flatMap.mp hz
      exact hbd z (List.mem_flatMap.mpr ⟨q, List.mem_of_mem_take hq, hz⟩)
    have step : namesL (S.take (i + 1)) = namesL (S.take i) ++ ownN r := by
      unfold namesL
      rw [take_snoc hr0, List.flatMap_append]
      simp
    unfold rd at hxd
    cases hxd with
    | @tup b xs _ hT hxs =>
      have xl : xs.length = (parts r).length := by rw [dpAll_len hxs, List.length_map]
      refine ⟨rfl, .ref b, rfl, b, rfl, ⟨_, same_tup sm hT⟩, ?_⟩
      refine lvl_tup (xs := xs) (fun j H2 => Same H H2 ∧ ∃ ms : W, H2 D = some (XSetO P w D ms) ∧ ms.Nodup ∧ ∀ z, z ∈ ms ↔ z ∈ namesL (S.take i) ∨ z ∈ ((parts r).take j).flatMap id) ⟨sm, ms, hm, nd, fun z => by rw [mem z]; simp⟩ (fun j H2 _ hI => same_tup hI.1 hT) (fun j y H2 hy hI2 => ?_) (fun H2 hI2 => ?_)
      · obtain ⟨sm2, ms2, hm2, nd2, mem2⟩ := hI2
        obtain ⟨d, hdi, hyd⟩ := dpAll_at' hxs hy
        obtain ⟨p, hp, rfl⟩ := map_at hdi
        obtain ⟨u, rfl, hU⟩ := of_wd hyd
        have in_own : ∀ z ∈ ((parts r).take j).flatMap id, z ∈ ownN r := fun z hz => by
          obtain ⟨q, hq, hz⟩ := List.mem_flatMap.mp hz
          exact List.mem_flatMap.mpr ⟨q, List.mem_of_mem_take hq, hz⟩
        have p_own : ∀ z ∈ p, z ∈ ownN r := fun z hz => List.mem_flatMap.mpr ⟨p, List.mem_of_getElem? hp, hz⟩
        refine ⟨rfl, .ref u, rfl, u, rfl, ⟨_, same_tup sm2 hU⟩, ?_⟩
        refine lvl_tup (xs := p.map V.str) (fun l H3 => Same H H3 ∧ ∃ ms : W, H3 D = some (XSetO P w D ms) ∧ ms.Nodup ∧ ∀ z, z ∈ ms ↔ (z ∈ namesL (S.take i) ∨ z ∈ ((parts r).take j).flatMap id) ∨ z ∈ p.take l) ⟨sm2, ms2, hm2, nd2, fun z => by rw [mem2 z]; simp⟩ (fun l H3 _ hI => same_tup hI.1 hU) (fun l v H3 hv hI3 => ?_) (fun H3 hI3 => ?_)
        · obtain ⟨sm3, ms3, hm3, nd3, mem3⟩ := hI3
          obtain ⟨z, hz, rfl⟩ := map_at hv
          have f3 := few ms3 nd3 fun z hz => by
            rcases (mem3 z).mp hz with (h | h) | h
            · exact top_bd z h
            · exact own_bd z (in_own z h)
            · exact own_bd z (p_own z (List.mem_of_mem_take h))
          refine ⟨rfl, .str z, rfl, z, ms3, rfl, hm3, by omega, fun ms' nd' hm' _ => ⟨same_put sm3 hD, ms', upd_same, nd', fun u => ?_⟩⟩
          rw [hm' u, mem3 u, take_snoc hz, List.mem_append, List.mem_singleton]
          exact ⟨fun h => h.elim (fun e => .inr (.inr e)) fun h => h.elim .inl fun h => .inr (.inl h), fun h => h.elim (fun h => .inr (.inl h)) fun h => h.elim (fun h => .inr (.inr h)) .inl⟩
        · obtain ⟨sm3, ms3, hm3, nd3, mem3⟩ := hI3
          rw [List.length_map, List.take_length] at mem3
          refine ⟨sm3, ms3, hm3, nd3, fun z => ?_⟩
          rw [mem3 z, take_snoc hp, List.flatMap_append, List.mem_append]
          simp [or_assoc]
      · obtain ⟨sm2, ms2, hm2, nd2, mem2⟩ := hI2
        rw [xl, List.take_length] at mem2
        refine ⟨sm2, ms2, hm2, nd2, fun z => ?_⟩
        rw [mem2 z, step, List.mem_append]
        exact Iff.rfl
  · obtain ⟨sm, ms, hm, nd, mem⟩ := hI1
    rw [yl, List.take_length] at mem
    have f1 := few ms nd fun z hz => hbd z ((mem z).mp hz)
    refine ⟨D, ms, rfl, hm, by omega, fun zs L hz nz hlz rz hL => ?_⟩
    have sL := same_new hL (.lst (zs.map V.str))
    refine ⟨L, _, rfl, .inl ⟨SqL.of upd_same, fun t2 ht2 => ?_⟩⟩
    have s2 := same_new ht2 (.tup (zs.map V.str))
    have nam : ∀ z ∈ namesL S, nameB z = true := fun z hz => by
      obtain ⟨r, hr, hz⟩ := List.mem_flatMap.mp hz
      obtain ⟨p, hp, hz⟩ := List.mem_flatMap.mp hz
      exact ((hI r hr).all p hp).names z hz
    have memz : ∀ z, z ∈ zs ↔ z ∈ namesL S := fun z => (hz z).trans (mem z)
    exact q _ t2 zs (sm.trans (sL.trans s2)) (SqT.of upd_same) ⟨fun z hz => nam z ((memz z).mp hz), upX_of rz nz, by omega⟩ memz
end
end Rw
namespace Rw
open PySem PySem.Spec PyProof.Rows L2
/-! ### names in and out -/
/-- a list or a tuple of names -/
def Ws (K : PySem.W.Frag) (H : Hp) (v : V) (ns : W) : Prop := ∃ a, v = .ref a ∧ (SqL K H a (ns.map V.str) ∨ SqT K H a (ns.map V.str))
theorem Ws.same {K : PySem.W.Frag} {H H' : Hp} {v : V} {ns : W} (h : Ws K H v ns) (e : Same H H') : Ws K H' v ns := by
  obtain ⟨a, rfl, h⟩ := h
  exact ⟨a, rfl, h.elim (fun z => .inl (e.seq z)) (fun z => .inr (same_tup e z))⟩
theorem Ws.wd {K : PySem.W.Frag} {H : Hp} {v : V} {ns : W} (h : Dp K H v (Rw.wd ns)) : Ws K H v ns := by
  obtain ⟨a, rfl, h'⟩ := of_wd h
  exact ⟨a, rfl, .inr h'⟩
def meets (ns ms : W) : Bool := ns.any fun z => decide (z ∈ ms)
def minus (ns ms : W) : W := ns.filter fun z => !decide (z ∈ ms)
def hasK (kvs : List (Key × V)) (z : Str) : Bool := (valV kvs (.inr z)).isSome
abbrev sENotProg : Stmt := inClass (topS 4) 0
abbrev sEWorld : Stmt := inClass (topS 5) 0
theorem scENotProg : FnScope ["self", "thing"] ["self", "thing"] (defScope sENotProg) := ⟨rfl, rfl, rfl, by decide +kernel, rfl, by decide +kernel, by decide +kernel⟩
theorem scEWorld : FnScope ["self", "thing"] ["self", "thing"] (defScope sEWorld) := ⟨rfl, rfl, rfl, by decide +kernel, rfl, by decide +kernel, by decide +kernel⟩
section
variable {P : Program} {w : World} {K : PySem.W.Frag} {mg : Str → Option Value} {base : Heap} {f : Addr} {fd : FuncData} {k : Nat}
theorem ok_eNotProg {C : Addr} (F : FunD K "__init__" "NotAProgram.__init__" (defArgs sENotProg) (defBody sENotProg) (defScope sENotProg) [.non] [] f fd) (O : OexC K C) (no : PySem.W.findIn K (.ref C) "thing" = some none) : FnOk P w K mg base CX0 (k + 1) f fd ["self", "thing"] (spErr C "thing") := by
  refine F.ok scENotProg (fun vs H Q E h => ?_) (fun cdv A outer s H vs Q E hr h => ?_)
  · obtain ⟨a, v, rfl, _⟩ := h
    rfl
  obtain ⟨a, v, rfl, ha, q⟩ := h
  exact ⟨_, PSs.nox (pss_one (ps_ost (pv 0) (pv 1))), v, rfl, .ref a, rfl, a, C, rfl, O, no, .inl ⟨ha, fun dx h1 h2 => q dx h1 h2⟩⟩
theorem ok_eWorld {C : Addr} (F : FunD K "__init__" "InvalidWorld.__init__" (defArgs sEWorld) (defBody sEWorld) (defScope sEWorld) [.non] [] f fd) (O : OexC K C) (no : PySem.W.findIn K (.ref C) "thing" = some none) : FnOk P w K mg base CX0 (k + 1) f fd ["self", "thing"] (spErr C "thing") := by
  refine F.ok scEWorld (fun vs H Q E h => ?_) (fun cdv A outer s H vs Q E hr h => ?_)
  · obtain ⟨a, v, rfl, _⟩ := h
    rfl
  obtain ⟨a, v, rfl, ha, q⟩ := h
  exact ⟨_, PSs.nox (pss_one (ps_ost (pv 0) (pv 1))), v, rfl, .ref a, rfl, a, C, rfl, O, no, .inl ⟨ha, fun dx h1 h2 => q dx h1 h2⟩⟩
end
/-- what the text's own error class with one field is -/
structure ErrT (P : Program) (w : World) (K : PySem.W.Frag) (mg : Str → Option Value) (base : Heap) (k : Nat) (x : Str) (n : Str) (C : Addr) : Prop where
  oex : OexC K C
  ex : ∃ (fI : Addr) (fd : FuncData), PySem.W.findIn K (.ref C) "__init__" = some (some (.ref fI)) ∧ PySem.W.typeIn K (.ref fI) = some (.type "function") ∧ FnOk P w K mg base CX0 k fI fd ["self", n] (spErr C n) ∧ Binds K fd ["self", n] []
  m : mg x = some (.ref C)
/-- what a program's class says of what is no program -/
structure PgC (K : PySem.W.Frag) (mg : Str → Option Value) (C : Addr) : Prop where
  yes : PySem.W.kitOne K (.ref C) (.ref C) = some true
  non : PySem.W.kitOne K (.type "NoneType") (.ref C) = some false
  bool : PySem.W.kitOne K (.type "bool") (.ref C) = some false
  int : PySem.W.kitOne K (.type "int") (.ref C) = some false
  str : PySem.W.kitOne K (.type "str") (.ref C) = some false
  list : PySem.W.kitOne K (.type "list") (.ref C) = some false
  tuple : PySem.W.kitOne K (.type "tuple") (.ref C) = some false
  dict : PySem.W.kitOne K (.type "dict") (.ref C) = some false
  m : mg "Program" = some (.ref C)
  cls : Cls K C
  cg : PySem.W.findIn K (.ref C) "__class__" = some (some (.builtin "object.__class__"))
  sp : PySem.W.specialIn K (.builtin "object.__class__") "__get__" = some (some (.builtin "getset_descriptor.__get__"))
  tk : PySem.W.takesIn K (.builtin "object.__class__") = some true
  mro : PySem.W.mroIn K C (.type "object") = some true
section
variable {P : Program} {w : World} {K : PySem.W.Frag} {mg : Str → Option Value} {base : Heap} {f : Addr} {fd : FuncData} {k : Nat}
theorem PgC.odd {C : Addr} (T : PgC K mg C) : ∀ d : PyData, PySem.W.kitOne K (.type (tyName d)) (.ref C) = some false
  | .none => T.non
  | .bool _ => T.bool
  | .int _ => T.int
  | .str _ => T.str
  | .list _ => T.list
  | .tuple _ => T.tuple
  | .dict _ => T.dict
end
end Rw
namespace Rw
open PySem PySem.Spec PyProof.Rows L2
/-! ### a + b, a - b of instances of one class, v in a, len(a): by the class's own methods -/
section
variable {X : Cx}
def rBinP (C : Addr) (sp : Sp) (E : XK) : R2 := fun x y H Q => ∃ a dx fs b dy gs, x = .ref a ∧ y = .ref b ∧ H a = some (.ins C dx fs) ∧ H b = some (.ins C dy gs) ∧ sp [x, y] H Q E
theorem op_binP {CX : CXT} {op : Operator} {C g : Addr} {n : Nat} {sp : Sp} {E : XK} (hc : PySem.W.selfFirst X.K C = true) (hs : PySem.W.findIn X.K (.ref C) (PySem.dunder op.info.2) = some (some (.ref g))) (hf : PySem.W.isFn X.K (.ref g) = true) (F : FnR X.prog X.w X.K X.mg X.base CX n g sp) (hr : Room n X.A) (hx : Passes CX X E) :
    OpR X (binaryOp op) (rBinP C sp E) := by
  intro pins s σ H x y v u Q I rx ry h
  obtain ⟨a, dx, fs, b, dy, gs, rfl, rfl, ha, hb, q⟩ := h
  obtain rfl : v = Value.ref a := rx
  obtain rfl : u = Value.ref b := ry
  obtain ⟨mA, J, _⟩ := ins_get I.hok ha
  obtain ⟨mB, J', _⟩ := ins_get I.hok hb
  obtain ⟨od, J, _⟩ := J.look
  obtain ⟨od', J', _⟩ := J'.look
  obtain ⟨m, hF⟩ := I.fr
  refine PySem.W.binop_K hF I.ok.mod.kin J J'.type hc hs hf ?_
  refine wpAny_mono (wpAny_call (run_fnR F hr hx I (vs := [.ref a, .ref b]) (.cons rfl (.cons rfl .nil)) q)) (fun r s' h => ?_) fun e s' h => h
  obtain ⟨z, H', I', r, q⟩ := h
  exact SlX.cmpback r ⟨z, H', I', r, q⟩
/-- v in a: the method tells a bool -/
def rInP (C : Addr) (sp : Sp) (E : XK) : R2 := fun x y H Q => ∃ b dy gs, y = .ref b ∧ H b = some (.ins C dy gs) ∧ sp [y, x] H (fun v H' => ∃ t, v = .bl t ∧ Q (.bl t) H') E
theorem op_inP {CX : CXT} {C g : Addr} {n : Nat} {sp : Sp} {E : XK} (hs : PySem.W.findIn X.K (.ref C) "__contains__" = some (some (.ref g))) (hf : PySem.W.isFn X.K (.ref g) = true) (F : FnR X.prog X.w X.K X.mg X.base CX n g sp) (hr : Room n X.A) (hx : Passes CX X E) :
    OpR X (compareOp .In) (rInP C sp E) := by
  intro pins s σ H x y v u Q I rx ry h
  obtain ⟨b, dy, gs, rfl, hb, q⟩ := h
  obtain rfl : u = Value.ref b := ry
  obtain ⟨mB, J, _⟩ := ins_get I.hok hb
  obtain ⟨od, J, _⟩ := J.look
  obtain ⟨m, hF⟩ := I.fr
  refine PySem.W.in_K hF I.ok.mod.kin J hs hf ?_
  refine wpAny_mono (wpAny_call (run_fnR F hr hx I (vs := [.ref b, x]) (.cons rfl (.cons rx .nil)) q)) (fun r s' h => ?_) fun e s' h => h
  obtain ⟨z, H', I', r, t, rfl, q⟩ := h
  obtain rfl : _ = Value.bool t := r
  exact wpAny_pure ⟨.bl t, H', I', rfl, q⟩
/-- len(a) -/
def rLenP (C : Addr) (sp : Sp) (E : XK) : List V → Hp → VK → Prop := fun xs H Q => ∃ b dy gs, xs = [.ref b] ∧ H b = some (.ins C dy gs) ∧ sp xs H (fun v H' => ∃ i : Int, v = .int i ∧ 0 ≤ i ∧ i < 2 ^ 62 ∧ Q (.int i) H') E
theorem call_lenP {CX : CXT} {C g : Addr} {n : Nat} {sp : Sp} {E : XK} (hs : PySem.W.findIn X.K (.ref C) "__len__" = some (some (.ref g))) (hf : PySem.W.isFn X.K (.ref g) = true) (F : FnR X.prog X.w X.K X.mg X.base CX n g sp) (hr : Room (n + 1) X.A) (hx : Passes CX X E) :
    CallR X (.builtin "len") (rLenP C sp E) := by
  intro pins s σ H xs us Q I r h
  obtain ⟨b, dy, gs, rfl, hb, q⟩ := h
  rw [Vals.ref1 r]
  obtain ⟨mB, J, _⟩ := ins_get I.hok hb
  obtain ⟨od, J, _⟩ := J.look
  obtain ⟨m, hF⟩ := I.fr
  refine PySem.W.len_K hF I.ok.mod.kin J hs hf ?_
  have e0 := I.env0
  have e1 : Env0 X.prog X.w X.K X.mg X.base X.A.in1 X.stack s H := ⟨e0.frames, e0.mod, e0.bs, e0.bsz, e0.funs, e0.frf, e0.hok, e0.bare⟩
  refine wpAny_call (codeAny_mono (F X.A.in1 X.stack s H [.ref b] [.ref b] _ E hr.in1 e1 (.cons rfl .nil) q) fun r s' h => ?_)
  cases r with
  | error e => exact hx pins σ H s e s' I h
  | ok f =>
    cases f with
    | ret v =>
      obtain ⟨z, H', I', r, i, rfl, i0, i1, q⟩ := I.after h
      obtain ⟨t, rfl⟩ := r
      exact ⟨⟨i0, by omega⟩, .int i, H', I'.tok _, ⟨_, rfl⟩, q⟩
    | _ => exact h.elim
end
end Rw
namespace Rw
open PySem PySem.Spec PyProof.Rows L2
/-! ### Program's kind, +, in, len, == -/
abbrev sKind : Stmt := inClass (topS 16) 7
abbrev sAdd : Stmt := inClass (topS 16) 8
abbrev sContains : Stmt := inClass (topS 16) 10
abbrev sPLen : Stmt := inClass (topS 16) 11
abbrev sPEq : Stmt := inClass (topS 16) 12
abbrev nKind : List Str := ["self", "_", "denied", "heads"]
theorem scKind : FnScope nKind ["self"] (defScope sKind) := ⟨rfl, rfl, rfl, by decide +kernel, rfl, by decide +kernel, by decide +kernel⟩
theorem scAdd : FnScope ["self", "other", "rows"] ["self", "other"] (defScope sAdd) := ⟨rfl, rfl, rfl, by decide +kernel, rfl, by decide +kernel, by decide +kernel⟩
theorem scContains : FnScope ["self", "thing"] ["self", "thing"] (defScope sContains) := ⟨rfl, rfl, rfl, by decide +kernel, rfl, by decide +kernel, by decide +kernel⟩
theorem scPLen : FnScope ["self"] ["self"] (defScope sPLen) := ⟨rfl, rfl, rfl, by decide +kernel, rfl, by decide +kernel, by decide +kernel⟩
theorem scPEq : FnScope ["self", "other"] ["self", "other"] (defScope sPEq) := ⟨rfl, rfl, rfl, by decide +kernel, rfl, by decide +kernel, by decide +kernel⟩
def rLenK (K : PySem.W.Frag) : List V → Hp → VK → Prop := fun xs H Q => ∃ p ys, xs = [V.ref p] ∧ (SqL K H p ys ∨ SqT K H p ys) ∧ Q (.int ys.length) H
def kindS (S : List Rl) : Str := if S.any (fun r => decide (0 < r.2.1.length)) then ("any" : Str) else if S.any (fun r => decide (1 < r.1.length)) then ("plain" : Str) else ("single" : Str)
theorem catA_w {K : PySem.W.Frag} {H : Hp} {a b : Addr} {xs ys : List V} {Q : VK} (ha : SqT K H a xs) (hb : SqT K H b ys) (hz : xs.length + ys.length ≤ sizeLine) (q : ∀ c H0, Same H H0 → SqT K H0 c (xs ++ ys) → Q (.ref c) H0) : rCatA K (.ref a) (.ref b) H Q := by
  refine ⟨a, b, xs, ys, rfl, rfl, ha, hb, hz, fun e => ?_, fun _ e => ?_, fun _ _ p hp => ?_⟩
  · subst e
    exact q b H (fun _ _ e => e) hb
  · subst e
    exact q a H (fun _ _ e => e) (by rw [List.append_nil]; exact ha)
  · exact q p _ (same_new hp _) (SqT.of upd_same)
theorem dps_app12 {K : PySem.W.Frag} {H : Hp} {ys : List V} {es : List PyData} (h2 : DpAll K H ys es) : ∀ {xs : List V} {ds : List PyData}, DpAll K H xs ds → DpAll K H (xs ++ ys) (ds ++ es)
  | [], [], .nil => h2
  | _ :: _, _ :: _, .cons h t => .cons h (dps_app12 h2 t)
theorem ty_ins {K : PySem.W.Frag} {C : Addr} {mg : Str → Option Value} (G : PgC K mg C) {H : Hp} {a dx : Addr} {fs : List (Str × V)} (h : H a = some (.ins C dx fs)) : TyX K H (.ref a) (.ref C) := .base (.ins h G.cls G.cg G.sp G.tk G.mro)
end Rw
namespace Rw
open PySem PySem.Spec PyProof.Rows L2
/-! ### rules as data -/
theorem eqv_rds : ∀ a b : List Rl, PyData.eqvAll (a.map rd) (b.map rd) = decide (a = b)
  | [], [] => by simp [PyData.eqvAll]
  | [], _ :: _ => by simp [PyData.eqvAll]
  | _ :: _, [] => by simp [PyData.eqvAll]
  | x :: a, y :: b => by
    rw [List.map_cons, List.map_cons, PyData.eqvAll, eqv_rds a b, eqv_rd]
    by_cases h : x = y
    · subst h
      by_cases h2 : a = b <;> simp [h2]
    · simp [h]
theorem lay_rdsAll {S : List Rl} (h : ∀ r ∈ S, IsR r) : PyData.canLayAll0 (S.map rd) = true ∧ PyData.depthAll (S.map rd) ≤ 2 := by
  induction S with
  | nil => exact ⟨rfl, Nat.zero_le _⟩
  | cons r S ih =>
    obtain ⟨h1, h2⟩ := List.forall_mem_cons.mp h
    obtain ⟨i1, i2⟩ := ih h2
    have d := depth_rd r
    refine ⟨?_, ?_⟩
    · rw [List.map_cons, PyData.canLayAll0, lay_rd h1, i1]
      rfl
    · rw [List.map_cons, PyData.depthAll]
      omega
theorem shaped_rdT {S : List Rl} (h : ∀ r ∈ S, IsR r) : SeqAt.shaped (.tuple (S.map rd)) = true := by
  obtain ⟨i1, i2⟩ := lay_rdsAll h
  refine shaped_of ?_ ?_
  · rw [PyData.canLay0]
    exact i1
  · rw [PyData.depth]
    omega
section
variable {P : Program} {w : World} {K : PySem.W.Frag} {mg : Str → Option Value} {base : Heap} {f : Addr} {fd : FuncData} {k : Nat}
/-- one + other -/
def spAdd (K : PySem.W.Frag) (C CP : Addr) : Sp := fun vs H Q E => ∃ (x y : V) (S1 : List Rl), vs = [x, y] ∧ PgAt K C H x S1 ∧ (∀ r ∈ S1, IsR r) ∧
  ((∃ S2 : List Rl, PgAt K C H y S2 ∧ (∀ r ∈ S2, IsR r) ∧ S1.length + S2.length < 64 ∧ ∀ H' v S, Same H H' → Srt S (S1 ++ S2) → S.length < 64 → PgAt K C H' v S → Q v H') ∨
   (∃ d, Dp K H y d ∧ ∀ dx, H dx = none → E (.ref CP) (some dx) (upd H dx (.xd [(("thing" : Str), y)]))))
theorem ok_add {C CP fI : Addr} (F : Fun K "__add__" "Program.__add__" sAdd f fd) (T : Bl mg) (G : PgC K mg C) (n : NoAttr K C "_rules") (X : ErrT P w K mg base k "NotAProgram" "thing" CP) (M : Mk K C fI) (GI : FnR P w K mg base CX0 k fI (spInit K C)) : FnOk P w K mg base (L2.CX P w) (k + 2) f fd ["self", "other"] (spAdd K C CP) := by
  obtain ⟨fE, fdE, i1, i2, i3, i4⟩ := X.ex
  refine F.okX scAdd (fun vs H Q E h => ?_) (fun cdv A outer s H vs Q E hr h => ?_)
  · obtain ⟨x, y, S, rfl, _⟩ := h
    rfl
  obtain ⟨x, y, S1, rfl, ⟨a, dx, t, ys, rfl, h1, h2, h3⟩, hI, h⟩ := h
  refine ⟨_, pss_cons (ps_if (pt_not (pt_val (pe_callB call_isi (by rfl) T.isi PyProof.Rows.boot_isinstance (pa_cons (pv 1) (pa_cons (pe_glob (v := .ref C) (by rfl) G.m rfl) pa_nil)))))
      (pss_one (ps_raise rfl (takes_of rfl rfl rfl rfl) (pmk_oex X.oex i1 i2 i3 hr i4 .nil pass0 (by rfl) X.m (pa_cons (pv 1) pa_nil)))) pss_nil)
    (pss_cons (ps_set (i := 2) scAdd.nd rfl (.inl rfl) (pe_op op_catA (pe_fld (pv 0) rfl) (pe_fld (pv 1) rfl)))
    (pss_one (ps_ret (pe_makeS M GI hr (by rfl) G.m pass0 (pv 2))))), ?_⟩
  rcases h with ⟨S2, ⟨b, dy, u, zs, rfl, g1, g2, g3⟩, hI2, few, q⟩ | ⟨d, hd, q⟩
  · refine ⟨.ref b, rfl, .ref b, .ref C, .ref C, .ref C, true, rfl, .own C, ty_ins G g1, G.yes, true, rfl, iteF ?_⟩
    refine ⟨.ref a, rfl, a, C, dx, _, .ref t, rfl, h1, G.cls, n, rfl, .ref b, rfl, b, C, dy, _, .ref u, rfl, g1, G.cls, n, rfl, ?_⟩
    have l1 := dpAll_len h3
    have l2 := dpAll_len g3
    rw [List.length_map] at l1 l2
    refine catA_w h2 g2 (small_line (by omega)) fun c H1 s1 hc => ?_
    have hx : DpAll K H1 (ys ++ zs) ((S1 ++ S2).map rd) := by
      rw [List.map_append]
      exact dps_app12 ((Stay.same s1).dpAll _ _ (okDs_rd S2) g3) ((Stay.same s1).dpAll _ _ (okDs_rd S1) h3)
    have hL : ∀ r ∈ S1 ++ S2, IsR r := fun r hr => (List.mem_append.mp hr).elim (hI r) (hI2 r)
    exact ⟨.ref c, rfl, c, _, rfl, .inl hc, made_ok hx hL (by rw [List.length_append]; exact few) fun H' v S s2 => q H' v S (s1.trans s2)⟩
  · exact ⟨y, rfl, y, .ref C, .type (tyName d), .ref C, false, rfl, .own C, tyx_dp hd, G.odd d, false, rfl, iteT ⟨y, rfl, err_made q⟩⟩
/-- len(one) -/
def spPLen (K : PySem.W.Frag) (C : Addr) : Sp := fun vs H Q _ => ∃ (v : V) (S : List Rl), vs = [v] ∧ PgAt K C H v S ∧ Q (.int (S.length : Nat)) H
theorem ok_pLen {C : Addr} (F : Fun K "__len__" "Program.__len__" sPLen f fd) (T : Bl mg) (c : Cls K C) (n : NoAttr K C "_rules") : FnOk P w K mg base CX0 (k + 1) f fd ["self"] (spPLen K C) := by
  refine F.ok scPLen (fun vs H Q E h => ?_) (fun cdv A outer s H vs Q E hr h => ?_)
  · obtain ⟨v, S, rfl, _⟩ := h
    rfl
  obtain ⟨v, S, rfl, ⟨a, dx, t, ys, rfl, h1, h2, h3⟩, q⟩ := h
  refine ⟨_, pss_one (ps_ret (pe_callB call_len_seq (by rfl) T.len PySem.boot_len (pa_cons (pe_fld (pv 0) rfl) pa_nil))), ?_⟩
  refine ⟨.ref a, rfl, a, C, dx, _, .ref t, rfl, h1, c, n, rfl, t, _, rfl, .inr h2, ?_⟩
  rw [dpAll_len h3, List.length_map]
  exact q
/-- one == other -/
def spPEqG (K : PySem.W.Frag) (C : Addr) : Sp := fun vs H Q _ => ∃ (x y : V) (S1 : List Rl), vs = [x, y] ∧ PgAt K C H x S1 ∧ (∀ r ∈ S1, IsR r) ∧ ((∃ S2, PgAt K C H y S2 ∧ (∀ r ∈ S2, IsR r) ∧ Q (.bl (decide (S1 = S2))) H) ∨ (∃ d, Dp K H y d ∧ Q (.bl false) H))
theorem ok_pEqG {C : Addr} (F : Fun K "__eq__" "Program.__eq__" sPEq f fd) (T : Bl mg) (G : PgC K mg C) (n : NoAttr K C "_rules") : FnOk P w K mg base CX0 (k + 1) f fd ["self", "other"] (spPEqG K C) := by
  refine F.ok scPEq (fun vs H Q E h => ?_) (fun cdv A outer s H vs Q E hr h => ?_)
  · obtain ⟨x, y, S, rfl, _⟩ := h
    rfl
  obtain ⟨x, y, S1, rfl, ⟨a, dx, t, ys, rfl, h1, h2, h3⟩, hI, h⟩ := h
  refine ⟨_, pss_one (ps_ret (pe_and (pe_callB call_isi (by rfl) T.isi PyProof.Rows.boot_isinstance (pa_cons (pv 1) (pa_cons (pe_glob (v := .ref C) (by rfl) G.m rfl) pa_nil))) (pe_one (pe_cmpR (op_eqD hr.units) (pe_fld (pv 0) rfl) (pe_fld (pv 1) rfl) (nomark _))))), ?_⟩
  rcases h with ⟨S2, ⟨b, dy, u, zs, rfl, g1, g2, g3⟩, hI2, q⟩ | ⟨d, hd, q⟩
  · refine ⟨.ref b, rfl, .ref b, .ref C, .ref C, .ref C, true, rfl, .own C, ty_ins G g1, G.yes, true, rfl, iteT ?_⟩
    refine ⟨.ref a, rfl, a, C, dx, _, .ref t, rfl, h1, G.cls, n, rfl, .ref b, rfl, b, C, dy, _, .ref u, rfl, g1, G.cls, n, rfl, ?_⟩
    refine ⟨.tuple (S1.map rd), .tuple (S2.map rd), .tup h2 h3, .tup g2 g3, shaped_rdT hI, shaped_rdT hI2, ?_⟩
    rw [PyData.eqv, eqv_rds]
    exact q
  · exact ⟨y, rfl, y, .ref C, .type (tyName d), .ref C, false, rfl, .own C, tyx_dp hd, G.odd d, false, rfl, iteF q⟩
end
end Rw
namespace Rw
open PySem PySem.Spec PyProof.Rows L2
/-! ### rule, choice -/
theorem fn_or {P : Program} {w : World} {K : PySem.W.Frag} {mg : Str → Option Value} {base : Heap} {CX : CXT} {k : Nat} {f : Addr} {fd : FuncData} {ps : List Str} {sp sp' : Sp} (F : FnOk P w K mg base CX k f fd ps sp) (F' : FnOk P w K mg base CX k f fd ps sp') :
    FnOk P w K mg base CX k f fd ps (fun vs H Q E => sp vs H Q E ∨ sp' vs H Q E) :=
  ⟨fun vs H Q E q => q.elim (F.len vs H Q E) (F'.len vs H Q E), fun A outer s H args us vs Q E hr he hb hv hs => hs.elim (F.run A outer s H args us vs Q E hr he hb hv) (F'.run A outer s H args us vs Q E hr he hb hv)⟩
section
variable {P : Program} {w : World} {K : PySem.W.Frag} {mg : Str → Option Value} {base : Heap} {f : Addr} {fd : FuncData} {k : Nat}
/-- _are_names of a list of names -/
def spAreNamesL (K : PySem.W.Frag) : Sp := fun vs H Q _ => ∃ (a : Addr) (ns : W), vs = [.ref a] ∧ SqL K H a (ns.map V.str) ∧ (∀ z ∈ ns, nameB z = true) ∧ ns.length ≤ 1000 ∧ ∀ H', Same H H' → Q (.bl true) H'
theorem ok_areNamesL {f1 : Addr} {fd1 : FuncData} (F : Fun K "_are_names" "_are_names" sAreNames f fd) (T : Bl mg) (G : FnOk P w K mg base CX0 k f1 fd1 ["thing"] (spIsName K)) (b1 : Binds K fd1 ["thing"] []) (k1 : PySem.W.keepIn K (.ref f1) = true) (m1 : mg "is_name" = some (.ref f1)) :
    FnOk P w K mg base CX0 (k + 1) f fd ["thing"] (spAreNamesL K) := by
  refine F.ok scAreNames (fun vs H Q E h => ?_) (fun cdv A outer s H vs Q E hr h => ?_)
  · obtain ⟨a, xs, rfl, _⟩ := h
    rfl
  obtain ⟨a, ns, rfl, hS, hn, few, q⟩ := h
  refine ⟨_, pss_one (ps_ret (pe_and (pe_callB call_isiT (by rfl) T.isi PyProof.Rows.boot_isinstance (pa_cons (pv 0) (pa_cons (pe_tup (pa_cons (pe_bltn (v := .ty "tuple") (by rfl) T.tuple (by decide +kernel) rfl) (pa_cons (pe_bltn (v := .ty "list") (by rfl) T.list (by decide +kernel) rfl) pa_nil))) pa_nil)))
      (pe_one (pe_callB (cr_all rfl) (by rfl) T.all (by decide +kernel) (pa_cons (pe_lc (own := [("item", 1)]) (g := gName 1) (by rfl) scAreNames.nd (pi_list (pv 0)) (blkOk_by (N := ["thing", "item"]) (sc := defScope sAreNames) (by decide +kernel))
        (fun _ _ _ _ _ => pg_name (i := 1) scAreNames.nd rfl (Or.inl rfl)) (fun _ _ _ _ _ => pts_nil) (fun _ _ _ _ _ => pe_call G hr (by rfl) m1 k1 b1 .nil pass0 (pa_cons (pv 1) pa_nil))) pa_nil))))), ?_⟩
  refine ⟨.ref a, rfl, by show 2 ≤ sizeLine; decide, fun T0 hT => ?_⟩
  have s0 : Same H (upd H T0 (.tup [.ty "tuple", .ty "list"])) := same_new hT _
  refine ⟨.ref a, T0, [.ty "tuple", .ty "list"], .type "list", [.type "tuple", .type "list"], true, rfl, upd_same, .cons (.ty _) (.cons (.ty _) .nil), tyx_dp (d := .list (ns.map .str)) (.lst (s0.seq hS) (dps_strs ns)), kitAny_cons (b := false) (kit_ty (by decide +kernel)) (fun _ => kitAny_cons (b := true) (kit_ty (by decide +kernel)) (fun z => nomatch z) fun _ => rfl) (fun z => nomatch z), true, rfl, iteT ?_⟩
  generalize upd H T0 (.tup [.ty "tuple", .ty "list"]) = H0 at s0 ⊢
  refine ⟨.ref a, rfl, a, rfl, ⟨_, s0.seq hS⟩, fun D hD => ?_⟩
  refine lc_list (xs := ns.map V.str) (fun i H1 => Same H0 H1 ∧ H1 D = some (.lst ((ns.take i).map fun d => V.bl true))) ⟨same_new hD _, upd_same⟩ (fun i H1 _ hI => (s0.trans hI.1).seq hS) (fun i x H1 hxi hI => ?_) (fun H1 hI => ?_)
  · obtain ⟨sm, hd⟩ := hI
    obtain ⟨z, hz, rfl⟩ := map_at hxi
    have nz := hn z (List.mem_of_getElem? hz)
    refine ⟨rfl, .str z, rfl, .str z, .str z, rfl, .str _, oddN_name nz, fun H2 sm2 => ⟨_, sm2 _ _ hd, small_line' (by rw [List.length_map, List.length_take]; omega), same_put (sm.trans sm2) hD, ?_⟩⟩
    rw [upd_same, take_snoc hz, List.map_append]
    show some (HO.lst (_ ++ [V.bl (nameB z)])) = _
    rw [nz]
    rfl
  · obtain ⟨sm, hd⟩ := hI
    rw [List.length_map, List.take_length] at hd
    refine ⟨D, ns.map fun _ => true, rfl, SqL.of (by rw [List.map_map]; exact hd), ?_⟩
    have z : (ns.map fun _ => true).all id = true := by simp
    rw [z]
    exact q H1 (s0.trans sm)
/-- names in a list or a tuple -/
def spAreNamesG (K : PySem.W.Frag) : Sp := fun vs H Q _ => ∃ (x : V) (ns : W), vs = [x] ∧ Ws K H x ns ∧ (∀ z ∈ ns, nameB z = true) ∧ ns.length ≤ 1000 ∧ ∀ H', Same H H' → Q (.bl true) H'
theorem ok_areNamesG (G1 : FnOk P w K mg base CX0 k f fd ["thing"] (spAreNames K)) (G2 : FnOk P w K mg base CX0 k f fd ["thing"] (spAreNamesL K)) : FnOk P w K mg base CX0 k f fd ["thing"] (spAreNamesG K) := by
  refine (fn_or G1 G2).imp fun vs H Q E h => ?_
  obtain ⟨x, ns, rfl, ⟨a, rfl, hS | hT⟩, hn, few, q⟩ := h
  · exact .inr ⟨a, ns, rfl, hS, hn, few, q⟩
  · refine .inl ⟨a, _, ns.map .str, rfl, hT, dps_strs ns, fun d hd => ?_, by rw [List.length_map]; exact few, fun H' s => ?_⟩
    · obtain ⟨z, hz, rfl⟩ := List.mem_map.mp hd
      exact oddN_name (hn z hz)
    · have e : (ns.map PyData.str).all nameD = true := by
        rw [List.all_map, List.all_eq_true]
        exact fun z hz => hn z hz
      rw [e]
      exact q H' s
end
abbrev sRule : Stmt := topS 14
abbrev sChoice : Stmt := topS 15
theorem scRule : FnScope ["heads", "needs", "bars", "denied", "thing"] ["heads", "needs", "bars", "denied"] (defScope sRule) := ⟨rfl, rfl, rfl, by decide +kernel, rfl, by decide +kernel, by decide +kernel⟩
theorem scChoice : FnScope ["name", "needs", "bars"] ["name", "needs", "bars"] (defScope sChoice) := ⟨rfl, rfl, rfl, by decide +kernel, rfl, by decide +kernel, by decide +kernel⟩
/-- the set of these names -/
def WOf (ns zs : W) : Prop := UpX zs ∧ ∀ z, z ∈ zs ↔ z ∈ ns
theorem WOf.isW {ns zs bd : W} (h : WOf ns zs) (hn : ∀ z ∈ ns, nameB z = true) (hb : ∀ z ∈ ns, z ∈ bd) (lb : bd.length ≤ 40) : IsW zs :=
  ⟨fun z hz => hn z ((h.2 z).mp hz), h.1, Nat.le_trans (len_le (upX_nodup h.1) fun z hz => hb z ((h.2 z).mp hz)) lb⟩
theorem WOf.one {ns zs zs' : W} (h : WOf ns zs) (h' : WOf ns zs') : zs = zs' := upX_one h.1 h'.1 fun z => (h.2 z).trans (h'.2 z).symm
theorem ws_seq {K : PySem.W.Frag} {H : Hp} {x : V} {ns : W} (h : Ws K H x ns) : ∃ a, x = .ref a ∧ (SqL K H a (ns.map V.str) ∨ SqT K H a (ns.map V.str)) := h
section
variable {P : Program} {w : World} {K : PySem.W.Frag} {mg : Str → Option Value} {base : Heap} {f : Addr} {fd : FuncData} {k : Nat}
/-- lists of valid names -/
def NsOk (K : PySem.W.Frag) (H : Hp) (x : V) (ns : W) : Prop := Ws K H x ns ∧ (∀ z ∈ ns, nameB z = true) ∧ ns.length < 1000
theorem NsOk.same {K : PySem.W.Frag} {H H' : Hp} {x : V} {ns : W} (h : NsOk K H x ns) (e : Same H H') : NsOk K H' x ns := ⟨h.1.same e, h.2⟩
def spRuleG (K : PySem.W.Frag) : Sp := fun vs H Q _ => ∃ (x1 x2 x3 x4 : V) (n1 n2 n3 n4 : W), vs = [x1, x2, x3, x4] ∧ NsOk K H x1 n1 ∧ NsOk K H x2 n2 ∧ NsOk K H x3 n3 ∧ NsOk K H x4 n4 ∧
  ∀ H' v r, Same H H' → Dp K H' v (rd r) → WOf n1 r.1 → WOf n4 r.2.1 → WOf n2 r.2.2.1 → WOf n3 r.2.2.2 → Q v H'
theorem ok_ruleG {f1 f2 : Addr} {fd1 fd2 : FuncData} {dvs : List V} (F : FunD K "rule" "rule" (defArgs sRule) (defBody sRule) (defScope sRule) dvs [] f fd)
    (G1 : FnOk P w K mg base CX0 k f1 fd1 ["thing"] (spAreNamesG K)) (b1 : Binds K fd1 ["thing"] []) (k1 : PySem.W.keepIn K (.ref f1) = true) (m1 : mg "_are_names" = some (.ref f1))
    (G2 : FnOk P w K mg base CX0 k f2 fd2 ["names"] (spSetOf K)) (b2 : Binds K fd2 ["names"] []) (k2 : PySem.W.keepIn K (.ref f2) = true) (m2 : mg "_set_of" = some (.ref f2)) : FnOk P w K mg base CX0 (k + 1) f fd ["heads", "needs", "bars", "denied"] (spRuleG K) := by
  refine F.ok scRule (fun vs H Q E h => ?_) (fun cdv A outer s H vs Q E hr h => ?_)
  · obtain ⟨x1, x2, x3, x4, n1, n2, n3, n4, rfl, _⟩ := h
    rfl
  obtain ⟨x1, x2, x3, x4, n1, n2, n3, n4, rfl, h1, h2, h3, h4, q⟩ := h
  refine ⟨_, PSs.nox (pss_cons (ps_for PassesOwn.never rfl (pi_tup (pe_tup (pa_cons (pv 0) (pa_cons (pv 1) (pa_cons (pv 2) (pa_cons (pv 3) pa_nil)))))) (pg_name (i := 4) scRule.nd rfl (.inl rfl))
      (pss_one (ps_if (pt_not (pt_val (pe_call G1 hr (by rfl) m1 k1 b1 .nil pass0 (pa_cons (pv 4) pa_nil)))) pss_never pss_nil)))
    (pss_one (ps_ret (pe_tup (pa_cons (pe_call G2 hr (by rfl) m2 k2 b2 .nil pass0 (pa_cons (pv 0) pa_nil)) (pa_cons (pe_call G2 hr (by rfl) m2 k2 b2 .nil pass0 (pa_cons (pv 3) pa_nil))
      (pa_cons (pe_call G2 hr (by rfl) m2 k2 b2 .nil pass0 (pa_cons (pv 1) pa_nil)) (pa_cons (pe_call G2 hr (by rfl) m2 k2 b2 .nil pass0 (pa_cons (pv 2) pa_nil)) pa_nil)))))))), ?_⟩
  refine ⟨x1, rfl, x2, rfl, x3, rfl, x4, rfl, by show 4 ≤ sizeLine; decide, fun t ht => ?_⟩
  have s0 := same_new ht (.tup [x1, x2, x3, x4])
  let H0 : Hp := upd H t (.tup [x1, x2, x3, x4])
  have hT0 : SqT K H0 t [x1, x2, x3, x4] := SqT.of upd_same
  have each : ∀ x ∈ [x1, x2, x3, x4], ∃ ns, NsOk K H x ns := fun x hx => by
    simp only [List.mem_cons, List.mem_nil_iff, or_false] at hx
    rcases hx with rfl | rfl | rfl | rfl
    · exact ⟨_, h1⟩
    · exact ⟨_, h2⟩
    · exact ⟨_, h3⟩
    · exact ⟨_, h4⟩
  refine ⟨t, rfl, ⟨_, hT0⟩, for_tup (xs := [x1, x2, x3, x4]) (fun i σ H1 => (∃ y4, σ = [some x1, some x2, some x3, some x4, y4]) ∧ Same H0 H1) ⟨⟨_, rfl⟩, fun _ _ e => e⟩ (fun i σ H1 _ hI => same_tup hI.2 hT0) (fun i x σ H1 hx hI => ?_) (fun σ H1 hI => ?_)⟩
  · obtain ⟨⟨y4, rfl⟩, sm⟩ := hI
    obtain ⟨ns, hw, hn, few⟩ := each x (List.mem_of_getElem? hx)
    exact ⟨x, rfl, x, ns, rfl, hw.same (s0.trans sm), hn, by omega, fun H2 s2 => ⟨true, rfl, iteF ⟨⟨_, rfl⟩, sm.trans s2⟩⟩⟩
  · obtain ⟨⟨y4, rfl⟩, sm⟩ := hI
    have s1 := s0.trans sm
    obtain ⟨a1, rfl, g1⟩ := ws_seq (h1.1.same s1)
    refine ⟨.ref a1, rfl, a1, n1, rfl, g1, h1.2.2, fun H2 p1 z1 s2 e1 u1 m1' => ?_⟩
    have s12 := s1.trans s2
    obtain ⟨a4, rfl, g4⟩ := ws_seq (h4.1.same s12)
    refine ⟨.ref a4, rfl, a4, n4, rfl, g4, h4.2.2, fun H3 p2 z2 s3 e2 u2 m2' => ?_⟩
    have s13 := s12.trans s3
    obtain ⟨a2, rfl, g2⟩ := ws_seq (h2.1.same s13)
    refine ⟨.ref a2, rfl, a2, n2, rfl, g2, h2.2.2, fun H4 p3 z3 s4 e3 u3 m3' => ?_⟩
    have s14 := s13.trans s4
    obtain ⟨a3, rfl, g3⟩ := ws_seq (h3.1.same s14)
    refine ⟨.ref a3, rfl, a3, n3, rfl, g3, h3.2.2, fun H5 p4 z4 s5 e4 u4 m4' => ?_⟩
    have s15 := s14.trans s5
    refine ⟨by show 4 ≤ sizeLine; decide, fun u hu => ?_⟩
    have s6 := same_new hu (.tup [.ref p1, .ref p2, .ref p3, .ref p4])
    exact q _ _ (z1, z2, z3, z4) (s15.trans s6) (.tup (SqT.of upd_same) (.cons (to_wd (SqT.of ((s3.trans (s4.trans (s5.trans s6))) _ _ e1))) (.cons (to_wd (SqT.of ((s4.trans (s5.trans s6)) _ _ e2))) (.cons (to_wd (SqT.of ((s5.trans s6) _ _ e3))) (.cons (to_wd (SqT.of (s6 _ _ e4))) .nil))))) ⟨u1, m1'⟩ ⟨u2, m2'⟩ ⟨u3, m3'⟩ ⟨u4, m4'⟩
theorem isW_one {z : Str} (h : nameB z = true) : IsW [z] := ⟨fun x hx => by rw [List.mem_singleton.mp hx]; exact h, by simp [UpX], by simp⟩
theorem isW_nil : IsW [] := ⟨(fun _ z => nomatch z), List.Pairwise.nil, by decide⟩
/-- choice(name, needs, bars) -/
def spChoiceG (K : PySem.W.Frag) : Sp := fun vs H Q _ => ∃ (z : Str) (x2 x3 : V) (n2 n3 : W), vs = [.str z, x2, x3] ∧ nameB z = true ∧ NsOk K H x2 n2 ∧ NsOk K H x3 n3 ∧
  ∀ H' v r, Same H H' → Dp K H' v (rd r) → r.1 = [z] → r.2.1 = [z] → WOf n2 r.2.2.1 → WOf n3 r.2.2.2 → Q v H'
theorem ok_choiceG {f1 f2 : Addr} {fd1 fd2 : FuncData} {dvs : List V} (F : FunD K "choice" "choice" (defArgs sChoice) (defBody sChoice) (defScope sChoice) dvs [] f fd)
    (G1 : FnOk P w K mg base CX0 k f1 fd1 ["thing"] (spIsName K)) (b1 : Binds K fd1 ["thing"] []) (k1 : PySem.W.keepIn K (.ref f1) = true) (m1 : mg "is_name" = some (.ref f1))
    (G2 : FnOk P w K mg base CX0 k f2 fd2 ["heads", "needs", "bars", "denied"] (spRuleG K)) (b2 : Binds K fd2 ["heads", "needs", "bars", "denied"] []) (k2 : PySem.W.keepIn K (.ref f2) = true) (m2 : mg "rule" = some (.ref f2)) : FnOk P w K mg base CX0 (k + 1) f fd ["name", "needs", "bars"] (spChoiceG K) := by
  refine F.ok scChoice (fun vs H Q E h => ?_) (fun cdv A outer s H vs Q E hr h => ?_)
  · obtain ⟨z, x2, x3, n2, n3, rfl, _⟩ := h
    rfl
  obtain ⟨z, x2, x3, n2, n3, rfl, hz, h2, h3, q⟩ := h
  refine ⟨_, PSs.nox (pss_cons (ps_if (pt_not (pt_val (pe_call G1 hr (by rfl) m1 k1 b1 .nil pass0 (pa_cons (pv 0) pa_nil)))) pss_never pss_nil)
    (pss_one (ps_ret (pe_call G2 hr (by rfl) m2 k2 b2 .nil pass0 (pa_cons (pe_tup (pa_cons (pv 0) pa_nil)) (pa_cons (pv 1) (pa_cons (pv 2) (pa_cons (pe_tup (pa_cons (pv 0) pa_nil)) pa_nil)))))))), ?_⟩
  refine ⟨.str z, rfl, .str z, .str z, rfl, .str _, oddN_name hz, fun H1 s1 => ⟨nameB z, rfl, ?_⟩⟩
  rw [hz]
  refine iteF ?_
  refine ⟨.str z, rfl, by show 1 ≤ sizeLine; decide, fun t ht => ?_⟩
  have s2 := same_new ht (.tup [.str z])
  refine ⟨x2, rfl, x3, rfl, .str z, rfl, by show 1 ≤ sizeLine; decide, fun u hu => ?_⟩
  have s3 := same_new hu (.tup [.str z])
  have s13 := s1.trans (s2.trans s3)
  have ok1 : ∀ x ∈ ([z] : W), nameB x = true := fun x hx => by rw [List.mem_singleton.mp hx]; exact hz
  have one : ∀ zs, WOf [z] zs → zs = [z] := fun zs h => h.one ⟨(isW_one hz).up, fun _ => Iff.rfl⟩
  exact ⟨.ref t, x2, x3, .ref u, [z], n2, n3, [z], rfl, ⟨⟨t, rfl, .inr (same_tup s3 (SqT.of upd_same))⟩, ok1, by show 1 < 1000; decide⟩, h2.same s13, h3.same s13, ⟨⟨u, rfl, .inr (SqT.of upd_same)⟩, ok1, by show 1 < 1000; decide⟩,
    fun H' v r s4 hv w1 w4 w2 w3 => q H' v r (s13.trans s4) hv (one _ w1) (one _ w4) w2 w3⟩
end
end Rw
namespace Rw
open PySem PySem.Spec PyProof.Rows L2
/-! ### Program.facts, in -/
abbrev sFacts : Stmt := inClass (topS 16) 2
theorem scFacts : FnScope ["cls", "world", "rows", "name"] ["cls", "world"] (defScope sFacts) := ⟨rfl, rfl, rfl, by decide +kernel, rfl, by decide +kernel, by decide +kernel⟩
theorem hu65 {k : Nat} {A : Around} (r : Room k A) : A.units + 65 < cLine := by have := r.un; omega
def fact (z : Str) : Rl := ([z], [], [], [])
theorem isR_fact {z : Str} (h : nameB z = true) : IsR (fact z) := ⟨isW_one h, isW_nil, isW_nil, isW_nil⟩
section
variable {X : Cx}
/-- x in y, y a tuple of data -/
def rInDT (K : PySem.W.Frag) : R2 := fun x y H Q => ∃ d ds, Dp K H x d ∧ Dp K H y (.tuple ds) ∧ SeqAt.shaped d = true ∧ SeqAt.shaped (.tuple ds) = true ∧ Q (.bl (ds.any fun z => PyData.eqv z d)) H
theorem op_inDT (hu : X.A.units + 65 < cLine) : OpR X (compareOp .In) (rInDT X.K) := by
  intro pins s σ H x y v u Q I rx ry h
  obtain ⟨d, ds, hd, he, sd, se, q⟩ := h
  obtain ⟨as, r1⟩ := Dp.reads I d x v hd rx
  obtain ⟨bs, r2⟩ := Dp.reads I (.tuple ds) y u he ry
  exact SeqAt.in_tuple_reads r2 r1 (SeqAt.canLay_of_shaped se) (SeqAt.canLay_of_shaped sd) (room_in_shaped sd hu) ⟨.bl _, H, I, rfl, q⟩
end
section
variable {P : Program} {w : World} {K : PySem.W.Frag} {mg : Str → Option Value} {base : Heap} {f : Addr} {fd : FuncData} {k : Nat}
def spFacts (K : PySem.W.Frag) (C : Addr) : Sp := fun vs H Q _ => ∃ (x : V) (ws : W), vs = [.ref C, x] ∧ Dp K H x (wd ws) ∧ IsW ws ∧ ∀ H' v S, Same H H' → Srt S (ws.map fact) → S.length < 64 → PgAt K C H' v S → Q v H'
theorem ok_facts {C fI f1 f2 e1 e2 e3 : Addr} {fd1 fd2 : FuncData} {ds2 : List Value} (F : Fun K "facts" "Program.facts" sFacts f fd) (M : Mk K C fI) (GI : FnR P w K mg base CX0 k fI (spInit K C))
    (G1 : FnOk P w K mg base CX0 (k + 1) f1 fd1 ["thing"] (spIsWorld K)) (b1 : Binds K fd1 ["thing"] []) (k1 : PySem.W.keepIn K (.ref f1) = true) (m1 : mg "is_world" = some (.ref f1))
    (G2 : FnOk P w K mg base CX0 (k + 1) f2 fd2 ["heads", "needs", "bars", "denied"] (spRuleG K)) (b2 : Binds K fd2 ["heads", "needs", "bars", "denied"] ds2) (v2 : Vals [V.ref e1, V.ref e2, V.ref e3] ds2) (k2 : PySem.W.keepIn K (.ref f2) = true) (m2 : mg "rule" = some (.ref f2))
    (n1 : ∀ H, SqT K H e1 []) (n2 : ∀ H, SqT K H e2 []) (n3 : ∀ H, SqT K H e3 []) : FnOk P w K mg base CX0 (k + 2) f fd ["cls", "world"] (spFacts K C) := by
  refine F.ok scFacts (fun vs H Q E h => ?_) (fun cdv A outer s H vs Q E hr h => ?_)
  · obtain ⟨x, ws, rfl, _⟩ := h
    rfl
  obtain ⟨x, ws, rfl, hx, hw, q⟩ := h
  obtain ⟨a, rfl, hT⟩ := of_wd hx
  refine ⟨_, pss_cons (ps_if (pt_not (pt_val (pe_call G1 hr (by rfl) m1 k1 b1 .nil pass0 (pa_cons (pv 1) pa_nil)))) pss_never pss_nil)
    (pss_cons (ps_setLc (i := 2) (own := [("name", 3)]) (g := gName 3) (by rfl) scFacts.nd rfl rfl (sw_true rfl rfl rfl (by decide +kernel)) (pi_tup (pv 1)) (blkOk_by (N := ["cls", "world", "rows", "name"]) (sc := defScope sFacts) (by decide +kernel))
        (fun _ _ _ _ _ => pg_name (i := 3) scFacts.nd rfl (Or.inl rfl)) (fun _ _ _ _ _ => pts_nil) (fun _ _ _ _ _ => pe_call G2 hr (by rfl) m2 k2 b2 v2 pass0 (pa_cons (pe_tup (pa_cons (pv 3) pa_nil)) pa_nil)))
    (pss_one (ps_ret (pe_makeSL (i := 0) M GI hr rfl (.inl rfl) pass0 (pv 2))))), ?_⟩
  refine ⟨.ref a, rfl, .ref a, wd ws, rfl, hx, oddW_wd hw, fun H1 s1 => ⟨worldD (wd ws), rfl, ?_⟩⟩
  rw [worldD_wd hw]
  refine iteF ?_
  have few := hw.few
  refine ⟨.ref a, rfl, a, rfl, ⟨_, same_tup s1 hT⟩, fun D hD => ?_⟩
  refine lc_tup (xs := ws.map V.str) (fun i H2 => Same H1 H2 ∧ ∃ zs, H2 D = some (.lst zs) ∧ DpAll K H2 zs ((ws.take i).map fun z => rd (fact z))) ⟨same_new hD _, [], upd_same, .nil⟩ (fun i H2 _ hI => same_tup (s1.trans hI.1) hT) (fun i x H2 hx hI => ?_) (fun H2 hI => ?_)
  · obtain ⟨sm, zs, hd, hzs⟩ := hI
    obtain ⟨z, hz, rfl⟩ := map_at hx
    have nz := hw.names z (List.mem_of_getElem? hz)
    have il : i < ws.length := (List.getElem?_eq_some_iff.mp hz).1
    refine ⟨rfl, .str z, rfl, by show 1 ≤ sizeLine; decide, fun u hu => ?_⟩
    have su := same_new hu (.tup [.str z])
    have e0 : ∀ (e : Addr) H', (∀ H, SqT K H e []) → NsOk K H' (.ref e) [] := fun e H' h => ⟨⟨e, rfl, .inr (h H')⟩, (fun _ z => nomatch z), by decide⟩
    refine ⟨.ref u, .ref e1, .ref e2, .ref e3, [z], [], [], [], rfl, ⟨⟨u, rfl, .inr (SqT.of upd_same)⟩, (fun y hy => by rw [List.mem_singleton.mp hy]; exact nz), by show 1 < 1000; decide⟩, e0 e1 _ n1, e0 e2 _ n2, e0 e3 _ n3, fun H3 v r s3 hv w1 w4 w2 w3 => ?_⟩
    have er : r = fact z := by
      obtain ⟨r1, r2, r3, r4⟩ := r
      have z1 : r1 = [z] := w1.one ⟨(isW_one nz).up, fun _ => Iff.rfl⟩
      have z2 : r2 = [] := w4.one ⟨List.Pairwise.nil, fun _ => Iff.rfl⟩
      have z3 : r3 = [] := w2.one ⟨List.Pairwise.nil, fun _ => Iff.rfl⟩
      have z4 : r4 = [] := w3.one ⟨List.Pairwise.nil, fun _ => Iff.rfl⟩
      subst z1 z2 z3 z4
      rfl
    subst er
    have s23 := su.trans s3
    have hd3 := s23 _ _ hd
    have m3 : Mut (H3 D) := by
      rw [hd3]
      exact True.intro
    have st := Stay.put m3 (.lst (zs ++ [v]))
    refine ⟨zs, hd3, small_line' (by rw [dpAll_len hzs, List.length_map, List.length_take]; omega), same_put (sm.trans s23) hD, zs ++ [v], upd_same, ?_⟩
    rw [take_snoc hz, List.map_append]
    refine dps_app12 (.cons (st.rd hv) .nil) (((Stay.same s23).trans st).dpAll _ _ (okDs_all fun d hd => ?_) hzs)
    obtain ⟨y, _, rfl⟩ := List.mem_map.mp hd
    exact ok_rd _
  · obtain ⟨sm, zs, hd, hzs⟩ := hI
    rw [List.length_map, List.take_length, show (fun z => rd (fact z)) = rd ∘ fact from rfl, ← List.map_map] at hzs
    refine ⟨rfl, .ref D, rfl, D, zs, rfl, .inr (SqL.of hd), made_ok hzs (fun r hr => ?_) (by rw [List.length_map]; omega) fun H3 v S s3 => q H3 v S (s1.trans (sm.trans s3))⟩
    obtain ⟨z, hz, rfl⟩ := List.mem_map.mp hr
    exact isR_fact (hw.names z hz)
/-- thing in one -/
def spContains (K : PySem.W.Frag) (C : Addr) : Sp := fun vs H Q _ => ∃ (x y : V) (S : List Rl) (d : PyData), vs = [x, y] ∧ PgAt K C H x S ∧ (∀ r ∈ S, IsR r) ∧ Dp K H y d ∧ SeqAt.shaped d = true ∧ Q (.bl ((S.map rd).any fun z => PyData.eqv z d)) H
theorem ok_contains {C : Addr} (F : Fun K "__contains__" "Program.__contains__" sContains f fd) (c : Cls K C) (n : NoAttr K C "_rules") : FnOk P w K mg base CX0 (k + 1) f fd ["self", "thing"] (spContains K C) := by
  refine F.ok scContains (fun vs H Q E h => ?_) (fun cdv A outer s H vs Q E hr h => ?_)
  · obtain ⟨x, y, S, d, rfl, _⟩ := h
    rfl
  obtain ⟨x, y, S, d, rfl, ⟨a, dx, t, ys, rfl, h1, h2, h3⟩, hI, hy, sh, q⟩ := h
  refine ⟨_, pss_one (ps_ret (pe_cmpR (op_inDT (hu65 hr)) (pv 1) (pe_fld (pv 0) rfl) (by rfl))), ?_⟩
  exact ⟨y, rfl, .ref a, rfl, a, C, dx, _, .ref t, rfl, h1, c, n, rfl, d, S.map rd, hy, .tup h2 h3, sh, shaped_rdT hI, q⟩
end
end Rw
namespace Rw
open PySem PySem.Spec PyProof.Rows L2
/-! ### a table of sixteen slots, filled anew -/
theorem all15 : ((List.range 16).all fun i => (List.range 16).all fun j => (List.range 16).any fun k => lcgI 15 i k == j) = true := by decide +kernel
theorem meets15 (h : Int) {j : Nat} (hj : j ≤ 15) : ∃ n, n ≤ 27 ∧ runI 15 (SetTable.bits h) n = j := by
  have hi := runI_le 15 (SetTable.bits h) 12
  have a1 := List.all_eq_true.mp all15 (runI 15 (SetTable.bits h) 12) (List.mem_range.mpr (by omega))
  have a2 := List.all_eq_true.mp a1 j (List.mem_range.mpr (by omega))
  obtain ⟨k, hk, e⟩ := List.any_eq_true.mp a2
  have kl := List.mem_range.mp hk
  refine ⟨12 + k, by omega, ?_⟩
  rw [runI_tail (bits_lt h)]
  exact beq_iff_eq.mp e
theorem way15_le (h : Int) (k : Nat) : way 15 h k ≤ 15 := by
  have h0 : SetTable.bits h % (15 + 1) ≤ 15 := by omega
  have z := nth_in (m := 15) k (runAt 15 (SetTable.bits h % (15 + 1)) (SetTable.bits h)) (by
    have := runEnd_bd h0
    show SetTable.bits h % (15 + 1) + (SetTable.runEnd 15 (SetTable.bits h % (15 + 1)) - SetTable.bits h % (15 + 1)) ≤ 15
    omega)
  show (nth 15 (runAt 15 (SetTable.bits h % (15 + 1)) (SetTable.bits h)) k).j ≤ 15
  omega
theorem free15 (owner : Array (Option Nat)) (h : Int) {j : Nat} (hj : j ≤ 15) (hf : oAt owner j = none) :
    ∃ i, SetTable.layClean.free 15 owner (SetTable.turns 15) (SetTable.bits h % (15 + 1)) (SetTable.bits h) = some i ∧ i ≤ 15 ∧ oAt owner i = none := by
  obtain ⟨n, hn, e⟩ := meets15 h hj
  have here : oAt owner (way 15 h (off 15 (SetTable.bits h % (15 + 1)) (SetTable.bits h) n)) = none := by
    have z : way 15 h (off 15 (SetTable.bits h % (15 + 1)) (SetTable.bits h) n) = j := by
      unfold way
      rw [nth_off, itL_run]
      exact e
    rw [z, hf]
  obtain ⟨K, k1, k2, k3⟩ := st_least (p := fun k => oAt owner (way 15 h k) = none) _ here
  refine ⟨way 15 h K, free_spec 15 owner _ n _ _ K (by show n < 30; omega) k1 (fun k hk => ?_) ?_, way15_le h K, k2⟩
  · rw [Option.isNone_eq_false_iff, Option.isSome_iff_ne_none]
    exact k3 k hk
  · rw [Option.isNone_iff_eq_none]
    exact k2
/-- n keys sit in sixteen slots -/
structure Sit (n : Nat) (owner : Array (Option Nat)) : Prop where
  sz : owner.size = 16
  all : ∀ k, k < n → ∃ j, j ≤ 15 ∧ oAt owner j = some k
  ps : ∃ ps : List Nat, ps.length = n ∧ ∀ j, j ≤ 15 → oAt owner j ≠ none → j ∈ ps
theorem Sit.fold : ∀ (rest : List Int) (n : Nat) (owner : Array (Option Nat)), Sit n owner → n + rest.length ≤ 15 →
    ∃ o2, rest.foldl (stepF 15) (some (owner, n)) = some (o2, n + rest.length) ∧ Sit (n + rest.length) o2
  | [], n, owner, W, _ => ⟨owner, rfl, W⟩
  | h :: rest, n, owner, W, hl => by
    rw [List.length_cons] at hl
    obtain ⟨ps, p1, p2⟩ := W.ps
    obtain ⟨j0, b0, n0⟩ := st_missing ps 16 (by omega)
    have f0 : oAt owner j0 = none := Classical.byContradiction fun z => n0 (p2 j0 (by omega) z)
    obtain ⟨i, e, il, fi⟩ := free15 owner h (j := j0) (by omega) f0
    have self := oAt_set_self (owner := owner) (some n) (show i < owner.size by rw [W.sz]; omega)
    have W2 : Sit (n + 1) (owner.setIfInBounds i (some n)) := by
      refine ⟨by rw [Array.size_setIfInBounds, W.sz], fun k hk => ?_, i :: ps, by rw [List.length_cons, p1], fun j hj hne => ?_⟩
      · rcases Nat.lt_or_ge k n with c | c
        · obtain ⟨j, hj, ej⟩ := W.all k c
          have ne : j ≠ i := fun z => by
            rw [z, fi] at ej
            exact nomatch ej
          exact ⟨j, hj, by rw [oAt_set_ne _ ne, ej]⟩
        · obtain rfl : k = n := by omega
          exact ⟨i, il, self⟩
      · by_cases c : j = i
        · rw [c]
          exact List.mem_cons_self
        · rw [oAt_set_ne _ c] at hne
          exact List.mem_cons_of_mem _ (p2 j hj hne)
    obtain ⟨o2, g1, g2⟩ := Sit.fold rest (n + 1) _ W2 (by omega)
    rw [show n + (h :: rest).length = n + 1 + rest.length by rw [List.length_cons]; omega]
    refine ⟨o2, ?_, g2⟩
    rw [List.foldl_cons, stepF_some e]
    exact g1
theorem laid15 (finger moves : Nat) (led plain : Bool) {hs : Array Int} (hn : hs.size ≤ 15) : ∃ t order, SetTable.laid 15 finger moves led plain hs = some (t, order) ∧ order.toList.Perm (List.range hs.size) ∧ Ris t.place.toList ∧ t.place.size = hs.size ∧ t.mask = 15 ∧ t.led = led ∧ t.dummies = #[] := by
  have init : Sit 0 (Array.replicate 16 none) := ⟨by simp, (fun k hk => absurd hk (Nat.not_lt_zero _)), [], rfl, fun j hj e => absurd (oAt_init (m := 15) hj) e⟩
  obtain ⟨owner, f, W⟩ := Sit.fold hs.toList 0 _ init (by rw [Array.length_toList]; omega)
  have lc : SetTable.layClean 15 hs = some owner := by
    rw [layClean_eq]
    show Option.map _ (hs.toList.foldl (stepF 15) (some (Array.replicate 16 none, 0))) = _
    rw [f]
    rfl
  rw [Nat.zero_add, Array.length_toList] at W
  have e : SetTable.laid 15 finger moves led plain hs = some ({ mask := 15, place := ((liveOf 15 owner).map (·.1)).toArray, dummies := #[], finger, led, moves, plain }, ((liveOf 15 owner).map (·.2)).toArray) := by
    unfold SetTable.laid
    rw [lc]
    rfl
  have sz : owner.size = 15 + 1 := W.sz
  have rl := ris_live (fun j => owner.getD j none) (List.range 16) (by
    unfold Ris
    exact List.pairwise_lt_range)
  have r1 : Ris ((liveOf 15 owner).map (·.1)) := rl.1
  have hlen : (liveOf 15 owner).length = hs.size := by
    obtain ⟨ps, p1, p2⟩ := W.ps
    have nd : ((liveOf 15 owner).map (·.1)).Nodup := List.Pairwise.imp (fun h => Nat.ne_of_lt h) r1
    have a := nat_nodup_len ((liveOf 15 owner).map (·.1)) ps nd fun x hx => by
      obtain ⟨⟨y, k⟩, hq, rfl⟩ := List.mem_map.mp hx
      obtain ⟨b1, b2⟩ := (mem_live sz).1 hq
      exact p2 y b1 (by rw [b2]; exact fun z => nomatch z)
    have b := nat_nodup_len (List.range hs.size) ((liveOf 15 owner).map (·.2)) List.nodup_range fun k hk => by
      obtain ⟨j, b1, b2⟩ := W.all k (List.mem_range.mp hk)
      exact List.mem_map.mpr ⟨(j, k), (mem_live sz).2 ⟨b1, b2⟩, rfl⟩
    rw [List.length_map, p1] at a
    rw [List.length_map, List.length_range] at b
    omega
  refine ⟨_, _, e, ?_, r1, by rw [List.size_toArray, List.length_map, hlen], rfl, rfl, rfl⟩
  refine perm_range hs.size _ (by show ((liveOf 15 owner).map (·.2)).length = _; rw [List.length_map, hlen]) fun k hk => ?_
  obtain ⟨j, b1, b2⟩ := W.all k hk
  exact List.mem_map.mpr ⟨(j, k), (mem_live sz).2 ⟨b1, b2⟩, rfl⟩
end Rw
namespace Rw
open PySem PySem.Spec PyProof.Rows L2
/-! ### a set walked at once, and asked for a key -/
section
variable {P : Program} {w : World} {A : Around} {E : Value → Shared → Prop} {s : Shared} {a : Addr} {L : List (Addr × NK)} {es : Array (Int × Value)} {ep : Nat} {t : SetTable}
theorem walk_perm {o : Obj} (ho : s.heap.get? a = some o) (hd : o.data = .set es ep t) (hf : t.fits es.size = true) (hl : w.params.followText "set-order" = true ∨ t.led = true) {Q : Array (Int × Value) → Shared → Prop}
    (hQ : ∀ out d, out.toList.Perm es.toList → Q out { s with drawn := d }) : wpAny (model P w) A (setWalk a) Q E s := by
  unfold setWalk
  refine wpAny_bind (wpAny_setState_of ho hd hf ?_)
  dsimp only
  refine wpAny_bind (wpAny_byText ?_)
  by_cases bt : w.params.followText "set-order" = true
  · refine wp_if_pos bt ?_
    exact wpAny_bind (wpAny_askSetting (wpAny_pure (hQ _ s.drawn (pick_perm _ es))))
  · refine wp_if_neg bt ?_
    have led : t.led = true := hl.resolve_left bt
    by_cases dr : (!t.plain && decide (es.size > 1)) = true
    · first
        | refine wp_if_pos dr ?_
        | refine wpAny_bind (wp_if_pos dr ?_)
      exact wpAny_bind (drawOrder_at _ _ s _ (by rw [Array.length_toList]; exact Nat.le_refl _) fun ys d p => wpAny_pure (hQ _ d p))
    · first
        | refine wp_if_neg dr ?_
        | refine wpAny_bind (wp_if_neg dr ?_)
      refine wpAny_bind (wpAny_of_eq (a := ()) ?_ ?_)
      · show (if (!t.led && decide (es.size > 1)) = true then unsupported "set:maker-not-led" else pure ()) = pure ()
        rw [led]
        rfl
      · exact wpAny_pure (hQ es s.drawn (List.Perm.refl _))
/-- the sets are not quiet: the first has a tuple -/
theorem not_quiet (R : TSet P w s.heap a L es ep t) {p : Addr × NK} {L' : List (Addr × NK)} (hL : L = p :: L') {others : List Addr} (hp : ∃ o xs n, s.heap.get? p.1 = some o ∧ o.cls = .type "tuple" ∧ o.data = .seq xs n) {Q : Bool → Shared → Prop} (hQ : Q false s) :
    wpAny (model P w) A (setsQuiet (a :: others)) Q E s := by
  obtain ⟨o, ho, hex, hd⟩ := R.ob
  obtain ⟨u, xs, n, hu, hc, _⟩ := hp
  have e0 : es.toList = (p.2.hash w, Value.ref p.1) :: ents w L' := by
    rw [R.en, hL]
    rfl
  unfold setsQuiet
  refine wpAny_bind ?_
  rw [List.forIn_cons]
  refine wpAny_bind ?_
  refine wpAny_bind (wpAny_setEntries_of ho hd R.fits ?_)
  refine wpAny_bind ?_
  rw [← Array.forIn_toList, e0, List.forIn_cons]
  refine wpAny_bind ?_
  dsimp only
  refine wpAny_bind (wpAny_specialOf (T := "tuple") ⟨u, hu, hc⟩ F.slot_tuple_eq.lookup ?_)
  refine wp_if_pos (by decide) ?_
  refine wpAny_pure ?_
  refine wpAny_pure ?_
  refine wpAny_pure ?_
  exact wpAny_pure (wpAny_pure hQ)
theorem nested_tup {h : Heap} {k : NK} {b : Addr} (x : NestedIs h k (.ref b)) : ∃ o xs n, h.get? b = some o ∧ o.cls = .type "tuple" ∧ o.data = .seq xs n := by
  cases x with
  | tup h1 h2 h3 h4 => exact ⟨_, _, _, h1, h2, h3⟩
theorem unseen_perm (R : TSet P w s.heap a L es ep t) {others : List Addr} {filled : Option Addr} {Q : Array (Int × Value) → Shared → Prop}
    (hQ : ∀ out d, out.toList.Perm es.toList → Q out { s with drawn := d }) : wpAny (model P w) A (setWalkUnseen a others filled) Q E s := by
  obtain ⟨o, ho, hex, hd⟩ := R.ob
  have wk := walk_perm (A := A) (E := E) (P := P) ho hd R.fits R.led hQ
  unfold setWalkUnseen
  refine wpAny_bind (wpAny_setState_of ho hd R.fits ?_)
  dsimp only
  refine wpAny_bind (wpAny_byText ?_)
  by_cases c : (w.params.followText "set-order" || (t.led && t.plain) || decide (es.size ≤ 1)) = true
  · refine wp_if_pos c ?_
    first
      | exact wk
      | exact wpAny_bind (wpAny_mono wk (fun _ _ h => wpAny_pure h) fun _ _ h => h)
  · refine wp_if_neg c ?_
    have many : ¬ es.size ≤ 1 := fun z => c (by rw [decide_eq_true z, Bool.or_true])
    have sz := size_of_ents R.en
    obtain ⟨p, L', hL⟩ : ∃ p L', L = p :: L' := by
      cases L with
      | nil => exact absurd (by rw [sz]; decide) many
      | cons p L' => exact ⟨p, L', rfl⟩
    have pk := R.ks p (by rw [hL]; exact List.mem_cons_self)
    refine wpAny_bind (not_quiet R hL (nested_tup pk.1) ?_)
    refine wp_if_pos (by decide) ?_
    first
      | exact wk
      | exact wpAny_bind (wpAny_mono wk (fun _ _ h => wpAny_pure h) fun _ _ h => h)
/-! the search that adds nothing -/
theorem seek (R : TSet P w s.heap a L es ep t) {x : Addr} {k : NK} (hx : TupK s.heap k x) (hu : A.units + 8 < cLine) {g : Int} (hg : g = k.hash w) {K : Nat} (hf : K < 10 * SetTable.turns t.mask)
    (free : way t.mask g K ∉ t.place.toList) (full : ∀ c, c < K → way t.mask g c ∈ t.place.toList) {Q : SetFound → Shared → Prop}
    (yes : ∀ i, k ∈ L.map (·.2) → Q (.there (some i)) s) (no : k ∉ L.map (·.2) → Q (.free (way t.mask g K) false) s) :
    ∀ (f c : Nat) (stand : Option SetTable.Probe), stand.getD (t.probeStart g) = st t.mask g c → c ≤ K → K - c < f →
      (∀ (i : Nat) p, L[i]? = some p → p.2 = k → ∃ c', c ≤ c' ∧ c' < K ∧ t.place.toList[i]? = some (way t.mask g c')) →
      wpAny (model P w) A (setSearchFrom a (.ref x) g false f stand) Q E s
  | 0, c, stand, _, _, h, _ => absurd h (Nat.not_lt_zero _)
  | f + 1, c, stand, hst, hc, hlt, ahead => by
    obtain ⟨o, ho, hex, hd⟩ := R.ob
    have big := R.fits
    have hashOf : ∀ (i : Nat) p, L[i]? = some p → (es[i]?.map (·.1)).getD 0 = p.2.hash w := fun i p hp => by
      rw [R.at hp]
      rfl
    have oddM := mask_odd R.tab.mok
    rw [setSearchFrom_succ]
    refine wpAny_bind (wpAny_setState_of ho hd big ?_)
    dsimp only
    refine wp_if_neg (by unfold SetTable.gaveWay; rw [oddM]; decide) ?_
    try refine wpAny_bind (wpAny_pure ?_)
    have jAt : ∀ q, (nth t.mask (st t.mask g c) q).j = way t.mask g (c + q) := fun q => congrArg SetTable.Probe.j (st_more t.mask g c q)
    rcases go_spec t R.tab.ris R.tab.dm (fun i => (es[i]?.map (·.1)).getD 0) g (10 * SetTable.turns t.mask) (K - c) (st t.mask g c) (st_dummy _ _ _) (by omega)
      (fun q hq => by rw [jAt]; exact full (c + q) (by omega)) (by rw [jAt, show c + (K - c) = K by omega]; exact free) with ⟨q, i, hq, hi, hh, first, met⟩ | ⟨none_, met⟩
    · have met' : t.probe (fun i => (es[i]?.map (·.1)).getD 0) g (stand.getD (t.probeStart g)) = some (.candidate (way t.mask g (c + q)) i (st t.mask g (c + (q + 1)))) := by
        rw [hst, ← jAt, ← st_more]
        exact met
      rw [met']
      dsimp only
      rw [jAt] at hi
      have il : i < L.length := by
        have z1 : i < t.place.toList.length := (List.getElem?_eq_some_iff.mp hi).1
        have z2 := R.tab.sz
        rw [hashes_len] at z2
        rw [Array.length_toList] at z1
        omega
      obtain ⟨p, hp⟩ : ∃ p, L[i]? = some p := ⟨L[i], List.getElem?_eq_getElem il⟩
      have pm : p ∈ L := List.mem_of_getElem? hp
      have pk := R.ks p pm
      have go : wpAny (model P w) A (searchRest a (.ref x) g false f es t (way t.mask g (c + q)) i (st t.mask g (c + (q + 1)))) Q E s := by
        unfold searchRest
        rw [R.at hp]
        dsimp only
        refine wpAny_bind (wpAny_holding ((nestedKind P w).eqBool (x := p.2) (y := k) hu pk hx ?_))
        refine wpAny_bind (wpAny_setState_of ho hd big ?_)
        dsimp only
        refine wp_if_neg (by simp) ?_
        try refine wpAny_bind (wpAny_pure ?_)
        rw [sameMem]
        dsimp only
        have live : t.slot (way t.mask g (c + q)) = .live i := slot_live R.tab.ris hi
        simp only [if_true, live, R.at hp]
        refine wpAny_bind (wpAny_isSame_ref_self (wpAny_bind (wpAny_pure ?_)))
        simp only [if_true]
        by_cases same : p.2 = k
        · refine wp_if_pos (by simp [same]) (wpAny_pure (yes i ?_))
          exact List.mem_map.mpr ⟨p, pm, same⟩
        · refine wp_if_neg (by simp [same]) ?_
          refine seek R hx hu hg hf free full yes no f (c + (q + 1)) _ rfl (by omega) (by omega) fun i0 p0 h0 k0 => ?_
          obtain ⟨c', b1, b2, b3⟩ := ahead i0 p0 h0 k0
          refine ⟨c', ?_, b2, b3⟩
          by_cases ec : c' = c + q
          · exfalso
            rw [ec] at b3
            have l0 := slot_live R.tab.ris b3
            rw [live] at l0
            injection l0 with l0
            rw [← l0, hp] at h0
            exact same ((congrArg Prod.snd (Option.some.inj h0)).trans k0)
          · by_cases lt : c' < c + q
            · exfalso
              refine first (c' - c) i0 (by omega) (by rw [jAt, show c + (c' - c) = c' by omega]; exact b3) ?_
              show (es[i0]?.map (·.1)).getD 0 = g
              rw [hashOf i0 p0 h0, k0, hg]
            · omega
      by_cases hl : t.led = true
      · refine wp_if_neg (by simp [hl]) ?_
        try refine wpAny_bind (wpAny_pure ?_)
        exact go
      · refine wp_if_pos (by simp [hl]) (wpAny_bind (unseen hx (fun y hy => ?_) ?_))
        · obtain ⟨e, he, ee⟩ := List.mem_map.mp hy
          have he1 : e ∈ es ∧ e.1 = g := by simpa using he
          have he2 : e ∈ es.toList := by simpa using he1.1
          rw [R.en] at he2
          obtain ⟨p2, hp2, e2⟩ := List.mem_map.mp he2
          exact ⟨p2.2, p2.1, by rw [← ee, ← e2], R.ks p2 hp2⟩
        · refine wp_if_neg (by decide) ?_
          try refine wpAny_bind (wpAny_pure ?_)
          exact go
    · have met' : t.probe (fun i => (es[i]?.map (·.1)).getD 0) g (stand.getD (t.probeStart g)) = some (.empty (way t.mask g K) none) := by
        have e2 : way t.mask g K = (nth t.mask (st t.mask g c) (K - c)).j := by
          rw [jAt, show c + (K - c) = K by omega]
        rw [hst, e2]
        exact met
      rw [met']
      dsimp only
      refine wpAny_pure (no fun hm => ?_)
      obtain ⟨p0, m0, k0⟩ := List.mem_map.mp hm
      obtain ⟨i0, hi0, e0⟩ := List.getElem_of_mem m0
      have h0 : L[i0]? = some p0 := by rw [List.getElem?_eq_getElem hi0, e0]
      obtain ⟨c', b1, b2, b3⟩ := ahead i0 p0 h0 k0
      refine none_ (c' - c) i0 (by omega) (by rw [jAt, show c + (c' - c) = c' by omega]; exact b3) ?_
      show (es[i0]?.map (·.1)).getD 0 = g
      rw [hashOf i0 p0 h0, k0, hg]
theorem sought (R : TSet P w s.heap a L es ep t) {x : Addr} {k : NK} (hx : TupK s.heap k x) (hu : A.units + 8 < cLine) {Q : Option Nat → Shared → Prop} (h : ∀ r : Option Nat, r.isSome = decide (k ∈ L.map (·.2)) → Q r s) :
    wpAny (model P w) A (setFind a (.ref x) (k.hash w)) Q E s := by
  obtain ⟨o, ho, hex, hd⟩ := R.ob
  have space := R.room
  obtain ⟨K, kf, free, full⟩ := R.tab.first (by rw [hashes_len]; omega) (k.hash w)
  have small : K < 100000 := by
    have : 10 * SetTable.turns t.mask ≤ 1420 := by
      unfold SetTable.turns
      rcases R.tab.mok with e | e | e <;> omega
    omega
  unfold setFind
  show wpAny (model P w) A (setState a >>= _) Q E s
  refine wpAny_bind (wpAny_setState_of ho hd R.fits ?_)
  dsimp only
  refine wp_if_neg (by simp [byScan, Value.scannable]) ?_
  try refine wpAny_bind (wpAny_pure ?_)
  unfold setSearch
  refine wpAny_bind (seek R hx hu rfl kf free full (fun i hm => ?_) (fun hn => ?_) 100000 0 none rfl (Nat.zero_le _) (by omega) fun i p hp hk => ?_)
  · exact wpAny_pure (h (some i) (by rw [decide_eq_true hm]; rfl))
  · exact wpAny_pure (h none (by rw [decide_eq_false hn]; rfl))
  · have hi : (hashes w L)[i]? = some (k.hash w) := by
      unfold hashes
      rw [List.getElem?_map, hp, ← hk]
      rfl
    have il : i < t.place.toList.length := by
      have z1 : i < L.length := (List.getElem?_eq_some_iff.mp hp).1
      have z2 := R.tab.sz
      rw [hashes_len] at z2
      rw [Array.length_toList]
      omega
    have hj := List.getElem?_eq_getElem il
    obtain ⟨c, hc, e⟩ := R.tab.before free hi hj
    exact ⟨c, Nat.zero_le _, hc, by rw [hj, e]⟩
end
end Rw
namespace Rw
open PySem PySem.Spec PyProof.Rows L2 Builtin.Frozenset
/-! ### set - set -/
theorem entry_set_sub : entryFor table "set.__sub__" = some Builtin.«frozenset.__sub__» :=
  entryFor_alias (id' := "frozenset.__sub__") (by kernel_rfl) rfl (by decide +kernel) (by kernel_rfl)
section
variable {P : Program} {w : World} {A : Around} {E : Value → Shared → Prop} {s : Shared} {a : Addr} {L : List (Addr × NK)} {es : Array (Int × Value)} {ep : Nat} {t : SetTable}
theorem any_set {Q : Bool → Shared → Prop} (hT : s.TypeIs (.ref a) "set") (h : Q true s) : wpAny (model P w) A (isAnySet (.ref a)) Q E s := by
  unfold isAnySet orM
  refine wpAny_bind (wpAny_isInstance (b := true) hT sub_set_self ?_)
  exact wpAny_pure h
theorem size_of {o : Obj} (ho : s.heap.get? a = some o) (hd : o.data = .set es ep t) (hf : t.fits es.size = true) {Q : Nat → Shared → Prop} (h : Q es.size s) : wpAny (model P w) A (Builtin.Frozenset.sizeOf a) Q E s := by
  unfold Builtin.Frozenset.sizeOf
  exact wpAny_bind (wpAny_setEntries_of ho hd hf (wpAny_pure h))
theorem base_set {Q : Value → Shared → Prop} (hT : s.TypeIs (.ref a) "set") (h : Q (.type "set") s) : wpAny (model P w) A (baseOf a) Q E s := by
  unfold baseOf
  refine wpAny_bind (wpAny_isInstance (b := true) hT sub_set_self ?_)
  exact wpAny_pure h
theorem new_set {Q : Value → Shared → Prop} (h : Q (.ref s.heap.objs.size) { s with heap := s.heap.push (newSetObj w) }) : wpAny (model P w) A (newSet (.type "set")) Q E s := by
  unfold newSet
  refine wpAny_bind (wpAny_byText ?_)
  dsimp only
  simp only [newObj]
  exact wpAny_bind (wpAny_alloc (wpAny_pure h))
theorem diff_eq (id : String) (s : Addr) (other : Value) : Builtin.Frozenset.difference id s other = (do
    let viaCopy : Sem Value := do
      let r ← copyOf s
      holding [r] (differenceUpdate id (← addrOf r) other)
      return r
    let isSet ← isAnySet other
    if !isSet then
      if (← typeOf other) != .type "dict" then return ← viaCopy
    let o ← addrOf other
    if !isSet && o == sysModules then unsupported "sys.modules:all-start-up-values-wanted"
    let otherSize ← if isSet then Builtin.Frozenset.sizeOf o else pure (← dictEntries o).size
    if (← Builtin.Frozenset.sizeOf s) / 4 > otherSize then rule s!"{id}.much-larger"; return ← viaCopy
    let result ← newSet (← baseOf s)
    let r ← addrOf result
    let was ← setEpoch s
    holding [result] do
      for (h, x) in ← (if isSet then setWalkUnseen s [o, r] (some r) else setWalk s) do
        holding [x] do
          let there ← if isSet then pure (← setFind o x h).isSome else pure (← dictFind o x h).isSome
          if !there then
            let _ ← setAddHashed r x h
        unchanged id s was
    return result) := rfl
/-- entries in another order are entries of the keys in another order -/
theorem ents_perm {L : List (Addr × NK)} {out : List (Int × Value)} (p : out.Perm (ents w L)) : ∃ L2 : List (Addr × NK), out = ents w L2 ∧ L2.Perm L := by
  have key : ∀ {l m : List (Int × Value)}, l.Perm m → ∀ L0, m = ents w L0 → ∃ L2, l = ents w L2 ∧ L2.Perm L0 := by
    intro l m p
    induction p with
    | nil => exact fun L0 e => ⟨L0, e, List.Perm.refl _⟩
    | cons x p ih =>
      intro L0 e
      cases L0 with
      | nil => exact nomatch e
      | cons y L0 =>
        injection e with e1 e2
        obtain ⟨L2, e3, p3⟩ := ih L0 e2
        exact ⟨y :: L2, by rw [e3, e1]; rfl, p3.cons y⟩
    | swap x y l =>
      intro L0 e
      match L0, e with
      | u :: v :: L0, e =>
        injection e with e1 e2
        injection e2 with e2 e3
        exact ⟨v :: u :: L0, by rw [e1, e2, e3]; rfl, List.Perm.swap u v L0⟩
    | trans p q ih1 ih2 =>
      intro L0 e
      obtain ⟨L2, e2, p2⟩ := ih2 L0 e
      obtain ⟨L3, e3, p3⟩ := ih1 L2 e2
      exact ⟨L3, e3, p3.trans p2⟩
  exact key p L rfl
/-- what is not among them -/
def unlike (L M : List (Addr × NK)) : List (Addr × NK) := L.filter fun p => !decide (p.2 ∈ M.map (·.2))
theorem diff_walk {b r : Addr} {Lb : List (Addr × NK)} {eb : Array (Int × Value)} {epb : Nat} {tb : SetTable} {o : Obj} {id : String} {h0 : Heap} {was : Nat}
    (ho0 : h0.get? a = some o) (hd : o.data = .set es ep t) (hf : t.fits es.size = true) (hb0 : TSet P w h0 b Lb eb epb tb) (hk0 : ∀ p ∈ L, TupK h0 p.2 p.1) (hnd : (L.map (·.2)).Nodup) (few : L.length < 64) (hr0 : h0.get? r = none) (hu : A.units + 8 < cLine) (hw : was = ep) :
    ∀ (rest done Lr : List (Addr × NK)) (s : Shared) (er : Array (Int × Value)) (epr : Nat) (tr : SetTable) (Q : PUnit → Shared → Prop), L = done ++ rest → (∀ c u, h0.get? c = some u → s.heap.get? c = some u) → TSet P w s.heap r Lr er epr tr → Lr.Perm (unlike done Lb) →
      (∀ h' Lr er epr tr, (∀ c u, h0.get? c = some u → h'.get? c = some u) → TSet P w h' r Lr er epr tr → Lr.Perm (unlike L Lb) → Q ⟨⟩ { s with heap := h' }) →
      wpAny (model P w) A (forIn (ents w rest) (⟨⟩ : PUnit) fun hx _ => (do
        holding [hx.2] do
          let there ← pure (← setFind b hx.2 hx.1).isSome
          if !there then
            let _ ← setAddHashed r hx.2 hx.1
        unchanged id a was
        pure (ForInStep.yield ⟨⟩))) Q E s
  | [], done, Lr, s, er, epr, tr, Q, e, keep, R, pm, q => by
    rw [List.append_nil] at e
    subst e
    exact wpAny_pure (q s.heap Lr er epr tr keep R pm)
  | (x, k) :: rest, done, Lr, s, er, epr, tr, Q, e, keep, R, pm, q => by
    have hx0 := hk0 (x, k) (by rw [e]; simp)
    have hx : TupK s.heap k x := hx0.kept keep
    have Rb : TSet P w s.heap b Lb eb epb tb := hb0.moved (keep b) fun p hp => (hb0.ks p hp).kept keep
    have ho := keep _ _ ho0
    have e2 : L = (done ++ [(x, k)]) ++ rest := by rw [e, List.append_assoc]; rfl
    have ub : unlike (done ++ [(x, k)]) Lb = unlike done Lb ++ (if k ∈ Lb.map (·.2) then [] else [(x, k)]) := by
      unfold unlike
      rw [List.filter_append]
      congr 1
      by_cases c : k ∈ Lb.map (·.2)
      · rw [if_pos c]
        simp only [List.filter_cons, decide_eq_true c, List.filter_nil]
        rfl
      · rw [if_neg c]
        simp only [List.filter_cons, decide_eq_false c, List.filter_nil]
        rfl
    have last : ∀ {s' : Shared} {Q' : ForInStep PUnit → Shared → Prop}, s'.heap.get? a = some o → Q' (ForInStep.yield ⟨⟩) s' → wpAny (model P w) A (do unchanged id a was; pure (ForInStep.yield ⟨⟩)) Q' E s' := fun {s'} {Q'} ho' hq => by
      unfold unchanged
      refine wpAny_bind (wpAny_bind (wpAny_setEpoch_of ho' hd hf ?_))
      refine wp_if_neg (by rw [hw]; simp) ?_
      exact wpAny_pure (wpAny_pure hq)
    show wpAny (model P w) A (forIn ((k.hash w, Value.ref x) :: ents w rest) _ _) Q E s
    rw [List.forIn_cons]
    refine wpAny_bind ?_
    dsimp only
    refine wpAny_bind (wpAny_holding ?_)
    refine wpAny_bind (sought Rb hx hu fun rr hrr => ?_)
    by_cases c : k ∈ Lb.map (·.2)
    · rw [decide_eq_true c] at hrr
      rw [hrr]
      refine wpAny_bind (wpAny_pure ?_)
      refine wp_if_neg (by decide) ?_
      refine wpAny_pure ?_
      refine last ho ?_
      dsimp only
      rw [if_pos c, List.append_nil] at ub
      exact diff_walk ho0 hd hf hb0 hk0 hnd few hr0 hu hw rest (done ++ [(x, k)]) Lr s er epr tr Q e2 keep R (by rw [ub]; exact pm) q
    · rw [decide_eq_false c] at hrr
      rw [hrr]
      refine wpAny_bind (wpAny_pure ?_)
      refine wp_if_pos (by decide) ?_
      rw [if_neg c] at ub
      have lr : Lr.length + 1 < 64 := by
        have z1 := pm.length_eq
        have z2 : (unlike done Lb).length ≤ done.length := List.length_filter_le _ _
        have z3 : L.length = done.length + (rest.length + 1) := by rw [e, List.length_append, List.length_cons]
        omega
      refine wpAny_bind (added R hx hu lr fun bb h' L' es' ep' t' sb R' c1 c2 => ?_)
      have keep' : ∀ c u, h0.get? c = some u → h'.get? c = some u := fun c u hc => (sb.2 c (fun z => by rw [z, hr0] at hc; exact nomatch hc)).trans (keep c u hc)
      refine wpAny_pure ?_
      refine last (keep' _ _ ho0) ?_
      dsimp only
      have nin : k ∉ Lr.map (·.2) := fun hm => by
        have m2 := ((pm.map (·.2)).mem_iff).mp hm
        obtain ⟨p, hp, ep'⟩ := List.mem_map.mp m2
        have hp1 := (List.mem_filter.mp hp).1
        rw [e, List.map_append, List.map_cons] at hnd
        have := (List.nodup_append.mp hnd).2.2
        exact this p.2 (List.mem_map.mpr ⟨p, hp1, rfl⟩) k List.mem_cons_self ep'
      exact diff_walk ho0 hd hf hb0 hk0 hnd few hr0 hu hw rest (done ++ [(x, k)]) L' { s with heap := h' } es' ep' t' Q e2 keep' R' (by
        rw [ub]
        exact (c2 nin).trans ((pm.cons (x, k)).trans (List.perm_append_singleton (x, k) _).symm)) q
end
end Rw
namespace Rw
open PySem PySem.Spec PyProof.Rows L2 Builtin.Frozenset
section
variable {P : Program} {w : World} {A : Around} {E : Value → Shared → Prop} {s : Shared}
/-- what is sorted afterwards: a set's entries, whatever its table -/
structure SSet (P : Program) (w : World) (h : Heap) (a : Addr) (L : List (Addr × NK)) (es : Array (Int × Value)) (ep : Nat) (t : SetTable) : Prop where
  ob : ∃ o, h.get? a = some o ∧ o.cls = .type "set" ∧ o.data = .set es ep t
  en : es.toList = ents w L
  fit : t.fits es.size = true
  ris : Ris t.place.toList
  led : w.params.followText "set-order" = true ∨ t.led = true
theorem TSet.ss {h : Heap} {a : Addr} {L : List (Addr × NK)} {es : Array (Int × Value)} {ep : Nat} {t : SetTable} {s : Shared} (e : h = s.heap) (R : TSet P w s.heap a L es ep t) : SSet P w h a L es ep t := by
  subst e
  obtain ⟨o, ho, hex, hd⟩ := R.ob
  exact ⟨⟨o, ho, hex.1, hd⟩, R.en, R.fits, R.tab.ris, R.led⟩
/-- the way of a walk -/
theorem diff_near {id : String} {a b : Addr} {L1 L2 : List (Addr × NK)} {e1 e2 : Array (Int × Value)} {p1 p2 : Nat} {t1 t2 : SetTable} (R1 : TSet P w s.heap a L1 e1 p1 t1) (R2 : TSet P w s.heap b L2 e2 p2 t2) (few : L1.length / 4 ≤ L2.length) (hu : A.units + 8 < cLine)
    {Q : Value → Shared → Prop} (q : ∀ h' d L es ep t, (∀ c u, s.heap.get? c = some u → h'.get? c = some u) → SSet P w h' s.heap.objs.size L es ep t → L.Perm (unlike L1 L2) → Q (.ref s.heap.objs.size) { s with heap := h', drawn := d }) :
    wpAny (model P w) A (Builtin.Frozenset.difference id a (.ref b)) Q E s := by
  obtain ⟨o1, ho1, hex1, hd1⟩ := R1.ob
  obtain ⟨o2, ho2, hex2, hd2⟩ := R2.ob
  have T1 : s.TypeIs (.ref a) "set" := ⟨o1, ho1, hex1.1⟩
  have T2 : s.TypeIs (.ref b) "set" := ⟨o2, ho2, hex2.1⟩
  have s1 := size_of_ents R1.en
  have s2 := size_of_ents R2.en
  rw [diff_eq]
  refine wpAny_bind (any_set T2 ?_)
  refine wp_if_neg (by decide) ?_
  try refine wpAny_bind (wpAny_pure ?_)
  refine wp_if_neg (by simp) ?_
  refine wp_if_pos rfl ?_
  refine wpAny_bind (size_of ho2 hd2 R2.fits ?_)
  dsimp only
  refine wpAny_bind (size_of ho1 hd1 R1.fits ?_)
  refine wp_if_neg (by rw [s1, s2]; omega) ?_
  refine wpAny_bind (base_set T1 ?_)
  refine wpAny_bind (new_set ?_)
  have hr0 : s.heap.get? s.heap.objs.size = none := by
    cases q : s.heap.get? s.heap.objs.size with
    | none => rfl
    | some o => exact absurd (Heap.lt_size q) (Nat.lt_irrefl _)
  have hR : (s.heap.push (newSetObj w)).get? s.heap.objs.size = some (newSetObj w) := Heap.get?_push_size _ rfl
  have kp : ∀ c u, s.heap.get? c = some u → (s.heap.push (newSetObj w)).get? c = some u := fun c u hc => Heap.get?_push_of_some _ hc
  refine wpAny_bind (m := addrOf (.ref s.heap.objs.size)) (wpAny_pure ?_)
  refine wpAny_bind (wpAny_setEpoch_of (kp _ _ ho1) hd1 R1.fits ?_)
  refine wpAny_bind (wpAny_holding ?_)
  refine wpAny_bind ?_
  refine wp_if_pos rfl ?_
  have R1' : TSet P w (s.heap.push (newSetObj w)) a L1 e1 p1 t1 := R1.moved (kp a) fun p hp => (R1.ks p hp).kept kp
  refine unseen_perm (s := { s with heap := s.heap.push (newSetObj w) }) R1' fun out d pm => ?_
  have pm' : out.toList.Perm (ents w L1) := R1.en ▸ pm
  obtain ⟨Lp, eo, pmL⟩ := ents_perm pm'
  rw [← Array.forIn_toList, eo]
  simp only [↓reduceIte]
  refine wpAny_bind (diff_walk (id := id) (a := a) (L := Lp) (h0 := s.heap) (was := p1) ho1 hd1 R1.fits R2 (fun p hp => R1.ks p (pmL.mem_iff.mp hp)) ((pmL.map (·.2)).nodup_iff.mpr R1.nd) (by rw [pmL.length_eq]; exact R1.few) hr0 hu rfl Lp [] [] { s with heap := s.heap.push (newSetObj w), drawn := d } #[] 0 _ _ rfl kp (TSet.empty hR) (List.Perm.refl _) fun h' Lr er epr tr keep R pmr => ?_)
  refine wpAny_pure (wpAny_pure ?_)
  exact q h' d Lr er epr tr keep (TSet.ss (s := { s with heap := h' }) rfl R) (pmr.trans (pmL.filter _))
end
end Rw
namespace Rw
open PySem PySem.Spec PyProof.Rows L2 Builtin.Frozenset
/-! ### a set copied -/
theorem merge_eq (s o : Addr) : setMerge s o (pure ()) = (do
    if s == o then return
    let (eo, epoch, to) ← setState o
    if eo.isEmpty then return
    setRoomFor s eo.size
    let (_, _, ts) ← setState s
    match ts.road to with
    | .slotForSlot => storeSet s eo { to with finger := ts.finger, led := ts.led && to.led, moves := ts.moves, plain := ts.plain && to.plain }
    | .clean =>
      let (es, t) ← (do
        let some (t, order) := SetTable.laid ts.mask ts.finger ts.moves (led := ts.led && to.led) (plain := ts.plain && to.plain) (eo.map (·.1)) | unsupported "internal:set-table-without-room"
        let es' := order.filterMap (eo[·]?)
        if es'.size != eo.size then unsupported "internal:set-table-lost-an-element"
        pure (es', t) : Sem (Array (Int × Value) × SetTable))
      storeSet s es t
    | .oneByOne =>
      for (h, x) in ← setWalkUnseen o [s] (some s) do
        let _ ← holding [x] (setAddHashed s x h)
        pure ()
        if (← setState o).2.1 != epoch then unsupported "set.changed-during-merge") := rfl
/-- a table of few entries, filled anew -/
theorem laid7 (finger moves : Nat) (led plain : Bool) {hs : Array Int} (hn : hs.size ≤ 7) : ∃ t order, SetTable.laid 7 finger moves led plain hs = some (t, order) ∧ order.toList.Perm (List.range hs.size) ∧ Ris t.place.toList ∧ t.place.size = hs.size ∧ t.mask = 7 ∧ t.led = led ∧ t.dummies = #[] := by
  obtain ⟨t', order, e, p, T, m, l, _, d⟩ := relaid_ok ({ mask := 7, place := #[], dummies := #[], finger := finger, led := led, moves := moves, plain := plain } : SetTable) (hs := hs) (wanted := 1) (M := 7) (by decide +kernel) (.inl rfl) hn
  refine ⟨t', order, ?_, p, T.ris, ?_, m, l, d⟩
  · rw [← e]
    unfold SetTable.relaid
    have z : SetTable.sizeAbove 1 - 1 = 7 := by decide +kernel
    rw [z]
    rfl
  · rw [T.sz, List.length_map, p.length_eq, List.length_range]
section
variable {P : Program} {w : World} {A : Around} {E : Value → Shared → Prop} {s : Shared}
/-- the empty copy, with the room it is given -/
structure Bare (w : World) (h : Heap) (r : Addr) (m : Nat) (t : SetTable) : Prop where
  ob : ∃ o ep, h.get? r = some o ∧ o.cls = .type "set" ∧ o.data = .set #[] ep t
  pl : t.place = #[]
  dm : t.dummies = #[]
  msk : t.mask = m
  led : t.led = !w.params.followText "set-order"
theorem roomed {n : Nat} {r : Addr} (ho : s.heap.get? r = some (newSetObj w)) (h0 : 0 < n) (h8 : n < 8) {Q : Unit → Shared → Prop} (q : ∀ h' t m, Heap.SameBut r s.heap h' → Bare w h' r m t → n ≤ m → (m = 7 ∨ m = 15) → (n ≤ 4 → m = 7) → (5 ≤ n → m = 15) → Q () { s with heap := h' }) :
    wpAny (model P w) A (setRoomFor r n) Q E s := by
  have hf : (SetTable.fresh 0 0 (!w.params.followText "set-order")).fits (#[] : Array (Int × Value)).size = true := by
    unfold SetTable.fits SetTable.fill SetTable.fresh
    simp
  unfold setRoomFor
  refine wpAny_bind (wpAny_setState_of ho rfl hf ?_)
  dsimp only
  have rf : (SetTable.fresh 0 0 (!w.params.followText "set-order")).roomFor n = if n * 5 ≥ 21 then some (n * 2) else none := by
    unfold SetTable.roomFor SetTable.fill SetTable.fresh
    simp
  rw [rf]
  by_cases c : n * 5 ≥ 21
  · rw [if_pos c]
    dsimp only
    rw [setRelay_eq]
    refine wpAny_bind (wpAny_setState_of ho rfl hf ?_)
    dsimp only
    have sz : SetTable.sizeAbove (n * 2) = 16 := by
      have : n = 5 ∨ n = 6 ∨ n = 7 := by omega
      rcases this with rfl | rfl | rfl <;> decide +kernel
    refine wp_if_neg (by rw [sz, sizeLine_eq]; omega) ?_
    have rl : (SetTable.fresh 0 0 (!w.params.followText "set-order")).relaid ((#[] : Array (Int × Value)).map (·.1)) (n * 2) = some ({ mask := 15, place := #[], dummies := #[], finger := 0, led := !w.params.followText "set-order", moves := 1, plain := true }, #[]) := by
      have z : ∀ l : Bool, SetTable.laid 15 0 1 l true #[] = some (({ mask := 15, place := #[], dummies := #[], finger := 0, led := l, moves := 1, plain := true } : SetTable), #[]) := by
        intro l
        cases l <;> decide +kernel
      unfold SetTable.relaid
      rw [sz, show Array.map (fun x : Int × Value => x.fst) #[] = (#[] : Array Int) by simp]
      exact z _
    rw [rl]
    dsimp only
    refine wpAny_bind (wpAny_pure ?_)
    dsimp only
    refine wpAny_storeSet_of ho rfl ?_ (by rw [sizeLine_eq]; decide)
    refine q _ _ 15 (Heap.SameBut.update ..) ⟨⟨_, _, store_at ho rfl, rfl, rfl⟩, rfl, rfl, rfl, rfl⟩ (by omega) (.inr rfl) (fun z => by omega) fun _ => rfl
  · rw [if_neg c]
    dsimp only
    refine wpAny_pure ?_
    exact q s.heap _ 7 (Heap.SameBut.refl _ _) ⟨⟨_, _, ho, rfl, rfl⟩, rfl, rfl, rfl, rfl⟩ (by omega) (.inl rfl) (fun _ => rfl) fun z => by omega
theorem copied {a : Addr} {L : List (Addr × NK)} {es : Array (Int × Value)} {ep : Nat} {t : SetTable} (R : TSet P w s.heap a L es ep t) (h0 : 0 < L.length) (h8 : L.length < 8)
    {Q : Value → Shared → Prop} (q : ∀ h' L' es' ep' t', (∀ c u, s.heap.get? c = some u → h'.get? c = some u) → SSet P w h' s.heap.objs.size L' es' ep' t' → t'.dummies = #[] → L'.Perm L → Q (.ref s.heap.objs.size) { s with heap := h' }) :
    wpAny (model P w) A (copyOf a) Q E s := by
  obtain ⟨o, ho, hex, hd⟩ := R.ob
  have T : s.TypeIs (.ref a) "set" := ⟨o, ho, hex.1⟩
  have sz := size_of_ents R.en
  unfold copyOf
  refine wpAny_bind (base_set T ?_)
  refine wpAny_bind (new_set ?_)
  have hr0 : s.heap.get? s.heap.objs.size = none := by
    cases q : s.heap.get? s.heap.objs.size with
    | none => rfl
    | some o => exact absurd (Heap.lt_size q) (Nat.lt_irrefl _)
  have hR : (s.heap.push (newSetObj w)).get? s.heap.objs.size = some (newSetObj w) := Heap.get?_push_size _ rfl
  have kp : ∀ c u, s.heap.get? c = some u → (s.heap.push (newSetObj w)).get? c = some u := fun c u hc => Heap.get?_push_of_some _ hc
  refine wpAny_bind (m := addrOf (.ref s.heap.objs.size)) (wpAny_pure ?_)
  have ne : (s.heap.objs.size == a) = false := by
    rw [beq_eq_false_iff_ne]
    intro z
    rw [z] at hr0
    rw [hr0] at ho
    exact nomatch ho
  refine wpAny_bind ?_
  rw [merge_eq]
  refine wp_if_neg (by rw [ne]; decide) ?_
  refine wpAny_bind (wpAny_setState_of (kp _ _ ho) hd R.fits ?_)
  dsimp only
  refine wp_if_neg (by rw [Array.isEmpty_iff_size_eq_zero, sz]; omega) ?_
  refine wpAny_bind (roomed (s := { s with heap := s.heap.push (newSetObj w) }) hR (by rw [sz]; exact h0) (by rw [sz]; exact h8) fun h1 t1 m sb B hm mm m4 m5 => ?_)
  obtain ⟨ob1, ep1, hob1, hcl1, hdt1⟩ := B.ob
  have fit1 : t1.fits (#[] : Array (Int × Value)).size = true := by
    unfold SetTable.fits SetTable.fill
    rw [B.pl, B.dm]
    show ((0 == 0) && decide (0 + 0 ≤ t1.mask)) = true
    simp
  have old : ∀ c u, s.heap.get? c = some u → h1.get? c = some u := fun c u hc => (sb.2 c (fun z => by rw [z, hr0] at hc; exact nomatch hc)).trans (kp c u hc)
  refine wpAny_bind (wpAny_setState_of (s := { s with heap := h1 }) hob1 hdt1 fit1 ?_)
  dsimp only
  have fill0 : t1.fill = 0 := by
    unfold SetTable.fill
    rw [B.pl, B.dm]
    rfl
  have ledok : ∀ t' : SetTable, t'.led = (t1.led && t.led) → (w.params.followText "set-order" = true ∨ t'.led = true) := fun t' e => by
    rw [e, B.led]
    cases hb : w.params.followText "set-order" with
    | true => exact .inl rfl
    | false =>
      rcases R.led with z | z
      · rw [hb] at z
        exact nomatch z
      · rw [z]
        exact .inr rfl
  have fin : ∀ (es' : Array (Int × Value)) (t' : SetTable) (L' : List (Addr × NK)), es'.toList = ents w L' → L'.Perm L → t'.fits es'.size = true → Ris t'.place.toList → t'.led = (t1.led && t.led) → t'.dummies = #[] →
      wpAny (model P w) A (storeSet s.heap.objs.size es' t') (fun _ s' => wpAny (model P w) A (pure (Value.ref s.heap.objs.size)) Q E s') E { s with heap := h1 } := by
    intro es' t' L' he pm hf hr hl hdm
    have sz' : es'.size = L.length := by rw [size_of_ents he, pm.length_eq]
    refine wpAny_storeSet_of (s := { s with heap := h1 }) hob1 hdt1 ?_ (by rw [sz', sizeLine_eq]; omega)
    refine wpAny_pure (q _ L' es' (ep1 + 1) t' (fun c u hc => ?_) ⟨⟨_, store_at hob1 hdt1, hcl1, rfl⟩, he, hf, hr, ledok t' hl⟩ hdm pm)
    have := (Heap.SameBut.update (h := h1) (a := s.heap.objs.size) (f := Obj.putSet es' t')).2 c (fun z => by rw [z, hr0] at hc; exact nomatch hc)
    exact this.trans (old c u hc)
  by_cases slot : t1.mask = t.mask
  · have rd : t1.road t = .slotForSlot := by
      unfold SetTable.road
      rw [fill0, slot, R.tab.dm]
      simp
    rw [rd]
    dsimp only
    refine fin es _ L R.en (List.Perm.refl _) ?_ R.tab.ris rfl R.tab.dm
    exact R.fits
  · have rd : t1.road t = .clean := by
      unfold SetTable.road
      rw [fill0]
      simp [slot]
    rw [rd]
    dsimp only
    have hsz : (es.map (·.1)).size = L.length := by rw [Array.size_map, sz]
    have laid : ∃ t' order, SetTable.laid t1.mask t1.finger t1.moves (t1.led && t.led) (t1.plain && t.plain) (es.map (·.1)) = some (t', order) ∧ order.toList.Perm (List.range (es.map (·.1)).size) ∧ Ris t'.place.toList ∧ t'.place.size = (es.map (·.1)).size ∧ t'.mask = m ∧ t'.led = (t1.led && t.led) ∧ t'.dummies = #[] := by
      rw [B.msk]
      rcases mm with e | e
      · subst e
        exact laid7 _ _ _ _ (by rw [hsz]; omega)
      · subst e
        exact laid15 _ _ _ _ (by rw [hsz]; omega)
    obtain ⟨t', order, e, p, ris, psz, msk, led, dmm⟩ := laid
    rw [hsz] at p psz
    obtain ⟨L2, r1, r2, _⟩ := relist L es order R.en p
    have hs2 : (order.filterMap (es[·]?)).size = es.size := by rw [size_of_ents r1, r2.length_eq, sz]
    rw [e]
    dsimp only
    refine wpAny_bind (wp_if_neg (by rw [hs2]; simp) ?_)
    refine wpAny_pure ?_
    dsimp only
    refine fin _ t' L2 r1 r2 ?_ ris led dmm
    unfold SetTable.fits SetTable.fill
    rw [dmm, psz, msk, hs2, sz]
    show ((L.length == L.length) && decide (L.length + 0 ≤ m)) = true
    rw [beq_self_eq_true, Bool.true_and, decide_eq_true_eq]
    omega
end
end Rw
namespace Rw
open PySem PySem.Spec PyProof.Rows L2 Builtin.Frozenset
section
variable {P : Program} {w : World} {A : Around} {E : Value → Shared → Prop} {s : Shared}
/-- nothing taken out of a set -/
theorem less_none {id : String} {r b : Addr} {L : List (Addr × NK)} {es e2 : Array (Int × Value)} {ep p2 : Nat} {t t2 : SetTable} (S : SSet P w s.heap r L es ep t) (dm : t.dummies = #[]) (R2 : TSet P w s.heap b [] e2 p2 t2) (hne : b ≠ r) {Q : Unit → Shared → Prop} (q : ∀ d, Q () { s with drawn := d }) :
    wpAny (model P w) A (differenceUpdate id r (.ref b)) Q E s := by
  obtain ⟨o, ho, hc, hd⟩ := S.ob
  obtain ⟨o2, ho2, hex2, hd2⟩ := R2.ob
  have T2 : s.TypeIs (.ref b) "set" := ⟨o2, ho2, hex2.1⟩
  have z2 : e2.size = 0 := size_of_ents R2.en
  unfold differenceUpdate
  refine wp_if_neg (by simp [hne]) ?_
  refine wpAny_bind (any_set T2 ?_)
  refine wp_if_pos rfl ?_
  refine wpAny_bind (m := addrOf (.ref b)) (wpAny_pure ?_)
  refine wpAny_bind (size_of ho2 hd2 R2.fits ?_)
  refine wpAny_bind (size_of ho hd S.fit ?_)
  refine wp_if_neg (by rw [z2]; omega) ?_
  refine wpAny_bind (wpAny_setEpoch_of ho2 hd2 R2.fits ?_)
  refine wpAny_bind (wpAny_holding ?_)
  refine wpAny_bind (unseen_perm R2 fun out d pm => ?_)
  have e0 : out = #[] := by
    have := pm.length_eq
    rw [Array.length_toList, Array.length_toList, z2] at this
    exact Array.eq_empty_of_size_eq_zero this
  subst e0
  refine wpAny_bind ?_
  rw [← Array.forIn_toList]
  refine wpAny_pure ?_
  refine wpAny_pure ?_
  unfold setTidy
  refine wpAny_bind (wpAny_setState_of (s := { s with drawn := d }) ho hd S.fit ?_)
  dsimp only
  refine wp_if_neg (by unfold SetTable.tooManyDummies; rw [dm]; simp) ?_
  exact wpAny_pure (q d)
theorem diff_far {id : String} {a b : Addr} {L1 : List (Addr × NK)} {e1 e2 : Array (Int × Value)} {p1 p2 : Nat} {t1 t2 : SetTable} (R1 : TSet P w s.heap a L1 e1 p1 t1) (R2 : TSet P w s.heap b [] e2 p2 t2) (h4 : 4 ≤ L1.length) (h8 : L1.length < 8)
    {Q : Value → Shared → Prop} (q : ∀ h' d L es ep t, (∀ c u, s.heap.get? c = some u → h'.get? c = some u) → SSet P w h' s.heap.objs.size L es ep t → L.Perm L1 → Q (.ref s.heap.objs.size) { s with heap := h', drawn := d }) :
    wpAny (model P w) A (Builtin.Frozenset.difference id a (.ref b)) Q E s := by
  obtain ⟨o1, ho1, hex1, hd1⟩ := R1.ob
  obtain ⟨o2, ho2, hex2, hd2⟩ := R2.ob
  have T2 : s.TypeIs (.ref b) "set" := ⟨o2, ho2, hex2.1⟩
  have s1 := size_of_ents R1.en
  have s2 : e2.size = 0 := size_of_ents R2.en
  rw [diff_eq]
  refine wpAny_bind (any_set T2 ?_)
  refine wp_if_neg (by decide) ?_
  try refine wpAny_bind (wpAny_pure ?_)
  refine wp_if_neg (by simp) ?_
  refine wp_if_pos rfl ?_
  refine wpAny_bind (size_of ho2 hd2 R2.fits ?_)
  dsimp only
  refine wpAny_bind (size_of ho1 hd1 R1.fits ?_)
  refine wp_if_pos (by rw [s1, s2]; omega) ?_
  refine wpAny_bind (wpAny_rule ?_)
  refine wpAny_bind (copied R1 (by omega) h8 fun h' L' es' ep' t' keep S dm pm => ?_)
  have hb : b ≠ s.heap.objs.size := Nat.ne_of_lt (Heap.lt_size ho2)
  refine wpAny_bind (m := addrOf (.ref s.heap.objs.size)) (wpAny_pure ?_)
  refine wpAny_bind (wpAny_holding (less_none (s := { s with heap := h' }) S dm (R2.moved (keep b) fun p hp => nomatch hp) hb fun d => ?_))
  exact wpAny_pure (q h' d L' es' ep' t' keep S pm)
theorem sub_call {a b : Addr} {L1 L2 : List (Addr × NK)} {e1 e2 : Array (Int × Value)} {p1 p2 : Nat} {t1 t2 : SetTable} (R1 : TSet P w s.heap a L1 e1 p1 t1) (R2 : TSet P w s.heap b L2 e2 p2 t2) (few : L1.length / 4 ≤ L2.length ∨ L2 = [] ∧ L1.length < 8) (hu : A.units + 16 < cLine)
    {Q : Value → Shared → Prop} (q : ∀ h' d L es ep t, (∀ c u, s.heap.get? c = some u → h'.get? c = some u) → SSet P w h' s.heap.objs.size L es ep t → L.Perm (unlike L1 L2) → Q (.ref s.heap.objs.size) { s with heap := h', drawn := d }) :
    wpAny (model P w) A (binaryOp .Sub (.ref a) (.ref b)) Q E s := by
  obtain ⟨o1, ho1, hex1, hd1⟩ := R1.ob
  obtain ⟨o2, ho2, hex2, hd2⟩ := R2.ob
  have T1 : s.TypeIs (.ref a) "set" := ⟨o1, ho1, hex1.1⟩
  have T2 : s.TypeIs (.ref b) "set" := ⟨o2, ho2, hex2.1⟩
  have run : ∀ (B : Around), B.units + 8 < cLine → ∀ {R : Value → Shared → Prop}, (∀ h' d L es ep t, (∀ c u, s.heap.get? c = some u → h'.get? c = some u) → SSet P w h' s.heap.objs.size L es ep t → L.Perm (unlike L1 L2) → R (.ref s.heap.objs.size) { s with heap := h', drawn := d }) →
      wpAny (model P w) B (Builtin.Frozenset.difference "frozenset.__sub__" a (.ref b)) R E s := by
    intro B hB R q
    by_cases c : L1.length / 4 ≤ L2.length
    · exact diff_near R1 R2 c hB q
    · obtain ⟨rfl, h8⟩ := few.resolve_left c
      rw [List.length_nil] at c
      refine diff_far R1 R2 (by omega) h8 fun h' d L es ep t k S pm => q h' d L es ep t k S ?_
      have e : unlike L1 [] = L1 := by
        unfold unlike
        rw [List.filter_eq_self]
        exact fun p hp => rfl
      rw [e]
      exact pm
  refine wpAny_binaryOp_same (op := .Sub) T1 T2 F.fills_set_sub F.slot_set_sub (wpAny_call_entry F.slot_set_sub T1 entry_set_sub ?_ (F.args_set_sub_2 _ _))
  show wpAny _ _ (do
    let r ← isAnySet (.ref a) <&&> isAnySet (.ref b)
    if !r then do
      rule s!"frozenset.{"__sub__"}.declined"
      ret .notImplemented
    else do
      let l ← addrOf (.ref a)
      let v ← Builtin.Frozenset.difference s!"frozenset.{"__sub__"}" l (.ref b)
      ret v) _ _ s
  refine wpAny_bind ?_
  unfold andM
  refine wpAny_bind (any_set T1 ?_)
  refine any_set T2 ?_
  refine wp_if_neg (by decide) ?_
  refine wpAny_bind (m := addrOf (.ref a)) (wpAny_pure ?_)
  refine wpAny_bind (run _ ?_ fun h' d L es ep t k S pm => ?_)
  · simp only [Around.in1_units]
    omega
  · exact wpAny_pure ⟨_, rfl, (fun z => nomatch z), q h' d L es ep t k S pm⟩
end
end Rw
namespace Rw
open PySem PySem.Spec PyProof.Rows L2
/-! ### set - set over the abstract heap, sorted -/
/-- what a difference of sets of tuples is: only good for sorting -/
def SSetO (P : Program) (w : World) (a : Addr) (L : List (Addr × PyData)) : HO := .ext fun h => ∃ es ep t, SSet P w h a (tk L) es ep t
section
variable {X : Cx} {pins : List (Addr × Obj)} {σ : L2.St} {H : Hp} {s : Shared}
theorem tk_back : ∀ (L0 : List (Addr × PyData)) (M : List (Addr × NK)), (∀ p ∈ M, p ∈ tk L0) → ∃ M0 : List (Addr × PyData), M = tk M0 ∧ ∀ p ∈ M0, p ∈ L0
  | L0, [], _ => ⟨[], rfl, fun p hp => nomatch hp⟩
  | L0, m :: M, hm => by
    obtain ⟨M0, e, h0⟩ := tk_back L0 M fun p hp => hm p (List.mem_cons_of_mem _ hp)
    obtain ⟨z, hz, ez⟩ := List.mem_map.mp (hm m List.mem_cons_self)
    refine ⟨z :: M0, by rw [e, ← ez]; rfl, fun p hp => ?_⟩
    rcases List.mem_cons.mp hp with e' | hp
    · rw [e']
      exact hz
    · exact h0 p hp
theorem nodup_le {α : Type} : ∀ {l m : List α}, l.Nodup → (∀ z ∈ l, z ∈ m) → l.length ≤ m.length
  | [], _, _, _ => Nat.zero_le _
  | a :: l, m, nd, h => by
    obtain ⟨u, v, e⟩ := List.append_of_mem (h a List.mem_cons_self)
    obtain ⟨n1, n2⟩ := List.nodup_cons.mp nd
    have z := nodup_le (m := u ++ v) n2 fun z hz => by
      have := h z (List.mem_cons_of_mem _ hz)
      rw [e] at this
      rcases List.mem_append.mp this with q | q
      · exact List.mem_append_left _ q
      · rcases List.mem_cons.mp q with q | q
        · rw [q] at hz
          exact absurd hz n1
        · exact List.mem_append_right _ q
    rw [e, List.length_cons, List.length_append, List.length_cons]
    rw [List.length_append] at z
    omega
/-- a - b, sets of tuples -/
def rSubT (K : PySem.W.Frag) (P : Program) (w : World) : R2 := fun x y H Q => ∃ (a b : Addr) (L1 L2 : List (Addr × PyData)), x = .ref a ∧ y = .ref b ∧ H a = some (TSetO w a L1) ∧ H b = some (TSetO w b L2) ∧ (∀ p ∈ L1, Good p.2 ∧ Dp K H (.ref p.1) p.2) ∧ (∀ p ∈ L2, Good p.2 ∧ Dp K H (.ref p.1) p.2) ∧
  (∃ D : List PyData, (∀ p ∈ L1, p.2 ∈ D) ∧ D.length < 8) ∧ ∀ c L, H c = none → (∀ p ∈ L, p ∈ L1) → (∀ d, d ∈ L.map (·.2) ↔ d ∈ L1.map (·.2) ∧ d ∉ L2.map (·.2)) → (L.map (·.2)).Nodup → L.length < 64 → Q (.ref c) (upd H c (SSetO P w c L))
theorem op_subT (hu : X.A.units + 64 < cLine) : OpR X (binaryOp .Sub) (rSubT X.K X.prog X.w) := by
  intro pins s σ H x y v u Q I rx ry h
  obtain ⟨a, b, L1, L2, rfl, rfl, ha, hb, g1, g2, few, q⟩ := h
  obtain rfl : v = Value.ref a := rx
  obtain rfl : u = Value.ref b := ry
  obtain ⟨es1, ep1, t1, R1⟩ := tset_get I ha g1
  obtain ⟨es2, ep2, t2, R2⟩ := tset_get I hb g2
  have hn : H s.heap.objs.size = none := I.hok.fresh (Nat.le_refl _)
  have l1 : (tk L1).length = L1.length := List.length_map _
  have l2 : (tk L2).length = L2.length := List.length_map _
  refine sub_call R1 R2 ?_ (by omega) fun h' d L es ep t keep S pm => ?_
  · obtain ⟨D, hD, hD8⟩ := few
    have n1 : (L1.map (·.2)).Nodup := by
      have z : ((L1.map (·.2)).map toK).Nodup := by
        have e : (L1.map (·.2)).map toK = (tk L1).map (·.2) := by
          unfold tk
          rw [List.map_map, List.map_map]
          rfl
        rw [e]
        exact R1.nd
      exact nodup_of_map z
    have le := nodup_le (m := D) n1 fun d hd => by
      obtain ⟨p, hp, rfl⟩ := List.mem_map.mp hd
      exact hD p hp
    rw [List.length_map] at le
    rw [l1, l2]
    cases L2 with
    | nil => exact .inr ⟨rfl, by omega⟩
    | cons z zs =>
      rw [List.length_cons]
      exact .inl (by omega)
  have sub : ∀ p ∈ L, p ∈ tk L1 := fun p hp => (List.mem_filter.mp (pm.mem_iff.mp hp)).1
  obtain ⟨M, rfl, hM⟩ := tk_back L1 L sub
  have ndk : ((tk M).map (·.2)).Nodup := by
    refine (pm.map (·.2)).nodup_iff.mpr ?_
    exact List.Nodup.sublist (List.Sublist.map _ List.filter_sublist) R1.nd
  have nd : (M.map (·.2)).Nodup := by
    have z : ((M.map (·.2)).map toK).Nodup := by
      have e : (M.map (·.2)).map toK = (tk M).map (·.2) := by
        unfold tk
        rw [List.map_map, List.map_map]
        rfl
      rw [e]
      exact ndk
    exact nodup_of_map z
  have lenM : M.length < 64 := by
    have z1 := pm.length_eq
    have z2 : (unlike (tk L1) (tk L2)).length ≤ (tk L1).length := List.length_filter_le _ _
    have z3 : (tk M).length = M.length := List.length_map _
    have z4 := R1.few
    omega
  have mem : ∀ e, e ∈ M.map (·.2) ↔ e ∈ L1.map (·.2) ∧ e ∉ L2.map (·.2) := fun e => by
    have key : ∀ p ∈ L1, ((p.1, toK p.2) ∈ tk M ↔ p.2 ∉ L2.map (·.2)) := fun p hp => by
      rw [pm.mem_iff]
      unfold unlike
      rw [List.mem_filter]
      have hin : (p.1, toK p.2) ∈ tk L1 := List.mem_map.mpr ⟨p, hp, rfl⟩
      have e2 : toK p.2 ∈ (tk L2).map (·.2) ↔ p.2 ∈ L2.map (·.2) := by
        constructor
        · intro z
          obtain ⟨y, hy, ey⟩ := List.mem_map.mp z
          obtain ⟨y0, hy0, rfl⟩ := List.mem_map.mp hy
          have := toK_inj (g2 y0 hy0).1.ok (g1 p hp).1.ok ey
          exact List.mem_map.mpr ⟨y0, hy0, this⟩
        · intro z
          obtain ⟨y0, hy0, ey⟩ := List.mem_map.mp z
          exact List.mem_map.mpr ⟨(y0.1, toK y0.2), List.mem_map.mpr ⟨y0, hy0, rfl⟩, by rw [ey]⟩
      constructor
      · intro z
        have := z.2
        simp only [Bool.not_eq_true', decide_eq_false_iff_not] at this
        exact fun hh => this (e2.mpr hh)
      · intro z
        refine ⟨hin, ?_⟩
        simp only [Bool.not_eq_true', decide_eq_false_iff_not]
        exact fun hh => z (e2.mp hh)
    constructor
    · intro he
      obtain ⟨p, hp, rfl⟩ := List.mem_map.mp he
      exact ⟨List.mem_map.mpr ⟨p, hM p hp, rfl⟩, (key p (hM p hp)).mp (List.mem_map.mpr ⟨p, hp, rfl⟩)⟩
    · rintro ⟨h1, h2⟩
      obtain ⟨p, hp, rfl⟩ := List.mem_map.mp h1
      have z := (key p hp).mpr h2
      obtain ⟨y, hy, ey⟩ := List.mem_map.mp z
      have e3 : y.2 = p.2 := toK_inj (g1 y (hM y hy)).1.ok (g1 p hp).1.ok (congrArg Prod.snd ey)
      exact List.mem_map.mpr ⟨y, hy, e3⟩
  have new : ObjOk X.prog X.w (upd H s.heap.objs.size (SSetO X.prog X.w s.heap.objs.size M)) h' s.heap.objs.size (SSetO X.prog X.w s.heap.objs.size M) := by
    obtain ⟨o, ho, ho2⟩ := S.ob
    exact ⟨⟨es, ep, t, S⟩, ⟨o, ho⟩, fun h1 h2 ⟨es', ep', t', S'⟩ kk => ⟨es', ep', t', by
      obtain ⟨o', e1, e2⟩ := S'.ob
      exact ⟨⟨o', kk o' e1, e2⟩, S'.en, S'.fit, S'.ris, S'.led⟩⟩⟩
  have J : Inv X pins σ (upd H s.heap.objs.size (SSetO X.prog X.w s.heap.objs.size M)) { s with heap := h', gens := s.gens, drawn := d, toks := s.toks } :=
    I.call (ch := []) (Un.laid keep (Nat.le_refl _) hn) (I.hok.laid keep (Nat.le_refl _) new) I.bare (fun _ z => nomatch z)
  exact ⟨.ref s.heap.objs.size, _, J, rfl, q _ M hn hM mem nd lenM⟩
/-- sorted(a difference) -/
def rSortS (K : PySem.W.Frag) (P : Program) (w : World) : List V → Hp → VK → Prop := fun vs H Q => ∃ (a : Addr) (L : List (Addr × PyData)), vs = [V.ref a] ∧ H a = some (SSetO P w a L) ∧ (∀ p ∈ L, Good p.2 ∧ Dp K H (.ref p.1) p.2) ∧ (L.map (·.2)).Nodup ∧ L.length < 64 ∧ PySem.W.AllAlike (L.map (·.2)) ∧
  ∀ (ys : List V) (ds : List PyData) (p : Addr), ds.Perm (L.map (·.2)) → ds.Nodup → ds.length < 64 → Rising ds → DpAll K H ys ds → H p = none → Q (.ref p) (upd H p (.lst ys))
theorem cr_sortS (hc : X.calm = true) (hu : X.A.units + 64 < cLine) : CallR X (.builtin "sorted") (rSortS X.K X.prog X.w) := by
  intro pins s σ H vs us Q I r h
  obtain ⟨a, L, rfl, ha, hL, ndL, few, hal, q⟩ := h
  obtain ⟨es, ep, t, R⟩ := (I.hok a _ ha).1
  rw [Vals.ref1 r]
  have hvals : es.toList.map (·.2) = L.map fun p => Value.ref p.1 := by
    rw [R.en]
    unfold ents tk
    rw [List.map_map, List.map_map]
    rfl
  have e1 : PySem.W.EachIs (fun u d => ∃ x, RelV x u ∧ Dp X.K H x d) (es.toList.map (·.2)) (L.map (·.2)) := by
    rw [hvals]
    exact each_map' _ _ fun p hp => ⟨.ref p.1, rfl, (hL p hp).2⟩
  have e2 : PySem.W.EachIs (fun v d => ∃ as, Reads s.heap v (id d) as ∧ ∀ c ∈ as, c < s.heap.objs.size) (es.toList.map (·.2)) (L.map (·.2)) := by
    rw [hvals]
    refine each_map' _ _ fun p hp => ?_
    obtain ⟨as, rd⟩ := Dp.reads I p.2 (.ref p.1) (.ref p.1) (hL p hp).2 rfl
    refine ⟨as, rd, ?_⟩
    rw [(isK_of p.2 s.heap _ as (hL p hp).1.ok rd).2]
    exact fun c hc => nomatch hc
  have hm : ∀ d ∈ (L.map (·.2)).map id, Good d := fun d hd => by
    rw [List.map_id] at hd
    obtain ⟨p, hp, rfl⟩ := List.mem_map.mp hd
    exact (hL p hp).1
  refine sorted_coll (enc := id) (I.ok.hd hc) R.ob R.fit (by have := size_of_ents R.en; unfold tk at this; rw [List.length_map] at this; unfold scanBound; omega) R.ris R.led e1 e2 (by rw [List.map_id]; exact hal) (.inl fun d hd => (hm d hd).tu) (fun d hd => ?_) fun s' p out c ds k g os hp hg ho' pm sr => ?_
  · have z := (hm d (by rw [List.map_id]; exact hd)).dp
    show X.A.units + 3 + d.depth < cLine
    omega
  · obtain ⟨ys, hv, hd'⟩ := each_vals ho'
    have hn : H p = none := I.hok.fresh hp
    have hl : ds.length = L.length := by rw [pm.length_eq, List.length_map]
    have hlen : ys.length ≤ sizeLine := by
      rw [dpAll_len hd', sizeLine_eq]
      omega
    have nd : ds.Nodup := pm.nodup_iff.mpr ndL
    have J : Inv X pins σ (upd H p (.lst ys)) { s with heap := s'.heap, gens := s'.gens, drawn := s'.drawn, toks := s'.toks } :=
      I.call (ch := []) (Un.laid k hp hn) (I.hok.laid k hp ⟨hlen, out.toList, c, hv, hg⟩) (by rw [g]; exact I.bare) (fun _ z => nomatch z)
    have e : s' = { s with heap := s'.heap, gens := s'.gens, drawn := s'.drawn, toks := s'.toks } := by
      cases s'
      cases s
      cases os
      rfl
    rw [e]
    exact ⟨.ref p, _, J, rfl, q ys ds p pm nd (by omega) sr hd' hn⟩
end
end Rw
namespace Rw
open PySem PySem.Spec PyProof.Rows L2
/-! ### Program's - -/
abbrev sSub : Stmt := inClass (topS 16) 9
theorem scSub : FnScope ["self", "other", "rows"] ["self", "other"] (defScope sSub) := ⟨rfl, rfl, rfl, by decide +kernel, rfl, by decide +kernel, by decide +kernel⟩
theorem alike_rds {ds : List PyData} (h : ∀ d ∈ ds, ∃ r, d = rd r) : PySem.W.AllAlike ds := fun d hd e he => by
  obtain ⟨r, rfl⟩ := h d hd
  obtain ⟨q, rfl⟩ := h e he
  exact alike_rd r q
section
variable {P : Program} {w : World} {K : PySem.W.Frag} {mg : Str → Option Value} {base : Heap} {f : Addr} {fd : FuncData} {k : Nat}
def less (S1 S2 : List Rl) : List Rl := S1.filter fun r => !decide (r ∈ S2)
/-- one - other -/
def spSub (K : PySem.W.Frag) (C CP : Addr) : Sp := fun vs H Q E => ∃ (x y : V) (S1 : List Rl), vs = [x, y] ∧ PgAt K C H x S1 ∧ (∀ r ∈ S1, IsR r) ∧
  ((∃ S2 : List Rl, PgAt K C H y S2 ∧ S1.length < 8 ∧ S2.length < 64 ∧ ∀ H' v S, Same H H' → Srt S (less S1 S2) → S.length < 64 → PgAt K C H' v S → Q v H') ∨
   (∃ d, Dp K H y d ∧ ∀ dx, H dx = none → E (.ref CP) (some dx) (upd H dx (.xd [(("thing" : Str), y)]))))
theorem ok_sub {C CP fI : Addr} (F : Fun K "__sub__" "Program.__sub__" sSub f fd) (T : Bl mg) (G : PgC K mg C) (n : NoAttr K C "_rules") (X : ErrT P w K mg base k "NotAProgram" "thing" CP) (M : Mk K C fI) (GI : FnR P w K mg base CX0 k fI (spInit K C)) : FnOk P w K mg base (L2.CX P w) (k + 2) f fd ["self", "other"] (spSub K C CP) := by
  obtain ⟨fE, fdE, i1, i2, i3, i4⟩ := X.ex
  refine F.okX scSub (fun vs H Q E h => ?_) (fun cdv A outer s H vs Q E hr h => ?_)
  · obtain ⟨x, y, S, rfl, _⟩ := h
    rfl
  obtain ⟨x, y, S1, rfl, ⟨a, dx, t, ys, rfl, h1, h2, h3⟩, hI, h⟩ := h
  refine ⟨_, pss_cons (ps_if (pt_not (pt_val (pe_callB call_isi (by rfl) T.isi PyProof.Rows.boot_isinstance (pa_cons (pv 1) (pa_cons (pe_glob (v := .ref C) (by rfl) G.m rfl) pa_nil)))))
      (pss_one (ps_raise rfl (takes_of rfl rfl rfl rfl) (pmk_oex X.oex i1 i2 i3 hr i4 .nil pass0 (by rfl) X.m (pa_cons (pv 1) pa_nil)))) pss_nil)
    (pss_cons (ps_set (i := 2) scSub.nd rfl (.inl rfl) (pe_callB (cr_sortS rfl hr.units) (by rfl) T.sorted (by decide +kernel) (pa_cons (pe_op (op_subT hr.units) (pe_callTy (T := "set") (cr_setR rfl hr.units) (by rfl) T.set (by decide +kernel) (pa_cons (pe_fld (pv 0) rfl) pa_nil)) (pe_callTy (T := "set") (cr_setR rfl hr.units) (by rfl) T.set (by decide +kernel) (pa_cons (pe_fld (pv 1) rfl) pa_nil))) pa_nil)))
    (pss_one (ps_ret (pe_makeS M GI hr (by rfl) G.m pass0 (pv 2))))), ?_⟩
  rcases h with ⟨S2, ⟨b, dy, u, zs, rfl, g1, g2, g3⟩, few1, few2, q⟩ | ⟨d, hd, q⟩
  · refine ⟨.ref b, rfl, .ref b, .ref C, .ref C, .ref C, true, rfl, .own C, ty_ins G g1, G.yes, true, rfl, iteF ?_⟩
    refine ⟨.ref a, rfl, a, C, dx, _, .ref t, rfl, h1, G.cls, n, rfl, t, ys, S1, rfl, .inr h2, h3, by omega, fun p1 M1 hp1 hM1 isP1 all1 => ?_⟩
    have s1 := same_new hp1 (TSetO w p1 M1)
    refine ⟨.ref b, rfl, b, C, dy, _, .ref u, rfl, s1 _ _ g1, G.cls, n, rfl, u, zs, S2, rfl, .inr (same_tup s1 g2), (Stay.same s1).dpAll _ _ (okDs_rd S2) g3, few2, fun p2 M2 hp2 hM2 isP2 all2 => ?_⟩
    have s2 := same_new hp2 (TSetO w p2 M2)
    have s12 := s1.trans s2
    refine ⟨p1, p2, M1, M2, rfl, rfl, s2 _ _ upd_same, upd_same, (fun e he => ⟨(hM1 e he).1, (Stay.same s12).dp _ _ (hM1 e he).1.ok (hM1 e he).2⟩), (fun e he => ⟨(hM2 e he).1, (Stay.same s2).dp _ _ (hM2 e he).1.ok (hM2 e he).2⟩),
      ⟨S1.map rd, (fun e he => by
        obtain ⟨r, hr, er⟩ := isP1 e he
        rw [er]
        exact List.mem_map.mpr ⟨r, hr, rfl⟩), by rw [List.length_map]; exact few1⟩, fun p3 L hp3 hL hmem hnd hfew => ?_⟩
    have s3 := same_new hp3 (SSetO P w p3 L)
    have s13 := s12.trans s3
    have ofL : ∀ d ∈ L.map (·.2), ∃ r, d = rd r := fun d hd => by
      obtain ⟨e, he, rfl⟩ := List.mem_map.mp hd
      obtain ⟨r, _, er⟩ := isP1 e (hL e he)
      exact ⟨r, er⟩
    refine ⟨p3, L, rfl, upd_same, (fun e he => ⟨(hM1 e (hL e he)).1, (Stay.same s13).dp _ _ (hM1 e (hL e he)).1.ok (hM1 e (hL e he)).2⟩), hnd, hfew, alike_rds ofL, fun ws ds p4 hpm hdn hdl hris hws hp4 => ?_⟩
    have s4 := same_new hp4 (.lst ws)
    have s14 := s13.trans s4
    obtain ⟨R, rfl⟩ := all_rd fun d hd => ofL d (hpm.mem_iff.mp hd)
    have memR : ∀ r, r ∈ R ↔ r ∈ less S1 S2 := fun r => by
      rw [← rd_mem, hpm.mem_iff, hmem]
      unfold less
      rw [List.mem_filter]
      have e1 : rd r ∈ M1.map (·.2) ↔ r ∈ S1 := ⟨fun hz => by
        obtain ⟨e, he, ee⟩ := List.mem_map.mp hz
        obtain ⟨r', hr', er⟩ := isP1 e he
        have : r = r' := rd_inj (by rw [← ee, er])
        rw [this]
        exact hr', fun hz => all1 r hz⟩
      have e2 : rd r ∈ M2.map (·.2) ↔ r ∈ S2 := ⟨fun hz => by
        obtain ⟨e, he, ee⟩ := List.mem_map.mp hz
        obtain ⟨r', hr', er⟩ := isP2 e he
        have : r = r' := rd_inj (by rw [← ee, er])
        rw [this]
        exact hr', fun hz => all2 r hz⟩
      rw [e1, e2]
      simp
    refine ⟨.ref p4, rfl, p4, ws, rfl, .inr (SqL.of upd_same), made_ok ((Stay.same s4).dpAll _ _ (okDs_rd R) hws) (fun r hr => hI r (List.mem_filter.mp ((memR r).mp hr)).1) (by rw [List.length_map] at hdl; exact hdl) fun H' v S s5 hS hl hv => q H' v S (s14.trans s5) ⟨hS.nd, hS.ris, fun r => (hS.mem r).trans (memR r)⟩ hl hv⟩
  · exact ⟨y, rfl, y, .ref C, .type (tyName d), .ref C, false, rfl, .own C, tyx_dp hd, G.odd d, false, rfl, iteT ⟨y, rfl, err_made q⟩⟩
end
end Rw
namespace Rw
open PySem PySem.Spec PyProof.Rows L2
/-! ### names, worlds and rules asked of things of any kind -/
section
variable {K : PySem.W.Frag} {H H' : Hp} {x : V}
theorem tyOf_same (e : Same H H') {t : Value} (h : TyOf K H x t) : TyOf K H' x t := by
  cases h with
  | non => exact .non
  | bl b => exact .bl b
  | int i => exact .int i
  | str z => exact .str z
  | flt z => exact .flt z
  | lst h => exact .lst (e _ _ h)
  | frz h => exact .frz (e _ _ h)
  | tup h => exact .tup (e _ _ h)
  | dK h => exact .dK (e _ _ h)
  | dT h => exact .dT (e _ _ h)
  | ins h a b c d f => exact .ins (e _ _ h) a b c d f
theorem tyx_same (e : Same H H') {t : Value} (h : TyX K H x t) : TyX K H' x t := by
  cases h with
  | base h => exact .base (tyOf_same e h)
  | byt b => exact .byt b
  | set e1 => exact .set (e _ _ e1)
  | kList e1 c => exact .kList e1 c
  | kTuple e1 c => exact .kTuple e1 c
  | kDict e1 c => exact .kDict e1 c
  | fTuple e1 => exact .fTuple (e _ _ e1)
  | fDict e1 => exact .fDict (e _ _ e1)
/-- a thing that is of no class T -/
def NotT (K : PySem.W.Frag) (H : Hp) (x : V) (T : String) : Prop := ∃ t, TyX K H x t ∧ PySem.W.kitOne K t (.type T) = some false
theorem NotT.same {T : String} (h : NotT K H x T) (e : Same H H') : NotT K H' x T := let ⟨t, h1, h2⟩ := h; ⟨t, tyx_same e h1, h2⟩
/-- x, and whether it is a name -/
def NmV (K : PySem.W.Frag) (H : Hp) (x : V) (b : Bool) : Prop := (∃ d, Dp K H x d ∧ oddN d ∧ b = nameD d) ∨ (NotT K H x "str" ∧ b = false)
theorem NmV.same {b : Bool} (h : NmV K H x b) (e : Same H H') : NmV K H' x b := h.elim (fun ⟨d, h1, h2, h3⟩ => .inl ⟨d, dp_same e _ _ h1, h2, h3⟩) fun ⟨h1, h2⟩ => .inr ⟨h1.same e, h2⟩
/-- neither tuple nor list -/
def NotTL (K : PySem.W.Frag) (H : Hp) (x : V) : Prop := ∃ t, TyX K H x t ∧ PySem.W.kitOne K t (.type "tuple") = some false ∧ PySem.W.kitOne K t (.type "list") = some false
theorem NotTL.same (h : NotTL K H x) (e : Same H H') : NotTL K H' x := let ⟨t, h1, h2⟩ := h; ⟨t, tyx_same e h1, h2⟩
/-- x, and whether it is a tuple or list of names -/
def ArV (K : PySem.W.Frag) (H : Hp) (x : V) (b : Bool) : Prop := (∃ a xs ds, x = .ref a ∧ (SqT K H a xs ∨ SqL K H a xs) ∧ DpAll K H xs ds ∧ (∀ d ∈ ds, oddN d) ∧ ds.length ≤ 900 ∧ b = ds.all nameD) ∨ (NotTL K H x ∧ b = false)
theorem ArV.same {b : Bool} (h : ArV K H x b) (e : Same H H') : ArV K H' x b :=
  h.elim (fun ⟨a, xs, ds, h1, h2, h3, h4⟩ => .inl ⟨a, xs, ds, h1, h2.elim (fun z => .inl (same_tup e z)) (fun z => .inr (e.seq z)), dpAll_same e _ _ h3, h4⟩) fun ⟨h1, h2⟩ => .inr ⟨h1.same e, h2⟩
/-- x, and whether it is a world -/
def WlV (K : PySem.W.Frag) (H : Hp) (x : V) (b : Bool) : Prop := (∃ d, Dp K H x d ∧ oddW d ∧ b = worldD d) ∨ (NotT K H x "tuple" ∧ b = false)
theorem WlV.same {b : Bool} (h : WlV K H x b) (e : Same H H') : WlV K H' x b := h.elim (fun ⟨d, h1, h2, h3⟩ => .inl ⟨d, dp_same e _ _ h1, h2, h3⟩) fun ⟨h1, h2⟩ => .inr ⟨h1.same e, h2⟩
def WlVs (K : PySem.W.Frag) (H : Hp) : List V → List Bool → Prop
  | [], [] => True
  | x :: xs, b :: bs => WlV K H x b ∧ WlVs K H xs bs
  | _, _ => False
theorem WlVs.same (e : Same H H') : ∀ {xs : List V} {bs : List Bool}, WlVs K H xs bs → WlVs K H' xs bs
  | [], [], _ => True.intro
  | _ :: _, _ :: _, ⟨h, t⟩ => ⟨h.same e, WlVs.same e t⟩
  | [], _ :: _, h => h.elim
  | _ :: _, [], h => h.elim
theorem WlVs.len : ∀ {xs : List V} {bs : List Bool}, WlVs K H xs bs → xs.length = bs.length
  | [], [], _ => rfl
  | _ :: _, _ :: _, ⟨_, t⟩ => by rw [List.length_cons, List.length_cons, WlVs.len t]
  | [], _ :: _, h => h.elim
  | _ :: _, [], h => h.elim
theorem WlVs.at : ∀ {xs : List V} {bs : List Bool} {i : Nat} {x : V}, WlVs K H xs bs → xs[i]? = some x → ∃ b, bs[i]? = some b ∧ WlV K H x b
  | x :: xs, b :: bs, 0, y, ⟨h, _⟩, e => ⟨b, rfl, (show x = y by simpa using e) ▸ h⟩
  | x :: xs, b :: bs, i + 1, y, ⟨_, t⟩, e => by
    obtain ⟨b, h1, h2⟩ := WlVs.at (i := i) t (by simpa using e)
    exact ⟨b, by simpa using h1, h2⟩
  | [], [], _, _, _, e => by simp at e
  | [], _ :: _, _, _, h, _ => h.elim
  | _ :: _, [], _, _, h, _ => h.elim
/-- x, and whether it is a rule -/
def RuV (K : PySem.W.Frag) (H : Hp) (x : V) (b : Bool) : Prop := (∃ a xs bs, x = .ref a ∧ SqT K H a xs ∧ WlVs K H xs bs ∧ bs.length ≤ 100 ∧ b = (decide (bs.length = 4) && bs.all id)) ∨ (NotT K H x "tuple" ∧ b = false)
theorem RuV.same {b : Bool} (h : RuV K H x b) (e : Same H H') : RuV K H' x b := h.elim (fun ⟨a, xs, bs, h1, h2, h3, h4⟩ => .inl ⟨a, xs, bs, h1, same_tup e h2, h3.same e, h4⟩) fun ⟨h1, h2⟩ => .inr ⟨h1.same e, h2⟩
theorem WlV.yes {b : Bool} (h : WlV K H x b) (t : b = true) : ∃ ns, IsW ns ∧ Dp K H x (wd ns) := by
  rcases h with ⟨d, h1, h2, rfl⟩ | ⟨_, rfl⟩
  · obtain ⟨ns, hn, rfl⟩ := worldD_of h2 t
    exact ⟨ns, hn, h1⟩
  · exact nomatch t
theorem len4 {α : Type} {l : List α} (h : l.length = 4) : ∃ a b c d, l = [a, b, c, d] := by
  rcases l with _ | ⟨a, _ | ⟨b, _ | ⟨c, _ | ⟨d, _ | ⟨e, t⟩⟩⟩⟩⟩
  · exact absurd h (by simp)
  · exact absurd h (by simp)
  · exact absurd h (by simp)
  · exact absurd h (by simp)
  · exact ⟨a, b, c, d, rfl⟩
  · exact absurd h (by simp)
theorem RuV.yes {b : Bool} (h : RuV K H x b) (t : b = true) : ∃ r, IsR r ∧ Dp K H x (rd r) := by
  rcases h with ⟨a, xs, bs, rfl, hS, hW, _, rfl⟩ | ⟨_, rfl⟩
  · rw [Bool.and_eq_true] at t
    have l4 := of_decide_eq_true t.1
    obtain ⟨b1, b2, b3, b4, rfl⟩ := len4 l4
    obtain ⟨y1, y2, y3, y4, rfl⟩ := len4 (hW.len.trans l4)
    obtain ⟨w1, w2, w3, w4, _⟩ := hW
    have al := t.2
    simp only [List.all_cons, List.all_nil, Bool.and_true, Bool.and_eq_true, id] at al
    obtain ⟨n1, i1, d1⟩ := w1.yes al.1
    obtain ⟨n2, i2, d2⟩ := w2.yes al.2.1
    obtain ⟨n3, i3, d3⟩ := w3.yes al.2.2.1
    obtain ⟨n4, i4, d4⟩ := w4.yes al.2.2.2
    exact ⟨(n1, n2, n3, n4), ⟨i1, i2, i3, i4⟩, .tup hS (.cons d1 (.cons d2 (.cons d3 (.cons d4 .nil))))⟩
  · exact nomatch t
end
section
variable {P : Program} {w : World} {K : PySem.W.Frag} {mg : Str → Option Value} {base : Heap} {f : Addr} {fd : FuncData} {k : Nat}
def spIsNameN (K : PySem.W.Frag) : Sp := fun vs H Q _ => ∃ x, vs = [x] ∧ NotT K H x "str" ∧ Q (.bl false) H
theorem ok_isNameN (F : Fun K "is_name" "is_name" sIsName f fd) (T : Bl mg) (mL : ∃ t, mg "LETTERS" = some (.str lettersS t)) : FnOk P w K mg base CX0 (k + 1) f fd ["thing"] (spIsNameN K) := by
  refine F.ok scIsName (fun vs H Q E h => let ⟨x, e, _⟩ := h; by rw [e]; rfl) (fun cdv A outer s H vs Q E hr h => ?_)
  obtain ⟨x, rfl, ⟨t, h1, h2⟩, q⟩ := h
  obtain ⟨tl, mL⟩ := mL
  refine ⟨_, pss_cons (ps_if (PW.pt (pw_or (pt_not (pt_val (pe_callB call_isi (by rfl) T.isi PyProof.Rows.boot_isinstance (pa_cons (pv 0) (pa_cons (pe_bltn (v := .ty "str") (by rfl) T.str (by decide +kernel) rfl) pa_nil)))))
      (pw_or1 (pt_cmpR op_eq (pv 0) pe_str (nomark _))))) (pss_one (ps_ret pe_bl)) pss_nil)
    (pss_one (ps_ret (pe_and (pe_chain op_le op_le pe_int (pe_callB call_len_str (by rfl) T.len PySem.boot_len (pa_cons (pv 0) pa_nil)) pe_int)
      (pe_one (pe_callB (cr_all rfl) (by rfl) T.all (by decide +kernel) (pa_cons (pe_lc (own := [("letter", 1)]) (g := gName 1) (by rfl) scIsName.nd (pi_str (pv 0)) (blkOk_by (N := ["thing", "letter"]) (sc := defScope sIsName) (by decide +kernel))
        (fun _ _ _ _ _ => pg_name (i := 1) scIsName.nd rfl (Or.inl rfl)) (fun _ _ _ _ _ => pts_nil) (fun _ _ _ _ _ => pe_cmpR op_in_sign (pv 1) (pe_glob (v := .str lettersS) (by rfl) mL ⟨_, rfl⟩) (by rfl))) pa_nil)))))), ?_⟩
  exact ⟨x, rfl, x, .ty "str", t, .type "str", false, rfl, .ty "str", h1, h2, false, rfl, iteT q⟩
def spIsNameX (K : PySem.W.Frag) : Sp := fun vs H Q _ => ∃ x b, vs = [x] ∧ NmV K H x b ∧ ∀ H', Same H H' → Q (.bl b) H'
theorem ok_isNameX (G : FnOk P w K mg base CX0 k f fd ["thing"] (spIsName K)) (G' : FnOk P w K mg base CX0 k f fd ["thing"] (spIsNameN K)) : FnOk P w K mg base CX0 k f fd ["thing"] (spIsNameX K) := by
  refine (fn_or G G').imp fun vs H Q E h => ?_
  obtain ⟨x, b, rfl, ⟨d, h1, h2, rfl⟩ | ⟨h1, rfl⟩, q⟩ := h
  · exact .inl ⟨x, d, rfl, h1, h2, q⟩
  · exact .inr ⟨x, rfl, h1, q H fun _ _ e => e⟩
/-- _are_names of a list of things -/
def spAreL (K : PySem.W.Frag) : Sp := fun vs H Q _ => ∃ (a : Addr) (xs : List V) (ds : List PyData), vs = [.ref a] ∧ SqL K H a xs ∧ DpAll K H xs ds ∧ (∀ d ∈ ds, oddN d) ∧ ds.length ≤ 1000 ∧ ∀ H', Same H H' → Q (.bl (ds.all nameD)) H'
theorem ok_areL {f1 : Addr} {fd1 : FuncData} (F : Fun K "_are_names" "_are_names" sAreNames f fd) (T : Bl mg) (G : FnOk P w K mg base CX0 k f1 fd1 ["thing"] (spIsName K)) (b1 : Binds K fd1 ["thing"] []) (k1 : PySem.W.keepIn K (.ref f1) = true) (m1 : mg "is_name" = some (.ref f1)) :
    FnOk P w K mg base CX0 (k + 1) f fd ["thing"] (spAreL K) := by
  refine F.ok scAreNames (fun vs H Q E h => let ⟨a, xs, ds, e, _⟩ := h; by rw [e]; rfl) (fun cdv A outer s H vs Q E hr h => ?_)
  obtain ⟨a, xs, ds, rfl, hS, hx, odd, few, q⟩ := h
  have xl := dpAll_len hx
  refine ⟨_, pss_one (ps_ret (pe_and (pe_callB call_isiT (by rfl) T.isi PyProof.Rows.boot_isinstance (pa_cons (pv 0) (pa_cons (pe_tup (pa_cons (pe_bltn (v := .ty "tuple") (by rfl) T.tuple (by decide +kernel) rfl) (pa_cons (pe_bltn (v := .ty "list") (by rfl) T.list (by decide +kernel) rfl) pa_nil))) pa_nil)))
      (pe_one (pe_callB (cr_all rfl) (by rfl) T.all (by decide +kernel) (pa_cons (pe_lc (own := [("item", 1)]) (g := gName 1) (by rfl) scAreNames.nd (pi_list (pv 0)) (blkOk_by (N := ["thing", "item"]) (sc := defScope sAreNames) (by decide +kernel))
        (fun _ _ _ _ _ => pg_name (i := 1) scAreNames.nd rfl (Or.inl rfl)) (fun _ _ _ _ _ => pts_nil) (fun _ _ _ _ _ => pe_call G hr (by rfl) m1 k1 b1 .nil pass0 (pa_cons (pv 1) pa_nil))) pa_nil))))), ?_⟩
  refine ⟨.ref a, rfl, by show 2 ≤ sizeLine; decide, fun T0 hT => ?_⟩
  have s0 : Same H (upd H T0 (.tup [.ty "tuple", .ty "list"])) := same_new hT _
  refine ⟨.ref a, T0, [.ty "tuple", .ty "list"], .type "list", [.type "tuple", .type "list"], true, rfl, upd_same, .cons (.ty _) (.cons (.ty _) .nil), tyx_dp (d := .list ds) (.lst (s0.seq hS) (dpAll_same s0 _ _ hx)), kitAny_cons (b := false) (kit_ty (by decide +kernel)) (fun _ => kitAny_cons (b := true) (kit_ty (by decide +kernel)) (fun z => nomatch z) fun _ => rfl) (fun z => nomatch z), true, rfl, iteT ?_⟩
  generalize upd H T0 (.tup [.ty "tuple", .ty "list"]) = H0 at s0 ⊢
  refine ⟨.ref a, rfl, a, rfl, ⟨_, s0.seq hS⟩, fun D hD => ?_⟩
  refine lc_list (xs := xs) (fun i H1 => Same H0 H1 ∧ H1 D = some (.lst ((ds.take i).map fun d => V.bl (nameD d)))) ⟨same_new hD _, upd_same⟩ (fun i H1 _ hI => (s0.trans hI.1).seq hS) (fun i x H1 hxi hI => ?_) (fun H1 hI => ?_)
  · obtain ⟨sm, hd⟩ := hI
    obtain ⟨d, hdi, hxd⟩ := dpAll_at' hx hxi
    have il : i < ds.length := (List.getElem?_eq_some_iff.mp hdi).1
    refine ⟨rfl, x, rfl, x, d, rfl, dp_same (s0.trans sm) _ _ hxd, odd d (List.mem_of_getElem? hdi), fun H2 sm2 => ⟨_, sm2 _ _ hd, small_line' (by rw [List.length_map, List.length_take]; omega), same_put (sm.trans sm2) hD, ?_⟩⟩
    rw [upd_same, take_snoc hdi, List.map_append]
    rfl
  · obtain ⟨sm, hd⟩ := hI
    rw [xl, List.take_length] at hd
    refine ⟨D, ds.map nameD, rfl, SqL.of (by rw [List.map_map]; exact hd), ?_⟩
    have z : (ds.map nameD).all id = ds.all nameD := by
      rw [List.all_map]
      rfl
    rw [z]
    exact q H1 (s0.trans sm)
def spAreN (K : PySem.W.Frag) : Sp := fun vs H Q _ => ∃ x, vs = [x] ∧ NotTL K H x ∧ ∀ H', Same H H' → Q (.bl false) H'
theorem ok_areN {f1 : Addr} {fd1 : FuncData} (F : Fun K "_are_names" "_are_names" sAreNames f fd) (T : Bl mg) (G : FnOk P w K mg base CX0 k f1 fd1 ["thing"] (spIsName K)) (b1 : Binds K fd1 ["thing"] []) (k1 : PySem.W.keepIn K (.ref f1) = true) (m1 : mg "is_name" = some (.ref f1)) :
    FnOk P w K mg base CX0 (k + 1) f fd ["thing"] (spAreN K) := by
  refine F.ok scAreNames (fun vs H Q E h => let ⟨x, e, _⟩ := h; by rw [e]; rfl) (fun cdv A outer s H vs Q E hr h => ?_)
  obtain ⟨x, rfl, hN, q⟩ := h
  refine ⟨_, pss_one (ps_ret (pe_and (pe_callB call_isiT (by rfl) T.isi PyProof.Rows.boot_isinstance (pa_cons (pv 0) (pa_cons (pe_tup (pa_cons (pe_bltn (v := .ty "tuple") (by rfl) T.tuple (by decide +kernel) rfl) (pa_cons (pe_bltn (v := .ty "list") (by rfl) T.list (by decide +kernel) rfl) pa_nil))) pa_nil)))
      (pe_one (pe_callB (cr_all rfl) (by rfl) T.all (by decide +kernel) (pa_cons (pe_lc (own := [("item", 1)]) (g := gName 1) (by rfl) scAreNames.nd (pi_list (pv 0)) (blkOk_by (N := ["thing", "item"]) (sc := defScope sAreNames) (by decide +kernel))
        (fun _ _ _ _ _ => pg_name (i := 1) scAreNames.nd rfl (Or.inl rfl)) (fun _ _ _ _ _ => pts_nil) (fun _ _ _ _ _ => pe_call G hr (by rfl) m1 k1 b1 .nil pass0 (pa_cons (pv 1) pa_nil))) pa_nil))))), ?_⟩
  refine ⟨x, rfl, by show 2 ≤ sizeLine; decide, fun T0 hT => ?_⟩
  have s0 : Same H (upd H T0 (.tup [.ty "tuple", .ty "list"])) := same_new hT _
  obtain ⟨t, h1, h2, h3⟩ := hN.same s0
  exact ⟨x, T0, [.ty "tuple", .ty "list"], t, [.type "tuple", .type "list"], false, rfl, upd_same, .cons (.ty _) (.cons (.ty _) .nil), h1, kitAny_cons (b := false) h2 (fun _ => kitAny_cons (b := false) h3 (fun _ => rfl) (fun z => nomatch z)) (fun z => nomatch z), false, rfl, iteF (q _ s0)⟩
def spAreX (K : PySem.W.Frag) : Sp := fun vs H Q _ => ∃ x b, vs = [x] ∧ ArV K H x b ∧ ∀ H', Same H H' → Q (.bl b) H'
theorem ok_areX (G : FnOk P w K mg base CX0 k f fd ["thing"] (spAreNames K)) (G2 : FnOk P w K mg base CX0 k f fd ["thing"] (spAreL K)) (G3 : FnOk P w K mg base CX0 k f fd ["thing"] (spAreN K)) : FnOk P w K mg base CX0 k f fd ["thing"] (spAreX K) := by
  refine (fn_or G (fn_or G2 G3)).imp fun vs H Q E h => ?_
  obtain ⟨x, b, rfl, ⟨a, xs, ds, rfl, hS | hS, hx, odd, few, rfl⟩ | ⟨hN, rfl⟩, q⟩ := h
  · exact .inl ⟨a, xs, ds, rfl, hS, hx, odd, by omega, q⟩
  · exact .inr (.inl ⟨a, xs, ds, rfl, hS, hx, odd, by omega, q⟩)
  · exact .inr (.inr ⟨x, rfl, hN, q⟩)
/-- is_world of what is no tuple -/
def spIsWorldN (K : PySem.W.Frag) : Sp := fun vs H Q _ => ∃ x, vs = [x] ∧ NotT K H x "tuple" ∧ Q (.bl false) H
theorem ok_isWorldN {f1 f2 : Addr} {fd1 fd2 : FuncData} (F : Fun K "is_world" "is_world" sIsWorld f fd) (T : Bl mg) (G1 : FnOk P w K mg base CX0 k f1 fd1 ["thing"] (spAreNames K)) (b1 : Binds K fd1 ["thing"] []) (k1 : PySem.W.keepIn K (.ref f1) = true) (m1 : mg "_are_names" = some (.ref f1))
    (G2 : FnOk P w K mg base CX0 k f2 fd2 ["names"] (spSetOf K)) (b2 : Binds K fd2 ["names"] []) (k2 : PySem.W.keepIn K (.ref f2) = true) (m2 : mg "_set_of" = some (.ref f2)) : FnOk P w K mg base CX0 (k + 1) f fd ["thing"] (spIsWorldN K) := by
  refine F.ok scIsWorld (fun vs H Q E h => let ⟨x, e, _⟩ := h; by rw [e]; rfl) (fun cdv A outer s H vs Q E hr h => ?_)
  obtain ⟨x, rfl, ⟨t, h1, h2⟩, q⟩ := h
  refine ⟨_, pss_one (ps_ret (pe_and (pe_callB call_isi (by rfl) T.isi PyProof.Rows.boot_isinstance (pa_cons (pv 0) (pa_cons (pe_bltn (v := .ty "tuple") (by rfl) T.tuple (by decide +kernel) rfl) pa_nil)))
    (pe_and (pe_call G1 hr (by rfl) m1 k1 b1 .nil pass0 (pa_cons (pv 0) pa_nil)) (pe_one (pe_cmpR (op_eqD hr.units) (pv 0) (pe_call G2 hr (by rfl) m2 k2 b2 .nil pass0 (pa_cons (pv 0) pa_nil)) (nomark _)))))), ?_⟩
  exact ⟨x, rfl, x, .ty "tuple", t, .type "tuple", false, rfl, .ty _, h1, h2, false, rfl, iteF q⟩
def spIsWorldX (K : PySem.W.Frag) : Sp := fun vs H Q _ => ∃ x b, vs = [x] ∧ WlV K H x b ∧ ∀ H', Same H H' → Q (.bl b) H'
theorem ok_isWorldX (G : FnOk P w K mg base CX0 k f fd ["thing"] (spIsWorld K)) (G' : FnOk P w K mg base CX0 k f fd ["thing"] (spIsWorldN K)) : FnOk P w K mg base CX0 k f fd ["thing"] (spIsWorldX K) := by
  refine (fn_or G G').imp fun vs H Q E h => ?_
  obtain ⟨x, b, rfl, ⟨d, h1, h2, rfl⟩ | ⟨h1, rfl⟩, q⟩ := h
  · exact .inl ⟨x, d, rfl, h1, h2, q⟩
  · exact .inr ⟨x, rfl, h1, q H fun _ _ e => e⟩
/-- is_rule of anything -/
def spIsRuleX (K : PySem.W.Frag) : Sp := fun vs H Q _ => ∃ x b, vs = [x] ∧ RuV K H x b ∧ ∀ H', Same H H' → Q (.bl b) H'
theorem ok_isRuleX {f1 : Addr} {fd1 : FuncData} (F : Fun K "is_rule" "is_rule" sIsRule f fd) (T : Bl mg) (G1 : FnOk P w K mg base CX0 k f1 fd1 ["thing"] (spIsWorldX K)) (b1 : Binds K fd1 ["thing"] []) (k1 : PySem.W.keepIn K (.ref f1) = true) (m1 : mg "is_world" = some (.ref f1)) :
    FnOk P w K mg base CX0 (k + 1) f fd ["thing"] (spIsRuleX K) := by
  refine F.ok scIsRule (fun vs H Q E h => let ⟨x, b, e, _⟩ := h; by rw [e]; rfl) (fun cdv A outer s H vs Q E hr h => ?_)
  obtain ⟨x, b, rfl, hx, q⟩ := h
  refine ⟨_, pss_one (ps_ret (pe_and (pe_callB call_isi (by rfl) T.isi PyProof.Rows.boot_isinstance (pa_cons (pv 0) (pa_cons (pe_bltn (v := .ty "tuple") (by rfl) T.tuple (by decide +kernel) rfl) pa_nil)))
    (pe_and (pe_cmpR op_eq (pe_callB call_len_seq (by rfl) T.len PySem.boot_len (pa_cons (pv 0) pa_nil)) pe_int (nomark _)) (pe_one (pe_callB (cr_all rfl) (by rfl) T.all (by decide +kernel) (pa_cons (pe_lc (own := [("part", 1)]) (g := gName 1) (by rfl) scIsRule.nd (pi_tup (pv 0)) (blkOk_by (N := ["thing", "part"]) (sc := defScope sIsRule) (by decide +kernel))
        (fun _ _ _ _ _ => pg_name (i := 1) scIsRule.nd rfl (Or.inl rfl)) (fun _ _ _ _ _ => pts_nil) (fun _ _ _ _ _ => pe_call G1 hr (by rfl) m1 k1 b1 .nil pass0 (pa_cons (pv 1) pa_nil))) pa_nil)))))), ?_⟩
  rcases hx with ⟨a, xs, bs, rfl, hS, hW, few, rfl⟩ | ⟨⟨t, h1, h2⟩, rfl⟩
  · have xl := hW.len
    refine ⟨.ref a, rfl, .ref a, .ty "tuple", .type "tuple", .type "tuple", true, rfl, .ty "tuple", tyx_tup hS, kit_ty (by decide +kernel), true, rfl, iteT ?_⟩
    refine ⟨.ref a, rfl, a, xs, rfl, .inr hS, rfl, decide (bs.length = 4), congrArg V.bl ?_, ?_⟩
    · rw [xl]
      by_cases c : bs.length = 4
      · rw [c]
        decide
      · rw [decide_eq_false c]
        simp [eqV, c]
        omega
    by_cases c : bs.length = 4
    · rw [decide_eq_true c]
      refine iteT ?_
      refine ⟨.ref a, rfl, a, rfl, ⟨_, hS⟩, fun D hD => ?_⟩
      refine lc_tup (xs := xs) (fun i H1 => Same H H1 ∧ H1 D = some (.lst ((bs.take i).map V.bl))) ⟨same_new hD _, upd_same⟩ (fun i H1 _ hI => same_tup hI.1 hS) (fun i x H1 hxi hI => ?_) (fun H1 hI => ?_)
      · obtain ⟨sm, hd⟩ := hI
        obtain ⟨b, hb, hxb⟩ := hW.at hxi
        refine ⟨rfl, x, rfl, x, b, rfl, hxb.same sm, fun H2 sm2 => ⟨_, sm2 _ _ hd, small_line' (by rw [List.length_map, List.length_take]; omega), same_put (sm.trans sm2) hD, ?_⟩⟩
        rw [upd_same, take_snoc hb, List.map_append]
        rfl
      · obtain ⟨sm, hd⟩ := hI
        rw [xl, List.take_length] at hd
        refine ⟨D, bs, rfl, SqL.of hd, ?_⟩
        have := q H1 sm
        rw [decide_eq_true c, Bool.true_and] at this
        exact this
    · rw [decide_eq_false c]
      refine iteF ?_
      have := q H fun _ _ e => e
      rw [decide_eq_false c, Bool.false_and] at this
      exact this
  · exact ⟨x, rfl, x, .ty "tuple", t, .type "tuple", false, rfl, .ty _, h1, h2, false, rfl, iteF (q H fun _ _ e => e)⟩
end
end Rw
namespace Rw
open PySem PySem.Spec PyProof.Rows L2
/-! ### what programs refuse -/
section
variable {P : Program} {w : World} {K : PySem.W.Frag} {mg : Str → Option Value} {base : Heap} {f : Addr} {fd : FuncData} {k : Nat} {ps : List Str} {sp sp' : Sp}
theorem fn_up (F : FnOk P w K mg base CX0 k f fd ps sp) : FnOk P w K mg base (L2.CX P w) k f fd ps sp :=
  ⟨F.len, fun A outer s H args us vs Q E hr he hb hv hs => codeAny_mono (F.run A outer s H args us vs Q E hr he hb hv hs) fun r s' hq => by
    cases r with
    | error e => exact False.elim hq
    | ok fl => cases fl <;> exact hq⟩
theorem fnR_up (F : FnR P w K mg base CX0 k f sp) : FnR P w K mg base (L2.CX P w) k f sp := fun A outer s H us vs Q E hr e r h => codeAny_mono (F A outer s H us vs Q E hr e r h) fun rr s' hq => by
  cases rr with
  | error e => exact False.elim hq
  | ok fl => cases fl <;> exact hq
theorem fnR_or {CX : CXT} (F : FnR P w K mg base CX k f sp) (F' : FnR P w K mg base CX k f sp') : FnR P w K mg base CX k f (fun vs H Q E => sp vs H Q E ∨ sp' vs H Q E) := fun A outer s H us vs Q E hr e r h => h.elim (F A outer s H us vs Q E hr e r) (F' A outer s H us vs Q E hr e r)
end
abbrev sERule : Stmt := inClass (topS 3) 0
abbrev sENames : Stmt := inClass (topS 6) 0
theorem scERule : FnScope ["self", "place"] ["self", "place"] (defScope sERule) := ⟨rfl, rfl, rfl, by decide +kernel, rfl, by decide +kernel, by decide +kernel⟩
theorem scENames : FnScope ["self", "thing"] ["self", "thing"] (defScope sENames) := ⟨rfl, rfl, rfl, by decide +kernel, rfl, by decide +kernel, by decide +kernel⟩
/-- a thing that is no program -/
def NotP (K : PySem.W.Frag) (C : Addr) (H : Hp) (x : V) : Prop := ∃ t, TyX K H x t ∧ PySem.W.kitOne K t (.ref C) = some false
theorem NotP.same {K : PySem.W.Frag} {C : Addr} {H H' : Hp} {x : V} (h : NotP K C H x) (e : Same H H') : NotP K C H' x := let ⟨t, h1, h2⟩ := h; ⟨t, tyx_same e h1, h2⟩
def RuVs (K : PySem.W.Frag) (H : Hp) : List V → List Bool → Prop
  | [], [] => True
  | x :: xs, b :: bs => RuV K H x b ∧ RuVs K H xs bs
  | _, _ => False
section
variable {K : PySem.W.Frag} {H H' : Hp}
theorem RuVs.same (e : Same H H') : ∀ {xs : List V} {bs : List Bool}, RuVs K H xs bs → RuVs K H' xs bs
  | [], [], _ => True.intro
  | _ :: _, _ :: _, ⟨h, t⟩ => ⟨h.same e, RuVs.same e t⟩
  | [], _ :: _, h => h.elim
  | _ :: _, [], h => h.elim
theorem RuVs.len : ∀ {xs : List V} {bs : List Bool}, RuVs K H xs bs → xs.length = bs.length
  | [], [], _ => rfl
  | _ :: _, _ :: _, ⟨_, t⟩ => by rw [List.length_cons, List.length_cons, RuVs.len t]
  | [], _ :: _, h => h.elim
  | _ :: _, [], h => h.elim
theorem RuVs.at : ∀ {xs : List V} {bs : List Bool} {i : Nat} {x : V}, RuVs K H xs bs → xs[i]? = some x → ∃ b, bs[i]? = some b ∧ RuV K H x b
  | x :: xs, b :: bs, 0, y, ⟨h, _⟩, e => ⟨b, rfl, (show x = y by simpa using e) ▸ h⟩
  | x :: xs, b :: bs, i + 1, y, ⟨_, t⟩, e => by
    obtain ⟨b, h1, h2⟩ := RuVs.at (i := i) t (by simpa using e)
    exact ⟨b, by simpa using h1, h2⟩
  | [], [], _, _, _, e => by simp at e
  | [], _ :: _, _, _, h, _ => h.elim
  | _ :: _, [], _, _, h, _ => h.elim
/-- rules all -/
theorem RuVs.all : ∀ {xs : List V} {bs : List Bool}, RuVs K H xs bs → bs.all id = true → ∃ L : List Rl, DpAll K H xs (L.map rd) ∧ (∀ r ∈ L, IsR r) ∧ L.length = bs.length
  | [], [], _, _ => ⟨[], .nil, (fun _ z => nomatch z), rfl⟩
  | x :: xs, b :: bs, ⟨h, t⟩, e => by
    rw [List.all_cons, Bool.and_eq_true] at e
    obtain ⟨r, hr, hx⟩ := h.yes e.1
    obtain ⟨L, hL, hI, hl⟩ := RuVs.all t e.2
    exact ⟨r :: L, .cons hx hL, fun y hy => (List.mem_cons.mp hy).elim (fun z => z ▸ hr) (hI y), by rw [List.length_cons, List.length_cons, hl]⟩
  | [], _ :: _, h, _ => h.elim
  | _ :: _, [], h, _ => h.elim
end
section
variable {P : Program} {w : World} {K : PySem.W.Frag} {mg : Str → Option Value} {base : Heap} {f : Addr} {fd : FuncData} {k : Nat}
theorem ok_eRule {C : Addr} (F : FunD K "__init__" "InvalidRule.__init__" (defArgs sERule) (defBody sERule) (defScope sERule) [.non] [] f fd) (O : OexC K C) (no : PySem.W.findIn K (.ref C) "place" = some none) : FnOk P w K mg base CX0 (k + 1) f fd ["self", "place"] (spErr C "place") := by
  refine F.ok scERule (fun vs H Q E h => let ⟨a, v, e, _⟩ := h; by rw [e]; rfl) (fun cdv A outer s H vs Q E hr h => ?_)
  obtain ⟨a, v, rfl, ha, q⟩ := h
  exact ⟨_, PSs.nox (pss_one (ps_ost (pv 0) (pv 1))), v, rfl, .ref a, rfl, a, C, rfl, O, no, .inl ⟨ha, fun dx h1 h2 => q dx h1 h2⟩⟩
theorem ok_eNames {C : Addr} (F : FunD K "__init__" "InvalidNames.__init__" (defArgs sENames) (defBody sENames) (defScope sENames) [.non] [] f fd) (O : OexC K C) (no : PySem.W.findIn K (.ref C) "thing" = some none) : FnOk P w K mg base CX0 (k + 1) f fd ["self", "thing"] (spErr C "thing") := by
  refine F.ok scENames (fun vs H Q E h => let ⟨a, v, e, _⟩ := h; by rw [e]; rfl) (fun cdv A outer s H vs Q E hr h => ?_)
  obtain ⟨a, v, rfl, ha, q⟩ := h
  exact ⟨_, PSs.nox (pss_one (ps_ost (pv 0) (pv 1))), v, rfl, .ref a, rfl, a, C, rfl, O, no, .inl ⟨ha, fun dx h1 h2 => q dx h1 h2⟩⟩
/-- Program.__init__ where the thing at place i is the first that is no rule -/
def spInitR (K : PySem.W.Frag) (C CR : Addr) : Sp := fun vs H _ E => ∃ (x : Addr) (xs : List V) (bs : List Bool) (i : Nat), vs = .ref x :: xs ∧ RuVs K H xs bs ∧ xs.length ≤ 100 ∧ bs[i]? = some false ∧ (∀ j, j < i → bs[j]? = some true) ∧
  ∀ H' dx, Same H H' → H' dx = none → E (.ref CR) (some dx) (upd H' dx (.xd [(("place" : Str), .int (i : Nat))]))
theorem ok_initR {C CR f1 : Addr} {fd1 : FuncData} {name qual : Str} {kV doc pm cdv ct oc : Value} {an od : Option Addr} {osl : Array (Option Value)}
    (lk : K.lookup f = some ⟨oc, od, .func (PySem.W.fnOf name qual (defArgs sInit) (defBody sInit) (defScope sInit) .none kV doc pm an cdv ct), osl⟩) (hcd : PySem.W.codeIn K cdv qual = true) (T : Bl mg) (X : ErrT P w K mg base k "InvalidRule" "place" CR)
    (G1 : FnOk P w K mg base CX0 (k + 1) f1 fd1 ["thing"] (spIsRuleX K)) (b1 : Binds K fd1 ["thing"] []) (k1 : PySem.W.keepIn K (.ref f1) = true) (m1 : mg "is_rule" = some (.ref f1)) : FnR P w K mg base (L2.CX P w) (k + 2) f (spInitR K C CR) := by
  obtain ⟨fE, fdE, i1, i2, i3, i4⟩ := X.ex
  have main := StX.fn_star (CX := L2.CX P w) (P := P) (w := w) (mg := mg) (base := base) (k := k + 1) (N := ["self", "rules", "place", "row"]) (ps := ["self"]) (pv := "rules") (sp := fun vs H Q E => ∃ (x p : Addr) (xs : List V) (bs : List Bool) (i : Nat), vs = [.ref x, .ref p] ∧ SqT K H p xs ∧ RuVs K H xs bs ∧ xs.length ≤ 100 ∧ bs[i]? = some false ∧ (∀ j, j < i → bs[j]? = some true) ∧
      ∀ H' dx, Same H H' → H' dx = none → E (.ref CR) (some dx) (upd H' dx (.xd [(("place" : Str), .int (i : Nat))]))) lk hcd scInit StX.cxUp (StX.bind_star1 (p1 := "self") (pv := "rules") (B := fun vs => bindArgs (PySem.W.fnOf name qual (defArgs sInit) (defBody sInit) (defScope sInit) .none kV doc pm an cdv ct) { pos := vs }) (fun _ => by first | rfl | with_unfolding_all rfl) (fun _ _ _ => by first | rfl | with_unfolding_all rfl)) (fun A outer s H vs Q E hr h => ?_)
  · intro A outer s H us vs Q E hr e0 r h
    refine main A outer s H us vs Q E hr e0 r ?_
    obtain ⟨x, xs, bs, i, rfl, hx, few, e1, e2, q⟩ := h
    refine ⟨[.ref x], xs, rfl, rfl, small_line (by omega), fun p hp => ?_⟩
    have sp := same_new hp (.tup xs)
    exact ⟨x, p, xs, bs, i, rfl, SqT.of upd_same, hx.same sp, few, e1, e2, fun H' dx s hd => q H' dx (sp.trans s) hd⟩
  obtain ⟨x, p, xs, bs, i, rfl, hp, hx, few, e1, e2, q⟩ := h
  have ilt : i < xs.length := by
    rw [hx.len]
    exact (List.getElem?_eq_some_iff.mp e1).1
  refine ⟨_, pss_cons (ps_for (passes_of rfl) rfl (pi_enumT (by rfl) T.enum (pa_cons (pv 1) pa_nil)) (pg_tup (by rfl) (pgs_cons (pg_name (i := 2) scInit.nd rfl (.inl rfl)) (pgs_cons (pg_name (i := 3) scInit.nd rfl (.inl rfl)) pgs_nil)))
      (pss_one (ps_if (pt_not (pt_val (pe_call G1 hr (by rfl) m1 k1 b1 .nil pass0 (pa_cons (pv 3) pa_nil)))) (pss_one (ps_raise rfl (takes_of rfl rfl rfl rfl) (pmk_oex X.oex i1 i2 i3 hr i4 .nil pass0 (by rfl) X.m (pa_cons (pv 2) pa_nil)))) pss_nil)))
    pss_never, ?_⟩
  refine ⟨.ref p, rfl, p, xs, rfl, hp, for_enumT (xs := xs) (fun j σ H1 => (∃ y2 y3, σ = [some (.ref x), some (.ref p), y2, y3]) ∧ Same H H1 ∧ j ≤ i) ⟨⟨none, none, rfl⟩, (fun _ _ e => e), Nat.zero_le _⟩ (fun j σ H1 _ hI => same_tup hI.2.1 hp) (fun j v σ H1 T0 hv hI hT => ?_) (fun σ H1 hI => ?_)⟩
  · obtain ⟨⟨y2, y3, rfl⟩, sm, jl⟩ := hI
    obtain ⟨b, hb, hvb⟩ := hx.at hv
    have st := same_new hT (.tup [.int (j : Int), v])
    refine ⟨T0, [.int (j : Int), v], rfl, SqT.of upd_same, rfl, .int (j : Int), [v], rfl, v, [], rfl, rfl, ?_⟩
    refine ⟨v, rfl, v, b, rfl, hvb.same (sm.trans st), fun H2 s2 => ⟨b, rfl, ?_⟩⟩
    have all := sm.trans (st.trans s2)
    rcases Nat.lt_or_ge j i with lt | ge
    · rw [e2 j lt] at hb
      cases hb
      exact iteF ⟨⟨_, _, rfl⟩, all, lt⟩
    · obtain rfl : j = i := Nat.le_antisymm jl ge
      rw [e1] at hb
      cases hb
      exact iteT ⟨.int (j : Int), rfl, err_made fun dx hd => q H2 dx all hd⟩
  · obtain ⟨_, _, jl⟩ := hI
    exact absurd ilt (by omega)
/-- Program(..) refused -/
theorem made_no {C CR : Addr} {H : Hp} {xs : List V} {bs : List Bool} {i : Nat} {Q : VK} {E : XK} (hx : RuVs K H xs bs) (few : xs.length ≤ 100) (e1 : bs[i]? = some false) (e2 : ∀ j, j < i → bs[j]? = some true)
    (q : ∀ H' dx, Same H H' → H' dx = none → E (.ref CR) (some dx) (upd H' dx (.xd [(("place" : Str), .int (i : Nat))]))) :
    ∀ x dx, H x = none → H dx = none → dx ≠ x → spInitR K C CR (.ref x :: xs) (upd (upd H dx (.own x)) x (.ins C dx [])) (fun v H2 => v = .non ∧ Q (.ref x) H2) E := fun x dx hx0 hd0 ne => by
  have s1 := same_new hd0 (.own x)
  have hx1 : (upd H dx (.own x)) x = none := by
    rw [upd_ne ne.symm]
    exact hx0
  have s2 := s1.trans (same_new hx1 (.ins C dx []))
  exact ⟨x, xs, bs, i, rfl, hx.same s2, few, e1, e2, fun H' dx' s hd => q H' dx' (s2.trans s) hd⟩
/-- both ways of Program.__init__ -/
def spInitX (K : PySem.W.Frag) (C CR : Addr) : Sp := fun vs H Q E => spInit K C vs H Q E ∨ spInitR K C CR vs H Q E
/-- Program.of refused -/
def spOfR (K : PySem.W.Frag) (C CR : Addr) : Sp := fun vs H _ E => ∃ (l : Addr) (xs : List V) (bs : List Bool) (i : Nat), vs = [.ref C, .ref l] ∧ (SqT K H l xs ∨ SqL K H l xs) ∧ RuVs K H xs bs ∧ xs.length ≤ 100 ∧ bs[i]? = some false ∧ (∀ j, j < i → bs[j]? = some true) ∧
  ∀ H' dx, Same H H' → H' dx = none → E (.ref CR) (some dx) (upd H' dx (.xd [(("place" : Str), .int (i : Nat))]))
theorem ok_ofR {C CR f1 : Addr} (F : Fun K "of" "Program.of" sOf f fd) (M : Mk K C f1) (G : FnR P w K mg base (L2.CX P w) k f1 (spInitR K C CR)) : FnOk P w K mg base (L2.CX P w) (k + 2) f fd ["cls", "rules"] (spOfR K C CR) := by
  refine F.okX scOf (fun vs H Q E h => let ⟨l, xs, bs, i, e, _⟩ := h; by rw [e]; rfl) (fun cdv A outer s H vs Q E hr h => ?_)
  obtain ⟨l, xs, bs, i, rfl, hS, hx, few, e1, e2, q⟩ := h
  refine ⟨_, pss_one (ps_ret (pe_makeSL (i := 0) (E := E) M G hr rfl (.inl rfl) (passes_call (takes_of rfl rfl rfl rfl) fun _ _ _ _ z => z) (pv 1))), ?_⟩
  exact ⟨rfl, .ref l, rfl, l, xs, rfl, hS, made_no (C := C) (Q := Q) hx few e1 e2 q⟩
/-- facts refused -/
def spFactsR (K : PySem.W.Frag) (CW : Addr) : Sp := fun vs H _ E => ∃ (y x : V), vs = [y, x] ∧ WlV K H x false ∧ ∀ H' dx, Same H H' → H' dx = none → E (.ref CW) (some dx) (upd H' dx (.xd [(("thing" : Str), x)]))
theorem ok_factsR {CW f1 : Addr} {fd1 : FuncData} (F : Fun K "facts" "Program.facts" sFacts f fd) (X : ErrT P w K mg base k "InvalidWorld" "thing" CW)
    (G1 : FnOk P w K mg base CX0 (k + 1) f1 fd1 ["thing"] (spIsWorldX K)) (b1 : Binds K fd1 ["thing"] []) (k1 : PySem.W.keepIn K (.ref f1) = true) (m1 : mg "is_world" = some (.ref f1)) : FnOk P w K mg base (L2.CX P w) (k + 2) f fd ["cls", "world"] (spFactsR K CW) := by
  obtain ⟨fE, fdE, i1, i2, i3, i4⟩ := X.ex
  refine F.okX scFacts (fun vs H Q E h => let ⟨y, x, e, _⟩ := h; by rw [e]; rfl) (fun cdv A outer s H vs Q E hr h => ?_)
  obtain ⟨y, x, rfl, hx, q⟩ := h
  refine ⟨_, pss_cons (ps_if (pt_not (pt_val (pe_call G1 hr (by rfl) m1 k1 b1 .nil pass0 (pa_cons (pv 1) pa_nil))))
      (pss_one (ps_raise rfl (takes_of rfl rfl rfl rfl) (pmk_oex X.oex i1 i2 i3 hr i4 .nil pass0 (by rfl) X.m (pa_cons (pv 1) pa_nil)))) pss_nil) pss_never, ?_⟩
  exact ⟨x, rfl, x, false, rfl, hx, fun H1 s1 => ⟨false, rfl, iteT ⟨x, rfl, err_made fun dx hd => q H1 dx s1 hd⟩⟩⟩
/-- one + other, one - other: other is no program -/
def spOpR (K : PySem.W.Frag) (C CP : Addr) : Sp := fun vs H _ E => ∃ (x y : V), vs = [x, y] ∧ NotP K C H y ∧ ∀ H' dx, Same H H' → H' dx = none → E (.ref CP) (some dx) (upd H' dx (.xd [(("thing" : Str), y)]))
theorem ok_addR {C CP : Addr} (F : Fun K "__add__" "Program.__add__" sAdd f fd) (T : Bl mg) (G : PgC K mg C) (X : ErrT P w K mg base k "NotAProgram" "thing" CP) : FnOk P w K mg base (L2.CX P w) (k + 2) f fd ["self", "other"] (spOpR K C CP) := by
  obtain ⟨fE, fdE, i1, i2, i3, i4⟩ := X.ex
  refine F.okX scAdd (fun vs H Q E h => let ⟨x, y, e, _⟩ := h; by rw [e]; rfl) (fun cdv A outer s H vs Q E hr h => ?_)
  obtain ⟨x, y, rfl, ⟨t, h1, h2⟩, q⟩ := h
  refine ⟨_, pss_cons (ps_if (pt_not (pt_val (pe_callB call_isi (by rfl) T.isi PyProof.Rows.boot_isinstance (pa_cons (pv 1) (pa_cons (pe_glob (v := .ref C) (by rfl) G.m rfl) pa_nil)))))
      (pss_one (ps_raise rfl (takes_of rfl rfl rfl rfl) (pmk_oex X.oex i1 i2 i3 hr i4 .nil pass0 (by rfl) X.m (pa_cons (pv 1) pa_nil)))) pss_nil) pss_never, ?_⟩
  exact ⟨y, rfl, y, .ref C, t, .ref C, false, rfl, .own C, h1, h2, false, rfl, iteT ⟨y, rfl, err_made fun dx hd => q H dx (fun _ _ e => e) hd⟩⟩
theorem ok_subR {C CP : Addr} (F : Fun K "__sub__" "Program.__sub__" sSub f fd) (T : Bl mg) (G : PgC K mg C) (X : ErrT P w K mg base k "NotAProgram" "thing" CP) : FnOk P w K mg base (L2.CX P w) (k + 2) f fd ["self", "other"] (spOpR K C CP) := by
  obtain ⟨fE, fdE, i1, i2, i3, i4⟩ := X.ex
  refine F.okX scSub (fun vs H Q E h => let ⟨x, y, e, _⟩ := h; by rw [e]; rfl) (fun cdv A outer s H vs Q E hr h => ?_)
  obtain ⟨x, y, rfl, ⟨t, h1, h2⟩, q⟩ := h
  refine ⟨_, pss_cons (ps_if (pt_not (pt_val (pe_callB call_isi (by rfl) T.isi PyProof.Rows.boot_isinstance (pa_cons (pv 1) (pa_cons (pe_glob (v := .ref C) (by rfl) G.m rfl) pa_nil)))))
      (pss_one (ps_raise rfl (takes_of rfl rfl rfl rfl) (pmk_oex X.oex i1 i2 i3 hr i4 .nil pass0 (by rfl) X.m (pa_cons (pv 1) pa_nil)))) pss_nil) pss_never, ?_⟩
  exact ⟨y, rfl, y, .ref C, t, .ref C, false, rfl, .own C, h1, h2, false, rfl, iteT ⟨y, rfl, err_made fun dx hd => q H dx (fun _ _ e => e) hd⟩⟩
end
end Rw
namespace Rw
open PySem PySem.Spec PyProof.Rows L2
/-! ### rule, choice refused -/
def ArVs (K : PySem.W.Frag) (H : Hp) : List V → List Bool → Prop
  | [], [] => True
  | x :: xs, b :: bs => ArV K H x b ∧ ArVs K H xs bs
  | _, _ => False
section
variable {K : PySem.W.Frag} {H H' : Hp}
theorem ArVs.same (e : Same H H') : ∀ {xs : List V} {bs : List Bool}, ArVs K H xs bs → ArVs K H' xs bs
  | [], [], _ => True.intro
  | _ :: _, _ :: _, ⟨h, t⟩ => ⟨h.same e, ArVs.same e t⟩
  | [], _ :: _, h => h.elim
  | _ :: _, [], h => h.elim
theorem ArVs.at : ∀ {xs : List V} {bs : List Bool} {i : Nat} {x : V}, ArVs K H xs bs → xs[i]? = some x → ∃ b, bs[i]? = some b ∧ ArV K H x b
  | x :: xs, b :: bs, 0, y, ⟨h, _⟩, e => ⟨b, rfl, (show x = y by simpa using e) ▸ h⟩
  | x :: xs, b :: bs, i + 1, y, ⟨_, t⟩, e => by
    obtain ⟨b, h1, h2⟩ := ArVs.at (i := i) t (by simpa using e)
    exact ⟨b, by simpa using h1, h2⟩
  | [], [], _, _, _, e => by simp at e
  | [], _ :: _, _, _, h, _ => h.elim
  | _ :: _, [], _, _, h, _ => h.elim
theorem ArV.yes {x : V} {b : Bool} (h : ArV K H x b) (t : b = true) : ∃ ns, NsOk K H x ns := by
  rcases h with ⟨a, xs, ds, rfl, hS, hx, _, few, rfl⟩ | ⟨_, rfl⟩
  · obtain ⟨e, hn⟩ := strs_of t
    have ex : xs = (ds.map strOf).map V.str := dps_str (K := K) (H := H) (by rw [← e]; exact hx)
    rw [ex] at hS
    exact ⟨ds.map strOf, ⟨a, rfl, hS.elim .inr .inl⟩, hn, by rw [List.length_map]; omega⟩
  · exact nomatch t
theorem NsOk.ar {x : V} {ns : W} (h : NsOk K H x ns) (few : ns.length ≤ 900) : ArV K H x true := by
  obtain ⟨⟨a, rfl, hS⟩, hn, _⟩ := h
  refine .inl ⟨a, _, ns.map .str, rfl, hS.elim .inr .inl, dps_strs ns, fun d hd => ?_, by rw [List.length_map]; exact few, ?_⟩
  · obtain ⟨z, hz, rfl⟩ := List.mem_map.mp hd
    exact oddN_name (hn z hz)
  · rw [List.all_map]
    exact (List.all_eq_true.mpr fun z hz => hn z hz).symm
end
section
variable {P : Program} {w : World} {K : PySem.W.Frag} {mg : Str → Option Value} {base : Heap} {f : Addr} {fd : FuncData} {k : Nat}
def spRuleR (K : PySem.W.Frag) (CN : Addr) : Sp := fun vs H _ E => ∃ (x1 x2 x3 x4 y : V) (bs : List Bool) (i : Nat), vs = [x1, x2, x3, x4] ∧ ArVs K H vs bs ∧ bs[i]? = some false ∧ (∀ j, j < i → bs[j]? = some true) ∧ vs[i]? = some y ∧
  ∀ H' dx, Same H H' → H' dx = none → E (.ref CN) (some dx) (upd H' dx (.xd [(("thing" : Str), y)]))
theorem ok_ruleR {f1 CN : Addr} {fd1 : FuncData} {dvs : List V} (F : FunD K "rule" "rule" (defArgs sRule) (defBody sRule) (defScope sRule) dvs [] f fd) (X : ErrT P w K mg base k "InvalidNames" "thing" CN)
    (G1 : FnOk P w K mg base CX0 (k + 1) f1 fd1 ["thing"] (spAreX K)) (b1 : Binds K fd1 ["thing"] []) (k1 : PySem.W.keepIn K (.ref f1) = true) (m1 : mg "_are_names" = some (.ref f1)) : FnOk P w K mg base (L2.CX P w) (k + 2) f fd ["heads", "needs", "bars", "denied"] (spRuleR K CN) := by
  obtain ⟨fE, fdE, i1, i2, i3, i4⟩ := X.ex
  refine F.ok (CX := L2.CX P w) scRule (fun vs H Q E h => let ⟨x1, x2, x3, x4, y, bs, i, e, _⟩ := h; by rw [e]; rfl) (fun cdv A outer s H vs Q E hr h => ?_)
  obtain ⟨x1, x2, x3, x4, y, bs, i, rfl, hx, e1, e2, ey, q⟩ := h
  have ilt : i < 4 := (List.getElem?_eq_some_iff.mp ey).1
  refine ⟨_, pss_cons (ps_for (passes_of rfl) rfl (pi_tup (pe_tup (pa_cons (pv 0) (pa_cons (pv 1) (pa_cons (pv 2) (pa_cons (pv 3) pa_nil)))))) (pg_name (i := 4) scRule.nd rfl (.inl rfl))
      (pss_one (ps_if (pt_not (pt_val (pe_call G1 hr (by rfl) m1 k1 b1 .nil pass0 (pa_cons (pv 4) pa_nil)))) (pss_one (ps_raise rfl (takes_of rfl rfl rfl rfl) (pmk_oex X.oex i1 i2 i3 hr i4 .nil pass0 (by rfl) X.m (pa_cons (pv 4) pa_nil)))) pss_nil)))
    pss_never, ?_⟩
  refine ⟨x1, rfl, x2, rfl, x3, rfl, x4, rfl, by show 4 ≤ sizeLine; decide, fun t ht => ?_⟩
  have s0 := same_new ht (.tup [x1, x2, x3, x4])
  let H0 : Hp := upd H t (.tup [x1, x2, x3, x4])
  have hT0 : SqT K H0 t [x1, x2, x3, x4] := SqT.of upd_same
  refine ⟨t, rfl, ⟨_, hT0⟩, for_tup (xs := [x1, x2, x3, x4]) (fun j σ H1 => (∃ y4, σ = [some x1, some x2, some x3, some x4, y4]) ∧ Same H0 H1 ∧ j ≤ i) ⟨⟨_, rfl⟩, (fun _ _ e => e), Nat.zero_le _⟩ (fun j σ H1 _ hI => same_tup hI.2.1 hT0) (fun j x σ H1 hxj hI => ?_) (fun σ H1 hI => ?_)⟩
  · obtain ⟨⟨y4, rfl⟩, sm, jl⟩ := hI
    obtain ⟨b, hb, hxb⟩ := hx.at hxj
    refine ⟨x, rfl, x, b, rfl, hxb.same (s0.trans sm), fun H2 s2 => ⟨b, rfl, ?_⟩⟩
    have all := s0.trans (sm.trans s2)
    rcases Nat.lt_or_ge j i with lt | ge
    · rw [e2 j lt] at hb
      cases hb
      exact iteF ⟨⟨_, rfl⟩, sm.trans s2, lt⟩
    · obtain rfl : j = i := Nat.le_antisymm jl ge
      rw [e1] at hb
      cases hb
      have ex : x = y := Option.some.inj (hxj.symm.trans ey)
      exact iteT ⟨x, rfl, err_made fun dx hd => by rw [ex]; exact q H2 dx all hd⟩
  · obtain ⟨_, _, jl⟩ := hI
    have : 4 ≤ i := jl
    omega
/-- choice refused: the name is none, or needs or bars are no names -/
def spChoiceR (K : PySem.W.Frag) (CN : Addr) : Sp := fun vs H _ E => ∃ (x1 x2 x3 y : V) (b1 b2 b3 : Bool), vs = [x1, x2, x3] ∧ NmV K H x1 b1 ∧ ArV K H x2 b2 ∧ ArV K H x3 b3 ∧ ((b1 = false ∧ y = x1) ∨ (b1 = true ∧ b2 = false ∧ y = x2) ∨ (b1 = true ∧ b2 = true ∧ b3 = false ∧ y = x3)) ∧
  ∀ H' dx, Same H H' → H' dx = none → E (.ref CN) (some dx) (upd H' dx (.xd [(("thing" : Str), y)]))
theorem NmV.str {H : Hp} {x : V} {b : Bool} (h : NmV K H x b) (t : b = true) : ∃ z, x = .str z ∧ nameB z = true := by
  rcases h with ⟨d, h1, _, rfl⟩ | ⟨_, rfl⟩
  · cases d with
    | str z =>
      cases h1
      exact ⟨z, rfl, t⟩
    | _ => exact nomatch t
  · exact nomatch t
theorem ok_choiceR {f1 f2 CN : Addr} {fd1 fd2 : FuncData} {dvs : List V} (F : FunD K "choice" "choice" (defArgs sChoice) (defBody sChoice) (defScope sChoice) dvs [] f fd) (X : ErrT P w K mg base k "InvalidNames" "thing" CN)
    (G1 : FnOk P w K mg base CX0 (k + 1) f1 fd1 ["thing"] (spIsNameX K)) (b1 : Binds K fd1 ["thing"] []) (k1 : PySem.W.keepIn K (.ref f1) = true) (m1 : mg "is_name" = some (.ref f1))
    (G2 : FnOk P w K mg base (L2.CX P w) (k + 1) f2 fd2 ["heads", "needs", "bars", "denied"] (spRuleR K CN)) (b2 : Binds K fd2 ["heads", "needs", "bars", "denied"] []) (k2 : PySem.W.keepIn K (.ref f2) = true) (m2 : mg "rule" = some (.ref f2)) : FnOk P w K mg base (L2.CX P w) (k + 2) f fd ["name", "needs", "bars"] (spChoiceR K CN) := by
  obtain ⟨fE, fdE, i1, i2, i3, i4⟩ := X.ex
  refine F.ok (CX := L2.CX P w) scChoice (fun vs H Q E h => let ⟨x1, x2, x3, y, c1, c2, c3, e, _⟩ := h; by rw [e]; rfl) (fun cdv A outer s H vs Q E hr h => ?_)
  obtain ⟨x1, x2, x3, y, c1, c2, c3, rfl, h1, h2, h3, hy, q⟩ := h
  refine ⟨_, pss_cons (ps_if (pt_not (pt_val (pe_call G1 hr (by rfl) m1 k1 b1 .nil pass0 (pa_cons (pv 0) pa_nil)))) (pss_one (ps_raise rfl (takes_of rfl rfl rfl rfl) (pmk_oex X.oex i1 i2 i3 hr i4 .nil pass0 (by rfl) X.m (pa_cons (pv 0) pa_nil)))) pss_nil)
    (pss_one (ps_ret (pe_call (E := E) G2 hr (by rfl) m2 k2 b2 .nil (passes_call (takes_of rfl rfl rfl rfl) fun _ _ _ _ z => z) (pa_cons (pe_tup (pa_cons (pv 0) pa_nil)) (pa_cons (pv 1) (pa_cons (pv 2) (pa_cons (pe_tup (pa_cons (pv 0) pa_nil)) pa_nil))))))), ?_⟩
  refine ⟨x1, rfl, x1, c1, rfl, h1, fun H1 s1 => ⟨c1, rfl, ?_⟩⟩
  rcases (show (c1 = false ∧ y = x1) ∨ (c1 = true ∧ ((c2 = false ∧ y = x2) ∨ (c2 = true ∧ c3 = false ∧ y = x3))) from hy.elim .inl fun z => .inr (z.elim (fun z => ⟨z.1, .inl z.2⟩) fun z => ⟨z.1, .inr z.2⟩)) with ⟨e, ey⟩ | ⟨e, hz⟩
  · subst e
    exact iteT ⟨x1, rfl, err_made fun dx hd => by rw [← ey]; exact q H1 dx s1 hd⟩
  · subst e
    obtain ⟨z, rfl, nz⟩ := h1.str rfl
    refine iteF ⟨.str z, rfl, by show 1 ≤ sizeLine; decide, fun u hu => ?_⟩
    have su := same_new hu (.tup [.str z])
    refine ⟨x2, rfl, x3, rfl, .str z, rfl, by show 1 ≤ sizeLine; decide, fun u2 hu2 => ?_⟩
    have su2 := same_new hu2 (.tup [.str z])
    have s13 := s1.trans (su.trans su2)
    have one : ∀ p, (upd (upd H1 u (.tup [.str z])) u2 (.tup [.str z])) p = some (.tup [.str z]) → ArV K (upd (upd H1 u (.tup [.str z])) u2 (.tup [.str z])) (.ref p) true := fun p hp => NsOk.ar (ns := [z]) ⟨⟨p, rfl, .inr (SqT.of hp)⟩, (fun y hy => by rw [List.mem_singleton.mp hy]; exact nz), by show 1 < 1000; decide⟩ (by show 1 ≤ 900; decide)
    have a1 := one u (su2 _ _ upd_same)
    have a2 := one u2 upd_same
    rcases hz with ⟨rfl, rfl⟩ | ⟨rfl, rfl, rfl⟩
    · exact ⟨.ref u, y, x3, .ref u2, y, [true, false, c3, true], 1, rfl, ⟨a1, h2.same s13, h3.same s13, a2, True.intro⟩, rfl, (fun j hj => by rw [show j = 0 by omega]; rfl), rfl, fun H' dx s hd => q H' dx (s13.trans s) hd⟩
    · exact ⟨.ref u, x2, y, .ref u2, y, [true, true, false, true], 2, rfl, ⟨a1, h2.same s13, h3.same s13, a2, True.intro⟩, rfl, (fun j hj => by
        rcases (by omega : j = 0 ∨ j = 1) with rfl | rfl <;> rfl), rfl, fun H' dx s hd => q H' dx (s13.trans s) hd⟩
end
end Rw
namespace Rw
open PySem PySem.Spec PyProof.Rows L2
/-! ### a list compared with [] -/
section
variable {X : Cx}
def rEqE (K : PySem.W.Frag) : R2 := fun x y H Q => ∃ p q xs, x = .ref p ∧ y = .ref q ∧ SqL K H p xs ∧ SqL K H q [] ∧ Q (.bl xs.isEmpty) H
def rNeE (K : PySem.W.Frag) : R2 := fun x y H Q => ∃ p q xs, x = .ref p ∧ y = .ref q ∧ SqL K H p xs ∧ SqL K H q [] ∧ Q (.bl (!xs.isEmpty)) H
theorem op_eqE (hu : X.A.units + 64 < cLine) : OpR X (compareOp .Eq) (rEqE X.K) := by
  intro pins s σ H x y v u Q I rx ry h
  obtain ⟨p, q, xs, rfl, rfl, hp, hq, k⟩ := h
  obtain rfl : v = Value.ref p := rx
  obtain rfl : u = Value.ref q := ry
  obtain ⟨its, rv, pl, _⟩ := I.list hp
  obtain ⟨its2, rv2, pl2, _⟩ := I.list hq
  cases rv2
  cases xs with
  | nil =>
    cases rv
    exact SeqAt.RcAt.lists (e := fun _ => true) pl.isList pl2.isList rfl (by omega) (fun j h1 _ => absurd h1 (Nat.not_lt_zero j)) X.prog X.w X.xe _ ⟨.bl true, H, I, rfl, k⟩
  | cons x xs =>
    cases rv with
    | cons _ _ => exact SeqAt.RcAt.lists_lengths pl.isList pl2.isList (by simp) (by omega) X.prog X.w X.xe _ ⟨.bl false, H, I, rfl, k⟩
theorem op_neE (hu : X.A.units + 64 < cLine) : OpR X (compareOp .NotEq) (rNeE X.K) := by
  intro pins s σ H x y v u Q I rx ry h
  obtain ⟨p, q, xs, rfl, rfl, hp, hq, k⟩ := h
  obtain rfl : v = Value.ref p := rx
  obtain rfl : u = Value.ref q := ry
  obtain ⟨its, rv, pl, _⟩ := I.list hp
  obtain ⟨its2, rv2, pl2, _⟩ := I.list hq
  cases rv2
  cases xs with
  | nil =>
    cases rv
    exact SeqAt.RcNeAt.lists (e := fun _ => true) pl.isList pl2.isList rfl (by omega) (fun j h1 _ => absurd h1 (Nat.not_lt_zero j)) X.prog X.w X.xe _ ⟨.bl false, H, I, rfl, k⟩
  | cons x xs =>
    cases rv with
    | cons _ _ => exact SeqAt.RcNeAt.lists_lengths pl.isList pl2.isList (by simp) (by omega) X.prog X.w X.xe _ ⟨.bl true, H, I, rfl, k⟩
end
/-! ### the law's own predicates -/
abbrev sLawIsName : Stmt := topS 29
abbrev sLawIsWorld : Stmt := topS 30
abbrev sLawIsRule : Stmt := topS 31
abbrev sLawAre : Stmt := topS 32
theorem scLawIsName : FnScope ["item", "sign"] ["item"] (defScope sLawIsName) := ⟨rfl, rfl, rfl, by decide +kernel, rfl, by decide +kernel, by decide +kernel⟩
theorem scLawIsWorld : FnScope ["item", "x", "k"] ["item"] (defScope sLawIsWorld) := ⟨rfl, rfl, rfl, by decide +kernel, rfl, by decide +kernel, by decide +kernel⟩
theorem scLawIsRule : FnScope ["item", "part"] ["item"] (defScope sLawIsRule) := ⟨rfl, rfl, rfl, by decide +kernel, rfl, by decide +kernel, by decide +kernel⟩
theorem scLawAre : FnScope ["item", "x"] ["item"] (defScope sLawAre) := ⟨rfl, rfl, rfl, by decide +kernel, rfl, by decide +kernel, by decide +kernel⟩
def rNS : R2 := fun x y H Q => ∃ (c : Nat) (z : Str), x = .str ⟨#[c]⟩ ∧ y = .str z ∧ Q (.bl (!decide (c ∈ z.cps.toList))) H
theorem op_nS {X : Cx} : OpR X (compareOp .NotIn) rNS := op_notIn_sign
section
variable {P : Program} {w : World} {K : PySem.W.Frag} {mg : Str → Option Value} {base : Heap} {f : Addr} {fd : FuncData} {k : Nat}
theorem ok_lawIsName (F : Fun K "_law_is_name" "_law_is_name" sLawIsName f fd) (T : Bl mg) : FnOk P w K mg base CX0 (k + 1) f fd ["item"] (spIsNameX K) := by
  refine F.ok scLawIsName (fun vs H Q E h => let ⟨x, b, e, _⟩ := h; by rw [e]; rfl) (fun cdv A outer s H vs Q E hr h => ?_)
  obtain ⟨x, b, rfl, hx, q⟩ := h
  refine ⟨_, pss_cons (ps_if (PW.pt (pw_or (pt_not (pt_val (pe_callB call_isi (by rfl) T.isi PyProof.Rows.boot_isinstance (pa_cons (pv 0) (pa_cons (pe_bltn (v := .ty "str") (by rfl) T.str (by decide +kernel) rfl) pa_nil)))))
      (pw_or (pt_not (pt_chain op_le op_le pe_int (pe_callB call_len_str (by rfl) T.len PySem.boot_len (pa_cons (pv 0) pa_nil)) pe_int)) (pw_or1 (pt_cmpR op_eq (pv 0) pe_str (nomark _)))))) (pss_one (ps_ret pe_bl)) pss_nil)
    (pss_one (ps_ret (pe_cmpR (r := rEqE K) (op_eqE hr.units) (pe_lc (own := [("sign", 1)]) (g := gName 1) (tt := tTest (tOp rNS (tVar 1) (tC (.str lettersS)))) (te := tVar 1) (by rfl) scLawIsName.nd (pi_str (pv 0)) (blkOk_by (N := ["item", "sign"]) (sc := defScope sLawIsName) (by decide +kernel))
        (fun _ _ _ _ _ => pg_name (i := 1) scLawIsName.nd rfl (Or.inl rfl)) (fun _ _ _ _ _ => pts_one (pt_cmpR (r := rNS) op_nS (pv 1) pe_str (by rfl))) (fun _ _ _ _ _ => pv 1)) (pe_lst pa_nil) (nomark _)))), ?_⟩
  rcases hx with ⟨d, hd, odd, rfl⟩ | ⟨⟨t, h1, h2⟩, rfl⟩
  · have cases' : (∃ t : String, TyX K H x (.type t) ∧ PySem.W.kitOne K (.type t) (.type "str") = some false ∧ nameD d = false) ∨ ∃ z, d = .str z := by
      have ty := tyx_dp hd
      cases d with
      | none => exact .inl ⟨"NoneType", ty, kit_ty (by decide +kernel), rfl⟩
      | bool _ => exact absurd odd id
      | dict _ => exact absurd odd id
      | int i => exact .inl ⟨"int", ty, kit_ty (by decide +kernel), rfl⟩
      | list ds => exact .inl ⟨"list", ty, kit_ty (by decide +kernel), rfl⟩
      | tuple ds => exact .inl ⟨"tuple", ty, kit_ty (by decide +kernel), rfl⟩
      | str z => exact .inr ⟨z, rfl⟩
    rcases cases' with ⟨t, h1, h2, h3⟩ | ⟨z, rfl⟩
    · rw [h3] at q
      exact ⟨x, rfl, x, .ty "str", .type t, .type "str", false, rfl, .ty "str", h1, h2, false, rfl, iteT (q H fun _ _ e => e)⟩
    · cases hd
      have few : z.cps.size ≤ 10000 := odd
      refine ⟨.str z, rfl, .str z, .ty "str", .type "str", .type "str", true, rfl, .ty "str", .base (.str z), kit_ty (by decide +kernel), true, rfl, iteF ?_⟩
      have qv : ∀ b, nameB z = b → Q (.bl b) H := fun b e => by
        have := q H fun _ _ e => e
        rw [show nameD (.str z) = nameB z from rfl, e] at this
        exact this
      refine ⟨.str z, rfl, z, rfl, small_line few, 1, z.length, rfl, rfl, decide ((1 : Int) ≤ (z.length : Int)), rfl, ite2 (fun e1 => ?_) (fun e1 => ?_)⟩
      · refine ⟨z.length, 8, rfl, rfl, decide ((z.length : Int) ≤ 8), rfl, ?_⟩
        have h1 : 1 ≤ z.cps.size := by
          have := of_decide_eq_true e1
          have : (1 : Int) ≤ (z.cps.size : Int) := this
          omega
        by_cases c8 : (z.length : Int) ≤ 8
        · rw [decide_eq_true c8]
          have h8 : z.cps.size ≤ 8 := by
            have : (z.cps.size : Int) ≤ 8 := c8
            omega
          refine iteF ⟨.str z, rfl, rfl, _, rfl, ite2 (fun e => ?_) (fun e => ?_)⟩
          · have ez : z = notS := V.str.inj (of_decide_eq_true e)
            exact qv false (by rw [ez]; decide +kernel)
          · have nz : z ≠ notS := fun h => e (decide_eq_true (by rw [h]; rfl))
            have val : nameB z = z.cps.toList.all letter := by
              unfold nameB
              rw [decide_eq_false nz, decide_eq_true h1, decide_eq_true h8]
              cases z.cps.toList.all letter <;> rfl
            refine ⟨.str z, rfl, z, rfl, fun D hD => ?_⟩
            refine lc_sgn (x := z) (fun i H1 => Same H H1 ∧ ∃ ys : List V, H1 D = some (.lst ys) ∧ ys.isEmpty = (z.cps.toList.take i).all letter ∧ ys.length ≤ i) ⟨same_new hD _, [], upd_same, rfl, Nat.le_refl _⟩ (fun i c H1 hc hI => ?_) (fun H1 hI => ?_)
            · obtain ⟨sm, ys, hd, he, hl⟩ := hI
              have hc' : z.cps.toList[i]? = some c := by rw [Array.getElem?_toList]; exact hc
              have il : i < z.cps.size := (Array.getElem?_eq_some_iff.mp hc).1
              have ta : (z.cps.toList.take (i + 1)).all letter = ((z.cps.toList.take i).all letter && letter c) := by
                rw [take_snoc hc', List.all_append]
                simp
              refine ⟨rfl, .str ⟨#[c]⟩, rfl, c, lettersS, rfl, rfl, _, rfl, ?_⟩
              rw [letter_in]
              cases lc : letter c with
              | true => exact iteF ⟨sm, ys, hd, by rw [ta, lc, he, Bool.and_true], by omega⟩
              | false =>
                refine iteT ⟨.str ⟨#[c]⟩, rfl, ys, hd, small_line (by omega), same_put sm hD, _, upd_same, ?_, by rw [List.length_append]; simp; omega⟩
                rw [ta, lc, Bool.and_false]
                simp
            · obtain ⟨sm, ys, hd, he, hl⟩ := hI
              rw [show z.cps.size = z.cps.toList.length by rw [Array.length_toList], List.take_length] at he
              refine ⟨by show 0 ≤ sizeLine; decide, fun l hl2 => ?_⟩
              have s2 := same_new hl2 (.lst [])
              refine ⟨D, l, ys, rfl, rfl, SqL.of (s2 _ _ hd), SqL.of upd_same, ?_⟩
              rw [he, ← val]
              exact q _ (sm.trans s2)
        · rw [decide_eq_false c8]
          exact iteT (qv false (by
            unfold nameB
            rw [decide_eq_false (p := z.cps.size ≤ 8) (fun h => c8 (by show (z.cps.size : Int) ≤ 8; omega))]
            simp))
      · refine ⟨false, rfl, iteT (qv false ?_)⟩
        unfold nameB
        rw [decide_eq_false (p := 1 ≤ z.cps.size) (fun h => e1 (decide_eq_true (by show (1 : Int) ≤ (z.cps.size : Int); omega)))]
        simp
  · exact ⟨x, rfl, x, .ty "str", t, .type "str", false, rfl, .ty "str", h1, h2, false, rfl, iteT (q H fun _ _ e => e)⟩
end
end Rw
namespace Rw
open PySem PySem.Spec PyProof.Rows L2
/-! ### the law's own predicates, on -/
theorem up_adj {ws : W} : UpX ws ↔ ∀ k, ∀ (h1 : 1 ≤ k) (h2 : k < ws.length), ws[k - 1].cps.toList < ws[k].cps.toList := by
  unfold UpX
  rw [List.pairwise_iff_getElem]
  refine ⟨fun h k h1 h2 => h (k - 1) k (by omega) h2 (by omega), fun h i j hi hj hij => ?_⟩
  have main : ∀ d i, ∀ (hd : i + d + 1 < ws.length), ws[i].cps.toList < ws[i + d + 1].cps.toList := by
    intro d
    induction d with
    | zero => exact fun i hd => h (i + 1) (by omega) hd
    | succ d ih =>
      intro i hd
      exact List.lt_trans (ih i (by omega)) (h (i + d + 1 + 1) (by omega) hd)
  have e : j = i + (j - i - 1) + 1 := by omega
  have := main (j - i - 1) i (by omega)
  simpa [← e] using this
section
variable {P : Program} {w : World} {K : PySem.W.Frag} {mg : Str → Option Value} {base : Heap} {f : Addr} {fd : FuncData} {k : Nat}
/-- [x for x in item if not f(x)], the first i asked -/
def BadP (H1 : Hp) (D : Addr) (bs : List Bool) (i : Nat) (H : Hp) : Prop := Same H1 H ∧ ∃ ys : List V, H D = some (.lst ys) ∧ ys.isEmpty = (bs.take i).all id ∧ ys.length ≤ i
theorem BadP.start {H1 : Hp} {D : Addr} {bs : List Bool} (h : H1 D = none) : BadP H1 D bs 0 (upd H1 D (.lst [])) := ⟨same_new h _, [], upd_same, rfl, Nat.le_refl _⟩
theorem bad_step {H1 H2 H3 : Hp} {D : Addr} {bs : List Bool} {i j : Nat} {b : Bool} {x : V} {σ : L2.St} (hσ : σ[j]? = some (some x)) (hb : bs[i]? = some b) (h : BadP H1 D bs i H2) (s3 : Same H2 H3) (hD : H1 D = none) (lim : i ≤ 1000) :
    if (!b) = true then tVar j σ H3 (fun y H4 => ∃ acc, H4 D = some (.lst acc) ∧ acc.length < sizeLine ∧ BadP H1 D bs (i + 1) (upd H4 D (.lst (acc ++ [y])))) else BadP H1 D bs (i + 1) H3 := by
  obtain ⟨sm, ys, hd, he, hl⟩ := h
  have ta : (bs.take (i + 1)).all id = ((bs.take i).all id && b) := by
    rw [take_snoc hb, List.all_append]
    simp
  cases b with
  | true => exact iteF ⟨sm.trans s3, ys, s3 _ _ hd, by rw [ta, he, Bool.and_true], by omega⟩
  | false =>
    refine iteT ⟨x, hσ, ys, s3 _ _ hd, small_line (by omega), same_put (sm.trans s3) hD, _, upd_same, ?_, by rw [List.length_append]; simp; omega⟩
    rw [ta, Bool.and_false]
    simp
theorem NmVd {K : PySem.W.Frag} {H : Hp} {xs : List V} {ds : List PyData} {i : Nat} {x : V} (h : DpAll K H xs ds) (odd : ∀ d ∈ ds, oddN d) (e : xs[i]? = some x) : ∃ b, (ds.map nameD)[i]? = some b ∧ NmV K H x b := by
  obtain ⟨d, hd, hx⟩ := dpAll_at' h e
  exact ⟨nameD d, by rw [List.getElem?_map, hd]; rfl, .inl ⟨d, hx, odd d (List.mem_of_getElem? hd), rfl⟩⟩
theorem all_map_id (ds : List PyData) : (ds.map nameD).all id = ds.all nameD := by
  rw [List.all_map]
  rfl
theorem ok_lawAre {f1 : Addr} {fd1 : FuncData} (F : Fun K "_law_are_names" "_law_are_names" sLawAre f fd) (T : Bl mg) (G : FnOk P w K mg base CX0 k f1 fd1 ["item"] (spIsNameX K)) (b1 : Binds K fd1 ["item"] []) (k1 : PySem.W.keepIn K (.ref f1) = true) (m1 : mg "_law_is_name" = some (.ref f1)) :
    FnOk P w K mg base CX0 (k + 1) f fd ["item"] (spAreX K) := by
  refine F.ok scLawAre (fun vs H Q E h => let ⟨x, b, e, _⟩ := h; by rw [e]; rfl) (fun cdv A outer s H vs Q E hr h => ?_)
  obtain ⟨x, b, rfl, hx, q⟩ := h
  have start : (∃ a xs ds, x = .ref a ∧ (SqT K H a xs ∨ SqL K H a xs) ∧ DpAll K H xs ds ∧ (∀ d ∈ ds, oddN d) ∧ ds.length ≤ 900 ∧ b = ds.all nameD) ∨ (NotTL K H x ∧ b = false) := hx
  rcases start with ⟨a, xs, ds, rfl, hS | hS, hxs, odd, few, rfl⟩ | ⟨hN, rfl⟩
  · have xl := dpAll_len hxs
    refine ⟨_, (pss_one (ps_ret (pe_and (pe_callB call_isiT (by rfl) T.isi PyProof.Rows.boot_isinstance (pa_cons (pv 0) (pa_cons (pe_tup (pa_cons (pe_bltn (v := .ty "tuple") (by rfl) T.tuple (by decide +kernel) rfl) (pa_cons (pe_bltn (v := .ty "list") (by rfl) T.list (by decide +kernel) rfl) pa_nil))) pa_nil)))
      (pe_one (pe_cmpR (r := rEqE K) (op_eqE hr.units) (pe_lc (own := [("x", 1)]) (g := gName 1) (tt := tNot (tTest (tCall (spIsNameX K) [] (fun _ _ _ => False) (tCons (tVar 1) tNil)))) (te := tVar 1) (by rfl) scLawAre.nd (pi_tup (pv 0)) (blkOk_by (N := ["item", "x"]) (sc := defScope sLawAre) (by decide +kernel))
        (fun _ _ _ _ _ => pg_name (i := 1) scLawAre.nd rfl (Or.inl rfl)) (fun _ _ _ _ _ => pts_one (pt_not (pt_val (pe_call G hr (by rfl) m1 k1 b1 .nil pass0 (pa_cons (pv 1) pa_nil))))) (fun _ _ _ _ _ => pv 1)) (pe_lst pa_nil) (nomark _)))))), ?_⟩
    refine ⟨.ref a, rfl, by show 2 ≤ sizeLine; decide, fun T0 hT => ?_⟩
    have s0 : Same H (upd H T0 (.tup [.ty "tuple", .ty "list"])) := same_new hT _
    refine ⟨.ref a, T0, [.ty "tuple", .ty "list"], .type "tuple", [.type "tuple", .type "list"], true, rfl, upd_same, .cons (.ty _) (.cons (.ty _) .nil), tyx_tup (same_tup s0 hS), kitAny_cons (b := true) (kit_ty (by decide +kernel)) (fun z => nomatch z) (fun _ => rfl), true, rfl, iteT ?_⟩
    generalize upd H T0 (.tup [.ty "tuple", .ty "list"]) = H0 at s0 ⊢
    refine ⟨.ref a, rfl, a, rfl, ⟨_, same_tup s0 hS⟩, fun D hD => ?_⟩
    refine lc_tup (xs := xs) (fun i H1 => BadP H0 D (ds.map nameD) i H1) (BadP.start hD) (fun i H1 _ hI => same_tup (s0.trans hI.1) hS) (fun i x H1 hxi hI => ?_) (fun H1 hI => ?_)
    · obtain ⟨b, hb, hxb⟩ := NmVd (dpAll_same (s0.trans hI.1) _ _ hxs) odd hxi
      have il : i < xs.length := (List.getElem?_eq_some_iff.mp hxi).1
      exact ⟨rfl, x, rfl, x, b, rfl, hxb, fun H2 s2 => ⟨b, rfl, bad_step rfl hb hI s2 hD (by rw [xl] at il; omega)⟩⟩
    · obtain ⟨sm, ys, hd, he, hl⟩ := hI
      rw [show xs.length = (ds.map nameD).length by rw [List.length_map]; exact xl, List.take_length, all_map_id] at he
      refine ⟨by show 0 ≤ sizeLine; decide, fun l hl2 => ?_⟩
      have s2 := same_new hl2 (.lst [])
      refine ⟨D, l, ys, rfl, rfl, SqL.of (s2 _ _ hd), SqL.of upd_same, ?_⟩
      rw [he]
      exact q _ (s0.trans (sm.trans s2))
  · have xl := dpAll_len hxs
    refine ⟨_, (pss_one (ps_ret (pe_and (pe_callB call_isiT (by rfl) T.isi PyProof.Rows.boot_isinstance (pa_cons (pv 0) (pa_cons (pe_tup (pa_cons (pe_bltn (v := .ty "tuple") (by rfl) T.tuple (by decide +kernel) rfl) (pa_cons (pe_bltn (v := .ty "list") (by rfl) T.list (by decide +kernel) rfl) pa_nil))) pa_nil)))
      (pe_one (pe_cmpR (r := rEqE K) (op_eqE hr.units) (pe_lc (own := [("x", 1)]) (g := gName 1) (tt := tNot (tTest (tCall (spIsNameX K) [] (fun _ _ _ => False) (tCons (tVar 1) tNil)))) (te := tVar 1) (by rfl) scLawAre.nd (pi_list (pv 0)) (blkOk_by (N := ["item", "x"]) (sc := defScope sLawAre) (by decide +kernel))
        (fun _ _ _ _ _ => pg_name (i := 1) scLawAre.nd rfl (Or.inl rfl)) (fun _ _ _ _ _ => pts_one (pt_not (pt_val (pe_call G hr (by rfl) m1 k1 b1 .nil pass0 (pa_cons (pv 1) pa_nil))))) (fun _ _ _ _ _ => pv 1)) (pe_lst pa_nil) (nomark _)))))), ?_⟩
    refine ⟨.ref a, rfl, by show 2 ≤ sizeLine; decide, fun T0 hT => ?_⟩
    have s0 : Same H (upd H T0 (.tup [.ty "tuple", .ty "list"])) := same_new hT _
    refine ⟨.ref a, T0, [.ty "tuple", .ty "list"], .type "list", [.type "tuple", .type "list"], true, rfl, upd_same, .cons (.ty _) (.cons (.ty _) .nil), tyx_dp (d := .list ds) (.lst (s0.seq hS) (dpAll_same s0 _ _ hxs)), kitAny_cons (b := false) (kit_ty (by decide +kernel)) (fun _ => kitAny_cons (b := true) (kit_ty (by decide +kernel)) (fun z => nomatch z) fun _ => rfl) (fun z => nomatch z), true, rfl, iteT ?_⟩
    generalize upd H T0 (.tup [.ty "tuple", .ty "list"]) = H0 at s0 ⊢
    refine ⟨.ref a, rfl, a, rfl, ⟨_, s0.seq hS⟩, fun D hD => ?_⟩
    refine lc_list (xs := xs) (fun i H1 => BadP H0 D (ds.map nameD) i H1) (BadP.start hD) (fun i H1 _ hI => (s0.trans hI.1).seq hS) (fun i x H1 hxi hI => ?_) (fun H1 hI => ?_)
    · obtain ⟨b, hb, hxb⟩ := NmVd (dpAll_same (s0.trans hI.1) _ _ hxs) odd hxi
      have il : i < xs.length := (List.getElem?_eq_some_iff.mp hxi).1
      exact ⟨rfl, x, rfl, x, b, rfl, hxb, fun H2 s2 => ⟨b, rfl, bad_step rfl hb hI s2 hD (by rw [xl] at il; omega)⟩⟩
    · obtain ⟨sm, ys, hd, he, hl⟩ := hI
      rw [show xs.length = (ds.map nameD).length by rw [List.length_map]; exact xl, List.take_length, all_map_id] at he
      refine ⟨by show 0 ≤ sizeLine; decide, fun l hl2 => ?_⟩
      have s2 := same_new hl2 (.lst [])
      refine ⟨D, l, ys, rfl, rfl, SqL.of (s2 _ _ hd), SqL.of upd_same, ?_⟩
      rw [he]
      exact q _ (s0.trans (sm.trans s2))
  · refine ⟨_, (pss_one (ps_ret (pe_and (pe_callB call_isiT (by rfl) T.isi PyProof.Rows.boot_isinstance (pa_cons (pv 0) (pa_cons (pe_tup (pa_cons (pe_bltn (v := .ty "tuple") (by rfl) T.tuple (by decide +kernel) rfl) (pa_cons (pe_bltn (v := .ty "list") (by rfl) T.list (by decide +kernel) rfl) pa_nil))) pa_nil)))
      (pe_one (pe_cmpR (r := rEqE K) (op_eqE hr.units) (pe_lc (own := [("x", 1)]) (g := gName 1) (tt := tNot (tTest (tCall (spIsNameX K) [] (fun _ _ _ => False) (tCons (tVar 1) tNil)))) (te := tVar 1) (by rfl) scLawAre.nd (pi_list (pv 0)) (blkOk_by (N := ["item", "x"]) (sc := defScope sLawAre) (by decide +kernel))
        (fun _ _ _ _ _ => pg_name (i := 1) scLawAre.nd rfl (Or.inl rfl)) (fun _ _ _ _ _ => pts_one (pt_not (pt_val (pe_call G hr (by rfl) m1 k1 b1 .nil pass0 (pa_cons (pv 1) pa_nil))))) (fun _ _ _ _ _ => pv 1)) (pe_lst pa_nil) (nomark _)))))), ?_⟩
    refine ⟨x, rfl, by show 2 ≤ sizeLine; decide, fun T0 hT => ?_⟩
    have s0 : Same H (upd H T0 (.tup [.ty "tuple", .ty "list"])) := same_new hT _
    obtain ⟨t, h1, h2, h3⟩ := hN.same s0
    exact ⟨x, T0, [.ty "tuple", .ty "list"], t, [.type "tuple", .type "list"], false, rfl, upd_same, .cons (.ty _) (.cons (.ty _) .nil), h1, kitAny_cons (b := false) h2 (fun _ => kitAny_cons (b := false) h3 (fun _ => rfl) (fun z => nomatch z)) (fun z => nomatch z), false, rfl, iteF (q _ s0)⟩
end
end Rw
namespace Rw
open PySem PySem.Spec PyProof.Rows L2
/-! ### _law_is_world, _law_is_rule -/
def rGeS : R2 := fun x y H Q => ∃ i j, x = .str i ∧ y = .str j ∧ Q (.bl (!decide (i.cps.toList < j.cps.toList))) H
theorem op_geS {X : Cx} : OpR X (compareOp .GtE) rGeS := op_ge_str
def adjB (ws : W) (n : Nat) : Bool := (List.range n).all fun i => match ws[i]?, ws[i + 1]? with | some a, some b => decide (a.cps.toList < b.cps.toList) | _, _ => true
def adjL (ws : W) (n : Nat) : List Bool := (List.range n).map fun i => match ws[i]?, ws[i + 1]? with | some a, some b => decide (a.cps.toList < b.cps.toList) | _, _ => true
theorem adjL_all {ws : W} {n : Nat} : (adjL ws n).all id = adjB ws n := by
  unfold adjL adjB
  rw [List.all_map]
  rfl
theorem adj_up {ws : W} : adjB ws (ws.length - 1) = decide (UpX ws) := by
  by_cases u : UpX ws
  · rw [decide_eq_true u]
    refine List.all_eq_true.mpr fun i hi => ?_
    have il := List.mem_range.mp hi
    rw [List.getElem?_eq_getElem (by omega), List.getElem?_eq_getElem (by omega)]
    exact decide_eq_true (up_adj.mp u (i + 1) (by omega) (by omega))
  · rw [decide_eq_false u]
    refine Bool.eq_false_iff.mpr fun h => u (up_adj.mpr fun k h1 h2 => ?_)
    have z := List.all_eq_true.mp h (k - 1) (List.mem_range.mpr (by omega))
    rw [List.getElem?_eq_getElem (by omega), List.getElem?_eq_getElem (by omega)] at z
    have z2 := of_decide_eq_true z
    simpa [show k - 1 + 1 = k by omega] using z2
section
variable {P : Program} {w : World} {K : PySem.W.Frag} {mg : Str → Option Value} {base : Heap} {f : Addr} {fd : FuncData} {k : Nat}
theorem ok_lawIsWorld {f1 : Addr} {fd1 : FuncData} (F : Fun K "_law_is_world" "_law_is_world" sLawIsWorld f fd) (T : Bl mg) (G : FnOk P w K mg base CX0 k f1 fd1 ["item"] (spIsNameX K)) (b1 : Binds K fd1 ["item"] []) (k1 : PySem.W.keepIn K (.ref f1) = true) (m1 : mg "_law_is_name" = some (.ref f1)) :
    FnOk P w K mg base CX0 (k + 1) f fd ["item"] (spIsWorldX K) := by
  refine F.ok scLawIsWorld (fun vs H Q E h => let ⟨x, b, e, _⟩ := h; by rw [e]; rfl) (fun cdv A outer s H vs Q E hr h => ?_)
  obtain ⟨x, b, rfl, hx, q⟩ := h
  refine ⟨_, pss_cons (ps_if (PW.pt (pw_or (pt_not (pt_val (pe_callB call_isi (by rfl) T.isi PyProof.Rows.boot_isinstance (pa_cons (pv 0) (pa_cons (pe_bltn (v := .ty "tuple") (by rfl) T.tuple (by decide +kernel) rfl) pa_nil)))))
      (pw_or1 (pt_cmpR (r := rNeE K) (op_neE hr.units) (pe_lc (own := [("x", 1)]) (g := gName 1) (tt := tNot (tTest (tCall (spIsNameX K) [] (fun _ _ _ => False) (tCons (tVar 1) tNil)))) (te := tVar 1) (by rfl) scLawIsWorld.nd (pi_tup (pv 0)) (blkOk_by (N := ["item", "x", "k"]) (sc := defScope sLawIsWorld) (by decide +kernel))
        (fun _ _ _ _ _ => pg_name (i := 1) scLawIsWorld.nd rfl (Or.inl rfl)) (fun _ _ _ _ _ => pts_one (pt_not (pt_val (pe_call G hr (by rfl) m1 k1 b1 .nil pass0 (pa_cons (pv 1) pa_nil))))) (fun _ _ _ _ _ => pv 1)) (pe_lst pa_nil) (nomark _))))) (pss_one (ps_ret pe_bl)) pss_nil)
    (pss_one (ps_ret (pe_cmpR (r := rEqE K) (op_eqE hr.units) (pe_lc (own := [("k", 2)]) (g := gName 2) (tt := tTest (tOp rGeS (tOp (rIxT K) (tVar 0) (tOp (rI0 fun i j => .int (i - j)) (tVar 2) (tC (.int 1)))) (tOp (rIxT K) (tVar 0) (tVar 2)))) (te := tVar 2) (by rfl) scLawIsWorld.nd (pi_range2 rfl T.range (pa_cons pe_int (pa_cons (pe_callB call_len_seq (by rfl) T.len PySem.boot_len (pa_cons (pv 0) pa_nil)) pa_nil))) (blkOk_by (N := ["item", "x", "k"]) (sc := defScope sLawIsWorld) (by decide +kernel))
        (fun _ _ _ _ _ => pg_name (i := 2) scLawIsWorld.nd rfl (Or.inl rfl)) (fun _ _ _ _ _ => pts_one (pt_cmpR (r := rGeS) op_geS (pe_ix (r := rIxT K) ix_tup (pv 0) (pe_op op_sub (pv 2) pe_int) (fun _ _ => rfl)) (pe_ix (r := rIxT K) ix_tup (pv 0) (pv 2) (fun _ _ => rfl)) (nomark _))) (fun _ _ _ _ _ => pv 2)) (pe_lst pa_nil) (nomark _)))), ?_⟩
  have cases' : NotT K H x "tuple" ∧ b = false ∨ ∃ a xs ds, x = .ref a ∧ SqT K H a xs ∧ DpAll K H xs ds ∧ (∀ d ∈ ds, oddN d) ∧ ds.length ≤ 40 ∧ b = (ds.all nameD && decide (UpX (ds.map strOf))) := by
    rcases hx with ⟨d, hd, odd, rfl⟩ | h
    · have ty := tyx_dp hd
      cases d with
      | none => exact .inl ⟨⟨.type "NoneType", ty, kit_ty (by decide +kernel)⟩, rfl⟩
      | bool _ => exact absurd odd id
      | dict _ => exact absurd odd id
      | int i => exact .inl ⟨⟨.type "int", ty, kit_ty (by decide +kernel)⟩, rfl⟩
      | list ds => exact .inl ⟨⟨.type "list", ty, kit_ty (by decide +kernel)⟩, rfl⟩
      | str z => exact .inl ⟨⟨.type "str", ty, kit_ty (by decide +kernel)⟩, rfl⟩
      | tuple ds =>
        cases hd with
        | tup h1 h2 => exact .inr ⟨_, _, ds, rfl, h1, h2, odd.1, odd.2, rfl⟩
    · exact .inl h
  rcases cases' with ⟨⟨t, h1, h2⟩, rfl⟩ | ⟨a, xs, ds, rfl, hS, hxs, odd, few, rfl⟩
  · exact ⟨x, rfl, x, .ty "tuple", t, .type "tuple", false, rfl, .ty "tuple", h1, h2, false, rfl, iteT (q H fun _ _ e => e)⟩
  · have xl := dpAll_len hxs
    refine ⟨.ref a, rfl, .ref a, .ty "tuple", .type "tuple", .type "tuple", true, rfl, .ty "tuple", tyx_tup hS, kit_ty (by decide +kernel), true, rfl, iteF ?_⟩
    refine ⟨.ref a, rfl, a, rfl, ⟨_, hS⟩, fun D hD => ?_⟩
    refine lc_tup (xs := xs) (fun i H1 => BadP H D (ds.map nameD) i H1) (BadP.start hD) (fun i H1 _ hI => same_tup hI.1 hS) (fun i x H1 hxi hI => ?_) (fun H1 hI => ?_)
    · obtain ⟨b, hb, hxb⟩ := NmVd (dpAll_same hI.1 _ _ hxs) odd hxi
      have il : i < xs.length := (List.getElem?_eq_some_iff.mp hxi).1
      exact ⟨rfl, x, rfl, x, b, rfl, hxb, fun H2 s2 => ⟨b, rfl, bad_step rfl hb hI s2 hD (by omega)⟩⟩
    · obtain ⟨sm, ys, hd, he, hl⟩ := hI
      rw [show xs.length = (ds.map nameD).length by rw [List.length_map]; exact xl, List.take_length, all_map_id] at he
      refine ⟨by show 0 ≤ sizeLine; decide, fun l hl2 => ?_⟩
      have s2 := same_new hl2 (.lst [])
      have s12 := sm.trans s2
      refine ⟨D, l, ys, rfl, rfl, SqL.of (s2 _ _ hd), SqL.of upd_same, !ys.isEmpty, rfl, ?_⟩
      rw [he]
      cases ha : ds.all nameD with
      | false =>
        rw [ha] at q
        exact iteT (q _ s12)
      | true =>
        rw [ha, Bool.true_and] at q
        refine iteF ?_
        obtain ⟨e, hn⟩ := strs_of ha
        have ex : xs = (ds.map strOf).map V.str := dps_str (K := K) (H := H) (by rw [← e]; exact hxs)
        have hS2 := same_tup s12 hS
        generalize upd H1 l (.lst []) = H2 at s12 hS2 ⊢
        have wl : (ds.map strOf).length = xs.length := by rw [List.length_map]; exact xl.symm
        generalize ds.map strOf = ws at ex hn q wl
        refine ⟨.ref a, rfl, a, xs, rfl, .inr hS2, 1, (xs.length : Int), rfl, ⟨by decide, by decide, by omega, by omega⟩, fun D2 hD2 => ?_⟩
        have en : ((xs.length : Int) - 1).toNat = ws.length - 1 := by omega
        have bt : ∀ i a b, ws[i]? = some a → ws[i + 1]? = some b → i < ws.length - 1 → (adjL ws (ws.length - 1))[i]? = some (decide (a.cps.toList < b.cps.toList)) := fun i a b h1 h2 hi => by
          unfold adjL
          rw [List.getElem?_map, List.getElem?_range hi]
          simp only [Option.map_some]
          rw [h1, h2]
        refine lc_range (fun i H1 => BadP H2 D2 (adjL ws (ws.length - 1)) i H1) (BadP.start hD2) (fun i H3 il hI => ?_) (fun H3 hI => ?_)
        · rw [en] at il
          have h1 : ws[i]? = some ws[i] := List.getElem?_eq_getElem (by omega)
          have h2 : ws[i + 1]? = some ws[i + 1] := List.getElem?_eq_getElem (by omega)
          have x1 : xs[i]? = some (.str ws[i]) := by rw [ex, List.getElem?_map, h1]; rfl
          have x2 : xs[i + 1]? = some (.str ws[i + 1]) := by rw [ex, List.getElem?_map, h2]; rfl
          have hS3 := same_tup hI.1 hS2
          have e1 : (1 : Int) + (i : Int) - 1 = (i : Int) := by omega
          have e2 : (1 : Int) + (i : Int) = ((i + 1 : Nat) : Int) := by omega
          refine ⟨rfl, .ref a, rfl, .int (1 + (i : Int)), rfl, 1 + (i : Int), 1, rfl, rfl, a, xs, 1 + (i : Int) - 1, .str ws[i], rfl, rfl, hS3, by rw [e1]; exact atI_nat (j := i) x1, ?_⟩
          refine ⟨.ref a, rfl, .int (1 + (i : Int)), rfl, a, xs, 1 + (i : Int), .str ws[i + 1], rfl, rfl, hS3, by rw [e2]; exact atI_nat (j := i + 1) x2, ws[i], ws[i + 1], rfl, rfl, _, rfl, ?_⟩
          exact bad_step rfl (bt i _ _ h1 h2 il) hI (fun _ _ e => e) hD2 (by omega)
        · obtain ⟨sm3, ys3, hd3, he3, hl3⟩ := hI
          have tk : (adjL ws (ws.length - 1)).take (ws.length - 1) = adjL ws (ws.length - 1) := List.take_of_length_le (by unfold adjL; rw [List.length_map, List.length_range]; exact Nat.le_refl _)
          rw [en, tk, adjL_all, adj_up] at he3
          refine ⟨by show 0 ≤ sizeLine; decide, fun l3 hl4 => ?_⟩
          have s5 := same_new hl4 (.lst [])
          refine ⟨D2, l3, ys3, rfl, rfl, SqL.of (s5 _ _ hd3), SqL.of upd_same, ?_⟩
          rw [he3]
          exact q _ (s12.trans (sm3.trans s5))
theorem ok_lawIsRule {f1 : Addr} {fd1 : FuncData} (F : Fun K "_law_is_rule" "_law_is_rule" sLawIsRule f fd) (T : Bl mg) (G : FnOk P w K mg base CX0 k f1 fd1 ["item"] (spIsWorldX K)) (b1 : Binds K fd1 ["item"] []) (k1 : PySem.W.keepIn K (.ref f1) = true) (m1 : mg "_law_is_world" = some (.ref f1)) :
    FnOk P w K mg base CX0 (k + 1) f fd ["item"] (spIsRuleX K) := by
  refine F.ok scLawIsRule (fun vs H Q E h => let ⟨x, b, e, _⟩ := h; by rw [e]; rfl) (fun cdv A outer s H vs Q E hr h => ?_)
  obtain ⟨x, b, rfl, hx, q⟩ := h
  refine ⟨_, pss_one (ps_ret (pe_and (pe_callB call_isi (by rfl) T.isi PyProof.Rows.boot_isinstance (pa_cons (pv 0) (pa_cons (pe_bltn (v := .ty "tuple") (by rfl) T.tuple (by decide +kernel) rfl) pa_nil)))
    (pe_and (pe_cmpR op_eq (pe_callB call_len_seq (by rfl) T.len PySem.boot_len (pa_cons (pv 0) pa_nil)) pe_int (nomark _)) (pe_one (pe_cmpR (r := rEqE K) (op_eqE hr.units) (pe_lc (own := [("part", 1)]) (g := gName 1) (tt := tNot (tTest (tCall (spIsWorldX K) [] (fun _ _ _ => False) (tCons (tVar 1) tNil)))) (te := tVar 1) (by rfl) scLawIsRule.nd (pi_tup (pv 0)) (blkOk_by (N := ["item", "part"]) (sc := defScope sLawIsRule) (by decide +kernel))
        (fun _ _ _ _ _ => pg_name (i := 1) scLawIsRule.nd rfl (Or.inl rfl)) (fun _ _ _ _ _ => pts_one (pt_not (pt_val (pe_call G hr (by rfl) m1 k1 b1 .nil pass0 (pa_cons (pv 1) pa_nil))))) (fun _ _ _ _ _ => pv 1)) (pe_lst pa_nil) (nomark _)))))), ?_⟩
  rcases hx with ⟨a, xs, bs, rfl, hS, hW, few, rfl⟩ | ⟨⟨t, h1, h2⟩, rfl⟩
  · have xl := hW.len
    refine ⟨.ref a, rfl, .ref a, .ty "tuple", .type "tuple", .type "tuple", true, rfl, .ty "tuple", tyx_tup hS, kit_ty (by decide +kernel), true, rfl, iteT ?_⟩
    refine ⟨.ref a, rfl, a, xs, rfl, .inr hS, rfl, decide (bs.length = 4), congrArg V.bl ?_, ?_⟩
    · rw [xl]
      by_cases c : bs.length = 4
      · rw [c]
        decide
      · rw [decide_eq_false c]
        simp [eqV, c]
        omega
    by_cases c : bs.length = 4
    · rw [decide_eq_true c]
      refine iteT ?_
      refine ⟨.ref a, rfl, a, rfl, ⟨_, hS⟩, fun D hD => ?_⟩
      refine lc_tup (xs := xs) (fun i H1 => BadP H D bs i H1) (BadP.start hD) (fun i H1 _ hI => same_tup hI.1 hS) (fun i x H1 hxi hI => ?_) (fun H1 hI => ?_)
      · obtain ⟨b, hb, hxb⟩ := hW.at hxi
        have il : i < xs.length := (List.getElem?_eq_some_iff.mp hxi).1
        exact ⟨rfl, x, rfl, x, b, rfl, hxb.same hI.1, fun H2 s2 => ⟨b, rfl, bad_step rfl hb hI s2 hD (by omega)⟩⟩
      · obtain ⟨sm, ys, hd, he, hl⟩ := hI
        rw [xl, List.take_length] at he
        refine ⟨by show 0 ≤ sizeLine; decide, fun l hl2 => ?_⟩
        have s2 := same_new hl2 (.lst [])
        refine ⟨D, l, ys, rfl, rfl, SqL.of (s2 _ _ hd), SqL.of upd_same, ?_⟩
        have := q _ (sm.trans s2)
        rw [decide_eq_true c, Bool.true_and] at this
        rw [he]
        exact this
    · rw [decide_eq_false c]
      refine iteF ?_
      have := q H fun _ _ e => e
      rw [decide_eq_false c, Bool.false_and] at this
      exact this
  · exact ⟨x, rfl, x, .ty "tuple", t, .type "tuple", false, rfl, .ty _, h1, h2, false, rfl, iteF (q H fun _ _ e => e)⟩
end
end Rw
namespace Rw
open PySem PySem.Spec PyProof.Rows L2
/-! ### the law's own defs: numbers -/
abbrev sLawAt : Stmt := topS 25
abbrev sLawMixed : Stmt := topS 26
abbrev sLawPurse : Stmt := topS 27
abbrev sLawDraw : Stmt := topS 28
theorem scLawAt : FnScope ["script", "k"] ["script", "k"] (defScope sLawAt) := ⟨rfl, rfl, rfl, by decide +kernel, rfl, by decide +kernel, by decide +kernel⟩
theorem scLawMixed : FnScope ["cell", "k", "number"] ["cell", "k"] (defScope sLawMixed) := ⟨rfl, rfl, rfl, by decide +kernel, rfl, by decide +kernel, by decide +kernel⟩
theorem scLawPurse : FnScope ["script", "at", "cell"] ["script", "at"] (defScope sLawPurse) := ⟨rfl, rfl, rfl, by decide +kernel, rfl, by decide +kernel, by decide +kernel⟩
theorem scLawDraw : FnScope ["purse", "out_of", "drawn"] ["purse", "out_of"] (defScope sLawDraw) := ⟨rfl, rfl, rfl, by decide +kernel, rfl, by decide +kernel, by decide +kernel⟩
section
variable {P : Program} {w : World} {K : PySem.W.Frag} {mg : Str → Option Value} {base : Heap} {f : Addr} {fd : FuncData} {k : Nat}
def spLawAt (K : PySem.W.Frag) : Sp := fun vs H Q _ => ∃ (a : Addr) (ns : List Int) (j : Nat), vs = [.ref a, .int j] ∧ SqL K H a (ns.map V.int) ∧ ns.length ≤ 63 ∧ ∀ r, Q (.int r) H
theorem ok_lawAt (F : Fun K "_law_at" "_law_at" sLawAt f fd) (T : Bl mg) : FnOk P w K mg base CX0 (k + 1) f fd ["script", "k"] (spLawAt K) := by
  refine F.ok scLawAt (fun vs H Q E h => ?_) (fun cdv A outer s H vs Q E hr h => ?_)
  · obtain ⟨a, ns, j, rfl, _⟩ := h
    rfl
  obtain ⟨a, ns, j, rfl, hS, hl, q⟩ := h
  refine ⟨_, pss_cons (ps_if (pt_cmpR op_lt (pv 1) (pe_callB call_len_seq (by rfl) T.len PySem.boot_len (pa_cons (pv 0) pa_nil)) (nomark _)) (pss_one (ps_ret (pe_ix ix_list (pv 0) (pv 1) (fun _ _ => rfl)))) pss_nil) (pss_one (ps_ret pe_int)), ?_⟩
  refine ⟨.int j, rfl, .ref a, rfl, a, _, rfl, .inl hS, j, _, rfl, rfl, _, rfl, ite2 (fun e => ?_) (fun _ => ?_)⟩
  · have hlt : j < (ns.map V.int).length := by
      have := of_decide_eq_true e
      omega
    have hlt' : j < ns.length := by rwa [List.length_map] at hlt
    refine ⟨.ref a, rfl, .int j, rfl, a, _, j, .int ns[j], rfl, rfl, hS, atI_nat (j := j) ?_, q _⟩
    rw [List.getElem?_map, List.getElem?_eq_getElem hlt']
    rfl
  · exact q _
def spLawMixed : Sp := fun vs H Q _ => ∃ c k : Int, vs = [.int c, .int k] ∧ 0 ≤ c ∧ c < 2147483647 ∧ 0 ≤ k ∧ k ≤ 2000000 ∧ ∀ r, 0 ≤ r → Q (.int r) H
theorem ok_lawMixed (F : Fun K "_law_mixed" "_law_mixed" sLawMixed f fd) (T : Bl mg) : FnOk P w K mg base CX0 (k + 1) f fd ["cell", "k"] spLawMixed := by
  refine F.ok scLawMixed (fun vs H Q E h => ?_) (fun cdv A outer s H vs Q E hr h => ?_)
  · obtain ⟨c, k, rfl, _⟩ := h
    rfl
  obtain ⟨c, k, rfl, c0, c1, k0, k1, q⟩ := h
  refine ⟨_, pss_cons (ps_set (i := 2) scLawMixed.nd rfl (.inl rfl) (pe_op op_mod (pe_callTy call_int1 (by rfl) T.int (by decide +kernel) (pa_cons (pe_op op_add (pe_op op_add (pe_op op_add (pe_op op_mul (pv 0) pe_int) (pe_op op_mul (pe_op op_mul pe_int (pv 1)) (pv 1))) (pv 1)) pe_int) pa_nil)) pe_int))
    (pss_cons (ps_set (i := 2) scLawMixed.nd rfl (.inl rfl) (pe_op op_mod (pe_callTy call_int1 (by rfl) T.int (by decide +kernel) (pa_cons (pe_op op_add (pe_op op_mul (pv 2) (pv 2)) pe_int) pa_nil)) pe_int))
    (pss_one (ps_ret (pe_op op_mod (pe_callTy call_int1 (by rfl) T.int (by decide +kernel) (pa_cons (pe_op op_mul (pv 2) pe_int) pa_nil)) pe_int)))), ?_⟩
  refine ⟨.int c, rfl, c, _, rfl, rfl, .inl ⟨by omega, by omega⟩, .int k, rfl, _, k, rfl, rfl, .inl ⟨by decide, by decide⟩, .int k, rfl, _, k, rfl, rfl, .inl ⟨by omega, by omega⟩, ?_⟩
  refine ⟨_, _, rfl, rfl, .int k, rfl, _, k, rfl, rfl, _, _, rfl, rfl, .inl ⟨_, rfl, _, _, rfl, rfl, by show (0 : Int) < 2147483647; decide, ?_⟩⟩
  refine ⟨_, rfl, _, rfl, _, _, rfl, rfl, .inl (b64 (Int.emod_nonneg _ (by decide)) (Int.emod_lt_of_pos _ (by decide))), _, _, rfl, rfl, .inl ⟨_, rfl, _, _, rfl, rfl, by show (0 : Int) < 2147483629; decide, ?_⟩⟩
  refine ⟨_, rfl, _, _, rfl, rfl, .inl (b64 (Int.emod_nonneg _ (by decide)) (Int.lt_trans (Int.emod_lt_of_pos _ (by decide)) (by decide))), .inl ⟨_, rfl, _, _, rfl, rfl, by show (0 : Int) < 2147483587; decide, q _ (Int.emod_nonneg _ (by decide))⟩⟩
def spLawPurse (K : PySem.W.Frag) : Sp := fun vs H Q _ => ∃ (a : Addr) (ns : List Int) (j : Nat), vs = [.ref a, .int j] ∧ SqL K H a (ns.map V.int) ∧ ns.length ≤ 63 ∧ j ≤ 100 ∧ ∀ H' p, Same H H' → H p = none → Pur H' p 100000 → Q (.ref p) H'
theorem ok_lawPurse {f1 : Addr} {fd1 : FuncData} (F : Fun K "_law_purse" "_law_purse" sLawPurse f fd) (T : Bl mg) (G1 : FnOk P w K mg base CX0 k f1 fd1 ["script", "k"] (spLawAt K)) (b1 : Binds K fd1 ["script", "k"] []) (k1 : PySem.W.keepIn K (.ref f1) = true) (m1 : mg "_law_at" = some (.ref f1)) :
    FnOk P w K mg base CX0 (k + 1) f fd ["script", "at"] (spLawPurse K) := by
  refine F.ok scLawPurse (fun vs H Q E h => ?_) (fun cdv A outer s H vs Q E hr h => ?_)
  · obtain ⟨a, ns, j, rfl, _⟩ := h
    rfl
  obtain ⟨a, ns, j, rfl, hS, hl, hj, q⟩ := h
  refine ⟨_, pss_cons (ps_set (i := 2) scLawPurse.nd rfl (.inl rfl) (pe_call G1 hr (by rfl) m1 k1 b1 .nil pass0 (pa_cons (pv 0) (pa_cons (pv 1) pa_nil))))
    (pss_one (ps_ret (pe_lst (pa_cons (pe_op op_mod (pe_callTy call_int1 (by rfl) T.int (by decide +kernel) (pa_cons (pe_callB (call_max2 rfl) (by rfl) T.max (by decide +kernel) (pa_cons (pe_op op_sub (pv 2) (pe_op op_pow pe_int pe_int)) (pa_cons pe_int pa_nil))) pa_nil)) (pe_op op_powB (pe_op op_pow pe_int pe_int) pe_int))
      (pa_cons (pe_op op_mod (pe_callTy call_int1 (by rfl) T.int (by decide +kernel) (pa_cons (pv 2) pa_nil)) pe_int) (pa_cons (pe_op op_mul pe_int (pv 1)) pa_nil)))))), ?_⟩
  refine ⟨.ref a, rfl, .int j, rfl, a, ns, j, rfl, hS, hl, fun c => ?_⟩
  refine ⟨.int c, rfl, _, _, rfl, rfl, ⟨by decide, by decide, by decide⟩, _, _, rfl, rfl, _, _, rfl, .inl ⟨_, rfl, _, _, rfl, rfl, ⟨by decide, by decide, by decide⟩, _, _, rfl, rfl, ⟨by decide, by decide +kernel⟩, _, _, rfl, rfl, by show (0 : Int) < (10 ^ Int.toNat 60) ^ Int.toNat 10; decide +kernel, ?_⟩⟩
  refine ⟨.int c, rfl, .inl ⟨_, rfl, _, _, rfl, rfl, by show (0 : Int) < 2147483647; decide, .int j, rfl, _, _, rfl, rfl, .inl ⟨by decide, by decide⟩, by show 3 ≤ sizeLine; decide, fun p hp => ?_⟩⟩
  refine q _ p (same_new hp _) hp ⟨_, _, _, upd_same, Int.emod_nonneg _ (by decide +kernel), Int.emod_nonneg _ (by decide), Int.emod_lt_of_pos _ (by decide), ?_, ?_⟩
  · show (0 : Int) ≤ 1000 * (j : Int)
    omega
  · show 1000 * (j : Int) ≤ 100000
    omega
def spLawDraw : Sp := fun vs H Q _ => ∃ (p : Addr) (n c : Int), vs = [.ref p, .int n] ∧ Pur H p c ∧ c ≤ 1000000 ∧ 1 ≤ n ∧ n ≤ 1000 ∧ ∀ r us, 0 ≤ r → r < n → Pur (upd H p (.lst us)) p (c + 1) → Q (.int r) (upd H p (.lst us))
theorem ok_lawDraw {f1 : Addr} {fd1 : FuncData} (F : Fun K "_law_draw" "_law_draw" sLawDraw f fd) (T : Bl mg) (G1 : FnOk P w K mg base CX0 k f1 fd1 ["cell", "k"] spLawMixed) (b1 : Binds K fd1 ["cell", "k"] []) (k1 : PySem.W.keepIn K (.ref f1) = true) (m1 : mg "_law_mixed" = some (.ref f1)) :
    FnOk P w K mg base CX0 (k + 1) f fd ["purse", "out_of"] spLawDraw := by
  refine F.ok scLawDraw (fun vs H Q E h => ?_) (fun cdv A outer s H vs Q E hr h => ?_)
  · obtain ⟨p, n, c, rfl, _⟩ := h
    rfl
  obtain ⟨p, n, c, rfl, ⟨a, b, e, hp, a0, b0, b1', e0, e1⟩, c1, n0, n1, q⟩ := h
  refine ⟨_, pss_cons (ps_if (pt_cmpR op_gt (pe_ix ix_list (pv 0) pe_int (fun _ _ => rfl)) pe_int (nomark _))
      (pss_cons (ps_set (i := 2) scLawDraw.nd rfl (.inl rfl) (pe_op op_mod (pe_callTy call_int1 (by rfl) T.int (by decide +kernel) (pa_cons (pe_ix ix_list (pv 0) pe_int (fun _ _ => rfl)) pa_nil)) (pv 1)))
      (pss_cons (ps_asg (pe_op op_fdiv (pe_ix ix_list (pv 0) pe_int (fun _ _ => rfl)) (pv 1)) (pg_sub (pv 0) pe_int set_list)) (pss_one (ps_ret (pv 2))))) pss_nil)
    (pss_cons (ps_asg (pe_op op_add (pe_ix ix_list (pv 0) pe_int (fun _ _ => rfl)) pe_int) (pg_sub (pv 0) pe_int set_list))
    (pss_one (ps_ret (pe_op op_mod (pe_callTy call_int1 (by rfl) T.int (by decide +kernel) (pa_cons (pe_call G1 hr (by rfl) m1 k1 b1 .nil pass0 (pa_cons (pe_ix ix_list (pv 0) pe_int (fun _ _ => rfl)) (pa_cons (pe_ix ix_list (pv 0) pe_int (fun _ _ => rfl)) pa_nil))) pa_nil)) (pv 1))))), ?_⟩
  have hS : SqL K H p [.int a, .int b, .int e] := SqL.of hp
  refine ⟨.ref p, rfl, p, _, 0, .int a, rfl, rfl, hS, atI_nat (j := 0) rfl, _, _, rfl, rfl, _, rfl, ite2 (fun g => ?_) (fun _ => ?_)⟩
  · refine ⟨.ref p, rfl, p, _, 0, .int a, rfl, rfl, hS, atI_nat (j := 0) rfl, .inl ⟨_, rfl, .int n, rfl, _, _, rfl, rfl, by show 0 < n; omega, ?_⟩⟩
    refine ⟨.ref p, rfl, p, _, 0, .int a, rfl, rfl, hS, atI_nat (j := 0) rfl, .int n, rfl, _, _, rfl, rfl, ⟨by omega, by omega⟩, .ref p, rfl, p, _, 0, 0, rfl, rfl, hp, rfl, ?_⟩
    refine ⟨.int (a % n), rfl, q _ _ (Int.emod_nonneg _ (by omega)) (Int.emod_lt_of_pos _ (by omega)) ⟨a / n, b, e, upd_same, Int.ediv_nonneg a0 (by omega), b0, b1', e0, by omega⟩⟩
  · refine ⟨.ref p, rfl, p, _, 2, .int e, rfl, rfl, hS, atI_nat (j := 2) rfl, _, _, rfl, rfl, .ref p, rfl, p, _, 2, 2, rfl, rfl, hp, rfl, ?_⟩
    have hS2 : SqL K (upd H p (.lst [.int a, .int b, .int (e + 1)])) p [.int a, .int b, .int (e + 1)] := SqL.of upd_same
    refine ⟨.ref p, rfl, p, _, 1, .int b, rfl, rfl, hS2, atI_nat (j := 1) rfl, .ref p, rfl, p, _, 2, .int (e + 1), rfl, rfl, hS2, atI_nat (j := 2) rfl, b, e + 1, rfl, b0, b1', by omega, by omega, fun r r0 => ?_⟩
    refine .inl ⟨r, rfl, .int n, rfl, _, _, rfl, rfl, by show 0 < n; omega, ?_⟩
    exact q _ _ (Int.emod_nonneg _ (by omega)) (Int.emod_lt_of_pos _ (by omega)) ⟨a, b, e + 1, upd_same, a0, b0, b1', by omega, by omega⟩
end
end Rw
namespace Rw
open PySem PySem.Spec PyProof.Rows L2
/-! ### things laid, whatever is drawn behind -/
/-- what was laid between H and H' is as it was -/
def Fresh (H H' H'' : Hp) : Prop := ∀ b u, H b = none → H' b = some u → H'' b = some u
theorem Fresh.self (H H' : Hp) : Fresh H H' H' := fun _ _ _ e => e
theorem Fresh.left {H H1 H2 H'' : Hp} (f : Fresh H H2 H'') (e : Same H1 H2) : Fresh H H1 H'' := fun b u n h => f b u n (e b u h)
theorem Fresh.right {H H1 H2 H'' : Hp} (f : Fresh H H2 H'') (e : Same H H1) : Fresh H1 H2 H'' := fun b u n h => f b u (none_back e n) h
/-- drawing from what stood ahead -/
theorem Fresh.bar {H H1 H2 H'' : Hp} {p : Addr} {o : HO} (f : Fresh H H2 H'') (hp : H p = some o) (e : Bar p H1 H2) : Fresh H H1 H'' := fun b u n h => f b u n (e b u (fun z => by
  rw [z, hp] at n
  cases n) h)
def okWb : PyData → Bool
  | .tuple ds => ds.all oddNb && decide (ds.length ≤ 40)
  | .list ds => ds.all oddNb && decide (ds.length ≤ 40)
  | .dict _ => false
  | _ => true
where oddNb : PyData → Bool
  | .str x => decide (x.cps.size ≤ 10000)
  | .bool _ => false
  | .dict _ => false
  | _ => true
theorem oddNb_ok {d : PyData} (h : okWb.oddNb d = true) : oddN d := by
  cases d with
  | str x =>
    have h' : decide (x.cps.size ≤ 10000) = true := h
    show x.cps.size ≤ 10000
    exact of_decide_eq_true h'
  | bool _ => exact nomatch h
  | dict _ => exact nomatch h
  | _ => trivial
/-- whether the thing is a tuple or list of names -/
def arD : PyData → Bool
  | .tuple ds => ds.all nameD
  | .list ds => ds.all nameD
  | _ => false
/-- a thing: data, or {} -/
def Wv (K : PySem.W.Frag) (H : Hp) (x : V) (d : PyData) : Prop := (Dp K H x d ∧ okWb d = true) ∨ (d = .dict [] ∧ ∃ a, x = .ref a ∧ H a = some (.dK []))
section
variable {K : PySem.W.Frag} {H H' : Hp} {x : V} {d : PyData}
theorem Wv.same (h : Wv K H x d) (e : Same H H') : Wv K H' x d := h.elim (fun z => .inl ⟨dp_same e _ _ z.1, z.2⟩) fun ⟨a, b, c, f⟩ => .inr ⟨a, b, c, e _ _ f⟩
theorem Wv.ty (h : Wv K H x d) : TyX K H x (.type (tyName d)) := by
  rcases h with ⟨h, _⟩ | ⟨rfl, a, rfl, h⟩
  · exact tyx_dp h
  · exact .base (.dK h)
theorem Wv.notP {mg : Str → Option Value} {C : Addr} (G : PgC K mg C) (h : Wv K H x d) : NotP K C H x := ⟨_, h.ty, G.odd d⟩
theorem Wv.wl (h : Wv K H x d) : WlV K H x (worldD d) := by
  have ty := h.ty
  cases d with
  | none => exact .inr ⟨⟨_, ty, kit_ty (by decide +kernel)⟩, rfl⟩
  | bool b => exact .inr ⟨⟨_, ty, kit_ty (show kitB "bool" "tuple" = some false by decide +kernel)⟩, rfl⟩
  | int i => exact .inr ⟨⟨_, ty, kit_ty (show kitB "int" "tuple" = some false by decide +kernel)⟩, rfl⟩
  | str z => exact .inr ⟨⟨_, ty, kit_ty (show kitB "str" "tuple" = some false by decide +kernel)⟩, rfl⟩
  | list l => exact .inr ⟨⟨_, ty, kit_ty (show kitB "list" "tuple" = some false by decide +kernel)⟩, rfl⟩
  | dict l => exact .inr ⟨⟨_, ty, kit_ty (show kitB "dict" "tuple" = some false by decide +kernel)⟩, rfl⟩
  | tuple ds =>
    rcases h with ⟨h, o⟩ | ⟨e, _⟩
    · have o' : (ds.all okWb.oddNb && decide (ds.length ≤ 40)) = true := o
      rw [Bool.and_eq_true] at o'
      exact .inl ⟨_, h, ⟨fun d hd => oddNb_ok (List.all_eq_true.mp o'.1 d hd), of_decide_eq_true o'.2⟩, rfl⟩
    · cases e
theorem Wv.ar (h : Wv K H x d) : ArV K H x (arD d) := by
  have ty := h.ty
  cases d with
  | none => exact .inr ⟨⟨_, ty, kit_ty (by decide +kernel), kit_ty (by decide +kernel)⟩, rfl⟩
  | bool b => exact .inr ⟨⟨_, ty, kit_ty (show kitB "bool" "tuple" = some false by decide +kernel), kit_ty (show kitB "bool" "list" = some false by decide +kernel)⟩, rfl⟩
  | int i => exact .inr ⟨⟨_, ty, kit_ty (show kitB "int" "tuple" = some false by decide +kernel), kit_ty (show kitB "int" "list" = some false by decide +kernel)⟩, rfl⟩
  | str z => exact .inr ⟨⟨_, ty, kit_ty (show kitB "str" "tuple" = some false by decide +kernel), kit_ty (show kitB "str" "list" = some false by decide +kernel)⟩, rfl⟩
  | dict l => exact .inr ⟨⟨_, ty, kit_ty (show kitB "dict" "tuple" = some false by decide +kernel), kit_ty (show kitB "dict" "list" = some false by decide +kernel)⟩, rfl⟩
  | list ds =>
    rcases h with ⟨h, o⟩ | ⟨e, _⟩
    · have o' : (ds.all okWb.oddNb && decide (ds.length ≤ 40)) = true := o
      rw [Bool.and_eq_true] at o'
      cases h with
      | lst h1 h2 => exact .inl ⟨_, _, ds, rfl, .inr h1, h2, (fun d hd => oddNb_ok (List.all_eq_true.mp o'.1 d hd)), Nat.le_trans (of_decide_eq_true o'.2) (by decide), rfl⟩
    · cases e
  | tuple ds =>
    rcases h with ⟨h, o⟩ | ⟨e, _⟩
    · have o' : (ds.all okWb.oddNb && decide (ds.length ≤ 40)) = true := o
      rw [Bool.and_eq_true] at o'
      cases h with
      | tup h1 h2 => exact .inl ⟨_, _, ds, rfl, .inl h1, h2, (fun d hd => oddNb_ok (List.all_eq_true.mp o'.1 d hd)), Nat.le_trans (of_decide_eq_true o'.2) (by decide), rfl⟩
    · cases e
def Wvs (K : PySem.W.Frag) (H : Hp) : List V → List PyData → Prop
  | [], [] => True
  | x :: xs, d :: ds => Wv K H x d ∧ Wvs K H xs ds
  | _, _ => False
theorem Wvs.len : ∀ {xs : List V} {ds : List PyData}, Wvs K H xs ds → xs.length = ds.length
  | [], [], _ => rfl
  | _ :: _, _ :: _, ⟨_, t⟩ => by rw [List.length_cons, List.length_cons, Wvs.len t]
  | [], _ :: _, h => h.elim
  | _ :: _, [], h => h.elim
theorem Wvs.app {ys : List V} {es : List PyData} (h2 : Wvs K H ys es) : ∀ {xs : List V} {ds : List PyData}, Wvs K H xs ds → Wvs K H (xs ++ ys) (ds ++ es)
  | [], [], _ => h2
  | _ :: _, _ :: _, ⟨h, t⟩ => ⟨h, Wvs.app h2 t⟩
  | [], _ :: _, h => h.elim
  | _ :: _, [], h => h.elim
theorem Wvs.at : ∀ {xs : List V} {ds : List PyData} {i : Nat} {d : PyData}, Wvs K H xs ds → ds[i]? = some d → ∃ x, xs[i]? = some x ∧ Wv K H x d
  | x :: xs, d :: ds, 0, d', ⟨h, _⟩, e => ⟨x, rfl, (show d = d' by simpa using e) ▸ h⟩
  | x :: xs, d :: ds, i + 1, d', ⟨_, t⟩, e => by
    obtain ⟨y, h1, h2⟩ := Wvs.at (i := i) t (by simpa using e)
    exact ⟨y, by simpa using h1, h2⟩
  | [], [], _, _, _, e => by simp at e
  | [], _ :: _, _, _, h, _ => h.elim
  | _ :: _, [], _, _, h, _ => h.elim
end
section
variable {K : PySem.W.Frag} {te : TE} {ta : TA} {d : PyData} {ds : List PyData}
def Lit (K : PySem.W.Frag) (te : TE) (d : PyData) : Prop := ∀ (σ : L2.St) (H : Hp) (Q : VK), (∀ x H', Same H H' → (∀ H'', Fresh H H' H'' → Dp K H'' x d) → Q x H') → te σ H Q
def Lits (K : PySem.W.Frag) (ta : TA) (ds : List PyData) : Prop := ∀ (σ : L2.St) (H : Hp) (Q : List V → Hp → Prop), (∀ xs H', Same H H' → xs.length = ds.length → (∀ H'', Fresh H H' H'' → DpAll K H'' xs ds) → Q xs H') → ta σ H Q
theorem lit_non : Lit K (tC .non) .none := fun σ H Q q => q _ _ (fun _ _ e => e) fun _ _ => .non
theorem lit_str {x : Str} : Lit K (tC (.str x)) (.str x) := fun σ H Q q => q _ _ (fun _ _ e => e) fun _ _ => .str x
theorem lit_int {i : Int} : Lit K (tC (.int i)) (.int i) := fun σ H Q q => q _ _ (fun _ _ e => e) fun _ _ => .int i
theorem lit_bl {b : Bool} : Lit K (tC (.bl b)) (.bool b) := fun σ H Q q => q _ _ (fun _ _ e => e) fun _ _ => .bl b
theorem lits_nil : Lits K tNil [] := fun σ H Q q => q _ _ (fun _ _ e => e) rfl fun _ _ => .nil
theorem lits_cons (h : Lit K te d) (t : Lits K ta ds) : Lits K (tCons te ta) (d :: ds) := fun σ H Q q =>
  h σ H _ fun x H1 s1 g1 => t σ H1 _ fun xs H2 s2 l2 g2 => q _ _ (s1.trans s2) (by rw [List.length_cons, List.length_cons, l2]) fun H'' f => .cons (g1 H'' (f.left s2)) (g2 H'' (f.right s1))
theorem lit_tup (h : Lits K ta ds) (l : ds.length ≤ 1000) : Lit K (tTup ta) (.tuple ds) := fun σ H Q q =>
  h σ H _ fun xs H1 s1 e g => ⟨small_line (by omega), fun p hp => q _ _ (s1.trans (same_new hp _)) fun H'' f => .tup (SqT.of (f p _ (none_back s1 hp) upd_same)) (g H'' (f.left (same_new hp _)))⟩
theorem lit_lst (h : Lits K ta ds) (l : ds.length ≤ 1000) : Lit K (tLst ta) (.list ds) := fun σ H Q q =>
  h σ H _ fun xs H1 s1 e g => ⟨small_line (by omega), fun p hp => q _ _ (s1.trans (same_new hp _)) fun H'' f => .lst (SqL.of (f p _ (none_back s1 hp) upd_same)) (g H'' (f.left (same_new hp _)))⟩
/-- things, told of in every heap that keeps what was laid -/
def Lw (K : PySem.W.Frag) (te : TE) (d : PyData) : Prop := ∀ (σ : L2.St) (H : Hp) (Q : VK), (∀ x H', Same H H' → (∀ H'', Fresh H H' H'' → Wv K H'' x d) → Q x H') → te σ H Q
def Lws (K : PySem.W.Frag) (ta : TA) (ds : List PyData) : Prop := ∀ (σ : L2.St) (H : Hp) (Q : List V → Hp → Prop), (∀ xs H', Same H H' → xs.length = ds.length → (∀ H'', Fresh H H' H'' → Wvs K H'' xs ds) → Q xs H') → ta σ H Q
theorem lw_dat (h : Lit K te d) (o : okWb d = true) : Lw K te d := fun σ H Q q => h σ H Q fun x H' s g => q x H' s fun H'' f => .inl ⟨g H'' f, o⟩
theorem lw_e0 : Lw K tDNewK (.dict []) := fun σ H Q q p hp => q _ _ (same_new hp _) fun H'' f => .inr ⟨rfl, p, rfl, f p _ hp upd_same⟩
theorem lws_nil : Lws K tNil [] := fun σ H Q q => q _ _ (fun _ _ e => e) rfl fun _ _ => True.intro
theorem lws_cons (h : Lw K te d) (t : Lws K ta ds) : Lws K (tCons te ta) (d :: ds) := fun σ H Q q =>
  h σ H _ fun x H1 s1 g1 => t σ H1 _ fun xs H2 s2 l2 g2 => q _ _ (s1.trans s2) (by rw [List.length_cons, List.length_cons, l2]) fun H'' f => ⟨g1 H'' (f.left s2), g2 H'' (f.right s1)⟩
/-- a list of things laid since H0 -/
def FW (K : PySem.W.Frag) (H0 H1 : Hp) (l : Addr) (ds : List PyData) : Prop := Same H0 H1 ∧ H0 l = none ∧ ∃ xs : List V, xs.length = ds.length ∧ ∀ H'', Fresh H0 H1 H'' → H'' l = some (.lst xs) ∧ Wvs K H'' xs ds
theorem first_FW {u : TS} {D : Ends} {H0 : Hp} {σ : L2.St} {j : Nat} (h : Lws K ta ds) (lim : ds.length ≤ 1000) (q : ∀ H' l', FW K H0 H' l' ds → u D (σ.set j (some (.ref l'))) H') : tSeq (tAsg (tLst ta) (gName j)) u D σ H0 :=
  h σ H0 _ fun xs H1 s1 e g => ⟨small_line (by omega), fun p hp => q _ _ ⟨s1.trans (same_new hp _), none_back s1 hp, xs, e, fun H'' f => ⟨f p _ (none_back s1 hp) upd_same, g H'' (f.left (same_new hp _))⟩⟩⟩
theorem step_FW {u : TS} {D : Ends} {H0 H1 : Hp} {σ : L2.St} {j : Nat} {l : Addr} {es : List PyData} (h : FW K H0 H1 l ds) (hs : σ[j]? = some (some (.ref l))) (t : Lws K ta es) (lim : ds.length + es.length ≤ 1000) (q : ∀ H' l', FW K H0 H' l' (ds ++ es) → u D (σ.set j (some (.ref l'))) H') : tSeq (tAsg (tOp rCat (tVar j) (tLst ta)) (gName j)) u D σ H1 := by
  obtain ⟨s1, _, xs, e, g⟩ := h
  refine ⟨_, hs, t σ H1 _ fun ys H2 s2 e2 g2 => ⟨small_line (by omega), fun p hp => ?_⟩⟩
  have s3 := same_new hp (.lst ys)
  refine ⟨l, p, xs, ys, rfl, rfl, (s2.trans s3) _ _ (g H1 (.self _ _)).1, upd_same, small_line (by omega), fun p2 hp2 => ?_⟩
  have s4 := same_new hp2 (.lst (xs ++ ys))
  have s24 := s2.trans (s3.trans s4)
  exact q _ _ ⟨s1.trans s24, none_back (s1.trans (s2.trans s3)) hp2, xs ++ ys, by rw [List.length_append, List.length_append, e, e2], fun H'' f => ⟨f p2 _ (none_back (s1.trans (s2.trans s3)) hp2) upd_same, Wvs.app (g2 H'' ((f.right s1).left (s3.trans s4))) (g H'' (f.left s24)).2⟩⟩
end
/-! ### _law_world -/
def wldK0 : List PyData := [(.tuple []), (.tuple [(.str "a")]), (.tuple [(.str "a"), (.str "b")]), (.tuple [(.str "b"), (.str "a")]), (.tuple [(.str "a"), (.str "a")]), (.list [(.str "a")]), .none, (.str "a"), (.tuple [(.str "A")]), (.tuple [(.str "")]), (.tuple [(.str "ninesigns")]), (.tuple [(.str "not")])]
def wldK1 : List PyData := [(.tuple [(.str "eightlet")]), (.tuple [(.str "a"), (.int 1)]), (.tuple [(.tuple [(.str "a")])]), (.tuple [(.str "a b")]), (.int 7), (.dict []), (.tuple [(.str "nota")]), (.tuple [(.str "no"), (.str "noth")]), (.tuple [(.list [(.str "a")])]), (.bool true)]
def wldK2 : List PyData := [(.tuple [(.str "a1")]), (.tuple [(.str "a_b")]), (.tuple [(.str "aB")]), (.tuple [(.str "1")]), (.tuple [(.str "a-b")]), (.tuple [(.str "a.")]), (.tuple [(.str "b1"), (.str "b")]), (.list [(.str "a1")])]
def wldK3 : List PyData := [(.tuple [(.str "{")]), (.tuple [(.str "`")]), (.tuple [(.str "a{")]), (.tuple [(.str "a\n")]), (.tuple [(.str "\n")]), (.list [(.str "a\n")])]
def wldK : List PyData := wldK0 ++ wldK1 ++ wldK2 ++ wldK3
abbrev sLawWorld : Stmt := topS 33
theorem scLawWorld : FnScope ["purse", "some"] ["purse"] (defScope sLawWorld) := ⟨rfl, rfl, rfl, by decide +kernel, rfl, by decide +kernel, by decide +kernel⟩
section
variable {P : Program} {w : World} {K : PySem.W.Frag} {mg : Str → Option Value} {base : Heap} {f : Addr} {fd : FuncData} {k : Nat}
/-- a thing drawn -/
def spLawWorld (K : PySem.W.Frag) : Sp := fun vs H Q _ => ∃ (p : Addr) (c : Int), vs = [.ref p] ∧ Pur H p c ∧ c ≤ 1000000 ∧ ∀ H' x d, Bar p H H' → Pur H' p (c + 1) → (∀ H'', Fresh H H' H'' → Wv K H'' x d) → Q x H'
theorem ok_lawWorld {f1 : Addr} {fd1 : FuncData} (F : Fun K "_law_world" "_law_world" sLawWorld f fd) (G1 : FnOk P w K mg base CX0 k f1 fd1 ["purse", "out_of"] spLawDraw) (b1 : Binds K fd1 ["purse", "out_of"] []) (k1 : PySem.W.keepIn K (.ref f1) = true) (m1 : mg "_law_draw" = some (.ref f1)) :
    FnOk P w K mg base CX0 (k + 1) f fd ["purse"] (spLawWorld K) := by
  refine F.ok scLawWorld (fun vs H Q E h => let ⟨p, c, e, _⟩ := h; by rw [e]; rfl) (fun cdv A outer s H vs Q E hr h => ?_)
  obtain ⟨p, c, rfl, hP, lc, q⟩ := h
  refine ⟨_, (pss_cons (ps_set (i := 1) scLawWorld.nd rfl (.inl rfl) (pe_lst (pa_cons (pe_tup pa_nil) (pa_cons (pe_tup (pa_cons pe_str pa_nil)) (pa_cons (pe_tup (pa_cons pe_str (pa_cons pe_str pa_nil))) (pa_cons (pe_tup (pa_cons pe_str (pa_cons pe_str pa_nil))) (pa_cons (pe_tup (pa_cons pe_str (pa_cons pe_str pa_nil))) (pa_cons (pe_lst (pa_cons pe_str pa_nil)) (pa_cons pe_non (pa_cons pe_str (pa_cons (pe_tup (pa_cons pe_str pa_nil)) (pa_cons (pe_tup (pa_cons pe_str pa_nil)) (pa_cons (pe_tup (pa_cons pe_str pa_nil)) (pa_cons (pe_tup (pa_cons pe_str pa_nil)) pa_nil))))))))))))))
    (pss_cons (ps_set (i := 1) scLawWorld.nd rfl (.inl rfl) (pe_op op_cat (pv 1) (pe_lst (pa_cons (pe_tup (pa_cons pe_str pa_nil)) (pa_cons (pe_tup (pa_cons pe_str (pa_cons pe_int pa_nil))) (pa_cons (pe_tup (pa_cons (pe_tup (pa_cons pe_str pa_nil)) pa_nil)) (pa_cons (pe_tup (pa_cons pe_str pa_nil)) (pa_cons pe_int (pa_cons pe_dnewK (pa_cons (pe_tup (pa_cons pe_str pa_nil)) (pa_cons (pe_tup (pa_cons pe_str (pa_cons pe_str pa_nil))) (pa_cons (pe_tup (pa_cons (pe_lst (pa_cons pe_str pa_nil)) pa_nil)) (pa_cons pe_bl pa_nil)))))))))))))
    (pss_cons (ps_set (i := 1) scLawWorld.nd rfl (.inl rfl) (pe_op op_cat (pv 1) (pe_lst (pa_cons (pe_tup (pa_cons pe_str pa_nil)) (pa_cons (pe_tup (pa_cons pe_str pa_nil)) (pa_cons (pe_tup (pa_cons pe_str pa_nil)) (pa_cons (pe_tup (pa_cons pe_str pa_nil)) (pa_cons (pe_tup (pa_cons pe_str pa_nil)) (pa_cons (pe_tup (pa_cons pe_str pa_nil)) (pa_cons (pe_tup (pa_cons pe_str (pa_cons pe_str pa_nil))) (pa_cons (pe_lst (pa_cons pe_str pa_nil)) pa_nil)))))))))))
    (pss_cons (ps_set (i := 1) scLawWorld.nd rfl (.inl rfl) (pe_op op_cat (pv 1) (pe_lst (pa_cons (pe_tup (pa_cons pe_str pa_nil)) (pa_cons (pe_tup (pa_cons pe_str pa_nil)) (pa_cons (pe_tup (pa_cons pe_str pa_nil)) (pa_cons (pe_tup (pa_cons pe_str pa_nil)) (pa_cons (pe_tup (pa_cons pe_str pa_nil)) (pa_cons (pe_lst (pa_cons pe_str pa_nil)) pa_nil)))))))))
    (pss_one (ps_ret (pe_ix (r := rIxL K) ix_list (pv 1) (pe_call G1 hr (by rfl) m1 k1 b1 .nil pass0 (pa_cons (pv 0) (pa_cons pe_int pa_nil))) (fun _ _ => rfl)))))))), ?_⟩
  refine first_FW (j := 1) (K := K) (ds := wldK0) (lws_cons (lw_dat (lit_tup lits_nil (by decide)) (by decide +kernel)) (lws_cons (lw_dat (lit_tup (lits_cons lit_str lits_nil) (by decide)) (by decide +kernel)) (lws_cons (lw_dat (lit_tup (lits_cons lit_str (lits_cons lit_str lits_nil)) (by decide)) (by decide +kernel)) (lws_cons (lw_dat (lit_tup (lits_cons lit_str (lits_cons lit_str lits_nil)) (by decide)) (by decide +kernel)) (lws_cons (lw_dat (lit_tup (lits_cons lit_str (lits_cons lit_str lits_nil)) (by decide)) (by decide +kernel)) (lws_cons (lw_dat (lit_lst (lits_cons lit_str lits_nil) (by decide)) (by decide +kernel)) (lws_cons (lw_dat lit_non (by decide +kernel)) (lws_cons (lw_dat lit_str (by decide +kernel)) (lws_cons (lw_dat (lit_tup (lits_cons lit_str lits_nil) (by decide)) (by decide +kernel)) (lws_cons (lw_dat (lit_tup (lits_cons lit_str lits_nil) (by decide)) (by decide +kernel)) (lws_cons (lw_dat (lit_tup (lits_cons lit_str lits_nil) (by decide)) (by decide +kernel)) (lws_cons (lw_dat (lit_tup (lits_cons lit_str lits_nil) (by decide)) (by decide +kernel)) lws_nil)))))))))))) (by decide) fun H1 l1 w1 => ?_
  refine step_FW (j := 1) (es := wldK1) w1 rfl (lws_cons (lw_dat (lit_tup (lits_cons lit_str lits_nil) (by decide)) (by decide +kernel)) (lws_cons (lw_dat (lit_tup (lits_cons lit_str (lits_cons lit_int lits_nil)) (by decide)) (by decide +kernel)) (lws_cons (lw_dat (lit_tup (lits_cons (lit_tup (lits_cons lit_str lits_nil) (by decide)) lits_nil) (by decide)) (by decide +kernel)) (lws_cons (lw_dat (lit_tup (lits_cons lit_str lits_nil) (by decide)) (by decide +kernel)) (lws_cons (lw_dat lit_int (by decide +kernel)) (lws_cons lw_e0 (lws_cons (lw_dat (lit_tup (lits_cons lit_str lits_nil) (by decide)) (by decide +kernel)) (lws_cons (lw_dat (lit_tup (lits_cons lit_str (lits_cons lit_str lits_nil)) (by decide)) (by decide +kernel)) (lws_cons (lw_dat (lit_tup (lits_cons (lit_lst (lits_cons lit_str lits_nil) (by decide)) lits_nil) (by decide)) (by decide +kernel)) (lws_cons (lw_dat lit_bl (by decide +kernel)) lws_nil)))))))))) (by decide) fun H2 l2 w2 => ?_
  refine step_FW (j := 1) (es := wldK2) w2 rfl (lws_cons (lw_dat (lit_tup (lits_cons lit_str lits_nil) (by decide)) (by decide +kernel)) (lws_cons (lw_dat (lit_tup (lits_cons lit_str lits_nil) (by decide)) (by decide +kernel)) (lws_cons (lw_dat (lit_tup (lits_cons lit_str lits_nil) (by decide)) (by decide +kernel)) (lws_cons (lw_dat (lit_tup (lits_cons lit_str lits_nil) (by decide)) (by decide +kernel)) (lws_cons (lw_dat (lit_tup (lits_cons lit_str lits_nil) (by decide)) (by decide +kernel)) (lws_cons (lw_dat (lit_tup (lits_cons lit_str lits_nil) (by decide)) (by decide +kernel)) (lws_cons (lw_dat (lit_tup (lits_cons lit_str (lits_cons lit_str lits_nil)) (by decide)) (by decide +kernel)) (lws_cons (lw_dat (lit_lst (lits_cons lit_str lits_nil) (by decide)) (by decide +kernel)) lws_nil)))))))) (by decide) fun H3 l3 w3 => ?_
  refine step_FW (j := 1) (es := wldK3) w3 rfl (lws_cons (lw_dat (lit_tup (lits_cons lit_str lits_nil) (by decide)) (by decide +kernel)) (lws_cons (lw_dat (lit_tup (lits_cons lit_str lits_nil) (by decide)) (by decide +kernel)) (lws_cons (lw_dat (lit_tup (lits_cons lit_str lits_nil) (by decide)) (by decide +kernel)) (lws_cons (lw_dat (lit_tup (lits_cons lit_str lits_nil) (by decide)) (by decide +kernel)) (lws_cons (lw_dat (lit_tup (lits_cons lit_str lits_nil) (by decide)) (by decide +kernel)) (lws_cons (lw_dat (lit_lst (lits_cons lit_str lits_nil) (by decide)) (by decide +kernel)) lws_nil)))))) (by decide) fun H4 l4 w4 => ?_
  obtain ⟨s4, nl4, xs, xl, g⟩ := w4
  have hP4 := hP.same s4
  refine ⟨.ref l4, rfl, .ref p, rfl, p, 36, c, rfl, hP4, lc, by decide, by decide, fun r us r0 r1 hP5 => ?_⟩
  obtain ⟨j, rfl⟩ := Int.eq_ofNat_of_zero_le r0
  have j36 : j < wldK.length := by
    show j < 36
    omega
  have hd : wldK[j]? = some wldK[j] := List.getElem?_eq_getElem j36
  have at4 := g H4 (.self _ _)
  obtain ⟨x, hx, _⟩ := Wvs.at at4.2 hd
  have bar : Bar p H4 (upd H4 p (.lst us)) := .draw
  obtain ⟨o, hpo⟩ : ∃ o, H p = some o := by
    obtain ⟨a, b, e, h1, _⟩ := hP
    exact ⟨_, h1⟩
  have nl : l4 ≠ p := fun z => by
    rw [z, hpo] at nl4
    cases nl4
  refine ⟨l4, xs, (j : Int), x, rfl, rfl, SqL.of (bar l4 _ nl at4.1), atI_nat (j := j) hx, q _ x wldK[j] ((Bar.same s4).trans bar) hP5 fun H'' f => ?_⟩
  obtain ⟨x', hx', hw⟩ := Wvs.at (g H'' (f.bar hpo bar)).2 hd
  rw [hx] at hx'
  cases hx'
  exact hw
end
end Rw
namespace Rw
open PySem PySem.Spec PyProof.Rows L2
/-! ### _law_bent -/
abbrev sLawBent : Stmt := topS 34
def nBent : List Str := ["purse", "good", "row", "k"]
theorem scLawBent : FnScope nBent ["purse"] (defScope sLawBent) := ⟨rfl, rfl, rfl, by decide +kernel, rfl, by decide +kernel, by decide +kernel⟩
def goodK : List PyData := [.tuple [], .tuple [.str "a"], .tuple [.str "a", .str "b"], .tuple [.str "nota"]]
theorem Fresh.sub {H Hr Hw H' H'' : Hp} (f : Fresh H H' H'') (g : ∀ b, Hr b = none → H b = none) (k : ∀ b u, Hr b = none → Hw b = some u → H' b = some u) : Fresh Hr Hw H'' := fun b u n h => f b u (g b n) (k b u n h)
theorem grow_bar {p : Addr} {H Hr : Hp} {o : HO} (b : Bar p H Hr) (hp : Hr p = some o) : ∀ a, Hr a = none → H a = none := fun a n => by
  cases e : H a with
  | none => rfl
  | some u =>
    have na : a ≠ p := fun z => by
      rw [z, hp] at n
      cases n
    rw [b a u na e] at n
    cases n
/-- a thing that may be a rule, and whether it is one -/
def Bv (K : PySem.W.Frag) (H : Hp) (x : V) (b : Bool) : Prop := RuV K H x b ∧ (∃ a, x = .ref a) ∧ ∃ t, TyX K H x (.type t) ∧ (t = "tuple" ∨ t = "list")
theorem wls_of {K : PySem.W.Frag} {H : Hp} : ∀ {xs : List V} {ds : List PyData}, Wvs K H xs ds → WlVs K H xs (ds.map worldD)
  | [], [], _ => True.intro
  | _ :: _, _ :: _, ⟨h, t⟩ => ⟨h.wl, wls_of t⟩
  | [], _ :: _, h => h.elim
  | _ :: _, [], h => h.elim
theorem bv_tup {K : PySem.W.Frag} {H : Hp} {a : Addr} {xs : List V} {ds : List PyData} (h : H a = some (.tup xs)) (hw : Wvs K H xs ds) (few : ds.length ≤ 100) : Bv K H (.ref a) (decide ((ds.map worldD).length = 4) && (ds.map worldD).all id) :=
  ⟨.inl ⟨a, xs, _, rfl, SqT.of h, wls_of hw, by rw [List.length_map]; exact few, rfl⟩, ⟨a, rfl⟩, "tuple", tyx_tup (SqT.of h), .inl rfl⟩
theorem bv_lst {K : PySem.W.Frag} {H : Hp} {a : Addr} {xs : List V} (h : H a = some (.lst xs)) : Bv K H (.ref a) false := ⟨.inr ⟨⟨.type "list", .base (.lst h), kit_ty (by decide +kernel)⟩, rfl⟩, ⟨a, rfl⟩, "list", .base (.lst h), .inr rfl⟩
theorem Wvs.set {K : PySem.W.Frag} {H : Hp} {x : V} {d : PyData} (hx : Wv K H x d) : ∀ {xs : List V} {ds : List PyData} {j : Nat}, Wvs K H xs ds → Wvs K H (xs.set j x) (ds.set j d)
  | [], [], _, _ => True.intro
  | _ :: _, _ :: _, 0, ⟨_, t⟩ => ⟨hx, t⟩
  | _ :: _, _ :: _, j + 1, ⟨h, t⟩ => ⟨h, Wvs.set (j := j) hx t⟩
  | [], _ :: _, _, h => h.elim
  | _ :: _, [], _, h => h.elim
theorem Wvs.take {K : PySem.W.Frag} {H : Hp} : ∀ {xs : List V} {ds : List PyData} {j : Nat}, Wvs K H xs ds → Wvs K H (xs.take j) (ds.take j)
  | [], [], _, _ => by simp [Wvs]
  | _ :: _, _ :: _, 0, _ => True.intro
  | _ :: _, _ :: _, j + 1, ⟨h, t⟩ => ⟨h, Wvs.take (j := j) t⟩
  | [], _ :: _, _, h => h.elim
  | _ :: _, [], _, h => h.elim
theorem pur_put {H : Hp} {p D : Addr} {c : Int} {o : HO} (h : Pur H p c) (n : p ≠ D) : Pur (upd H D o) p c := by
  obtain ⟨a, b, e, h1, h2⟩ := h
  exact ⟨a, b, e, by rw [upd_ne n]; exact h1, h2⟩
theorem bar_put {H H' : Hp} {p D : Addr} {o : HO} (h : Bar p H H') (n : H D = none) : Bar p H (upd H' D o) := fun b u nb e => by
  have nD : b ≠ D := fun z => by
    rw [z, n] at e
    cases e
  rw [upd_ne nD]
  exact h b u nb e
section
variable {P : Program} {w : World} {K : PySem.W.Frag} {mg : Str → Option Value} {base : Heap} {f : Addr} {fd : FuncData} {k : Nat}
def spLawBent (K : PySem.W.Frag) : Sp := fun vs H Q _ => ∃ (p : Addr) (c : Int), vs = [.ref p] ∧ Pur H p c ∧ c ≤ 900000 ∧ ∀ H' x b, Bar p H H' → Pur H' p (c + 10) → (∀ H'', Fresh H H' H'' → Bv K H'' x b) → Q x H'
theorem ok_lawBent {f1 f2 : Addr} {fd1 fd2 : FuncData} (F : Fun K "_law_bent" "_law_bent" sLawBent f fd) (T : Bl mg) (G1 : FnOk P w K mg base CX0 k f1 fd1 ["purse", "out_of"] spLawDraw) (b1 : Binds K fd1 ["purse", "out_of"] []) (k1 : PySem.W.keepIn K (.ref f1) = true) (m1 : mg "_law_draw" = some (.ref f1))
    (G2 : FnOk P w K mg base CX0 k f2 fd2 ["purse"] (spLawWorld K)) (b2 : Binds K fd2 ["purse"] []) (k2 : PySem.W.keepIn K (.ref f2) = true) (m2 : mg "_law_world" = some (.ref f2)) : FnOk P w K mg base CX0 (k + 1) f fd ["purse"] (spLawBent K) := by
  refine F.ok scLawBent (fun vs H Q E h => let ⟨p, c, e, _⟩ := h; by rw [e]; rfl) (fun cdv A outer s H vs Q E hr h => ?_)
  obtain ⟨p, c, rfl, hP, lc, q⟩ := h
  refine ⟨_, pss_cons (ps_set (i := 1) scLawBent.nd rfl (.inr rfl) (pe_lst (pa_cons (pe_tup pa_nil) (pa_cons (pe_tup (pa_cons pe_str pa_nil)) (pa_cons (pe_tup (pa_cons pe_str (pa_cons pe_str pa_nil))) (pa_cons (pe_tup (pa_cons pe_str pa_nil)) pa_nil))))))
    (pss_cons (ps_setLc (i := 2) (own := [("k", 3)]) (g := gName 3) (by rfl) scLawBent.nd rfl rfl (sw_true rfl rfl rfl (by decide +kernel)) (pi_range1 rfl T.range (pa_cons pe_int pa_nil)) (blkOk_by (N := nBent) (sc := defScope sLawBent) (by decide +kernel))
        (fun _ _ _ _ _ => pg_name (i := 3) scLawBent.nd rfl (Or.inl rfl)) (fun _ _ _ _ _ => pts_nil) (fun _ _ _ _ _ => pe_ix (r := rIxL K) ix_list (pv 1) (pe_call G1 hr (by rfl) m1 k1 b1 .nil pass0 (pa_cons (pv 0) (pa_cons pe_int pa_nil))) (fun _ _ => rfl)))
    (pss_cons (ps_if (pt_cmpR op_gt (pe_call G1 hr (by rfl) m1 k1 b1 .nil pass0 (pa_cons (pv 0) (pa_cons pe_int pa_nil))) pe_int (nomark _))
      (pss_one (ps_asg (pe_call G2 hr (by rfl) m2 k2 b2 .nil pass0 (pa_cons (pv 0) pa_nil)) (pg_sub (pv 2) (pe_call G1 hr (by rfl) m1 k1 b1 .nil pass0 (pa_cons (pv 0) (pa_cons pe_int pa_nil))) set_list))) pss_nil)
    (pss_one (ps_ret (pe_ix (r := rIxL K) ix_list (pe_lst (pa_cons (pe_callTy call_tuple_of (by rfl) T.tuple (by decide +kernel) (pa_cons (pv 2) pa_nil)) (pa_cons (pe_callTy call_tuple_of (by rfl) T.tuple (by decide +kernel) (pa_cons (pv 2) pa_nil)) (pa_cons (pe_callTy call_tuple_of (by rfl) T.tuple (by decide +kernel) (pa_cons (pv 2) pa_nil))
      (pa_cons (pv 2) (pa_cons (pe_callTy call_tuple_of (by rfl) T.tuple (by decide +kernel) (pa_cons (pe_slice (r := rSlL K) sl_list (pv 2) po_none (po_some pe_int)) pa_nil)) (pa_cons (pe_callTy call_tuple_of (by rfl) T.tuple (by decide +kernel) (pa_cons (pe_op op_cat (pv 2) (pe_lst (pa_cons (pe_tup pa_nil) pa_nil))) pa_nil)) pa_nil)))))))
      (pe_call G1 hr (by rfl) m1 k1 b1 .nil pass0 (pa_cons (pv 0) (pa_cons pe_int pa_nil))) (fun _ _ => rfl)))))), ?_⟩
  obtain ⟨o, hpo⟩ : ∃ o, H p = some o := by
    obtain ⟨a, b, e, h1, _⟩ := hP
    exact ⟨_, h1⟩
  refine first_FW (j := 1) (K := K) (ds := goodK) (lws_cons (lw_dat (lit_tup lits_nil (by decide)) (by decide +kernel)) (lws_cons (lw_dat (lit_tup (lits_cons lit_str lits_nil) (by decide)) (by decide +kernel)) (lws_cons (lw_dat (lit_tup (lits_cons lit_str (lits_cons lit_str lits_nil)) (by decide)) (by decide +kernel)) (lws_cons (lw_dat (lit_tup (lits_cons lit_str lits_nil) (by decide)) (by decide +kernel)) lws_nil)))) (by decide) fun Hg lg wg => ?_
  obtain ⟨sg, nlg, gs, gl, gw⟩ := wg
  have hpg := sg _ _ hpo
  have nl : lg ≠ p := fun z => by
    rw [z, hpo] at nlg
    cases nlg
  have gl4 : gs.length = 4 := gl
  have hlg := (gw Hg (.self _ _)).1
  refine ⟨4, rfl, by decide, by decide, fun D hD => ?_⟩
  have nD : D ≠ p := fun z => by
    rw [z, hpg] at hD
    cases hD
  have nDH : H D = none := none_back sg hD
  refine lc_range (fun i H1 => Bar p Hg H1 ∧ Pur H1 p (c + i) ∧ ∃ (zs : List V) (js : List PyData), H1 D = some (.lst zs) ∧ zs.length = i ∧ js.length = i ∧ ∀ H'', Fresh H Hg H'' → Wvs K H'' zs js) ⟨.same (same_new hD _), ((hP.same sg).same (same_new hD _)).le (by omega), [], [], upd_same, rfl, rfl, fun _ _ => True.intro⟩ (fun i H1 il hI => ?_) (fun H1 hI => ?_)
  · obtain ⟨bar, pu, zs, js, hd, lz, lj, hw⟩ := hI
    have i4 : i < 4 := il
    refine ⟨rfl, .ref lg, rfl, .ref p, rfl, p, 4, _, rfl, pu, by omega, by decide, by decide, fun r us r0 r1 hP2 => ?_⟩
    obtain ⟨j, rfl⟩ := Int.eq_ofNat_of_zero_le r0
    have j4 : j < gs.length := by omega
    have gj : goodK[j]? = some (goodK[j]'(by show j < 4; omega)) := List.getElem?_eq_getElem _
    have bar2 : Bar p Hg (upd H1 p (.lst us)) := bar.trans .draw
    have hd2 : (upd H1 p (.lst us)) D = some (.lst zs) := by rw [upd_ne nD]; exact hd
    refine ⟨lg, gs, (j : Int), gs[j], rfl, rfl, SqL.of (bar2 lg _ nl hlg), atI_nat (j := j) (List.getElem?_eq_getElem j4), zs, hd2, small_line (by omega), bar_put bar2 hD, (pur_put hP2 nD.symm).le (by omega), zs ++ [gs[j]], js ++ [goodK[j]'(by show j < 4; omega)], upd_same, by rw [List.length_append, lz]; rfl, by rw [List.length_append, lj]; rfl, fun H'' f => Wvs.app ?_ (hw H'' f)⟩
    obtain ⟨x, hx, hv⟩ := Wvs.at (gw H'' f).2 gj
    rw [List.getElem?_eq_getElem j4] at hx
    cases hx
    exact ⟨hv, True.intro⟩
  obtain ⟨barR, puR, zs, js, hdR, lz, lj, hwR⟩ := hI
  have lz4 : zs.length = 4 := lz
  have lj4 : js.length = 4 := lj
  have puR4 : Pur H1 p (c + 4) := puR
  have barHR : Bar p H H1 := (Bar.same sg).trans barR
  -- the end, whatever the row is
  have fin : ∀ (H6 : Hp) (zs : List V) (js : List PyData) (σ3 : Option V), Bar p H H6 → Pur H6 p (c + 8) → H6 D = some (.lst zs) → zs.length = 4 → js.length = 4 → (∀ H' H'', Bar p H6 H' → Fresh H H' H'' → Wvs K H'' zs js) →
      tRet (tOp (rIxL K) (tLst (tCons (tCB (fun xs H Q => ∃ p ys, xs = [.ref p] ∧ ((SqL K H p ys ∧ ∀ l, H l = none → Q (.ref l) (upd H l (.tup ys))) ∨ (SqT K H p ys ∧ Q (.ref p) H))) (tCons (tVar 2) tNil)) (tCons (tCB (fun xs H Q => ∃ p ys, xs = [.ref p] ∧ ((SqL K H p ys ∧ ∀ l, H l = none → Q (.ref l) (upd H l (.tup ys))) ∨ (SqT K H p ys ∧ Q (.ref p) H))) (tCons (tVar 2) tNil)) (tCons (tCB (fun xs H Q => ∃ p ys, xs = [.ref p] ∧ ((SqL K H p ys ∧ ∀ l, H l = none → Q (.ref l) (upd H l (.tup ys))) ∨ (SqT K H p ys ∧ Q (.ref p) H))) (tCons (tVar 2) tNil))
        (tCons (tVar 2) (tCons (tCB (fun xs H Q => ∃ p ys, xs = [.ref p] ∧ ((SqL K H p ys ∧ ∀ l, H l = none → Q (.ref l) (upd H l (.tup ys))) ∨ (SqT K H p ys ∧ Q (.ref p) H))) (tCons (tSl (rSlL K) (tVar 2) tNoPart (tPart (tC (.int 3)))) tNil)) (tCons (tCB (fun xs H Q => ∃ p ys, xs = [.ref p] ∧ ((SqL K H p ys ∧ ∀ l, H l = none → Q (.ref l) (upd H l (.tup ys))) ∨ (SqT K H p ys ∧ Q (.ref p) H))) (tCons (tOp rCat (tVar 2) (tLst (tCons (tTup tNil) tNil))) tNil)) tNil)))))))
        (tCall spLawDraw [] (fun _ _ _ => False) (tCons (tVar 0) (tCons (tC (.int 6)) tNil)))) { nx := fun _ H' => Q .non H', rt := Q } [some (.ref p), some (.ref lg), some (.ref D), σ3] H6 := by
    intro H6 zs js σ3 bar6 pu6 hd lz lj hw
    obtain ⟨z1, z2, z3, z4, rfl⟩ := len4 lz
    obtain ⟨d1, d2, d3, d4, rfl⟩ := len4 lj
    obtain ⟨o6, hp6⟩ : ∃ o, H6 p = some o := by
      obtain ⟨a, b, e, h1, _⟩ := pu6
      exact ⟨_, h1⟩
    have gr := grow_bar bar6 hp6
    refine ⟨.ref D, rfl, D, _, rfl, .inl ⟨SqL.of hd, fun t1 ht1 => ?_⟩⟩
    have a1 := same_new ht1 (.tup [z1, z2, z3, z4])
    refine ⟨.ref D, rfl, D, _, rfl, .inl ⟨SqL.of (a1 _ _ hd), fun t2 ht2 => ?_⟩⟩
    have a2 := same_new ht2 (.tup [z1, z2, z3, z4])
    have a12 := a1.trans a2
    refine ⟨.ref D, rfl, D, _, rfl, .inl ⟨SqL.of (a12 _ _ hd), fun t3 ht3 => ?_⟩⟩
    have a3 := same_new ht3 (.tup [z1, z2, z3, z4])
    have a13 := a12.trans a3
    refine ⟨.ref D, rfl, .ref D, rfl, 3, rfl, D, _, rfl, SqL.of (a13 _ _ hd), fun l5 hl5 => ?_⟩
    have a4 := same_new hl5 (.lst (cutV [z1, z2, z3, z4] none (some 3)))
    refine ⟨l5, _, rfl, .inl ⟨SqL.of upd_same, fun t5 ht5 => ?_⟩⟩
    have a5 := same_new ht5 (.tup (cutV [z1, z2, z3, z4] none (some 3)))
    have a15 := a13.trans (a4.trans a5)
    refine ⟨.ref D, rfl, by show 0 ≤ sizeLine; decide, fun u hu => ?_⟩
    have a6 := same_new hu (.tup [])
    refine ⟨by show 1 ≤ sizeLine; decide, fun l6 hl6 => ?_⟩
    have a7 := same_new hl6 (.lst [.ref u])
    have a17 := a15.trans (a6.trans a7)
    refine ⟨D, l6, [z1, z2, z3, z4], [.ref u], rfl, rfl, a17 _ _ hd, upd_same, by show 5 ≤ sizeLine; decide, fun l7 hl7 => ?_⟩
    have a8 := same_new hl7 (.lst ([z1, z2, z3, z4] ++ [.ref u]))
    refine ⟨l7, _, rfl, .inl ⟨SqL.of upd_same, fun t6 ht6 => ?_⟩⟩
    have a9 := same_new ht6 (.tup ([z1, z2, z3, z4] ++ [.ref u]))
    refine ⟨by show 6 ≤ sizeLine; decide, fun ll hll => ?_⟩
    have a10 := same_new hll (.lst [.ref t1, .ref t2, .ref t3, .ref D, .ref t5, .ref t6])
    have n1 : H t1 = none := gr _ ht1
    have n2 : H t2 = none := gr _ (none_back a1 ht2)
    have n3 : H t3 = none := gr _ (none_back a12 ht3)
    have n5 : H t5 = none := gr _ (none_back (a13.trans a4) ht5)
    have nu : H u = none := gr _ (none_back a15 hu)
    have n6 : H t6 = none := gr _ (none_back (a17.trans a8) ht6)
    have a19 := a17.trans (a8.trans (a9.trans a10))
    have e1 := (a2.trans (a3.trans (a4.trans (a5.trans (a6.trans (a7.trans (a8.trans (a9.trans a10)))))))) t1 _ upd_same
    have e2 := (a3.trans (a4.trans (a5.trans (a6.trans (a7.trans (a8.trans (a9.trans a10))))))) t2 _ upd_same
    have e3 := (a4.trans (a5.trans (a6.trans (a7.trans (a8.trans (a9.trans a10)))))) t3 _ upd_same
    have e5 := (a6.trans (a7.trans (a8.trans (a9.trans a10)))) t5 _ upd_same
    have eu := (a7.trans (a8.trans (a9.trans a10))) u _ upd_same
    have e6 := a10 t6 _ upd_same
    have eD := a19 D _ hd
    have puL := pu6.same a19
    have nll : ll ≠ p := (pu6.same (a17.trans (a8.trans a9))).some hll
    have ell : (upd (upd (upd (upd (upd (upd (upd (upd (upd (upd H6 t1 (.tup [z1, z2, z3, z4])) t2 (.tup [z1, z2, z3, z4])) t3 (.tup [z1, z2, z3, z4])) l5 (.lst (cutV [z1, z2, z3, z4] none (some 3)))) t5 (.tup (cutV [z1, z2, z3, z4] none (some 3)))) u (.tup [])) l6 (.lst [.ref u])) l7 (.lst ([z1, z2, z3, z4] ++ [.ref u]))) t6 (.tup ([z1, z2, z3, z4] ++ [.ref u]))) ll (.lst [.ref t1, .ref t2, .ref t3, .ref D, .ref t5, .ref t6])) ll = some (.lst [.ref t1, .ref t2, .ref t3, .ref D, .ref t5, .ref t6]) := upd_same
    refine ⟨.ref p, rfl, p, 6, c + 8, rfl, puL, by omega, by decide, by decide, fun r us r0 r1 hP7 => ?_⟩
    generalize upd (upd (upd (upd (upd (upd (upd (upd (upd (upd H6 t1 (.tup [z1, z2, z3, z4])) t2 (.tup [z1, z2, z3, z4])) t3 (.tup [z1, z2, z3, z4])) l5 (.lst (cutV [z1, z2, z3, z4] none (some 3)))) t5 (.tup (cutV [z1, z2, z3, z4] none (some 3)))) u (.tup [])) l6 (.lst [.ref u])) l7 (.lst ([z1, z2, z3, z4] ++ [.ref u]))) t6 (.tup ([z1, z2, z3, z4] ++ [.ref u]))) ll (.lst [.ref t1, .ref t2, .ref t3, .ref D, .ref t5, .ref t6]) = HL at a19 e1 e2 e3 e5 eu e6 eD ell hP7 ⊢
    have b7 : Bar p HL (upd HL p (.lst us)) := .draw
    have b67 : Bar p H6 (upd HL p (.lst us)) := (Bar.same a19).trans b7
    have np : ∀ {a : Addr}, H a = none → a ≠ p := fun {a} n z => by
      rw [z, hpo] at n
      cases n
    have ok : ∀ (j : Nat) (x : V) (b : Bool), r = (j : Int) → [V.ref t1, .ref t2, .ref t3, .ref D, .ref t5, .ref t6][j]? = some x → (∀ H'', Fresh H (upd HL p (.lst us)) H'' → Bv K H'' x b) → rIxL K (.ref ll) (.int r) (upd HL p (.lst us)) Q := fun j x b er hx hb => by
      subst er
      exact ⟨ll, _, (j : Int), x, rfl, rfl, SqL.of (b7 ll _ nll ell), atI_nat (j := j) hx, q _ x b (bar6.trans b67) (hP7.le (by omega)) hb⟩
    have tp : ∀ (t : Addr) (xs : List V) (ds : List PyData), H t = none → HL t = some (.tup xs) → (∀ H'', Fresh H (upd HL p (.lst us)) H'' → Wvs K H'' xs ds) → ds.length ≤ 100 → ∀ H'', Fresh H (upd HL p (.lst us)) H'' → Bv K H'' (.ref t) (decide ((ds.map worldD).length = 4) && (ds.map worldD).all id) := fun t xs ds n e g few H'' f =>
      bv_tup (f t _ n (b7 t _ (np n) e)) (g H'' f) few
    have all4 : ∀ H'', Fresh H (upd HL p (.lst us)) H'' → Wvs K H'' [z1, z2, z3, z4] [d1, d2, d3, d4] := fun H'' f => hw _ H'' b67 f
    have r6 : r = ((0 : Nat) : Int) ∨ r = ((1 : Nat) : Int) ∨ r = ((2 : Nat) : Int) ∨ r = ((3 : Nat) : Int) ∨ r = ((4 : Nat) : Int) ∨ r = ((5 : Nat) : Int) := by omega
    rcases r6 with h | h | h | h | h | h
    · exact ok 0 _ _ h rfl (tp t1 _ _ n1 e1 all4 (by simp))
    · exact ok 1 _ _ h rfl (tp t2 _ _ n2 e2 all4 (by simp))
    · exact ok 2 _ _ h rfl (tp t3 _ _ n3 e3 all4 (by simp))
    · exact ok 3 _ _ h rfl fun H'' f => bv_lst (f D _ nDH (b7 D _ nD eD))
    · exact ok 4 _ _ h rfl (tp t5 _ [d1, d2, d3] n5 e5 (fun H'' f => Wvs.take (j := 3) (all4 H'' f)) (by simp))
    · exact ok 5 _ _ h rfl (tp t6 _ [d1, d2, d3, d4, .tuple []] n6 e6 (fun H'' f => Wvs.app (ys := [.ref u]) (es := [.tuple []]) ⟨.inl ⟨.tup (SqT.of (f u _ nu (b7 u _ (np nu) eu))) .nil, rfl⟩, True.intro⟩ (all4 H'' f)) (by simp))
  -- a part bent
  refine ⟨.ref p, rfl, p, 3, c + 4, rfl, puR4, by omega, by decide, by decide, fun r us r0 r1 hP5 => ⟨r, 0, rfl, rfl, _, rfl, ite2 (fun e => ?_) (fun _ => ?_)⟩⟩
  · have bar5 : Bar p H1 (upd H1 p (.lst us)) := .draw
    have hd5 : (upd H1 p (.lst us)) D = some (.lst zs) := bar5 D _ nD hdR
    have barH5 := barHR.trans bar5
    generalize upd H1 p (.lst us) = H5 at bar5 hd5 barH5 hP5 ⊢
    refine ⟨.ref p, rfl, p, c + 4 + 1, rfl, hP5, by omega, fun Hw x d barw hPw wf => ?_⟩
    have hdw := barw D _ nD hd5
    refine ⟨.ref D, rfl, .ref p, rfl, p, 4, c + 4 + 1 + 1, rfl, hPw, by omega, by decide, by decide, fun r2 us2 r20 r21 hP6 => ?_⟩
    obtain ⟨j, rfl⟩ := Int.eq_ofNat_of_zero_le r20
    have bar6 : Bar p Hw (upd Hw p (.lst us2)) := .draw
    have hd6 := bar6 D _ nD hdw
    refine ⟨D, zs, (j : Int), j, rfl, rfl, hd6, (show ixN zs.length (j : Int) = some j by unfold ixN; rw [if_pos (by omega), if_pos (by omega)]; simp), ?_⟩
    obtain ⟨o5, hp5⟩ : ∃ o, H5 p = some o := by
      obtain ⟨a, b, e, h1, _⟩ := hP5
      exact ⟨_, h1⟩
    refine fin _ (zs.set j x) (js.set j d) none (bar_put (barH5.trans (barw.trans bar6)) nDH) ((pur_put hP6 nD.symm).le (by omega)) upd_same (by rw [List.length_set]; exact lz4) (by rw [List.length_set]; exact lj4) fun H' H'' b f => ?_
    have bg : Bar p Hg H' := fun a u na e => b a u na (by
      have nDa : a ≠ D := fun z => by
        rw [z, hD] at e
        cases e
      rw [upd_ne nDa]
      exact bar6 a u na (barw a u na (bar5 a u na (barR a u na e))))
    refine Wvs.set (wf H'' (f.sub (grow_bar barH5 hp5) fun a u n e => ?_)) (hwR H'' (f.bar hpo bg))
    have na : a ≠ p := fun z => by
      rw [z, hp5] at n
      cases n
    have nDa : a ≠ D := fun z => by
      rw [z, hd5] at n
      cases n
    refine b a u na ?_
    rw [upd_ne nDa]
    exact bar6 a u na e
  · have bar5 : Bar p H1 (upd H1 p (.lst us)) := .draw
    exact fin _ zs js none (barHR.trans bar5) (hP5.le (by omega)) (bar5 D _ nD hdR) lz4 lj4 fun H' H'' b f => hwR H'' (f.bar hpo ((barR.trans bar5).trans b))
end
end Rw
namespace Rw
open PySem PySem.Spec PyProof.Rows L2
/-! ### a += b, a -= b of instances without methods of that kind; a == v, a != v, v of a built-in type -/
/-- C has the methods above it of object alone, and no method of this name -/
def plainCls (K : PySem.W.Frag) (C : Addr) : Bool := match PySem.W.clsIn K C with
  | some cd => decide (cd.mro = [.ref C, .type "object"])
  | none => false
theorem plain_cls {K : PySem.W.Frag} {C : Addr} (h : plainCls K C = true) : ∃ cd, PySem.W.clsIn K C = some cd ∧ cd.mro = [.ref C, .type "object"] := by
  unfold plainCls at h
  split at h
  · rename_i cd e
    exact ⟨cd, e, of_decide_eq_true h⟩
  · exact nomatch h
theorem no_fill {K : PySem.W.Frag} {C : Addr} {M : Model} {h : Heap} {nm : String} {add : Bool} (x : K.In h) (hp : plainCls K C = true) (hC : PySem.W.findIn K (.ref C) (dunderI nm) = some none) (hO : typeLookup (.type "object") (dunderI nm) = pure none) : PySem.W.Looks M h (fillsInplaceSlot (.ref C) nm add) false := by
  obtain ⟨cd, hcd, hm⟩ := plain_cls hp
  intro A Q E s k q
  have x' : K.In s.heap := x.keeps k
  unfold fillsInplaceSlot
  refine wpAny_bind (((PySem.W.looks_clsIn x hcd).andThen (f := fun cd => pure cd.mro) .now) A _ E s k ?_)
  rw [hm]
  have one : ∀ {c : Value} {Q2 : Bool → Shared → Prop}, PySem.W.Looks M s.heap (typeLookup c (dunderI nm)) none → Q2 false s → wpAny M A (do
      let some x ← typeLookup c (dunderI nm) | return false
      if let .type _ := c then return !isSeqSlot (some x)
      if !ownNameWrapper x (dunderI nm) then return true
      if !(← inheritsSeqSlot c (dunderI nm)) then return true
      if add then return (← seqSlot? c (dunderI nm)).isSome
      return false) Q2 E s := fun {c} {Q2} l q2 => wpAny_bind (l.here (wpAny_pure q2))
  rw [List.anyM_cons]
  refine wpAny_bind (one (PySem.W.looks_findIn x' hC) ?_)
  simp only [Bool.false_eq_true, if_false]
  rw [List.anyM_cons]
  refine wpAny_bind (one (PySem.W.Looks.of_pure hO) ?_)
  simp only [Bool.false_eq_true, if_false]
  exact wpAny_pure q
section
variable {X : Cx}
def rIopP (C : Addr) (sp : Sp) (E : XK) : TIp := fun x y H Q => ∃ a dx fs b dy gs, x = .ref a ∧ y = .ref b ∧ H a = some (.ins C dx fs) ∧ H b = some (.ins C dy gs) ∧ sp [x, y] H Q E
theorem ip_binP {CX : CXT} {op : Operator} {C g : Addr} {n : Nat} {sp : Sp} {E : XK} (hp : plainCls X.K C = true) (hc : PySem.W.selfFirst X.K C = true) (hI : PySem.W.findIn X.K (.ref C) (dunderI op.info.2) = some none) (hO : typeLookup (.type "object") (dunderI op.info.2) = pure none)
    (hs : PySem.W.findIn X.K (.ref C) (PySem.dunder op.info.2) = some (some (.ref g))) (hf : PySem.W.isFn X.K (.ref g) = true) (F : FnR X.prog X.w X.K X.mg X.base CX n g sp) (hr : Room n X.A) (hx : Passes CX X E) :
    PIp X op (rIopP C sp E) := by
  intro pins s σ H x y v u Q I rx ry h
  obtain ⟨a, dx, fs, b, dy, gs, rfl, rfl, ha, hb, q⟩ := h
  obtain rfl : v = Value.ref a := rx
  obtain rfl : u = Value.ref b := ry
  obtain ⟨mA, J, _⟩ := ins_get I.hok ha
  obtain ⟨mB, J', _⟩ := ins_get I.hok hb
  obtain ⟨od, J, _⟩ := J.look
  obtain ⟨od', J', _⟩ := J'.look
  obtain ⟨cd, hcd, hm⟩ := plain_cls hp
  have kin := I.kIn
  have call2 : wpAny (model X.prog X.w) X.A (call (.ref g) [.ref a, .ref b]) (PySem.W.CmpBack (EP X pins σ Q)) X.xe s := by
    refine wpAny_mono (wpAny_call (run_fnR F hr hx I (vs := [.ref a, .ref b]) (.cons rfl (.cons rfl .nil)) q)) (fun r s' h => ?_) fun e s' h => h
    obtain ⟨z, H', I', r, q⟩ := h
    exact SlX.cmpback r ⟨z, H', I', r, q⟩
  have one := PySem.W.ksp_try kin J hs hf call2
  unfold inplaceOp
  refine wpAny_holding ?_
  dsimp only
  refine wpAny_bind (J.type.here ?_)
  refine wpAny_bind ((no_fill kin hp hI hO).here ?_)
  simp only [Bool.false_eq_true, if_false]
  refine wpAny_bind ?_
  unfold binaryOp1
  refine wpAny_bind (J.type.here ?_)
  refine wpAny_bind (J'.type.here ?_)
  refine wpAny_bind ((PySem.W.fills_K kin hcd hm hs).here ?_)
  simp only [beq_self_eq_true, if_true, pure_bind, Bool.and_false, Bool.false_and, Bool.false_eq_true, if_false]
  refine wpAny_bind (wpAny_mono one (fun r s' hr' => ?_) fun _ _ e => e)
  obtain ⟨v, rfl, hq⟩ := hr'
  exact wpAny_pure (wpAny_pure hq)
theorem ty_looks {M : Model} {pins : List (Addr × Obj)} {σ : L2.St} {H : Hp} {s : Shared} {y : V} {u t : Value} (I : Inv X pins σ H s) (ry : RelV y u) (hy : TyX X.K H y t) : PySem.W.Looks M s.heap (typeOf u) t := by
  obtain ⟨P', Z, p, _⟩ := kit_of I ry hy
  exact Z.ty _ _ I.kIn p
/-- a == v: the method tells -/
def rEqO (K : PySem.W.Frag) (C : Addr) (sp : Sp) (E : XK) : R2 := fun x y H Q => ∃ a dx fs t, x = .ref a ∧ H a = some (.ins C dx fs) ∧ TyX K H y t ∧ PySem.W.notFirst K C t = true ∧ sp [x, y] H Q E
theorem op_eqO {CX : CXT} {C g : Addr} {n : Nat} {sp : Sp} {E : XK} (hs : PySem.W.findIn X.K (.ref C) "__eq__" = some (some (.ref g))) (hf : PySem.W.isFn X.K (.ref g) = true) (F : FnR X.prog X.w X.K X.mg X.base CX n g sp) (hr : Room n X.A) (hx : Passes CX X E) : OpR X (compareOp .Eq) (rEqO X.K C sp E) := by
  intro pins s σ H x y v u Q I rx ry h
  obtain ⟨a, dx, fs, t, rfl, ha, hy, nf, q⟩ := h
  obtain rfl : v = Value.ref a := rx
  obtain ⟨mA, J, _⟩ := ins_get I.hok ha
  obtain ⟨od, J, _⟩ := J.look
  obtain ⟨m, hF⟩ := I.fr
  show wpAny _ _ (richCompare .Eq (.ref a) u) _ _ _
  refine PySem.W.cmp_K hr.units0 hF I.ok.mod.kin J (ty_looks I ry hy) nf hs hf ?_
  refine wpAny_mono (wpAny_call (run_fnR F hr hx I (vs := [.ref a, y]) (.cons rfl (.cons ry .nil)) q)) (fun r s' h => ?_) fun e s' h => h
  obtain ⟨z, H', I', r, q⟩ := h
  exact SlX.cmpback r ⟨z, H', I', r, q⟩
end
/-! a != v -/
section
variable {prog : Program} {w : World} {A : Around} {E : Value → Shared → Prop} {h : Heap} {g : Array GenState} {d : Drawn} {t : Nat} {os : OsState} {C x f : Addr} {B : String} {bm : List Value} {v : Value}
theorem ne_entry (X : h.OwnEqNoNe x C f B bm) (hu : A.units < cLine) {Q : Fin → Shared → Prop}
    (hc : wpAny (model prog w) A (call (.ref f) [.ref x, v]) (fun r s' => ∃ b, r = .bool b ∧ Q (.done (.ret (.bool (!b)))) s') E ⟨h, g, d, t, os⟩) : wpAny (model prog w) A (Builtin.«object.__ne__» ⟨[.ref x, v], []⟩) Q E ⟨h, g, d, t, os⟩ := by
  have told := wpAny_mono (Q' := fun r s' => ∃ b, r = .bool b ∧ Q (.done (.ret (.bool (!b)))) s') hc (fun _ _ z => z) fun _ _ z => z
  unfold Builtin.«object.__ne__»
  repeat (first
    | with_reducible refine wpAny_cRoomFor hu ?_
    | (refine wpAny_bind (m := callSpecialIfBound? (.ref x) (Str.ofString "__eq__") [v]) (wpAny_callSpecialIfBound?_own X.ownEq (wpAny_mono told (fun r s' hr => by
          obtain ⟨b, rfl, hq⟩ := hr
          repeat (first | exact hq | exact wpAny_pure hq | exact wpAny_truthy_bool hq | (refine wpAny_bind (m := truthy (.bool _)) (wpAny_truthy_bool ?_)) | wp_step)) fun _ _ z => z)))
    | wp_step)
theorem ne_tried (FB : CmpFacts B bm) (X : h.OwnEqNoNe x C f B bm) (hu : A.units + 1 < cLine) {Q : Option Value → Shared → Prop}
    (hc : wpAny (model prog w) A.in1 (call (.ref f) [.ref x, v]) (fun r s' => ∃ b, r = .bool b ∧ Q (some (.bool (!b))) s') E ⟨h, g, d, t, os⟩) : wpAny (model prog w) A (tryCompare (.ref x) "__ne__" v) Q E ⟨h, g, d, t, os⟩ := by
  obtain ⟨o, of, nm, q, N, bs, hdct, sn, sub, ab, col, dd, k0, k1, k2, k3, k5, newId, mN, yv, hx, ho, hC, hn, _, _, _, _, _, hne⟩ := id X
  simp only [tryCompare]
  refine wpAny_bind (wpAny_callSpecialIfBound?_inst hx ho hC hn hne FB.mro FB.ne (wpAny_call (codeAny_call_builtin FB.ne.plain F.cmpEntry_ne (wpAny_check_slot_inst F.cmpKind_ne F.cmpSplit_ne (F.cmpArgs_ne _ _) FB.hasObject hx ho hC (ne_entry (A := A.in1) X hu (wpAny_mono hc (fun r s' hv => ?_) fun _ _ z => z))))))
  obtain ⟨b, rfl, hq⟩ := hv
  first
    | exact ⟨b, rfl, wpAny_pure hq⟩
    | exact ⟨b, rfl, wpAny_pure (wpAny_pure hq)⟩
    | exact ⟨b, rfl, hq⟩
theorem ne_other {K : PySem.W.Frag} {tb : Value} (kin : K.In h) (FB : CmpFacts B bm) (X : h.OwnEqNoNe x C f B bm) (ty : PySem.W.Looks (model prog w) h (typeOf v) tb) (nf : PySem.W.notFirst K C tb = true) (hu : A.units + 1 < cLine) {Q : Value → Shared → Prop}
    (hc : wpAny (model prog w) A.in1 (call (.ref f) [.ref x, v]) (fun r s' => ∃ b, r = .bool b ∧ Q (.bool (!b)) s') E ⟨h, g, d, t, os⟩) : wpAny (model prog w) A (compareOp .NotEq (.ref x) v) Q E ⟨h, g, d, t, os⟩ := by
  obtain ⟨o, of, nm, q, N, bs, hdct, sn, sub, ab, col, dd, k0, k1, k2, k3, k5, newId, mN, yv, hx, ho, _⟩ := id X
  have tried : wpAny (model prog w) A (tryCompare (.ref x) "__ne__" v) (fun r s' => ∃ b, r = some (.bool (!b)) ∧ Q (.bool (!b)) s') E ⟨h, g, d, t, os⟩ :=
    ne_tried FB X hu (wpAny_mono hc (fun r s' z => by
      obtain ⟨b, e, hq⟩ := z
      exact ⟨b, e, b, rfl, hq⟩) fun _ _ z => z)
  show wpAny _ _ (richCompare .NotEq (.ref x) v) _ _ _
  unfold richCompare
  simp only [oneThing_ref]
  refine wpAny_holding (wpAny_bind (wpAny_cRoomFor (Nat.lt_of_succ_lt hu) ?_))
  rw [cmpInfo_NotEq]
  dsimp only
  refine wpAny_bind (wpAny_typeOf_ref hx ?_)
  rw [ho]
  refine wpAny_bind (ty.here ?_)
  have rest : wpAny (model prog w) A (tryCompare (.ref x) "__ne__" v) (fun r s' => ∃ b, r = some (.bool (!b)) ∧ Q (.bool (!b)) s') E ⟨h, g, d, t, os⟩ := tried
  split
  · rename_i c
    have sf : PySem.W.subIn K tb (.ref C) = some false := by
      rcases Bool.or_eq_true_iff.mp nf with z | z
      · rw [beq_iff_eq.mp z] at c
        simp at c
      · exact beq_iff_eq.mp z
    refine wpAny_bind ((PySem.W.looks_subIn kin sf).here ?_)
    simp only [Bool.false_eq_true, if_false]
    refine wpAny_bind (wpAny_mono rest (fun r s' z => ?_) fun _ _ z => z)
    obtain ⟨b, rfl, hq⟩ := z
    exact wpAny_pure hq
  · refine wpAny_bind (wpAny_pure ?_)
    simp only [Bool.false_eq_true, if_false]
    refine wpAny_bind (wpAny_mono rest (fun r s' z => ?_) fun _ _ z => z)
    obtain ⟨b, rfl, hq⟩ := z
    exact wpAny_pure hq
end
section
variable {X : Cx}
def rNeO (K : PySem.W.Frag) (C : Addr) (sp : Sp) (E : XK) : R2 := fun x y H Q => ∃ a dx fs t, x = .ref a ∧ H a = some (.ins C dx fs) ∧ TyX K H y t ∧ PySem.W.notFirst K C t = true ∧ sp [x, y] H (fun v H' => ∃ b, v = .bl b ∧ Q (.bl (!b)) H') E
theorem op_neO {CX : CXT} {C g : Addr} {n : Nat} {sp : Sp} {E : XK} (N : NeC X.K C g) (F : FnR X.prog X.w X.K X.mg X.base CX n g sp) (hr : Room (n + 1) X.A) (hx : Passes CX X E) : OpR X (compareOp .NotEq) (rNeO X.K C sp E) := by
  intro pins s σ H x y v u Q I rx ry h
  obtain ⟨a, dx, fs, ty, rfl, ha, hy, nf, q⟩ := h
  obtain rfl : v = Value.ref a := rx
  obtain ⟨mA, J, _⟩ := ins_get I.hok ha
  obtain ⟨od, J, _⟩ := J.look
  obtain ⟨nm, q1, NN, bs, hd, sn, sub, ab, col, dd, k0, k1, k2, k3, k5, nid, oN, es, ep, c1, c2, c3, c4, c5, c6⟩ := N.cls
  obtain ⟨og, g1, g2⟩ := N.fn
  have kin := I.kIn
  have own : s.heap.OwnEqNoNe a C g "object" [.type "object"] := ⟨_, og, nm, q1, NN, bs, hd, sn, sub, ab, col, dd, k0, k1, k2, k3, k5, nid, _, _, J.at_, J.cls, kin _ _ c1, ⟨oN, es, ep, kin _ _ c2, c3, c4, fun _ => rfl⟩, c5, kin _ _ g1, g2, PySem.F.cmp_object.mro, PySem.F.cmp_object.eq.lookup, c6⟩
  have un := hr.un
  refine ne_other kin PySem.F.cmp_object own (ty_looks I ry hy) nf (by omega) ?_
  have e0 := I.env0
  have e1 : Env0 X.prog X.w X.K X.mg X.base X.A.in1 X.stack s H := ⟨e0.frames, e0.mod, e0.bs, e0.bsz, e0.funs, e0.frf, e0.hok, e0.bare⟩
  refine wpAny_call (codeAny_mono (F X.A.in1 X.stack s H [.ref a, u] [.ref a, y] _ E hr.in1 e1 (.cons rfl (.cons ry .nil)) q) fun r s' h => ?_)
  cases r with
  | error e => exact hx pins σ H s e s' I h
  | ok f =>
    cases f with
    | ret v =>
      obtain ⟨z, H', I', r, t, rfl, q⟩ := I.after h
      obtain rfl : v = Value.bool t := r
      exact ⟨t, rfl, .bl (!t), H', I', rfl, q⟩
    | _ => exact h.elim
end
end Rw
namespace Rw
open PySem PySem.Spec PyProof.Rows L2
/-! ### a + v, a - v by a's own method, v a thing of a built-in class -/
section
variable {X : Cx}
/-- what is asked of the class and the built-in type -/
structure BinT (K : PySem.W.Frag) (op : Operator) (C g : Addr) (T : String) : Prop where
  first : PySem.W.selfFirst K C = true
  own : PySem.W.findIn K (.ref C) (PySem.dunder op.info.2) = some (some (.ref g))
  fn : PySem.W.isFn K (.ref g) = true
  noR : PySem.W.findIn K (.ref C) (dunderR op.info.2) = some none
  t1 : ∃ fo, PySem.W.findIn K (.type T) (PySem.dunder op.info.2) = some fo
  t2 : ∃ ro, PySem.W.findIn K (.type T) (dunderR op.info.2) = some ro
  sub : PySem.W.subIn K (.type T) (.ref C) = some false
def rBinO (K : PySem.W.Frag) (op : Operator) (C g : Addr) (sp : Sp) (E : XK) : R2 := fun x y H Q => ∃ a dx fs T, x = .ref a ∧ H a = some (.ins C dx fs) ∧ TyX K H y (.type T) ∧ BinT K op C g T ∧ sp [x, y] H Q E
theorem op_binO {CX : CXT} {op : Operator} {C g : Addr} {n : Nat} {sp : Sp} {E : XK} (F : FnR X.prog X.w X.K X.mg X.base CX n g sp) (hr : Room n X.A) (hx : Passes CX X E) : OpR X (binaryOp op) (rBinO X.K op C g sp E) := by
  intro pins s σ H x y v u Q I rx ry h
  obtain ⟨a, dx, fs, T, rfl, ha, ty, B, q⟩ := h
  obtain rfl : v = Value.ref a := rx
  obtain ⟨mA, J, _⟩ := ins_get I.hok ha
  obtain ⟨od, J, _⟩ := J.look
  have kin := I.kIn
  obtain ⟨cd, rest, hcd, hm⟩ := PySem.W.ksp_first B.first
  obtain ⟨fo, t1⟩ := B.t1
  obtain ⟨ro, t2⟩ := B.t2
  have told : wpAny (model X.prog X.w) X.A (call (.ref g) [.ref a, u]) (PySem.W.CmpBack (EP X pins σ Q)) X.xe s := by
    refine wpAny_mono (wpAny_call (run_fnR F hr hx I (vs := [.ref a, y]) (.cons rfl (.cons ry .nil)) q)) (fun r s' h => ?_) fun e s' h => h
    obtain ⟨z, H', I', r, q⟩ := h
    exact SlX.cmpback r ⟨z, H', I', r, q⟩
  have one := PySem.W.ksp_try kin J B.own B.fn told
  have ty1 := J.type (M := model X.prog X.w)
  have ty2 := ty_looks (M := model X.prog X.w) I ry ty
  have f1 : PySem.W.Looks (model X.prog X.w) s.heap (fillsNumberSlot (.ref C) op.info.2) true := PySem.W.fills_K kin hcd hm B.own
  have f2 : PySem.W.Looks (model X.prog X.w) s.heap (fillsNumberSlot (.type T) op.info.2) _ := PySem.W.ksp_fillsT kin t1 t2
  have su : PySem.W.Looks (model X.prog X.w) s.heap (isSubtype (.type T) (.ref C)) false := PySem.W.looks_subIn kin B.sub
  have p1 : PySem.W.Looks (model X.prog X.w) s.heap (numberSlotInPython (.ref C) op.info.2) true := PySem.W.ksp_inPy kin B.own B.noR (.inl rfl)
  have p2 : PySem.W.Looks (model X.prog X.w) s.heap (numberSlotInPython (.type T) op.info.2) false := PySem.W.Looks.of_pure rfl
  have lr : PySem.W.Looks (model X.prog X.w) s.heap (typeLookup (.type T) (dunderR op.info.2)) ro := PySem.W.looks_findIn kin t2
  generalize ((fo.isSome && !isSeqSlot fo) || (ro.isSome && !isSeqSlot ro)) = right at f2
  have ne : (Value.ref C == Value.type T) = false := Bool.eq_false_iff.mpr fun z => by cases beq_iff_eq.mp z
  unfold binaryOp
  refine wpAny_holding ?_
  dsimp only
  refine wpAny_bind ?_
  unfold binaryOp1
  refine wpAny_bind (ty1.here (wpAny_bind (ty2.here (wpAny_bind (f1.here ?_)))))
  simp only [ne, Bool.false_eq_true, if_false]
  refine wpAny_bind (f2.here ?_)
  cases right with
  | false =>
    simp only [Bool.and_false, Bool.false_and, Bool.false_eq_true, if_false, pure_bind, if_true]
    refine wpAny_bind (wpAny_mono one (fun r s' hr' => ?_) fun _ _ e => e)
    obtain ⟨v, rfl, hq⟩ := hr'
    exact wpAny_pure (wpAny_pure hq)
  | true =>
    simp only [Bool.and_self, if_true]
    refine wpAny_bind (su.here ?_)
    simp only [Bool.false_eq_true, if_false, Bool.not_false, Bool.and_true, Bool.and_self, if_true]
    refine wpAny_bind (p1.here ?_)
    simp only [if_true]
    refine wpAny_bind (p2.here ?_)
    simp only [Bool.not_false, if_true]
    refine wpAny_bind (lr.here ?_)
    refine wpAny_bind (wpAny_mono one (fun r s' hr' => ?_) fun _ _ e => e)
    obtain ⟨v, rfl, hq⟩ := hr'
    exact wpAny_pure (wpAny_pure hq)
end
end Rw
namespace Rw
open PySem PySem.Spec PyProof.Rows L2
/-! ### a def without defaults, called by names; C() of a class whose __init__ takes *args -/
theorem kbn_fun {K : PySem.W.Frag} {x qual : Str} {st : Stmt} {f : Addr} {fd : FuncData} {ps : List Str} (F : Fun K x qual st f fd) (n : Nat) (ks : List Str) (g : List Value → List Value → List Value) (gV : List V → List V → List V)
    (h : ∀ (kV doc pm : Value) (an : Option Addr) (cdv ct : Value) (us ws : List Value), us.length = n → ws.length = ks.length → bindArgs (PySem.W.fnOf x qual (defArgs st) (defBody st) (defScope st) .none kV doc pm an cdv ct) { pos := us, kw := ks.zip ws } = pure (ps.zip (g us ws)))
    (rel : ∀ {vs : List V} {us : List Value} {zs : List V} {ws : List Value}, Vals vs us → Vals zs ws → Vals (gV vs zs) (g us ws)) : KBn K fd ps n ks g gV := by
  obtain ⟨oc, od, kV, doc, pm, an, cdv, ct, osl, rfl, lk, hcd⟩ := F.ex
  refine ⟨fun s us ws X l1 l2 => ?_, fun a b => rel a b⟩
  intro M A E Q q
  rw [h kV doc pm an cdv ct us ws l1 l2]
  exact wpAny_pure q
theorem pe_makeR0 {X : Cx} {CX : CXT} {k : Nat} {f C : Addr} {sp : Sp} {E : XK} {x : Str} {p pos : Pos} (M : Mk X.K C f) (F : FnR X.prog X.w X.K X.mg X.base CX k f sp) (hr : Room (k + 1) X.A) (hg : Gl X x) (hm : X.mg x = some (.ref C)) (hx : Passes CX X E)
    (hd : (x == ("__debug__" : Str)) = false := by rfl) : PE X (.Call (.Name x p) [] [] pos) (StX.tMakeR C sp E tNil) :=
  ⟨fun pins s σ H Q I h => wpAny_Call_Name_kw (ld_glob I hg hm (PySem.W.callWith_K0 I.kIn M.kp (StX.run_makeR M F hr hx I Paired.nil h)) hd)⟩
theorem passNo {P : Program} {w : World} {X : Cx} : Passes (L2.CX P w) X (fun _ _ _ => False) := fun pins σ H s e s' _ h => by
  obtain ⟨_, _, _, _, _, _, _, _, _, _, _, _, z⟩ := h
  exact z.elim
end Rw
namespace Rw
open PySem PySem.Spec PyProof.Rows L2 ClX
/-! ### what comes of a making: a thing, or the error of the first bad one -/
def Got (H : Hp) (Q : VK) : Prop := ∀ H' a, Same H H' → Q (.ref a) H'
def Err (H : Hp) (E : XK) (C : Addr) (n : Str) (v : V) : Prop := ∀ H' dx, Same H H' → H' dx = none → E (.ref C) (some dx) (upd H' dx (.xd [(n, v)]))
theorem Got.same {H H' : Hp} {Q : VK} (h : Got H Q) (e : Same H H') : Got H' Q := fun H2 a s => h H2 a (e.trans s)
theorem Err.same {H H' : Hp} {E : XK} {C : Addr} {n : Str} {v : V} (h : Err H E C n v) (e : Same H H') : Err H' E C n v := fun H2 dx s hd => h H2 dx (e.trans s) hd
/-- names asked in turn -/
def ARes (CN : Addr) (H : Hp) (Q : VK) (E : XK) : List (V × Bool) → Prop
  | [] => Got H Q
  | (_, true) :: r => ARes CN H Q E r
  | (x, false) :: _ => Err H E CN "thing" x
theorem ARes.same {CN : Addr} {H H' : Hp} {Q : VK} {E : XK} (e : Same H H') : ∀ {l : List (V × Bool)}, ARes CN H Q E l → ARes CN H' Q E l
  | [], h => Got.same h e
  | (_, true) :: r, h => ARes.same e (l := r) h
  | (x, false) :: _, h => Err.same h e
theorem ARes.ins {CN : Addr} {H : Hp} {Q : VK} {E : XK} {y : V} {l2 : List (V × Bool)} : ∀ {l1 : List (V × Bool)}, ARes CN H Q E (l1 ++ l2) → ARes CN H Q E (l1 ++ (y, true) :: l2)
  | [], h => h
  | (_, true) :: r, h => ARes.ins (l1 := r) h
  | (x, false) :: _, h => h
/-- rules asked in turn, from place i on -/
def PRes (CR : Addr) (H : Hp) (Q : VK) (E : XK) : Nat → List Bool → Prop
  | _, [] => Got H Q
  | i, true :: r => PRes CR H Q E (i + 1) r
  | i, false :: _ => Err H E CR "place" (.int (i : Nat))
theorem PRes.same {CR : Addr} {H H' : Hp} {Q : VK} {E : XK} (e : Same H H') : ∀ {i : Nat} {l : List Bool}, PRes CR H Q E i l → PRes CR H' Q E i l
  | _, [], h => Got.same h e
  | i, true :: r, h => PRes.same e (i := i + 1) (l := r) h
  | _, false :: _, h => Err.same h e
theorem PRes.good {CR : Addr} {H : Hp} {Q : VK} {E : XK} : ∀ {i : Nat} {l : List Bool}, PRes CR H Q E i l → l.all id = true → Got H Q
  | _, [], h, _ => h
  | i, true :: r, h, e => PRes.good (i := i + 1) (l := r) h (by simpa using e)
  | _, false :: _, _, e => by simp at e
theorem PRes.bad {CR : Addr} {H : Hp} {Q : VK} {E : XK} : ∀ {i : Nat} {l : List Bool}, PRes CR H Q E i l → l.all id = false → ∃ j, l[j]? = some false ∧ (∀ m, m < j → l[m]? = some true) ∧ Err H E CR "place" (.int ((i + j : Nat) : Int))
  | _, [], _, e => by simp at e
  | i, false :: _, h, _ => ⟨0, rfl, (fun m hm => absurd hm (Nat.not_lt_zero m)), h⟩
  | i, true :: r, h, e => by
    obtain ⟨j, h1, h2, h3⟩ := PRes.bad (i := i + 1) (l := r) h (by simpa using e)
    refine ⟨j + 1, by simpa using h1, fun m hm => ?_, ?_⟩
    · cases m with
      | zero => rfl
      | succ m => simpa using h2 m (by omega)
    · rw [show i + (j + 1) = i + 1 + j by omega]
      exact h3
/-- a thing of a built-in class -/
def TyB (K : PySem.W.Frag) (H : Hp) (x : V) : Prop := ∃ d : PyData, TyX K H x (.type (tyName d))
theorem TyB.same {K : PySem.W.Frag} {H H' : Hp} {x : V} (h : TyB K H x) (e : Same H H') : TyB K H' x := let ⟨d, h1⟩ := h; ⟨d, tyx_same e h1⟩
theorem TyB.notP {K : PySem.W.Frag} {mg : Str → Option Value} {C : Addr} (G : PgC K mg C) {H : Hp} {x : V} (h : TyB K H x) : NotP K C H x := let ⟨d, h1⟩ := h; ⟨_, h1, G.odd d⟩
section
variable {K : PySem.W.Frag} {H : Hp} {Q : VK} {E : XK} {CN CR C : Addr}
def spRuleX (K : PySem.W.Frag) (CN : Addr) : Sp := fun vs H Q E => spRuleG K vs H Q E ∨ spRuleR K CN vs H Q E
theorem rule_call {x1 x2 x3 x4 : V} {b1 b2 b3 b4 : Bool} (h1 : ArV K H x1 b1) (h2 : ArV K H x2 b2) (h3 : ArV K H x3 b3) (h4 : ArV K H x4 b4) (r : ARes CN H Q E [(x1, b1), (x2, b2), (x3, b3), (x4, b4)]) : spRuleX K CN [x1, x2, x3, x4] H Q E := by
  have all : ArVs K H [x1, x2, x3, x4] [b1, b2, b3, b4] := ⟨h1, h2, h3, h4, True.intro⟩
  cases b1 with
  | false => exact .inr ⟨x1, x2, x3, x4, x1, _, 0, rfl, all, rfl, (fun j hj => absurd hj (Nat.not_lt_zero j)), rfl, r⟩
  | true =>
    cases b2 with
    | false => exact .inr ⟨x1, x2, x3, x4, x2, _, 1, rfl, all, rfl, (fun j hj => by rw [show j = 0 by omega]; rfl), rfl, r⟩
    | true =>
      cases b3 with
      | false => exact .inr ⟨x1, x2, x3, x4, x3, _, 2, rfl, all, rfl, (fun j hj => by rcases (by omega : j = 0 ∨ j = 1) with rfl | rfl <;> rfl), rfl, r⟩
      | true =>
        cases b4 with
        | false => exact .inr ⟨x1, x2, x3, x4, x4, _, 3, rfl, all, rfl, (fun j hj => by rcases (by omega : j = 0 ∨ j = 1 ∨ j = 2) with rfl | rfl | rfl <;> rfl), rfl, r⟩
        | true =>
          obtain ⟨n1, g1⟩ := h1.yes rfl
          obtain ⟨n2, g2⟩ := h2.yes rfl
          obtain ⟨n3, g3⟩ := h3.yes rfl
          obtain ⟨n4, g4⟩ := h4.yes rfl
          refine .inl ⟨x1, x2, x3, x4, n1, n2, n3, n4, rfl, g1, g2, g3, g4, fun H' v rr s hv _ _ _ _ => ?_⟩
          cases hv with
          | tup _ _ => exact r H' _ s
def spChoiceX (K : PySem.W.Frag) (CN : Addr) : Sp := fun vs H Q E => spChoiceG K vs H Q E ∨ spChoiceR K CN vs H Q E
theorem choice_call {x1 x2 x3 : V} {b1 b2 b3 : Bool} (h1 : NmV K H x1 b1) (h2 : ArV K H x2 b2) (h3 : ArV K H x3 b3) (r : ARes CN H Q E [(x1, b1), (x2, b2), (x3, b3)]) : spChoiceX K CN [x1, x2, x3] H Q E := by
  cases b1 with
  | false => exact .inr ⟨x1, x2, x3, x1, _, _, _, rfl, h1, h2, h3, .inl ⟨rfl, rfl⟩, r⟩
  | true =>
    cases b2 with
    | false => exact .inr ⟨x1, x2, x3, x2, _, _, _, rfl, h1, h2, h3, .inr (.inl ⟨rfl, rfl, rfl⟩), r⟩
    | true =>
      cases b3 with
      | false => exact .inr ⟨x1, x2, x3, x3, _, _, _, rfl, h1, h2, h3, .inr (.inr ⟨rfl, rfl, rfl, rfl⟩), r⟩
      | true =>
        obtain ⟨z, rfl, nz⟩ := h1.str rfl
        obtain ⟨n2, g2⟩ := h2.yes rfl
        obtain ⟨n3, g3⟩ := h3.yes rfl
        refine .inl ⟨z, x2, x3, n2, n3, rfl, nz, g2, g3, fun H' v rr s hv _ _ _ _ => ?_⟩
        cases hv with
        | tup _ _ => exact r H' _ s
def spFactsX (K : PySem.W.Frag) (C CW : Addr) : Sp := fun vs H Q E => spFacts K C vs H Q E ∨ spFactsR K CW vs H Q E
theorem facts_call {CW : Addr} {x : V} {b : Bool} (h : WlV K H x b) (r : ARes CW H Q E [(x, b)]) : spFactsX K C CW [.ref C, x] H Q E := by
  cases b with
  | false => exact .inr ⟨.ref C, x, rfl, h, r⟩
  | true =>
    obtain ⟨ns, hn, hd⟩ := h.yes rfl
    refine .inl ⟨x, ns, rfl, hd, hn, fun H' v S s _ _ hv => ?_⟩
    obtain ⟨a, _, _, _, rfl, _⟩ := hv
    exact r H' a s
theorem init_call {xs : List V} {bs : List Bool} (hx : RuVs K H xs bs) (few : xs.length < 64) (r : PRes CR H Q E 0 bs) : ∀ x dx, H x = none → H dx = none → dx ≠ x → spInitX K C CR (.ref x :: xs) (upd (upd H dx (.own x)) x (.ins C dx [])) (fun v H2 => v = .non ∧ Q (.ref x) H2) E := fun x dx h1 h2 h3 => by
  cases e : bs.all id with
  | true =>
    obtain ⟨L, hL, hI, hl⟩ := hx.all e
    exact .inl (made_ok (C := C) (Q := Q) (E := E) hL hI (by rw [hl, ← hx.len]; exact few) (fun H' v S s _ _ hv => by
      obtain ⟨a, _, _, _, rfl, _⟩ := hv
      exact r.good e H' a s) x dx h1 h2 h3)
  | false =>
    obtain ⟨j, e1, e2, e3⟩ := r.bad e
    exact .inr (made_no (C := C) (Q := Q) hx (by omega) e1 e2 (fun H' dx s hd => by
      have := e3 H' dx s hd
      rwa [Nat.zero_add] at this) x dx h1 h2 h3)
def spOfX (K : PySem.W.Frag) (C CR : Addr) : Sp := fun vs H Q E => spOf K C vs H Q E ∨ spOfR K C CR vs H Q E
theorem of_call {l : Addr} {xs : List V} {bs : List Bool} (hS : SqT K H l xs ∨ SqL K H l xs) (hx : RuVs K H xs bs) (few : xs.length < 64) (r : PRes CR H Q E 0 bs) : spOfX K C CR [.ref C, .ref l] H Q E := by
  cases e : bs.all id with
  | true =>
    obtain ⟨L, hL, hI, hl⟩ := hx.all e
    refine .inl ⟨l, xs, L, rfl, hS, hL, hI, by rw [hl, ← hx.len]; exact few, fun H' v S s _ _ hv => ?_⟩
    obtain ⟨a, _, _, _, rfl, _⟩ := hv
    exact r.good e H' a s
  | false =>
    obtain ⟨j, e1, e2, e3⟩ := r.bad e
    exact .inr ⟨l, xs, bs, j, rfl, hS, hx, by omega, e1, e2, fun H' dx s hd => by
      have := e3 H' dx s hd
      rwa [Nat.zero_add] at this⟩
end
end Rw
namespace Rw
open PySem PySem.Spec PyProof.Rows L2 ClX
/-! ### _law_made -/
theorem opr_or {X : Cx} {f : Value → Value → Sem Value} {r r' : R2} (h : OpR X f r) (h' : OpR X f r') : OpR X f (fun x y H Q => r x y H Q ∨ r' x y H Q) := fun pins s σ H x y v u Q I rx ry hq => hq.elim (h pins s σ H x y v u Q I rx ry) (h' pins s σ H x y v u Q I rx ry)
theorem RuV.rule {K : PySem.W.Frag} {H : Hp} {x : V} {r : Rl} (h : Dp K H x (rd r)) (hr : IsR r) : RuV K H x true := by
  have w1 : ∀ {y : V} {n : W}, Dp K H y (wd n) → IsW n → WlV K H y true := fun hy hn => .inl ⟨_, hy, oddW_wd hn, (worldD_wd hn).symm⟩
  obtain ⟨a, z1, z2, z3, z4, rfl, hS, d1, d2, d3, d4⟩ := of_rd h
  exact .inl ⟨a, _, [true, true, true, true], rfl, hS, ⟨w1 d1 hr.h, w1 d2 hr.d, w1 d3 hr.n, w1 d4 hr.b, True.intro⟩, by decide, rfl⟩
theorem lit_same {K : PySem.W.Frag} {te : TE} {d : PyData} (h : Lit K te d) (σ : L2.St) (H : Hp) (Q : VK) (q : ∀ x H', Same H H' → Dp K H' x d → Q x H') : te σ H Q := h σ H Q fun x H' s g => q x H' s (g H' (.self _ _))
def spAddX (K : PySem.W.Frag) (C CP : Addr) : Sp := fun vs H Q E => spAdd K C CP vs H Q E ∨ spOpR K C CP vs H Q E
def spSubX (K : PySem.W.Frag) (C CP : Addr) : Sp := fun vs H Q E => spSub K C CP vs H Q E ∨ spOpR K C CP vs H Q E
/-- what is asked of the things by the way -/
def MW (K : PySem.W.Frag) (C CR CP CW CN : Addr) (x y z : V) (H : Hp) (Q : VK) (E : XK) : Nat → Prop
  | 0 => ∃ bs, RuVs K H [x, y] bs ∧ PRes CR H Q E 1 bs
  | 1 => ∃ bs, RuVs K H [x, y, z] bs ∧ PRes CR H Q E 0 bs
  | 2 => ∃ b, WlV K H x b ∧ ARes CW H Q E [(x, b)]
  | 3 => (TyB K H x ∧ Err H E CP "thing" x) ∨ (PgAt K C H x [] ∧ Got H Q)
  | 4 => (TyB K H x ∧ Err H E CP "thing" x) ∨ (PgAt K C H x [] ∧ Got H Q)
  | 5 => ∃ b1 b2 b3, ArV K H x b1 ∧ ArV K H z b2 ∧ ArV K H y b3 ∧ ARes CN H Q E [(x, b1), (z, b2), (y, b3)]
  | 6 => ∃ b1 b2, ArV K H x b1 ∧ ArV K H y b2 ∧ ARes CN H Q E [(x, b1), (y, b2)]
  | 7 => ∃ b1 b2 b3, NmV K H x b1 ∧ ArV K H z b2 ∧ ArV K H y b3 ∧ ARes CN H Q E [(x, b1), (z, b2), (y, b3)]
  | 8 => ∃ b, RuV K H x b ∧ PRes CR H Q E 0 [b]
  | 9 => ∃ b1 b2, ArV K H x b1 ∧ ArV K H y b2 ∧ ARes CN H Q E [(x, b1), (y, b2)]
  | 10 => TyB K H x ∧ Err H E CP "thing" x
  | 11 => TyB K H x ∧ Err H E CP "thing" x
  | 12 => ∃ l xs bs, x = .ref l ∧ (SqT K H l xs ∨ SqL K H l xs) ∧ RuVs K H xs bs ∧ xs.length < 64 ∧ PRes CR H Q E 0 bs
  | _ => False
abbrev sLawMade : Stmt := topS 35
theorem scLawMade : FnScope ["way", "one", "two", "three"] ["way", "one", "two", "three"] (defScope sLawMade) := ⟨rfl, rfl, rfl, by decide +kernel, rfl, by decide +kernel, by decide +kernel⟩
theorem way_no {σ : L2.St} {H : Hp} {D : Ends} {t u : TS} {a k : Int} (h0 : σ[0]? = some (some (.int a))) (n : a ≠ k) (h : u D σ H) : tSeq (tIfS (tTest (tOp rEq (tVar 0) (tC (.int k)))) t tNext) u D σ H :=
  ⟨.int a, h0, rfl, false, congrArg V.bl (by simp [eqV, n]), iteF h⟩
theorem way_yes {σ : L2.St} {H : Hp} {D : Ends} {t u : TS} {a k : Int} (h0 : σ[0]? = some (some (.int a))) (n : a = k) (h : t { D with nx := u D } σ H) : tSeq (tIfS (tTest (tOp rEq (tVar 0) (tC (.int k)))) t tNext) u D σ H :=
  ⟨.int a, h0, rfl, true, congrArg V.bl (by simp [eqV, n]), iteT h⟩
section
variable {P : Program} {w : World} {K : PySem.W.Frag} {mg : Str → Option Value} {base : Heap} {f : Addr} {fd : FuncData} {k : Nat}
theorem init_pg {C CR : Addr} {H : Hp} {Q : VK} {E : XK} {xs : List V} {L : List Rl} (hx : DpAll K H xs (L.map rd)) (hI : ∀ r ∈ L, IsR r) (few : L.length < 64) (q : ∀ H' v S, Same H H' → Srt S L → PgAt K C H' v S → Q v H') :
    ∀ x dx, H x = none → H dx = none → dx ≠ x → spInitX K C CR (.ref x :: xs) (upd (upd H dx (.own x)) x (.ins C dx [])) (fun v H2 => v = .non ∧ Q (.ref x) H2) E := fun x dx h1 h2 h3 =>
  .inl (made_ok (C := C) (Q := Q) (E := E) hx hI few (fun H' v S s hS _ hv => q H' v S s hS hv) x dx h1 h2 h3)
theorem ret_mk0 {C CR : Addr} {H : Hp} {E : XK} {σ : L2.St} {D : Ends} {r : R2} {tl : TE} {L : List Rl} (hL : L = []) (q : ∀ H' v S, Same H H' → Srt S L → PgAt K C H' v S → tl σ H' fun y H2 => r v y H2 D.rt) : tRet (tOp r (StX.tMakeR C (spInitX K C CR) E tNil) tl) D σ H := by
  subst hL
  exact (init_pg (C := C) (CR := CR) (E := E) (Q := fun v H' => tl σ H' fun y H2 => r v y H2 D.rt) (xs := []) (L := []) .nil (fun _ z => nomatch z) (by decide) q : _)
theorem ret_mk1 {C CR : Addr} {H : Hp} {E : XK} {σ : L2.St} {D : Ends} {r : R2} {te tl : TE} {x : Rl} (hx : IsR x) (he : ∀ Q2 : VK, (∀ v H', Same H H' → Dp K H' v (rd x) → Q2 v H') → te σ H Q2) (q : ∀ H' v S, Same H H' → PgAt K C H' v S → tl σ H' fun y H2 => r v y H2 D.rt) : tRet (tOp r (StX.tMakeR C (spInitX K C CR) E (tCons te tNil)) tl) D σ H :=
  he _ fun v H1 s1 hv => init_pg (C := C) (CR := CR) (E := E) (Q := fun v H' => tl σ H' fun y H2 => r v y H2 D.rt) (xs := [v]) (L := [x]) (.cons hv .nil) (fun y hy => by rw [List.mem_singleton.mp hy]; exact hx) (by show 1 < 64; decide) fun H' v' S s _ hv' => q H' v' S (s1.trans s) hv'
theorem ret_m3 {C CR : Addr} {H : Hp} {E : XK} {σ : L2.St} {D : Ends} {te : TE} {d : PyData} {x y : V} (he : ∀ Q2 : VK, (∀ v H', Same H H' → Dp K H' v d → Q2 v H') → te σ H Q2) (h1 : σ[1]? = some (some x)) (h2 : σ[2]? = some (some y))
    (q : ∀ v H', Same H H' → Dp K H' v d → ∀ a dx, H' a = none → H' dx = none → dx ≠ a → spInitX K C CR (.ref a :: [v, x, y]) (upd (upd H' dx (.own a)) a (.ins C dx [])) (fun v H2 => v = .non ∧ D.rt (.ref a) H2) E) :
    tRet (StX.tMakeR C (spInitX K C CR) E (tCons te (tCons (tVar 1) (tCons (tVar 2) tNil)))) D σ H := he _ fun v H1 s1 hv => ⟨x, h1, y, h2, q v H1 s1 hv⟩
def spLawMade (K : PySem.W.Frag) (C CR CP CW CN : Addr) : Sp := fun vs H Q E => ∃ (way : Nat) (x y z : V), vs = [.int (way : Nat), x, y, z] ∧ MW K C CR CP CW CN x y z H Q E way
theorem ok_lawMade {C CR CP CW CN fI pO fO pF fF gA gS fR fC e1 e2 e3 e4 : Addr} {mc : Value} {fdR fdC : FuncData} {g5 g6 g9 g7 : List Value → List Value → List Value} (F : Fun K "_law_made" "_law_made" sLawMade f fd) (G : PgC K mg C) (cr : CRead K C mc)
    (cmO : CMet K C mc "of" pO fO) (GO : FnR P w K mg base (L2.CX P w) (k + 1) fO (spOfX K C CR)) (cmF : CMet K C mc "facts" pF fF) (GF : FnR P w K mg base (L2.CX P w) (k + 1) fF (spFactsX K C CW))
    (M : Mk K C fI) (GI : FnR P w K mg base (L2.CX P w) k fI (spInitX K C CR)) (hsf : PySem.W.selfFirst K C = true)
    (hsA : PySem.W.findIn K (.ref C) "__add__" = some (some (.ref gA))) (hfA : PySem.W.isFn K (.ref gA) = true) (GA : FnR P w K mg base (L2.CX P w) (k + 1) gA (spAddX K C CP)) (BA : ∀ d, BinT K .Add C gA (tyName d))
    (hsS : PySem.W.findIn K (.ref C) "__sub__" = some (some (.ref gS))) (hfS : PySem.W.isFn K (.ref gS) = true) (GS : FnR P w K mg base (L2.CX P w) (k + 1) gS (spSubX K C CP)) (BS : ∀ d, BinT K .Sub C gS (tyName d))
    (GR : FnOk P w K mg base (L2.CX P w) (k + 1) fR fdR ["heads", "needs", "bars", "denied"] (spRuleX K CN)) (kR : PySem.W.keepIn K (.ref fR) = true) (mR : mg "rule" = some (.ref fR))
    (kb5 : KBn K fdR ["heads", "needs", "bars", "denied"] 0 ["heads", "denied", "needs"] g5 (fun _ zs => match zs with | [h, d, n] => [h, n, .ref e3, d] | _ => []))
    (kb6 : KBn K fdR ["heads", "needs", "bars", "denied"] 0 ["bars", "denied"] g6 (fun _ zs => match zs with | [b, d] => [.ref e1, .ref e2, b, d] | _ => []))
    (kb9 : KBn K fdR ["heads", "needs", "bars", "denied"] 1 ["bars"] g9 (fun vs zs => match vs, zs with | [h], [b] => [h, .ref e2, b, .ref e4] | _, _ => []))
    (GC : FnOk P w K mg base (L2.CX P w) (k + 1) fC fdC ["name", "needs", "bars"] (spChoiceX K CN)) (kC : PySem.W.keepIn K (.ref fC) = true) (mC : mg "choice" = some (.ref fC))
    (kb7 : KBn K fdC ["name", "needs", "bars"] 1 ["bars", "needs"] g7 (fun vs zs => match vs, zs with | [h], [b, n] => [h, n, b] | _, _ => []))
    (n1 : ∀ H, SqT K H e1 []) (n2 : ∀ H, SqT K H e2 []) (n3 : ∀ H, SqT K H e3 []) (n4 : ∀ H, SqT K H e4 []) : FnOk P w K mg base (L2.CX P w) (k + 2) f fd ["way", "one", "two", "three"] (spLawMade K C CR CP CW CN) := by
  refine F.okX scLawMade (fun vs H Q E h => let ⟨a, x, y, z, e, _⟩ := h; by rw [e]; rfl) (fun cdv A outer s H vs Q E hr h => ?_)
  obtain ⟨way, x, y, z, rfl, h⟩ := h
  refine ⟨_, (pss_cons (ps_if (pt_cmpR op_eq (pv 0) pe_int (nomark _)) (pss_one (ps_ret (StX.pe_makeR (E := E) M GI hr (by rfl) G.m (passes_call (takes_of rfl rfl rfl rfl) fun _ _ _ _ z => z) (pa_cons (pe_tup (pa_cons (pe_tup (pa_cons pe_str pa_nil)) (pa_cons (pe_tup pa_nil) (pa_cons (pe_tup pa_nil) (pa_cons (pe_tup pa_nil) pa_nil))))) (pa_cons (pv 1) (pa_cons (pv 2) pa_nil)))))) pss_nil)
    (pss_cons (ps_if (pt_cmpR op_eq (pv 0) pe_int (nomark _)) (pss_one (ps_ret (pe_cmeth (E := E) (pe_glob (v := .ref C) (by rfl) G.m rfl) cr cmO GO hr (passes_call (takes_of rfl rfl rfl rfl) fun _ _ _ _ z => z) (pa_cons (pe_lst (pa_cons (pv 1) (pa_cons (pv 2) (pa_cons (pv 3) pa_nil)))) pa_nil)))) pss_nil)
    (pss_cons (ps_if (pt_cmpR op_eq (pv 0) pe_int (nomark _)) (pss_one (ps_ret (pe_cmeth (E := E) (pe_glob (v := .ref C) (by rfl) G.m rfl) cr cmF GF hr (passes_call (takes_of rfl rfl rfl rfl) fun _ _ _ _ z => z) (pa_cons (pv 1) pa_nil)))) pss_nil)
    (pss_cons (ps_if (pt_cmpR op_eq (pv 0) pe_int (nomark _)) (pss_one (ps_ret (pe_op (r := fun x y H Q => rBinO K .Add C gA (spAddX K C CP) E x y H Q ∨ rBinP C (spAddX K C CP) E x y H Q) (opr_or (op_binO GA hr (passes_call (takes_of rfl rfl rfl rfl) fun _ _ _ _ z => z)) (op_binP hsf hsA hfA GA hr (passes_call (takes_of rfl rfl rfl rfl) fun _ _ _ _ z => z))) (pe_makeR0 (E := E) M GI hr (by rfl) G.m (passes_call (takes_of rfl rfl rfl rfl) fun _ _ _ _ z => z)) (pv 1)))) pss_nil)
    (pss_cons (ps_if (pt_cmpR op_eq (pv 0) pe_int (nomark _)) (pss_one (ps_ret (pe_op (r := fun x y H Q => rBinO K .Sub C gS (spSubX K C CP) E x y H Q ∨ rBinP C (spSubX K C CP) E x y H Q) (opr_or (op_binO GS hr (passes_call (takes_of rfl rfl rfl rfl) fun _ _ _ _ z => z)) (op_binP hsf hsS hfS GS hr (passes_call (takes_of rfl rfl rfl rfl) fun _ _ _ _ z => z))) (pe_makeR0 (E := E) M GI hr (by rfl) G.m (passes_call (takes_of rfl rfl rfl rfl) fun _ _ _ _ z => z)) (pv 1)))) pss_nil)
    (pss_cons (ps_if (pt_cmpR op_eq (pv 0) pe_int (nomark _)) (pss_one (ps_ret (pe_callK0 (E := E) GR hr (by rfl) mR kR kb5 (passes_call (takes_of rfl rfl rfl rfl) fun _ _ _ _ z => z) (pk_cons (pv 1) (pk_cons (pv 2) (pk_cons (pv 3) pk_nil))) (by rfl) (by rfl) (by decide) (by rfl) (by rfl)))) pss_nil)
    (pss_cons (ps_if (pt_cmpR op_eq (pv 0) pe_int (nomark _)) (pss_one (ps_ret (pe_callK0 (E := E) GR hr (by rfl) mR kR kb6 (passes_call (takes_of rfl rfl rfl rfl) fun _ _ _ _ z => z) (pk_cons (pv 1) (pk_cons (pv 2) pk_nil)) (by rfl) (by rfl) (by decide) (by rfl) (by rfl)))) pss_nil)
    (pss_cons (ps_if (pt_cmpR op_eq (pv 0) pe_int (nomark _)) (pss_one (ps_ret (StX.pe_makeR (E := E) M GI hr (by rfl) G.m (passes_call (takes_of rfl rfl rfl rfl) fun _ _ _ _ z => z) (pa_cons (pv 1) pa_nil)))) pss_nil)
    (pss_cons (ps_if (pt_cmpR op_eq (pv 0) pe_int (nomark _)) (pss_one (ps_ret (pe_callN (E := E) GR hr (by rfl) mR kR kb9 (passes_call (takes_of rfl rfl rfl rfl) fun _ _ _ _ z => z) (pa_cons (pv 1) pa_nil) (pk_cons (pv 2) pk_nil)))) pss_nil)
    (pss_cons (ps_if (pt_cmpR op_eq (pv 0) pe_int (nomark _)) (pss_one (ps_ret (pe_op (r := fun x y H Q => rBinO K .Add C gA (spAddX K C CP) E x y H Q ∨ rBinP C (spAddX K C CP) E x y H Q) (opr_or (op_binO GA hr (passes_call (takes_of rfl rfl rfl rfl) fun _ _ _ _ z => z)) (op_binP hsf hsA hfA GA hr (passes_call (takes_of rfl rfl rfl rfl) fun _ _ _ _ z => z))) (StX.pe_makeR (E := E) M GI hr (by rfl) G.m (passes_call (takes_of rfl rfl rfl rfl) fun _ _ _ _ z => z) (pa_cons (pe_tup (pa_cons (pe_tup (pa_cons pe_str pa_nil)) (pa_cons (pe_tup pa_nil) (pa_cons (pe_tup pa_nil) (pa_cons (pe_tup pa_nil) pa_nil))))) pa_nil)) (pv 1)))) pss_nil)
    (pss_cons (ps_if (pt_cmpR op_eq (pv 0) pe_int (nomark _)) (pss_one (ps_ret (pe_cmeth (E := E) (pe_glob (v := .ref C) (by rfl) G.m rfl) cr cmO GO hr (passes_call (takes_of rfl rfl rfl rfl) fun _ _ _ _ z => z) (pa_cons (pv 1) pa_nil)))) pss_nil)
    (pss_cons (ps_if (pt_cmpR op_eq (pv 0) pe_int (nomark _)) (pss_one (ps_ret (pe_op (r := fun x y H Q => rBinO K .Sub C gS (spSubX K C CP) E x y H Q ∨ rBinP C (spSubX K C CP) E x y H Q) (opr_or (op_binO GS hr (passes_call (takes_of rfl rfl rfl rfl) fun _ _ _ _ z => z)) (op_binP hsf hsS hfS GS hr (passes_call (takes_of rfl rfl rfl rfl) fun _ _ _ _ z => z))) (StX.pe_makeR (E := E) M GI hr (by rfl) G.m (passes_call (takes_of rfl rfl rfl rfl) fun _ _ _ _ z => z) (pa_cons (pe_tup (pa_cons (pe_tup (pa_cons pe_str pa_nil)) (pa_cons (pe_tup pa_nil) (pa_cons (pe_tup pa_nil) (pa_cons (pe_tup pa_nil) pa_nil))))) pa_nil)) (pv 1)))) pss_nil)
    (pss_one (ps_ret (pe_callN (E := E) GC hr (by rfl) mC kC kb7 (passes_call (takes_of rfl rfl rfl rfl) fun _ _ _ _ z => z) (pa_cons (pv 1) pa_nil) (pk_cons (pv 2) (pk_cons (pv 3) pk_nil))))))))))))))))), ?_⟩
  match way, h with
  | 0, h =>
    refine way_yes rfl (by decide) ?_
    obtain ⟨bs, hb, r⟩ := h
    exact ret_m3 (d := rd (fact "a")) (fun Q2 q2 => lit_same (lit_tup (lits_cons (lit_tup (lits_cons (lit_str (x := "a")) lits_nil) (by decide)) (lits_cons (lit_tup lits_nil (by decide)) (lits_cons (lit_tup lits_nil (by decide)) (lits_cons (lit_tup lits_nil (by decide)) lits_nil)))) (by decide)) _ _ _ q2) rfl rfl fun v H1 s1 hv =>
      init_call (bs := true :: bs) (xs := [v, x, y]) ⟨RuV.rule (r := fact "a") hv (isR_fact (by decide +kernel)), hb.same s1⟩ (by simp) (PRes.same s1 r)
  | 1, h =>
    refine way_no rfl (by decide) ?_
    refine way_yes rfl (by decide) ?_
    obtain ⟨bs, hb, r⟩ := h
    refine ⟨rfl, x, rfl, y, rfl, z, rfl, by show 3 ≤ sizeLine; decide, fun l hl => ?_⟩
    have s1 := same_new hl (.lst [x, y, z])
    exact of_call (.inr (SqL.of upd_same)) (hb.same s1) (by simp) (PRes.same s1 r)
  | 2, h =>
    refine way_no rfl (by decide) ?_
    refine way_no rfl (by decide) ?_
    refine way_yes rfl (by decide) ?_
    obtain ⟨b, hb, r⟩ := h
    exact ⟨rfl, x, rfl, facts_call hb r⟩
  | 3, h =>
    refine way_no rfl (by decide) ?_
    refine way_no rfl (by decide) ?_
    refine way_no rfl (by decide) ?_
    refine way_yes rfl (by decide) ?_
    refine ret_mk0 (L := []) rfl fun H1 v S s1 hS hv => ?_
    have eS : S = [] := List.eq_nil_iff_forall_not_mem.mpr fun r hr => nomatch (hS.mem r).mp hr
    subst eS
    refine ⟨x, rfl, ?_⟩
    obtain ⟨a, da, ta, ya, rfl, ga, _⟩ := id hv
    have hv1 := hv
    rcases h with ⟨⟨d, ht⟩, q⟩ | ⟨hx, q⟩
    · exact .inl ⟨a, da, _, tyName d, rfl, ga, tyx_same s1 ht, BA d, .inr ⟨_, x, rfl, ⟨_, tyx_same s1 ht, G.odd d⟩, fun H' dx s hd => q H' dx (s1.trans s) hd⟩⟩
    · have hx1 := hx.same s1
      obtain ⟨b, db, tb, yb, rfl, gb, _⟩ := id hx1
      exact .inr ⟨a, da, _, b, db, _, rfl, rfl, ga, gb, .inl ⟨_, _, [], rfl, hv1, (fun _ z => nomatch z), .inl ⟨[], hx1, (fun _ z => nomatch z), by decide, (fun H' v S s _ _ hv => by
        obtain ⟨a', _, _, _, rfl, _⟩ := hv
        exact q H' a' ((s1.trans s)))⟩⟩⟩
  | 4, h =>
    refine way_no rfl (by decide) ?_
    refine way_no rfl (by decide) ?_
    refine way_no rfl (by decide) ?_
    refine way_no rfl (by decide) ?_
    refine way_yes rfl (by decide) ?_
    refine ret_mk0 (L := []) rfl fun H1 v S s1 hS hv => ?_
    have eS : S = [] := List.eq_nil_iff_forall_not_mem.mpr fun r hr => nomatch (hS.mem r).mp hr
    subst eS
    refine ⟨x, rfl, ?_⟩
    obtain ⟨a, da, ta, ya, rfl, ga, _⟩ := id hv
    have hv1 := hv
    rcases h with ⟨⟨d, ht⟩, q⟩ | ⟨hx, q⟩
    · exact .inl ⟨a, da, _, tyName d, rfl, ga, tyx_same s1 ht, BS d, .inr ⟨_, x, rfl, ⟨_, tyx_same s1 ht, G.odd d⟩, fun H' dx s hd => q H' dx (s1.trans s) hd⟩⟩
    · have hx1 := hx.same s1
      obtain ⟨b, db, tb, yb, rfl, gb, _⟩ := id hx1
      exact .inr ⟨a, da, _, b, db, _, rfl, rfl, ga, gb, .inl ⟨_, _, [], rfl, hv1, (fun _ z => nomatch z), .inl ⟨[], hx1, by decide, by decide, (fun H' v S s _ _ hv => by
        obtain ⟨a', _, _, _, rfl, _⟩ := hv
        exact q H' a' ((s1.trans s)))⟩⟩⟩
  | 5, h =>
    refine way_no rfl (by decide) ?_
    refine way_no rfl (by decide) ?_
    refine way_no rfl (by decide) ?_
    refine way_no rfl (by decide) ?_
    refine way_no rfl (by decide) ?_
    refine way_yes rfl (by decide) ?_
    obtain ⟨b1, b2, b3, g1, g2, g3, r⟩ := h
    exact ⟨x, rfl, y, rfl, z, rfl, rfl, rule_call g1 g2 (NsOk.ar (ns := []) ⟨⟨e3, rfl, .inr (n3 _)⟩, (fun _ z => nomatch z), by decide⟩ (by decide)) g3 (ARes.ins (l1 := [(x, b1), (z, b2)]) r)⟩
  | 6, h =>
    refine way_no rfl (by decide) ?_
    refine way_no rfl (by decide) ?_
    refine way_no rfl (by decide) ?_
    refine way_no rfl (by decide) ?_
    refine way_no rfl (by decide) ?_
    refine way_no rfl (by decide) ?_
    refine way_yes rfl (by decide) ?_
    obtain ⟨b1, b2, g1, g2, r⟩ := h
    exact ⟨x, rfl, y, rfl, rfl, rule_call (NsOk.ar (ns := []) ⟨⟨e1, rfl, .inr (n1 _)⟩, (fun _ z => nomatch z), by decide⟩ (by decide)) (NsOk.ar (ns := []) ⟨⟨e2, rfl, .inr (n2 _)⟩, (fun _ z => nomatch z), by decide⟩ (by decide)) g1 g2 r⟩
  | 7, h =>
    refine way_no rfl (by decide) ?_
    refine way_no rfl (by decide) ?_
    refine way_no rfl (by decide) ?_
    refine way_no rfl (by decide) ?_
    refine way_no rfl (by decide) ?_
    refine way_no rfl (by decide) ?_
    refine way_no rfl (by decide) ?_
    refine way_no rfl (by decide) ?_
    refine way_no rfl (by decide) ?_
    refine way_no rfl (by decide) ?_
    refine way_no rfl (by decide) ?_
    refine way_no rfl (by decide) ?_
    obtain ⟨b1, b2, b3, g1, g2, g3, r⟩ := h
    exact ⟨x, rfl, y, rfl, z, rfl, rfl, rfl, choice_call g1 g2 g3 r⟩
  | 8, h =>
    refine way_no rfl (by decide) ?_
    refine way_no rfl (by decide) ?_
    refine way_no rfl (by decide) ?_
    refine way_no rfl (by decide) ?_
    refine way_no rfl (by decide) ?_
    refine way_no rfl (by decide) ?_
    refine way_no rfl (by decide) ?_
    refine way_yes rfl (by decide) ?_
    obtain ⟨b, hb, r⟩ := h
    exact ⟨x, rfl, init_call (bs := [b]) (xs := [x]) ⟨hb, True.intro⟩ (by simp) r⟩
  | 9, h =>
    refine way_no rfl (by decide) ?_
    refine way_no rfl (by decide) ?_
    refine way_no rfl (by decide) ?_
    refine way_no rfl (by decide) ?_
    refine way_no rfl (by decide) ?_
    refine way_no rfl (by decide) ?_
    refine way_no rfl (by decide) ?_
    refine way_no rfl (by decide) ?_
    refine way_yes rfl (by decide) ?_
    obtain ⟨b1, b2, g1, g2, r⟩ := h
    exact ⟨x, rfl, y, rfl, rfl, rfl, rule_call g1 (NsOk.ar (ns := []) ⟨⟨e2, rfl, .inr (n2 _)⟩, (fun _ z => nomatch z), by decide⟩ (by decide)) g2 (NsOk.ar (ns := []) ⟨⟨e4, rfl, .inr (n4 _)⟩, (fun _ z => nomatch z), by decide⟩ (by decide)) (ARes.ins (l1 := [(x, b1)]) (ARes.ins (l1 := [(x, b1), (y, b2)]) (l2 := []) r))⟩
  | 10, h =>
    refine way_no rfl (by decide) ?_
    refine way_no rfl (by decide) ?_
    refine way_no rfl (by decide) ?_
    refine way_no rfl (by decide) ?_
    refine way_no rfl (by decide) ?_
    refine way_no rfl (by decide) ?_
    refine way_no rfl (by decide) ?_
    refine way_no rfl (by decide) ?_
    refine way_no rfl (by decide) ?_
    refine way_yes rfl (by decide) ?_
    obtain ⟨⟨d, ht⟩, q⟩ := h
    refine ret_mk1 (x := fact "a") (isR_fact (by decide +kernel)) (fun Q2 q2 => lit_same (lit_tup (lits_cons (lit_tup (lits_cons (lit_str (x := "a")) lits_nil) (by decide)) (lits_cons (lit_tup lits_nil (by decide)) (lits_cons (lit_tup lits_nil (by decide)) (lits_cons (lit_tup lits_nil (by decide)) lits_nil)))) (by decide)) _ _ _ q2) fun H1 v S s01 hv => ?_
    obtain ⟨a, da, ta, ya, rfl, ga, _⟩ := id hv
    exact ⟨x, rfl, .inl ⟨a, da, _, tyName d, rfl, ga, tyx_same s01 ht, BA d, .inr ⟨_, x, rfl, ⟨_, tyx_same s01 ht, G.odd d⟩, fun H' dx s hd => q H' dx (s01.trans s) hd⟩⟩⟩
  | 11, h =>
    refine way_no rfl (by decide) ?_
    refine way_no rfl (by decide) ?_
    refine way_no rfl (by decide) ?_
    refine way_no rfl (by decide) ?_
    refine way_no rfl (by decide) ?_
    refine way_no rfl (by decide) ?_
    refine way_no rfl (by decide) ?_
    refine way_no rfl (by decide) ?_
    refine way_no rfl (by decide) ?_
    refine way_no rfl (by decide) ?_
    refine way_no rfl (by decide) ?_
    refine way_yes rfl (by decide) ?_
    obtain ⟨⟨d, ht⟩, q⟩ := h
    refine ret_mk1 (x := fact "a") (isR_fact (by decide +kernel)) (fun Q2 q2 => lit_same (lit_tup (lits_cons (lit_tup (lits_cons (lit_str (x := "a")) lits_nil) (by decide)) (lits_cons (lit_tup lits_nil (by decide)) (lits_cons (lit_tup lits_nil (by decide)) (lits_cons (lit_tup lits_nil (by decide)) lits_nil)))) (by decide)) _ _ _ q2) fun H1 v S s01 hv => ?_
    obtain ⟨a, da, ta, ya, rfl, ga, _⟩ := id hv
    exact ⟨x, rfl, .inl ⟨a, da, _, tyName d, rfl, ga, tyx_same s01 ht, BS d, .inr ⟨_, x, rfl, ⟨_, tyx_same s01 ht, G.odd d⟩, fun H' dx s hd => q H' dx (s01.trans s) hd⟩⟩⟩
  | 12, h =>
    refine way_no rfl (by decide) ?_
    refine way_no rfl (by decide) ?_
    refine way_no rfl (by decide) ?_
    refine way_no rfl (by decide) ?_
    refine way_no rfl (by decide) ?_
    refine way_no rfl (by decide) ?_
    refine way_no rfl (by decide) ?_
    refine way_no rfl (by decide) ?_
    refine way_no rfl (by decide) ?_
    refine way_no rfl (by decide) ?_
    refine way_yes rfl (by decide) ?_
    obtain ⟨l, xs, bs, rfl, hS, hb, few, r⟩ := h
    exact ⟨rfl, .ref l, rfl, of_call hS hb few r⟩
  | n + 13, h => exact h.elim
end
end Rw
namespace Rw
open PySem PySem.Spec PyProof.Rows L2
/-! ### _law_asked -/
structure ErrQ (K : PySem.W.Frag) (mg : Str → Option Value) (CR CP CW CN CE : Addr) : Prop where
  mR : mg "InvalidRule" = some (.ref CR)
  mP : mg "NotAProgram" = some (.ref CP)
  mW : mg "InvalidWorld" = some (.ref CW)
  mN : mg "InvalidNames" = some (.ref CN)
  mE : mg "RuleError" = some (.ref CE)
  eR : PySem.W.exmOne K (.ref CR) (.ref CE) = some true
  eP : PySem.W.exmOne K (.ref CP) (.ref CE) = some true
  eW : PySem.W.exmOne K (.ref CW) (.ref CE) = some true
  eN : PySem.W.exmOne K (.ref CN) (.ref CE) = some true
  cR : ExcC K CR
  cP : ExcC K CP
  cW : ExcC K CW
  cN : ExcC K CN
  nR : PySem.W.findIn K (.ref CR) "place" = some none
  nP : PySem.W.findIn K (.ref CP) "thing" = some none
  nW : PySem.W.findIn K (.ref CW) "thing" = some none
  nN : PySem.W.findIn K (.ref CN) "thing" = some none
  i0R : PySem.W.kitOne K (.type "NoneType") (.ref CR) = some false
  i0P : PySem.W.kitOne K (.type "NoneType") (.ref CP) = some false
  i0W : PySem.W.kitOne K (.type "NoneType") (.ref CW) = some false
  i0N : PySem.W.kitOne K (.type "NoneType") (.ref CN) = some false
  iRR : PySem.W.kitOne K (.ref CR) (.ref CR) = some true
  iPR : PySem.W.kitOne K (.ref CP) (.ref CR) = some false
  iPP : PySem.W.kitOne K (.ref CP) (.ref CP) = some true
  iWR : PySem.W.kitOne K (.ref CW) (.ref CR) = some false
  iWP : PySem.W.kitOne K (.ref CW) (.ref CP) = some false
  iWW : PySem.W.kitOne K (.ref CW) (.ref CW) = some true
  iNR : PySem.W.kitOne K (.ref CN) (.ref CR) = some false
  iNP : PySem.W.kitOne K (.ref CN) (.ref CP) = some false
  iNW : PySem.W.kitOne K (.ref CN) (.ref CW) = some false
  iNN : PySem.W.kitOne K (.ref CN) (.ref CN) = some true
theorem xfQ {K : PySem.W.Frag} {C : Addr} (h : ExcC K C) : XfC K C := ⟨h.hg, h.hk, h.hs, h.hd⟩
theorem Got.mono {H : Hp} {Q Q' : VK} (q : ∀ v H', Q v H' → Q' v H') (h : Got H Q) : Got H Q' := fun H' a s => q _ _ (h H' a s)
theorem Err.mono {H : Hp} {E E' : XK} (e : ∀ c d H', E c d H' → E' c d H') {C : Addr} {n : Str} {v : V} (h : Err H E C n v) : Err H E' C n v := fun H' dx s hd => e _ _ _ (h H' dx s hd)
theorem ARes.mono {H : Hp} {Q Q' : VK} {E E' : XK} (q : ∀ v H', Q v H' → Q' v H') (e : ∀ c d H', E c d H' → E' c d H') {CN : Addr} : ∀ {l : List (V × Bool)}, ARes CN H Q E l → ARes CN H Q' E' l
  | [], h => Got.mono q h
  | (_, true) :: r, h => ARes.mono q e (l := r) h
  | (_, false) :: _, h => Err.mono e h
theorem PRes.mono {H : Hp} {Q Q' : VK} {E E' : XK} (q : ∀ v H', Q v H' → Q' v H') (e : ∀ c d H', E c d H' → E' c d H') {CR : Addr} : ∀ {i : Nat} {l : List Bool}, PRes CR H Q E i l → PRes CR H Q' E' i l
  | _, [], h => Got.mono q h
  | i, true :: r, h => PRes.mono q e (i := i + 1) (l := r) h
  | _, false :: _, h => Err.mono e h
theorem MW.mono {K : PySem.W.Frag} {C CR CP CW CN : Addr} {x y z : V} {H : Hp} {Q Q' : VK} {E E' : XK} (q : ∀ v H', Q v H' → Q' v H') (e : ∀ c d H', E c d H' → E' c d H') : ∀ {way : Nat}, MW K C CR CP CW CN x y z H Q E way → MW K C CR CP CW CN x y z H Q' E' way
  | 0, ⟨bs, h, r⟩ => ⟨bs, h, r.mono q e⟩
  | 1, ⟨bs, h, r⟩ => ⟨bs, h, r.mono q e⟩
  | 2, ⟨b, h, r⟩ => ⟨b, h, r.mono q e⟩
  | 3, .inl ⟨h, r⟩ => .inl ⟨h, r.mono e⟩
  | 3, .inr ⟨h, r⟩ => .inr ⟨h, r.mono q⟩
  | 4, .inl ⟨h, r⟩ => .inl ⟨h, r.mono e⟩
  | 4, .inr ⟨h, r⟩ => .inr ⟨h, r.mono q⟩
  | 5, ⟨b1, b2, b3, h1, h2, h3, r⟩ => ⟨b1, b2, b3, h1, h2, h3, r.mono q e⟩
  | 6, ⟨b1, b2, h1, h2, r⟩ => ⟨b1, b2, h1, h2, r.mono q e⟩
  | 7, ⟨b1, b2, b3, h1, h2, h3, r⟩ => ⟨b1, b2, b3, h1, h2, h3, r.mono q e⟩
  | 8, ⟨b, h, r⟩ => ⟨b, h, r.mono q e⟩
  | 9, ⟨b1, b2, h1, h2, r⟩ => ⟨b1, b2, h1, h2, r.mono q e⟩
  | 10, ⟨h, r⟩ => ⟨h, r.mono e⟩
  | 11, ⟨h, r⟩ => ⟨h, r.mono e⟩
  | 12, ⟨l, xs, bs, e1, h, h2, h3, r⟩ => ⟨l, xs, bs, e1, h, h2, h3, r.mono q e⟩
abbrev sLawAsked : Stmt := topS 36
theorem scLawAsked : FnScope ["way", "one", "two", "three", "error", "told", "caught"] ["way", "one", "two", "three"] (defScope sLawAsked) := ⟨rfl, rfl, rfl, by decide +kernel, rfl, by decide +kernel, by decide +kernel⟩
/-- a list [a word, a thing] is handed back -/
def TL (Q : VK) (s : Str) (x : V) (H : Hp) : Prop := ∀ H2 l, Same H H2 → H2 l = some (.lst [.str s, x]) → Q (.ref l) H2
theorem TL.same {Q : VK} {H : Hp} {s : Str} {x : V} {H' : Hp} (h : TL Q s x H) (e : Same H H') : TL Q s x H' := fun H2 l a1 a2 => h H2 l (e.trans a1) a2
/-- what the errors tell -/
def TE' (CR CP CW CN : Addr) (Q : VK) : XK := fun cls d H' => ∃ (dd D : Addr) (x : V) (n : Str), d = some dd ∧ cls = .ref D ∧ H' dd = some (.xd [(n, x)]) ∧
  ((D = CR ∧ n = "place" ∧ TL Q "rule" x H') ∨ (D = CP ∧ n = "thing" ∧ TL Q "program" x H') ∨ (D = CW ∧ n = "thing" ∧ TL Q "world" x H') ∨ (D = CN ∧ n = "thing" ∧ TL Q "names" x H'))
def TOk (Q : VK) : VK := fun v H' => (∃ a : Addr, v = .ref a) ∧ TL Q "ok" (.bl true) H'
section
variable {P : Program} {w : World} {K : PySem.W.Frag} {mg : Str → Option Value} {base : Heap} {f : Addr} {fd : FuncData} {k : Nat}
def spLawAsked (K : PySem.W.Frag) (C CR CP CW CN : Addr) : Sp := fun vs H Q _ => ∃ (way : Nat) (x y z : V), vs = [.int (way : Nat), x, y, z] ∧ MW K C CR CP CW CN x y z H (TOk Q) (TE' CR CP CW CN Q) way
theorem ok_lawAsked {C CR CP CW CN CE f1 : Addr} {fd1 : FuncData} (F : Fun K "_law_asked" "_law_asked" sLawAsked f fd) (T : Bl mg) (E : ErrQ K mg CR CP CW CN CE)
    (G1 : FnOk P w K mg base (L2.CX P w) k f1 fd1 ["way", "one", "two", "three"] (spLawMade K C CR CP CW CN)) (b1 : Binds K fd1 ["way", "one", "two", "three"] []) (k1 : PySem.W.keepIn K (.ref f1) = true) (m1 : mg "_law_made" = some (.ref f1)) :
    FnOk P w K mg base CX0 (k + 1) f fd ["way", "one", "two", "three"] (spLawAsked K C CR CP CW CN) := by
  refine F.ok scLawAsked (fun vs H Q E h => ?_) (fun cdv A outer s H vs Q E' hr h => ?_)
  · obtain ⟨way, x, y, z, rfl, h⟩ := h
    rfl
  obtain ⟨way, x, y, z, rfl, h⟩ := h
  refine ⟨_, pss_cons (ps_set (i := 4) scLawAsked.nd rfl (.inl rfl) pe_non)
    (pss_cons (ps_set (i := 5) scLawAsked.nd rfl (.inl rfl) pe_non)
    (pss_mid (ps_try_keep (i := 6) (j := 4) rfl rfl scLawAsked.nd rfl rfl ⟨rfl, by decide, .inl E.mE⟩ rfl rfl rfl rfl (by decide) (by decide) (by rfl) (fun W pn xe tk po =>
        pss_one (ps_set (i := 5) scLawAsked.nd rfl (.inl rfl) (pe_callS G1 hr (by rfl) m1 k1 b1 (fun σ => passAt tk σ) (pa_cons (pv 0) (pa_cons (pv 1) (pa_cons (pv 2) (pa_cons (pv 3) pa_nil))))))))
    (pss_cons (ps_if (pt_val (pe_callB call_isH (by rfl) T.isi PyProof.Rows.boot_isinstance (pa_cons (pv 4) (pa_cons (pe_glob (v := .ref CR) (by rfl) E.mR rfl) pa_nil)))) (pss_one (ps_ret (pe_lst (pa_cons pe_str (pa_cons (pe_fldH (xfQ E.cR) E.nR (pv 4)) pa_nil))))) pss_nil)
    (pss_cons (ps_if (pt_val (pe_callB call_isH (by rfl) T.isi PyProof.Rows.boot_isinstance (pa_cons (pv 4) (pa_cons (pe_glob (v := .ref CP) (by rfl) E.mP rfl) pa_nil)))) (pss_one (ps_ret (pe_lst (pa_cons pe_str (pa_cons (pe_fldH (xfQ E.cP) E.nP (pv 4)) pa_nil))))) pss_nil)
    (pss_cons (ps_if (pt_val (pe_callB call_isH (by rfl) T.isi PyProof.Rows.boot_isinstance (pa_cons (pv 4) (pa_cons (pe_glob (v := .ref CW) (by rfl) E.mW rfl) pa_nil)))) (pss_one (ps_ret (pe_lst (pa_cons pe_str (pa_cons (pe_fldH (xfQ E.cW) E.nW (pv 4)) pa_nil))))) pss_nil)
    (pss_cons (ps_if (pt_val (pe_callB call_isH (by rfl) T.isi PyProof.Rows.boot_isinstance (pa_cons (pv 4) (pa_cons (pe_glob (v := .ref CN) (by rfl) E.mN rfl) pa_nil)))) (pss_one (ps_ret (pe_lst (pa_cons pe_str (pa_cons (pe_fldH (xfQ E.cN) E.nN (pv 4)) pa_nil))))) pss_nil)
    (pss_one (ps_ret (pe_lst (pa_cons pe_str (pa_cons (pe_and (pe_cmpR op_isN (pv 4) pe_non (nomark _)) (pe_one (pe_cmpR op_notN (pv 5) pe_non (nomark _)))) pa_nil))))))))))), ?_⟩
  let I : L2.St → Hp → Prop := fun σ H' => ∃ ev tv, σ = [some (.int way), some x, some y, some z, some ev, some tv, none] ∧ ((ev = .non ∧ (∃ a : Addr, tv = .ref a) ∧ TL Q "ok" (.bl true) H') ∨ ∃ (a dd D : Addr) (x : V) (n : Str), ev = .ref a ∧ H' a = some (ExH (.ref D) (some dd) a) ∧ H' dd = some (.xd [(n, x)]) ∧
    ((D = CR ∧ n = "place" ∧ TL Q "rule" x H') ∨ (D = CP ∧ n = "thing" ∧ TL Q "program" x H') ∨ (D = CW ∧ n = "thing" ∧ TL Q "world" x H') ∨ (D = CN ∧ n = "thing" ∧ TL Q "names" x H')))
  have bad : ∀ cls d H', TE' CR CP CW CN Q cls d H' → PySem.W.exmOne K cls (.ref CE) = some true ∧ ∀ a, H' a = none → I [some (.int way), some x, some y, some z, some (.ref a), some .non, none] (upd H' a (ExH cls d a)) := fun cls d H' ⟨dd, D, x, n, e1, e2, h1, h2⟩ => by
    subst e1 e2
    refine ⟨?_, fun a ha => ⟨.ref a, .non, rfl, .inr ⟨a, dd, D, x, n, rfl, upd_same, (same_new ha _) _ _ h1, ?_⟩⟩⟩
    · rcases h2 with ⟨rfl, _⟩ | ⟨rfl, _⟩ | ⟨rfl, _⟩ | ⟨rfl, _⟩
      · exact E.eR
      · exact E.eP
      · exact E.eW
      · exact E.eN
    · have sa := same_new ha (ExH (.ref D) (some dd) a)
      rcases h2 with ⟨h, i, q⟩ | ⟨h, i, q⟩ | ⟨h, i, q⟩ | ⟨h, i, q⟩
      · exact .inl ⟨h, i, q.same sa⟩
      · exact .inr (.inl ⟨h, i, q.same sa⟩)
      · exact .inr (.inr (.inl ⟨h, i, q.same sa⟩))
      · exact .inr (.inr (.inr ⟨h, i, q.same sa⟩))
  refine ⟨I, ?_, fun σ' H' hI => ?_⟩
  · refine ⟨.int way, rfl, x, rfl, y, rfl, z, rfl, ?_⟩
    dsimp only [tNil]
    refine ⟨way, x, y, z, rfl, MW.mono (fun v H' q => ?_) (fun cls d H' q => bad cls d H' q) h⟩
    obtain ⟨⟨a, rfl⟩, q⟩ := q
    exact ⟨.non, .ref a, rfl, .inl ⟨rfl, ⟨a, rfl⟩, q⟩⟩
  · obtain ⟨ev, tv, rfl, ⟨rfl, ⟨ta, rfl⟩, q⟩ | ⟨a, dd, D, x2, n, rfl, ha, hd, hs⟩⟩ := hI
    · refine ⟨.non, rfl, .non, .ref CR, .ref CR, rfl, fun v r => r, .inl ⟨rfl, false, E.i0R, false, rfl, iteF ?_⟩⟩
      refine ⟨.non, rfl, .non, .ref CP, .ref CP, rfl, fun v r => r, .inl ⟨rfl, false, E.i0P, false, rfl, iteF ?_⟩⟩
      refine ⟨.non, rfl, .non, .ref CW, .ref CW, rfl, fun v r => r, .inl ⟨rfl, false, E.i0W, false, rfl, iteF ?_⟩⟩
      refine ⟨.non, rfl, .non, .ref CN, .ref CN, rfl, fun v r => r, .inl ⟨rfl, false, E.i0N, false, rfl, iteF ?_⟩⟩
      refine ⟨.non, rfl, rfl, true, congrArg V.bl (decide_eq_true rfl), iteT ?_⟩
      refine ⟨.ref ta, rfl, rfl, by show 2 ≤ sizeLine; decide, fun l2 hl => ?_⟩
      exact q _ l2 (same_new hl _) upd_same
    · have fld : ∀ n : Str, ([(n, x2)] : List (Str × V)).lookup n = some x2 := fun n => by
        rw [List.lookup_cons, beq_self_eq_true]
      rcases hs with ⟨rfl, rfl, q⟩ | ⟨rfl, rfl, q⟩ | ⟨rfl, rfl, q⟩ | ⟨rfl, rfl, q⟩
      · refine ⟨.ref a, rfl, .ref a, .ref _, .ref _, rfl, fun v r => r, .inr ⟨a, _, dd, _, true, rfl, ha, hd, E.cR, E.iRR, true, rfl, iteT ?_⟩⟩
        refine ⟨.ref a, rfl, a, dd, _, x2, rfl, ha, hd, fld _, by show 2 ≤ sizeLine; decide, fun l2 hl => ?_⟩
        exact q _ l2 (same_new hl _) upd_same
      · refine ⟨.ref a, rfl, .ref a, .ref _, .ref _, rfl, fun v r => r, .inr ⟨a, _, dd, _, false, rfl, ha, hd, E.cP, E.iPR, false, rfl, iteF ?_⟩⟩
        refine ⟨.ref a, rfl, .ref a, .ref _, .ref _, rfl, fun v r => r, .inr ⟨a, _, dd, _, true, rfl, ha, hd, E.cP, E.iPP, true, rfl, iteT ?_⟩⟩
        refine ⟨.ref a, rfl, a, dd, _, x2, rfl, ha, hd, fld _, by show 2 ≤ sizeLine; decide, fun l2 hl => ?_⟩
        exact q _ l2 (same_new hl _) upd_same
      · refine ⟨.ref a, rfl, .ref a, .ref _, .ref _, rfl, fun v r => r, .inr ⟨a, _, dd, _, false, rfl, ha, hd, E.cW, E.iWR, false, rfl, iteF ?_⟩⟩
        refine ⟨.ref a, rfl, .ref a, .ref _, .ref _, rfl, fun v r => r, .inr ⟨a, _, dd, _, false, rfl, ha, hd, E.cW, E.iWP, false, rfl, iteF ?_⟩⟩
        refine ⟨.ref a, rfl, .ref a, .ref _, .ref _, rfl, fun v r => r, .inr ⟨a, _, dd, _, true, rfl, ha, hd, E.cW, E.iWW, true, rfl, iteT ?_⟩⟩
        refine ⟨.ref a, rfl, a, dd, _, x2, rfl, ha, hd, fld _, by show 2 ≤ sizeLine; decide, fun l2 hl => ?_⟩
        exact q _ l2 (same_new hl _) upd_same
      · refine ⟨.ref a, rfl, .ref a, .ref _, .ref _, rfl, fun v r => r, .inr ⟨a, _, dd, _, false, rfl, ha, hd, E.cN, E.iNR, false, rfl, iteF ?_⟩⟩
        refine ⟨.ref a, rfl, .ref a, .ref _, .ref _, rfl, fun v r => r, .inr ⟨a, _, dd, _, false, rfl, ha, hd, E.cN, E.iNP, false, rfl, iteF ?_⟩⟩
        refine ⟨.ref a, rfl, .ref a, .ref _, .ref _, rfl, fun v r => r, .inr ⟨a, _, dd, _, false, rfl, ha, hd, E.cN, E.iNW, false, rfl, iteF ?_⟩⟩
        refine ⟨.ref a, rfl, .ref a, .ref _, .ref _, rfl, fun v r => r, .inr ⟨a, _, dd, _, true, rfl, ha, hd, E.cN, E.iNN, true, rfl, iteT ?_⟩⟩
        refine ⟨.ref a, rfl, a, dd, _, x2, rfl, ha, hd, fld _, by show 2 ≤ sizeLine; decide, fun l2 hl => ?_⟩
        exact q _ l2 (same_new hl _) upd_same
end
end Rw
namespace Rw
open PySem PySem.Spec PyProof.Rows L2
/-! ### _law_first -/
/-- the first of the things that is not good -/
def Fst (w : Str) : List (V × Bool) → Str × V
  | [] => ("ok", .bl true)
  | (_, true) :: r => Fst w r
  | (x, false) :: _ => (w, x)
theorem ARes.first {CR CP CW CN : Addr} {Q : VK} {H : Hp} : ∀ {l : List (V × Bool)}, TL Q (Fst "names" l).1 (Fst "names" l).2 H → ARes CN H (TOk Q) (TE' CR CP CW CN Q) l
  | [], h => fun H' a s => ⟨⟨a, rfl⟩, h.same s⟩
  | (_, true) :: r, h => ARes.first (l := r) h
  | (x, false) :: _, h => fun H' dx s hd => ⟨dx, CN, x, "thing", rfl, rfl, upd_same, .inr (.inr (.inr ⟨rfl, rfl, h.same (s.trans (same_new hd _))⟩))⟩
theorem ARes.firstW {CR CP CW CN : Addr} {Q : VK} {H : Hp} : ∀ {l : List (V × Bool)}, TL Q (Fst "world" l).1 (Fst "world" l).2 H → ARes CW H (TOk Q) (TE' CR CP CW CN Q) l
  | [], h => fun H' a s => ⟨⟨a, rfl⟩, h.same s⟩
  | (_, true) :: r, h => ARes.firstW (l := r) h
  | (x, false) :: _, h => fun H' dx s hd => ⟨dx, CW, x, "thing", rfl, rfl, upd_same, .inr (.inr (.inl ⟨rfl, rfl, h.same (s.trans (same_new hd _))⟩))⟩
/-- the places i, i + 1, .. with the checks -/
def Plc : Nat → List Bool → List (V × Bool)
  | _, [] => []
  | i, b :: r => (.int (i : Nat), b) :: Plc (i + 1) r
theorem PRes.first {CR CP CW CN : Addr} {Q : VK} {H : Hp} : ∀ {i : Nat} {bs : List Bool}, TL Q (Fst "rule" (Plc i bs)).1 (Fst "rule" (Plc i bs)).2 H → PRes CR H (TOk Q) (TE' CR CP CW CN Q) i bs
  | _, [], h => fun H' a s => ⟨⟨a, rfl⟩, h.same s⟩
  | i, true :: r, h => PRes.first (i := i + 1) (bs := r) h
  | i, false :: _, h => fun H' dx s hd => ⟨dx, CR, .int (i : Nat), "place", rfl, rfl, upd_same, .inl ⟨rfl, rfl, h.same (s.trans (same_new hd _))⟩⟩
theorem Err.program {CR CP CW CN : Addr} {Q : VK} {H : Hp} {x : V} (h : TL Q "program" x H) : Err H (TE' CR CP CW CN Q) CP "thing" x := fun H' dx s hd => ⟨dx, CP, x, "thing", rfl, rfl, upd_same, .inr (.inl ⟨rfl, rfl, h.same (s.trans (same_new hd _))⟩)⟩
theorem Fst.drop {w : Str} {l : List (V × Bool)} {i : Nat} {x : V} (e : l[i]? = some (x, true)) : Fst w (l.drop i) = Fst w (l.drop (i + 1)) := by
  obtain ⟨h1, h2⟩ := List.getElem?_eq_some_iff.mp e
  rw [List.drop_eq_getElem_cons h1, h2]
  rfl
theorem Fst.at {w : Str} {l : List (V × Bool)} {i : Nat} {x : V} (e : l[i]? = some (x, false)) : Fst w (l.drop i) = (w, x) := by
  obtain ⟨h1, h2⟩ := List.getElem?_eq_some_iff.mp e
  rw [List.drop_eq_getElem_cons h1, h2]
  rfl
/-- a loop over zip of two lists, the first not longer -/
theorem for_zipS {K : PySem.W.Frag} {a b : Addr} {xs ys : List V} {g : TG} {tb : TS} {D : Ends} {σ : L2.St} {H : Hp} (hl : xs.length ≤ ys.length) (Pv : Nat → L2.St → Hp → Prop) (h0 : Pv 0 σ H) (hq : ∀ i σ H, Pv i σ H → SqL K H a xs ∧ SqL K H b ys)
    (hs : ∀ (i : Nat) (x y : V) (T : Addr) (σ : L2.St) (H : Hp), xs[i]? = some x → ys[i]? = some y → Pv i σ H → H T = none → g (.ref T) σ (upd H T (.tup [x, y])) fun σ2 H2 => tb { D with nx := Pv (i + 1), ct := Pv (i + 1), bk := D.nx } σ2 H2) (hd : ∀ σ H, Pv xs.length σ H → D.nx σ H) :
    ∃ W : Nat → Nat → L2.St → Hp → Prop, (∃ m, W 0 m σ H) ∧ ∀ i m σ H, W i m σ H →
      ((Itz K a b).stop i H ∧ D.nx σ H) ∨ ((Itz K a b).go i H ∧ ∃ N : L2.St → Hp → Prop, (∀ σ' H', N σ' H' → ∃ m', m' < m ∧ W (i + 1) m' σ' H') ∧ ∀ v H', (Itz K a b).yld i H v H' → g v σ H' fun σ2 H2 => tb { D with nx := N, ct := N, bk := D.nx } σ2 H2) := by
  refine ⟨fun i m σ H => m = xs.length - i ∧ i ≤ xs.length ∧ Pv i σ H, ⟨xs.length, rfl, Nat.zero_le _, h0⟩, fun i m σ H hw => ?_⟩
  obtain ⟨rfl, hi, p⟩ := hw
  have qs := hq i σ H p
  rcases Nat.lt_or_ge i xs.length with hlt | hge
  · have hlt2 : i < ys.length := Nat.lt_of_lt_of_le hlt hl
    refine .inr ⟨⟨xs, ys, _, _, qs.1, qs.2, List.getElem?_eq_getElem hlt, List.getElem?_eq_getElem hlt2⟩, Pv (i + 1), fun σ' H' p' => ⟨xs.length - (i + 1), by omega, rfl, hlt, p'⟩, fun v H' y => ?_⟩
    obtain ⟨T, x', y', rfl, hT, rfl, f1, f2⟩ := y
    exact hs i x' y' T σ H (f1 xs qs.1) (f2 ys qs.2) p hT
  · have e : i = xs.length := Nat.le_antisymm hi hge
    exact .inl ⟨⟨xs, ys, qs.1, qs.2, Or.inl hge⟩, hd σ H (e ▸ p)⟩
abbrev sLawFirst : Stmt := topS 37
theorem scLawFirst : FnScope ["word", "things", "checks", "good", "item", "is_good"] ["word", "things", "checks", "good"] (defScope sLawFirst) := ⟨rfl, rfl, rfl, by decide +kernel, rfl, by decide +kernel, by decide +kernel⟩
section
variable {P : Program} {w : World} {K : PySem.W.Frag} {mg : Str → Option Value} {base : Heap} {f : Addr} {fd : FuncData} {k : Nat}
def spLawFirst (K : PySem.W.Frag) : Sp := fun vs H Q _ => ∃ (wd : Str) (lt lc : Addr) (l : List (V × Bool)) (rest : List V), vs = [.str wd, .ref lt, .ref lc, .bl true] ∧ SqL K H lt (l.map (·.1)) ∧ SqL K H lc ((l.map fun e => V.bl e.2) ++ rest) ∧ TL Q (Fst wd l).1 (Fst wd l).2 H
theorem ok_lawFirst (F : Fun K "_law_first" "_law_first" sLawFirst f fd) (T : Bl mg) (Tz : mg "zip" = none) : FnOk P w K mg base CX0 (k + 1) f fd ["word", "things", "checks", "good"] (spLawFirst K) := by
  refine F.ok scLawFirst (fun vs H Q E h => ?_) (fun cdv A outer s H vs Q E' hr h => ?_)
  · obtain ⟨wd, lt, lc, l, rest, rfl, h⟩ := h
    rfl
  obtain ⟨wd, lt, lc, l, rest, rfl, h1, h2, q⟩ := h
  refine ⟨_, pss_cons (ps_for PassesOwn.never rfl (pi_zip (by rfl) Tz (pa_cons (pv 1) (pa_cons (pv 2) pa_nil))) (pg_tup (by rfl) (pgs_cons (pg_name (i := 4) scLawFirst.nd rfl (.inl rfl)) (pgs_cons (pg_name (i := 5) scLawFirst.nd rfl (.inl rfl)) pgs_nil)))
      (pss_one (ps_if (pt_not (pt_val (pv 5))) (pss_one (ps_ret (pe_lst (pa_cons (pv 0) (pa_cons (pv 4) pa_nil))))) pss_nil)))
    (pss_one (ps_ret (pe_lst (pa_cons pe_str (pa_cons (pv 3) pa_nil))))), ?_⟩
  refine ⟨.ref lt, rfl, .ref lc, rfl, lt, lc, _, _, rfl, h1, h2, ?_⟩
  have g1 : ∀ H3, Same H H3 → SqL K H3 lt (l.map (·.1)) := fun H3 e => e.seq h1
  have g2 : ∀ H3, Same H H3 → SqL K H3 lc ((l.map fun e => V.bl e.2) ++ rest) := fun H3 e => e.seq h2
  refine for_zipS (K := K) (a := lt) (b := lc) (xs := l.map (·.1)) (ys := (l.map fun e => V.bl e.2) ++ rest) (by rw [List.length_append, List.length_map, List.length_map]; omega) (fun i σ H3 => (∃ y4 y5, σ = [some (.str wd), some (.ref lt), some (.ref lc), some (.bl true), y4, y5]) ∧ Same H H3 ∧ Fst wd (l.drop i) = Fst wd l) ⟨⟨_, _, rfl⟩, Same.refl _, rfl⟩ (fun i σ H3 hI => ⟨g1 _ hI.2.1, g2 _ hI.2.1⟩) (fun i x y T0 σ H3 hx hy hI hT => ?_) (fun σ H3 hI => ?_)
  · obtain ⟨⟨y4, y5, rfl⟩, sm, e⟩ := hI
    obtain ⟨e1, he, rfl⟩ := map_at hx
    have hi : i < l.length := (List.getElem?_eq_some_iff.mp he).1
    rw [List.getElem?_append_left (by rw [List.length_map]; exact hi)] at hy
    obtain ⟨e2, he', rfl⟩ := map_at hy
    obtain rfl : e1 = e2 := Option.some.inj (he.symm.trans he')
    obtain ⟨x, b⟩ := e1
    have sT := same_new hT (.tup [x, V.bl b])
    have s1 := sm.trans sT
    refine ⟨T0, _, rfl, SqT.of upd_same, rfl, _, _, rfl, _, [], rfl, rfl, ?_⟩
    cases b with
    | true => exact ⟨.bl true, rfl, true, rfl, iteF ⟨⟨_, _, rfl⟩, s1, (Fst.drop he).symm.trans e⟩⟩
    | false =>
      refine ⟨.bl false, rfl, false, rfl, iteT ⟨.str wd, rfl, x, rfl, by show 2 ≤ sizeLine; decide, fun l2 hl => ?_⟩⟩
      rw [← e, Fst.at he] at q
      exact q _ l2 (s1.trans (same_new hl _)) upd_same
  · obtain ⟨⟨y4, y5, rfl⟩, sm, e⟩ := hI
    rw [List.length_map, List.drop_length] at e
    refine ⟨.bl true, rfl, by show 2 ≤ sizeLine; decide, fun l2 hl => ?_⟩
    rw [← e] at q
    exact q _ l2 (sm.trans (same_new hl _)) upd_same
end
end Rw
namespace Rw
open PySem PySem.Spec PyProof.Rows L2
/-! ### lists of the very same things -/
def SameV (x y : V) : Prop := (x = y ∧ flatB x = true) ∨ ∃ a, x = .ref a ∧ y = .ref a
def EqL1 (K : PySem.W.Frag) (H : Hp) (x y : V) : Prop := SameV x y ∨ ∃ a b xs ys, x = .ref a ∧ y = .ref b ∧ SqL K H a xs ∧ SqL K H b ys ∧ Paired SameV xs ys
theorem paired_at {P : Program} {w : World} {A : Around} {s : Shared} {F : V → V → Prop} (ih : ∀ x y v u, F x y → RelV x v → RelV y u → SeqAt.EqAt A s v u true) {xs ys : List V} (hp : Paired F xs ys) :
    ∀ {us ws : List Value}, Vals xs us → Vals ys ws → ∀ j (h1 : j < us.length) (h2 : j < ws.length), SeqAt.EqAt A s us[j] ws[j] true := by
  induction hp with
  | nil =>
    intro us ws r1 r2 j h1 h2
    cases r1
    exact absurd h1 (Nat.not_lt_zero j)
  | cons h _ k =>
    intro us ws r1 r2 j h1 h2
    cases r1 with
    | cons a1 b1 =>
      cases r2 with
      | cons a2 b2 =>
        cases j with
        | zero => exact ih _ _ _ _ h a1 a2
        | succ j => exact k b1 b2 j (Nat.lt_of_succ_lt_succ h1) (Nat.lt_of_succ_lt_succ h2)
theorem sameV_at {A : Around} {s : Shared} {x y : V} {v u : Value} (h : SameV x y) (r1 : RelV x v) (r2 : RelV y u) : SeqAt.EqAt A s v u true := by
  rcases h with ⟨rfl, f⟩ | ⟨a, rfl, rfl⟩
  · exact eqAt_same r1 r2 f
  · cases (show v = Value.ref a from r1)
    cases (show u = Value.ref a from r2)
    exact SeqAt.EqAt.same _
section
variable {X : Cx}
def rNeI (K : PySem.W.Frag) : R2 := fun x y H Q => ∃ a b xs ys, x = .ref a ∧ y = .ref b ∧ SqL K H a xs ∧ SqL K H b ys ∧ Paired (EqL1 K H) xs ys ∧ Q (.bl false) H
theorem op_neI (hu : X.A.units + 64 < cLine) : OpR X (compareOp .NotEq) (rNeI X.K) := by
  intro pins s σ H x y v u Q I rx ry h
  obtain ⟨a, b, xs, ys, rfl, rfl, ha, hb, hp, q⟩ := h
  cases (show v = Value.ref a from rx)
  cases (show u = Value.ref b from ry)
  obtain ⟨us, r1, p1, _⟩ := I.list ha
  obtain ⟨ws, r2, p2, _⟩ := I.list hb
  have hsz : us.toArray.size = ws.toArray.size := by
    rw [List.size_toArray, List.size_toArray, ← r1.length, ← r2.length]
    exact Paired.length hp
  have hu1 : X.A.in1.units < cLine := by show X.A.units + 1 < cLine; omega
  have hu2 : X.A.in1.in1.units < cLine := by show X.A.units + 1 + 1 < cLine; omega
  have one : ∀ x y v u, EqL1 X.K H x y → RelV x v → RelV y u → SeqAt.EqAt X.A.in1 s v u true := fun x y v u h rx ry => by
    rcases h with h | ⟨a, b, xs, ys, rfl, rfl, ha, hb, hp⟩
    · exact sameV_at h rx ry
    · cases (show v = Value.ref a from rx)
      cases (show u = Value.ref b from ry)
      by_cases e : a = b
      · subst e
        exact SeqAt.EqAt.same _
      · obtain ⟨us, r1, p1, _⟩ := I.list ha
        obtain ⟨ws, r2, p2, _⟩ := I.list hb
        have hsz : us.toArray.size = ws.toArray.size := by
          rw [List.size_toArray, List.size_toArray, ← r1.length, ← r2.length]
          exact Paired.length hp
        refine SeqAt.EqAt.of_refs e ?_
        have := SeqAt.RcAt.lists (A := X.A.in1) (e := fun _ => true) p1.isList p2.isList hsz hu1 (fun j h1 h2 => by
          have k := paired_at (P := X.prog) (w := X.w) (A := X.A.in1.in1) (s := s) (fun x y v u h r1 r2 => sameV_at h r1 r2) hp r1 r2 j (by simpa using h1) (by simpa using h2)
          simpa using k)
        rw [show ((List.range us.toArray.size).all fun _ => true) = true from List.all_eq_true.mpr fun _ _ => rfl] at this
        exact this
  have := SeqAt.RcNeAt.lists (A := X.A) (e := fun _ => true) p1.isList p2.isList hsz (by omega) (fun j h1 h2 => by
    have k := paired_at (P := X.prog) (w := X.w) (A := X.A.in1) (s := s) one hp r1 r2 j (by simpa using h1) (by simpa using h2)
    simpa using k)
  rw [show ((List.range us.toArray.size).all fun _ => true) = true from List.all_eq_true.mpr fun _ _ => rfl] at this
  exact this X.prog X.w _ _ ⟨.bl false, H, I, rfl, q⟩
end
def boolS (b : Bool) : Str := if b then PySem.Str.ofString "True" else PySem.Str.ofString "False"
theorem call_str_bl {X : Cx} : CallR X (.type "str") (fun xs H Q => ∃ b, xs = [.bl b] ∧ Q (.str (boolS b)) H) := by
  intro pins s σ H xs us Q I r ⟨b, e, q⟩
  subst e
  obtain ⟨u, rfl, ru⟩ := vals1 r
  obtain rfl : u = Value.bool b := ru
  exact P.str_of_bool ⟨.str (boolS b), H, I.tok _, ⟨_, rfl⟩, q⟩
end Rw
namespace Rw
open PySem PySem.Spec PyProof.Rows L2
/-! ### _law_right -/
section
variable {X : Cx}
def rEqI (K : PySem.W.Frag) : R2 := fun x y H Q => ∃ a b xs ys, x = .ref a ∧ y = .ref b ∧ SqL K H a xs ∧ SqL K H b ys ∧ Paired SameV xs ys ∧ Q (.bl true) H
theorem op_eqI (hu : X.A.units + 64 < cLine) : OpR X (compareOp .Eq) (rEqI X.K) := by
  intro pins s σ H x y v u Q I rx ry h
  obtain ⟨a, b, xs, ys, rfl, rfl, ha, hb, hp, q⟩ := h
  cases (show v = Value.ref a from rx)
  cases (show u = Value.ref b from ry)
  obtain ⟨us, r1, p1, _⟩ := I.list ha
  obtain ⟨ws, r2, p2, _⟩ := I.list hb
  have hsz : us.toArray.size = ws.toArray.size := by
    rw [List.size_toArray, List.size_toArray, ← r1.length, ← r2.length]
    exact Paired.length hp
  have := SeqAt.RcAt.lists (A := X.A) (e := fun _ => true) p1.isList p2.isList hsz (by omega) (fun j h1 h2 => by
    have k := paired_at (P := X.prog) (w := X.w) (A := X.A.in1) (s := s) (fun x y v u h r1 r2 => sameV_at h r1 r2) hp r1 r2 j (by simpa using h1) (by simpa using h2)
    simpa using k)
  rw [show ((List.range us.toArray.size).all fun _ => true) = true from List.all_eq_true.mpr fun _ _ => rfl] at this
  exact this X.prog X.w _ _ ⟨.bl true, H, I, rfl, q⟩
end
/-- a value that is equal to itself at a look -/
def FlV (x : V) : Prop := flatB x = true ∨ ∃ a, x = .ref a
theorem FlV.same {x : V} (h : FlV x) : SameV x x := h.elim (fun f => .inl ⟨rfl, f⟩) fun ⟨a, e⟩ => .inr ⟨a, e, e⟩
theorem Fst.fl {w : Str} : ∀ {l : List (V × Bool)}, (∀ e ∈ l, FlV e.1) → FlV (Fst w l).2
  | [], _ => .inl rfl
  | (_, true) :: r, h => Fst.fl (l := r) fun e he => h e (List.mem_cons_of_mem _ he)
  | (x, false) :: _, h => h (x, false) (List.mem_cons_self ..)
theorem Wv.fl {K : PySem.W.Frag} {H : Hp} {x : V} {d : PyData} (h : Wv K H x d) : FlV x := by
  rcases h with ⟨h, _⟩ | ⟨_, a, rfl, _⟩
  · cases h with
    | non => exact .inl rfl
    | bl => exact .inl rfl
    | int => exact .inl rfl
    | str => exact .inl rfl
    | lst _ _ => exact .inr ⟨_, rfl⟩
    | tup _ _ => exact .inr ⟨_, rfl⟩
  · exact .inr ⟨a, rfl⟩
def okS : PyData → Bool
  | .str z => decide (z.cps.size ≤ 10000)
  | _ => true
theorem Wv.nm {K : PySem.W.Frag} {H : Hp} {x : V} {d : PyData} (h : Wv K H x d) (o : okS d = true) : NmV K H x (nameD d) := by
  have ty := h.ty
  cases d with
  | none => exact .inr ⟨⟨_, ty, kit_ty (by decide +kernel)⟩, rfl⟩
  | bool b => exact .inr ⟨⟨_, ty, kit_ty (show kitB "bool" "str" = some false by decide +kernel)⟩, rfl⟩
  | int i => exact .inr ⟨⟨_, ty, kit_ty (show kitB "int" "str" = some false by decide +kernel)⟩, rfl⟩
  | list l => exact .inr ⟨⟨_, ty, kit_ty (show kitB "list" "str" = some false by decide +kernel)⟩, rfl⟩
  | dict l => exact .inr ⟨⟨_, ty, kit_ty (show kitB "dict" "str" = some false by decide +kernel)⟩, rfl⟩
  | tuple ds => exact .inr ⟨⟨_, ty, kit_ty (show kitB "tuple" "str" = some false by decide +kernel)⟩, rfl⟩
  | str z =>
    rcases h with ⟨h, _⟩ | ⟨e, _⟩
    · have o' : decide (z.cps.size ≤ 10000) = true := o
      exact .inl ⟨_, h, (show oddN (.str z) from (show z.cps.size ≤ 10000 from of_decide_eq_true o')), rfl⟩
    · cases e
theorem Wv.tyB {K : PySem.W.Frag} {H : Hp} {x : V} {d : PyData} (h : Wv K H x d) : TyB K H x := ⟨d, h.ty⟩
theorem Bv.tyB {K : PySem.W.Frag} {H : Hp} {x : V} {b : Bool} (h : Bv K H x b) : TyB K H x := by
  obtain ⟨_, _, t, ht, rfl | rfl⟩ := h
  · exact ⟨.tuple [], ht⟩
  · exact ⟨.list [], ht⟩
theorem Bv.fl {K : PySem.W.Frag} {H : Hp} {x : V} {b : Bool} (h : Bv K H x b) : FlV x := .inr h.2.1
theorem ne_TL {K : PySem.W.Frag} {tA tB : TE} {σ : L2.St} {H : Hp} {Qb : Bool → Hp → Prop} {s : Str} {x : V} (hx : FlV x) (hA : ∀ Q, TL Q s x H → tA σ H Q) (hB : ∀ H1 Q, Same H H1 → TL Q s x H1 → tB σ H1 Q) (q : ∀ H2, Same H H2 → Qb false H2) : tTest (tOp (rNeI K) tA tB) σ H Qb :=
  hA _ fun H1 l1 s1 h1 => hB H1 _ s1 fun H2 l2 s2 h2 => ⟨l1, l2, _, _, rfl, rfl, SqL.of (s2 _ _ h1), SqL.of h2, .cons (.inl (.inl ⟨rfl, rfl⟩)) (.cons (.inl hx.same) .nil), false, rfl, q H2 (s1.trans s2)⟩
theorem eq_TL {K : PySem.W.Frag} {tA tB : TE} {σ : L2.St} {H : Hp} {Q' : VK} {s : Str} {x : V} (hx : FlV x) (hA : ∀ Q, TL Q s x H → tA σ H Q) (hB : ∀ H1 Q, Same H H1 → TL Q s x H1 → tB σ H1 Q) (q : ∀ H2, Same H H2 → Q' (.bl true) H2) : tOp (rEqI K) tA tB σ H Q' :=
  hA _ fun H1 l1 s1 h1 => hB H1 _ s1 fun H2 l2 s2 h2 => ⟨l1, l2, _, _, rfl, rfl, SqL.of (s2 _ _ h1), SqL.of h2, .cons (.inl ⟨rfl, rfl⟩) (.cons hx.same .nil), q H2 (s1.trans s2)⟩
theorem if_i {tt : TT} {t u : TS} {D : Ends} {σ : L2.St} {H : Hp} (h : tt σ H fun c H1 => if c = true then t { D with nx := u D } σ H1 else u D σ H1) : tSeq (tIfS tt t tNext) u D σ H := h
theorem or_i {ta tb : TT} {σ : L2.St} {H : Hp} {Q : Bool → Hp → Prop} (h : ta σ H fun c H1 => if c = true then Q true H1 else tb σ H1 Q) : tOr ta tb σ H Q := h
theorem ret_i {t : TE} {D : Ends} {σ : L2.St} {H : Hp} (h : t σ H D.rt) : tRet t D σ H := h
def wordK : List PyData := [.str "a", .str "not", .str "A", .none, .tuple [.str "a"], .list [.str "a"], .str "eightlet", .str "ninesigns", .str "", .str "a1", .str "a_b", .str "1", .str "aB", .str "{", .str "a\n"]
theorem wordK_ok : ∀ d ∈ wordK, okS d = true := by decide +kernel
abbrev sRight : Stmt := topS 38
abbrev nRight : List Str := ["purse", "one", "two", "three", "item", "checks", "a", "b", "c", "word", "k", "x"]
theorem scRight : FnScope nRight ["purse"] (defScope sRight) := ⟨rfl, rfl, rfl, by decide +kernel, rfl, by decide +kernel, by decide +kernel⟩
section
variable {P : Program} {w : World} {K : PySem.W.Frag} {mg : Str → Option Value} {base : Heap} {f : Addr} {fd : FuncData} {k : Nat}
def spLawRight : Sp := fun vs H Q _ => ∃ (p : Addr) (c : Int), vs = [.ref p] ∧ Pur H p c ∧ c ≤ 800000 ∧ ∀ H', Bar p H H' → Pur H' p (c + 100) → Q (.bl true) H'
theorem ok_lawRight {C CR CP CW CN f1 f2 f3 f4 f5 f6 f7 f8 f9 f10 f11 : Addr} {fd1 fd2 fd3 fd4 fd5 fd6 fd7 fd8 fd9 fd10 fd11 : FuncData} {g2 g7 : List Value → List Value → List Value} (F : Fun K "_law_right" "_law_right" sRight f fd) (T : Bl mg)
    (G1 : FnOk P w K mg base CX0 k f1 fd1 ["purse"] (spLawBent K)) (b1 : Binds K fd1 ["purse"] []) (k1 : PySem.W.keepIn K (.ref f1) = true) (m1 : mg "_law_bent" = some (.ref f1))
    (G2 : FnOk P w K mg base CX0 k f2 fd2 ["thing"] (spIsRuleX K)) (b2 : Binds K fd2 ["thing"] []) (k2 : PySem.W.keepIn K (.ref f2) = true) (m2 : mg "is_rule" = some (.ref f2)) (kb2 : KBn K fd2 ["thing"] 0 ["thing"] g2 (fun _ zs => zs))
    (G3 : FnOk P w K mg base CX0 k f3 fd3 ["item"] (spIsRuleX K)) (b3 : Binds K fd3 ["item"] []) (k3 : PySem.W.keepIn K (.ref f3) = true) (m3 : mg "_law_is_rule" = some (.ref f3))
    (G4 : FnOk P w K mg base CX0 k f4 fd4 ["way", "one", "two", "three"] (spLawAsked K C CR CP CW CN)) (b4 : Binds K fd4 ["way", "one", "two", "three"] []) (k4 : PySem.W.keepIn K (.ref f4) = true) (m4 : mg "_law_asked" = some (.ref f4))
    (G5 : FnOk P w K mg base CX0 k f5 fd5 ["word", "things", "checks", "good"] (spLawFirst K)) (b5 : Binds K fd5 ["word", "things", "checks", "good"] []) (k5 : PySem.W.keepIn K (.ref f5) = true) (m5 : mg "_law_first" = some (.ref f5))
    (G6 : FnOk P w K mg base CX0 k f6 fd6 ["purse"] (spLawWorld K)) (b6 : Binds K fd6 ["purse"] []) (k6 : PySem.W.keepIn K (.ref f6) = true) (m6 : mg "_law_world" = some (.ref f6))
    (G7 : FnOk P w K mg base CX0 k f7 fd7 ["thing"] (spIsWorldX K)) (b7 : Binds K fd7 ["thing"] []) (k7 : PySem.W.keepIn K (.ref f7) = true) (m7 : mg "is_world" = some (.ref f7)) (kb7 : KBn K fd7 ["thing"] 0 ["thing"] g7 (fun _ zs => zs))
    (G8 : FnOk P w K mg base CX0 k f8 fd8 ["item"] (spIsWorldX K)) (b8 : Binds K fd8 ["item"] []) (k8 : PySem.W.keepIn K (.ref f8) = true) (m8 : mg "_law_is_world" = some (.ref f8))
    (G9 : FnOk P w K mg base CX0 k f9 fd9 ["item"] (spAreX K)) (b9 : Binds K fd9 ["item"] []) (k9 : PySem.W.keepIn K (.ref f9) = true) (m9 : mg "_law_are_names" = some (.ref f9))
    (G10 : FnOk P w K mg base CX0 k f10 fd10 ["purse", "out_of"] spLawDraw) (b10 : Binds K fd10 ["purse", "out_of"] []) (k10 : PySem.W.keepIn K (.ref f10) = true) (m10 : mg "_law_draw" = some (.ref f10))
    (G11 : FnOk P w K mg base CX0 k f11 fd11 ["item"] (spIsNameX K)) (b11 : Binds K fd11 ["item"] []) (k11 : PySem.W.keepIn K (.ref f11) = true) (m11 : mg "_law_is_name" = some (.ref f11)) :
    FnOk P w K mg base CX0 (k + 1) f fd ["purse"] spLawRight := by
  refine F.ok scRight (fun vs H Q E h => let ⟨p, c, e, _⟩ := h; by rw [e]; rfl) (fun cdv A outer s H vs Q E hr h => ?_)
  obtain ⟨p, c, rfl, hP, hc, q⟩ := h
  refine ⟨_, (pss_cons (ps_asg (pe_lc (own := [("k", 10)]) (g := gName 10)  (by rfl) scRight.nd (pi_range1 rfl T.range (pa_cons pe_int pa_nil)) (blkOk_by (N := nRight) (sc := defScope sRight) (by decide +kernel)) (fun _ _ _ _ _ => (pg_name (i := 10) scRight.nd rfl (Or.inl rfl))) (fun _ _ _ _ _ => pts_nil) (fun _ _ _ _ _ => (pe_call G1 hr (by rfl) m1 k1 b1 .nil pass0 (pa_cons (pv 0) pa_nil)))) (pg_lst (by rfl) (pgs_cons (pg_name (i := 1) scRight.nd rfl (.inl rfl)) (pgs_cons (pg_name (i := 2) scRight.nd rfl (.inl rfl)) (pgs_cons (pg_name (i := 3) scRight.nd rfl (.inl rfl)) pgs_nil))))) (pss_cons (ps_for PassesOwn.never rfl (pi_tup (pe_tup (pa_cons (pv 1) (pa_cons (pv 2) (pa_cons (pv 3) (pa_cons (pe_lst (pa_cons (pv 1) pa_nil)) (pa_cons pe_non (pa_cons (pe_tup pa_nil) pa_nil)))))))) (pg_name (i := 4) scRight.nd rfl (.inl rfl)) (pss_one (ps_if (PW.pt (pw_or (pt_cmpR  op_ne (pe_callTy (T := "str") call_str_bl (by rfl) T.str (by decide +kernel) (pa_cons (pe_call G2 hr (by rfl) m2 k2 b2 .nil pass0 (pa_cons (pv 4) pa_nil)) pa_nil)) (pe_callTy (T := "str") call_str_bl (by rfl) T.str (by decide +kernel) (pa_cons (pe_call G3 hr (by rfl) m3 k3 b3 .nil pass0 (pa_cons (pv 4) pa_nil)) pa_nil)) (nomark _)) (pw_or1 (pt_cmpR  op_ne (pe_callK0 G2 hr (by rfl) m2 k2 kb2 pass0 (pk_cons (pv 4) pk_nil) (by rfl) (by rfl) (by decide) (by rfl) (by rfl)) (pe_call G2 hr (by rfl) m2 k2 b2 .nil pass0 (pa_cons (pv 4) pa_nil)) (nomark _))))) pss_never pss_nil))) (pss_cons (ps_set (i := 5) scRight.nd rfl (.inl rfl) (pe_lst (pa_cons (pe_call G3 hr (by rfl) m3 k3 b3 .nil pass0 (pa_cons (pv 1) pa_nil)) (pa_cons (pe_call G3 hr (by rfl) m3 k3 b3 .nil pass0 (pa_cons (pv 2) pa_nil)) (pa_cons (pe_call G3 hr (by rfl) m3 k3 b3 .nil pass0 (pa_cons (pv 3) pa_nil)) pa_nil))))) (pss_cons (ps_if (pt_cmpR (r := rNeI K) (op_neI hr.units) (pe_call G4 hr (by rfl) m4 k4 b4 .nil pass0 (pa_cons pe_int (pa_cons (pv 1) (pa_cons (pv 2) (pa_cons pe_non pa_nil))))) (pe_call G5 hr (by rfl) m5 k5 b5 .nil pass0 (pa_cons pe_str (pa_cons (pe_lst (pa_cons pe_int (pa_cons pe_int pa_nil))) (pa_cons (pv 5) (pa_cons pe_bl pa_nil))))) (nomark _)) pss_never pss_nil) (pss_cons (ps_if (pt_cmpR (r := rNeI K) (op_neI hr.units) (pe_call G4 hr (by rfl) m4 k4 b4 .nil pass0 (pa_cons pe_int (pa_cons (pv 1) (pa_cons (pv 2) (pa_cons (pv 3) pa_nil))))) (pe_call G5 hr (by rfl) m5 k5 b5 .nil pass0 (pa_cons pe_str (pa_cons (pe_lst (pa_cons pe_int (pa_cons pe_int (pa_cons pe_int pa_nil)))) (pa_cons (pv 5) (pa_cons pe_bl pa_nil))))) (nomark _)) pss_never pss_nil) (pss_cons (ps_asg (pe_lc (own := [("k", 10)]) (g := gName 10)  (by rfl) scRight.nd (pi_range1 rfl T.range (pa_cons pe_int pa_nil)) (blkOk_by (N := nRight) (sc := defScope sRight) (by decide +kernel)) (fun _ _ _ _ _ => (pg_name (i := 10) scRight.nd rfl (Or.inl rfl))) (fun _ _ _ _ _ => pts_nil) (fun _ _ _ _ _ => (pe_call G6 hr (by rfl) m6 k6 b6 .nil pass0 (pa_cons (pv 0) pa_nil)))) (pg_lst (by rfl) (pgs_cons (pg_name (i := 6) scRight.nd rfl (.inl rfl)) (pgs_cons (pg_name (i := 7) scRight.nd rfl (.inl rfl)) (pgs_cons (pg_name (i := 8) scRight.nd rfl (.inl rfl)) pgs_nil))))) (pss_cons (ps_if (PW.pt (pw_or (pt_cmpR  op_ne (pe_callTy (T := "str") call_str_bl (by rfl) T.str (by decide +kernel) (pa_cons (pe_call G7 hr (by rfl) m7 k7 b7 .nil pass0 (pa_cons (pv 6) pa_nil)) pa_nil)) (pe_callTy (T := "str") call_str_bl (by rfl) T.str (by decide +kernel) (pa_cons (pe_call G8 hr (by rfl) m8 k8 b8 .nil pass0 (pa_cons (pv 6) pa_nil)) pa_nil)) (nomark _)) (pw_or1 (pt_cmpR  op_ne (pe_callK0 G7 hr (by rfl) m7 k7 kb7 pass0 (pk_cons (pv 6) pk_nil) (by rfl) (by rfl) (by decide) (by rfl) (by rfl)) (pe_call G7 hr (by rfl) m7 k7 b7 .nil pass0 (pa_cons (pv 6) pa_nil)) (nomark _))))) pss_never pss_nil) (pss_cons (ps_if (pt_cmpR (r := rNeI K) (op_neI hr.units) (pe_call G4 hr (by rfl) m4 k4 b4 .nil pass0 (pa_cons pe_int (pa_cons (pv 6) (pa_cons pe_non (pa_cons pe_non pa_nil))))) (pe_call G5 hr (by rfl) m5 k5 b5 .nil pass0 (pa_cons pe_str (pa_cons (pe_lst (pa_cons (pv 6) pa_nil)) (pa_cons (pe_lst (pa_cons (pe_call G8 hr (by rfl) m8 k8 b8 .nil pass0 (pa_cons (pv 6) pa_nil)) pa_nil)) (pa_cons pe_bl pa_nil))))) (nomark _)) pss_never pss_nil) (pss_cons (ps_if (PW.pt (pw_or (pt_cmpR (r := rNeI K) (op_neI hr.units) (pe_call G4 hr (by rfl) m4 k4 b4 .nil pass0 (pa_cons pe_int (pa_cons (pv 1) (pa_cons pe_non (pa_cons pe_non pa_nil))))) (pe_lst (pa_cons pe_str (pa_cons (pv 1) pa_nil))) (nomark _)) (pw_or1 (pt_cmpR (r := rNeI K) (op_neI hr.units) (pe_call G4 hr (by rfl) m4 k4 b4 .nil pass0 (pa_cons pe_int (pa_cons (pv 6) (pa_cons pe_non (pa_cons pe_non pa_nil))))) (pe_lst (pa_cons pe_str (pa_cons (pv 6) pa_nil))) (nomark _))))) pss_never pss_nil) (pss_cons (ps_if (pt_cmpR (r := rNeI K) (op_neI hr.units) (pe_call G4 hr (by rfl) m4 k4 b4 .nil pass0 (pa_cons pe_int (pa_cons (pv 6) (pa_cons (pv 7) (pa_cons (pv 8) pa_nil))))) (pe_call G5 hr (by rfl) m5 k5 b5 .nil pass0 (pa_cons pe_str (pa_cons (pe_lst (pa_cons (pv 6) (pa_cons (pv 8) (pa_cons (pv 7) pa_nil)))) (pa_cons (pe_lc (own := [("x", 11)]) (g := gName 11)  (by rfl) scRight.nd (pi_tup (pe_tup (pa_cons (pv 6) (pa_cons (pv 8) (pa_cons (pv 7) pa_nil))))) (blkOk_by (N := nRight) (sc := defScope sRight) (by decide +kernel)) (fun _ _ _ _ _ => (pg_name (i := 11) scRight.nd rfl (Or.inl rfl))) (fun _ _ _ _ _ => pts_nil) (fun _ _ _ _ _ => (pe_call G9 hr (by rfl) m9 k9 b9 .nil pass0 (pa_cons (pv 11) pa_nil)))) (pa_cons pe_bl pa_nil))))) (nomark _)) pss_never pss_nil) (pss_cons (ps_if (pt_cmpR (r := rNeI K) (op_neI hr.units) (pe_call G4 hr (by rfl) m4 k4 b4 .nil pass0 (pa_cons pe_int (pa_cons (pv 6) (pa_cons (pv 7) (pa_cons pe_non pa_nil))))) (pe_call G5 hr (by rfl) m5 k5 b5 .nil pass0 (pa_cons pe_str (pa_cons (pe_lst (pa_cons (pv 6) (pa_cons (pv 7) pa_nil))) (pa_cons (pe_lst (pa_cons (pe_call G9 hr (by rfl) m9 k9 b9 .nil pass0 (pa_cons (pv 6) pa_nil)) (pa_cons (pe_call G9 hr (by rfl) m9 k9 b9 .nil pass0 (pa_cons (pv 7) pa_nil)) pa_nil))) (pa_cons pe_bl pa_nil))))) (nomark _)) pss_never pss_nil) (pss_cons (ps_if (pt_cmpR (r := rNeI K) (op_neI hr.units) (pe_call G4 hr (by rfl) m4 k4 b4 .nil pass0 (pa_cons pe_int (pa_cons (pv 6) (pa_cons (pv 7) (pa_cons pe_non pa_nil))))) (pe_call G5 hr (by rfl) m5 k5 b5 .nil pass0 (pa_cons pe_str (pa_cons (pe_lst (pa_cons (pv 6) (pa_cons (pv 7) pa_nil))) (pa_cons (pe_lst (pa_cons (pe_call G9 hr (by rfl) m9 k9 b9 .nil pass0 (pa_cons (pv 6) pa_nil)) (pa_cons (pe_call G9 hr (by rfl) m9 k9 b9 .nil pass0 (pa_cons (pv 7) pa_nil)) pa_nil))) (pa_cons pe_bl pa_nil))))) (nomark _)) pss_never pss_nil) (pss_cons (ps_set (i := 9) scRight.nd rfl (.inl rfl) (pe_lst (pa_cons pe_str (pa_cons pe_str (pa_cons pe_str (pa_cons pe_non (pa_cons (pe_tup (pa_cons pe_str pa_nil)) (pa_cons (pe_lst (pa_cons pe_str pa_nil)) (pa_cons pe_str (pa_cons pe_str (pa_cons pe_str (pa_cons pe_str (pa_cons pe_str (pa_cons pe_str (pa_cons pe_str (pa_cons pe_str (pa_cons pe_str pa_nil))))))))))))))))) (pss_cons (ps_set (i := 9) scRight.nd rfl (.inl rfl) (pe_ix (r := rIxL K) ix_list (pv 9) (pe_call G10 hr (by rfl) m10 k10 b10 .nil pass0 (pa_cons (pv 0) (pa_cons pe_int pa_nil))) (fun _ _ => rfl))) (pss_cons (ps_set (i := 5) scRight.nd rfl (.inl rfl) (pe_lst (pa_cons (pe_call G11 hr (by rfl) m11 k11 b11 .nil pass0 (pa_cons (pv 9) pa_nil)) (pa_cons (pe_call G9 hr (by rfl) m9 k9 b9 .nil pass0 (pa_cons (pv 8) pa_nil)) (pa_cons (pe_call G9 hr (by rfl) m9 k9 b9 .nil pass0 (pa_cons (pv 7) pa_nil)) pa_nil))))) (pss_one (ps_ret (pe_cmpR (r := rEqI K) (op_eqI hr.units) (pe_call G4 hr (by rfl) m4 k4 b4 .nil pass0 (pa_cons pe_int (pa_cons (pv 9) (pa_cons (pv 7) (pa_cons (pv 8) pa_nil))))) (pe_call G5 hr (by rfl) m5 k5 b5 .nil pass0 (pa_cons pe_str (pa_cons (pe_lst (pa_cons (pv 9) (pa_cons (pv 8) (pa_cons (pv 7) pa_nil)))) (pa_cons (pv 5) (pa_cons pe_bl pa_nil))))) (nomark _))))))))))))))))))), ?_⟩
  obtain ⟨o, hpo⟩ : ∃ o, H p = some o := by
    obtain ⟨a, b, e, h1, _⟩ := hP
    exact ⟨_, h1⟩
  refine ⟨3, rfl, by decide, by decide, fun D1 hD => ?_⟩
  have nD : D1 ≠ p := fun z => by
    rw [z, hpo] at hD
    cases hD
  refine lc_range (fun i H1 => Bar p H H1 ∧ Pur H1 p (c + 10 * i) ∧ ∃ (zs : List V) (js : List Bool), H1 D1 = some (.lst zs) ∧ zs.length = i ∧ js.length = i ∧ ∀ H'', (∀ b u, H b = none → b ≠ D1 → H1 b = some u → H'' b = some u) → ∀ (j : Nat) z b, zs[j]? = some z → js[j]? = some b → Bv K H'' z b) ⟨.same (same_new hD _), (hP.same (same_new hD _)).le (by omega), [], [], upd_same, rfl, rfl, (fun _ _ j z b e => by simp at e)⟩ (fun i H1 il hI => ?_) (fun H1 hI => ?_)
  · obtain ⟨bar, pu, zs, js, hd, lz, lj, hw⟩ := hI
    have i3 : i < 3 := il
    refine ⟨rfl, .ref p, rfl, p, _, rfl, pu, by omega, fun H2 x b bar2 pu2 hb => ?_⟩
    have hd2 := bar2 D1 _ nD hd
    refine ⟨zs, hd2, small_line (by omega), bar_put (bar.trans bar2) hD, (pur_put pu2 nD.symm).le (by omega), zs ++ [x], js ++ [b], upd_same, by rw [List.length_append, lz]; rfl, by rw [List.length_append, lj]; rfl, fun H'' f j z d hz hd' => ?_⟩
    obtain ⟨o1, hp1⟩ : ∃ o, H1 p = some o := by
      obtain ⟨a, b, e, h1, _⟩ := pu
      exact ⟨_, h1⟩
    by_cases hj : j < zs.length
    · rw [List.getElem?_append_left hj] at hz
      rw [List.getElem?_append_left (by omega)] at hd'
      refine hw H'' (fun b u n nb e => f b u n nb ?_) j z d hz hd'
      rw [upd_ne nb]
      exact bar2 b u (fun z => by
        rw [z, hpo] at n
        cases n) e
    · have ej : j = zs.length := by
        have := (List.getElem?_eq_some_iff.mp hz).1
        rw [List.length_append] at this
        simp at this
        omega
      subst ej
      rw [List.getElem?_append_right (Nat.le_refl _), Nat.sub_self] at hz
      rw [lz, ← lj, List.getElem?_append_right (Nat.le_refl _), Nat.sub_self] at hd'
      obtain rfl : x = z := by simpa using hz
      obtain rfl : b = d := by simpa using hd'
      refine hb H'' fun b' u n e => ?_
      have nb : b' ≠ D1 := fun z => by
        rw [z, hd] at n
        cases n
      exact f b' u (grow_bar bar hp1 b' n) nb (by rw [upd_ne nb]; exact e)
  obtain ⟨barA, puA, zs, js, hd, lz, lj, hw⟩ := hI
  obtain ⟨x1, x2, x3, rfl⟩ : ∃ r1 r2 r3, zs = [r1, r2, r3] := by
    match zs, lz with
    | [r1, r2, r3], _ => exact ⟨r1, r2, r3, rfl⟩
  obtain ⟨e1, e2, e3, rfl⟩ : ∃ r1 r2 r3, js = [r1, r2, r3] := by
    match js, lj with
    | [r1, r2, r3], _ => exact ⟨r1, r2, r3, rfl⟩
  have wX : ∀ H'', Bar p H1 H'' → Bv K H'' x1 e1 ∧ Bv K H'' x2 e2 ∧ Bv K H'' x3 e3 := fun H'' bb =>
    have f := hw H'' fun b u n nb e => bb b u (fun z => by
      rw [z, hpo] at n
      cases n) e
    ⟨f 0 _ _ rfl rfl, f 1 _ _ rfl rfl, f 2 _ _ rfl rfl⟩
  clear hw
  refine ⟨D1, _, rfl, SqL.of hd, rfl, _, _, rfl, _, _, rfl, _, [], rfl, rfl, ?_⟩
  dsimp only
  have sHA : ∀ {H'}, Same H1 H' → Bar p H1 H' := fun s => .same s
  refine ⟨x1, rfl, x2, rfl, x3, rfl, x1, rfl, by show 1 ≤ sizeLine; decide, fun l1 hl1 => ?_⟩
  have t1 := same_new hl1 (.lst [x1])
  refine ⟨by show 0 ≤ sizeLine; decide, fun t0 ht0 => ?_⟩
  have t2 := same_new ht0 (.tup [])
  refine ⟨by show 6 ≤ sizeLine; decide, fun tt htt => ?_⟩
  have t3 := same_new htt (.tup [x1, x2, x3, .ref l1, .non, .ref t0])
  have s3 := t1.trans (t2.trans t3)
  have each : ∀ x ∈ [x1, x2, x3, .ref l1, .non, .ref t0], ∃ b, RuV K (upd (upd (upd H1 l1 (.lst [x1])) t0 (.tup [])) tt (.tup [x1, x2, x3, .ref l1, .non, .ref t0])) x b := fun x hx => by
    simp only [List.mem_cons, List.mem_nil_iff, or_false] at hx
    have g := wX _ (.same s3)
    rcases hx with rfl | rfl | rfl | rfl | rfl | rfl
    · exact ⟨_, g.1.1⟩
    · exact ⟨_, g.2.1.1⟩
    · exact ⟨_, g.2.2.1⟩
    · exact ⟨false, (bv_lst ((t2.trans t3) _ _ upd_same)).1⟩
    · exact ⟨false, .inr ⟨⟨_, tyx_dp (d := .none) .non, kit_ty (by decide +kernel)⟩, rfl⟩⟩
    · exact ⟨_, (bv_tup (xs := []) (ds := []) (t3 _ _ upd_same) True.intro (by decide)).1⟩
  have hT0 : SqT K (upd (upd (upd H1 l1 (.lst [x1])) t0 (.tup [])) tt (.tup [x1, x2, x3, .ref l1, .non, .ref t0])) tt [x1, x2, x3, .ref l1, .non, .ref t0] := SqT.of upd_same
  generalize upd (upd (upd H1 l1 (.lst [x1])) t0 (.tup [])) tt (.tup [x1, x2, x3, .ref l1, .non, .ref t0]) = H3 at s3 each hT0 ⊢
  refine ⟨tt, rfl, ⟨_, hT0⟩, for_tup (xs := [x1, x2, x3, .ref l1, .non, .ref t0]) (fun i σ H4 => (∃ y4, σ = [some (.ref p), some x1, some x2, some x3, y4, none, none, none, none, none, none, none]) ∧ Same H3 H4) ⟨⟨_, rfl⟩, fun _ _ e => e⟩ (fun i σ H4 _ hI => same_tup hI.2 hT0) (fun i x σ H4 hx hI => ?_) (fun σ H4 hI => ?_)⟩
  · obtain ⟨⟨y4, rfl⟩, sm⟩ := hI
    obtain ⟨b, hb⟩ := each x (List.mem_of_getElem? hx)
    refine ⟨x, rfl, x, b, rfl, hb.same sm, fun H5 s5 => ⟨b, rfl, x, rfl, x, b, rfl, hb.same (sm.trans s5), fun H6 s6 => ⟨b, rfl, rfl, false, by simp, iteF ?_⟩⟩⟩
    have s46 := sm.trans (s5.trans s6)
    refine ⟨x, rfl, rfl, x, b, rfl, hb.same s46, fun H7 s7 => ⟨x, rfl, x, b, rfl, hb.same (s46.trans s7), fun H8 s8 => ⟨rfl, false, by simp, iteF ⟨⟨_, rfl⟩, s46.trans (s7.trans s8)⟩⟩⟩⟩
  obtain ⟨⟨y4, rfl⟩, sm⟩ := hI
  have s4 := s3.trans sm
  have g4 := wX H4 (.same s4)
  refine ⟨x1, rfl, x1, e1, rfl, g4.1.1, fun H5 s5 => ?_⟩
  refine ⟨x2, rfl, x2, e2, rfl, g4.2.1.1.same s5, fun H6 s6 => ?_⟩
  refine ⟨x3, rfl, x3, e3, rfl, g4.2.2.1.same (s5.trans s6), fun H7 s7 => ?_⟩
  refine ⟨by show 3 ≤ sizeLine; decide, fun lc hlc => ?_⟩
  have sC := s4.trans (s5.trans (s6.trans (s7.trans (same_new hlc (.lst [.bl e1, .bl e2, .bl e3])))))
  have hlcC : (upd H7 lc (.lst [.bl e1, .bl e2, .bl e3])) lc = some (.lst [.bl e1, .bl e2, .bl e3]) := upd_same
  generalize upd H7 lc (.lst [.bl e1, .bl e2, .bl e3]) = HC at sC hlcC ⊢
  have gC := wX HC (.same sC)
  dsimp only [gName]
  refine if_i (ne_TL (K := K) (s := (Fst "rule" (Plc 1 [e1, e2])).1) (x := (Fst "rule" (Plc 1 [e1, e2])).2) (Fst.fl fun e he => ?_) (fun Q q => ?_) (fun H8 Q s8 q => ?_) fun HD sD => iteF ?_)
  · simp only [Plc, List.mem_cons, List.mem_nil_iff, or_false] at he
    rcases he with rfl | rfl <;> exact .inl rfl
  · exact ⟨x1, rfl, x2, rfl, 0, x1, x2, .non, rfl, [e1, e2], ⟨gC.1.1, gC.2.1.1, True.intro⟩, PRes.first q⟩
  · refine ⟨by show 2 ≤ sizeLine; decide, fun lt hlt => ?_⟩
    have sl := same_new hlt (.lst [.int 1, .int 2])
    exact ⟨.ref lc, rfl, "rule", lt, lc, Plc 1 [e1, e2], [.bl e3], rfl, SqL.of upd_same, SqL.of ((s8.trans sl) _ _ hlcC), q.same sl⟩
  have gD := wX HD (.same (sC.trans sD))
  refine if_i (ne_TL (K := K) (s := (Fst "rule" (Plc 0 [e1, e2, e3])).1) (x := (Fst "rule" (Plc 0 [e1, e2, e3])).2) (Fst.fl fun e he => ?_) (fun Q q => ?_) (fun H8 Q s8 q => ?_) fun HE sE => iteF ?_)
  · simp only [Plc, List.mem_cons, List.mem_nil_iff, or_false] at he
    rcases he with rfl | rfl | rfl <;> exact .inl rfl
  · exact ⟨x1, rfl, x2, rfl, x3, rfl, 1, x1, x2, x3, rfl, [e1, e2, e3], ⟨gD.1.1, gD.2.1.1, gD.2.2.1, True.intro⟩, PRes.first q⟩
  · refine ⟨by show 3 ≤ sizeLine; decide, fun lt hlt => ?_⟩
    have sl := same_new hlt (.lst [.int 0, .int 1, .int 2])
    exact ⟨.ref lc, rfl, "rule", lt, lc, Plc 0 [e1, e2, e3], [], rfl, SqL.of upd_same, SqL.of ((sD.trans (s8.trans sl)) _ _ hlcC), q.same sl⟩
  -- the drawn worlds
  have s1E := sC.trans (sD.trans sE)
  have puE : Pur HE p (c + 30) := puA.same s1E
  have barHE : Bar p H HE := barA.trans (.same s1E)
  obtain ⟨oE, hpoE⟩ : ∃ o, HE p = some o := by
    obtain ⟨a, b, e, h1, _⟩ := puE
    exact ⟨_, h1⟩
  have wXE : ∀ H'', Bar p HE H'' → Bv K H'' x1 e1 := fun H'' b => (wX H'' ((Bar.same s1E).trans b)).1
  refine ⟨3, rfl, by decide, by decide, fun D2 hD => ?_⟩
  have nD : D2 ≠ p := fun z => by
    rw [z, hpoE] at hD
    cases hD
  refine lc_range (fun i H1 => Bar p HE H1 ∧ Pur H1 p ((c + 30) + 10 * i) ∧ ∃ (zs : List V) (js : List PyData), H1 D2 = some (.lst zs) ∧ zs.length = i ∧ js.length = i ∧ ∀ H'', (∀ b u, HE b = none → b ≠ D2 → H1 b = some u → H'' b = some u) → ∀ (j : Nat) z b, zs[j]? = some z → js[j]? = some b → Wv K H'' z b) ⟨.same (same_new hD _), (puE.same (same_new hD _)).le (by omega), [], [], upd_same, rfl, rfl, (fun _ _ j z b e => by simp at e)⟩ (fun i H1 il hI => ?_) (fun H1 hI => ?_)
  · obtain ⟨bar, pu, zs, js, hd, lz, lj, hw⟩ := hI
    have i3 : i < 3 := il
    refine ⟨rfl, .ref p, rfl, p, _, rfl, pu, by omega, fun H2 x b bar2 pu2 hb => ?_⟩
    have hd2 := bar2 D2 _ nD hd
    refine ⟨zs, hd2, small_line (by omega), bar_put (bar.trans bar2) hD, (pur_put pu2 nD.symm).le (by omega), zs ++ [x], js ++ [b], upd_same, by rw [List.length_append, lz]; rfl, by rw [List.length_append, lj]; rfl, fun H'' f j z d hz hd' => ?_⟩
    obtain ⟨o1, hp1⟩ : ∃ o, H1 p = some o := by
      obtain ⟨a, b, e, h1, _⟩ := pu
      exact ⟨_, h1⟩
    by_cases hj : j < zs.length
    · rw [List.getElem?_append_left hj] at hz
      rw [List.getElem?_append_left (by omega)] at hd'
      refine hw H'' (fun b u n nb e => f b u n nb ?_) j z d hz hd'
      rw [upd_ne nb]
      exact bar2 b u (fun z => by
        rw [z, hpoE] at n
        cases n) e
    · have ej : j = zs.length := by
        have := (List.getElem?_eq_some_iff.mp hz).1
        rw [List.length_append] at this
        simp at this
        omega
      subst ej
      rw [List.getElem?_append_right (Nat.le_refl _), Nat.sub_self] at hz
      rw [lz, ← lj, List.getElem?_append_right (Nat.le_refl _), Nat.sub_self] at hd'
      obtain rfl : x = z := by simpa using hz
      obtain rfl : b = d := by simpa using hd'
      refine hb H'' fun b' u n e => ?_
      have nb : b' ≠ D2 := fun z => by
        rw [z, hd] at n
        cases n
      exact f b' u (grow_bar bar hp1 b' n) nb (by rw [upd_ne nb]; exact e)
  obtain ⟨barB, puB, zs, js, hd, lz, lj, hw⟩ := hI
  obtain ⟨y1, y2, y3, rfl⟩ : ∃ r1 r2 r3, zs = [r1, r2, r3] := by
    match zs, lz with
    | [r1, r2, r3], _ => exact ⟨r1, r2, r3, rfl⟩
  obtain ⟨d1, d2, d3, rfl⟩ : ∃ r1 r2 r3, js = [r1, r2, r3] := by
    match js, lj with
    | [r1, r2, r3], _ => exact ⟨r1, r2, r3, rfl⟩
  have wY : ∀ H'', Bar p H1 H'' → Wv K H'' y1 d1 ∧ Wv K H'' y2 d2 ∧ Wv K H'' y3 d3 := fun H'' bb =>
    have f := hw H'' fun b u n nb e => bb b u (fun z => by
      rw [z, hpoE] at n
      cases n) e
    ⟨f 0 _ _ rfl rfl, f 1 _ _ rfl rfl, f 2 _ _ rfl rfl⟩
  clear hw
  refine ⟨D2, _, rfl, SqL.of hd, rfl, _, _, rfl, _, _, rfl, _, [], rfl, rfl, ?_⟩
  dsimp only
  clear hd lz lj
  have g1 := wY H1 (.same fun _ _ e => e)
  refine ⟨y1, rfl, y1, worldD d1, rfl, g1.1.wl, fun H5 s5 => ⟨worldD d1, rfl, y1, rfl, y1, worldD d1, rfl, g1.1.wl.same s5, fun H6 s6 => ⟨worldD d1, rfl, rfl, false, by simp, iteF ?_⟩⟩⟩
  refine ⟨y1, rfl, rfl, y1, worldD d1, rfl, g1.1.wl.same (s5.trans s6), fun H7 s7 => ⟨y1, rfl, y1, worldD d1, rfl, g1.1.wl.same ((s5.trans s6).trans s7), fun H8 s8 => ⟨rfl, false, by simp, iteF ?_⟩⟩⟩
  have sF := (s5.trans s6).trans (s7.trans s8)
  have gF := wY H8 (.same sF)
  dsimp only [tNext]
  refine if_i (ne_TL (K := K) (s := (Fst "world" [(y1, worldD d1)]).1) (x := (Fst "world" [(y1, worldD d1)]).2) (Fst.fl fun e he => ?_) (fun Q q => ?_) (fun H9 Q s9 q => ?_) fun HG sG => iteF ?_)
  · simp only [List.mem_cons, List.mem_nil_iff, or_false] at he
    rcases he with rfl
    exact gF.1.fl
  · exact ⟨y1, rfl, 2, y1, .non, .non, rfl, worldD d1, gF.1.wl, ARes.firstW q⟩
  · refine ⟨y1, rfl, by show 1 ≤ sizeLine; decide, fun lt hlt => ?_⟩
    have sl := same_new hlt (.lst [y1])
    refine ⟨y1, rfl, y1, worldD d1, rfl, gF.1.wl.same (s9.trans sl), fun H' s' => ⟨by show 1 ≤ sizeLine; decide, fun lc2 hlc2 => ?_⟩⟩
    have sl2 := same_new hlc2 (.lst [.bl (worldD d1)])
    exact ⟨"world", lt, lc2, [(y1, worldD d1)], [], rfl, SqL.of ((s'.trans sl2) _ _ upd_same), SqL.of upd_same, q.same (sl.trans (s'.trans sl2))⟩
  have gG := wY HG (.same (sF.trans sG))
  have gX := wXE HG (barB.trans (.same (sF.trans sG)))
  refine if_i (or_i (ne_TL (K := K) (s := "program") (x := x1) gX.fl (fun Q q => ⟨x1, rfl, 3, x1, .non, .non, rfl, .inl ⟨gX.tyB, Err.program q⟩⟩) (fun H9 Q s9 q => ⟨x1, rfl, by show 2 ≤ sizeLine; decide, fun l hl => q _ l (same_new hl _) upd_same⟩) fun HI sI => iteF ?_))
  refine ne_TL (K := K) (s := "program") (x := y1) gG.1.fl (fun Q q => ⟨y1, rfl, 4, y1, .non, .non, rfl, .inl ⟨(gG.1.same sI).tyB, Err.program q⟩⟩) (fun H9 Q s9 q => ⟨y1, rfl, by show 2 ≤ sizeLine; decide, fun l hl => q _ l (same_new hl _) upd_same⟩) fun HJ sJ => iteF ?_
  have s1J := sF.trans (sG.trans (sI.trans sJ))
  have gJ := wY HJ (.same s1J)
  -- ways 5, 9, 6
  have nm3 : FlV (Fst "names" [(y1, arD d1), (y3, arD d3), (y2, arD d2)]).2 := Fst.fl fun e he => by
    simp only [List.mem_cons, List.mem_nil_iff, or_false] at he
    rcases he with rfl | rfl | rfl
    · exact gJ.1.fl
    · exact gJ.2.2.fl
    · exact gJ.2.1.fl
  have nm2 : FlV (Fst "names" [(y1, arD d1), (y2, arD d2)]).2 := Fst.fl fun e he => by
    simp only [List.mem_cons, List.mem_nil_iff, or_false] at he
    rcases he with rfl | rfl
    · exact gJ.1.fl
    · exact gJ.2.1.fl
  refine if_i (ne_TL (K := K) (s := (Fst "names" [(y1, arD d1), (y3, arD d3), (y2, arD d2)]).1) (x := (Fst "names" [(y1, arD d1), (y3, arD d3), (y2, arD d2)]).2) nm3 (fun Q q => ?_) (fun H9 Q s9 q => ?_) fun HL sL => iteF ?_)
  · exact ⟨y1, rfl, y2, rfl, y3, rfl, 5, y1, y2, y3, rfl, arD d1, arD d3, arD d2, gJ.1.ar, gJ.2.2.ar, gJ.2.1.ar, ARes.first q⟩
  · refine ⟨y1, rfl, y3, rfl, y2, rfl, by show 3 ≤ sizeLine; decide, fun lt hlt => ?_⟩
    have sl := same_new hlt (.lst [y1, y3, y2])
    have hltV : (upd H9 lt (.lst [y1, y3, y2])) lt = some (.lst [y1, y3, y2]) := upd_same
    generalize upd H9 lt (.lst [y1, y3, y2]) = HM at sl hltV ⊢
    refine ⟨y1, rfl, y3, rfl, y2, rfl, by show 3 ≤ sizeLine; decide, fun tt htt => ?_⟩
    have st := same_new htt (.tup [y1, y3, y2])
    have hT1 : SqT K (upd HM tt (.tup [y1, y3, y2])) tt [y1, y3, y2] := SqT.of upd_same
    generalize upd HM tt (.tup [y1, y3, y2]) = HN at st hT1 ⊢
    refine ⟨tt, rfl, ⟨_, hT1⟩, fun D hD => ?_⟩
    have sHN := s9.trans (sl.trans st)
    have gN := gJ.1.ar.same sHN
    have gN2 := gJ.2.1.ar.same sHN
    have gN3 := gJ.2.2.ar.same sHN
    refine lc_tup (xs := [y1, y3, y2]) (fun i H1 => Same HN H1 ∧ H1 D = some (.lst (([arD d1, arD d3, arD d2].take i).map V.bl))) ⟨same_new hD _, upd_same⟩ (fun i H1 _ hI => same_tup hI.1 hT1) (fun i x H1 hxi hI => ?_) (fun H1 hI => ?_)
    · obtain ⟨sm, hd⟩ := hI
      have il : i < 3 := (List.getElem?_eq_some_iff.mp hxi).1
      have hx : ∃ b, [arD d1, arD d3, arD d2][i]? = some b ∧ ArV K HN x b := by
        match i, il, hxi with
        | 0, _, e => exact ⟨_, rfl, (show y1 = x by simpa using e) ▸ gN⟩
        | 1, _, e => exact ⟨_, rfl, (show y3 = x by simpa using e) ▸ gN3⟩
        | 2, _, e => exact ⟨_, rfl, (show y2 = x by simpa using e) ▸ gN2⟩
      obtain ⟨b, hb, hxb⟩ := hx
      refine ⟨rfl, x, rfl, x, b, rfl, hxb.same sm, fun H2 s2 => ⟨_, s2 _ _ hd, small_line (by simp; omega), same_put (sm.trans s2) hD, ?_⟩⟩
      rw [take_snoc hb, List.map_append]
      exact upd_same
    · obtain ⟨sm, hd⟩ := hI
      exact ⟨"names", lt, D, [(y1, arD d1), (y3, arD d3), (y2, arD d2)], [], rfl, SqL.of ((st.trans sm) _ _ hltV), SqL.of hd, q.same (sl.trans (st.trans sm))⟩
  refine if_i (ne_TL (K := K) (s := (Fst "names" [(y1, arD d1), (y2, arD d2)]).1) (x := (Fst "names" [(y1, arD d1), (y2, arD d2)]).2) nm2 (fun Q q => ?_) (fun H9 Q s9 q => ?_) fun HO sO => iteF ?_)
  · exact ⟨y1, rfl, y2, rfl, 9, y1, y2, .non, rfl, arD d1, arD d2, gJ.1.ar.same sL, gJ.2.1.ar.same sL, ARes.first q⟩
  · refine ⟨y1, rfl, y2, rfl, by show 2 ≤ sizeLine; decide, fun lt hlt => ?_⟩
    have sl := same_new hlt (.lst [y1, y2])
    refine ⟨y1, rfl, y1, arD d1, rfl, gJ.1.ar.same (sL.trans (s9.trans sl)), fun Ha sa => ⟨y2, rfl, y2, arD d2, rfl, gJ.2.1.ar.same (sL.trans (s9.trans (sl.trans sa))), fun Hb sb => ⟨by show 2 ≤ sizeLine; decide, fun lc2 hlc2 => ?_⟩⟩⟩
    have s2' := same_new hlc2 (.lst [.bl (arD d1), .bl (arD d2)])
    exact ⟨"names", lt, lc2, [(y1, arD d1), (y2, arD d2)], [], rfl, SqL.of ((sa.trans (sb.trans s2')) _ _ upd_same), SqL.of upd_same, q.same (sl.trans (sa.trans (sb.trans s2')))⟩
  refine if_i (ne_TL (K := K) (s := (Fst "names" [(y1, arD d1), (y2, arD d2)]).1) (x := (Fst "names" [(y1, arD d1), (y2, arD d2)]).2) nm2 (fun Q q => ?_) (fun H9 Q s9 q => ?_) fun HR sR => iteF ?_)
  · exact ⟨y1, rfl, y2, rfl, 6, y1, y2, .non, rfl, arD d1, arD d2, gJ.1.ar.same (sL.trans sO), gJ.2.1.ar.same (sL.trans sO), ARes.first q⟩
  · refine ⟨y1, rfl, y2, rfl, by show 2 ≤ sizeLine; decide, fun lt hlt => ?_⟩
    have sl := same_new hlt (.lst [y1, y2])
    have sLO := sL.trans (sO.trans s9)
    refine ⟨y1, rfl, y1, arD d1, rfl, gJ.1.ar.same (sLO.trans sl), fun Ha sa => ⟨y2, rfl, y2, arD d2, rfl, gJ.2.1.ar.same (sLO.trans (sl.trans sa)), fun Hb sb => ⟨by show 2 ≤ sizeLine; decide, fun lc2 hlc2 => ?_⟩⟩⟩
    have s2' := same_new hlc2 (.lst [.bl (arD d1), .bl (arD d2)])
    exact ⟨"names", lt, lc2, [(y1, arD d1), (y2, arD d2)], [], rfl, SqL.of ((sa.trans (sb.trans s2')) _ _ upd_same), SqL.of upd_same, q.same (sl.trans (sa.trans (sb.trans s2')))⟩
  -- the word
  have s1R := s1J.trans (sL.trans (sO.trans sR))
  have barR : Bar p H HR := barHE.trans (barB.trans (.same s1R))
  have puR : Pur HR p (c + 60) := (puB.same s1R).le (by omega)
  refine first_FW (j := 9) (K := K) (ds := wordK) (lws_cons (lw_dat lit_str (by decide +kernel)) (lws_cons (lw_dat lit_str (by decide +kernel)) (lws_cons (lw_dat lit_str (by decide +kernel)) (lws_cons (lw_dat lit_non (by decide +kernel)) (lws_cons (lw_dat (lit_tup (lits_cons lit_str lits_nil) (by decide)) (by decide +kernel)) (lws_cons (lw_dat (lit_lst (lits_cons lit_str lits_nil) (by decide)) (by decide +kernel)) (lws_cons (lw_dat lit_str (by decide +kernel)) (lws_cons (lw_dat lit_str (by decide +kernel)) (lws_cons (lw_dat lit_str (by decide +kernel)) (lws_cons (lw_dat lit_str (by decide +kernel)) (lws_cons (lw_dat lit_str (by decide +kernel)) (lws_cons (lw_dat lit_str (by decide +kernel)) (lws_cons (lw_dat lit_str (by decide +kernel)) (lws_cons (lw_dat lit_str (by decide +kernel)) (lws_cons (lw_dat lit_str (by decide +kernel)) lws_nil))))))))))))))) (by decide) fun Hw lw wg => ?_
  obtain ⟨sw, nlw, ws, wl, ww⟩ := wg
  obtain ⟨oR, hpR⟩ : ∃ o, HR p = some o := by
    obtain ⟨a, b, e, h1, _⟩ := puR
    exact ⟨_, h1⟩
  have nlp : lw ≠ p := fun z => by
    rw [z, hpR] at nlw
    cases nlw
  have wl15 : ws.length = 15 := wl
  have hlw := (ww Hw (.self _ _)).1
  refine ⟨.ref lw, rfl, .ref p, rfl, p, 15, _, rfl, puR.same sw, by omega, by decide, by decide, fun r us r0 r1 hP2 => ?_⟩
  obtain ⟨j, rfl⟩ := Int.eq_ofNat_of_zero_le r0
  have j15 : j < ws.length := by omega
  have gj : wordK[j]? = some (wordK[j]'(by show j < 15; omega)) := List.getElem?_eq_getElem _
  have okj := wordK_ok _ (List.getElem_mem (l := wordK) (n := j) (by show j < 15; omega))
  refine ⟨lw, ws, (j : Int), ws[j], rfl, rfl, SqL.of (by rw [upd_ne nlp]; exact hlw), atI_nat (j := j) (List.getElem?_eq_getElem j15), ?_⟩
  generalize wordK[j]'(by show j < 15; omega) = dw at gj okj
  have wW : ∀ H'', Bar p (upd Hw p (.lst us)) H'' → Wv K H'' ws[j] dw := fun H'' bb => by
    obtain ⟨x, hx, hv⟩ := Wvs.at (ww H'' fun b u n e => bb b u (fun z => by
      rw [z, hpR] at n
      cases n) (by
        rw [upd_ne (fun z => by
          rw [z, hpR] at n
          cases n)]
        exact e)).2 gj
    rw [List.getElem?_eq_getElem j15] at hx
    cases hx
    exact hv
  generalize ws[j] = W at wW ⊢
  have barW : Bar p HR (upd Hw p (.lst us)) := (Bar.same sw).trans .draw
  have barY : ∀ {H''}, Bar p (upd Hw p (.lst us)) H'' → Bar p H1 H'' := fun b => (Bar.same s1R).trans (barW.trans b)
  have barH : Bar p H (upd Hw p (.lst us)) := barR.trans barW
  generalize upd Hw p (.lst us) = HW at wW hP2 barW barY barH ⊢
  have gW := wW HW (.same fun _ _ e => e)
  have gY := wY HW (barY (.same fun _ _ e => e))
  refine ⟨W, rfl, W, nameD dw, rfl, gW.nm okj, fun H5 s5 => ⟨y3, rfl, y3, arD d3, rfl, gY.2.2.ar.same s5, fun H6 s6 => ⟨y2, rfl, y2, arD d2, rfl, gY.2.1.ar.same (s5.trans s6), fun H7 s7 => ⟨by show 3 ≤ sizeLine; decide, fun lc2 hlc2 => ?_⟩⟩⟩⟩
  have sX := s5.trans (s6.trans (s7.trans (same_new hlc2 (.lst [.bl (nameD dw), .bl (arD d3), .bl (arD d2)]))))
  have hlX : (upd H7 lc2 (.lst [.bl (nameD dw), .bl (arD d3), .bl (arD d2)])) lc2 = some (.lst [.bl (nameD dw), .bl (arD d3), .bl (arD d2)]) := upd_same
  generalize upd H7 lc2 (.lst [.bl (nameD dw), .bl (arD d3), .bl (arD d2)]) = HX at sX hlX ⊢
  dsimp only [gName]
  refine ret_i (eq_TL (K := K) (s := (Fst "names" [(W, nameD dw), (y3, arD d3), (y2, arD d2)]).1) (x := (Fst "names" [(W, nameD dw), (y3, arD d3), (y2, arD d2)]).2) (Fst.fl fun e he => ?_) (fun Q q => ?_) (fun H9 Q s9 q => ?_) fun HZ sZ => ?_)
  · simp only [List.mem_cons, List.mem_nil_iff, or_false] at he
    rcases he with rfl | rfl | rfl
    · exact gW.fl
    · exact gY.2.2.fl
    · exact gY.2.1.fl
  · exact ⟨W, rfl, y2, rfl, y3, rfl, 7, W, y2, y3, rfl, nameD dw, arD d3, arD d2, (gW.nm okj).same sX, gY.2.2.ar.same sX, gY.2.1.ar.same sX, ARes.first q⟩
  · refine ⟨W, rfl, y3, rfl, y2, rfl, by show 3 ≤ sizeLine; decide, fun lt hlt => ?_⟩
    have sl := same_new hlt (.lst [W, y3, y2])
    exact ⟨.ref lc2, rfl, "names", lt, lc2, [(W, nameD dw), (y3, arD d3), (y2, arD d2)], [], rfl, SqL.of upd_same, SqL.of ((s9.trans sl) _ _ hlX), q.same sl⟩
  · exact q _ (barH.trans (.same (sX.trans sZ))) ((hP2.same (sX.trans sZ)).le (by omega))
end
end Rw
namespace Rw
open PySem PySem.Spec PyProof.Rows L2 ClX
/-! ### law -/
abbrev sLaw : Stmt := topS 39
abbrev nLaw : List Str := ["script", "fact", "some", "many", "at", "purse", "turn", "way"]
theorem scLaw : FnScope nLaw ["script"] (defScope sLaw) := ⟨rfl, rfl, rfl, by decide +kernel, rfl, by decide +kernel, by decide +kernel⟩
theorem if_1 {tt : TT} {t : TS} {D : Ends} {σ : L2.St} {H : Hp} (h : tt σ H fun c H1 => if c = true then t D σ H1 else D.nx σ H1) : tIfS tt t tNext D σ H := h
theorem name_i {j : Nat} {x : V} {σ : L2.St} {H : Hp} {q : L2.St → Hp → Prop} (h : q (σ.set j (some x)) H) : gName j x σ H q := h
theorem and_i {ta tb : TE} {σ : L2.St} {H : Hp} {Q : VK} (h : ta σ H fun x H1 => ∃ c, x = .bl c ∧ if c = true then tb σ H1 Q else Q (.bl false) H1) : tAndV ta tb σ H Q := h
theorem first_L {K : PySem.W.Frag} {te : TE} {d : PyData} {u : TS} {D : Ends} {H0 : Hp} {σ : L2.St} {j : Nat} (h : Lit K te d) (q : ∀ H' v, Same H0 H' → Dp K H' v d → u D (σ.set j (some v)) H') : tSeq (tAsg te (gName j)) u D σ H0 := h σ H0 _ fun x H' s g => q H' x s (g H' (.self _ _))
abbrev factD : PyData := rd (fact "a")
theorem Bv.no {K : PySem.W.Frag} {H : Hp} {x : V} {b : Bool} (h : Bv K H x b) (e : b = false) : RuV K H x false := e ▸ h.1
def manyN : W := (List.replicate 30 [("a" : Str), ("b" : Str)]).flatten ++ [("A" : Str)]
theorem many_odd : ∀ d ∈ manyN.map PyData.str, oddN d := fun d hd => by
  obtain ⟨z, hz, rfl⟩ := List.mem_map.mp hd
  show z.cps.size ≤ 10000
  exact of_decide_eq_true (List.all_eq_true.mp (show (manyN.all fun z => decide (z.cps.size ≤ 10000)) = true by decide +kernel) z hz)
theorem wvs_dp {K : PySem.W.Frag} {H : Hp} : ∀ {xs : List V} {ds : List PyData}, DpAll K H xs ds → (∀ d ∈ ds, okWb d = true) → Wvs K H xs ds
  | _, _, .nil, _ => True.intro
  | _, _, .cons a t, o => ⟨.inl ⟨a, o _ (List.mem_cons_self ..)⟩, wvs_dp t fun d hd => o d (List.mem_cons_of_mem _ hd)⟩
theorem ru_dp {K : PySem.W.Frag} {H : Hp} {x : V} {ds : List PyData} {b : Bool} (h : Dp K H x (.tuple ds)) (o : ds.all okWb = true) (few : ds.length ≤ 100) (e : (decide ((ds.map worldD).length = 4) && (ds.map worldD).all id) = b) : RuV K H x b := by
  cases h with
  | tup hS hA =>
    have hw := wvs_dp hA fun d hd => List.all_eq_true.mp o d hd
    exact .inl ⟨_, _, _, rfl, hS, wls_of hw, by rw [List.length_map]; exact few, e.symm⟩
theorem cons_mk0 {K : PySem.W.Frag} {C CR : Addr} {E : XK} {ts : TA} {σ : L2.St} {H : Hp} {Q : List V → Hp → Prop} (q : ∀ H' v S, Same H H' → PgAt K C H' v S → S = [] → ts σ H' fun xs H2 => Q (v :: xs) H2) : tCons (StX.tMakeR C (spInitX K C CR) E tNil) ts σ H Q :=
  init_pg (K := K) (C := C) (CR := CR) (E := E) (xs := []) (L := []) (Q := fun v H' => ts σ H' fun xs H2 => Q (v :: xs) H2) .nil (fun _ z => nomatch z) (by decide) fun H' v S s hS hp => q H' v S s hp (List.eq_nil_iff_forall_not_mem.mpr fun r hr => nomatch (hS.mem r).mp hr)
theorem cons_mk1 {K : PySem.W.Frag} {C CR : Addr} {E : XK} {ts : TA} {σ : L2.St} {H : Hp} {Q : List V → Hp → Prop} {fv : V} (h1 : σ[1]? = some (some fv)) (hf : Dp K H fv (rd (fact "a"))) (q : ∀ H' v S, Same H H' → PgAt K C H' v S → ts σ H' fun xs H2 => Q (v :: xs) H2) : tCons (StX.tMakeR C (spInitX K C CR) E (tCons (tVar 1) tNil)) ts σ H Q :=
  ⟨fv, h1, init_pg (K := K) (C := C) (CR := CR) (E := E) (xs := [fv]) (L := [fact "a"]) (Q := fun v H' => ts σ H' fun xs H2 => Q (v :: xs) H2) (.cons hf .nil) (fun r hr => by rw [List.mem_singleton.mp hr]; exact isR_fact (by decide +kernel)) (by decide) fun H' v S s _ hp => q H' v S s hp⟩
theorem asked_mk0 {K : PySem.W.Frag} {C CR CP CW CN : Addr} {E : XK} {σ : L2.St} {H : Hp} {Q : VK} {way : Nat} (hw : way = 3 ∨ way = 4) (q : TL Q "ok" (.bl true) H) : tCall (spLawAsked K C CR CP CW CN) [] E0 (tCons (tC (.int (way : Nat))) (tCons (StX.tMakeR C (spInitX K C CR) E tNil) (tCons (tC .non) (tCons (tC .non) tNil)))) σ H Q :=
  init_pg (K := K) (C := C) (CR := CR) (E := E) (xs := []) (L := []) (Q := fun v H' => spLawAsked K C CR CP CW CN [.int (way : Nat), v, .non, .non] H' Q E0) .nil (fun _ z => nomatch z) (by decide) fun H' v S s hS hp => by
    have e : S = [] := List.eq_nil_iff_forall_not_mem.mpr fun r hr => nomatch (hS.mem r).mp hr
    subst e
    have g : Got H' (TOk Q) := fun H'' a s'' => ⟨⟨a, rfl⟩, q.same (s.trans s'')⟩
    rcases hw with rfl | rfl
    · exact ⟨3, v, .non, .non, rfl, .inr ⟨hp, g⟩⟩
    · exact ⟨4, v, .non, .non, rfl, .inr ⟨hp, g⟩⟩
section
variable {P : Program} {w : World} {K : PySem.W.Frag} {mg : Str → Option Value} {base : Heap} {f : Addr} {fd : FuncData} {k : Nat}
def spLaw (K : PySem.W.Frag) : Sp := fun vs H Q _ => ∃ (a : Addr) (ns : List Int), vs = [.ref a] ∧ SqL K H a (ns.map V.int) ∧ ns.length ≤ 63 ∧ ∀ H', Q (.bl true) H'
theorem ok_law {C CR CP CW CN fI f1 f2 f3 : Addr} {fd1 fd2 fd3 : FuncData} (F : Fun K "law" "law" sLaw f fd) (T : Bl mg) (G : PgC K mg C) (M : Mk K C fI) (GI : FnR P w K mg base (L2.CX P w) k fI (spInitX K C CR)) (nt : PySem.W.kitOne K (.ref C) (.type "tuple") = some false)
    (G1 : FnOk P w K mg base CX0 (k + 1) f1 fd1 ["way", "one", "two", "three"] (spLawAsked K C CR CP CW CN)) (b1 : Binds K fd1 ["way", "one", "two", "three"] []) (k1 : PySem.W.keepIn K (.ref f1) = true) (m1 : mg "_law_asked" = some (.ref f1))
    (G2 : FnOk P w K mg base CX0 (k + 1) f2 fd2 ["script", "at"] (spLawPurse K)) (b2 : Binds K fd2 ["script", "at"] []) (k2 : PySem.W.keepIn K (.ref f2) = true) (m2 : mg "_law_purse" = some (.ref f2))
    (G3 : FnOk P w K mg base CX0 (k + 1) f3 fd3 ["purse"] spLawRight) (b3 : Binds K fd3 ["purse"] []) (k3 : PySem.W.keepIn K (.ref f3) = true) (m3 : mg "_law_right" = some (.ref f3)) :
    FnOk P w K mg base CX0 (k + 2) f fd ["script"] (spLaw K) := by
  refine F.ok scLaw (fun vs H Q E h => ?_) (fun cdv A outer s H vs Q E hr h => ?_)
  · obtain ⟨a, ns, rfl, _⟩ := h
    rfl
  obtain ⟨a, ns, rfl, hS, hl, q⟩ := h
  refine ⟨_, (pss_cons (ps_set (i := 1) scLaw.nd rfl (.inl rfl) (pe_tup (pa_cons (pe_tup (pa_cons pe_str pa_nil)) (pa_cons (pe_tup pa_nil) (pa_cons (pe_tup pa_nil) (pa_cons (pe_tup pa_nil) pa_nil)))))) (pss_cons (ps_for PassesOwn.never rfl (pi_tup (pe_tup (pa_cons (pe_lst pa_nil) (pa_cons (pe_tup pa_nil) (pa_cons (pe_lst (pa_cons (pv 1) pa_nil)) (pa_cons (pe_tup (pa_cons (pv 1) (pa_cons (pv 1) pa_nil))) (pa_cons (pe_makeR0 M GI hr (by rfl) G.m passNo) (pa_cons (StX.pe_makeR M GI hr (by rfl) G.m passNo (pa_cons (pv 1) pa_nil)) (pa_cons pe_non pa_nil))))))))) (pg_name (i := 2) scLaw.nd rfl (.inr rfl)) (pss_one (ps_if (PW.pt (pw_or (pt_cmpR (r := rNeI K) (op_neI hr.units) (pe_call G1 hr (by rfl) m1 k1 b1 .nil pass0 (pa_cons pe_int (pa_cons (pv 2) (pa_cons pe_non (pa_cons pe_non pa_nil))))) (pe_lst (pa_cons pe_str (pa_cons pe_int pa_nil))) (nomark _)) (pw_or1 (pt_cmpR (r := rNeI K) (op_neI hr.units) (pe_call G1 hr (by rfl) m1 k1 b1 .nil pass0 (pa_cons pe_int (pa_cons (pv 2) (pa_cons pe_non (pa_cons pe_non pa_nil))))) (pe_lst (pa_cons pe_str (pa_cons pe_int pa_nil))) (nomark _))))) pss_never pss_nil))) (pss_cons (ps_if (PW.pt (pw_or (pt_cmpR (r := rNeI K) (op_neI hr.units) (pe_call G1 hr (by rfl) m1 k1 b1 .nil pass0 (pa_cons pe_int (pa_cons (pv 1) (pa_cons pe_non (pa_cons pe_non pa_nil))))) (pe_lst (pa_cons pe_str (pa_cons pe_int pa_nil))) (nomark _)) (pw_or1 (pt_cmpR (r := rNeI K) (op_neI hr.units) (pe_call G1 hr (by rfl) m1 k1 b1 .nil pass0 (pa_cons pe_int (pa_cons (pe_lst (pa_cons (pv 1) (pa_cons (pe_tup pa_nil) (pa_cons (pv 1) pa_nil)))) (pa_cons pe_non (pa_cons pe_non pa_nil))))) (pe_lst (pa_cons pe_str (pa_cons pe_int pa_nil))) (nomark _))))) pss_never pss_nil) (pss_cons (ps_set (i := 3) scLaw.nd rfl (.inl rfl) (pe_op op_cat (pe_op op_rep (pe_lst (pa_cons pe_str (pa_cons pe_str pa_nil))) pe_int) (pe_lst (pa_cons pe_str pa_nil)))) (pss_cons (ps_if (PW.pt (pw_or (pt_cmpR (r := rNeI K) (op_neI hr.units) (pe_call G1 hr (by rfl) m1 k1 b1 .nil pass0 (pa_cons pe_int (pa_cons (pv 3) (pa_cons (pe_tup pa_nil) (pa_cons (pe_tup pa_nil) pa_nil))))) (pe_lst (pa_cons pe_str (pa_cons (pv 3) pa_nil))) (nomark _)) (pw_or1 (pt_cmpR (r := rNeD K) (op_neD hr.units) (pe_call G1 hr (by rfl) m1 k1 b1 .nil pass0 (pa_cons pe_int (pa_cons (pe_callTy call_tuple_of (by rfl) T.tuple (by decide +kernel) (pa_cons (pv 3) pa_nil)) (pa_cons (pe_tup pa_nil) (pa_cons (pe_tup pa_nil) pa_nil))))) (pe_lst (pa_cons pe_str (pa_cons (pe_callTy call_tuple_of (by rfl) T.tuple (by decide +kernel) (pa_cons (pv 3) pa_nil)) pa_nil))) (nomark _))))) pss_never pss_nil) (pss_cons (ps_for PassesOwn.never rfl (pi_tup (pe_tup (pa_cons (pv 1) (pa_cons pe_non (pa_cons (pe_tup pa_nil) (pa_cons pe_str (pa_cons (pe_lst pa_nil) (pa_cons pe_int (pa_cons pe_bl (pa_cons pe_dnewK (pa_cons pe_bl (pa_cons (pe_tup (pa_cons (pv 1) pa_nil)) (pa_cons (pe_lst (pa_cons (pv 1) pa_nil)) (pa_cons pe_str pa_nil)))))))))))))) (pg_name (i := 2) scLaw.nd rfl (.inr rfl)) (pss_one (ps_if (pt_cmpR (r := rNeI K) (op_neI hr.units) (pe_lc (own := [("way", 7)]) (g := gName 7)  (by rfl) scLaw.nd (pi_tup (pe_tup (pa_cons pe_int (pa_cons pe_int (pa_cons pe_int (pa_cons pe_int pa_nil)))))) (blkOk_by (N := nLaw) (sc := defScope sLaw) (by decide +kernel)) (fun _ _ _ _ _ => (pg_name (i := 7) scLaw.nd rfl (Or.inl rfl))) (fun _ _ _ _ _ => pts_nil) (fun _ _ _ _ _ => (pe_call G1 hr (by rfl) m1 k1 b1 .nil pass0 (pa_cons (pv 7) (pa_cons (pv 2) (pa_cons pe_non (pa_cons pe_non pa_nil))))))) (pe_op op_rep (pe_lst (pa_cons (pe_lst (pa_cons pe_str (pa_cons (pv 2) pa_nil))) pa_nil)) pe_int) (nomark _)) pss_never pss_nil))) (pss_cons (ps_for PassesOwn.never rfl (pi_range1 rfl T.range (pa_cons (pe_op op_add pe_int (pe_callB (call_min2 rfl) (by rfl) T.min (by decide +kernel) (pa_cons pe_int (pa_cons (pe_callB call_len_seq (by rfl) T.len PySem.boot_len (pa_cons (pv 0) pa_nil)) pa_nil)))) pa_nil)) (pg_name (i := 4) scLaw.nd rfl (.inl rfl)) (pss_cons (ps_set (i := 5) scLaw.nd rfl (.inl rfl) (pe_call G2 hr (by rfl) m2 k2 b2 .nil pass0 (pa_cons (pv 0) (pa_cons (pv 4) pa_nil)))) (pss_one (ps_for PassesOwn.never rfl (pi_range1 rfl T.range (pa_cons pe_int pa_nil)) (pg_name (i := 6) scLaw.nd rfl (.inl rfl)) (pss_one (ps_if (pt_not (pt_val (pe_call G3 hr (by rfl) m3 k3 b3 .nil pass0 (pa_cons (pv 5) pa_nil)))) pss_never pss_nil)))))) (pss_one (ps_ret (pe_and (pe_cmpR (r := rEqI K) (op_eqI hr.units) (pe_call G1 hr (by rfl) m1 k1 b1 .nil pass0 (pa_cons pe_int (pa_cons (pe_makeR0 M GI hr (by rfl) G.m passNo) (pa_cons pe_non (pa_cons pe_non pa_nil))))) (pe_lst (pa_cons pe_str (pa_cons pe_bl pa_nil))) (nomark _)) (pe_one (pe_cmpR (r := rEqI K) (op_eqI hr.units) (pe_call G1 hr (by rfl) m1 k1 b1 .nil pass0 (pa_cons pe_int (pa_cons (pe_makeR0 M GI hr (by rfl) G.m passNo) (pa_cons pe_non (pa_cons pe_non pa_nil))))) (pe_lst (pa_cons pe_str (pa_cons pe_bl pa_nil))) (nomark _))))))))))))), ?_⟩
  -- fact
  refine first_L (j := 1) (K := K) (d := factD) (lit_tup (lits_cons (lit_tup (lits_cons lit_str lits_nil) (by decide)) (lits_cons (lit_tup lits_nil (by decide)) (lits_cons (lit_tup lits_nil (by decide)) (lits_cons (lit_tup lits_nil (by decide)) lits_nil)))) (by decide)) fun H1 fv s1 hf => ?_
  have fW : Wv K H1 fv factD := .inl ⟨hf, by decide +kernel⟩
  have noP : ∀ {H' : Hp} {v : V} {S : List Rl}, PgAt K C H' v S → RuV K H' v false := fun h => by
    obtain ⟨a, dx, t, ys, rfl, g, _⟩ := h
    exact .inr ⟨⟨_, ty_ins G g, nt⟩, rfl⟩
  -- the first walk
  refine ⟨by show 0 ≤ sizeLine; decide, fun l1 hl1 => ?_⟩
  have u1 := same_new hl1 (.lst [])
  have v1 : (upd H1 l1 (.lst [])) l1 = some (.lst []) := upd_same
  generalize upd H1 l1 (.lst []) = H2 at u1 v1 ⊢
  refine ⟨by show 0 ≤ sizeLine; decide, fun l2 hl2 => ?_⟩
  have u2 := same_new hl2 (.tup [])
  have v2 : (upd H2 l2 (.tup [])) l2 = some (.tup []) := upd_same
  generalize upd H2 l2 (.tup []) = H3 at u2 v2 ⊢
  refine ⟨fv, rfl, by show 1 ≤ sizeLine; decide, fun l3 hl3 => ?_⟩
  have u3 := same_new hl3 (.lst [fv])
  have v3 : (upd H3 l3 (.lst [fv])) l3 = some (.lst [fv]) := upd_same
  generalize upd H3 l3 (.lst [fv]) = H4 at u3 v3 ⊢
  refine ⟨fv, rfl, fv, rfl, by show 2 ≤ sizeLine; decide, fun l4 hl4 => ?_⟩
  have u4 := same_new hl4 (.tup [fv, fv])
  have v4 : (upd H4 l4 (.tup [fv, fv])) l4 = some (.tup [fv, fv]) := upd_same
  generalize upd H4 l4 (.tup [fv, fv]) = H5 at u4 v4 ⊢
  refine cons_mk0 fun H6 p5 S5 u5 hp5 _ => ?_
  have s26 := u2.trans (u3.trans (u4.trans u5))
  refine cons_mk1 rfl (dp_same (u1.trans s26) _ _ hf) fun H7 p6 S6 u6 hp6 => ?_
  refine ⟨by show 7 ≤ sizeLine; decide, fun tt htt => ?_⟩
  have u7 := same_new htt (.tup [.ref l1, .ref l2, .ref l3, .ref l4, p5, p6, .non])
  have hT0 : SqT K (upd H7 tt (.tup [.ref l1, .ref l2, .ref l3, .ref l4, p5, p6, .non])) tt [.ref l1, .ref l2, .ref l3, .ref l4, p5, p6, .non] := SqT.of upd_same
  generalize upd H7 tt (.tup [.ref l1, .ref l2, .ref l3, .ref l4, p5, p6, .non]) = H8 at u7 hT0 ⊢
  have s68 := u6.trans u7
  have s28 := s26.trans s68
  have s18 := u1.trans s28
  have each : ∀ x ∈ [V.ref l1, .ref l2, .ref l3, .ref l4, p5, p6, .non], RuV K H8 x false := fun x hx => by
    simp only [List.mem_cons, List.mem_nil_iff, or_false] at hx
    rcases hx with rfl | rfl | rfl | rfl | rfl | rfl | rfl
    · exact (bv_lst (s28 _ _ v1)).1
    · exact (bv_tup (xs := []) (ds := []) ((u3.trans (u4.trans (u5.trans s68))) _ _ v2) True.intro (by decide)).no rfl
    · exact (bv_lst ((u4.trans (u5.trans s68)) _ _ v3)).1
    · exact (bv_tup (xs := [fv, fv]) (ds := [factD, factD]) ((u5.trans s68) _ _ v4) ⟨fW.same s18, fW.same s18, True.intro⟩ (by decide)).no (by decide +kernel)
    · exact noP (hp5.same s68)
    · exact noP (hp6.same u7)
    · exact .inr ⟨⟨_, tyx_dp (d := .none) .non, kit_ty (by decide +kernel)⟩, rfl⟩
  refine ⟨tt, rfl, ⟨_, hT0⟩, for_tup (xs := [.ref l1, .ref l2, .ref l3, .ref l4, p5, p6, .non]) (fun i σ H4 => (∃ y2, σ = [some (.ref a), some fv, y2, none, none, none, none, none]) ∧ Same H8 H4) ⟨⟨none, rfl⟩, fun _ _ e => e⟩ (fun i σ H4 _ hI => same_tup hI.2 hT0) (fun i x σ H9 hx hI => ?_) (fun σ H9 hI => ?_)⟩
  · obtain ⟨⟨y2, rfl⟩, sm⟩ := hI
    have hb := (each x (List.mem_of_getElem? hx)).same sm
    have hn : ∀ {H'}, RuV K H' .non false := fun {H'} => .inr ⟨⟨_, tyx_dp (d := .none) .non, kit_ty (by decide +kernel)⟩, rfl⟩
    refine name_i (if_1 (or_i (ne_TL (K := K) (s := "rule") (x := .int 0) (.inl rfl) (fun Q q => ⟨x, rfl, 8, x, .non, .non, rfl, false, hb, PRes.first (i := 0) (bs := [false]) q⟩) (fun H10 Q s10 q => ⟨by show 2 ≤ sizeLine; decide, fun l hl => q _ l (same_new hl _) upd_same⟩) fun Ha sa => iteF ?_)))
    refine ne_TL (K := K) (s := "rule") (x := .int 0) (.inl rfl) (fun Q q => ⟨x, rfl, 1, x, .non, .non, rfl, [false, false, false], ⟨hb.same sa, hn, hn, True.intro⟩, PRes.first (i := 0) (bs := [false, false, false]) q⟩) (fun H10 Q s10 q => ⟨by show 2 ≤ sizeLine; decide, fun l hl => q _ l (same_new hl _) upd_same⟩) fun Hb sb => iteF ?_
    exact ⟨⟨_, rfl⟩, sm.trans (sa.trans sb)⟩
  obtain ⟨⟨y2, rfl⟩, sm⟩ := hI
  -- the rules within a list
  have s19 := s18.trans sm
  have f9 := fW.same s19
  have hf9 : Dp K H9 fv factD := dp_same s19 _ _ hf
  have rv : ∀ {H'}, Same H9 H' → RuV K H' fv true := fun e => RuV.rule (r := fact "a") (dp_same e _ _ hf9) (isR_fact (by decide +kernel))
  obtain ⟨af, xsf, eaf, hSf, hdf⟩ : ∃ af xsf, fv = .ref af ∧ SqT K H9 af xsf ∧ DpAll K H9 xsf [.tuple [.str "a"], .tuple [], .tuple [], .tuple []] := by
    cases hf9 with
    | tup h1 h2 => exact ⟨_, _, rfl, h1, h2⟩
  obtain ⟨z1, z2, z3, z4, rfl, rz⟩ : ∃ z1 z2 z3 z4, xsf = [z1, z2, z3, z4] ∧ RuVs K H9 [z1, z2, z3, z4] [false, false, false, false] := by
    cases hdf with
    | cons a1 t => cases t with
      | cons a2 t => cases t with
        | cons a3 t => cases t with
          | cons a4 t =>
            cases t
            exact ⟨_, _, _, _, rfl, ru_dp a1 (by decide +kernel) (by decide) (by decide +kernel), ru_dp a2 rfl (by decide) rfl, ru_dp a3 rfl (by decide) rfl, ru_dp a4 rfl (by decide) rfl, True.intro⟩
  dsimp only
  refine if_i (or_i (ne_TL (K := K) (s := "rule") (x := .int 0) (.inl rfl) (fun Q q => ⟨fv, rfl, 12, fv, .non, .non, rfl, af, [z1, z2, z3, z4], [false, false, false, false], eaf, .inl hSf, rz, by show 4 < 64; decide, PRes.first (i := 0) (bs := [false, false, false, false]) q⟩) (fun H10 Q s10 q => ⟨by show 2 ≤ sizeLine; decide, fun l hl => q _ l (same_new hl _) upd_same⟩) fun Ha sa => iteF ?_))
  refine ne_TL (K := K) (s := "rule") (x := .int 1) (.inl rfl) (fun Q q => ?_) (fun H10 Q s10 q => ⟨by show 2 ≤ sizeLine; decide, fun l hl => q _ l (same_new hl _) upd_same⟩) fun Hb sb => iteF ?_
  · refine ⟨fv, rfl, by show 0 ≤ sizeLine; decide, fun t0 ht0 => ⟨fv, rfl, by show 3 ≤ sizeLine; decide, fun l hl => ?_⟩⟩
    have k1 := same_new ht0 (.tup [])
    have k2 := same_new hl (.lst [fv, .ref t0, fv])
    have kk := sa.trans (k1.trans k2)
    exact ⟨12, .ref l, .non, .non, rfl, l, [fv, .ref t0, fv], [true, false, true], rfl, .inr (SqL.of upd_same), ⟨rv kk, (bv_tup (xs := []) (ds := []) (k2 _ _ upd_same) True.intro (by decide)).no rfl, rv kk, True.intro⟩, by show 3 < 64; decide, PRes.first (i := 0) (bs := [true, false, true]) (q.same (k1.trans k2))⟩
  -- many
  refine ⟨by show 2 ≤ sizeLine; decide, fun m1 hm1 => ?_⟩
  have n1 := same_new hm1 (.lst [.str "a", .str "b"])
  refine ⟨m1, 30, _, rfl, rfl, upd_same, by decide, by decide, by show 2 * 30 ≤ sizeLine; decide, fun m2 hm2 => ?_⟩
  have n2 := same_new hm2 (.lst (List.replicate (30 : Int).toNat [V.str "a", .str "b"]).flatten)
  refine ⟨by show 1 ≤ sizeLine; decide, fun m3 hm3 => ?_⟩
  have n3 := same_new hm3 (.lst [.str "A"])
  refine ⟨m2, m3, _, _, rfl, rfl, n3 _ _ upd_same, upd_same, by show 61 ≤ sizeLine; decide, fun pm hpm => ?_⟩
  have n4 := same_new hpm (.lst ((List.replicate (30 : Int).toNat [V.str "a", .str "b"]).flatten ++ [.str "A"]))
  have hm0 : (upd (upd (upd (upd Hb m1 (.lst [.str "a", .str "b"])) m2 (.lst (List.replicate (30 : Int).toNat [V.str "a", .str "b"]).flatten)) m3 (.lst [.str "A"])) pm (.lst ((List.replicate (30 : Int).toNat [V.str "a", .str "b"]).flatten ++ [.str "A"]))) pm = some (.lst (manyN.map V.str)) := by
    rw [upd_same]
    rfl
  have nAll := n1.trans (n2.trans (n3.trans n4))
  generalize upd (upd (upd (upd Hb m1 (.lst [.str "a", .str "b"])) m2 (.lst (List.replicate (30 : Int).toNat [V.str "a", .str "b"]).flatten)) m3 (.lst [.str "A"])) pm (.lst ((List.replicate (30 : Int).toNat [V.str "a", .str "b"]).flatten ++ [.str "A"])) = Hc at hm0 nAll ⊢
  have mL : ∀ {H'}, Same Hc H' → ArV K H' (.ref pm) false := fun e => .inl ⟨pm, _, manyN.map .str, rfl, .inr (SqL.of (e _ _ hm0)), dps_strs _, many_odd, by decide +kernel, by decide +kernel⟩
  have eT : ∀ {H'} {t : Addr}, H' t = some (.tup []) → ArV K H' (.ref t) true := fun e => .inl ⟨_, [], [], rfl, .inl (SqT.of e), .nil, (fun _ z => nomatch z), by decide, rfl⟩
  dsimp only [gName]
  refine if_i (or_i (ne_TL (K := K) (s := "names") (x := .ref pm) (.inr ⟨_, rfl⟩) (fun Q q => ?_) (fun H10 Q s10 q => ⟨.ref pm, rfl, by show 2 ≤ sizeLine; decide, fun l hl => q _ l (same_new hl _) upd_same⟩) fun Hd sd => iteF ?_))
  · refine ⟨.ref pm, rfl, by show 0 ≤ sizeLine; decide, fun t1 ht1 => ⟨by show 0 ≤ sizeLine; decide, fun t2 ht2 => ?_⟩⟩
    have k1 := same_new ht1 (.tup [])
    have k2 := same_new ht2 (.tup [])
    exact ⟨5, .ref pm, .ref t1, .ref t2, rfl, false, true, true, mL (k1.trans k2), eT upd_same, eT (k2 _ _ upd_same), ARes.first (l := [(.ref pm, false), (.ref t2, true), (.ref t1, true)]) (q.same (k1.trans k2))⟩
  -- tuple(many)
  refine ⟨.ref pm, rfl, pm, manyN.map V.str, rfl, .inl ⟨SqL.of (sd _ _ hm0), fun q1 hq1 => ?_⟩⟩
  have k0 := same_new hq1 (.tup (manyN.map V.str))
  have hq1v : (upd Hd q1 (.tup (manyN.map V.str))) q1 = some (.tup (manyN.map V.str)) := upd_same
  generalize upd Hd q1 (.tup (manyN.map V.str)) = He at k0 hq1v ⊢
  refine ⟨by show 0 ≤ sizeLine; decide, fun t1 ht1 => ⟨by show 0 ≤ sizeLine; decide, fun t2 ht2 => ?_⟩⟩
  have k1 := same_new ht1 (.tup [])
  have k2 := same_new ht2 (.tup [])
  have v1' : (upd (upd He t1 (.tup [])) t2 (.tup [])) t1 = some (.tup []) := k2 _ _ upd_same
  have k12 := k1.trans k2
  generalize upd (upd He t1 (.tup [])) t2 (.tup []) = Hf at v1' k12 ⊢
  refine ⟨6, .ref q1, .ref t1, .ref t2, rfl, false, true, .inl ⟨q1, _, manyN.map .str, rfl, .inl (SqT.of (k12 _ _ hq1v)), dps_strs _, many_odd, by decide +kernel, by decide +kernel⟩, eT v1', ARes.first (l := [(.ref q1, false), (.ref t1, true)]) fun Hg lA sg hA => ?_⟩
  refine ⟨.ref pm, rfl, pm, manyN.map V.str, rfl, .inl ⟨SqL.of ((sd.trans (k0.trans (k12.trans sg))) _ _ hm0), fun q2 hq2 => ?_⟩⟩
  have k3 := same_new hq2 (.tup (manyN.map V.str))
  refine ⟨by show 2 ≤ sizeLine; decide, fun lB hlB => ?_⟩
  have k4 := same_new hlB (.lst [.str "names", .ref q2])
  have k34 := k3.trans k4
  refine ⟨.list [.str "names", .tuple (manyN.map .str)], .list [.str "names", .tuple (manyN.map .str)], .lst (SqL.of (k34 _ _ hA)) (.cons (.str _) (.cons (.tup (SqT.of ((k12.trans (sg.trans k34)) _ _ hq1v)) (dps_strs _)) .nil)), .lst (SqL.of upd_same) (.cons (.str _) (.cons (.tup (SqT.of (k4 _ _ upd_same)) (dps_strs _)) .nil)), by decide +kernel, by decide +kernel, false, ?_, iteF ?_⟩
  · rw [show PyData.eqv (.list [.str "names", .tuple (manyN.map .str)]) (.list [.str "names", .tuple (manyN.map .str)]) = true by decide +kernel]
    rfl
  have nB := nAll.trans (sd.trans (k0.trans (k12.trans (sg.trans k34))))
  generalize upd (upd Hg q2 (.tup (manyN.map V.str))) lB (.lst [.str "names", .ref q2]) = Hh at nB ⊢
  -- the second walk
  have nB' := (s19.trans (sa.trans sb)).trans nB
  have f20 := fW.same nB'
  refine ⟨fv, rfl, by show 0 ≤ sizeLine; decide, fun t1 ht1 => ?_⟩
  have w1 := same_new ht1 (.tup [])
  have x1 : (upd Hh t1 (.tup [])) t1 = some (.tup []) := upd_same
  generalize upd Hh t1 (.tup []) = G1' at w1 x1 ⊢
  refine ⟨by show 0 ≤ sizeLine; decide, fun l5 hl5 => ?_⟩
  have w2 := same_new hl5 (.lst [])
  have x2 : (upd G1' l5 (.lst [])) l5 = some (.lst []) := upd_same
  generalize upd G1' l5 (.lst []) = G2' at w2 x2 ⊢
  intro d5 hd5
  have w3 := same_new hd5 (.dK [])
  have x3 : (upd G2' d5 (.dK [])) d5 = some (.dK []) := upd_same
  generalize upd G2' d5 (.dK []) = G3' at w3 x3 ⊢
  refine ⟨fv, rfl, by show 1 ≤ sizeLine; decide, fun t6 ht6 => ?_⟩
  have w4 := same_new ht6 (.tup [fv])
  have x4 : (upd G3' t6 (.tup [fv])) t6 = some (.tup [fv]) := upd_same
  generalize upd G3' t6 (.tup [fv]) = G4' at w4 x4 ⊢
  refine ⟨fv, rfl, by show 1 ≤ sizeLine; decide, fun l6 hl6 => ?_⟩
  have w5 := same_new hl6 (.lst [fv])
  have x5 : (upd G4' l6 (.lst [fv])) l6 = some (.lst [fv]) := upd_same
  generalize upd G4' l6 (.lst [fv]) = G5' at w5 x5 ⊢
  refine ⟨by show 12 ≤ sizeLine; decide, fun tw htw => ?_⟩
  have w6 := same_new htw (.tup [fv, .non, .ref t1, .str "", .ref l5, .int 0, .bl false, .ref d5, .bl true, .ref t6, .ref l6, .str "a."])
  have hT1 : SqT K (upd G5' tw (.tup [fv, .non, .ref t1, .str "", .ref l5, .int 0, .bl false, .ref d5, .bl true, .ref t6, .ref l6, .str "a."])) tw [fv, .non, .ref t1, .str "", .ref l5, .int 0, .bl false, .ref d5, .bl true, .ref t6, .ref l6, .str "a."] := SqT.of upd_same
  generalize upd G5' tw (.tup [fv, .non, .ref t1, .str "", .ref l5, .int 0, .bl false, .ref d5, .bl true, .ref t6, .ref l6, .str "a."]) = G6' at w6 hT1 ⊢
  have w56 := w5.trans w6
  have w46 := w4.trans w56
  have w36 := w3.trans w46
  have w26 := w2.trans w36
  have w16 := w1.trans w26
  have each2 : ∀ x ∈ [fv, V.non, .ref t1, .str "", .ref l5, .int 0, .bl false, .ref d5, .bl true, .ref t6, .ref l6, .str "a."], TyB K G6' x ∧ FlV x := fun x hx => by
    simp only [List.mem_cons, List.mem_nil_iff, or_false] at hx
    rcases hx with rfl | rfl | rfl | rfl | rfl | rfl | rfl | rfl | rfl | rfl | rfl | rfl
    · exact ⟨(f20.same w16).tyB, (f20.same w16).fl⟩
    · exact ⟨⟨.none, tyx_dp .non⟩, .inl rfl⟩
    · exact ⟨⟨.tuple [], tyx_tup (SqT.of (w26 _ _ x1))⟩, .inr ⟨_, rfl⟩⟩
    · exact ⟨⟨.str "", tyx_dp (.str _)⟩, .inl rfl⟩
    · exact ⟨⟨.list [], .base (.lst (w36 _ _ x2))⟩, .inr ⟨_, rfl⟩⟩
    · exact ⟨⟨.int 0, tyx_dp (.int _)⟩, .inl rfl⟩
    · exact ⟨⟨.bool false, tyx_dp (.bl _)⟩, .inl rfl⟩
    · exact ⟨⟨.dict [], .base (.dK (w46 _ _ x3))⟩, .inr ⟨_, rfl⟩⟩
    · exact ⟨⟨.bool true, tyx_dp (.bl _)⟩, .inl rfl⟩
    · exact ⟨⟨.tuple [], tyx_tup (SqT.of (w56 _ _ x4))⟩, .inr ⟨_, rfl⟩⟩
    · exact ⟨⟨.list [], .base (.lst (w6 _ _ x5))⟩, .inr ⟨_, rfl⟩⟩
    · exact ⟨⟨.str "a.", tyx_dp (.str _)⟩, .inl rfl⟩
  refine ⟨tw, rfl, ⟨_, hT1⟩, for_tup (xs := [fv, .non, .ref t1, .str "", .ref l5, .int 0, .bl false, .ref d5, .bl true, .ref t6, .ref l6, .str "a."]) (fun i σ H4 => (∃ y2, σ = [some (.ref a), some fv, y2, some (.ref pm), none, none, none, none]) ∧ Same G6' H4) ⟨⟨_, rfl⟩, fun _ _ e => e⟩ (fun i σ H4 _ hI => same_tup hI.2 hT1) (fun i x σ HA hx hI => ?_) (fun σ HA hI => ?_)⟩
  · obtain ⟨⟨y2', rfl⟩, sm2⟩ := hI
    obtain ⟨hty, hfl⟩ := each2 x (List.mem_of_getElem? hx)
    refine name_i (if_1 ⟨by show 4 ≤ sizeLine; decide, fun t4 ht4 => ?_⟩)
    have z1 := same_new ht4 (.tup [.int 3, .int 4, .int 10, .int 11])
    have hT4 : SqT K (upd HA t4 (.tup [.int 3, .int 4, .int 10, .int 11])) t4 [.int 3, .int 4, .int 10, .int 11] := SqT.of upd_same
    generalize upd HA t4 (.tup [.int 3, .int 4, .int 10, .int 11]) = HB at z1 hT4 ⊢
    have tyB := hty.same (sm2.trans z1)
    refine ⟨t4, rfl, ⟨_, hT4⟩, fun D hD => ?_⟩
    refine lc_tup (xs := [.int 3, .int 4, .int 10, .int 11]) (fun i H1 => Same HB H1 ∧ ∃ ls : List Addr, H1 D = some (.lst (ls.map V.ref)) ∧ ls.length = i ∧ ∀ l ∈ ls, l ≠ D ∧ H1 l = some (.lst [.str "program", x])) ⟨same_new hD _, [], upd_same, rfl, fun _ z => nomatch z⟩ (fun i H1 _ hI => same_tup hI.1 hT4) (fun i v H1 hv hI => ?_) (fun H1 hI => ?_)
    · obtain ⟨sD, ls, hd, len, hls⟩ := hI
      have il : i < 4 := (List.getElem?_eq_some_iff.mp hv).1
      have acc : TL (fun v' H' => ∃ acc, H' D = some (.lst acc) ∧ acc.length < sizeLine ∧ (Same HB (upd H' D (.lst (acc ++ [v']))) ∧ ∃ ls : List Addr, (upd H' D (.lst (acc ++ [v']))) D = some (.lst (ls.map V.ref)) ∧ ls.length = i + 1 ∧ ∀ l ∈ ls, l ≠ D ∧ (upd H' D (.lst (acc ++ [v']))) l = some (.lst [.str "program", x]))) "program" x H1 := fun H2 l s2 h2 => by
        have hd2 := s2 _ _ hd
        have nl : l ≠ D := fun z => by
          rw [z, hd2] at h2
          injection h2 with h2
          injection h2 with h2
          cases ls with
          | nil => simp at h2
          | cons y r => simp at h2
        refine ⟨_, hd2, small_line (by rw [List.length_map]; omega), same_put (sD.trans s2) hD, ls ++ [l], by rw [upd_same, List.map_append]; rfl, by rw [List.length_append, len]; rfl, fun l' hl' => ?_⟩
        rcases List.mem_append.mp hl' with h | h
        · exact ⟨(hls l' h).1, by rw [upd_ne (hls l' h).1]; exact s2 _ _ (hls l' h).2⟩
        · rw [List.mem_singleton.mp h]
          exact ⟨nl, by rw [upd_ne nl]; exact h2⟩
      have ty1 := tyB.same sD
      match i, il, hv with
      | 0, _, e =>
        obtain rfl : V.int 3 = v := by simpa using e
        exact ⟨rfl, .int 3, rfl, x, rfl, 3, x, .non, .non, rfl, .inl ⟨ty1, Err.program acc⟩⟩
      | 1, _, e =>
        obtain rfl : V.int 4 = v := by simpa using e
        exact ⟨rfl, .int 4, rfl, x, rfl, 4, x, .non, .non, rfl, .inl ⟨ty1, Err.program acc⟩⟩
      | 2, _, e =>
        obtain rfl : V.int 10 = v := by simpa using e
        exact ⟨rfl, .int 10, rfl, x, rfl, 10, x, .non, .non, rfl, ty1, Err.program acc⟩
      | 3, _, e =>
        obtain rfl : V.int 11 = v := by simpa using e
        exact ⟨rfl, .int 11, rfl, x, rfl, 11, x, .non, .non, rfl, ty1, Err.program acc⟩
    · obtain ⟨sD, ls, hd, len, hls⟩ := hI
      obtain ⟨a1, a2, a3, a4, rfl⟩ : ∃ a1 a2 a3 a4, ls = [a1, a2, a3, a4] := by
        match ls, len with
        | [a1, a2, a3, a4], _ => exact ⟨a1, a2, a3, a4, rfl⟩
      refine ⟨x, rfl, by show 2 ≤ sizeLine; decide, fun l hl => ⟨by show 1 ≤ sizeLine; decide, fun l2 hl2 => ?_⟩⟩
      have q1 := same_new hl (.lst [.str "program", x])
      have q2 := same_new hl2 (.lst [.ref l])
      refine ⟨l2, 4, [.ref l], rfl, rfl, upd_same, by decide, by decide, by show 1 * 4 ≤ sizeLine; decide, fun pp hpp => ?_⟩
      have q3 := same_new hpp (.lst (List.replicate (4 : Int).toNat [V.ref l]).flatten)
      have q23 := q2.trans q3
      have q13 := q1.trans q23
      have one : ∀ y ∈ [a1, a2, a3, a4], EqL1 K _ (.ref y) (.ref l) := fun y hy => .inr ⟨y, l, _, _, rfl, rfl, SqL.of (q13 _ _ (hls y hy).2), SqL.of (q23 _ _ upd_same), .cons (.inl ⟨rfl, rfl⟩) (.cons hfl.same .nil)⟩
      exact ⟨D, pp, [.ref a1, .ref a2, .ref a3, .ref a4], [.ref l, .ref l, .ref l, .ref l], rfl, rfl, SqL.of (q13 _ _ hd), SqL.of upd_same, .cons (one _ (by simp)) (.cons (one _ (by simp)) (.cons (one _ (by simp)) (.cons (one _ (by simp)) .nil))), false, rfl, iteF ⟨⟨_, rfl⟩, (sm2.trans (z1.trans sD)).trans q13⟩⟩
  obtain ⟨⟨y2', rfl⟩, sm2⟩ := hI
  have sH0 : Same H HA := s1.trans (nB'.trans (w16.trans sm2))
  obtain ⟨n0, hn0, hn7⟩ : ∃ n0 : Nat, (1 + (if ((ns.map V.int).length : Int) < 6 then ((ns.map V.int).length : Int) else 6)) = (n0 : Int) ∧ n0 ≤ 7 := by
    rw [List.length_map]
    by_cases c : (ns.length : Int) < 6
    · rw [if_pos c]
      exact ⟨1 + ns.length, by omega, by omega⟩
    · rw [if_neg c]
      exact ⟨7, by omega, by omega⟩
  refine ⟨.ref a, rfl, a, _, rfl, .inl (sH0.seq hS), 6, ((ns.map V.int).length : Int), rfl, _, _, rfl, rfl, _, rfl, ?_⟩
  rw [hn0]
  refine ⟨by omega, by omega, ?_⟩
  have hSA : SqL K HA a (ns.map V.int) := sH0.seq hS
  refine for_range (n := (n0 : Int).toNat) (fun i σ H1 => (∃ y2 y4 y5 y6, σ = [some (.ref a), some fv, y2, some (.ref pm), y4, y5, y6, none]) ∧ Same HA H1) ⟨⟨_, _, _, _, rfl⟩, fun _ _ e => e⟩ (fun i0 σ HB hi hI => ?_) (fun σ HB hI => ?_)
  · obtain ⟨⟨y2, y4, y5, y6, rfl⟩, smA⟩ := hI
    have hi6 : i0 < 7 := by omega
    refine ⟨.ref a, rfl, .int (0 + (i0 : Int)), rfl, a, ns, i0, ?_, smA.seq hSA, hl, by omega, fun HC p sAB hpn hP0 => ?_⟩
    · rw [Int.zero_add]
      rfl
    have up : ∀ H', Bar p HC H' → Same HA H' := fun H' b c u e => b c u (fun z => by
      have := smA _ _ e
      rw [z, hpn] at this
      cases this) (sAB _ _ (smA _ _ e))
    refine ⟨4, rfl, by decide, by decide, ?_⟩
    refine for_range (n := (4 : Int).toNat) (fun i σ H1 => (∃ y2 y6, σ = [some (.ref a), some fv, y2, some (.ref pm), some (.int (0 + (i0 : Int))), some (.ref p), y6, none]) ∧ Bar p HC H1 ∧ Pur H1 p (100000 + 100 * i)) ⟨⟨_, _, rfl⟩, .same (fun _ _ e => e), hP0.le (by omega)⟩ (fun j σ HD hj hI => ?_) (fun σ HD hI => ?_)
    · obtain ⟨⟨y2, y6, rfl⟩, bar, pu⟩ := hI
      have hj4 : j < 4 := hj
      exact ⟨.ref p, rfl, p, _, rfl, pu, by omega, fun HE bar2 pu2 => ⟨true, rfl, iteF ⟨⟨_, _, rfl⟩, bar.trans bar2, pu2.le (by omega)⟩⟩⟩
    · obtain ⟨⟨y2, y6, rfl⟩, bar, pu⟩ := hI
      exact ⟨⟨_, _, _, _, rfl⟩, up _ bar⟩
  obtain ⟨⟨y2, y4, y5, y6, rfl⟩, smA⟩ := hI
  refine ret_i (and_i (eq_TL (K := K) (s := "ok") (x := .bl true) (.inl rfl) (fun Q q => asked_mk0 (way := 3) (.inl rfl) q) (fun H10 Q s10 q => ⟨by show 2 ≤ sizeLine; decide, fun l hl => q _ l (same_new hl _) upd_same⟩) fun HC sC => ⟨true, rfl, iteT ?_⟩))
  exact eq_TL (K := K) (s := "ok") (x := .bl true) (.inl rfl) (fun Q q => asked_mk0 (way := 4) (.inr rfl) q) (fun H10 Q s10 q => ⟨by show 2 ≤ sizeLine; decide, fun l hl => q _ l (same_new hl _) upd_same⟩) fun HD sD => q _
end
end Rw
namespace Rw
open PySem PySem.Spec PyProof.Rows L2 ClX
/-! ### what the top has written -/
def dOf (x : Str) (st : Stmt) : He5.DefA := ⟨fun K => He.ga K x, x, x, defArgs st, defBody st, defScope st, [], []⟩
def dMInit : He5.DefA := ⟨fun K => He.ma K (He.ga K "Program") "__init__", "__init__", "Program.__init__", defArgs sInit, defBody sInit, defScope sInit, [], []⟩
def dMOf : He5.DefA := ⟨fun K => He5.wf K (He.ga K "Program") "classmethod" "of", "of", "Program.of", defArgs sOf, defBody sOf, defScope sOf, [], []⟩
def dMFacts : He5.DefA := ⟨fun K => He5.wf K (He.ga K "Program") "classmethod" "facts", "facts", "Program.facts", defArgs sFacts, defBody sFacts, defScope sFacts, [], []⟩
def dMAdd : He5.DefA := ⟨fun K => He.ma K (He.ga K "Program") "__add__", "__add__", "Program.__add__", defArgs sAdd, defBody sAdd, defScope sAdd, [], []⟩
def dMSub : He5.DefA := ⟨fun K => He.ma K (He.ga K "Program") "__sub__", "__sub__", "Program.__sub__", defArgs sSub, defBody sSub, defScope sSub, [], []⟩
def dMERule : He5.DefA := ⟨fun K => He.ma K (He.ga K "InvalidRule") "__init__", "__init__", "InvalidRule.__init__", defArgs sERule, defBody sERule, defScope sERule, [.non], []⟩
def dMEWorld : He5.DefA := ⟨fun K => He.ma K (He.ga K "InvalidWorld") "__init__", "__init__", "InvalidWorld.__init__", defArgs sEWorld, defBody sEWorld, defScope sEWorld, [.non], []⟩
def dMENames : He5.DefA := ⟨fun K => He.ma K (He.ga K "InvalidNames") "__init__", "__init__", "InvalidNames.__init__", defArgs sENames, defBody sENames, defScope sENames, [.non], []⟩
def dMENotProg : He5.DefA := ⟨fun K => He.ma K (He.ga K "NotAProgram") "__init__", "__init__", "NotAProgram.__init__", defArgs sENotProg, defBody sENotProg, defScope sENotProg, [.non], []⟩
def dMRule : He5.DefA := ⟨fun K => He.ga K "rule", "rule", "rule", defArgs sRule, defBody sRule, defScope sRule, [.adr (He.dflAt ("rule", none) 0), .adr (He.dflAt ("rule", none) 1), .adr (He.dflAt ("rule", none) 2), .adr (He.dflAt ("rule", none) 3)], []⟩
def dMChoice : He5.DefA := ⟨fun K => He.ga K "choice", "choice", "choice", defArgs sChoice, defBody sChoice, defScope sChoice, [.adr (He.dflAt ("choice", none) 0), .adr (He.dflAt ("choice", none) 1)], []⟩
def hfn : List He5.DefA := [dOf "is_name" sIsName, dOf "_are_names" sAreNames, dOf "_set_of" sSetOf, dOf "is_world" sIsWorld, dOf "is_rule" sIsRule, dOf "_law_at" sLawAt, dOf "_law_mixed" sLawMixed, dOf "_law_purse" sLawPurse, dOf "_law_draw" sLawDraw, dOf "_law_is_name" sLawIsName, dOf "_law_is_world" sLawIsWorld, dOf "_law_is_rule" sLawIsRule, dOf "_law_are_names" sLawAre, dOf "_law_world" sLawWorld, dOf "_law_bent" sLawBent, dOf "_law_made" sLawMade, dOf "_law_asked" sLawAsked, dOf "_law_first" sLawFirst, dOf "_law_right" sRight, dOf "law" sLaw, dMInit, dMOf, dMFacts, dMAdd, dMSub, dMERule, dMEWorld, dMENames, dMENotProg, dMRule, dMChoice]
def hfa1 : List He.Fa := [.free "len", .free "isinstance", .free "all", .free "any", .free "tuple", .free "list", .free "sorted", .free "set", .free "str", .free "int", .free "max", .free "min", .free "range", .free "enumerate", .free "zip", .str "LETTERS" lettersS, .glo "Program", .glo "InvalidRule", .glo "NotAProgram", .glo "InvalidWorld", .glo "InvalidNames", .glo "RuleError", .glo "is_name", .glo "_are_names", .glo "_set_of", .glo "is_world", .glo "is_rule", .glo "_law_at", .glo "_law_mixed", .glo "_law_purse"]
def hfa2 : List He.Fa := [.glo "_law_draw", .glo "_law_is_name", .glo "_law_is_world", .glo "_law_is_rule", .glo "_law_are_names", .glo "_law_world", .glo "_law_bent", .glo "_law_made", .glo "_law_asked", .glo "_law_first", .glo "_law_right", .glo "law", .glo "rule", .glo "choice", .cls "Program", .noat "Program" "_rules", .mkr "Program", .noat "InvalidRule" "place", .noat "NotAProgram" "thing", .noat "InvalidWorld" "thing", .noat "InvalidNames" "thing"]
def hfa : List He.Fa := hfa1 ++ hfa2
/-- more of the classes -/
def pgP (K : PySem.W.Frag) (C : Addr) : Prop := PySem.W.kitOne K (.ref C) (.ref C) = some true ∧ PySem.W.kitOne K (.type "NoneType") (.ref C) = some false ∧ PySem.W.kitOne K (.type "bool") (.ref C) = some false ∧ PySem.W.kitOne K (.type "int") (.ref C) = some false ∧ PySem.W.kitOne K (.type "str") (.ref C) = some false ∧
  PySem.W.kitOne K (.type "list") (.ref C) = some false ∧ PySem.W.kitOne K (.type "tuple") (.ref C) = some false ∧ PySem.W.kitOne K (.type "dict") (.ref C) = some false ∧ PySem.W.findIn K (.ref C) "__class__" = some (some (.builtin "object.__class__")) ∧
  PySem.W.specialIn K (.builtin "object.__class__") "__get__" = some (some (.builtin "getset_descriptor.__get__")) ∧ PySem.W.takesIn K (.builtin "object.__class__") = some true ∧ PySem.W.mroIn K C (.type "object") = some true
instance (K : PySem.W.Frag) (C : Addr) : Decidable (pgP K C) := by unfold pgP; infer_instance
def readP (K : PySem.W.Frag) (C : Addr) : Prop := PySem.W.readsIn K C (.type "type") = true ∧ PySem.W.specialIn K (.ref C) "__getattribute__" = some (some (.builtin "type.__getattribute__"))
instance (K : PySem.W.Frag) (C : Addr) : Decidable (readP K C) := by unfold readP; infer_instance
def emptyB (K : PySem.W.Frag) (a : Addr) : Bool := match K.lookup a with
  | some ⟨.type c, _, .seq its _, _⟩ => decide (c = "tuple") && its.toList.isEmpty
  | _ => false
theorem emptyB_ok {K : PySem.W.Frag} {a : Addr} (h : emptyB K a = true) (H : Hp) : SqT K H a [] := by
  unfold emptyB at h
  split at h
  · rename_i c _ its n _ e
    rw [Bool.and_eq_true] at h
    obtain ⟨h1, h2⟩ := h
    have h1 := of_decide_eq_true h1
    subst h1
    have h2 : its.toList = [] := List.isEmpty_iff.mp h2
    refine .inr ⟨_, its, n, e, rfl, rfl, ?_, ?_⟩
    · rw [← Array.length_toList, h2]
      decide
    · rw [h2]
      exact .nil
  · exact nomatch h
def binB (K : PySem.W.Frag) (op : Operator) (C g : Addr) (T : String) : Bool := PySem.W.selfFirst K C && (decide (PySem.W.findIn K (.ref C) (PySem.dunder op.info.2) = some (some (.ref g))) && (PySem.W.isFn K (.ref g) && (decide (PySem.W.findIn K (.ref C) (dunderR op.info.2) = some none) &&
  ((PySem.W.findIn K (.type T) (PySem.dunder op.info.2)).isSome && ((PySem.W.findIn K (.type T) (dunderR op.info.2)).isSome && decide (PySem.W.subIn K (.type T) (.ref C) = some false))))))
theorem binB_ok {K : PySem.W.Frag} {op : Operator} {C g : Addr} {T : String} (h : binB K op C g T = true) : BinT K op C g T := by
  unfold binB at h
  rw [Bool.and_eq_true, Bool.and_eq_true, Bool.and_eq_true, Bool.and_eq_true, Bool.and_eq_true, Bool.and_eq_true] at h
  obtain ⟨h1, h2, h3, h4, h5, h6, h7⟩ := h
  exact ⟨h1, of_decide_eq_true h2, h3, of_decide_eq_true h4, Option.isSome_iff_exists.mp h5, Option.isSome_iff_exists.mp h6, of_decide_eq_true h7⟩
theorem fnr_or {P : Program} {w : World} {K : PySem.W.Frag} {mg : Str → Option Value} {base : Heap} {CX : CXT} {k : Nat} {f : Addr} {sp sp' : Sp} (F : FnR P w K mg base CX k f sp) (F' : FnR P w K mg base CX k f sp') : FnR P w K mg base CX k f (fun vs H Q E => sp vs H Q E ∨ sp' vs H Q E) :=
  fun A outer s H us vs Q E hr e r h => h.elim (F A outer s H us vs Q E hr e r) (F' A outer s H us vs Q E hr e r)
def exL0 (K : PySem.W.Frag) (C E : Addr) : List Bool := [decide (pgP K C), decide (readP K C), PySem.W.selfFirst K C, decide (PySem.W.kitOne K (.ref C) (.type "tuple") = some false), oexB K (He.ga K "InvalidRule"), decide (initP K (He.ga K "InvalidRule")), decide (excP K (He.ga K "InvalidRule")), decide (PySem.W.exmOne K (.ref (He.ga K "InvalidRule")) (.ref (He.ga K "RuleError")) = some true), decide (PySem.W.kitOne K (.type "NoneType") (.ref (He.ga K "InvalidRule")) = some false), oexB K (He.ga K "NotAProgram"), decide (initP K (He.ga K "NotAProgram")), decide (excP K (He.ga K "NotAProgram"))]
def exL1 (K : PySem.W.Frag) (C E : Addr) : List Bool := [decide (PySem.W.exmOne K (.ref (He.ga K "NotAProgram")) (.ref (He.ga K "RuleError")) = some true), decide (PySem.W.kitOne K (.type "NoneType") (.ref (He.ga K "NotAProgram")) = some false), oexB K (He.ga K "InvalidWorld"), decide (initP K (He.ga K "InvalidWorld")), decide (excP K (He.ga K "InvalidWorld")), decide (PySem.W.exmOne K (.ref (He.ga K "InvalidWorld")) (.ref (He.ga K "RuleError")) = some true), decide (PySem.W.kitOne K (.type "NoneType") (.ref (He.ga K "InvalidWorld")) = some false), oexB K (He.ga K "InvalidNames"), decide (initP K (He.ga K "InvalidNames")), decide (excP K (He.ga K "InvalidNames")), decide (PySem.W.exmOne K (.ref (He.ga K "InvalidNames")) (.ref (He.ga K "RuleError")) = some true), decide (PySem.W.kitOne K (.type "NoneType") (.ref (He.ga K "InvalidNames")) = some false)]
def exL2 (K : PySem.W.Frag) (C E : Addr) : List Bool := [decide (PySem.W.kitOne K (.ref (He.ga K "InvalidRule")) (.ref (He.ga K "InvalidRule")) = some true), decide (PySem.W.kitOne K (.ref (He.ga K "NotAProgram")) (.ref (He.ga K "InvalidRule")) = some false), decide (PySem.W.kitOne K (.ref (He.ga K "NotAProgram")) (.ref (He.ga K "NotAProgram")) = some true), decide (PySem.W.kitOne K (.ref (He.ga K "InvalidWorld")) (.ref (He.ga K "InvalidRule")) = some false), decide (PySem.W.kitOne K (.ref (He.ga K "InvalidWorld")) (.ref (He.ga K "NotAProgram")) = some false), decide (PySem.W.kitOne K (.ref (He.ga K "InvalidWorld")) (.ref (He.ga K "InvalidWorld")) = some true), decide (PySem.W.kitOne K (.ref (He.ga K "InvalidNames")) (.ref (He.ga K "InvalidRule")) = some false), decide (PySem.W.kitOne K (.ref (He.ga K "InvalidNames")) (.ref (He.ga K "NotAProgram")) = some false), decide (PySem.W.kitOne K (.ref (He.ga K "InvalidNames")) (.ref (He.ga K "InvalidWorld")) = some false), decide (PySem.W.kitOne K (.ref (He.ga K "InvalidNames")) (.ref (He.ga K "InvalidNames")) = some true), He5.wrapB K C "classmethod" "classmethod.__get__" "of", PySem.W.fnIn K (He5.wf K C "classmethod" "of")]
def exL3 (K : PySem.W.Frag) (C E : Addr) : List Bool := [He5.wrapB K C "classmethod" "classmethod.__get__" "facts", PySem.W.fnIn K (He5.wf K C "classmethod" "facts"), decide (PySem.W.findIn K (.ref C) "__add__" = some (some (.ref (He.ma K C "__add__")))), PySem.W.isFn K (.ref (He.ma K C "__add__")), decide (PySem.W.findIn K (.ref C) "__sub__" = some (some (.ref (He.ma K C "__sub__")))), PySem.W.isFn K (.ref (He.ma K C "__sub__")), binB K .Add C (He.ma K C "__add__") "NoneType", binB K .Add C (He.ma K C "__add__") "bool", binB K .Add C (He.ma K C "__add__") "int", binB K .Add C (He.ma K C "__add__") "str", binB K .Add C (He.ma K C "__add__") "list", binB K .Add C (He.ma K C "__add__") "tuple"]
def exL4 (K : PySem.W.Frag) (C E : Addr) : List Bool := [binB K .Add C (He.ma K C "__add__") "dict", binB K .Sub C (He.ma K C "__sub__") "NoneType", binB K .Sub C (He.ma K C "__sub__") "bool", binB K .Sub C (He.ma K C "__sub__") "int", binB K .Sub C (He.ma K C "__sub__") "str", binB K .Sub C (He.ma K C "__sub__") "list", binB K .Sub C (He.ma K C "__sub__") "tuple", binB K .Sub C (He.ma K C "__sub__") "dict", emptyB K (He.dflAt ("rule", none) 0 K), emptyB K (He.dflAt ("rule", none) 1 K), emptyB K (He.dflAt ("rule", none) 2 K), emptyB K (He.dflAt ("rule", none) 3 K)]
def exL5 (K : PySem.W.Frag) (C E : Addr) : List Bool := [emptyB K (He.dflAt ("choice", none) 0 K), emptyB K (He.dflAt ("choice", none) 1 K)]
def exL (K : PySem.W.Frag) (C E : Addr) : List Bool := exL0 K C E ++ exL1 K C E ++ exL2 K C E ++ exL3 K C E ++ exL4 K C E ++ exL5 K C E
def exB (K : PySem.W.Frag) : Bool := (exL K (He.ga K "Program") (He.ga K "NotAProgram")).all id
theorem exL_at {K : PySem.W.Frag} {C E : Addr} (h : (exL K C E).all id = true) (i : Nat) {b : Bool} (e : (exL K C E)[i]? = some b) : b = true := List.all_eq_true.mp h b (List.mem_of_getElem? e)
theorem pgC_of {K : PySem.W.Frag} {mg : Str → Option Value} {C : Addr} (h : pgP K C) (m : mg "Program" = some (.ref C)) (c : Cls K C) : PgC K mg C := by
  obtain ⟨h1, h2, h3, h4, h5, h6, h7, h8, h9, h10, h11, h12⟩ := h
  exact ⟨h1, h2, h3, h4, h5, h6, h7, h8, m, c, h9, h10, h11, h12⟩
abbrev hR : PySem.W.OpenRow := PySem.W.OpenLaw.row PySem.Challenge.rw_ruleworlds_k02_what_programs_refuse
abbrev hH : PySem.W.Hook := hookY 6 hfa hfn exB
def hob (s : PySem.W.SharedT) : He.AlD × Bool := obY 6 hfa hfn exB (HandSHeadRun.getT s)
theorem hob_eq (s : PySem.W.SharedT) : hob s = hH.obs s.abs := obY_eq (HandSHeadRun.getT_eq s)
def hloose1 : List Str := ["_wall", "RuleError", "InvalidRule", "NotAProgram", "InvalidWorld", "InvalidNames", "Unreadable", "LETTERS", "NOT", "is_name", "is_world", "is_rule", "rule", "choice", "Program", "_are_names", "_set_of", "_written_rule", "_with_not", "_read_rule", "_halves", "_without_not", "_law_at", "_law_mixed", "_law_purse", "_law_draw", "_law_is_name", "_law_is_world", "_law_is_rule", "_law_are_names"]
def hloose2 : List Str := ["_law_world", "_law_bent", "_law_made", "_law_asked", "_law_first", "_law_right"]
def hloose : List Str := hloose1 ++ hloose2
theorem hrun (w : World) : HandSHeadRun.RunEq hR (PySem.W.view hR.prog [39]) hH hob 9000 hloose w := by
  intro os
  kernel_rfl
theorem hfacts {P : Program} {w : World} {K : PySem.W.Frag} {h : Heap} {mg : Str → Option Value} {f : Addr} (X : K.In h) (G : h.Ns mainGlobals mg) (hfa_ : mg ("law" : Str) = some (.ref f)) (c : He5.SaysA hfa hfn K) (ce : exB K = true) :
    ∃ fd : FuncData, (∀ (s : Shared) (v : Value), BindsTo s fd ⟨[v], []⟩ [("script", v)]) ∧ ∀ base : Heap, K.In base → base.Ns mainGlobals mg → FnOk P w K mg base CX0 11 f fd ["script"] (spLaw K) := by
  obtain ⟨fd0, D0⟩ := c.def_ 0 (d := dOf "is_name" sIsName) rfl
  have F0 : Fun K "is_name" "is_name" sIsName _ fd0 := fun_of D0
  have B0 := D0.bindsN (ps := ["thing"]) fun _ _ _ _ _ _ us hl => match us, hl with | [_], _ => rfl
  have M0 : mg "is_name" = _ := He.glo_ok X G (c.fact 22 (f := .glo "is_name") rfl)
  obtain ⟨fd1, D1⟩ := c.def_ 1 (d := dOf "_are_names" sAreNames) rfl
  have F1 : Fun K "_are_names" "_are_names" sAreNames _ fd1 := fun_of D1
  have B1 := D1.bindsN (ps := ["thing"]) fun _ _ _ _ _ _ us hl => match us, hl with | [_], _ => rfl
  have M1 : mg "_are_names" = _ := He.glo_ok X G (c.fact 23 (f := .glo "_are_names") rfl)
  obtain ⟨fd2, D2⟩ := c.def_ 2 (d := dOf "_set_of" sSetOf) rfl
  have F2 : Fun K "_set_of" "_set_of" sSetOf _ fd2 := fun_of D2
  have B2 := D2.bindsN (ps := ["names"]) fun _ _ _ _ _ _ us hl => match us, hl with | [_], _ => rfl
  have M2 : mg "_set_of" = _ := He.glo_ok X G (c.fact 24 (f := .glo "_set_of") rfl)
  obtain ⟨fd3, D3⟩ := c.def_ 3 (d := dOf "is_world" sIsWorld) rfl
  have F3 : Fun K "is_world" "is_world" sIsWorld _ fd3 := fun_of D3
  have B3 := D3.bindsN (ps := ["thing"]) fun _ _ _ _ _ _ us hl => match us, hl with | [_], _ => rfl
  have M3 : mg "is_world" = _ := He.glo_ok X G (c.fact 25 (f := .glo "is_world") rfl)
  obtain ⟨fd4, D4⟩ := c.def_ 4 (d := dOf "is_rule" sIsRule) rfl
  have F4 : Fun K "is_rule" "is_rule" sIsRule _ fd4 := fun_of D4
  have B4 := D4.bindsN (ps := ["thing"]) fun _ _ _ _ _ _ us hl => match us, hl with | [_], _ => rfl
  have M4 : mg "is_rule" = _ := He.glo_ok X G (c.fact 26 (f := .glo "is_rule") rfl)
  obtain ⟨fd5, D5⟩ := c.def_ 5 (d := dOf "_law_at" sLawAt) rfl
  have F5 : Fun K "_law_at" "_law_at" sLawAt _ fd5 := fun_of D5
  have B5 := D5.bindsN (ps := ["script", "k"]) fun _ _ _ _ _ _ us hl => match us, hl with | [_, _], _ => rfl
  have M5 : mg "_law_at" = _ := He.glo_ok X G (c.fact 27 (f := .glo "_law_at") rfl)
  obtain ⟨fd6, D6⟩ := c.def_ 6 (d := dOf "_law_mixed" sLawMixed) rfl
  have F6 : Fun K "_law_mixed" "_law_mixed" sLawMixed _ fd6 := fun_of D6
  have B6 := D6.bindsN (ps := ["cell", "k"]) fun _ _ _ _ _ _ us hl => match us, hl with | [_, _], _ => rfl
  have M6 : mg "_law_mixed" = _ := He.glo_ok X G (c.fact 28 (f := .glo "_law_mixed") rfl)
  obtain ⟨fd7, D7⟩ := c.def_ 7 (d := dOf "_law_purse" sLawPurse) rfl
  have F7 : Fun K "_law_purse" "_law_purse" sLawPurse _ fd7 := fun_of D7
  have B7 := D7.bindsN (ps := ["script", "at"]) fun _ _ _ _ _ _ us hl => match us, hl with | [_, _], _ => rfl
  have M7 : mg "_law_purse" = _ := He.glo_ok X G (c.fact 29 (f := .glo "_law_purse") rfl)
  obtain ⟨fd8, D8⟩ := c.def_ 8 (d := dOf "_law_draw" sLawDraw) rfl
  have F8 : Fun K "_law_draw" "_law_draw" sLawDraw _ fd8 := fun_of D8
  have B8 := D8.bindsN (ps := ["purse", "out_of"]) fun _ _ _ _ _ _ us hl => match us, hl with | [_, _], _ => rfl
  have M8 : mg "_law_draw" = _ := He.glo_ok X G (c.fact 30 (f := .glo "_law_draw") rfl)
  obtain ⟨fd9, D9⟩ := c.def_ 9 (d := dOf "_law_is_name" sLawIsName) rfl
  have F9 : Fun K "_law_is_name" "_law_is_name" sLawIsName _ fd9 := fun_of D9
  have B9 := D9.bindsN (ps := ["item"]) fun _ _ _ _ _ _ us hl => match us, hl with | [_], _ => rfl
  have M9 : mg "_law_is_name" = _ := He.glo_ok X G (c.fact 31 (f := .glo "_law_is_name") rfl)
  obtain ⟨fd10, D10⟩ := c.def_ 10 (d := dOf "_law_is_world" sLawIsWorld) rfl
  have F10 : Fun K "_law_is_world" "_law_is_world" sLawIsWorld _ fd10 := fun_of D10
  have B10 := D10.bindsN (ps := ["item"]) fun _ _ _ _ _ _ us hl => match us, hl with | [_], _ => rfl
  have M10 : mg "_law_is_world" = _ := He.glo_ok X G (c.fact 32 (f := .glo "_law_is_world") rfl)
  obtain ⟨fd11, D11⟩ := c.def_ 11 (d := dOf "_law_is_rule" sLawIsRule) rfl
  have F11 : Fun K "_law_is_rule" "_law_is_rule" sLawIsRule _ fd11 := fun_of D11
  have B11 := D11.bindsN (ps := ["item"]) fun _ _ _ _ _ _ us hl => match us, hl with | [_], _ => rfl
  have M11 : mg "_law_is_rule" = _ := He.glo_ok X G (c.fact 33 (f := .glo "_law_is_rule") rfl)
  obtain ⟨fd12, D12⟩ := c.def_ 12 (d := dOf "_law_are_names" sLawAre) rfl
  have F12 : Fun K "_law_are_names" "_law_are_names" sLawAre _ fd12 := fun_of D12
  have B12 := D12.bindsN (ps := ["item"]) fun _ _ _ _ _ _ us hl => match us, hl with | [_], _ => rfl
  have M12 : mg "_law_are_names" = _ := He.glo_ok X G (c.fact 34 (f := .glo "_law_are_names") rfl)
  obtain ⟨fd13, D13⟩ := c.def_ 13 (d := dOf "_law_world" sLawWorld) rfl
  have F13 : Fun K "_law_world" "_law_world" sLawWorld _ fd13 := fun_of D13
  have B13 := D13.bindsN (ps := ["purse"]) fun _ _ _ _ _ _ us hl => match us, hl with | [_], _ => rfl
  have M13 : mg "_law_world" = _ := He.glo_ok X G (c.fact 35 (f := .glo "_law_world") rfl)
  obtain ⟨fd14, D14⟩ := c.def_ 14 (d := dOf "_law_bent" sLawBent) rfl
  have F14 : Fun K "_law_bent" "_law_bent" sLawBent _ fd14 := fun_of D14
  have B14 := D14.bindsN (ps := ["purse"]) fun _ _ _ _ _ _ us hl => match us, hl with | [_], _ => rfl
  have M14 : mg "_law_bent" = _ := He.glo_ok X G (c.fact 36 (f := .glo "_law_bent") rfl)
  obtain ⟨fd15, D15⟩ := c.def_ 15 (d := dOf "_law_made" sLawMade) rfl
  have F15 : Fun K "_law_made" "_law_made" sLawMade _ fd15 := fun_of D15
  have B15 := D15.bindsN (ps := ["way", "one", "two", "three"]) fun _ _ _ _ _ _ us hl => match us, hl with | [_, _, _, _], _ => rfl
  have M15 : mg "_law_made" = _ := He.glo_ok X G (c.fact 37 (f := .glo "_law_made") rfl)
  obtain ⟨fd16, D16⟩ := c.def_ 16 (d := dOf "_law_asked" sLawAsked) rfl
  have F16 : Fun K "_law_asked" "_law_asked" sLawAsked _ fd16 := fun_of D16
  have B16 := D16.bindsN (ps := ["way", "one", "two", "three"]) fun _ _ _ _ _ _ us hl => match us, hl with | [_, _, _, _], _ => rfl
  have M16 : mg "_law_asked" = _ := He.glo_ok X G (c.fact 38 (f := .glo "_law_asked") rfl)
  obtain ⟨fd17, D17⟩ := c.def_ 17 (d := dOf "_law_first" sLawFirst) rfl
  have F17 : Fun K "_law_first" "_law_first" sLawFirst _ fd17 := fun_of D17
  have B17 := D17.bindsN (ps := ["word", "things", "checks", "good"]) fun _ _ _ _ _ _ us hl => match us, hl with | [_, _, _, _], _ => rfl
  have M17 : mg "_law_first" = _ := He.glo_ok X G (c.fact 39 (f := .glo "_law_first") rfl)
  obtain ⟨fd18, D18⟩ := c.def_ 18 (d := dOf "_law_right" sRight) rfl
  have F18 : Fun K "_law_right" "_law_right" sRight _ fd18 := fun_of D18
  have B18 := D18.bindsN (ps := ["purse"]) fun _ _ _ _ _ _ us hl => match us, hl with | [_], _ => rfl
  have M18 : mg "_law_right" = _ := He.glo_ok X G (c.fact 40 (f := .glo "_law_right") rfl)
  obtain ⟨fd19, D19⟩ := c.def_ 19 (d := dOf "law" sLaw) rfl
  have F19 : Fun K "law" "law" sLaw _ fd19 := fun_of D19
  have B19 := D19.bindsN (ps := ["script"]) fun _ _ _ _ _ _ us hl => match us, hl with | [_], _ => rfl
  have M19 : mg "law" = _ := He.glo_ok X G (c.fact 41 (f := .glo "law") rfl)
  obtain ⟨fdInit, DInit⟩ := c.def_ 20 (d := dMInit) rfl
  have FInit : Fun K "__init__" "Program.__init__" sInit _ fdInit := fun_of DInit
  obtain ⟨fdOf, DOf⟩ := c.def_ 21 (d := dMOf) rfl
  have FOf : Fun K "of" "Program.of" sOf _ fdOf := fun_of DOf
  have BOf := DOf.bindsN (ps := ["cls", "rules"]) fun _ _ _ _ _ _ us hl => match us, hl with | [_, _], _ => rfl
  obtain ⟨fdFacts, DFacts⟩ := c.def_ 22 (d := dMFacts) rfl
  have FFacts : Fun K "facts" "Program.facts" sFacts _ fdFacts := fun_of DFacts
  have BFacts := DFacts.bindsN (ps := ["cls", "world"]) fun _ _ _ _ _ _ us hl => match us, hl with | [_, _], _ => rfl
  obtain ⟨fdAdd, DAdd⟩ := c.def_ 23 (d := dMAdd) rfl
  have FAdd : Fun K "__add__" "Program.__add__" sAdd _ fdAdd := fun_of DAdd
  have BAdd := DAdd.bindsN (ps := ["self", "other"]) fun _ _ _ _ _ _ us hl => match us, hl with | [_, _], _ => rfl
  obtain ⟨fdSub, DSub⟩ := c.def_ 24 (d := dMSub) rfl
  have FSub : Fun K "__sub__" "Program.__sub__" sSub _ fdSub := fun_of DSub
  have BSub := DSub.bindsN (ps := ["self", "other"]) fun _ _ _ _ _ _ us hl => match us, hl with | [_, _], _ => rfl
  obtain ⟨fdERule, DERule⟩ := c.def_ 25 (d := dMERule) rfl
  have EERule : FunD K "__init__" "InvalidRule.__init__" (defArgs sERule) (defBody sERule) (defScope sERule) [.non] [] _ fdERule := DERule
  obtain ⟨dsERule, vERule, BERule⟩ := EERule.binds1 (ps := ["self", "place"]) 2 1 (by simp) rfl fun T kV doc pm an cdv ct us its h1 h2 => match us, its, h1, h2 with | [_, _], [_], _, _ => ⟨_, rfl, rfl⟩
  cases vERule
  obtain ⟨fdEWorld, DEWorld⟩ := c.def_ 26 (d := dMEWorld) rfl
  have EEWorld : FunD K "__init__" "InvalidWorld.__init__" (defArgs sEWorld) (defBody sEWorld) (defScope sEWorld) [.non] [] _ fdEWorld := DEWorld
  obtain ⟨dsEWorld, vEWorld, BEWorld⟩ := EEWorld.binds1 (ps := ["self", "thing"]) 2 1 (by simp) rfl fun T kV doc pm an cdv ct us its h1 h2 => match us, its, h1, h2 with | [_, _], [_], _, _ => ⟨_, rfl, rfl⟩
  cases vEWorld
  obtain ⟨fdENames, DENames⟩ := c.def_ 27 (d := dMENames) rfl
  have EENames : FunD K "__init__" "InvalidNames.__init__" (defArgs sENames) (defBody sENames) (defScope sENames) [.non] [] _ fdENames := DENames
  obtain ⟨dsENames, vENames, BENames⟩ := EENames.binds1 (ps := ["self", "thing"]) 2 1 (by simp) rfl fun T kV doc pm an cdv ct us its h1 h2 => match us, its, h1, h2 with | [_, _], [_], _, _ => ⟨_, rfl, rfl⟩
  cases vENames
  obtain ⟨fdENotProg, DENotProg⟩ := c.def_ 28 (d := dMENotProg) rfl
  have EENotProg : FunD K "__init__" "NotAProgram.__init__" (defArgs sENotProg) (defBody sENotProg) (defScope sENotProg) [.non] [] _ fdENotProg := DENotProg
  obtain ⟨dsENotProg, vENotProg, BENotProg⟩ := EENotProg.binds1 (ps := ["self", "thing"]) 2 1 (by simp) rfl fun T kV doc pm an cdv ct us its h1 h2 => match us, its, h1, h2 with | [_, _], [_], _, _ => ⟨_, rfl, rfl⟩
  cases vENotProg
  obtain ⟨fdRule, DRule⟩ := c.def_ 29 (d := dMRule) rfl
  have DFRule : FunD K "rule" "rule" (defArgs sRule) (defBody sRule) (defScope sRule) [.ref (He.dflAt ("rule", none) 0 K), .ref (He.dflAt ("rule", none) 1 K), .ref (He.dflAt ("rule", none) 2 K), .ref (He.dflAt ("rule", none) 3 K)] [] _ fdRule := DRule
  have MRule : mg "rule" = _ := He.glo_ok X G (c.fact 42 (f := .glo "rule") rfl)
  obtain ⟨fdChoice, DChoice⟩ := c.def_ 30 (d := dMChoice) rfl
  have DFChoice : FunD K "choice" "choice" (defArgs sChoice) (defBody sChoice) (defScope sChoice) [.ref (He.dflAt ("choice", none) 0 K), .ref (He.dflAt ("choice", none) 1 K)] [] _ fdChoice := DChoice
  have MChoice : mg "choice" = _ := He.glo_ok X G (c.fact 43 (f := .glo "choice") rfl)
  obtain ⟨dsRule4, vRule4, BRule4⟩ := DFRule.binds1 (ps := ["heads", "needs", "bars", "denied"]) 4 4 (by simp) rfl fun T kV doc pm an cdv ct us its h1 h2 => match us, its, h1, h2 with | [_, _, _, _], [_, _, _, _], _, _ => ⟨_, rfl, rfl⟩
  cases vRule4
  obtain ⟨dsRule1, vRule1, BRule1⟩ := DFRule.binds1 (ps := ["heads", "needs", "bars", "denied"]) 1 1 (by simp) rfl fun T kV doc pm an cdv ct us its h1 h2 => match us, its, h1, h2 with | [_], [_, _, _, _], _, _ => ⟨_, rfl, rfl⟩
  obtain ⟨itsKB5, vKB5, KB5⟩ := kbn_def (ps := ["heads", "needs", "bars", "denied"]) DFRule (by simp) 0 ["heads", "denied", "needs"] (fun us its ws => match its, ws with | [_, _, b, _], [h, d, n] => [h, n, b, d] | _, _ => []) (fun _ zs => match zs with | [h, d, n] => [h, n, .ref (He.dflAt ("rule", none) 2 K), d] | _ => [])
    (fun T kV doc pm an cdv ct us its ws h1 h2 h3 => match us, its, ws, h1, h2, h3 with | [], [_, _, _, _], [_, _, _], _, _, _ => ⟨_, rfl, rfl⟩)
    (fun {vs us its zs ws} a b c => by
      cases b with
      | cons b0 b =>
        cases b with
        | cons b1 b =>
          cases b with
          | cons b2 b =>
            cases b with
            | cons b3 b =>
              cases b
              match zs, ws, c with
              | [], [], _ => exact .nil
              | [_], [_], _ => exact .nil
              | [_, _], [_, _], _ => exact .nil
              | [_, _, _], [_, _, _], .cons c0 (.cons c1 (.cons c2 .nil)) => exact .cons c0 (.cons c2 (.cons b2 (.cons c1 .nil)))
              | _ :: _ :: _ :: _ :: _, _ :: _ :: _ :: _ :: _, _ => exact .nil)
  obtain ⟨itsKB6, vKB6, KB6⟩ := kbn_def (ps := ["heads", "needs", "bars", "denied"]) DFRule (by simp) 0 ["bars", "denied"] (fun us its ws => match its, ws with | [h, n, _, _], [b, d] => [h, n, b, d] | _, _ => []) (fun _ zs => match zs with | [b, d] => [.ref (He.dflAt ("rule", none) 0 K), .ref (He.dflAt ("rule", none) 1 K), b, d] | _ => [])
    (fun T kV doc pm an cdv ct us its ws h1 h2 h3 => match us, its, ws, h1, h2, h3 with | [], [_, _, _, _], [_, _], _, _, _ => ⟨_, rfl, rfl⟩)
    (fun {vs us its zs ws} a b c => by
      cases b with
      | cons b0 b =>
        cases b with
        | cons b1 b =>
          cases b with
          | cons b2 b =>
            cases b with
            | cons b3 b =>
              cases b
              match zs, ws, c with
              | [], [], _ => exact .nil
              | [_], [_], _ => exact .nil
              | [_, _], [_, _], .cons c0 (.cons c1 .nil) => exact .cons b0 (.cons b1 (.cons c0 (.cons c1 .nil)))
              | _ :: _ :: _ :: _, _ :: _ :: _ :: _, _ => exact .nil)
  obtain ⟨itsKB9, vKB9, KB9⟩ := kbn_def (ps := ["heads", "needs", "bars", "denied"]) DFRule (by simp) 1 ["bars"] (fun us its ws => match us, its, ws with | [h], [_, n, _, d], [b] => [h, n, b, d] | _, _, _ => []) (fun vs zs => match vs, zs with | [h], [b] => [h, .ref (He.dflAt ("rule", none) 1 K), b, .ref (He.dflAt ("rule", none) 3 K)] | _, _ => [])
    (fun T kV doc pm an cdv ct us its ws h1 h2 h3 => match us, its, ws, h1, h2, h3 with | [_], [_, _, _, _], [_], _, _, _ => ⟨_, rfl, rfl⟩)
    (fun {vs us its zs ws} a b c => by
      cases b with
      | cons b0 b =>
        cases b with
        | cons b1 b =>
          cases b with
          | cons b2 b =>
            cases b with
            | cons b3 b =>
              cases b
              match vs, us, a, zs, ws, c with
              | [], [], _, _, _, _ => exact .nil
              | [_], [_], .cons a0 .nil, [_], [_], .cons c0 .nil => exact .cons a0 (.cons b1 (.cons c0 (.cons b3 .nil)))
              | [_], [_], _, [], [], _ => exact .nil
              | [_], [_], _, _ :: _ :: _, _ :: _ :: _, _ => exact .nil
              | _ :: _ :: _, _ :: _ :: _, _, _, _, _ => exact .nil)
  obtain ⟨itsKB7, vKB7, KB7⟩ := kbn_def (ps := ["name", "needs", "bars"]) DFChoice (by simp) 1 ["bars", "needs"] (fun us its ws => match us, its, ws with | [h], _, [b, n] => [h, n, b] | _, _, _ => []) (fun vs zs => match vs, zs with | [h], [b, n] => [h, n, b] | _, _ => [])
    (fun T kV doc pm an cdv ct us its ws h1 h2 h3 => match us, its, ws, h1, h2, h3 with | [_], [_, _], [_, _], _, _, _ => ⟨_, rfl, rfl⟩)
    (fun {vs us its zs ws} a b c => by
      cases b with
      | cons b0 b =>
        cases b with
        | cons b1 b =>
          cases b
          match vs, us, a, zs, ws, c with
          | [], [], _, _, _, _ => exact .nil
          | [_], [_], .cons a0 .nil, [_, _], [_, _], .cons c0 (.cons c1 .nil) => exact .cons a0 (.cons c1 (.cons c0 .nil))
          | [_], [_], _, [], [], _ => exact .nil
          | [_], [_], _, [_], [_], _ => exact .nil
          | [_], [_], _, _ :: _ :: _ :: _, _ :: _ :: _ :: _, _ => exact .nil
          | _ :: _ :: _, _ :: _ :: _, _, _, _, _ => exact .nil)
  have mProgram : mg "Program" = _ := He.glo_ok X G (c.fact 16 (f := .glo "Program") rfl)
  have mInvalidRule : mg "InvalidRule" = _ := He.glo_ok X G (c.fact 17 (f := .glo "InvalidRule") rfl)
  have mNotAProgram : mg "NotAProgram" = _ := He.glo_ok X G (c.fact 18 (f := .glo "NotAProgram") rfl)
  have mInvalidWorld : mg "InvalidWorld" = _ := He.glo_ok X G (c.fact 19 (f := .glo "InvalidWorld") rfl)
  have mInvalidNames : mg "InvalidNames" = _ := He.glo_ok X G (c.fact 20 (f := .glo "InvalidNames") rfl)
  have mRuleError : mg "RuleError" = _ := He.glo_ok X G (c.fact 21 (f := .glo "RuleError") rfl)
  have T : Bl mg := ⟨He.free_ok X G (c.fact 0 (f := .free "len") rfl), He.free_ok X G (c.fact 1 (f := .free "isinstance") rfl), He.free_ok X G (c.fact 2 (f := .free "all") rfl), He.free_ok X G (c.fact 3 (f := .free "any") rfl), He.free_ok X G (c.fact 4 (f := .free "tuple") rfl), He.free_ok X G (c.fact 5 (f := .free "list") rfl), He.free_ok X G (c.fact 6 (f := .free "sorted") rfl), He.free_ok X G (c.fact 7 (f := .free "set") rfl), He.free_ok X G (c.fact 8 (f := .free "str") rfl), He.free_ok X G (c.fact 9 (f := .free "int") rfl), He.free_ok X G (c.fact 10 (f := .free "max") rfl), He.free_ok X G (c.fact 11 (f := .free "min") rfl), He.free_ok X G (c.fact 12 (f := .free "range") rfl), He.free_ok X G (c.fact 13 (f := .free "enumerate") rfl)⟩
  have Tz := He.free_ok X G (c.fact 14 (f := .free "zip") rfl)
  have mL := He.str_ok X G (c.fact 15 (f := .str "LETTERS" lettersS) rfl)
  have cP := He.cls_ok (c.fact 44 (f := .cls "Program") rfl)
  have nR := He.noat_ok (c.fact 45 (f := .noat "Program" "_rules") rfl)
  have MK := He.mkr_ok (c.fact 46 (f := .mkr "Program") rfl)
  have noInvalidRule := He.noat_ok (c.fact 47 (f := .noat "InvalidRule" "place") rfl)
  have noNotAProgram := He.noat_ok (c.fact 48 (f := .noat "NotAProgram" "thing") rfl)
  have noInvalidWorld := He.noat_ok (c.fact 49 (f := .noat "InvalidWorld" "thing") rfl)
  have noInvalidNames := He.noat_ok (c.fact 50 (f := .noat "InvalidNames" "thing") rfl)
  have ce' : (exL K (He.ga K "Program") (He.ga K "NotAProgram")).all id = true := ce
  have PG := pgC_of (of_decide_eq_true (exL_at ce' 0 rfl)) mProgram cP
  obtain ⟨rd1, rd2⟩ := (of_decide_eq_true (exL_at ce' 1 rfl))
  have CR : CRead K (He.ga K "Program") (.type "type") := ⟨rd1, rd2⟩
  have sf := (exL_at ce' 2 rfl)
  have nt := (of_decide_eq_true (exL_at ce' 3 rfl))
  have CO := He5.cmet_of (exL_at ce' 34 rfl) (exL_at ce' 35 rfl)
  have CF := He5.cmet_of (exL_at ce' 36 rfl) (exL_at ce' 37 rfl)
  have hadd := (of_decide_eq_true (exL_at ce' 38 rfl))
  have jadd := (exL_at ce' 39 rfl)
  have hsub := (of_decide_eq_true (exL_at ce' 40 rfl))
  have jsub := (exL_at ce' 41 rfl)
  have BTAdd : ∀ d : PyData, BinT K .Add (He.ga K "Program") (He.ma K (He.ga K "Program") "__add__") (tyName d) := fun d => by
    cases d with
    | none => exact binB_ok (exL_at ce' 42 rfl)
    | bool _ => exact binB_ok (exL_at ce' 43 rfl)
    | int _ => exact binB_ok (exL_at ce' 44 rfl)
    | str _ => exact binB_ok (exL_at ce' 45 rfl)
    | list _ => exact binB_ok (exL_at ce' 46 rfl)
    | tuple _ => exact binB_ok (exL_at ce' 47 rfl)
    | dict _ => exact binB_ok (exL_at ce' 48 rfl)
  have BTSub : ∀ d : PyData, BinT K .Sub (He.ga K "Program") (He.ma K (He.ga K "Program") "__sub__") (tyName d) := fun d => by
    cases d with
    | none => exact binB_ok (exL_at ce' 49 rfl)
    | bool _ => exact binB_ok (exL_at ce' 50 rfl)
    | int _ => exact binB_ok (exL_at ce' 51 rfl)
    | str _ => exact binB_ok (exL_at ce' 52 rfl)
    | list _ => exact binB_ok (exL_at ce' 53 rfl)
    | tuple _ => exact binB_ok (exL_at ce' 54 rfl)
    | dict _ => exact binB_ok (exL_at ce' 55 rfl)
  obtain ⟨iInvalidRule1, iInvalidRule2⟩ := (of_decide_eq_true (exL_at ce' 5 rfl))
  obtain ⟨iNotAProgram1, iNotAProgram2⟩ := (of_decide_eq_true (exL_at ce' 10 rfl))
  obtain ⟨iInvalidWorld1, iInvalidWorld2⟩ := (of_decide_eq_true (exL_at ce' 15 rfl))
  obtain ⟨iInvalidNames1, iInvalidNames2⟩ := (of_decide_eq_true (exL_at ce' 20 rfl))
  have EQ : ErrQ K mg (He.ga K "InvalidRule") (He.ga K "NotAProgram") (He.ga K "InvalidWorld") (He.ga K "InvalidNames") (He.ga K "RuleError") := ⟨mInvalidRule, mNotAProgram, mInvalidWorld, mInvalidNames, mRuleError, (of_decide_eq_true (exL_at ce' 7 rfl)), (of_decide_eq_true (exL_at ce' 12 rfl)), (of_decide_eq_true (exL_at ce' 17 rfl)), (of_decide_eq_true (exL_at ce' 22 rfl)), excP_ok (of_decide_eq_true (exL_at ce' 6 rfl)), excP_ok (of_decide_eq_true (exL_at ce' 11 rfl)), excP_ok (of_decide_eq_true (exL_at ce' 16 rfl)), excP_ok (of_decide_eq_true (exL_at ce' 21 rfl)), noInvalidRule, noNotAProgram, noInvalidWorld, noInvalidNames, (of_decide_eq_true (exL_at ce' 8 rfl)), (of_decide_eq_true (exL_at ce' 13 rfl)), (of_decide_eq_true (exL_at ce' 18 rfl)), (of_decide_eq_true (exL_at ce' 23 rfl)), (of_decide_eq_true (exL_at ce' 24 rfl)), (of_decide_eq_true (exL_at ce' 25 rfl)), (of_decide_eq_true (exL_at ce' 26 rfl)), (of_decide_eq_true (exL_at ce' 27 rfl)), (of_decide_eq_true (exL_at ce' 28 rfl)), (of_decide_eq_true (exL_at ce' 29 rfl)), (of_decide_eq_true (exL_at ce' 30 rfl)), (of_decide_eq_true (exL_at ce' 31 rfl)), (of_decide_eq_true (exL_at ce' 32 rfl)), (of_decide_eq_true (exL_at ce' 33 rfl))⟩
  have emrule0 := emptyB_ok (exL_at ce' 56 rfl)
  have emrule1 := emptyB_ok (exL_at ce' 57 rfl)
  have emrule2 := emptyB_ok (exL_at ce' 58 rfl)
  have emrule3 := emptyB_ok (exL_at ce' 59 rfl)
  have emchoice0 := emptyB_ok (exL_at ce' 60 rfl)
  have emchoice1 := emptyB_ok (exL_at ce' 61 rfl)
  have e := hfa_.symm.trans M19
  cases e
  refine ⟨fd19, fun s v => ?_, fun base _ _ => ?_⟩
  · exact FunD.bindsA (ps := ["script"]) D19 (fun _ _ _ _ _ _ us hl => match us, hl with | [_], _ => rfl) s [v] rfl
  have gIsName : ∀ k, FnOk P w K mg base CX0 (k + 1) _ fd0 ["thing"] (spIsName K) := fun k => ok_isName (k := k) F0 T mL
  have gAre : ∀ k, FnOk P w K mg base CX0 (k + 2) _ fd1 ["thing"] (spAreNames K) := fun k => ok_areNames (k := k + 1) F1 T (gIsName k) B0 F0.kp M0
  have gAreL : ∀ k, FnOk P w K mg base CX0 (k + 2) _ fd1 ["thing"] (spAreNamesL K) := fun k => ok_areNamesL (k := k + 1) F1 T (gIsName k) B0 F0.kp M0
  have gAreG : ∀ k, FnOk P w K mg base CX0 (k + 2) _ fd1 ["thing"] (spAreNamesG K) := fun k => ok_areNamesG (gAre k) (gAreL k)
  have gSet : ∀ k, FnOk P w K mg base CX0 (k + 1) _ fd2 ["names"] (spSetOf K) := fun k => ok_setOf (k := k) F2 T
  have gIsW : ∀ k, FnOk P w K mg base CX0 (k + 3) _ fd3 ["thing"] (spIsWorld K) := fun k => ok_isWorld (k := k + 2) F3 T (gAre k) B1 F1.kp M1 (gSet (k + 1)) B2 F2.kp M2
  have gIsR : ∀ k, FnOk P w K mg base CX0 (k + 4) _ fd4 ["thing"] (spIsRule K) := fun k => ok_isRule (k := k + 3) F4 T (gIsW k) B3 F3.kp M3
  have gAt : ∀ k, FnOk P w K mg base CX0 (k + 1) _ fd5 ["script", "k"] (spLawAt K) := fun k => ok_lawAt (k := k) F5 T
  have gMix : ∀ k, FnOk P w K mg base CX0 (k + 1) _ fd6 ["cell", "k"] (spLawMixed) := fun k => ok_lawMixed (k := k) F6 T
  have gPur : ∀ k, FnOk P w K mg base CX0 (k + 2) _ fd7 ["script", "at"] (spLawPurse K) := fun k => ok_lawPurse (k := k + 1) F7 T (gAt k) B5 F5.kp M5
  have gDraw : ∀ k, FnOk P w K mg base CX0 (k + 2) _ fd8 ["purse", "out_of"] (spLawDraw) := fun k => ok_lawDraw (k := k + 1) F8 T (gMix k) B6 F6.kp M6
  have gIsNameX : ∀ k, FnOk P w K mg base CX0 (k + 1) _ fd0 ["thing"] (spIsNameX K) := fun k => ok_isNameX (gIsName k) (ok_isNameN (k := k) F0 T mL)
  have gAreX : ∀ k, FnOk P w K mg base CX0 (k + 2) _ fd1 ["thing"] (spAreX K) := fun k => ok_areX (gAre k) (ok_areL (k := k + 1) F1 T (gIsName k) B0 F0.kp M0) (ok_areN (k := k + 1) F1 T (gIsName k) B0 F0.kp M0)
  have gIsWX : ∀ k, FnOk P w K mg base CX0 (k + 3) _ fd3 ["thing"] (spIsWorldX K) := fun k => ok_isWorldX (gIsW k) (ok_isWorldN (k := k + 2) F3 T (gAre k) B1 F1.kp M1 (gSet (k + 1)) B2 F2.kp M2)
  have gIsRX : ∀ k, FnOk P w K mg base CX0 (k + 4) _ fd4 ["thing"] (spIsRuleX K) := fun k => ok_isRuleX (k := k + 3) F4 T (gIsWX k) B3 F3.kp M3
  have gLName : ∀ k, FnOk P w K mg base CX0 (k + 1) _ fd9 ["item"] (spIsNameX K) := fun k => ok_lawIsName (k := k) F9 T
  have gLAre : ∀ k, FnOk P w K mg base CX0 (k + 2) _ fd12 ["item"] (spAreX K) := fun k => ok_lawAre (k := k + 1) F12 T (gLName k) B9 F9.kp M9
  have gLWorld : ∀ k, FnOk P w K mg base CX0 (k + 2) _ fd10 ["item"] (spIsWorldX K) := fun k => ok_lawIsWorld (k := k + 1) F10 T (gLName k) B9 F9.kp M9
  have gLRule : ∀ k, FnOk P w K mg base CX0 (k + 3) _ fd11 ["item"] (spIsRuleX K) := fun k => ok_lawIsRule (k := k + 2) F11 T (gLWorld k) B10 F10.kp M10
  have gWorld : ∀ k, FnOk P w K mg base CX0 (k + 3) _ fd13 ["purse"] (spLawWorld K) := fun k => ok_lawWorld (k := k + 2) F13 (gDraw k) B8 F8.kp M8
  have gBent : ∀ k, FnOk P w K mg base CX0 (k + 4) _ fd14 ["purse"] (spLawBent K) := fun k => ok_lawBent (k := k + 3) F14 T (gDraw (k + 1)) B8 F8.kp M8 (gWorld k) B13 F13.kp M13
  have gFirst : ∀ k, FnOk P w K mg base CX0 (k + 1) _ fd17 ["word", "things", "checks", "good"] (spLawFirst K) := fun k => ok_lawFirst (k := k) F17 T Tz
  have xInvalidRule : ∀ k, ErrT P w K mg base (k + 1) "InvalidRule" "place" (He.ga K "InvalidRule") := fun k => ⟨oexB_ok (exL_at ce' 4 rfl), ⟨_, _, iInvalidRule1, iInvalidRule2, ok_eRule (k := k) EERule (oexB_ok (exL_at ce' 4 rfl)) noInvalidRule, BERule⟩, mInvalidRule⟩
  have xNotAProgram : ∀ k, ErrT P w K mg base (k + 1) "NotAProgram" "thing" (He.ga K "NotAProgram") := fun k => ⟨oexB_ok (exL_at ce' 9 rfl), ⟨_, _, iNotAProgram1, iNotAProgram2, ok_eNotProg (k := k) EENotProg (oexB_ok (exL_at ce' 9 rfl)) noNotAProgram, BENotProg⟩, mNotAProgram⟩
  have xInvalidWorld : ∀ k, ErrT P w K mg base (k + 1) "InvalidWorld" "thing" (He.ga K "InvalidWorld") := fun k => ⟨oexB_ok (exL_at ce' 14 rfl), ⟨_, _, iInvalidWorld1, iInvalidWorld2, ok_eWorld (k := k) EEWorld (oexB_ok (exL_at ce' 14 rfl)) noInvalidWorld, BEWorld⟩, mInvalidWorld⟩
  have xInvalidNames : ∀ k, ErrT P w K mg base (k + 1) "InvalidNames" "thing" (He.ga K "InvalidNames") := fun k => ⟨oexB_ok (exL_at ce' 19 rfl), ⟨_, _, iInvalidNames1, iInvalidNames2, ok_eNames (k := k) EENames (oexB_ok (exL_at ce' 19 rfl)) noInvalidNames, BENames⟩, mInvalidNames⟩
  have gInit : ∀ k, FnR P w K mg base CX0 (k + 5) _ (spInit K (He.ga K "Program")) := fun k => by
    obtain ⟨oc, od, kV, doc, pm, an, cdv, ct, osl, e, lk, hcd⟩ := FInit.ex
    subst e
    exact ok_init (k := k + 4) lk hcd T cP nR (gIsR k) B4 F4.kp M4
  have gInitR : ∀ k, FnR P w K mg base (L2.CX P w) (k + 5) _ (spInitR K (He.ga K "Program") (He.ga K "InvalidRule")) := fun k => by
    obtain ⟨oc, od, kV, doc, pm, an, cdv, ct, osl, e, lk, hcd⟩ := FInit.ex
    subst e
    exact ok_initR (k := k + 3) lk hcd T (xInvalidRule (k + 2)) (gIsRX k) B4 F4.kp M4
  have gInitX : ∀ k, FnR P w K mg base (L2.CX P w) (k + 5) _ (spInitX K (He.ga K "Program") (He.ga K "InvalidRule")) := fun k => fnr_or (fnR_up (gInit k)) (gInitR k)
  have gOfX : ∀ k, FnR P w K mg base (L2.CX P w) (k + 7) _ (spOfX K (He.ga K "Program") (He.ga K "InvalidRule")) := fun k => fnr_of (fn_or (fn_up (ok_of (k := k + 5) FOf MK (gInit k))) (ok_ofR (k := k + 5) FOf MK (gInitR k))) BOf
  have gRule : ∀ k, FnOk P w K mg base CX0 (k + 3) _ fdRule ["heads", "needs", "bars", "denied"] (spRuleG K) := fun k => ok_ruleG (k := k + 2) DFRule (gAreG k) B1 F1.kp M1 (gSet (k + 1)) B2 F2.kp M2
  have gRuleR : ∀ k, FnOk P w K mg base (L2.CX P w) (k + 3) _ fdRule ["heads", "needs", "bars", "denied"] (spRuleR K (He.ga K "InvalidNames")) := fun k => ok_ruleR (k := k + 1) DFRule (xInvalidNames k) (gAreX k) B1 F1.kp M1
  have gRuleX : ∀ k, FnOk P w K mg base (L2.CX P w) (k + 3) _ fdRule ["heads", "needs", "bars", "denied"] (spRuleX K (He.ga K "InvalidNames")) := fun k => fn_or (fn_up (gRule k)) (gRuleR k)
  have gChoiceX : ∀ k, FnOk P w K mg base (L2.CX P w) (k + 4) _ fdChoice ["name", "needs", "bars"] (spChoiceX K (He.ga K "InvalidNames")) := fun k => fn_or (fn_up (ok_choiceG (k := k + 3) DFChoice (gIsName (k + 2)) B0 F0.kp M0 (gRule k) BRule4 DFRule.kp MRule)) (ok_choiceR (k := k + 2) DFChoice (xInvalidNames (k + 1)) (gIsNameX (k + 2)) B0 F0.kp M0 (gRuleR k) BRule4 DFRule.kp MRule)
  have gFactsX : ∀ k, FnR P w K mg base (L2.CX P w) (k + 7) _ (spFactsX K (He.ga K "Program") (He.ga K "InvalidWorld")) := fun k => fnr_of (fn_or (fn_up (ok_facts (k := k + 5) FFacts MK (gInit k) (gIsW (k + 3)) B3 F3.kp M3 (gRule (k + 3)) BRule1 vRule1 DFRule.kp MRule emrule1 emrule2 emrule3)) (ok_factsR (k := k + 5) FFacts (xInvalidWorld (k + 4)) (gIsWX (k + 3)) B3 F3.kp M3)) BFacts
  have gAddX : ∀ k, FnR P w K mg base (L2.CX P w) (k + 7) _ (spAddX K (He.ga K "Program") (He.ga K "NotAProgram")) := fun k => fnr_of (fn_or (ok_add (k := k + 5) FAdd T PG nR (xNotAProgram (k + 4)) MK (gInit k)) (ok_addR (k := k + 5) FAdd T PG (xNotAProgram (k + 4)))) BAdd
  have gSubX : ∀ k, FnR P w K mg base (L2.CX P w) (k + 7) _ (spSubX K (He.ga K "Program") (He.ga K "NotAProgram")) := fun k => fnr_of (fn_or (ok_sub (k := k + 5) FSub T PG nR (xNotAProgram (k + 4)) MK (gInit k)) (ok_subR (k := k + 5) FSub T PG (xNotAProgram (k + 4)))) BSub
  have kbR := kbn_fun (ps := ["thing"]) F4 0 ["thing"] (fun _ ws => ws) (fun _ zs => zs) (fun _ _ _ _ _ _ us ws h1 h2 => match us, ws, h1, h2 with | [], [_], _, _ => rfl) fun a b => b
  have kbW := kbn_fun (ps := ["thing"]) F3 0 ["thing"] (fun _ ws => ws) (fun _ zs => zs) (fun _ _ _ _ _ _ us ws h1 h2 => match us, ws, h1, h2 with | [], [_], _, _ => rfl) fun a b => b
  have gMade : ∀ k, FnOk P w K mg base (L2.CX P w) (k + 8) _ fd15 ["way", "one", "two", "three"] (spLawMade K (He.ga K "Program") (He.ga K "InvalidRule") (He.ga K "NotAProgram") (He.ga K "InvalidWorld") (He.ga K "InvalidNames")) := fun k => ok_lawMade (k := k + 6) F15 PG CR CO (gOfX k) CF (gFactsX k) MK (gInitX (k + 1)) sf hadd jadd (gAddX k) BTAdd hsub jsub (gSubX k) BTSub (gRuleX (k + 4)) DFRule.kp MRule KB5 KB6 KB9 (gChoiceX (k + 3)) DFChoice.kp MChoice KB7 emrule0 emrule1 emrule2 emrule3
  have gAsked : ∀ k, FnOk P w K mg base CX0 (k + 9) _ fd16 ["way", "one", "two", "three"] (spLawAsked K (He.ga K "Program") (He.ga K "InvalidRule") (He.ga K "NotAProgram") (He.ga K "InvalidWorld") (He.ga K "InvalidNames")) := fun k => ok_lawAsked (k := k + 8) F16 T EQ (gMade k) B15 F15.kp M15
  have gRight : ∀ k, FnOk P w K mg base CX0 (k + 10) _ fd18 ["purse"] (spLawRight) := fun k => ok_lawRight (k := k + 9) F18 T (gBent (k + 5)) B14 F14.kp M14 (gIsRX (k + 5)) B4 F4.kp M4 kbR (gLRule (k + 6)) B11 F11.kp M11 (gAsked k) B16 F16.kp M16 (gFirst (k + 8)) B17 F17.kp M17 (gWorld (k + 6)) B13 F13.kp M13 (gIsWX (k + 6)) B3 F3.kp M3 kbW (gLWorld (k + 7)) B10 F10.kp M10 (gLAre (k + 7)) B12 F12.kp M12 (gDraw (k + 7)) B8 F8.kp M8 (gLName (k + 8)) B9 F9.kp M9
  exact ok_law (k := 9) F19 T PG MK (gInitX 4) nt (gAsked 1) B16 F16.kp M16 (gPur 8) B7 F7.kp M7 (gRight 0) B18 F18.kp M18
end Rw
open PySem PySem.W PySem.Calls PyProof.Rows
theorem PySem.Challenge.cw_ruleworlds_k02_what_programs_refuse_holds : PySem.Challenge.rw_ruleworlds_k02_what_programs_refuse.Holds := by
  w_on; o_law
  refine HandSHeadRun.head_any (r := OpenLaw.row PySem.Challenge.rw_ruleworlds_k02_what_programs_refuse) (q := view (OpenLaw.row PySem.Challenge.rw_ruleworlds_k02_what_programs_refuse).prog [39]) (H := Rw.hH) (ob := Rw.hob) (M := 9000) (loose := Rw.hloose) (d := HandSHeadRun.topDef (OpenLaw.row PySem.Challenge.rw_ruleworlds_k02_what_programs_refuse).prog 39) (kwd := []) Rw.hob_eq
    (by kernel_rfl) (fun s => by kernel_rfl) Rw.hrun (by kernel_rfl) (by kernel_rfl) (by kernel_rfl) (by rfl) (by first | assumption | decide +kernel) (by decide +kernel) ⟨rfl, rfl, rfl, rfl, rfl, by decide +kernel⟩ ?hw ?hc
  case hw => w_witness2
  case hc =>
    refine L2.walk_ofE (l := PySem.Challenge.rw_ruleworlds_k02_what_programs_refuse) (n := 63) (k := 11) (x := "script") (CX := L2.CX0) rfl (by decide) (by kernel_rfl) ⟨rfl, by decide, by decide⟩ ?F (fun _ _ _ _ z => z)
    intro w mg fa h Y G hmg0
    obtain ⟨K, KX, c, ce⟩ := Y
    have hmg : mg ("law" : PySem.Str) = some (.ref fa) := by
      have e : (HandSHeadRun.topDef (OpenLaw.row PySem.Challenge.rw_ruleworlds_k02_what_programs_refuse).prog 39).name = ("law" : PySem.Str) := by kernel_rfl
      rw [← e]
      exact hmg0
    obtain ⟨fd, hb, hF⟩ := Rw.hfacts (P := (PySem.Challenge.rw_ruleworlds_k02_what_programs_refuse).prog) (w := w) KX G hmg c ce
    exact ⟨K, fd, Rw.spLaw K, KX, hb, fun H a ns hl _ hS => ⟨a, ns, rfl, hS, hl, fun _ => rfl⟩, hF⟩
