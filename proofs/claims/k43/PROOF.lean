import PyProof.Rows.All
import Wide.All
import OpenK.AllK
import Wide.FinOn
import HandS.TupSets
import KE.SortData
import KE.KDictKeyed
import HandS.ForMost
import PyProof.Transfer
import HandS.Wide
import HandS.StrMore
import HandS.IsInst
import HandS.Codes
import HandS.Walk
import HandS.More
import HandS.Conv
import HandS.DictComp
import HandS.ListItems
import HandS.Property
import HandS.Star
import HandS.Exc
import HandS.TryOnly
import HandS.TryMany
import HandS.ExcOwn
import HandS.WordsExc
import HandS.ExcInit
import HandS.ExcField
import HandS.ExcIs
import HandS.RaiseMore
import KE.KItemsList
import KE.KExcIs
import KE.KDictSum
import HandS.DictTup
import HandS.TupLen
import KE.KDictList
import HandS.HotCalls
import PySem.Challenge.RW_everyparcel_k43_whole_payments
set_option Elab.async false
set_option linter.all false
set_option maxRecDepth 100000
/-! sets of any heap keys: the table, up to 512 slots -/
namespace SH
open PySem PySem.Spec PyProof.Rows L2
/-- 1 + 5 + 25 + .. -/
def geo : Nat → Nat
  | 0 => 0
  | k + 1 => geo k * 5 + 1
theorem geo_pow : ∀ k, 5 ^ k = 4 * geo k + 1
  | 0 => rfl
  | k + 1 => by
    rw [Nat.pow_succ, geo_pow k]
    show (4 * geo k + 1) * 5 = 4 * (geo k * 5 + 1) + 1
    omega
theorem lcg_geo (m : Nat) : ∀ k, lcgN m k = geo k % (m + 1)
  | 0 => (Nat.zero_mod _).symm
  | k + 1 => by
    show (lcgN m k * 5 + 1) % (m + 1) = (geo k * 5 + 1) % (m + 1)
    rw [lcg_geo m k, Nat.add_mod, Nat.mod_mul_mod, ← Nat.add_mod]
theorem geo_eq (k : Nat) : geo k = (5 ^ k - 1) / 4 := by
  have := geo_pow k
  omega
/-- the step at which the slot j comes, bit by bit -/
def stepOf (j : Nat) : Nat := (List.range 9).foldl (fun b i => if 5 ^ b % 2 ^ (i + 3) = (4 * j + 1) % 2 ^ (i + 3) then b else b + 2 ^ i) 0
theorem steps512 : ((List.range 512).all fun j => decide (stepOf j ≤ 511 ∧ (5 ^ stepOf j - 1) / 4 % 512 = j)) = true := by decide +kernel
/-- soon enough each slot begins a run -/
def Meets (m : Nat) : Prop := ∀ (g : Int) (j : Nat), j ≤ m → ∃ n, n ≤ m + 12 ∧ runI m (SetTable.bits g) n = j
theorem meets_of {m : Nat} (all : ∀ j, j ≤ m → ∃ b, b ≤ m ∧ lcgN m b = j) (round : lcgN m (m + 1) = 0) : Meets m := by
  have per : ∀ k, lcgN m (m + 1 + k) = lcgN m k := by
    intro k
    induction k with
    | zero => exact round
    | succ k ih => exact congrArg (fun x => (x * 5 + 1) % (m + 1)) ih
  intro g j hj
  obtain ⟨a, ha, ea⟩ := all _ (runI_le m (SetTable.bits g) 12)
  obtain ⟨b, hb, eb⟩ := all j hj
  have key : ∀ k, lcgN m (a + k) = j → runI m (SetTable.bits g) (12 + k) = j := fun k e => by
    rw [runI_tail (bits_lt g), ← ea, lcgN_add, e]
  by_cases c : a ≤ b
  · exact ⟨12 + (b - a), by omega, key _ (by rw [show a + (b - a) = b by omega, eb])⟩
  · exact ⟨12 + (m + 1 + b - a), by omega, key _ (by rw [show a + (m + 1 + b - a) = m + 1 + b by omega, per, eb])⟩
theorem meets511 : Meets 511 := by
  refine meets_of (fun j hj => ?_) ?_
  · have h := List.all_eq_true.mp steps512 j (List.mem_range.mpr (by omega))
    rw [decide_eq_true_eq] at h
    exact ⟨stepOf j, h.1, by rw [lcg_geo, geo_eq]; exact h.2⟩
  · rw [lcg_geo, geo_eq]
    decide +kernel
/-- the masks that come with fewer than 300 members -/
def Mk (m : Nat) : Prop := MaskOk m ∨ m = 511
theorem Mk.meets {m : Nat} (h : Mk m) : Meets m := by
  rcases h with h | rfl
  · exact fun g j hj => run_meets h g hj
  · exact meets511
theorem Mk.odd {m : Nat} (h : Mk m) : m % 2 = 1 := by
  rcases h with h | rfl
  · exact mask_odd h
  · rfl
theorem Mk.cases {m : Nat} (h : Mk m) : m = 7 ∨ m = 31 ∨ m = 127 ∨ m = 511 := by
  rcases h with (h | h | h) | h
  · exact .inl h
  · exact .inr (.inl h)
  · exact .inr (.inr (.inl h))
  · exact .inr (.inr (.inr h))
theorem way_in (m : Nat) (g : Int) (k : Nat) : way m g k ≤ m := by
  have r := runEnd_bd (Nat.le_of_lt_succ (Nat.mod_lt (SetTable.bits g) (Nat.succ_pos m)))
  have q := nth_in (m := m) k (runAt m (SetTable.bits g % (m + 1)) (SetTable.bits g)) (by
    show SetTable.bits g % (m + 1) + (SetTable.runEnd m (SetTable.bits g % (m + 1)) - SetTable.bits g % (m + 1)) ≤ m
    rw [Nat.add_sub_cancel' r.2.1]
    exact r.1)
  exact Nat.le_trans (Nat.le_add_right _ _) q
theorem way_meets {m : Nat} (hm : Meets m) (g : Int) {j : Nat} (hj : j ≤ m) : ∃ k, k < 10 * SetTable.turns m ∧ way m g k = j := by
  obtain ⟨n, hn, e⟩ := hm g j hj
  obtain ⟨k, hk, e2⟩ := run_nth m (SetTable.bits g) n
  exact ⟨k, by unfold SetTable.turns; omega, (congrArg SetTable.Probe.j e2).trans e⟩
/-- each member is found again from its hash gs -/
structure TabM (t : SetTable) (gs : List Int) : Prop where
  up : Ris t.place.toList
  no : t.dummies = #[]
  n : t.place.size = gs.length
  msk : Mk t.mask
  le : ∀ x, x ∈ t.place.toList → x ≤ t.mask
  at' : ∀ (i : Nat) (g : Int) (j : Nat), gs[i]? = some g → t.place.toList[i]? = some j → ∃ k, way t.mask g k = j ∧ ∀ c, c < k → way t.mask g c ∈ t.place.toList
section
variable {t : SetTable} {gs : List Int}
theorem TabM.len (T : TabM t gs) : t.place.toList.length = gs.length := (Array.length_toList).trans T.n
theorem TabM.gap (T : TabM t gs) (hl : gs.length ≤ t.mask) (g : Int) : ∃ K, K < 10 * SetTable.turns t.mask ∧ way t.mask g K ∉ t.place.toList ∧ ∀ c, c < K → way t.mask g c ∈ t.place.toList := by
  obtain ⟨j, hj, hn⟩ := st_missing t.place.toList (t.mask + 1) (by rw [T.len]; omega)
  obtain ⟨k, hk, e⟩ := way_meets T.msk.meets g (Nat.le_of_lt_succ hj)
  obtain ⟨K, h1, h2, h3⟩ := st_least (p := fun c => way t.mask g c ∉ t.place.toList) k (fun z => hn (e ▸ z))
  exact ⟨K, Nat.lt_of_le_of_lt h1 hk, h2, fun c hc => Classical.not_not.mp (h3 c hc)⟩
theorem TabM.ahead (T : TabM t gs) {g : Int} {K i j : Nat} (hK : way t.mask g K ∉ t.place.toList) (hi : gs[i]? = some g) (hj : t.place.toList[i]? = some j) : ∃ k, k < K ∧ way t.mask g k = j := by
  obtain ⟨k, e, hb⟩ := T.at' i g j hi hj
  refine ⟨k, Nat.lt_of_not_le fun z => ?_, e⟩
  rcases Nat.lt_or_eq_of_le z with c | c
  · exact hK (hb K c)
  · exact hK (c ▸ e ▸ List.mem_of_getElem? hj)
theorem TabM.put (T : TabM t gs) {g : Int} {K : Nat} (hK : way t.mask g K ∉ t.place.toList) (hb : ∀ c, c < K → way t.mask g c ∈ t.place.toList) :
    SetTable.below t.place (way t.mask g K) ≤ gs.length ∧ TabM (t.put (way t.mask g K)).1 (gs.take (SetTable.below t.place (way t.mask g K)) ++ g :: gs.drop (SetTable.below t.place (way t.mask g K))) ∧ (t.put (way t.mask g K)).1.fill = gs.length + 1 := by
  have hin := way_in t.mask g K
  generalize hj : way t.mask g K = j at hK hin ⊢
  obtain ⟨c1, _, _⟩ := below_cut T.up j
  have b1 : SetTable.below t.place j ≤ t.place.toList.length := by rw [Array.length_toList]; exact c1
  have b2 : SetTable.below t.place j ≤ gs.length := T.len ▸ b1
  have pp := put_place t j
  have sz : (t.put j).1.place.size = gs.length + 1 := by rw [← Array.length_toList, pp, len_ins _ b1, T.len]
  have sub : ∀ x, x ∈ t.place.toList → x ∈ (t.put j).1.place.toList := fun x hx => by
    rw [pp]
    exact mem_ins.mpr (.inr hx)
  have pd := put_dm T.no j
  refine ⟨b2, ⟨ris_insert T.up fun e => hK (List.mem_of_getElem? (i := SetTable.below t.place j) (by rw [Array.getElem?_toList]; exact e)), pd, by rw [len_ins _ b2, sz], T.msk, fun x hx => ?_, fun i g' j' e1 e2 => ?_⟩, ?_⟩
  · rw [pp] at hx
    rcases mem_ins.mp hx with z | z
    · exact z ▸ hin
    · exact T.le x z
  · rw [tins_get gs b2] at e1
    rw [pp, tins_get _ b1] at e2
    have old : ∀ i', gs[i']? = some g' → t.place.toList[i']? = some j' → ∃ k, way t.mask g' k = j' ∧ ∀ c, c < k → way t.mask g' c ∈ (t.put j).1.place.toList := fun i' z1 z2 => by
      obtain ⟨k, e, z⟩ := T.at' i' g' j' z1 z2
      exact ⟨k, e, fun c hc => sub _ (z c hc)⟩
    by_cases lo : i < SetTable.below t.place j
    · rw [if_pos lo] at e1 e2
      exact old i e1 e2
    · rw [if_neg lo] at e1 e2
      by_cases eq : i = SetTable.below t.place j
      · rw [if_pos eq] at e1 e2
        cases e1
        cases e2
        exact ⟨K, hj, fun c hc => sub _ (hb c hc)⟩
      · rw [if_neg eq] at e1 e2
        exact old (i - 1) e1 e2
  · show (t.put j).1.place.size + (t.put j).1.dummies.size = _
    rw [sz, pd]
    rfl
end
/-! laying anew -/
theorem free_way {m : Nat} (hm : Meets m) (ow : Array (Option Nat)) (g : Int) {j : Nat} (hj : j ≤ m) (hf : oAt ow j = none) :
    ∃ K, SetTable.layClean.free m ow (SetTable.turns m) (SetTable.bits g % (m + 1)) (SetTable.bits g) = some (way m g K) ∧ oAt ow (way m g K) = none ∧ ∀ c, c < K → oAt ow (way m g c) ≠ none := by
  obtain ⟨n, hn, e⟩ := hm g j hj
  have hw : way m g (off m (SetTable.bits g % (m + 1)) (SetTable.bits g) n) = j := by
    show (nth m (runAt m _ _) _).j = j
    rw [nth_off, itL_run]
    exact e
  obtain ⟨K, k1, k2, k3⟩ := st_least (p := fun c => oAt ow (way m g c) = none) _ (show oAt ow (way m g (off m (SetTable.bits g % (m + 1)) (SetTable.bits g) n)) = none by rw [hw]; exact hf)
  refine ⟨K, free_spec m ow _ n _ _ K (by unfold SetTable.turns; omega) k1 (fun c hc => ?_) (by rw [show oAt ow (nth m _ K).j = none from k2]; rfl), k2, k3⟩
  cases z : oAt ow (nth m (runAt m (SetTable.bits g % (m + 1)) (SetTable.bits g)) c).j with
  | none => exact absurd z (k3 c hc)
  | some _ => rfl
theorem own_next {m : Nat} (hm : Meets m) {done : List Int} {ow : Array (Option Nat)} (W : Own m done ow) (hl : done.length ≤ m) (g : Int) :
    ∃ j, SetTable.layClean.free m ow (SetTable.turns m) (SetTable.bits g % (m + 1)) (SetTable.bits g) = some j ∧ Own m (done ++ [g]) (ow.setIfInBounds j (some done.length)) := by
  obtain ⟨ps, hps, hin⟩ := W.ps
  obtain ⟨j0, h0, hn0⟩ := st_missing ps (m + 1) (hps ▸ Nat.lt_succ_of_le hl)
  obtain ⟨K, e1, e2, e3⟩ := free_way hm ow g (Nat.le_of_lt_succ h0) (Classical.byContradiction fun z => hn0 (hin j0 (Nat.le_of_lt_succ h0) z))
  have hjm := way_in m g K
  generalize hj : way m g K = j at e1 e2 hjm
  have hjs : j < ow.size := by rw [W.sz]; omega
  have self := oAt_set_self (some done.length) hjs
  have up : ∀ i, oAt ow i ≠ none → oAt (ow.setIfInBounds j (some done.length)) i ≠ none := fun i hi => by
    by_cases c : i = j
    · rw [c, self]
      exact Option.some_ne_none _
    · rw [oAt_set_ne _ c]
      exact hi
  refine ⟨j, e1, by rw [Array.size_setIfInBounds]; exact W.sz, fun i k hi e => ?_, fun k hk => ?_, j :: ps, by simp [hps], fun i hi e => ?_⟩
  · by_cases c : i = j
    · rw [c, self] at e
      cases e
      exact ⟨g, K, by rw [List.getElem?_append_right (Nat.le_refl _), Nat.sub_self]; rfl, hj.trans c.symm, fun c' hc' => up _ (e3 c' hc')⟩
    · rw [oAt_set_ne _ c] at e
      obtain ⟨g', K', a1, a2, a3⟩ := W.at_ i k hi e
      exact ⟨g', K', by rw [List.getElem?_append_left (List.getElem?_eq_some_iff.mp a1).1]; exact a1, a2, fun c' hc' => up _ (a3 c' hc')⟩
  · by_cases c : k = done.length
    · exact ⟨j, hjm, c ▸ self⟩
    · rw [List.length_append] at hk
      obtain ⟨i, hi, e⟩ := W.all k (by simp at hk; omega)
      exact ⟨i, hi, by rw [oAt_set_ne _ (fun z => by rw [z, e2] at e; cases e)]; exact e⟩
  · by_cases c : i = j
    · exact c ▸ List.mem_cons_self
    · rw [oAt_set_ne _ c] at e
      exact List.mem_cons_of_mem _ (hin i hi e)
theorem lay_fold {m : Nat} (hm : Meets m) : ∀ (more done : List Int) (ow : Array (Option Nat)), Own m done ow → done.length + more.length ≤ m → ∃ ow', more.foldl (stepF m) (some (ow, done.length)) = some (ow', (done ++ more).length) ∧ Own m (done ++ more) ow'
  | [], done, ow, W, _ => by
    rw [List.append_nil]
    exact ⟨ow, rfl, W⟩
  | g :: more, done, ow, W, hl => by
    have hl2 : done.length + (more.length + 1) ≤ m := hl
    obtain ⟨j, e, W'⟩ := own_next hm W (by omega) g
    have q := lay_fold hm more (done ++ [g]) _ W' (by rw [List.length_append]; show done.length + 1 + more.length ≤ m; omega)
    rw [List.append_assoc, List.length_append] at q
    obtain ⟨ow', f, W2⟩ := q
    refine ⟨ow', ?_, W2⟩
    rw [List.foldl_cons, stepF_some (k := done.length) e]
    exact f
theorem lay_clean {m : Nat} (hm : Meets m) {hs : Array Int} (hn : hs.size ≤ m) : ∃ ow, SetTable.layClean m hs = some ow ∧ Own m hs.toList ow := by
  obtain ⟨ow, f, W⟩ := lay_fold hm hs.toList [] _ (Own.init m) (by show 0 + hs.toList.length ≤ m; rw [Array.length_toList]; omega)
  exact ⟨ow, by rw [layClean_eq, show hs.toList.foldl (stepF m) (some (Array.replicate (m + 1) none, 0)) = _ from f]; rfl, W⟩
theorem relaid_tab (t : SetTable) {hs : Array Int} {wanted M : Nat} (hw : SetTable.sizeAbove wanted - 1 = M) (hM : Mk M) (hn : hs.size ≤ M) :
    ∃ t' order, t.relaid hs wanted = some (t', order) ∧ order.toList.Perm (List.range hs.size) ∧ TabM t' (order.toList.map fun i => hs.getD i 0) ∧ t'.mask = M ∧ t'.led = t.led := by
  obtain ⟨ow, e, W⟩ := lay_clean hM.meets hn
  have er : t.relaid hs wanted = some (tabOf t M ow, ((liveOf M ow).map (·.2)).toArray) := by
    rw [relaid_eq, hw, e]
    rfl
  have rr := ris_live (fun j => ow.getD j none) (List.range (M + 1)) (by unfold Ris; exact List.pairwise_lt_range)
  have r1 : Ris ((liveOf M ow).map (·.1)) := rr.1
  have r2 : ∀ x ∈ (liveOf M ow).map (·.1), x ∈ List.range (M + 1) := rr.2
  have hz : hs.toList.length = hs.size := Array.length_toList
  have hlen : (liveOf M ow).length = hs.size := by
    obtain ⟨ps, p1, p2⟩ := W.ps
    have a : ((liveOf M ow).map (·.1)).length ≤ ps.length := nat_nodup_len _ ps (List.Pairwise.imp (fun h => Nat.ne_of_lt h) r1) fun x hx => by
      obtain ⟨⟨y, k⟩, hq, rfl⟩ := List.mem_map.mp hx
      have ⟨b1, b2⟩ := (mem_live W.sz).mp hq
      exact p2 y b1 (by rw [b2]; exact Option.some_ne_none _)
    have b : (List.range hs.size).length ≤ ((liveOf M ow).map (·.2)).length := nat_nodup_len _ _ List.nodup_range fun k hk => by
      obtain ⟨j, b1, b2⟩ := W.all k (by rw [hz]; exact List.mem_range.mp hk)
      exact List.mem_map.mpr ⟨_, (mem_live W.sz).mpr ⟨b1, b2⟩, rfl⟩
    rw [List.length_map] at a b
    rw [List.length_range] at b
    omega
  refine ⟨_, _, er, perm_range hs.size _ (by simpa using hlen) fun k hk => ?_, ⟨r1, rfl, by simp [tabOf], hM, fun x hx => Nat.le_of_lt_succ (List.mem_range.mp (r2 x hx)), fun i g j h1 h2 => ?_⟩, rfl, rfl⟩
  · obtain ⟨j, b1, b2⟩ := W.all k (by rw [hz]; exact hk)
    exact List.mem_map.mpr ⟨_, (mem_live W.sz).mpr ⟨b1, b2⟩, rfl⟩
  · have z1 : (((liveOf M ow).map (·.2)).map fun i => hs.getD i 0)[i]? = some g := h1
    have z2 : ((liveOf M ow).map (·.1))[i]? = some j := h2
    rw [List.getElem?_map, List.getElem?_map] at z1
    rw [List.getElem?_map] at z2
    cases hq : (liveOf M ow)[i]? with
    | none =>
      rw [hq] at z2
      cases z2
    | some q =>
      rw [hq] at z1 z2
      cases z2
      have ⟨b1, b2⟩ := (mem_live W.sz).mp (List.mem_of_getElem? hq)
      obtain ⟨g0, K, a1, a2, a3⟩ := W.at_ q.1 q.2 b1 b2
      have eg : g0 = g := by
        have u : hs.getD q.2 0 = g := Option.some.inj z1
        rw [Array.getD_eq_getD_getElem?, ← Array.getElem?_toList, a1] at u
        exact u
      subst eg
      refine ⟨K, a2, fun c hc => ?_⟩
      show way M g0 c ∈ (liveOf M ow).map (·.1)
      cases z : oAt ow (way M g0 c) with
      | none => exact absurd z (a3 c hc)
      | some k2 => exact List.mem_map.mpr ⟨(way M g0 c, k2), (mem_live W.sz).2 ⟨way_in M g0 c, z⟩, rfl⟩
theorem sizes : SetTable.sizeAbove (SetTable.grown 5) = 32 ∧ SetTable.sizeAbove (SetTable.grown 19) = 128 ∧ SetTable.sizeAbove (SetTable.grown 77) = 512 := by decide +kernel
end SH
/-! sets of any heap keys: the search, and adding -/
namespace SH
open PySem PySem.Spec PyProof.Rows L2
/-- the c-th probe for the hash g -/
def pb (m : Nat) (g : Int) (c : Nat) : SetTable.Probe := nth m (runAt m (SetTable.bits g % (m + 1)) (SetTable.bits g)) c
theorem pb_add (m : Nat) (g : Int) (c q : Nat) : nth m (pb m g c) q = pb m g (c + q) := (nth_add m c _ q).symm
theorem pb_dummy (m : Nat) (g : Int) : ∀ c, (pb m g c).dummy = none
  | 0 => rfl
  | c + 1 => by
    rw [← pb_add m g c 1]
    show (adv m (pb m g c)).dummy = none
    unfold adv
    split <;> exact pb_dummy m g c
section
variable {P : Program} {w : World} {κ : Type} [DecidableEq κ] {knd : HeapKind P w κ} {A : Around} {E : Value → Shared → Prop} {s : Shared}
/-- what a set asks of a member beside its hash -/
structure Calm (knd : HeapKind P w κ) : Prop where
  st : knd.Stays
  cl : ∀ {A : Around} {E : Value → Shared → Prop} {s : Shared} {k : κ} {b : Addr} {Q : Bool → Shared → Prop}, knd.is s.heap k b → Q false s → wpAny (model P w) A (ofAClassStatement 8 (.ref b)) Q E s
  hv : ∀ {A : Around} {E : Value → Shared → Prop} {s : Shared} {k : κ} {b : Addr} {Q : Bool → Shared → Prop}, knd.is s.heap k b → (∀ r, Q r s) → wpAny (model P w) A (hashByValue 8 (.ref b)) Q E s
theorem seen_no (C : Calm knd) {k : κ} {b : Addr} {Q : Bool → Shared → Prop} (hk : knd.is s.heap k b) {ys : List Value} (hy : ∀ y ∈ ys, ∃ k' c, y = Value.ref c ∧ knd.is s.heap k' c) (h : Q false s) :
    wpAny (model P w) A (searchCouldBeSeen (.ref b) ys) Q E s := by
  unfold searchCouldBeSeen
  refine wpAny_bind (wpAny_forIn_list _ (fun rest r z => z = s ∧ r.1 = none ∧ ∀ y ∈ rest, ∃ k' c, y = Value.ref c ∧ knd.is s.heap k' c) _ (fun v rest r z hz => ?_) (fun r z hz => ?_) _ _ ⟨rfl, rfl, hy⟩)
  · obtain ⟨rfl, hr, al⟩ := hz
    obtain ⟨k', c, rfl, hc⟩ := al v List.mem_cons_self
    have tl : ∀ y ∈ rest, ∃ k' c, y = Value.ref c ∧ knd.is z.heap k' c := fun y hy => al y (List.mem_cons_of_mem _ hy)
    dsimp only
    by_cases e : (b == c || (carriedByValue (.ref b) && carriedByValue (.ref c))) = true
    · exact wp_if_pos e (wpAny_pure ⟨rfl, rfl, tl⟩)
    · refine wp_if_neg e (wpAny_bind (knd.quiet hk ?_))
      rw [Bool.not_true, if_neg Bool.false_ne_true]
      refine wpAny_bind (knd.quiet hc ?_)
      rw [Bool.not_true, if_neg Bool.false_ne_true]
      refine wpAny_bind (C.cl hk ?_)
      rw [if_neg Bool.false_ne_true]
      refine wpAny_bind (C.cl hc ?_)
      rw [if_neg Bool.false_ne_true]
      exact wpAny_pure ⟨rfl, rfl, tl⟩
  · obtain ⟨r1, r2⟩ := r
    obtain ⟨rfl, hr, _⟩ := hz
    cases (show r1 = none from hr)
    exact wpAny_pure h
/-- the set at a, of the members L (their places, their keys) in the table's order -/
structure SetH (knd : HeapKind P w κ) (h : Heap) (a : Addr) (L : List (Addr × κ)) (es : Array (Int × Value)) (ep : Nat) (t : SetTable) : Prop where
  ob : ∃ o, h.get? a = some o ∧ o.ExactSet ∧ o.data = .set es ep t
  rows : es.toList = L.map fun p => (knd.hash p.2, Value.ref p.1)
  tab : TabM t (L.map fun p => knd.hash p.2)
  nd : (L.map (·.2)).Nodup
  el : ∀ p ∈ L, knd.is h p.2 p.1
  ld : w.params.followText "set-order" = true ∨ t.led = true
  gap : L.length * 5 < t.mask * 3
variable {a : Addr} {L : List (Addr × κ)} {es : Array (Int × Value)} {ep : Nat} {t : SetTable}
theorem rows_size (h : es.toList = L.map fun p => (knd.hash p.2, Value.ref p.1)) : es.size = L.length := by
  rw [← Array.length_toList, h, List.length_map]
theorem rows_at (h : es.toList = L.map fun p => (knd.hash p.2, Value.ref p.1)) {i : Nat} {p : Addr × κ} (e : L[i]? = some p) : es[i]? = some (knd.hash p.2, Value.ref p.1) := by
  rw [← Array.getElem?_toList, h, List.getElem?_map, e]
  rfl
theorem fits_of {gs : List Int} (T : TabM t gs) {n : Nat} (hn : gs.length = n) (hl : n ≤ t.mask) : t.fits n = true := by
  have := T.n
  unfold SetTable.fits SetTable.fill
  rw [T.no, Bool.and_eq_true, beq_iff_eq, decide_eq_true_eq]
  show t.place.size = n ∧ t.place.size + 0 ≤ t.mask
  omega
theorem SetH.fits (R : SetH knd s.heap a L es ep t) : t.fits es.size = true := by
  have h2 := R.gap
  have h3 := rows_size R.rows
  exact fits_of R.tab (by rw [List.length_map]; exact h3.symm) (by omega)
theorem SetH.small (R : SetH knd s.heap a L es ep t) : L.length ≤ 306 := by
  have h2 := R.gap
  rcases R.tab.msk.cases with e | e | e | e <;> omega
/-- the search from its c-th step on; K: the first gap on the way -/
theorem look (C : Calm knd) (R : SetH knd s.heap a L es ep t) {x : Addr} {k : κ} (hx : knd.is s.heap k x) (hr : knd.room A) {K : Nat} (hKf : K < 10 * SetTable.turns t.mask)
    (hK : way t.mask (knd.hash k) K ∉ t.place.toList) (hKb : ∀ c, c < K → way t.mask (knd.hash k) c ∈ t.place.toList) {Q : SetFound → Shared → Prop}
    (yes : k ∈ L.map (·.2) → Q (.there none) s) (no : k ∉ L.map (·.2) → Q (.free (way t.mask (knd.hash k) K) false) s) :
    ∀ (f c : Nat) (stand : Option SetTable.Probe), stand.getD (t.probeStart (knd.hash k)) = pb t.mask (knd.hash k) c → c ≤ K → K - c < f →
      (∀ (i : Nat) p, L[i]? = some p → p.2 = k → ∃ d, c ≤ d ∧ d < K ∧ t.place.toList[i]? = some (way t.mask (knd.hash k) d)) →
      wpAny (model P w) A (setSearchFrom a (.ref x) (knd.hash k) true f stand) Q E s
  | 0, c, stand, _, _, hf, _ => absurd hf (Nat.not_lt_zero _)
  | f + 1, c, stand, hst, hc, hf, hre => by
    obtain ⟨o, ho, hex, hd⟩ := R.ob
    have odd := R.tab.msk.odd
    rw [setSearchFrom_succ]
    refine wpAny_bind (wpAny_setState_of ho hd R.fits ?_)
    dsimp only
    refine wp_if_neg (by unfold SetTable.gaveWay; rw [odd]; decide) ?_
    try refine wpAny_bind (wpAny_pure ?_)
    have hz : c + (K - c) = K := by omega
    have hs : ∀ (i : Nat) p, L[i]? = some p → (fun i => (es[i]?.map (·.1)).getD 0) i = knd.hash p.2 := fun i p hp => by
      show (es[i]?.map (·.1)).getD 0 = _
      rw [rows_at R.rows hp]
      rfl
    have J : ∀ q, (nth t.mask (pb t.mask (knd.hash k) c) q).j = way t.mask (knd.hash k) (c + q) := fun q => congrArg SetTable.Probe.j (pb_add t.mask (knd.hash k) c q)
    rcases go_spec t R.tab.up R.tab.no (fun i => (es[i]?.map (·.1)).getD 0) (knd.hash k) (10 * SetTable.turns t.mask) (K - c) (pb t.mask (knd.hash k) c) (pb_dummy _ _ _) (by omega)
      (fun q hq => by rw [J]; exact hKb _ (by omega)) (by rw [J, hz]; exact hK) with ⟨q, i, hq, hi, _, first, pr⟩ | ⟨first, pr⟩
    · rw [J] at hi
      have pr2 : t.probe (fun i => (es[i]?.map (·.1)).getD 0) (knd.hash k) (stand.getD (t.probeStart (knd.hash k))) = some (.candidate (way t.mask (knd.hash k) (c + q)) i (pb t.mask (knd.hash k) (c + (q + 1)))) := by
        rw [hst, ← J, ← pb_add]
        exact pr
      rw [pr2]
      dsimp only
      have il : i < L.length := by
        have h1 := (List.getElem?_eq_some_iff.mp hi).1
        rw [R.tab.len, List.length_map] at h1
        exact h1
      obtain ⟨p, hp⟩ : ∃ p, L[i]? = some p := ⟨_, List.getElem?_eq_getElem il⟩
      have pm := List.mem_of_getElem? hp
      have rest : wpAny (model P w) A (searchRest a (.ref x) (knd.hash k) true f es t (way t.mask (knd.hash k) (c + q)) i (pb t.mask (knd.hash k) (c + (q + 1)))) Q E s := by
        unfold searchRest
        rw [rows_at R.rows hp]
        dsimp only
        refine wpAny_bind (wpAny_holding (knd.eqBool hr (R.el p pm) hx (wpAny_bind (wpAny_setState_of ho hd R.fits ?_))))
        dsimp only
        by_cases e : p.2 = k
        · exact wp_if_pos (by simp [e]) (wpAny_pure (yes (List.mem_map.mpr ⟨p, pm, e⟩)))
        · refine wp_if_neg (by simp [e]) ?_
          try refine wpAny_bind (wpAny_pure ?_)
          have live : t.slot (way t.mask (knd.hash k) (c + q)) = .live i := slot_live R.tab.up hi
          rw [sameMem]
          dsimp only
          simp only [if_true, live, rows_at R.rows hp]
          refine wpAny_bind (wpAny_isSame_ref_self (wpAny_bind (wpAny_pure ?_)))
          simp only [if_true]
          refine wp_if_neg (by simp [e]) ?_
          refine look C R hx hr hKf hK hKb yes no f (c + (q + 1)) _ rfl (by omega) (by omega) fun i0 p0 h0 k0 => ?_
          obtain ⟨d, d1, d2, d3⟩ := hre i0 p0 h0 k0
          refine ⟨d, Nat.lt_of_not_le fun z => ?_, d2, d3⟩
          rcases Nat.lt_or_eq_of_le z with z | z
          · exact first (d - c) i0 (Nat.sub_lt_left_of_lt_add d1 z) (by rw [J, Nat.add_sub_cancel' d1]; exact d3) ((hs i0 p0 h0).trans (congrArg knd.hash k0))
          · have z : d = c + q := z
            have s0 := slot_live R.tab.up d3
            rw [z, live] at s0
            cases s0
            rw [hp] at h0
            cases h0
            exact e k0
      by_cases hl : t.led = true
      · refine wp_if_neg (by simp [hl]) ?_
        try refine wpAny_bind (wpAny_pure ?_)
        exact rest
      · refine wp_if_pos (by simp [hl]) (wpAny_bind (seen_no C hx (fun y hy => ?_) ?_))
        · obtain ⟨u, hu, rfl⟩ := List.mem_map.mp hy
          have hu2 : u ∈ es.toList := by
            have h1 : u ∈ es ∧ u.1 = knd.hash k := by simpa using hu
            simpa using h1.1
          rw [R.rows] at hu2
          obtain ⟨p2, hp2, rfl⟩ := List.mem_map.mp hu2
          exact ⟨p2.2, p2.1, rfl, R.el p2 hp2⟩
        · refine wp_if_neg (by decide) ?_
          try refine wpAny_bind (wpAny_pure ?_)
          exact rest
    · have pr2 : t.probe (fun i => (es[i]?.map (·.1)).getD 0) (knd.hash k) (stand.getD (t.probeStart (knd.hash k))) = some (.empty (way t.mask (knd.hash k) K) none) := by
        have e2 := J (K - c)
        rw [hz] at e2
        rw [hst, ← e2]
        exact pr
      rw [pr2]
      dsimp only
      refine wpAny_pure (no fun hm => ?_)
      obtain ⟨p0, h0, k0⟩ := List.mem_map.mp hm
      obtain ⟨i0, hi0⟩ := List.mem_iff_getElem?.mp h0
      obtain ⟨d, d1, d2, d3⟩ := hre i0 p0 hi0 k0
      exact first (d - c) i0 (by omega) (by rw [J, Nat.add_sub_cancel' d1]; exact d3) ((hs i0 p0 hi0).trans (congrArg knd.hash k0))
/-- the search that adding makes -/
theorem look_at (C : Calm knd) (R : SetH knd s.heap a L es ep t) {x : Addr} {k : κ} (hx : knd.is s.heap k x) (hr : knd.room A) {Q : SetFound → Shared → Prop} (yes : k ∈ L.map (·.2) → Q (.there none) s)
    (no : ∀ K, k ∉ L.map (·.2) → way t.mask (knd.hash k) K ∉ t.place.toList → (∀ c, c < K → way t.mask (knd.hash k) c ∈ t.place.toList) → Q (.free (way t.mask (knd.hash k) K) false) s) :
    wpAny (model P w) A (setSearch a (.ref x) (knd.hash k) true) Q E s := by
  have g := R.gap
  obtain ⟨K, k1, k2, k3⟩ := R.tab.gap (by rw [List.length_map]; omega) (knd.hash k)
  have big : 10 * SetTable.turns t.mask ≤ 10000 := by
    unfold SetTable.turns
    rcases R.tab.msk.cases with e | e | e | e <;> omega
  unfold setSearch
  refine look C R hx hr k1 k2 k3 yes (fun n => no K n k2 k3) 100000 0 none rfl (Nat.zero_le _) (by omega) fun i p hp hk => ?_
  have hi : (L.map fun p => knd.hash p.2)[i]? = some (knd.hash k) := by
    rw [List.getElem?_map, hp, ← hk]
    rfl
  have hil : i < t.place.toList.length := by
    rw [R.tab.len]
    exact (List.getElem?_eq_some_iff.mp hi).1
  obtain ⟨c, hc, e⟩ := R.tab.ahead k2 hi (List.getElem?_eq_getElem hil)
  exact ⟨c, Nat.zero_le _, hc, by rw [List.getElem?_eq_getElem hil, e]⟩
/-- a member isn't the set -/
theorem el_same (C : Calm knd) {h h' : Heap} {k : κ} {b : Addr} {o : Obj} (hb : knd.is h k b) (ho : h.get? a = some o) (hd : o.data = .set es ep t) (hs : Heap.SameBut a h h') : knd.is h' k b := by
  refine C.st.stays (fun c u vs n hc hu => ?_) hb
  refine (hs.2 c fun e => ?_).trans hc
  rw [e, ho] at hc
  cases hc
  rw [hd] at hu
  cases hu
/-- the rows in the order of another table -/
theorem rows_order (h : es.toList = L.map fun p => (knd.hash p.2, Value.ref p.1)) (od : Array Nat) (hp : od.toList.Perm (List.range L.length)) :
    ∃ L2 : List (Addr × κ), (od.filterMap (es[·]?)).toList = (L2.map fun p => (knd.hash p.2, Value.ref p.1)) ∧ L2.Perm L ∧ (L2.map fun p => knd.hash p.2) = od.toList.map fun i => (es.map (·.1)).getD i 0 := by
  have all : (List.range L.length).filterMap (fun i => L[i]?) = L := by
    clear hp h
    have gen : ∀ (M : List (Addr × κ)), (List.range M.length).filterMap (fun i => M[i]?) = M := by
      intro M
      induction M with
      | nil => rfl
      | cons x M ih =>
        rw [List.length_cons, List.range_succ_eq_map, List.filterMap_cons_some (f := fun i => (x :: M)[i]?) (a := 0) (b := x) rfl, List.filterMap_map]
        exact congrArg (x :: ·) ih
    exact gen L
  have one : ∀ l : List Nat, (∀ i ∈ l, i < L.length) → l.filterMap (fun i => es[i]?) = ((l.filterMap fun i => L[i]?).map fun p => (knd.hash p.2, Value.ref p.1)) ∧ ((l.filterMap fun i => L[i]?).map fun p => knd.hash p.2) = l.map fun i => (es.map (·.1)).getD i 0 := by
    intro l
    induction l with
    | nil => exact fun _ => ⟨rfl, rfl⟩
    | cons i l ih =>
      intro hl
      have hi := List.getElem?_eq_getElem (hl i List.mem_cons_self)
      obtain ⟨e1, e2⟩ := ih fun j hj => hl j (List.mem_cons_of_mem _ hj)
      have e5 : (es.map (·.1))[i]? = some (knd.hash (L[i]'(hl i List.mem_cons_self)).2) := by
        rw [Array.getElem?_map, rows_at h hi]
        rfl
      rw [List.filterMap_cons_some (rows_at h hi), List.filterMap_cons_some hi, e1, List.map_cons, List.map_cons, List.map_cons, e2]
      exact ⟨rfl, by rw [Array.getD_eq_getD_getElem?, e5]; rfl⟩
  obtain ⟨e1, e2⟩ := one od.toList fun i hi => List.mem_range.mp (hp.mem_iff.mp hi)
  refine ⟨od.toList.filterMap fun i => L[i]?, by rw [Array.toList_filterMap]; exact e1, ?_, e2⟩
  have q := hp.filterMap fun i => L[i]?
  rw [all] at q
  exact q
/-- the members in a larger table -/
theorem relay (C : Calm knd) {o : Obj} (ho : s.heap.get? a = some o) (hex : o.ExactSet) (hd : o.data = .set es ep t) (rows : es.toList = L.map fun p => (knd.hash p.2, Value.ref p.1)) (hf : t.fits es.size = true)
    (nd : (L.map (·.2)).Nodup) (el : ∀ p ∈ L, knd.is s.heap p.2 p.1) (ld : w.params.followText "set-order" = true ∨ t.led = true) {wanted M : Nat}
    (hw : SetTable.sizeAbove wanted = M + 1) (hM : Mk M) (hn : L.length * 5 < M * 3) {Q : Unit → Shared → Prop}
    (hQ : ∀ h' L' es' ep' t', Heap.SameBut a s.heap h' → SetH knd h' a L' es' ep' t' → L'.Perm L → Q () { s with heap := h' }) : wpAny (model P w) A (setRelay a wanted) Q E s := by
  have hz := rows_size rows
  have hM5 : M ≤ 511 := by rcases hM.cases with e | e | e | e <;> omega
  obtain ⟨t', od, e, hp, T, em, el'⟩ := relaid_tab t (hs := es.map (·.1)) (wanted := wanted) (M := M) (by omega) hM (by rw [Array.size_map]; omega)
  rw [Array.size_map, hz] at hp
  obtain ⟨L2, r1, r2, r3⟩ := rows_order rows od hp
  rw [← r3] at T
  have z2 := (rows_size r1).trans (r2.length_eq.trans hz.symm)
  have line : sizeLine = 16777216 := rfl
  rw [setRelay_eq]
  refine wpAny_bind (wpAny_setState_of ho hd hf ?_)
  dsimp only
  refine wp_if_neg (by rw [hw]; omega) ?_
  try refine wpAny_bind (wpAny_pure ?_)
  rw [e]
  dsimp only
  refine wpAny_bind (wp_if_neg (by rw [z2]; simp) ?_)
  try refine wpAny_bind (wpAny_pure ?_)
  refine wpAny_pure ?_
  dsimp only
  refine wpAny_storeSet_of ho hd (hQ _ L2 (od.filterMap (es[·]?)) (ep + 1) t' (Heap.SameBut.update ..) ⟨⟨_, store_at ho hd, ⟨hex.1, hex.2.1, hex.2.2⟩, rfl⟩, r1, T, (r2.map (·.2)).nodup_iff.mpr nd, fun p hpm => el_same C (el p (r2.mem_iff.mp hpm)) ho hd (Heap.SameBut.update ..), by rw [el']; exact ld, by rw [r2.length_eq, em]; exact hn⟩ r2) (by rw [z2]; omega)
/-- one more member -/
theorem add (C : Calm knd) (R : SetH knd s.heap a L es ep t) {x : Addr} {k : κ} (hx : knd.is s.heap k x) (hr : knd.room A) (few : L.length + 1 ≤ 300) {Q : Bool → Shared → Prop}
    (hQ : ∀ b h' L' es' ep' t', Heap.SameBut a s.heap h' → SetH knd h' a L' es' ep' t' → (k ∈ L.map (·.2) → L' = L) → (k ∉ L.map (·.2) → L'.Perm ((x, k) :: L)) → Q b { s with heap := h' }) :
    wpAny (model P w) A (setAddHashed a (.ref x) (knd.hash k)) Q E s := by
  obtain ⟨o, ho, hex, hd⟩ := R.ob
  have line : sizeLine = 16777216 := rfl
  unfold setAddHashed
  rw [show (100000 : Nat) = 99999 + 1 from rfl, setAddHashedIn_succ]
  refine wpAny_holding (wpAny_bind (wpAny_setState_of ho hd R.fits ?_))
  dsimp only
  refine wp_if_neg (by simp [byScan, Value.scannable]) ?_
  try refine wpAny_bind (wpAny_pure ?_)
  refine wpAny_bind (look_at C R hx hr (fun hm => ?_) fun K hm hK hb => ?_)
  · exact wpAny_pure (hQ false s.heap L es ep t (Heap.SameBut.refl a s.heap) R (fun _ => rfl) fun z => absurd hm z)
  · dsimp only
    refine wpAny_bind (wpAny_setState_of ho hd R.fits ?_)
    dsimp only
    obtain ⟨q1, q2, q3⟩ := R.tab.put hK hb
    have zL := rows_size R.rows
    have gap := R.gap
    -- the table with the new slot
    have v1 : (t.put (way t.mask (knd.hash k) K)).2 = SetTable.below t.place (way t.mask (knd.hash k) K) := rfl
    have v2 : (t.put (way t.mask (knd.hash k) K)).1.mask = t.mask := rfl
    have v3 : (t.put (way t.mask (knd.hash k) K)).1.led = t.led := rfl
    generalize t.put (way t.mask (knd.hash k) K) = pt at q2 q3 v1 v2 v3 ⊢
    obtain ⟨t1, p⟩ := pt
    dsimp only at q2 q3 v1 v2 v3 ⊢
    rw [← v1] at q1 q2
    have rows1 : (SetTable.insertAt es p (knd.hash k, Value.ref x)).toList = (L.take p ++ (x, k) :: L.drop p).map fun p => (knd.hash p.2, Value.ref p.1) := by
      rw [SetTable.toList_insertAt, R.rows, List.map_append, List.map_cons, List.map_take, List.map_drop]
    have pm : (L.take p ++ (x, k) :: L.drop p).Perm ((x, k) :: L) := by
      have h := List.perm_middle (a := (x, k)) (l₁ := L.take p) (l₂ := L.drop p)
      rw [List.take_append_drop] at h
      exact h
    have hg : (L.map fun p => knd.hash p.2).take p ++ knd.hash k :: (L.map fun p => knd.hash p.2).drop p = (L.take p ++ (x, k) :: L.drop p).map fun p => knd.hash p.2 := by
      rw [List.map_append, List.map_cons, List.map_take, List.map_drop]
    rw [hg] at q2
    generalize L.take p ++ (x, k) :: L.drop p = L1 at rows1 pm q2
    have l1 := pm.length_eq
    rw [List.length_cons] at l1
    have nd1 : (L1.map (·.2)).Nodup := (pm.map (·.2)).nodup_iff.mpr (List.nodup_cons.mpr ⟨hm, R.nd⟩)
    have z1 := rows_size rows1
    generalize SetTable.insertAt es p (knd.hash k, Value.ref x) = es1 at rows1 z1
    rw [List.length_map] at q3
    -- whatever becomes of the mark «plain»
    have main : ∀ t2 : SetTable, TabM t2 (L1.map fun p => knd.hash p.2) → t2.mask = t.mask → t2.led = t.led → t2.fill = L.length + 1 →
        wpAny (model P w) A (storeSet a es1 t2 >>= fun _ => if (!false && t2.tooFull) = true then (setRelay a (SetTable.grown (es.size + 1)) >>= fun _ => pure true) else pure true) Q E s := fun t2 T2 m2 d2 f2 => by
      refine wpAny_bind (wpAny_storeSet_of ho hd ?_ (by rw [z1]; omega))
      have sb : Heap.SameBut a s.heap (s.heap.update a (Obj.putSet es1 t2)) := Heap.SameBut.update ..
      have ho1 := store_at (es' := es1) (t' := t2) ho hd
      generalize s.heap.update a (Obj.putSet es1 t2) = h1 at sb ho1 ⊢
      have el1 : ∀ p ∈ L1, knd.is h1 p.2 p.1 := fun p hp => by
        rcases List.mem_cons.mp (pm.mem_iff.mp hp) with e | hp
        · rw [e]
          exact el_same C hx ho hd sb
        · exact el_same C (R.el p hp) ho hd sb
      have ld1 : w.params.followText "set-order" = true ∨ t2.led = true := d2.symm ▸ R.ld
      by_cases hf : t2.tooFull = true
      · have full : (L.length + 1) * 5 ≥ t.mask * 3 := by
          have h := hf
          unfold SetTable.tooFull at h
          rw [decide_eq_true_eq, f2, m2] at h
          exact h
        have big : ∃ M, SetTable.sizeAbove (SetTable.grown (es.size + 1)) = M + 1 ∧ Mk M ∧ L1.length * 5 < M * 3 ∧ t.mask < M := by
          rcases R.tab.msk.cases with e | e | e | e
          · exact ⟨31, by rw [show es.size + 1 = 5 by omega]; exact sizes.1, .inl (.inr (.inl rfl)), by omega, by omega⟩
          · exact ⟨127, by rw [show es.size + 1 = 19 by omega]; exact sizes.2.1, .inl (.inr (.inr rfl)), by omega, by omega⟩
          · exact ⟨511, by rw [show es.size + 1 = 77 by omega]; exact sizes.2.2, .inr rfl, by omega, by omega⟩
          · omega
        obtain ⟨M, b1, b2, b3, b4⟩ := big
        have fin : wpAny (model P w) A (setRelay a (SetTable.grown (es.size + 1))) (fun _ s' => Q true s') E { s with heap := h1 } :=
          relay (s := { s with heap := h1 }) C ho1 ⟨hex.1, hex.2.1, hex.2.2⟩ rfl rows1 (fits_of T2 (by rw [List.length_map, z1]) (by omega)) nd1 el1 ld1 b1 b2 b3 fun h2 L2 es2 ep2 t3 sb2 R2 pm2 => hQ true h2 L2 es2 ep2 t3 (sb.trans sb2) R2 (fun z => absurd z hm) fun _ => pm2.trans pm
        exact wp_if_pos (by rw [hf]; rfl) (wpAny_bind (wpAny_mono fin (fun _ _ h => wpAny_pure h) fun _ _ h => h))
      · have fin : Q true { s with heap := h1 } := hQ true h1 L1 es1 (ep + 1) t2 sb ⟨⟨_, ho1, ⟨hex.1, hex.2.1, hex.2.2⟩, rfl⟩, rows1, T2, nd1, el1, ld1, by
          have h := hf
          unfold SetTable.tooFull at h
          rw [decide_eq_true_eq, f2, m2] at h
          omega⟩ (fun z => absurd z hm) fun _ => pm
        exact wp_if_neg (by rw [Bool.eq_false_iff.mpr hf]; decide) (wpAny_pure fin)
    have both : ∀ r : Bool, ∃ t2, (if r = true then t1 else { t1 with plain := false }) = t2 ∧ TabM t2 (L1.map fun p => knd.hash p.2) ∧ t2.mask = t.mask ∧ t2.led = t.led ∧ t2.fill = L.length + 1 := fun r => by
      cases r
      · exact ⟨{ t1 with plain := false }, rfl, ⟨q2.up, q2.no, q2.n, q2.msk, q2.le, q2.at'⟩, v2, v3, q3⟩
      · exact ⟨t1, rfl, q2, v2, v3, q3⟩
    by_cases pl : t1.plain = true
    · refine wp_if_pos pl (wpAny_bind (C.hv hx fun r => ?_))
      obtain ⟨t2, e2, f1, f2, f3, f4⟩ := both r
      rw [e2]
      exact main t2 f1 f2 f3 f4
    · refine wp_if_neg pl (wpAny_bind (wpAny_pure ?_))
      obtain ⟨t2, e2, f1, f2, f3, f4⟩ := both true
      rw [e2]
      exact main t2 f1 f2 f3 f4
end
end SH
/-! set(xs) of a list, whatever the members: by what holds of the set behind i items -/
namespace SH
open PySem PySem.Spec PyProof.Rows L2
/-- a set just made -/
abbrev fs (w : World) : Obj := { cls := .type "set", dict := none, data := .set #[] 0 (.fresh 0 0 (!w.params.followText "set-order")) }
section
variable {P : Program} {w : World} {A : Around} {E : Value → Shared → Prop} {s : Shared}
/-- what adding the item v to the set at S leaves -/
def Adds (P : Program) (w : World) (A : Around) (S : Addr) (v : Value) (J : Heap → Prop) (z : Shared) : Prop :=
  ∀ E' : Value → Shared → Prop, wpAny (model P w) A (setAdd S v) (fun _ y => ∃ h' tk, z.toks ≤ tk ∧ y = { z with heap := h', toks := tk } ∧ Heap.SameBut S z.heap h' ∧ J h') E' z
theorem set_loop {it : Addr} {fp wr : List Addr} {G : Array GenState → Array GenState → Prop} {n : Nat} {Pv : Nat → Value → Prop} {St : Nat → Shared → Prop} {R : Result → Shared → Prop} (W : WalksS P w A.in1 it fp wr G n Pv St)
    {S : Addr} (hSf : S ∉ fp) (J : Nat → Heap → Prop) (h0 : Heap) (hS0 : h0.get? S = none) (hw0 : ∀ b ∈ wr, h0.get? b = none)
    (fr : ∀ i h h', J i h → (∀ o, h.get? S = some o → h'.get? S = some o) → (∀ b o, h0.get? b = some o → h'.get? b = some o) → J i h')
    (step : ∀ i v (z : Shared), i < n → Pv i v → (∀ b o, h0.get? b = some o → z.heap.get? b = some o) → J i z.heap → Adds P w A.in1 S v (J (i + 1)) z) :
    ∀ (k i : Nat) (s : Shared), n - i = k → i ≤ n → St i s → (∀ b o, h0.get? b = some o → s.heap.get? b = some o) → J i s.heap →
      (∀ s', Moved (S :: wr) G s s' → J n s'.heap → (∀ b o, h0.get? b = some o → s'.heap.get? b = some o) → R (.ok (.ret .none)) s') →
      codeAny (model P w) A (.builtin "set.update.loop" ⟨[.ref S, .ref it], []⟩) R s := by
  have notin : S ∉ wr := fun h => hSf (W.sub _ h)
  have up : ∀ b ∈ wr, b ∈ S :: wr := fun b hb => List.mem_cons_of_mem _ hb
  have keep : ∀ {z z' : Shared}, Moved wr G z z' → (∀ b o, h0.get? b = some o → z.heap.get? b = some o) → ∀ b o, h0.get? b = some o → z'.heap.get? b = some o := fun m k b o e =>
    m.heap b o (fun hb => absurd e (by rw [hw0 b hb]; exact fun z => nomatch z)) (k b o e)
  intro k
  induction k with
  | zero =>
    intro i s hk hi hst old hJ hR
    obtain rfl : i = n := by omega
    refine codeAny_builtin F.entry_set_update_loop ?_
    rw [Around.under_plainId (id := "set.update.loop") F.plain_set_update_loop]
    show wpAny (model P w) A.in1 (pyNext (.ref it) >>= _) _ _ s
    refine wpAny_bind (W.done s _ _ hst fun z m => ?_)
    show wpAny _ A.in1 (ret .none) _ _ z
    exact wpAny_pure (hR z (m.mono up) (fr _ _ _ hJ (fun o e => m.heap S o notin e) (keep m old)) (keep m old))
  | succ k ih =>
    intro i s hk hi hst old hJ hR
    have lt : i < n := by omega
    refine codeAny_builtin F.entry_set_update_loop ?_
    rw [Around.under_plainId (id := "set.update.loop") F.plain_set_update_loop]
    show wpAny (model P w) A.in1 (pyNext (.ref it) >>= _) _ _ s
    refine wpAny_bind (W.item i s _ _ lt hst fun v z hv hz m => ?_)
    have old' := keep m old
    show wpAny _ A.in1 (holding [v] (setAdd S v) >>= _) _ _ z
    refine wpAny_bind (wpAny_holding (wpAny_mono (step i v z lt hv old' (fr _ _ _ hJ (fun o e => m.heap S o notin e) old') _) (fun _ y hy => ?_) fun _ _ h => h))
    obtain ⟨h', tk, htk, rfl, sb, hJ'⟩ := hy
    have old2 : ∀ b o, h0.get? b = some o → h'.get? b = some o := fun b o e => (sb.2 b (fun e2 => by rw [e2, hS0] at e; cases e)).trans (old' b o e)
    refine wpAny_pure ⟨plainId_quiet F.plain_set_update_loop _, ih (i + 1) _ (by omega) lt (W.frame _ z _ _ hz htk fun b hb o e => ?_) old2 hJ' fun y my hy oy => ?_⟩
    · rw [sb.2 b fun e2 => hSf (e2 ▸ hb)]
      exact e
    · refine hR y (Moved.trans W.gtrans ((m.mono up).then_heap htk fun b o hb e => ?_) my) hy oy
      rw [sb.2 b fun e2 => hb (e2 ▸ List.mem_cons_self)]
      exact e
set_option maxHeartbeats 3200000 in
/-- set(xs), xs a list: J i holds of the heap once i items are in -/
theorem call_set_of {l : Addr} {its : Array Value} {Q : Value → Shared → Prop} (hh : A.handled = none) (hl : s.heap.IsList l its) (J : Nat → Heap → Prop)
    (fr : ∀ i h h', J i h → (∀ o, h.get? s.heap.objs.size = some o → h'.get? s.heap.objs.size = some o) → (∀ b o, s.heap.get? b = some o → h'.get? b = some o) → J i h')
    (start : ∀ h, h.get? s.heap.objs.size = some (fs w) → (∀ b o, s.heap.get? b = some o → h.get? b = some o) → J 0 h)
    (step : ∀ i v (z : Shared), its[i]? = some v → (∀ b o, s.heap.get? b = some o → z.heap.get? b = some o) → J i z.heap → Adds P w A.in1.in1.in1 s.heap.objs.size v (J (i + 1)) z)
    (fin : ∀ (h' : Heap) (tk : Nat), J its.size h' → (∀ b o, s.heap.get? b = some o → h'.get? b = some o) → Q (.ref s.heap.objs.size) { s with heap := h', toks := tk }) :
    wpAny (model P w) A (call (.type "set") [.ref l]) Q E s := by
  generalize hS : s.heap.objs.size = S at fr start step fin
  obtain ⟨c, tl, hmro⟩ := F.called_set.mro
  have hmade := F.called_set.made
  have hsub := F.called_set.sub
  refine wpAny_call (codeAny_of_tree ?_)
  show wpAny _ _ (callAny (.type "set") _) _ _ _
  refine wpAny_pure ⟨Code.quiet_builtin _ (by decide +kernel), codeAny_builtin F.entry_type_call ?_⟩
  rw [Around.under_plain (weight_type_call_type "set" [.ref l] []) rfl]
  have h1 := F.called_set.notType
  have h2 := F.called_set.canCreate
  have hct := F.typeCall_set_1 (.ref l)
  repeat (any_goals (first | assumption | wp_step))
  refine codeAny_mono (code_set_led1 (.ref l) (E := E) (Q₁ := fun x z => x = .ref S ∧ z = { s with heap := s.heap.push (fs w) }) ⟨congrArg Value.ref hS, rfl⟩) fun r z hr => ?_
  cases r with
  | error e => exact hr
  | ok fl =>
    cases fl with
    | ret x =>
      obtain ⟨rfl, rfl⟩ := hr
      have atS : (s.heap.push (fs w)).get? S = some (fs w) := hS ▸ Heap.get?_push_size _ rfl
      have hT : Shared.TypeIs { s with heap := s.heap.push (fs w) } (.ref S) "set" := ⟨_, atS, rfl⟩
      have hli := F.called_set.init.lookup
      have hbi := F.called_set.init.bind (.ref S)
      repeat (any_goals (first | assumption | wp_step))
      refine codeAny_mono (codeAny_call_builtin (R := wants (fun r y => r = .none ∧ ∃ h' tk, y = { s with heap := h', toks := tk } ∧ J its.size h' ∧ ∀ b o, s.heap.get? b = some o → h'.get? b = some o) E) F.called_set.init.plain F.entry_set_init (check_set_init_1 hT ?_)) fun r y hr => ?_
      · obtain ⟨ol, hol, hcl, nl, hdl⟩ := hl
        obtain ⟨ocls, odict, odata, oslots⟩ := ol
        simp only at hcl hdl
        subst hcl
        subst hdl
        have hol' : (s.heap.push (fs w)).get? l = some { cls := .type "list", dict := odict, data := .seq its nl, slots := oslots } := Heap.get?_push_of_some _ hol
        have hl1 : (s.heap.push (fs w)).IsList l its := ⟨_, hol', rfl, nl, rfl⟩
        have hsls := F.sub_list_set
        have hslf := F.sub_list_frozenset
        have hne : (Value.type "list" == Value.type "dict") = false := by decide
        unfold Builtin.«set.__init__» noKeywords Builtin.Frozenset.updateFrom
        generalize hPI : pyIter = PI
        wp_walk
        subst hPI
        refine wpAny_pyIter_list hl1 (wpAny_bind (wpAny_runValue ?_))
        have lS : l < S := hS ▸ Heap.lt_size hol
        have z1 : (s.heap.push (fs w)).objs.size = S + 1 := by rw [Heap.size_push, hS]
        have none_of : ∀ b, S ≤ b → s.heap.get? b = none := fun b hb => by
          cases q : s.heap.get? b with
          | none => rfl
          | some o => exact absurd (Heap.lt_size q) (Nat.not_lt.mpr (hS.symm ▸ hb))
        have hh3 : A.in1.in1.in1.handled = none := by simp [hh]
        have push2 : ∀ b o, (s.heap.push (fs w)).get? b = some o → ((s.heap.push (fs w)).push { cls := .type "list_iterator", data := .fields #[.ref l, .int 0 0] }).get? b = some o := fun b o e => Heap.get?_push_of_some _ e
        refine set_loop (Walks.list hh3 (s.heap.push (fs w)).objs.size l (by rw [z1]; exact Nat.ne_of_lt (Nat.lt_succ_of_lt lS)) its).toS (S := S) (by rw [z1]; simp; exact fun e => Nat.lt_irrefl S (e.symm ▸ lS)) J s.heap (none_of S (Nat.le_refl _)) (fun b hb => none_of b (by rw [List.mem_singleton.mp hb, z1]; omega)) fr (fun i v z _ hv oz jz => step i v z hv oz jz)
          (its.size - 0) 0 _ rfl (Nat.zero_le _) ⟨⟨_, Heap.get?_push_size _ rfl, rfl, rfl⟩, hl1.push _⟩ (fun b o e => push2 b o (Heap.get?_push_of_some _ e)) (start _ (push2 S _ atS) fun b o e => push2 b o (Heap.get?_push_of_some _ e)) fun y m jy oy => ?_
        obtain ⟨h', g', d', tk', os'⟩ := y
        obtain rfl : g' = s.gens := m.gens
        obtain rfl : d' = s.drawn := m.drawn
        obtain rfl : os' = s.os := m.os
        show wpAny _ _ _ _ _ _
        refine wpAny_pure ?_
        show wpAny _ _ (ret .none) _ _ _
        exact wpAny_pure ⟨rfl, h', tk', rfl, jy, oy⟩
      · cases r with
        | error e => exact hr
        | ok fl =>
          cases fl with
          | ret r =>
            obtain ⟨rfl, h', tk, rfl, jy, oy⟩ := hr
            repeat (any_goals (first | assumption | wp_step))
            exact fin _ _ jy oy
          | _ => exact hr.elim
    | _ => exact hr.elim
end
end SH
/-! the layer's rules: set(xs) of tuples of keys, sorted of a set -/
namespace SH
open PySem PySem.Spec PyProof.Rows L2
open PySem.W (EachIs AllAlike Sortable dataLe)
/-! tuples of keys -/
abbrev TKK (P : Program) (w : World) : HeapKind P w (List Key) := tupleKind (mixKind P w)
section
variable {P : Program} {w : World} {A : Around} {E : Value → Shared → Prop} {s : Shared}
theorem items_keys {k : List Key} {vs : List Value} (h : ItemsAre (mixKind P w) k vs) : ∀ v ∈ vs, (∃ i t, v = Value.int i t) ∨ ∃ x t, v = Value.str x t := by
  induction h with
  | nil => exact fun v hv => nomatch hv
  | @cons k0 v' ks vs h1 _ ih =>
    intro v hv
    rcases List.mem_cons.mp hv with rfl | hv
    · rcases keyIs_shape h1 with ⟨i, t, _, e⟩ | ⟨x, t, _, e⟩
      · exact .inl ⟨i, t, e⟩
      · exact .inr ⟨x, t, e⟩
    · exact ih v hv
theorem cl_keys {k : List Key} {b : Addr} {Q : Bool → Shared → Prop} (hk : (TKK P w).is s.heap k b) (h : Q false s) : wpAny (model P w) A (ofAClassStatement 8 (.ref b)) Q E s := by
  have hT := IsTupleKey.typeIs hk
  obtain ⟨o, items, n, ho, _, hd, hi⟩ := hk
  unfold ofAClassStatement
  refine wpAny_bind (wpAny_typeOf hT ?_)
  dsimp only
  simp only [show (("tuple" : String) == "tuple") = true by decide, if_true, Bool.not_true, Bool.false_eq_true, if_false]
  try refine wpAny_bind (wpAny_pure ?_)
  try simp only [Bool.not_true, Bool.false_eq_true, if_false]
  show wpAny _ _ (seqItems? (.ref b) >>= _) _ _ s
  refine wpAny_bind (wpAny_seqItems ho hd ?_)
  dsimp only
  refine wpAny_bind ?_
  show wpAny _ _ (forIn items _ _) _ _ s
  rw [← Array.forIn_toList]
  refine wpAny_forIn_list _ (fun rest r z => z = s ∧ r.1 = none ∧ ∀ v ∈ rest, (∃ i t, v = Value.int i t) ∨ ∃ x t, v = Value.str x t) _ (fun v rest r z hz => ?_) (fun r z hz => ?_) _ _ ⟨rfl, rfl, items_keys hi⟩
  · obtain ⟨rfl, hr, al⟩ := hz
    have tl := fun u hu => al u (List.mem_cons_of_mem v hu)
    have e : ∀ n, ofAClassStatement n v = pure false := fun n => by
      rcases al v List.mem_cons_self with ⟨i, t, rfl⟩ | ⟨x, t, rfl⟩ <;> cases n <;> rfl
    rw [e]
    refine wpAny_bind (wpAny_pure ?_)
    rw [if_neg Bool.false_ne_true]
    exact wpAny_pure ⟨rfl, rfl, tl⟩
  · obtain ⟨r1, r2⟩ := r
    obtain ⟨rfl, hr, _⟩ := hz
    cases (show r1 = none from hr)
    exact wpAny_pure h
theorem hv_keys {k : List Key} {b : Addr} {Q : Bool → Shared → Prop} (hk : (TKK P w).is s.heap k b) (h : ∀ r, Q r s) : wpAny (model P w) A (hashByValue 8 (.ref b)) Q E s := by
  have hT := IsTupleKey.typeIs hk
  obtain ⟨o, items, n, ho, _, hd, hi⟩ := hk
  unfold hashByValue
  refine wpAny_bind (wpAny_specialOf hT F.slot_tuple_hash.lookup ?_)
  show wpAny _ _ (seqItems? (.ref b) >>= _) _ _ s
  refine wpAny_bind (wpAny_seqItems ho hd (wpAny_bind ?_))
  show wpAny _ _ (forIn items _ _) _ _ s
  rw [← Array.forIn_toList]
  refine wpAny_forIn_list _ (fun rest r z => z = s ∧ r.1 = none ∧ ∀ v ∈ rest, (∃ i t, v = Value.int i t) ∨ ∃ x t, v = Value.str x t) _ (fun v rest r z hz => ?_) (fun r z hz => ?_) _ _ ⟨rfl, rfl, items_keys hi⟩
  · obtain ⟨rfl, hr, al⟩ := hz
    have tl := fun u hu => al u (List.mem_cons_of_mem v hu)
    rcases al v List.mem_cons_self with ⟨i, t, rfl⟩ | ⟨x, t, rfl⟩
    · have e : ∀ n, hashByValue n (.int i t) = pure true := fun n => by cases n <;> rfl
      rw [e]
      refine wpAny_bind (wpAny_pure ?_)
      rw [Bool.not_true, if_neg Bool.false_ne_true]
      exact wpAny_pure ⟨rfl, rfl, tl⟩
    · have e : ∀ n, hashByValue n (.str x t) = pure false := fun n => by cases n <;> rfl
      rw [e]
      refine wpAny_bind (wpAny_pure ?_)
      rw [Bool.not_false, if_pos rfl]
      exact wpAny_pure (wpAny_pure (h false))
  · obtain ⟨r1, r2⟩ := r
    obtain ⟨rfl, hr, _⟩ := hz
    cases (show r1 = none from hr)
    exact wpAny_pure (h true)
theorem calm_keys : Calm (TKK P w) := ⟨tupleKind_stays, fun hk h => cl_keys hk h, fun hk h => hv_keys hk h⟩
end
/-! what the set has of the first i items -/
structure Has {κ : Type} (ks : List (Addr × κ)) (i : Nat) (L : List (Addr × κ)) : Prop where
  sub : ∀ p, p ∈ L → p ∈ ks.take i
  all : ∀ p, p ∈ ks.take i → p.2 ∈ L.map (·.2)
  len : L.length ≤ i
theorem Has.old {κ : Type} {ks L : List (Addr × κ)} {i : Nat} {x : Addr × κ} (g : Has ks i L) (h : ks[i]? = some x) (hm : x.2 ∈ L.map (·.2)) : Has ks (i + 1) L := by
  have e : ks.take (i + 1) = ks.take i ++ [x] := by rw [List.take_add_one, h]; rfl
  refine ⟨fun p hp => e ▸ List.mem_append_left _ (g.sub p hp), fun p hp => ?_, Nat.le_succ_of_le g.len⟩
  rw [e] at hp
  rcases List.mem_append.mp hp with z | z
  · exact g.all p z
  · exact List.mem_singleton.mp z ▸ hm
theorem Has.new {κ : Type} {ks L L' : List (Addr × κ)} {i : Nat} {x : Addr × κ} (g : Has ks i L) (h : ks[i]? = some x) (pm : L'.Perm (x :: L)) : Has ks (i + 1) L' := by
  have e : ks.take (i + 1) = ks.take i ++ [x] := by rw [List.take_add_one, h]; rfl
  refine ⟨fun p hp => ?_, fun p hp => ?_, ?_⟩
  · rw [e]
    rcases List.mem_cons.mp (pm.mem_iff.mp hp) with z | z
    · exact z ▸ List.mem_append_right _ List.mem_cons_self
    · exact List.mem_append_left _ (g.sub p z)
  · rw [(pm.map (·.2)).mem_iff, List.map_cons]
    rw [e] at hp
    rcases List.mem_append.mp hp with z | z
    · exact List.mem_cons_of_mem _ (g.all p z)
    · exact List.mem_singleton.mp z ▸ List.mem_cons_self
  · have := pm.length_eq
    have := g.len
    simp at *
    omega
/-! a set that can be walked: its members' values, in some order -/
def Walked (w : World) (h : Heap) (a : Addr) (xs : List V) : Prop := ∃ (es : Array (Int × Value)) (ep : Nat) (t : SetTable), SetAt h a es ep t ∧ t.fits es.size = true ∧ es.size < scanBound ∧ Ris t.place.toList ∧
  (w.params.followText "set-order" = true ∨ t.led = true) ∧ Vals xs (es.toList.map (·.2))
/-- the set at a of the tuples L -/
def SetP (P : Program) (w : World) (a : Addr) (L : List (Addr × List Key)) (h : Heap) : Prop := ∃ (es : Array (Int × Value)) (ep : Nat) (t : SetTable), (∃ o, h.get? a = some o ∧ o.ExactSet ∧ o.data = .set es ep t) ∧
  es.toList = (L.map fun p => ((TKK P w).hash p.2, Value.ref p.1)) ∧ TabM t (L.map fun p => (TKK P w).hash p.2) ∧ (L.map (·.2)).Nodup ∧ (w.params.followText "set-order" = true ∨ t.led = true) ∧ L.length * 5 < t.mask * 3
def SetT (P : Program) (w : World) (a : Addr) (L : List (Addr × List Key)) : HO := .ext (SetP P w a L)
theorem SetP.walked {P : Program} {w : World} {a : Addr} {L : List (Addr × List Key)} {h : Heap} (R : SetP P w a L h) : Walked w h a (L.map fun p => V.ref p.1) := by
  obtain ⟨es, ep, t, ⟨o, ho, hx, hd⟩, rows, T, _, ld, gap⟩ := R
  have z := rows_size rows
  have sm : L.length ≤ 306 := by rcases T.msk.cases with e | e | e | e <;> omega
  have sb : scanBound = 4096 := rfl
  refine ⟨es, ep, t, ⟨o, ho, hx.1, hd⟩, fits_of T (by rw [List.length_map, z]) (by omega), by omega, T.up, ld, ?_⟩
  rw [rows, List.map_map]
  have gen : ∀ M : List (Addr × List Key), Vals (M.map fun p => V.ref p.1) (M.map fun p => Value.ref p.1) := fun M => by
    induction M with
    | nil => exact .nil
    | cons p M ih => exact .cons rfl ih
  exact gen L
theorem setT_ok {P : Program} {w : World} {H : Hp} {h : Heap} {a : Addr} {L : List (Addr × List Key)} (R : SetP P w a L h) : ObjOk P w H h a (SetT P w a L) := by
  have ⟨es, ep, t, ⟨o, ho, r⟩, q⟩ := R
  refine ⟨R, ⟨o, ho⟩, fun h1 h2 p k => ?_⟩
  obtain ⟨es', ep', t', ⟨o', ho', r'⟩, q'⟩ := p
  exact ⟨es', ep', t', ⟨o', k o' ho', r'⟩, q'⟩
theorem items_vals {P : Program} {w : World} : ∀ {k : List Key} {us : List Value}, Vals (k.map kV) us → ItemsAre (mixKind P w) k us
  | [], _, .nil => .nil
  | n :: k, _, .cons r t => .cons (kV_is r) (items_vals t)
theorem refs_vals : ∀ {ks : List (Addr × List Key)} {us : List Value}, Vals (ks.map fun p => V.ref p.1) us → us = ks.map fun p => Value.ref p.1
  | [], _, .nil => rfl
  | p :: ks, _, .cons r t => by
    cases r
    rw [refs_vals t]
    rfl
section
variable {X : Cx}
theorem key_tup {pins : List (Addr × Obj)} {σ : L2.St} {H : Hp} {s : Shared} {b : Addr} {k : List Key} (I : Inv X pins σ H s) (h : SqT X.K H b (k.map kV)) : (TKK X.prog X.w).is s.heap k b := by
  obtain ⟨its, r, ⟨o, ho, hc, n, hd⟩, _⟩ := I.tuple h
  exact ⟨o, its.toArray, n, ho, hc, hd, items_vals r⟩
/-- set(xs), xs a list of tuples of keys -/
def rSetT (K : PySem.W.Frag) (P : Program) (w : World) : List V → Hp → VK → Prop := fun xs H Q => ∃ (l : Addr) (ks : List (Addr × List Key)), xs = [V.ref l] ∧ SqL K H l (ks.map fun p => V.ref p.1) ∧ (∀ p ∈ ks, SqT K H p.1 (p.2.map kV)) ∧ ks.length ≤ 300 ∧
  ∀ a L, H a = none → Has ks ks.length L → (L.map (·.2)).Nodup → Q (.ref a) (upd H a (SetT P w a L))
theorem cr_setT (hc : X.calm = true) (hu : X.A.units + 64 < cLine) : CallR X (.type "set") (rSetT X.K X.prog X.w) := by
  intro pins s σ H xs us Q I r h
  obtain ⟨l, ks, rfl, hl, hk, hf, q⟩ := h
  rw [Vals.ref1 r]
  obtain ⟨its, rv, pl, hz⟩ := I.list hl
  have hits : its = ks.map fun p => Value.ref p.1 := refs_vals rv
  have hn : H s.heap.objs.size = none := I.hok.fresh (Nat.le_refl _)
  have mem : ∀ p ∈ ks, (TKK X.prog X.w).is s.heap p.2 p.1 := fun p hp => key_tup I (hk p hp)
  have room : X.A.in1.in1.in1.units < cLine := by
    show X.A.units + 1 + 1 + 1 < cLine
    omega
  have none0 : s.heap.get? s.heap.objs.size = none := by
    cases e : s.heap.get? s.heap.objs.size with
    | none => rfl
    | some o => exact absurd (Heap.lt_size e) (Nat.lt_irrefl _)
  refine call_set_of (P := X.prog) (w := X.w) (I.ok.hd hc) pl.isList (fun i h => ∃ L es ep t, SetH (TKK X.prog X.w) h s.heap.objs.size L es ep t ∧ Has ks i L) (fun i h h' ⟨L, es, ep, t, R, g⟩ k1 k2 => ?_) (fun h e _ => ?_) (fun i v z hv old ⟨L, es, ep, t, R, g⟩ E' => ?_) fun h' tk ⟨L, es, ep, t, R, g⟩ old => ?_
  · obtain ⟨o, ho, rr⟩ := R.ob
    exact ⟨L, es, ep, t, ⟨⟨o, k1 o ho, rr⟩, R.rows, R.tab, R.nd, fun p hp => calm_keys.st.stays (fun b o vs n hb _ => k2 b o hb) (mem p (List.mem_of_mem_take (g.sub p hp))), R.ld, R.gap⟩, g⟩
  · refine ⟨[], #[], 0, _, ⟨⟨_, e, ⟨rfl, rfl, rfl⟩, rfl⟩, rfl, ⟨List.Pairwise.nil, rfl, rfl, .inl (.inl rfl), fun x hx => (by cases hx), fun i h j hi => (by simp at hi)⟩, List.nodup_nil, fun p hp => (by cases hp), ?_, by show 0 * 5 < 7 * 3; decide⟩, ⟨fun p h => (by cases h), fun p h => (by simp at h), Nat.le_refl _⟩⟩
    show _ ∨ (!X.w.params.followText "set-order") = true
    cases X.w.params.followText "set-order"
    · exact .inr rfl
    · exact .inl rfl
  · have hv2 : (ks.map fun p => Value.ref p.1)[i]? = some v := by
      rw [← hits, ← hv]
      simp
    rw [List.getElem?_map] at hv2
    cases hp : ks[i]? with
    | none =>
      rw [hp] at hv2
      cases hv2
    | some p =>
      rw [hp] at hv2
      cases hv2
      have hx : (TKK X.prog X.w).is z.heap p.2 p.1 := calm_keys.st.stays (fun b o vs n hb _ => old b o hb) (mem p (List.mem_of_getElem? hp))
      have il := (List.getElem?_eq_some_iff.mp hp).1
      unfold setAdd
      refine wpAny_holding (wpAny_bind ((TKK X.prog X.w).pyHash room hx ?_))
      refine add (s := { z with toks := z.toks + (TKK X.prog X.w).draws p.2 }) calm_keys R hx room (by have := g.len; omega) fun b h' L' es' ep' t' sb R' c1 c2 => ⟨h', _, Nat.le_add_right _ _, rfl, sb, L', es', ep', t', R', ?_⟩
      by_cases c : p.2 ∈ L.map (·.2)
      · rw [c1 c]
        exact g.old hp c
      · exact g.new hp (c2 c)
  · have e : its.toArray.size = ks.length := by
      rw [hits]
      simp
    rw [e] at g
    exact ⟨.ref s.heap.objs.size, upd H s.heap.objs.size (SetT X.prog X.w s.heap.objs.size L), I.laid (t' := tk) old (Nat.le_refl _) (setT_ok ⟨es, ep, t, R.ob, R.rows, R.tab, R.nd, R.ld, R.gap⟩), rfl, q _ L hn g R.nd⟩
/-! sorted(a set) -/
theorem each_perm {α β : Type} {R : α → β → Prop} {us vs : List α} (p : us.Perm vs) : ∀ {bs : List β}, EachIs R us bs → ∃ cs : List β, cs.Perm bs ∧ EachIs R vs cs := by
  induction p with
  | nil => exact fun {bs} h => ⟨bs, .refl _, h⟩
  | cons x _ ih =>
    intro bs h
    cases h with
    | cons h t =>
      obtain ⟨cs, c, e⟩ := ih t
      exact ⟨_ :: cs, c.cons _, .cons h e⟩
  | swap x y l =>
    intro bs h
    cases h with
    | cons h t =>
      cases t with
      | cons h2 t => exact ⟨_ :: _ :: _, .swap _ _ _, .cons h2 (.cons h t)⟩
  | trans _ _ ih1 ih2 =>
    intro bs h
    obtain ⟨cs, c, e⟩ := ih1 h
    obtain ⟨ds, d, f⟩ := ih2 e
    exact ⟨ds, d.trans c, f⟩
theorem each_of_vals : ∀ {bs : List (V × PyData)} {us : List Value}, Vals (bs.map Prod.fst) us → EachIs (fun (v : Value) (b : V × PyData) => RelV b.1 v) us bs
  | [], _, r => by cases r; exact .nil
  | b :: bs, _, r => by
    cases r with
    | cons r1 r2 => exact .cons r1 (each_of_vals r2)
theorem vals_of_each : ∀ {bs : List (V × PyData)} {us : List Value}, EachIs (fun (v : Value) (b : V × PyData) => RelV b.1 v) us bs → Vals (bs.map Prod.fst) us
  | [], _, r => by cases r; exact .nil
  | b :: bs, _, r => by
    cases r with
    | cons r1 r2 => exact .cons r1 (vals_of_each r2)
theorem each_and {α β : Type} {R S : α → β → Prop} : ∀ {as : List α} {bs : List β}, EachIs R as bs → (∀ a b, b ∈ bs → R a b → S a b) → EachIs S as bs
  | _, _, .nil, _ => .nil
  | _, _, .cons h t, k => .cons (k _ _ List.mem_cons_self h) (each_and t fun a b hb => k a b (List.mem_cons_of_mem _ hb))
def rSortSet (K : PySem.W.Frag) (w : World) : List V → Hp → VK → Prop := fun vs H Q => ∃ (a : Addr) (bs : List (V × PyData)) (U : Heap → Prop), vs = [V.ref a] ∧ H a = some (.ext U) ∧ (∀ h, U h → Walked w h a (bs.map Prod.fst)) ∧ (∀ b ∈ bs, Dp K H b.1 b.2) ∧
  AllAlike (bs.map Prod.snd) ∧ Sortable (bs.map Prod.snd) ∧ (∀ b ∈ bs, b.2.depth ≤ 10) ∧
  ∀ (cs : List (V × PyData)) (p : Addr), cs.Perm bs → cs.Pairwise (fun x y => dataLe false Prod.snd x y = true) → H p = none → Q (.ref p) (upd H p (.lst (cs.map Prod.fst)))
theorem cr_sortSet (hc : X.calm = true) (hu : X.A.units + 64 < cLine) : CallR X (.builtin "sorted") (rSortSet X.K X.w) := by
  intro pins s σ H vs us Q I r h
  obtain ⟨a, bs, U, rfl, ha, hw, hd, hal, hso, hdp, q⟩ := h
  rw [Vals.ref1 r]
  obtain ⟨es, ep, t, hat, hf, hsz, ris, ld, rv⟩ := hw _ (I.hok a _ ha).1
  have line : sizeLine = 16777216 := rfl
  have sbd : scanBound = 4096 := rfl
  refine Calls.call_function_entry kind_sorted plain_sorted entry_sorted (args_sorted1 _) ?_
  unfold Builtin.«sorted»
  refine wpAny_bind (m := checkCount "sorted" 1 1 _) (wpAny_pure ?_)
  refine wpAny_bind (collect_set (A := X.A.in1) (I.ok.hd hc) hat hf hsz ris ld fun s1 vs k1 hz g1 o1 pm => ?_)
  obtain ⟨cs, pc, ec⟩ := each_perm pm.symm (each_of_vals rv)
  have hl : vs.length = bs.length := ec.length.trans pc.length_eq
  have lb : bs.length = es.size := by
    have h1 := (each_of_vals rv).length
    simp at h1
    exact h1.symm
  refine wpAny_bind (wpAny_newList ?_ (by omega))
  have hoL : (s1.heap.push (seqObj "list" vs.toArray 0)).get? s1.heap.objs.size = some (seqObj "list" vs.toArray 0) := Heap.get?_push_size _ rfl
  show wpAny _ _ _ _ _ { s1 with heap := s1.heap.push (seqObj "list" vs.toArray 0) }
  have er : EachIs (fun (v : Value) (b : V × PyData) => ∃ as, Reads (s1.heap.push (seqObj "list" vs.toArray 0)) v b.2 as ∧ s1.heap.objs.size ∉ as) vs cs := each_and ec fun v b hb rb => by
    obtain ⟨as, hr⟩ := Dp.reads I b.2 b.1 v (hd b (pc.mem_iff.mp hb)) rb
    have hr1 : Reads s1.heap v b.2 as := Reads.keeps k1 hr
    refine ⟨as, Reads.keeps (fun b o e => Heap.get?_push_of_some _ e) hr1, fun hm => ?_⟩
    obtain ⟨o, ho⟩ := PyProof.On.reads_mem_get hr1 _ hm
    exact absurd (Heap.lt_size ho) (Nat.lt_irrefl _)
  have pd := pc.map Prod.snd
  have hal' : AllAlike (cs.map Prod.snd) := fun d h1 d' h2 => hal d (pd.mem_iff.mp h1) d' (pd.mem_iff.mp h2)
  have hso' : Sortable (cs.map Prod.snd) := by
    rcases hso with z | z
    · exact .inl fun d h1 => z d (pd.mem_iff.mp h1)
    · exact .inr fun d h1 => z d (pd.mem_iff.mp h1)
  refine wpAny_bind (wpAny_holding (PySem.W.list_sort_data (enc := Prod.snd) (s := { s1 with heap := s1.heap.push (seqObj "list" vs.toArray 0) }) hoL ec er hal' hso' (by have := pc.length_eq; omega) ?k4 fun out ho eo => ?_))
  case k4 =>
    intro b hb
    have h1 := hdp b (pc.mem_iff.mp hb)
    have h2 : X.A.in1.units = X.A.units + 1 := rfl
    omega
  obtain ⟨c, hcat⟩ := sortedHeap_at (vs := vs) (out := out.toArray) hoL
  have pw : (cs.mergeSort (dataLe false Prod.snd)).Pairwise (fun x y => dataLe false Prod.snd x y = true) := PySem.W.sort_pairwise (by unfold dataLe; exact PySem.W.sortLe_total _ _ _) cs
  have pm2 : (cs.mergeSort (dataLe false Prod.snd)).Perm bs := (List.mergeSort_perm cs _).trans pc
  generalize cs.mergeSort (dataLe false Prod.snd) = ds at eo pw pm2
  have ev := vals_of_each eo
  have hn : H s1.heap.objs.size = none := I.hok.fresh hz
  have hlen : (ds.map Prod.fst).length ≤ sizeLine := by
    rw [List.length_map, pm2.length_eq]
    omega
  have J : Inv X pins σ (upd H s1.heap.objs.size (.lst (ds.map Prod.fst))) { s with heap := sortedHeap (s1.heap.push (seqObj "list" vs.toArray 0)) s1.heap.objs.size vs out.toArray, gens := s1.gens, drawn := s1.drawn, toks := s1.toks } := by
    have old : ∀ b u, s.heap.get? b = some u → (sortedHeap (s1.heap.push (seqObj "list" vs.toArray 0)) s1.heap.objs.size vs out.toArray).get? b = some u := fun b u e => by
      have q2 := k1 b u e
      have hlt := Heap.lt_size q2
      rw [sortedHeap_old (Nat.ne_of_lt hlt) (by rw [size_push']; exact Nat.lt_succ_of_lt hlt)]
      exact Heap.get?_push_of_some _ q2
    exact I.call (ch := []) (Un.laid old hz hn) (I.hok.laid old hz ⟨hlen, out, c, ev, hcat⟩) (by rw [g1]; exact I.bare) (fun _ z => nomatch z)
  refine wpAny_pure ⟨_, rfl, ?_⟩
  have e : ({ s1 with heap := sortedHeap (s1.heap.push (seqObj "list" vs.toArray 0)) s1.heap.objs.size vs out.toArray } : Shared) = { s with heap := sortedHeap (s1.heap.push (seqObj "list" vs.toArray 0)) s1.heap.objs.size vs out.toArray, gens := s1.gens, drawn := s1.drawn, toks := s1.toks } := by
    cases s1
    cases s
    cases o1
    rfl
  rw [e]
  exact ⟨.ref s1.heap.objs.size, _, J, rfl, q ds _ pm2 pw hn⟩
end
end SH
/-! set(xs) of texts and ints: what it holds can be walked -/
namespace SH
open PySem PySem.Spec PyProof.Rows L2
open PySem.W (EachIs)
/-- the set at a of the keys L -/
def SetQ (P : Program) (w : World) (h : Heap) (a : Addr) (L : List Key) : Prop := ∃ (es : Array (Int × Value)) (ep : Nat) (t : SetTable), (∃ o, h.get? a = some o ∧ o.ExactSet ∧ o.data = .set es ep t) ∧ ElemsOf (mixKind P w) es.toList ∧
  EachIs (fun (e : Int × Value) (k : Key) => (mixKind P w).is k e.2 = true) es.toList L ∧ L.Nodup ∧ es.size < scanBound ∧ t.fits es.size = true ∧ Ris t.place.toList ∧ (w.params.followText "set-order" = true ∨ t.led = true)
theorem each_find {α β : Type} {R : α → β → Prop} : ∀ {as : List α} {bs : List β}, EachIs R as bs → ∀ a ∈ as, ∃ b ∈ bs, R a b
  | _, _, .nil, _, h => by cases h
  | _, _, .cons r t, a, h => by
    rcases List.mem_cons.mp h with rfl | h
    · exact ⟨_, List.mem_cons_self, r⟩
    · obtain ⟨b, hb, q⟩ := each_find t a h
      exact ⟨b, List.mem_cons_of_mem _ hb, q⟩
theorem each_back {α β : Type} {R : α → β → Prop} : ∀ {as : List α} {bs : List β}, EachIs R as bs → ∀ b ∈ bs, ∃ a ∈ as, R a b
  | _, _, .nil, _, h => by cases h
  | _, _, .cons r t, b, h => by
    rcases List.mem_cons.mp h with rfl | h
    · exact ⟨_, List.mem_cons_self, r⟩
    · obtain ⟨a, ha, q⟩ := each_back t b h
      exact ⟨a, List.mem_cons_of_mem _ ha, q⟩
section
variable {P : Program} {w : World} {A : Around} {E : Value → Shared → Prop} {s : Shared} {a : Addr} {L : List Key}
theorem key_scannable {k : Key} {v : Value} (h : (mixKind P w).is k v = true) : v.scannable = true := by
  rcases keyIs_shape h with ⟨i, t, _, rfl⟩ | ⟨x, t, _, rfl⟩ <;> rfl
/-- the last rows of adding by scan -/
theorem add_tail {g : Bool → Sem Unit} (hg : ∀ (b : Bool) (z : Shared) (Q' : Unit → Shared → Prop), Q' () z → wpAny (model P w) A (g b) Q' E z) {o : Obj} {es es1 : Array (Int × Value)} {ep : Nat} {t t2 : SetTable}
    (ho : s.heap.get? a = some o) (hex : o.ExactSet) (hd : o.data = .set es ep t) (el : ElemsOf (mixKind P w) es1.toList) (ei : EachIs (fun (e : Int × Value) (k : Key) => (mixKind P w).is k e.2 = true) es1.toList L) (nd : L.Nodup)
    (hb : es1.size < scanBound) (hf : t2.fits es1.size = true) (ris : Ris t2.place.toList) (ld : w.params.followText "set-order" = true ∨ t2.led = true) {dm : Bool} {R : Option Bool → Shared → Prop}
    (hR : ∀ h' L', Heap.SameBut a s.heap h' → SetQ P w h' a L' → L'.Perm L → R (some true) { s with heap := h' }) :
    wpAny (model P w) A (storeSet a es1 t2 >>= fun _ => if (!dm && t2.tooFull) = true then (g (relayAll t2 es1 (SetTable.grown es1.size)).2.2 >>= fun _ => storeSet a (relayAll t2 es1 (SetTable.grown es1.size)).1 (relayAll t2 es1 (SetTable.grown es1.size)).2.1 >>= fun _ => pure (some true)) else pure (some true)) R E s := by
  refine wpAny_bind (wpAny_storeSet_of ho hd ?_ (fits_of_scanBound hb))
  have ho1 := store_at (es' := es1) (t' := t2) ho hd
  have sb1 := Heap.SameBut.update s.heap a (Obj.putSet es1 t2)
  by_cases c : (!dm && t2.tooFull) = true
  · refine wp_if_pos c ?_
    have pm := relayAll_perm t2 es1 (SetTable.grown es1.size)
    have f3 := relayAll_fits t2 es1 (SetTable.grown es1.size)
    have r3 := relayAll_ris t2 es1 (SetTable.grown es1.size)
    have l3 := relayAll_led t2 es1 (SetTable.grown es1.size)
    generalize relayAll t2 es1 (SetTable.grown es1.size) = Z at pm f3 r3 l3 ⊢
    obtain ⟨es2, t3, gave⟩ := Z
    dsimp only at pm f3 r3 l3 ⊢
    have z2 : es2.size = es1.size := by rw [← Array.length_toList, pm.length_eq, Array.length_toList]
    obtain ⟨L2, p2, e2⟩ := each_perm pm.symm ei
    refine wpAny_bind (hg _ _ _ (wpAny_bind (wpAny_storeSet_of ho1 rfl (wpAny_pure (hR _ L2 (sb1.trans (Heap.SameBut.update _ a _)) ⟨es2, _, t3, ⟨_, store_at ho1 rfl, hex, rfl⟩, fun e he => el e (pm.mem_iff.mp he), e2, p2.nodup_iff.mpr nd, z2 ▸ hb, f3, r3, ld.imp id fun z => l3 ▸ z⟩ p2)) (fits_of_scanBound (z2 ▸ hb)))))
  · exact wp_if_neg c (wpAny_pure (hR _ L sb1 ⟨es1, _, t2, ⟨_, ho1, hex, rfl⟩, el, ei, nd, hb, hf, ris, ld⟩ (.refl _)))
theorem addQ (R : SetQ P w s.heap a L) {k : Key} {v : Value} (hk : (mixKind P w).is k v = true) (few : L.length + 1 < scanBound) {Q : Bool → Shared → Prop}
    (hQ : ∀ b h' L', Heap.SameBut a s.heap h' → SetQ P w h' a L' → (k ∈ L → L' = L) → (k ∉ L → L'.Perm (k :: L)) → Q b { s with heap := h' }) :
    wpAny (model P w) A (setAddHashed a v ((mixKind P w).hash k)) Q E s := by
  obtain ⟨es, ep, t, ⟨o, ho, hex, hd⟩, el, ei, nd, hb, hf, ris, ld⟩ := id R
  have sc := key_scannable hk
  have zL : es.size = L.length := by rw [← Array.length_toList]; exact ei.length
  unfold setAddHashed setAddHashedIn
  refine wpAny_holding (wpAny_bind (wpAny_setState_of ho hd hf ?_))
  dsimp only
  rw [byScan_of sc hb el, if_pos rfl]
  unfold setAddByScan
  refine wpAny_bind (wpAny_bind (wpAny_rule (wpAny_bind (wpAny_setScan_of hk ho hd hf el ?_))))
  cases hfi : List.findIdx? (fun e => (mixKind P w).is k e.2) es.toList with
  | some j =>
    dsimp only
    obtain ⟨hj, pj, _⟩ := List.findIdx?_eq_some_iff_getElem.mp hfi
    obtain ⟨k', hk', e'⟩ := each_find ei _ (List.getElem_mem hj)
    have ek : k' = k := (mixKind P w).inj _ _ _ e' pj
    exact wpAny_pure (wpAny_pure (hQ false s.heap L (Heap.SameBut.refl a s.heap) R (fun _ => rfl) fun z => absurd (ek ▸ hk') z))
  | none =>
    dsimp only
    have nk : k ∉ L := fun z => by
      obtain ⟨e, he, q⟩ := each_back ei k z
      have c := List.findIdx?_eq_none_iff.mp hfi e he
      rw [q] at c
      cases c
    have gw : ∀ (b : Bool) {z : Shared} {Q' : Unit → Shared → Prop}, Q' () z → wpAny (model P w) A (match b with | true => rule "set.scan.the-table-gave-way" | false => pure ()) Q' E z :=
      fun b z Q' q => by cases b <;> first | exact wpAny_pure q | exact wpAny_rule q
    have pm := layNew_perm t es ((mixKind P w).hash k) v
    have f1 := layNew_fits t es ((mixKind P w).hash k) v
    have r1 := layNew_ris t es ((mixKind P w).hash k) v ris
    have l1 := layNew_led t es ((mixKind P w).hash k) v
    generalize layNew t es ((mixKind P w).hash k) v = Z at pm f1 r1 l1 ⊢
    obtain ⟨es1, t1, dm, gave⟩ := Z
    dsimp only at pm f1 r1 l1 ⊢
    rw [Array.toList_push] at pm
    have pc : es1.toList.Perm (((mixKind P w).hash k, v) :: es.toList) := pm.trans (List.perm_append_singleton _ _)
    obtain ⟨L1, p1, e1⟩ := each_perm pc.symm (EachIs.cons (R := fun (e : Int × Value) (k : Key) => (mixKind P w).is k e.2 = true) (a := ((mixKind P w).hash k, v)) (b := k) hk ei)
    have el1 : ElemsOf (mixKind P w) es1.toList := fun e he => by
      rcases List.mem_cons.mp (pc.mem_iff.mp he) with z | z
      · exact z ▸ ⟨⟨k, hk, rfl⟩, sc⟩
      · exact el e z
    have nd1 : L1.Nodup := p1.nodup_iff.mpr (List.nodup_cons.mpr ⟨nk, nd⟩)
    have z1 : es1.size = L.length + 1 := by rw [← Array.length_toList, pc.length_eq, List.length_cons, Array.length_toList, zL]
    have ld1 : w.params.followText "set-order" = true ∨ t1.led = true := ld.imp id fun z => l1 ▸ z
    have fin : ∀ h' L', Heap.SameBut a s.heap h' → SetQ P w h' a L' → L'.Perm L1 → Q true { s with heap := h' } := fun h' L' sb r p => hQ true h' L' sb r (fun z => absurd z nk) fun _ => p.trans p1
    refine wpAny_bind (gw _ ?_)
    have hb1 : es1.size < scanBound := by rw [z1]; exact few
    split
    · refine wpAny_bind ?_
      rw [hashByValue_scannable 8 sc]
      refine wpAny_pure ?_
      refine add_tail (L := L1) (fun b z Q' q => by cases b <;> first | exact wpAny_pure q | exact wpAny_rule q) ho hex hd el1 e1 nd1 hb1 ?_ ?_ ?_ fun h' L' sb r p => ?_
      · first | (split <;> first | exact f1 | exact SetTable.fits_plain_off f1) | exact f1
      · first | (split <;> exact r1) | exact r1
      · first | (split <;> exact ld1) | exact ld1
      · exact wpAny_pure (fin h' L' sb r p)
    · refine wpAny_bind (wpAny_pure ?_)
      rw [if_pos rfl]
      exact add_tail (L := L1) (fun b z Q' q => by cases b <;> first | exact wpAny_pure q | exact wpAny_rule q) ho hex hd el1 e1 nd1 hb1 f1 r1 ld1 fun h' L' sb r p => wpAny_pure (fin h' L' sb r p)
end
def SetK2 (P : Program) (w : World) (a : Addr) (L : List Key) : HO := .ext fun h => SetQ P w h a L
theorem SetQ.kept {P : Program} {w : World} {h h' : Heap} {a : Addr} {L : List Key} (R : SetQ P w h a L) (k : ∀ o, h.get? a = some o → h'.get? a = some o) : SetQ P w h' a L := by
  obtain ⟨es, ep, t, ⟨o, ho, r⟩, q⟩ := R
  exact ⟨es, ep, t, ⟨o, k o ho, r⟩, q⟩
theorem setK2_ok {P : Program} {w : World} {H : Hp} {h : Heap} {a : Addr} {L : List Key} (R : SetQ P w h a L) : ObjOk P w H h a (SetK2 P w a L) := by
  have ⟨_, _, _, ⟨o, ho, _⟩, _⟩ := R
  exact ⟨R, ⟨o, ho⟩, fun h1 h2 p k => SetQ.kept p k⟩
theorem SetQ.walked {P : Program} {w : World} {a : Addr} {L : List Key} {h : Heap} (R : SetQ P w h a L) : Walked w h a (L.map kV) := by
  obtain ⟨es, ep, t, ⟨o, ho, hx, hd⟩, _, ei, _, hb, hf, ris, ld⟩ := R
  refine ⟨es, ep, t, ⟨o, ho, hx.1, hd⟩, hf, hb, ris, ld, ?_⟩
  have gen : ∀ {l : List (Int × Value)} {L : List Key}, EachIs (fun (e : Int × Value) (k : Key) => (mixKind P w).is k e.2 = true) l L → Vals (L.map kV) (l.map (·.2)) := fun h => by
    induction h with
    | nil => exact .nil
    | cons r t ih =>
      refine .cons ?_ ih
      rcases keyIs_shape r with ⟨i, t, rfl, e⟩ | ⟨x, t, rfl, e⟩
      · exact ⟨t, e⟩
      · exact ⟨t, e⟩
  exact gen ei
section
variable {X : Cx}
/-- set(xs), xs a list of texts or ints -/
def rSetQ (K : PySem.W.Frag) (P : Program) (w : World) : List V → Hp → VK → Prop := fun xs H Q => ∃ (l : Addr) (ks : List Key), xs = [V.ref l] ∧ SqL K H l (ks.map kV) ∧ ks.length ≤ 4000 ∧ ∀ a L, H a = none → L.Nodup → (∀ k, k ∈ L ↔ k ∈ ks) → L.length ≤ ks.length → Q (.ref a) (upd H a (SetK2 P w a L))
theorem cr_setQ (hc : X.calm = true) : CallR X (.type "set") (rSetQ X.K X.prog X.w) := by
  intro pins s σ H xs us Q I r h
  obtain ⟨l, ks, rfl, hl, hf, q⟩ := h
  rw [Vals.ref1 r]
  obtain ⟨its, rv, pl, hz⟩ := I.list hl
  have hn : H s.heap.objs.size = none := I.hok.fresh (Nat.le_refl _)
  have sbd : scanBound = 4096 := rfl
  refine call_set_of (P := X.prog) (w := X.w) (I.ok.hd hc) pl.isList (fun i h => ∃ L, SetQ X.prog X.w h s.heap.objs.size L ∧ L.Nodup ∧ (∀ k, k ∈ L ↔ k ∈ ks.take i) ∧ L.length ≤ i) (fun i h h' ⟨L, R, g⟩ k1 k2 => ⟨L, R.kept k1, g⟩) (fun h e _ => ?_) (fun i v z hv old ⟨L, R, g1, g2, g3⟩ E' => ?_) fun h' tk ⟨L, R, g1, g2, g3⟩ old => ?_
  · refine ⟨[], ⟨#[], 0, _, ⟨_, e, ⟨rfl, rfl, rfl⟩, rfl⟩, fun e he => (by simp at he), .nil, List.nodup_nil, by decide, by rfl, List.Pairwise.nil, ?_⟩, List.nodup_nil, fun k => by simp, Nat.le_refl _⟩
    show _ ∨ (!X.w.params.followText "set-order") = true
    cases X.w.params.followText "set-order"
    · exact .inr rfl
    · exact .inl rfl
  · have hv2 : its[i]? = some v := by simpa using hv
    have hil : i < ks.length := by
      have h1 := rv.length
      rw [List.length_map] at h1
      rw [h1]
      exact (List.getElem?_eq_some_iff.mp hv2).1
    obtain ⟨k, hk⟩ : ∃ k, ks[i]? = some k := ⟨_, List.getElem?_eq_getElem hil⟩
    obtain ⟨u, hu, ru⟩ := rv.get (i := i) (x := kV k) (by rw [List.getElem?_map, hk]; rfl)
    rw [hv2] at hu
    cases hu
    have ek : ks.take (i + 1) = ks.take i ++ [k] := by rw [List.take_add_one, hk]; rfl
    unfold setAdd
    refine wpAny_holding (wpAny_bind ((mixKind X.prog X.w).pyHash (kV_is ru) ?_))
    refine addQ (s := { z with toks := z.toks + 1 }) R (kV_is ru) (by have := (show ks.length ≤ 4000 from hf); omega) fun b h' L' sb R' c1 c2 => ⟨h', _, Nat.le_add_right _ _, rfl, sb, L', R', ?_⟩
    by_cases c : k ∈ L
    · rw [c1 c]
      refine ⟨g1, fun j => ?_, Nat.le_succ_of_le g3⟩
      rw [ek, List.mem_append, List.mem_singleton, g2]
      exact ⟨.inl, fun z => z.elim id fun e => e ▸ (g2 k).mp c⟩
    · have pm := c2 c
      refine ⟨pm.nodup_iff.mpr (List.nodup_cons.mpr ⟨c, g1⟩), fun j => ?_, by have := pm.length_eq; rw [List.length_cons] at this; omega⟩
      rw [pm.mem_iff, List.mem_cons, ek, List.mem_append, List.mem_singleton, g2]
      exact Or.comm
  · have e : its.toArray.size = ks.length := by
      have h1 := rv.length
      rw [List.length_map] at h1
      simp [h1]
    rw [e, List.take_length] at g2
    rw [e] at g3
    exact ⟨.ref s.heap.objs.size, upd H s.heap.objs.size (SetK2 X.prog X.w s.heap.objs.size L), I.laid (t' := tk) old (Nat.le_refl _) (setK2_ok R), rfl, q _ L hn g1 g2 g3⟩
end
end SH
namespace Tb
open PySem PySem.Spec PyProof.Rows L2
def topS (i : Nat) : Stmt := PySem.Challenge.pw_everyparcel_k43_whole_payments.main.body.getD i (.Pass ⟨0, 0, 0, 0⟩)
/-- a def of the text: it stands, its arguments bind, its global is it -/
structure Dd (K : PySem.W.Frag) (mg : Str → Option Value) (x : Str) (st : Stmt) (ps : List Str) (f : Addr) (fd : FuncData) : Prop where
  F : Fun K x x st f fd
  b : Binds K fd ps []
  g : mg x = some (.ref f)
/-- the globals that are the built-ins, and the two texts -/
structure Blt (mg : Str → Option Value) : Prop where
  len : mg "len" = none
  int : mg "int" = none
  str : mg "str" = none
  list : mg "list" = none
  tuple : mg "tuple" = none
  dict : mg "dict" = none
  bool : mg "bool" = none
  range : mg "range" = none
  sorted : mg "sorted" = none

  isi : mg "isinstance" = none
  sum : mg "sum" = none
  min : mg "min" = none
  max : mg "max" = none
  abs : mg "abs" = none
theorem sqOf {K : PySem.W.Frag} {H : Hp} {p : Addr} {xs : List V} (h : H p = some (.lst xs)) : SqL K H p xs := .inl (.inl h)
theorem same_upd {H : Hp} {p : Addr} {o : HO} (h : H p = none) : Same H (upd H p o) := fun b x e => by
  rw [upd_ne (ne_of_none e h)]
  exact e
def digits : Str := ("0123456789" : String)
def letters : Str := ("abcdefghijklmnopqrstuvwxyz" : String)
/-- a module's name that holds a text -/
theorem pe_txt {X : Cx} {x z : Str} {pos : Pos} (hg : Gl X x) (h : ∃ t, X.mg x = some (.str z t)) (hd : (x == ("__debug__" : Str)) = false := by decide) : PE X (.Name x pos) (tC (.str z)) := by
  obtain ⟨t, h⟩ := h
  exact pe_glob hg h (show RelV (.str z) (.str z t) from ⟨t, rfl⟩) hd
/-! ### the mirrors -/
def isIn (signs : Str) (c : Nat) : Bool := decide (c ∈ signs.cps.toList)
def made (t signs : Str) (most : Int) : Bool := decide (1 ≤ (t.length : Int)) && decide ((t.length : Int) ≤ most) && t.cps.toList.all (isIn signs)
def isAddr (t : Str) : Bool := made t digits 8
def isName (t : Str) : Bool := made t (letters ++ digits) 12 && (match t.cps[0]? with | some c => isIn letters c | none => false)
def isLane (t : Str) : Bool := decide (t = Str.ofString "") || isName t
section
variable {P : Program} {w : World} {K : PySem.W.Frag} {mg : Str → Option Value} {base : Heap}
end
end Tb
namespace Tb
open PySem PySem.Spec PyProof.Rows L2
/-! ### prefixes and lanes: the mirrors -/
/-- the first n signs -/
def pre (a : Str) (n : Nat) : Str := cutS a none (some (n : Int))
abbrev Kvs := List (Key × V)
/-- the longest of the first n beginnings that is a key -/
def lp (kvs : Kvs) (a : Str) : Nat → Option Str
  | 0 => none
  | n + 1 => if (valV kvs (Sum.inr (pre a (n + 1)))).isSome = true then some (pre a (n + 1)) else lp kvs a n
def long (kvs : Kvs) (a : Str) : Option Str := lp kvs a a.length
def oStr : Option Str → V
  | none => .non
  | some z => .str z
/-- the lane of an address -/
def laneV (kvs : Kvs) (a : Str) : V := match long kvs a with
  | none => .non
  | some p => (valV kvs (Sum.inr p)).getD .non
theorem lp_some {kvs : Kvs} {a : Str} : ∀ {n : Nat} {p : Str}, lp kvs a n = some p → ∃ v, valV kvs (Sum.inr p) = some v
  | 0, _, h => by cases h
  | n + 1, p, h => by
    unfold lp at h
    by_cases c : (valV kvs (Sum.inr (pre a (n + 1)))).isSome = true
    · rw [if_pos c] at h
      cases h
      exact Option.isSome_iff_exists.mp c
    · rw [if_neg c] at h
      exact lp_some h
theorem lp_len {kvs : Kvs} {a : Str} : ∀ {n : Nat} {p : Str}, lp kvs a n = some p → p.length ≤ a.length
  | 0, _, h => by cases h
  | n + 1, p, h => by
    unfold lp at h
    by_cases c : (valV kvs (Sum.inr (pre a (n + 1)))).isSome = true
    · rw [if_pos c] at h
      cases h
      exact cutS_length a _ _
    · rw [if_neg c] at h
      exact lp_len h
section
variable {P : Program} {w : World} {K : PySem.W.Frag} {mg : Str → Option Value} {base : Heap}
/-- a dict and an address in; what g says out, the heap as it was -/
def spDA (g : Kvs → Str → V) : Sp := fun vs H Q _ => ∃ (d : Addr) (kvs : Kvs) (a : Str), vs = [.ref d, .str a] ∧ H d = some (.dK kvs) ∧ a.length ≤ 1000 ∧ Q (g kvs a) H
end
end Tb
namespace Tb
open PySem PySem.Spec PyProof.Rows L2
open PySem.W (EachIs AllAlike Sortable dataLe)
/-! ### sorted, any number of items -/
theorem vals_each : ∀ {bs : List (V × PyData)} {us : List Value}, Vals (bs.map Prod.fst) us → EachIs (fun (v : Value) (b : V × PyData) => RelV b.1 v) us bs
  | [], _, r => by cases r; exact .nil
  | b :: bs, _, r => by
    cases r with
    | cons r1 r2 => exact .cons r1 (vals_each r2)
theorem each_vals : ∀ {bs : List (V × PyData)} {us : List Value}, EachIs (fun (v : Value) (b : V × PyData) => RelV b.1 v) us bs → Vals (bs.map Prod.fst) us
  | [], _, r => by cases r; exact .nil
  | b :: bs, _, r => by
    cases r with
    | cons r1 r2 => exact .cons r1 (each_vals r2)
theorem each_imp {α β : Type} {R S : α → β → Prop} : ∀ {as : List α} {bs : List β}, EachIs R as bs → (∀ a b, b ∈ bs → R a b → S a b) → EachIs S as bs
  | _, _, .nil, _ => .nil
  | _, _, .cons h t, k => .cons (k _ _ (List.mem_cons_self ..) h) (each_imp t fun a b hb => k a b (List.mem_cons_of_mem _ hb))
def rSortDt (K : PySem.W.Frag) : List V → Hp → VK → Prop := fun vs H Q => ∃ (a : Addr) (bs : List (V × PyData)), vs = [.ref a] ∧ SqL K H a (bs.map Prod.fst) ∧ (∀ b ∈ bs, Dp K H b.1 b.2) ∧ AllAlike (bs.map Prod.snd) ∧ Sortable (bs.map Prod.snd) ∧ (∀ b ∈ bs, b.2.depth ≤ 10) ∧
  ∀ p, H p = none → Q (.ref p) (upd H p (.lst ((bs.mergeSort (dataLe false Prod.snd)).map Prod.fst)))
section
variable {X : Cx}
theorem cr_sortedDt (hu : X.A.units + 64 < cLine) : CallR X (.builtin "sorted") (rSortDt X.K) := by
  intro pins s σ H vs us Q I r h
  obtain ⟨a, bs, rfl, hs, hd, hal, hso, hdp, q⟩ := h
  obtain ⟨its, rv, hl, hz⟩ := I.list hs
  rw [Vals.ref1 r]
  have e := vals_each rv
  rw [List.length_map] at hz
  refine PySem.W.sorted_data (enc := Prod.snd) hl.isList e (each_imp e fun v b hb rb => Dp.reads I b.2 b.1 v (hd b hb) rb) hal hso hz (fun b hb => by have := hdp b hb; omega) fun out ho eo => ?_
  obtain ⟨ep, he'⟩ := PyProof.Rows.sortedAll_at s.heap its out.toArray
  have hlen : ((bs.mergeSort (dataLe false Prod.snd)).map Prod.fst).length ≤ sizeLine := by
    rw [List.length_map, List.length_mergeSort]
    exact hz
  exact ⟨.ref _, upd H (s.heap.objs.size + 1) (.lst ((bs.mergeSort (dataLe false Prod.snd)).map Prod.fst)), I.laid (t' := s.toks) (fun _ _ => PyProof.Rows.sortedAll_old) (Nat.le_succ _) ⟨hlen, out, ep, each_vals eo, he'⟩, rfl, q _ (I.hok.fresh (Nat.le_succ _))⟩
/-- sorted(d), the keys texts, any number of them -/
theorem cr_sortedDk (hcalm : X.calm = true) (hu : X.A.units + 64 < cLine) : CallR X (.builtin "sorted") (fun xs H Q => ∃ (a : Addr) (kvs : List (Key × V)) (ks : List Str), xs = [.ref a] ∧ Rd H a (.dK kvs) ∧ kvs.map (·.1) = ks.map Sum.inr ∧ ks.length ≤ 1000 ∧
    ∀ p, H p = none → Q (.ref p) (upd H p (.lst ((ks.mergeSort (dataLe false PyData.str)).map V.str)))) := by
  intro pins s σ H xs us Q I r q
  obtain ⟨a, kvs, ks, rfl, hd, hks, hln, q⟩ := q
  obtain ⟨u, rfl, rx⟩ := vals1 r
  cases rx
  obtain ⟨z, lo, vs, rel, dd⟩ := dk_rd I.hok hd
  obtain ⟨ep, hat⟩ := dd.dictAt
  have hkeys : vs.map (·.1) = ks.map Sum.inr := rel.keys.symm.trans hks
  have hl : vs.length = ks.length := by
    have e := congrArg List.length hkeys
    rwa [List.length_map, List.length_map] at e
  have hline : sizeLine = 16777216 := rfl
  refine Calls.call_function_entry PyProof.Rows.kind_sorted PyProof.Rows.plain_sorted PyProof.Rows.entry_sorted (PyProof.Rows.args_sorted1 _) ?_
  unfold Builtin.«sorted»
  refine wpAny_bind (m := checkCount "sorted" 1 1 _) (wpAny_pure ?_)
  refine wpAny_bind (PySem.W.kdu_collect (A := X.A.in1) (PySem.W.kdl_dict (knd := mixKind X.prog X.w) (kvs := vs) (ep := ep) lo) (I.ok.hd hcalm) hat (by omega) fun h' tk acc hk hacc => ?_)
  have hal : acc.toList.length = ks.length := by rw [Array.length_toList, hacc.1, hl]
  -- the values are the texts
  have each : EachIs (fun (v : Value) (x : Str) => ∃ t, v = .str x t) acc.toList ks := by
    have gen : ∀ (n : Nat) (us : List Value) (xs : List Str), us.length = xs.length → (∀ (j : Nat) (v : Value), us[j]? = some v → ∃ (x : Str) (t : Tok), xs[j]? = some x ∧ v = Value.str x t) →
      EachIs (fun (v : Value) (x : Str) => ∃ t, v = .str x t) us xs := by
      intro _ us
      induction us with
      | nil =>
        intro xs e _
        cases xs with
        | nil => exact .nil
        | cons _ _ => cases e
      | cons u us ih =>
        intro xs e k
        cases xs with
        | nil => cases e
        | cons x xs =>
          obtain ⟨x', t, e1, e2⟩ := k 0 u rfl
          cases e1
          exact .cons ⟨t, e2⟩ (ih xs (Nat.succ.inj e) fun j v hv => k (j + 1) v hv)
    refine gen 0 _ _ hal fun j v e => ?_
    obtain ⟨k, x, e1, e2⟩ := hacc.2 j v (by rw [← Array.getElem?_toList]; exact e)
    have e3 : (vs.map (·.1))[j]? = some k := by rw [List.getElem?_map, e1]; rfl
    rw [hkeys, List.getElem?_map] at e3
    cases e4 : ks[j]? with
    | none => rw [e4] at e3; cases e3
    | some y =>
      rw [e4] at e3
      cases (Option.some.inj e3 : Sum.inr y = k)
      obtain ⟨t, ev⟩ := Value.isStrOf_shape (x := y) (v := v) e2
      exact ⟨y, t, rfl, ev⟩
  have I1 : Inv X pins σ H { s with heap := h', toks := tk } := I.kept hk
  refine wpAny_bind (wpAny_newList ?_ (by rw [hal]; omega))
  have hoL : (h'.push (seqObj "list" acc.toList.toArray 0)).get? h'.objs.size = some (seqObj "list" acc.toList.toArray 0) := Heap.get?_push_size _ rfl
  show wpAny _ _ _ _ _ { s with heap := h'.push (seqObj "list" acc.toList.toArray 0), toks := tk }
  have alike1 : AllAlike (ks.map PyData.str) := fun d hd d' hd' => by
    obtain ⟨x, _, rfl⟩ := List.mem_map.mp hd
    obtain ⟨y, _, rfl⟩ := List.mem_map.mp hd'
    simp [PySem.W.alike]
  have srt1 : Sortable (ks.map PyData.str) := .inr fun d hd => by
    obtain ⟨x, _, rfl⟩ := List.mem_map.mp hd
    exact ⟨PyData.noConfusion, fun _ => PyData.noConfusion⟩
  refine wpAny_bind (wpAny_holding (PySem.W.list_sort_data (enc := PyData.str) (s := { s with heap := h'.push (seqObj "list" acc.toList.toArray 0), toks := tk }) hoL each (each_imp each fun v x _ ⟨t, e⟩ => ⟨[], by rw [e]; exact Reads.str x t, List.not_mem_nil⟩) alike1 srt1 (by omega) ?k4 fun out ho eo => ?_))
  case k4 =>
    intro b _
    have h1 : (PyData.str b).depth ≤ 1 := by simp [PyData.depth]
    have h2 : X.A.in1.units = X.A.units + 1 := rfl
    omega
  obtain ⟨ep', he'⟩ := PyProof.Rows.sortedHeap_at (vs := acc.toList) (out := out.toArray) hoL
  have hlen : ((ks.mergeSort (dataLe false PyData.str)).map V.str).length ≤ sizeLine := by
    rw [List.length_map, List.length_mergeSort]
    omega
  have ev : Vals ((ks.mergeSort (dataLe false PyData.str)).map V.str) out := by
    generalize ks.mergeSort (dataLe false PyData.str) = zs at eo
    clear ho he' hlen
    induction eo with
    | nil => exact .nil
    | cons h _ ih => exact .cons h ih
  have hnew : H h'.objs.size = none := I1.hok.fresh (Nat.le_refl _)
  refine wpAny_pure ⟨_, rfl, .ref h'.objs.size, upd H h'.objs.size (.lst ((ks.mergeSort (dataLe false PyData.str)).map V.str)), I1.laid (t' := tk) (fun b o e => ?_) (Nat.le_refl _) ⟨hlen, out, ep', ev, he'⟩, rfl, q _ hnew⟩
  have hb : b < h'.objs.size := Heap.lt_size e
  rw [PyProof.Rows.sortedHeap_old (Nat.ne_of_lt hb) (by rw [size_push']; exact Nat.lt_succ_of_lt hb)]
  exact Heap.get?_push_of_some _ e
end
end Tb
namespace Tb
open PySem PySem.Spec PyProof.Rows L2
open PySem.W (EachIs AllAlike Sortable dataLe)
/-! ### sorted(d.items()) -/
abbrev Pr := Str × Str
def enc2 (p : Pr) : PyData := .tuple [.str p.1, .str p.2]
def kvP (ps : List Pr) : Kvs := ps.map fun p => (Sum.inr p.1, V.str p.2)
section
variable {prog : Program} {w : World} {κ : Type} [DecidableEq κ] {knd : KeyKind prog w κ} {A : Around} {E : Value → Shared → Prop} {s : Shared} {r d : Addr} {kvs : List (κ × Value)} {ep : Nat}
theorem collect_items {R : List Value → Shared → Prop} (hh : A.handled = none) (hv : s.heap.IsItemsView r d) (hm : s.heap.DictAt knd d kvs ep) (hn : kvs.length ≤ sizeLine)
    (h : ∀ (h' : Heap) (tk : Nat) (acc : Array Value) (c : Nat) (as : List Addr), (∀ b o, s.heap.get? b = some o → h'.get? b = some o) → h'.get? s.heap.objs.size = some { cls := .type "list", dict := none, data := .seq acc c, slots := #[] } → as.length = kvs.length → PySem.W.KdxG knd kvs s.heap.objs.size h' as →
      acc.toList = as.map Value.ref → R (as.map Value.ref) { s with heap := h', toks := tk }) :
    wpAny (model prog w) A (collect (.ref r)) R E s := by
  obtain ⟨ov, hov, hvr⟩ := id hv
  have hr : r < s.heap.objs.size := Heap.lt_size hov
  have hd : d < s.heap.objs.size := by
    obtain ⟨od, _, hod, _⟩ := id hm
    exact Heap.lt_size hod
  unfold collect
  refine wpAny_bind (wpAny_runValue (codeAny_builtin entry_proto_collect' ?_))
  rw [Around.under_plainId PySem.F.plain_proto_collect _]
  show wpAny _ A.in1 (newList [] >>= fun l => again (.builtin "list.__iadd__" ⟨[l, .ref r], []⟩)) _ _ s
  refine wpAny_bind (wpAny_newObj_type ?_)
  refine wpAny_pure ⟨plainId_quiet PySem.F.plain_list_iadd _, codeAny_builtin entry_list_iadd' ?_⟩
  rw [Around.under_plainId PySem.F.plain_list_iadd _]
  have up : ∀ b o, s.heap.get? b = some o → (s.heap.push { cls := .type "list", data := .seq ([] : List Value).toArray }).get? b = some o := fun b o e => Heap.get?_push_of_some _ e
  have key := PySem.W.kdx_extend (A := A) (knd := knd) (kvs := kvs) (ep := ep) (s := { s with heap := s.heap.push { cls := .type "list", data := .seq ([] : List Value).toArray } })
    (R := fun (q : Result) (s' : Shared) => ∃ (h' : Heap) (tk : Nat) (acc : Array Value) (c : Nat) (as : List Addr), q = .ok (.ret (.ref s.heap.objs.size)) ∧ s' = { s with heap := h', toks := tk } ∧ (∀ b o, s.heap.get? b = some o → h'.get? b = some o) ∧
      h'.get? s.heap.objs.size = some { cls := .type "list", dict := none, data := .seq acc c, slots := #[] } ∧ as.length = kvs.length ∧ PySem.W.KdxG knd kvs s.heap.objs.size h' as ∧ acc.toList = as.map Value.ref)
    hh ⟨ov, up _ _ hov, hvr⟩ (hm.at' fun o e => up _ _ e) s.heap.objs.size (Nat.ne_of_gt hr) (Nat.ne_of_lt hd) (.ref s.heap.objs.size) 0 (Heap.get?_push_size _ rfl)
    (fun h' tk acc c as hk hS hl hG hacc => ⟨h', tk, acc, c, as, rfl, rfl, fun b o e => hk b o (Nat.ne_of_lt (Heap.lt_size e)) (up _ _ e), hS, hl, hG.low (by show s.heap.objs.size ≤ (s.heap.push _).objs.size; rw [Heap.size_push]; exact Nat.le_succ _), hacc⟩) hn
  refine wpAny_mono key (fun fin s' x => ?_) fun e s' x => ?_
  · cases fin with
    | done f =>
      obtain ⟨h', tk, acc, c, as, e, rfl, hk, hS, hl, hG, hacc⟩ := x
      cases e
      show wpAny _ A (load s.heap.objs.size >>= _) _ _ _
      refine wpAny_bind (wpAny_load hS ?_)
      refine wpAny_pure ?_
      show R acc.toList _
      rw [hacc]
      exact h h' tk acc c as hk hS hl hG hacc
    | again c₁ =>
      refine ⟨x.1, codeAny_mono x.2 fun q s₂ y => ?_⟩
      obtain ⟨h', tk, acc, c, as, rfl, rfl, hk, hS, hl, hG, hacc⟩ := y
      show wpAny _ A (load s.heap.objs.size >>= _) _ _ _
      refine wpAny_bind (wpAny_load hS ?_)
      refine wpAny_pure ?_
      show R acc.toList _
      rw [hacc]
      exact h h' tk acc c as hk hS hl hG hacc
  · obtain ⟨_, _, _, _, _, e', _⟩ := x
    cases e'
end
/-- the order of the pairs, and of the texts -/
def le2 : Pr → Pr → Bool := dataLe false enc2
def le1 : Str → Str → Bool := dataLe false PyData.str
theorem alike2 (ps : List Pr) : AllAlike (ps.map enc2) := fun d hd d' hd' => by
  obtain ⟨x, _, rfl⟩ := List.mem_map.mp hd
  obtain ⟨y, _, rfl⟩ := List.mem_map.mp hd'
  simp [enc2, PySem.W.alike, PySem.W.alikeAll]
theorem sortable2 (ps : List Pr) : Sortable (ps.map enc2) := .inl fun d hd => by
  obtain ⟨x, _, rfl⟩ := List.mem_map.mp hd
  exact ⟨_, _, rfl⟩
theorem depth2 (p : Pr) : (enc2 p).depth ≤ 2 := by simp [enc2, PyData.depth, PyData.depthAll]
/-- a list of refs to pairs of texts -/
structure PrsAt (K : PySem.W.Frag) (H : Hp) (l : Addr) (ts : List (Addr × Pr)) : Prop where
  l : SqL K H l (ts.map fun t => V.ref t.1)
  t : ∀ t ∈ ts, SqT K H t.1 [.str t.2.1, .str t.2.2]
theorem kvP_keys (ps : List Pr) : (kvP ps).map (·.1) = (ps.map (·.1)).map Sum.inr := by
  unfold kvP
  rw [List.map_map, List.map_map]
  rfl
/-- sorted(e.items()) -/
def tSortItems (te : TE) : TE := fun σ H Q => te σ H fun x H1 => ∃ (d : Addr) (ps : List Pr), x = .ref d ∧ H1 d = some (.dK (kvP ps)) ∧ ps.length ≤ 1000 ∧
  ∀ (H' : Hp) (p : Addr) (ts : List (Addr × Pr)), Same H1 H' → H1 p = none → H' p = some (.lst (ts.map fun t => V.ref t.1)) → (∀ t ∈ ts, H' t.1 = some (.tup [.str t.2.1, .str t.2.2])) → ts.map (·.2) = ps.mergeSort le2 → Q (.ref p) H'
section
variable {X : Cx} {e : Expr} {te : TE} {p apos cpos pos : Pos}
theorem pe_sortedItems (hc : X.calm = true) (hu : X.A.units + 64 < cLine) (he : PE X e te) (hg : Gl X "sorted") (hm : X.mg "sorted" = none) (hbase : attributeBase e "items" X.env (eval e X.env) = eval e X.env := by rfl) (hline : (apos.endLine == cpos.line) = true := by rfl)
    (hs : starEach [.Call (.Attribute e "items" apos) [] [] cpos] X.env = (false, eval (.Call (.Attribute e "items" apos) [] [] cpos) X.env) :: starEach [] X.env := by rfl) :
    PE X (.Call (.Name "sorted" p) [.Call (.Attribute e "items" apos) [] [] cpos] [] pos) (tSortItems te) := by
  refine ⟨fun pins s σ H Q I hq => ?_⟩
  refine wpAny_Call_Name_kw (ld_blt I hg hm PyProof.Rows.boot_sorted ?_)
  refine PyProof.Rows.callWith_builtin1 ?_ hs rfl
  rw [hs]
  show wpAny _ _ (spliced ((false, eval (.Call (.Attribute e "items" apos) [] [] cpos) X.env) :: backTo pos (starEach [] X.env))) _ _ s
  refine Calls.spliced_cons ?_
  refine wpAny_Call_method (T := "dict") (id := "dict.items") hbase rfl hline PySem.F.plainAttrs_dict PySem.F.slot_dict_items PySem.F.type_dict_items (thn (he.run pins s σ H _ I hq) fun u s1 ⟨x, H1, I1, rx, d, ps, ex, hd, hln, q⟩ => ?_)
  subst ex
  obtain rfl : u = Value.ref d := rx
  obtain ⟨hz, hs0, vs, kv, hdo⟩ := I1.hok d _ hd
  obtain ⟨ep, hat⟩ := hdo.dictAt
  have lk : (kvP ps).length = vs.length := Paired.length kv
  have lps : (kvP ps).length = ps.length := by unfold kvP; rw [List.length_map]
  have hline' : sizeLine = 16777216 := rfl
  have I2 : Inv X pins σ H1 { s1 with heap := s1.heap.push { cls := .type "dict_items", data := .fields #[.ref d] } } := I1.kept (t' := s1.toks) fun b ob q => Heap.get?_push_of_some _ q
  refine ⟨hdo.typeIs, hdo.mapOf.noDict, ?_⟩
  show wpAny _ _ (callWith cpos (.builtin "dict.items") [.ref d] [] []) _ X.xe s1
  refine method_meetsIn PySem.F.slot_dict_items PySem.F.entry_dict_items rfl (PySem.evalArgs_none ⟨rfl, hdo.typeIs, PySem.F.args_dict_items_1 _, _, meets_dict_items (mixKind X.prog X.w) d hs0, ⟨vs, hdo⟩, ?_⟩)
  refine Calls.spliced_nil ?_
  refine Calls.call_function_entry PyProof.Rows.kind_sorted PyProof.Rows.plain_sorted PyProof.Rows.entry_sorted (PyProof.Rows.args_sorted1 _) ?_
  unfold Builtin.«sorted»
  refine wpAny_bind (m := checkCount "sorted" 1 1 _) (wpAny_pure ?_)
  refine wpAny_bind (collect_items (A := X.A.in1) (knd := mixKind X.prog X.w) (kvs := vs) (ep := ep) (I1.ok.hd hc) ⟨_, Heap.get?_push_size _ rfl, rfl, rfl⟩ (hat.push _) (by omega) fun h' tk acc c as hk hS hl hG hacc => ?_)
  obtain ⟨H', k1, k2, k3, k4, k5, k6, J⟩ := LiI.items_laid (tk := tk) I2 hz kv hk hS hl hG hacc
  have las : as.length = ps.length := by omega
  -- the pairs with their places
  have pr : ∀ t ∈ as.zip ps, H' t.1 = some (.tup [.str t.2.1, .str t.2.2]) := by
    intro t ht
    obtain ⟨j, hj⟩ := List.mem_iff_getElem?.mp ht
    rw [List.getElem?_zip_eq_some] at hj
    obtain ⟨y, hy, hy2⟩ := LiI.paired_get k6 hj.1
    unfold kvP at hy
    rw [List.getElem?_map, hj.2] at hy
    cases (Option.some.inj hy)
    exact hy2
  have z1 : (as.zip ps).map Prod.fst = as := List.map_fst_zip (by omega)
  have z2 : (as.zip ps).map Prod.snd = ps := List.map_snd_zip (by omega)
  generalize as.zip ps = bs at pr z1 z2
  have lbs : bs.length = as.length := by rw [← z1, List.length_map]
  refine wpAny_bind (wpAny_newList ?_ (by rw [List.length_map]; omega))
  have hoL : (h'.push (seqObj "list" (as.map Value.ref).toArray 0)).get? h'.objs.size = some (seqObj "list" (as.map Value.ref).toArray 0) := Heap.get?_push_size _ rfl
  show wpAny _ _ _ _ _ { s1 with heap := h'.push (seqObj "list" (as.map Value.ref).toArray 0), toks := tk }
  have e2 : bs.map (fun t : Addr × Pr => enc2 t.2) = ps.map enc2 := by rw [← z2, List.map_map]; rfl
  have each : EachIs (fun (v : Value) (t : Addr × Pr) => v = .ref t.1) (as.map Value.ref) bs := by
    rw [← z1, List.map_map]
    clear pr z1 z2 lbs e2
    induction bs with
    | nil => exact .nil
    | cons b bs ih => exact .cons rfl ih
  have Jn := J
  have old : ∀ b o, h'.get? b = some o → (h'.push (seqObj "list" (as.map Value.ref).toArray 0)).get? b = some o := fun b o e => Heap.get?_push_of_some _ e
  have rd : EachIs (fun (v : Value) (t : Addr × Pr) => ∃ as', Reads (h'.push (seqObj "list" (as.map Value.ref).toArray 0)) v (enc2 t.2) as' ∧ h'.objs.size ∉ as') (as.map Value.ref) bs := by
    refine each_imp each fun v t ht hv => ?_
    subst hv
    obtain ⟨_, its, rv, o, h1, h2, n, h3⟩ := (show ObjOk X.prog X.w H' h' t.1 (.tup [.str t.2.1, .str t.2.2]) from J.hok t.1 _ (pr t ht))
    obtain ⟨u1, u2, rfl, r1, r2⟩ := vals2 rv
    obtain ⟨t1, rfl⟩ := r1
    obtain ⟨t2, rfl⟩ := r2
    exact ⟨[], Reads.tuple (old _ _ h1) h2 h3 (ReadsAll.cons (Reads.str _ _) (ReadsAll.cons (Reads.str _ _) ReadsAll.nil)), List.not_mem_nil⟩
  refine wpAny_bind (wpAny_holding (PySem.W.list_sort_data (enc := fun t : Addr × Pr => enc2 t.2) (s := { s1 with heap := h'.push (seqObj "list" (as.map Value.ref).toArray 0), toks := tk }) hoL each rd (by rw [e2]; exact alike2 ps) (by rw [e2]; exact sortable2 ps) (by omega) ?k4 fun out ho eo => ?_))
  case k4 =>
    intro b _
    have h1 := depth2 b.2
    have h2 : X.A.in1.units = X.A.units + 1 := rfl
    omega
  obtain ⟨ep', he'⟩ := PyProof.Rows.sortedHeap_at (vs := as.map Value.ref) (out := out.toArray) hoL
  have hsm : (bs.mergeSort (dataLe false fun t : Addr × Pr => enc2 t.2)).map (·.2) = ps.mergeSort le2 := by
    have h := PySem.W.sort_maps (r := dataLe false fun t : Addr × Pr => enc2 t.2) (s := le2) (l := bs) (fun t : Addr × Pr => t.2) (fun _ _ _ _ => rfl)
    rw [z2] at h
    exact h
  have hmem : ∀ t ∈ bs.mergeSort (dataLe false fun t : Addr × Pr => enc2 t.2), H' t.1 = some (.tup [.str t.2.1, .str t.2.2]) := fun t ht => pr t (List.mem_mergeSort.mp ht)
  have hlen : ((bs.mergeSort (dataLe false fun t : Addr × Pr => enc2 t.2)).map fun t => V.ref t.1).length ≤ sizeLine := by
    rw [List.length_map, List.length_mergeSort]
    omega
  generalize bs.mergeSort (dataLe false fun t : Addr × Pr => enc2 t.2) = ts at eo hsm hmem hlen
  have ev : Vals (ts.map fun t => V.ref t.1) out := by
    clear ho he' hlen hsm hmem
    induction eo with
    | nil => exact .nil
    | cons h _ ih => exact .cons h ih
  have hnew : H' h'.objs.size = none := J.hok.fresh (Nat.le_refl _)
  refine wpAny_pure ⟨_, rfl, .ref h'.objs.size, upd H' h'.objs.size (.lst (ts.map fun t => V.ref t.1)), J.laid (t' := tk) (fun b o e => ?_) (Nat.le_refl _) ⟨hlen, out, ep', ev, he'⟩, rfl, q _ _ ts ((show Same H1 H' from k1).trans (same_upd hnew)) ((show Same H1 H' from k1).free hnew) upd_same (fun t ht => by rw [upd_ne (ne_of_none (hmem t ht) hnew)]; exact hmem t ht) hsm⟩
  have hb : b < h'.objs.size := Heap.lt_size e
  rw [PyProof.Rows.sortedHeap_old (Nat.ne_of_lt hb) (by rw [size_push']; exact Nat.lt_succ_of_lt hb)]
  exact old b o e
end
end Tb
namespace Tb
open PySem PySem.Spec PyProof.Rows L2
/-! ### errors with one field (as in wip/k17 X17A, over this text) -/
structure ErrC (K : PySem.W.Frag) (C fI : Addr) (n : Str) : Prop where
  ox : OexC K C
  xf : XfC K C
  no : PySem.W.findIn K (.ref C) n = some none
  iC : PySem.W.findIn K (.ref C) "__init__" = some (some (.ref fI))
  tI : PySem.W.typeIn K (.ref fI) = some (.type "function")
  cl : (PySem.W.clsIn K C).isSome = true
  ha : PySem.W.findIn K (.ref C) "__class__" = some (some (.builtin "object.__class__"))
  hm : PySem.W.mroIn K C (.type "object") = some true
  hn : PySem.W.specialIn K (.builtin "object.__class__") "__get__" = some (some (.builtin "getset_descriptor.__get__"))
  tk : PySem.W.takesIn K (.builtin "object.__class__") = some true
def spErr (K : PySem.W.Frag) (n : Str) : Sp := fun vs H Q _ => ∃ (a C : Addr) (v : V), vs = [.ref a, v] ∧ OexC K C ∧ PySem.W.findIn K (.ref C) n = some none ∧ H a = some (exo a C none) ∧ ∀ dx, H dx = none → dx ≠ a → Q .non (upd (upd H dx (exd dx [(n, v)])) a (exo a C (some dx)))
theorem err_made {K : PySem.W.Frag} {C fI : Addr} {n : Str} (T : ErrC K C fI n) {v : V} {H : Hp} {Q : XK} (q : ∀ d H', Same H H' → H' d = some (.xd [(n, v)]) → Q (.ref C) (some d) H') :
    ∀ a, H a = none → spErr K n [.ref a, v] (upd H a (exo a C none)) (fun u H2 => u = .non ∧ ∃ (d : Addr) (fs : List (Str × V)), H2 a = some (exo a C (some d)) ∧ H2 d = some (exd d fs) ∧ H d = none ∧ Q (.ref C) (some d) (upd (del H2 a) d (.xd fs))) (fun _ _ _ => False) := by
  intro a na
  refine ⟨a, C, v, rfl, T.ox, T.no, upd_same, fun d nd da => ⟨rfl, d, [(n, v)], upd_same, ?_, ?_, ?_⟩⟩
  · rw [upd_ne da]
    exact upd_same
  · rw [upd_ne da] at nd
    exact nd
  · rw [upd_ne da] at nd
    refine q d _ (fun b o hb => ?_) upd_same
    have hba : b ≠ a := ne_of_none hb na
    have hbd : b ≠ d := ne_of_none hb nd
    rw [upd_ne hbd, del_ne hba, upd_ne hba, upd_ne hbd, upd_ne hba]
    exact hb
section
variable {X : Cx} {a D : Addr} {oe : Obj} {pn : List (Addr × Obj)} {d : Option Addr} {cls : Value}
def rIsX (K : PySem.W.Frag) (D a : Addr) (cls : Value) (d : Option Addr) : List V → Hp → VK → Prop := fun xs H Q => cls = .ref D ∧ ∃ (c : V) (cv : Value) (b : Bool) (dd : Addr) (fs : List (Str × V)), xs = [.ref a, c] ∧ ClsV c cv ∧ d = some dd ∧ H dd = some (.xd fs) ∧ PySem.W.kitOne K (.ref D) cv = some b ∧ Q (.bl b) H
theorem inst_at {pins : List (Addr × Obj)} {σ : L2.St} {H : Hp} {s : Shared} {dd : Addr} {fs : List (Str × V)} (hz : Zc (.ref D) (some dd) oe) (hf : ∃ vs, oe.data = .fields vs) (I : Inv (X.suite a ((a, oe) :: pn)) pins σ H s) (hd : H dd = some (.xd fs)) : ∃ od, PySem.W.InstAt s.heap a oe D (some od) := by
  obtain ⟨ha, _⟩ := I.pin (a, oe) (List.mem_append_left _ List.mem_cons_self)
  obtain ⟨vs, hv⟩ := hf
  have hx : ObjOk X.prog X.w H s.heap dd (.xd fs) := I.hok dd _ hd
  obtain ⟨mA, hns, _⟩ := hx
  obtain ⟨od, ho, _⟩ := lookIn_ns hns
  refine ⟨od, ha, hz.1, ?_, ?_⟩
  · unfold PySem.W.notCls
    rw [hv]
  · rw [hz.2]
    exact ho
theorem call_isX {fI : Addr} {n : Str} (T : ErrC X.K D fI n) (hz : Zc cls d oe) (hf : ∃ vs, oe.data = .fields vs) : CallR (X.suite a ((a, oe) :: pn)) (.builtin "isinstance") (rIsX X.K D a cls d) := by
  intro pins s σ H xs us Q I r h
  obtain ⟨rfl, c, cv, b, dd, fs, rfl, hc, rfl, hdd, e, q⟩ := h
  obtain ⟨u1, u2, rfl, r1, r2⟩ := vals2 r
  cases (show u1 = Value.ref a from r1)
  obtain rfl := hc.eq r2
  obtain ⟨od, J⟩ := inst_at hz hf I hdd
  exact PySem.W.kia_one (PySem.W.kitx_exc T.cl T.xf.ga T.xf.gg T.xf.exC T.ha T.hn T.tk T.hm) I.kIn J e (fun z => nomatch z) fun tk => ⟨.bl b, H, I.tok tk, rfl, q⟩
end
abbrev sInv : Stmt := inClass (topS 2) 0
abbrev sUnk : Stmt := inClass (topS 3) 0
theorem scInv : FnScope ["self", "what"] ["self", "what"] (defScope sInv) := ⟨rfl, rfl, rfl, by decide +kernel, rfl, by decide +kernel, by decide +kernel⟩
theorem scUnk : FnScope ["self", "name"] ["self", "name"] (defScope sUnk) := ⟨rfl, rfl, rfl, by decide +kernel, rfl, by decide +kernel, by decide +kernel⟩
abbrev wWhat : Str := ("what" : String)
abbrev wName : Str := ("name" : String)
abbrev wTable : Str := ("table" : String)
abbrev wLanes : Str := ("_lanes" : String)
/-- a method of the text -/
structure Mm (K : PySem.W.Frag) (x qual : Str) (st : Stmt) (ps : List Str) (f : Addr) (fd : FuncData) : Prop where
  F : Fun K x qual st f fd
  b : Binds K fd ps []
section
variable {P : Program} {w : World} {K : PySem.W.Frag} {mg : Str → Option Value} {base : Heap}
theorem ok_inv {f : Addr} {fd : FuncData} {k : Nat} (F : Fun K "__init__" "Invalid.__init__" sInv f fd) : FnOk P w K mg base CX0 (k + 1) f fd ["self", "what"] (spErr K wWhat) := by
  refine F.ok scInv (fun vs H Q E h => ?_) (fun cdv A outer s H vs Q E hr h => ?_)
  · obtain ⟨a, C, v, rfl, _⟩ := h
    rfl
  · obtain ⟨a, C, v, rfl, ox, no, ha, q⟩ := h
    refine ⟨_, pss_one (ps_ost (pv 0) (pv 1)), ?_⟩
    exact ⟨v, rfl, .ref a, rfl, a, C, rfl, ox, no, .inl ⟨ha, fun dx nd da => q dx nd da⟩⟩
theorem ok_unk {f : Addr} {fd : FuncData} {k : Nat} (F : Fun K "__init__" "Unknown.__init__" sUnk f fd) : FnOk P w K mg base CX0 (k + 1) f fd ["self", "name"] (spErr K wName) := by
  refine F.ok scUnk (fun vs H Q E h => ?_) (fun cdv A outer s H vs Q E hr h => ?_)
  · obtain ⟨a, C, v, rfl, _⟩ := h
    rfl
  · obtain ⟨a, C, v, rfl, ox, no, ha, q⟩ := h
    refine ⟨_, pss_one (ps_ost (pv 0) (pv 1)), ?_⟩
    exact ⟨v, rfl, .ref a, rfl, a, C, rfl, ox, no, .inl ⟨ha, fun dx nd da => q dx nd da⟩⟩
/-- the class Invalid and its __init__ -/
structure EInv (K : PySem.W.Frag) (mg : Str → Option Value) (C fI : Addr) (fdI : FuncData) : Prop where
  T : ErrC K C fI wWhat
  M : Mm K "__init__" "Invalid.__init__" sInv ["self", "what"] fI fdI
  g : mg "Invalid" = some (.ref C)
/-- the class Unknown and its __init__ -/
structure EUnk (K : PySem.W.Frag) (mg : Str → Option Value) (C fI : Addr) (fdI : FuncData) : Prop where
  T : ErrC K C fI wName
  M : Mm K "__init__" "Unknown.__init__" sUnk ["self", "name"] fI fdI
  g : mg "Unknown" = some (.ref C)
end
/-! ### heaps -/
def But (p : Addr) (H H' : Hp) : Prop := ∀ b o, H b = some o → b ≠ p → H' b = some o
theorem But.refl (p : Addr) (H : Hp) : But p H H := fun _ _ h _ => h
theorem But.trans {p : Addr} {H H1 H2 : Hp} (a : But p H H1) (b : But p H1 H2) : But p H H2 := fun c o h n => b c o (a c o h n) n
theorem But.upd {p : Addr} {H : Hp} {o : HO} : But p H (upd H p o) := fun b x e n => by rw [upd_ne n]; exact e
theorem Same.but {p : Addr} {H H' : Hp} (h : Same H H') : But p H H' := fun b o e _ => h b o e
/-! ### rows -/
def Good (ps : List Pr) : Prop := (∀ p ∈ ps, isAddr p.1 = true ∧ isLane p.2 = true) ∧ (ps.map Prod.fst).Nodup
def ok1 (kvs : Kvs) (p : Pr) : Bool := isAddr p.1 && isLane p.2 && (valV kvs (Sum.inr p.1)).isNone
theorem valV_kvP (k : Str) : ∀ ps : List Pr, (valV (kvP ps) (Sum.inr k)).isSome = true ↔ k ∈ ps.map Prod.fst
  | [] => by simp [kvP, valV]
  | p :: ps => by
    have ih := valV_kvP k ps
    by_cases c : p.1 = k
    · rw [show kvP (p :: ps) = (Sum.inr p.1, V.str p.2) :: kvP ps from rfl, valV_pos (by rw [c])]
      simp [c]
    · rw [show kvP (p :: ps) = (Sum.inr p.1, V.str p.2) :: kvP ps from rfl, valV_neg (by simpa using c), ih]
      simp [c, Ne.symm c, eq_comm]
theorem good_snoc {ps : List Pr} {p : Pr} (h : Good ps) (c : ok1 (kvP ps) p = true) : Good (ps ++ [p]) := by
  unfold ok1 at c
  rw [Bool.and_eq_true, Bool.and_eq_true] at c
  obtain ⟨⟨c1, c2⟩, c3⟩ := c
  refine ⟨fun q hq => ?_, ?_⟩
  · rcases List.mem_append.mp hq with hq | hq
    · exact h.1 q hq
    · cases List.mem_singleton.mp hq
      exact ⟨c1, c2⟩
  · rw [List.map_append, List.nodup_append]
    refine ⟨h.2, by simp, fun x hx y hy e => ?_⟩
    subst e
    rw [List.map_singleton, List.mem_singleton] at hy
    subst hy
    have := (valV_kvP p.1 ps).mpr hx
    rw [Option.isNone_iff_eq_none] at c3
    rw [c3] at this
    cases this
theorem good_ok {ps qs : List Pr} {p : Pr} (h : Good (ps ++ p :: qs)) : ok1 (kvP ps) p = true := by
  obtain ⟨h1, h2⟩ := h
  have a := h1 p (List.mem_append_right _ List.mem_cons_self)
  unfold ok1
  rw [a.1, a.2, Bool.true_and, Bool.true_and, Option.isNone_iff_eq_none]
  cases e : valV (kvP ps) (Sum.inr p.1) with
  | none => rfl
  | some v =>
    exfalso
    have m := (valV_kvP p.1 ps).mp (by rw [e]; rfl)
    rw [List.map_append, List.nodup_append] at h2
    exact h2.2.2 _ m _ (by simp) rfl
theorem put_snoc {ps : List Pr} {p : Pr} (c : ok1 (kvP ps) p = true) : putK (kvP ps) (Sum.inr p.1) (V.str p.2) = kvP (ps ++ [p]) := by
  unfold ok1 at c
  rw [Bool.and_eq_true] at c
  rw [putK_new _ (Option.isNone_iff_eq_none.mp c.2)]
  unfold kvP
  rw [List.map_append]
  rfl
end Tb
namespace Tb
open PySem PySem.Spec PyProof.Rows L2
open PySem.W (TotalLe dataLe)
/-! ### the order of the rows -/
def sLt (a b : Str) : Bool := decide (a.cps.toList < b.cps.toList)
theorem sLt_tri {a b : Str} (h1 : sLt a b = false) (h2 : sLt b a = false) : a = b := by
  have h1 : ¬ a.cps.toList < b.cps.toList := of_decide_eq_false h1
  have h2 : ¬ b.cps.toList < a.cps.toList := of_decide_eq_false h2
  have e : a.cps.toList = b.cps.toList := List.le_antisymm (List.not_lt.mp h2) (List.not_lt.mp h1)
  cases a; cases b
  simp only at e
  congr 1
  exact Array.ext' e
theorem lt2 (a b : Pr) : PySem.W.dataLt (enc2 a) (enc2 b) = if a.1 = b.1 then sLt a.2 b.2 else sLt a.1 b.1 := by
  have q : ∀ x y : Str, PyData.eqv (.str x) (.str y) = decide (x = y) := fun x y => by rw [PyData.eqv]; exact Bool.beq_eq_decide_eq x y
  unfold enc2
  rw [PySem.W.dataLt_pair (by simp [PySem.W.alike]) (by simp [PySem.W.alike]), q, q, PySem.W.dataLt_str, PySem.W.dataLt_str]
  by_cases c : a.1 = b.1
  · rw [if_pos (decide_eq_true c), if_pos c]
    by_cases c2 : a.2 = b.2
    · rw [if_pos (decide_eq_true c2), c2]
      exact (decide_eq_false (List.lt_irrefl _)).symm
    · rw [if_neg (by simpa using c2)]
      rfl
  · rw [if_neg (by simpa using c), if_neg c]
    rfl
theorem le2_eq (a b : Pr) : le2 a b = !(if b.1 = a.1 then sLt b.2 a.2 else sLt b.1 a.1) := by
  unfold le2
  rw [PySem.W.dataLe_eq]
  show (!PySem.W.dataLt (enc2 b) (enc2 a)) = _
  rw [lt2]
theorem le1_eq (a b : Str) : le1 a b = !sLt b a := by
  unfold le1
  rw [PySem.W.dataLe_eq]
  show (!PySem.W.dataLt (.str b) (.str a)) = _
  rw [PySem.W.dataLt_str]
  rfl
theorem le2_total : TotalLe le2 := by
  unfold le2 dataLe
  exact PySem.W.sortLe_total _ _ _
theorem le2_anti {a b : Pr} (h1 : le2 a b = true) (h2 : le2 b a = true) : a = b := by
  rw [le2_eq, Bool.not_eq_true'] at h1 h2
  by_cases c : a.1 = b.1
  · rw [if_pos c.symm] at h1
    rw [if_pos c] at h2
    exact Prod.ext c (sLt_tri h2 h1)
  · rw [if_neg (Ne.symm c)] at h1
    rw [if_neg c] at h2
    exact absurd (sLt_tri h2 h1) c
/-- the sorted list is one -/
theorem sort_perm {ps qs : List Pr} (h : ps.Perm qs) : ps.mergeSort le2 = qs.mergeSort le2 := by
  refine List.Perm.eq_of_pairwise (le := fun a b => le2 a b = true) (fun a b _ _ h1 h2 => le2_anti h1 h2) (PySem.W.sort_pairwise le2_total ps) (PySem.W.sort_pairwise le2_total qs) ?_
  exact ((List.mergeSort_perm ps le2).trans h).trans (List.mergeSort_perm qs le2).symm
/-- the first parts of the sorted rows are the sorted first parts -/
theorem sort_keys {ps : List Pr} (h : (ps.map Prod.fst).Nodup) : (ps.mergeSort le2).map Prod.fst = (ps.map Prod.fst).mergeSort le1 := by
  refine PySem.W.sort_maps (r := le2) (s := le1) Prod.fst fun a ha b hb => ?_
  rw [le2_eq, le1_eq]
  by_cases c : b.1 = a.1
  · have e : a = b := by
      have := List.pairwise_map.mp h
      exact Classical.byContradiction fun n => by
        have : ∀ (l : List Pr), l.Pairwise (fun x y => x.1 ≠ y.1) → ∀ x ∈ l, ∀ y ∈ l, x.1 = y.1 → x = y := by
          intro l hl
          induction hl with
          | nil => intro x hx; cases hx
          | cons h1 _ ih =>
            intro x hx y hy e
            rcases List.mem_cons.mp hx with rfl | hx
            · rcases List.mem_cons.mp hy with rfl | hy
              · rfl
              · exact absurd e (h1 y hy)
            · rcases List.mem_cons.mp hy with e2 | hy
              · rw [e2] at e; exact absurd e.symm (h1 x hx)
              · exact ih x hx y hy e
        exact n (this ps (List.pairwise_map.mp h) a ha b hb c.symm)
    rw [if_pos c, e]
    unfold sLt
    rw [decide_eq_false (List.lt_irrefl _), decide_eq_false (List.lt_irrefl _)]
  · rw [if_neg c]
theorem valV_mem {ps : List Pr} (h : (ps.map Prod.fst).Nodup) {p : Pr} (hp : p ∈ ps) : valV (kvP ps) (Sum.inr p.1) = some (.str p.2) := by
  induction ps with
  | nil => cases hp
  | cons q ps ih =>
    rw [List.map_cons, List.nodup_cons] at h
    show valV ((Sum.inr q.1, V.str q.2) :: kvP ps) _ = _
    rcases List.mem_cons.mp hp with rfl | hp
    · rw [valV_pos rfl]
    · rw [valV_neg, ih h.2 hp]
      intro e
      have e2 : q.1 = p.1 := Sum.inr.inj e
      exact h.1 (List.mem_map.mpr ⟨p, hp, e2.symm⟩)
theorem nodup_sort {ps : List Pr} (h : (ps.map Prod.fst).Nodup) : ((ps.mergeSort le2).map Prod.fst).Nodup := ((List.mergeSort_perm ps le2).map Prod.fst).nodup_iff.mpr h
theorem mem_sort {ps : List Pr} {p : Pr} : p ∈ ps.mergeSort le2 ↔ p ∈ ps := List.mem_mergeSort
theorem len_sort {ps : List Pr} : (ps.mergeSort le2).length = ps.length := List.length_mergeSort _
end Tb
namespace Tb
open PySem PySem.Spec PyProof.Rows L2
/-! ### texts by their signs -/
abbrev tl (z : Str) : List Nat := z.cps.toList
theorem len_tl (z : Str) : z.length = (tl z).length := (Array.length_toList).symm
theorem tl_one (c : Nat) : tl ⟨#[c]⟩ = [c] := rfl
theorem tl_app (a b : Str) : tl (a ++ b) = tl a ++ tl b := by
  show (a.cps ++ b.cps).toList = _
  rw [Array.toList_append]
theorem tl_hi (z : Str) (k : Nat) : tl (cutS z none (some (k : Int))) = (tl z).take k := by
  show ((z.cps.toList.drop (HT.sIx z.length 0 none)).take (HT.sIx z.length z.length (some (k : Int)) - HT.sIx z.length 0 none)).toArray.toList = _
  rw [List.toList_toArray, HT.sIx_nat, HT.sIx_none, List.drop_zero, Nat.sub_zero]
  by_cases h : k ≤ z.length
  · rw [Nat.min_eq_left h]
  · have : z.cps.toList.length = z.length := Array.length_toList
    rw [Nat.min_eq_right (by omega), ← this, List.take_length, List.take_of_length_le (by show z.cps.toList.length ≤ k; omega)]
theorem tl_lo (z : Str) (k : Nat) : tl (cutS z (some (k : Int)) none) = (tl z).drop k := by
  show ((z.cps.toList.drop (HT.sIx z.length 0 (some (k : Int)))).take (HT.sIx z.length z.length none - HT.sIx z.length 0 (some (k : Int)))).toArray.toList = _
  have e0 : z.cps.toList.length = z.length := Array.length_toList
  have e1 : HT.sIx z.length 0 (some (k : Int)) = min k z.length := HT.sIx_nat _ _ _
  rw [List.toList_toArray, e1, HT.sIx_none]
  have e2 : z.cps.toList.drop (min k z.length) = z.cps.toList.drop k := by
    by_cases h : k ≤ z.length
    · rw [Nat.min_eq_left h]
    · rw [Nat.min_eq_right (by omega), List.drop_eq_nil_of_le (by omega), List.drop_eq_nil_of_le (by omega)]
  rw [e2, List.take_of_length_le (by rw [List.length_drop]; omega)]
theorem tl_inj {a b : Str} (h : tl a = tl b) : a = b := by
  cases a; cases b
  congr 1
  exact Array.ext' h
def Sg (z : Str) : Prop := ∀ c ∈ tl z, c < 1114112
structure Tx (z : Str) : Prop where
  len : z.length ≤ 100
  sg : Sg z
def Nm (l : List Nat) : Prop := l.length ≤ 12 ∧ (∀ d ∈ l, isIn (letters ++ digits) d = true) ∧ ∃ c, l[0]? = some c ∧ isIn letters c = true
def Ad (l : List Nat) : Prop := 1 ≤ l.length ∧ l.length ≤ 8 ∧ ∀ d ∈ l, isIn digits d = true
theorem isName_iff (t : Str) : isName t = true ↔ Nm (tl t) := by
  have e0 : t.cps.toList.length = t.length := Array.length_toList
  unfold isName made Nm
  rw [Bool.and_eq_true, Bool.and_eq_true, Bool.and_eq_true, List.all_eq_true, decide_eq_true_eq, decide_eq_true_eq, ← Array.getElem?_toList]
  constructor
  · rintro ⟨⟨⟨h1, h2⟩, h3⟩, h4⟩
    refine ⟨by show t.cps.toList.length ≤ 12; omega, h3, ?_⟩
    cases e : t.cps.toList[0]? with
    | none => rw [e] at h4; cases h4
    | some c => rw [e] at h4; exact ⟨c, rfl, h4⟩
  · rintro ⟨h1, h2, c, h3, h4⟩
    have h1 : t.cps.toList.length ≤ 12 := h1
    have h3 : t.cps.toList[0]? = some c := h3
    have := (List.getElem?_eq_some_iff.mp h3).1
    rw [h3]
    exact ⟨⟨⟨by omega, by omega⟩, h2⟩, h4⟩
theorem isAddr_iff (t : Str) : isAddr t = true ↔ Ad (tl t) := by
  have e0 : t.cps.toList.length = t.length := Array.length_toList
  unfold isAddr made Ad
  rw [Bool.and_eq_true, Bool.and_eq_true, List.all_eq_true, decide_eq_true_eq, decide_eq_true_eq]
  constructor
  · rintro ⟨⟨h1, h2⟩, h3⟩
    exact ⟨by show 1 ≤ t.cps.toList.length; omega, by show t.cps.toList.length ≤ 8; omega, h3⟩
  · rintro ⟨h1, h2, h3⟩
    have h1 : 1 ≤ t.cps.toList.length := h1
    have h2 : t.cps.toList.length ≤ 8 := h2
    exact ⟨⟨by omega, by omega⟩, h3⟩
theorem in_lt {s : Str} (hs : (tl s).all (fun c => decide (c < 1114112)) = true) {c : Nat} (h : isIn s c = true) : c < 1114112 :=
  of_decide_eq_true (List.all_eq_true.mp hs c (of_decide_eq_true h))
theorem nm_tx {t : Str} (h : Nm (tl t)) : Tx t :=
  ⟨by rw [len_tl]; have := h.1; omega, fun c hc => in_lt (by decide +kernel) (h.2.1 c hc)⟩
theorem ad_tx {t : Str} (h : Ad (tl t)) : Tx t :=
  ⟨by rw [len_tl]; have := h.2.1; omega, fun c hc => in_lt (by decide +kernel) (h.2.2 c hc)⟩
/-- a sign put in the place -/
def rep (l : List Nat) (s d : Nat) : List Nat := l.take s ++ [d] ++ l.drop (s + 1)
theorem rep_len {l : List Nat} {s d : Nat} (h : s < l.length) : (rep l s d).length = l.length := by
  unfold rep
  rw [List.length_append, List.length_append, List.length_take, List.length_drop, List.length_singleton]
  omega
theorem rep_mem {l : List Nat} {s d e : Nat} (h : e ∈ rep l s d) : e ∈ l ∨ e = d := by
  unfold rep at h
  rcases List.mem_append.mp h with h | h
  · rcases List.mem_append.mp h with h | h
    · exact .inl (List.mem_of_mem_take h)
    · exact .inr (List.mem_singleton.mp h)
  · exact .inl (List.mem_of_mem_drop h)
theorem rep_head {l : List Nat} {s d : Nat} (h : s < l.length) : (rep l s d)[0]? = if s = 0 then some d else l[0]? := by
  unfold rep
  cases s with
  | zero => rfl
  | succ s =>
    cases l with
    | nil => cases h
    | cons a l => rfl
theorem rep_tl (t : Str) (s d : Nat) : tl ((cutS t none (some (s : Int)) ++ ⟨#[d]⟩) ++ cutS t (some ((s : Int) + 1)) none) = rep (tl t) s d := by
  rw [tl_app, tl_app, tl_hi, show ((s : Int) + 1) = ((s + 1 : Nat) : Int) from rfl, tl_lo]
  rfl
theorem nm_rep {l : List Nat} {s d : Nat} (h : Nm l) (hs : s < l.length) (hd : isIn (letters ++ digits) d = true) (h0 : s = 0 → isIn letters d = true) : Nm (rep l s d) := by
  obtain ⟨h1, h2, c, h3, h4⟩ := h
  refine ⟨by rw [rep_len hs]; exact h1, fun e he => ?_, ?_⟩
  · rcases rep_mem he with he | rfl
    · exact h2 e he
    · exact hd
  · rw [rep_head hs]
    by_cases e : s = 0
    · exact ⟨d, by rw [if_pos e], h0 e⟩
    · exact ⟨c, by rw [if_neg e]; exact h3, h4⟩
theorem ad_rep {l : List Nat} {s d : Nat} (h : Ad l) (hs : s < l.length) (hd : isIn digits d = true) : Ad (rep l s d) := by
  obtain ⟨h1, h2, h3⟩ := h
  refine ⟨by rw [rep_len hs]; exact h1, by rw [rep_len hs]; exact h2, fun e he => ?_⟩
  rcases rep_mem he with he | rfl
  · exact h3 e he
  · exact hd
abbrev LD : Str := (("abcdefghijklmnopqrstuvwxyz0123456789" : String) : Str)
theorem ld_len : (LD.length : Int) = 36 := by decide +kernel
theorem ld_any {n c : Nat} (h : LD.cps[n]? = some c) : isIn (letters ++ digits) c = true := by
  have k : ∀ m : Fin 36, isIn (letters ++ digits) (LD.cps[m.val]?.getD 0) = true := by decide +kernel
  have hl : n < 36 := by
    have := (Array.getElem?_eq_some_iff.mp h).1
    have e : LD.cps.size = 36 := by decide +kernel
    omega
  have := k ⟨n, hl⟩
  rw [h] at this
  exact this
theorem ld_lo {n c : Nat} (h : LD.cps[n]? = some c) (hn : n < 26) : isIn letters c = true := by
  have k : ∀ m : Fin 26, isIn letters (LD.cps[m.val]?.getD 0) = true := by decide +kernel
  have := k ⟨n, hn⟩
  rw [h] at this
  exact this
theorem dg_any {n c : Nat} (h : digits.cps[n]? = some c) : isIn digits c = true := decide_eq_true (by
  rw [Array.mem_toList_iff]
  exact Array.mem_of_getElem? h)
theorem dg_len : (digits.length : Int) = 10 := by decide +kernel
theorem at_sign {z : Str} {i : Int} (h : i < z.length) (h0 : 0 ≤ i) : ∃ c, z.cps[i.toNat]? = some c := by
  have : i.toNat < z.cps.size := by
    show i.toNat < z.length
    omega
  exact ⟨_, Array.getElem?_eq_getElem this⟩
theorem nm_app {l m : List Nat} (h : Nm l) (hm : ∀ d ∈ m, isIn (letters ++ digits) d = true) (hl : l.length + m.length ≤ 12) : Nm (l ++ m) := by
  obtain ⟨h1, h2, c, h3, h4⟩ := h
  refine ⟨by rw [List.length_append]; exact hl, fun e he => ?_, c, ?_, h4⟩
  · rcases List.mem_append.mp he with he | he
    · exact h2 e he
    · exact hm e he
  · rw [List.getElem?_append_left (List.getElem?_eq_some_iff.mp h3).1]
    exact h3
theorem nm_take {l : List Nat} (h : Nm l) {k : Nat} (hk : 0 < k) : Nm (l.take k) := by
  obtain ⟨h1, h2, c, h3, h4⟩ := h
  refine ⟨by rw [List.length_take]; omega, fun e he => h2 e (List.mem_of_mem_take he), c, ?_, h4⟩
  rw [List.getElem?_take, if_pos hk]
  exact h3
theorem nm_pos {l : List Nat} (h : Nm l) : 0 < l.length := by
  obtain ⟨_, _, c, h3, _⟩ := h
  exact (List.getElem?_eq_some_iff.mp h3).1
theorem num100 {k : Nat} (h : k < 100) : (tl (Str.ofString (toString (k : Int)))).length ≤ 2 ∧ ∀ d ∈ tl (Str.ofString (toString (k : Int))), isIn (letters ++ digits) d = true := by
  have k1 : ∀ m : Fin 100, (decide ((tl (Str.ofString (toString (m.val : Int)))).length ≤ 2) && (tl (Str.ofString (toString (m.val : Int)))).all (isIn (letters ++ digits))) = true := by decide +kernel
  have := k1 ⟨k, h⟩
  rw [Bool.and_eq_true, List.all_eq_true] at this
  exact ⟨of_decide_eq_true this.1, this.2⟩
end Tb
namespace Tb
open PySem PySem.Spec PyProof.Rows L2
abbrev NF8 : List Str := ["bag", "known", "letters", "text", "spot", "sign", "size", "k", "base"]
theorem dp_strs {K : PySem.W.Frag} {H : Hp} : ∀ ks : List Str, DpAll K H (ks.map V.str) (ks.map PyData.str)
  | [] => .nil
  | k :: ks => .cons (.str k) (dp_strs ks)
theorem strOk_sg {z : Str} (h : Sg z) : PySem.PyData.strOk z = true := by
  unfold PySem.PyData.strOk
  rw [Array.all_eq_true']
  intro c hc
  exact decide_eq_true (h c (Array.mem_toList_iff.mpr hc))
theorem lay_strs : ∀ {ks : List Str}, (∀ x ∈ ks, Tx x) → PyData.canLayAll0 (ks.map PyData.str) = true ∧ PyData.depthAll (ks.map PyData.str) ≤ 1
  | [], _ => by simp [PyData.canLayAll0, PyData.depthAll]
  | k :: ks, h => by
    obtain ⟨b1, b2⟩ := lay_strs (ks := ks) fun q hq => h q (List.mem_cons_of_mem _ hq)
    have a1 := strOk_sg (h k List.mem_cons_self).sg
    refine ⟨?_, ?_⟩
    · simp only [List.map_cons, PyData.canLayAll0, PyData.canLay0, a1, b1, Bool.and_true]
    · simp only [List.map_cons, PyData.depthAll, PyData.depth]
      omega
theorem shaped_strs {ks : List Str} (h : ∀ x ∈ ks, Tx x) : SeqAt.shaped (.list (ks.map PyData.str)) = true := by
  obtain ⟨h1, h2⟩ := lay_strs h
  show (PyData.canLay0 (.list (ks.map PyData.str)) && decide (PyData.depth (.list (ks.map PyData.str)) ≤ 64)) = true
  rw [Bool.and_eq_true]
  refine ⟨by simp only [PyData.canLay0]; exact h1, decide_eq_true ?_⟩
  simp only [PyData.depth]
  omega
theorem eqv_nil {ds : List PyData} : PyData.eqv (.list ds) (.list []) = ds.isEmpty := by
  cases ds <;> simp [PyData.eqv, PyData.eqvAll]
theorem flat_strs (ks : List Str) : (ks.map V.str).all flatV = true := by
  rw [List.all_map, List.all_eq_true]
  exact fun _ _ => rfl
theorem ifS_via {tc : TT} {t u : TS} {D : Ends} {σ : L2.St} {H : Hp} (R : Bool → Hp → Prop) (h : ∀ Q : Bool → Hp → Prop, (∀ b H1, R b H1 → Q b H1) → tc σ H Q) (k : ∀ b H1, R b H1 → (if b = true then t D σ H1 else u D σ H1)) : tIfS tc t u D σ H := h _ k
theorem at_nat {α : Type} {xs : List α} {i : Int} {v : α} (h0 : 0 ≤ i) (h : xs[i.toNat]? = some v) : atI xs i = some v := by
  have e : i = (i.toNat : Int) := by omega
  rw [e]
  exact atI_nat h
theorem pick {ks : List Str} {i : Int} (h0 : 0 ≤ i) (h1 : i < ((ks.map V.str).length : Int)) : ∃ x ∈ ks, atI (ks.map V.str) i = some (V.str x) := by
  rw [List.length_map] at h1
  have hl : i.toNat < ks.length := by omega
  refine ⟨ks[i.toNat], List.getElem_mem hl, at_nat h0 ?_⟩
  rw [List.getElem?_map, List.getElem?_eq_getElem hl]
  rfl
theorem app_len (a b : Str) : (a ++ b).length = a.length + b.length := by
  rw [len_tl, tl_app, List.length_append, ← len_tl, ← len_tl]
theorem one_len (c : Nat) : (⟨#[c]⟩ : Str).length = 1 := rfl
theorem cut_le (z : Str) (lo hi : Option Int) : (cutS z lo hi).length ≤ z.length := cutS_length z lo hi
def numT (k : Nat) : Str := Str.ofString (toString (k : Int))
theorem num_inj : ((List.range 99).map numT).Nodup := by decide +kernel
theorem sub_len {α : Type} [DecidableEq α] : ∀ (l D : List α), l.Nodup → (∀ x ∈ l, x ∈ D) → l.length ≤ D.length
  | [], _, _, _ => Nat.zero_le _
  | x :: l, D, hn, hs => by
    obtain ⟨h1, h2⟩ := List.nodup_cons.mp hn
    have hx := hs x List.mem_cons_self
    have ih := sub_len l (D.erase x) h2 fun y hy => (List.mem_erase_of_ne fun e => h1 (by rw [← e]; exact hy)).mpr (hs y (List.mem_cons_of_mem _ hy))
    have e := List.length_erase_of_mem hx
    have hp := List.length_pos_of_mem hx
    simp only [List.length_cons]
    omega
theorem app_inj {a b c : Str} (h : a ++ b = a ++ c) : b = c := by
  have e : tl (a ++ b) = tl (a ++ c) := by rw [h]
  rw [tl_app, tl_app] at e
  exact tl_inj (List.append_cancel_left e)
/-- ninety-nine texts on one base -/
theorem pigeon (bs : Str) (ks : List Str) (h : ∀ j, j < 99 → bs ++ numT j ∈ ks) : 99 ≤ ks.length := by
  have nd : (((List.range 99).map numT).map fun x => bs ++ x).Nodup := List.pairwise_map.mpr (List.Pairwise.imp (fun hne e => hne (app_inj e)) num_inj)
  have q := sub_len _ ks nd fun x hx => by
    rw [List.map_map] at hx
    obtain ⟨j, hj, rfl⟩ := List.mem_map.mp hx
    exact h j (List.mem_range.mp hj)
  rw [List.length_map, List.length_map, List.length_range] at q
  exact q
theorem inV_str {z : Str} {ks : List Str} (h : z ∈ ks) : inV (.str z) (ks.map V.str) = true := by
  unfold inV
  rw [List.any_map, List.any_eq_true]
  exact ⟨z, h, by show (z == z) = true; exact beq_self_eq_true z⟩
theorem str_inV {z : Str} {ks : List Str} (h : inV (.str z) (ks.map V.str) = true) : z ∈ ks := by
  unfold inV at h
  rw [List.any_map, List.any_eq_true] at h
  obtain ⟨x, hx, e⟩ := h
  have e2 : (z == x) = true ∨ (x == z) = true := by first | exact .inl e | exact .inr e
  rcases e2 with e2 | e2
  · rw [eq_of_beq e2]; exact hx
  · rw [← eq_of_beq e2]; exact hx
section
variable {P : Program} {w : World} {K : PySem.W.Frag} {mg : Str → Option Value} {base : Heap}
end
end Tb
namespace Tb
open PySem PySem.Spec PyProof.Rows L2
open PySem.W (EachIs AllAlike Sortable dataLe)
/-! ### sorted(d), d a dict whose keys are tuples of whole numbers and texts -/
def encI : Key → PyData
  | .inl i => .int i
  | .inr x => .str x
def encT (k : List Key) : PyData := .tuple (k.map encI)
theorem reads_items {h : Heap} : ∀ {k : List Key} {us : List Value}, Vals (k.map kV) us → ReadsAll h us (k.map encI) []
  | [], _, r => by cases r; exact .nil
  | x :: k, _, r => by
    cases r with
    | cons r1 r2 =>
      have t := reads_items (h := h) r2
      refine .cons (as := []) ?_ t
      cases x with
      | inl i =>
        obtain ⟨t, rfl⟩ := r1
        exact .int i t
      | inr z =>
        obtain ⟨t, rfl⟩ := r1
        exact .str z t
theorem reads_key {X : Cx} {pins : List (Addr × Obj)} {σ : L2.St} {H : Hp} {s : Shared} {q : Addr} {k : List Key} (I : Inv X pins σ H s) (e : H q = some (.tup (k.map kV))) : Reads s.heap (.ref q) (encT k) [] := by
  obtain ⟨its, r, ⟨o, e1, e2, n, e3⟩, _⟩ := I.tuple (.of e : SqT X.K H q (k.map kV))
  exact .tuple e1 e2 e3 (by rw [List.toList_toArray]; exact reads_items r)
def rSortDT : List V → Hp → VK → Prop := fun xs H Q => ∃ (d : Addr) (kvs : List (List Key × V)), xs = [.ref d] ∧ Rd H d (.dT kvs) ∧ kvs.length ≤ 1000 ∧ AllAlike (kvs.map fun kv => encT kv.1) ∧ Sortable (kvs.map fun kv => encT kv.1) ∧ (∀ kv ∈ kvs, (encT kv.1).depth ≤ 10) ∧
  ∀ (p : Addr) (bs : List (Addr × List Key)), H p = none → bs.map Prod.snd = (kvs.map Prod.fst).mergeSort (dataLe false encT) → (∀ b ∈ bs, H b.1 = some (.tup (b.2.map kV))) → Q (.ref p) (upd H p (.lst (bs.map fun b => V.ref b.1)))
theorem enc_snd (bs : List (Addr × List Key)) : bs.map (fun b => encT b.2) = (bs.map Prod.snd).map encT := by
  rw [List.map_map]
  rfl
theorem sort_snd {bs : List (Addr × List Key)} : (bs.mergeSort (dataLe false fun b => encT b.2)).map Prod.snd = (bs.map Prod.snd).mergeSort (dataLe false encT) := by
  rw [List.map_mergeSort]
  intro a _ b _
  rfl
abbrev KTx (H : Hp) (kvs : List (List Key × V)) (ks : List (List Key × Addr × Value)) : Prop := Paired (fun (p : List Key × V) (q : List Key × Addr × Value) => p.1 = q.1 ∧ H q.2.1 = some (.tup (p.1.map kV)) ∧ RelV p.2 q.2.2) kvs ks
theorem kt_keys {H : Hp} : ∀ {kvs : List (List Key × V)} {ks : List (List Key × Addr × Value)}, KTx H kvs ks → ks.map (fun x => x.1) = kvs.map Prod.fst
  | _, _, .nil => rfl
  | _, _, .cons h t => by rw [List.map_cons, List.map_cons, kt_keys t, h.1]
theorem kt_at {H : Hp} : ∀ {kvs : List (List Key × V)} {ks : List (List Key × Addr × Value)}, KTx H kvs ks → ∀ x ∈ ks, H x.2.1 = some (.tup (x.1.map kV))
  | _, _, .nil, _, h => by cases h
  | _, _, .cons h t, x, hx => by
    rcases List.mem_cons.mp hx with rfl | hx
    · rw [← h.1]; exact h.2.1
    · exact kt_at t x hx
section
variable {X : Cx}
theorem cr_sortedDT (hcalm : X.calm = true) (hu : X.A.units + 64 < cLine) : CallR X (.builtin "sorted") rSortDT := by
  intro pins s σ H xs us Q I r q
  obtain ⟨d, kvs, rfl, hd, hln, al, so, dp, q⟩ := q
  obtain ⟨u, rfl, rx⟩ := vals1 r
  cases rx
  obtain ⟨z, hs, ks, pr, o, es, ep, ho, hx, hdt, he, hn⟩ := (show ObjOk X.prog X.w H s.heap d (.dT kvs) from hd.ok I.hok)
  have hline : sizeLine = 16777216 := rfl
  have l1 : es.size = ks.length := size_of_entries he
  have l2 : kvs.length = ks.length := Paired.length pr
  refine Calls.call_function_entry PyProof.Rows.kind_sorted PyProof.Rows.plain_sorted PyProof.Rows.entry_sorted (PyProof.Rows.args_sorted1 _) ?_
  unfold Builtin.«sorted»
  refine wpAny_bind (m := checkCount "sorted" 1 1 _) (wpAny_pure ?_)
  refine wpAny_bind (PySem.W.kdu_collect (A := X.A.in1) (kdl_raw hs hx hdt) (I.ok.hd hcalm) ho (by omega) fun h' tk acc hk hacc => ?_)
  have hal : acc.toList.length = ks.length := by rw [Array.length_toList, hacc.1, l1]
  -- the keys' places
  let bs : List (Addr × List Key) := ks.map fun x => (x.2.1, x.1)
  have hbs : bs.map Prod.snd = kvs.map Prod.fst := by
    show (ks.map fun x => (x.2.1, x.1)).map Prod.snd = _
    rw [List.map_map]
    exact kt_keys pr
  have hat : ∀ b ∈ bs, H b.1 = some (.tup (b.2.map kV)) := fun b hb => by
    obtain ⟨x, hx, rfl⟩ := List.mem_map.mp hb
    exact kt_at pr x hx
  have ea : acc.toList = bs.map fun b => Value.ref b.1 := by
    refine List.ext_getElem? fun j => ?_
    show _ = ((ks.map fun x => (x.2.1, x.1)).map fun b => Value.ref b.1)[j]?
    rw [List.getElem?_map, List.getElem?_map]
    cases hj : acc.toList[j]? with
    | none => rw [List.getElem?_eq_none (by have := List.getElem?_eq_none_iff.mp hj; omega)]; rfl
    | some v =>
      obtain ⟨en, hen, hv⟩ := hacc.2 j v (by rw [← Array.getElem?_toList]; exact hj)
      have qe := entry_at he j
      rw [hen] at qe
      cases hb : ks[j]? with
      | none => rw [hb] at qe; cases qe
      | some b =>
        rw [hb] at qe
        rw [hv, show en = _ from Option.some.inj qe]
        rfl
  have each : EachIs (fun (v : Value) (b : Addr × List Key) => v = .ref b.1) acc.toList bs := by
    rw [ea]
    clear_value bs
    clear ea hat hbs
    induction bs with
    | nil => exact .nil
    | cons b bs ih => exact .cons rfl ih
  have I1 : Inv X pins σ H { s with heap := h', toks := tk } := I.kept hk
  refine wpAny_bind (wpAny_newList ?_ (by rw [hal]; omega))
  have hoL : (h'.push (seqObj "list" acc.toList.toArray 0)).get? h'.objs.size = some (seqObj "list" acc.toList.toArray 0) := Heap.get?_push_size _ rfl
  show wpAny _ _ _ _ _ { s with heap := h'.push (seqObj "list" acc.toList.toArray 0), toks := tk }
  have I2 : Inv X pins σ H { s with heap := h'.push (seqObj "list" acc.toList.toArray 0), toks := tk } := I1.kept (t' := tk) fun b ob e => Heap.get?_push_of_some _ e
  have emap : bs.map (fun b => encT b.2) = kvs.map fun kv => encT kv.1 := by
    have e1 : bs.map (fun b => encT b.2) = (bs.map Prod.snd).map encT := enc_snd bs
    rw [e1, hbs, List.map_map]
    rfl
  have lb : bs.length = ks.length := List.length_map _
  refine wpAny_bind (wpAny_holding (PySem.W.list_sort_data (enc := fun b : Addr × List Key => encT b.2) (s := { s with heap := h'.push (seqObj "list" acc.toList.toArray 0), toks := tk }) hoL each (each_imp each fun v b hb e => ⟨[], by rw [e]; exact reads_key I2 (hat b hb), List.not_mem_nil⟩) (by rw [emap]; exact al) (by rw [emap]; exact so) (by omega) ?k4 fun out ho eo => ?_))
  case k4 =>
    intro b hb
    have h1 : (encT b.2).depth ≤ 10 := by
      have : encT b.2 ∈ kvs.map fun kv => encT kv.1 := by rw [← emap]; exact List.mem_map.mpr ⟨b, hb, rfl⟩
      obtain ⟨kv, hkv, e⟩ := List.mem_map.mp this
      rw [← e]
      exact dp kv hkv
    have h2 : X.A.in1.units = X.A.units + 1 := rfl
    omega
  obtain ⟨ep', he'⟩ := PyProof.Rows.sortedHeap_at (vs := acc.toList) (out := out.toArray) hoL
  let ms := bs.mergeSort (dataLe false fun b : Addr × List Key => encT b.2)
  have hlen : (ms.map fun b => V.ref b.1).length ≤ sizeLine := by
    rw [List.length_map, List.length_mergeSort]
    omega
  have ev : Vals (ms.map fun b => V.ref b.1) out := by
    show Vals ((bs.mergeSort (dataLe false fun b : Addr × List Key => encT b.2)).map fun b => V.ref b.1) out
    generalize bs.mergeSort (dataLe false fun b : Addr × List Key => encT b.2) = zs at eo
    clear ho he' hlen
    induction eo with
    | nil => exact .nil
    | cons h _ ih => exact .cons (by rw [h]; rfl) ih
  have hnew : H h'.objs.size = none := I1.hok.fresh (Nat.le_refl _)
  refine wpAny_pure ⟨_, rfl, .ref h'.objs.size, upd H h'.objs.size (.lst (ms.map fun b => V.ref b.1)), I1.laid (t' := tk) (fun b o e => ?_) (Nat.le_refl _) ⟨hlen, out, ep', ev, he'⟩, rfl, q _ ms hnew (by rw [sort_snd, hbs]) fun b hb => hat b (List.mem_mergeSort.mp hb)⟩
  have hb : b < h'.objs.size := Heap.lt_size e
  rw [PyProof.Rows.sortedHeap_old (Nat.ne_of_lt hb) (by rw [size_push']; exact Nat.lt_succ_of_lt hb)]
  exact Heap.get?_push_of_some _ e
end
end Tb
namespace Tb
open PySem PySem.Spec PyProof.Rows L2
/-! ### {k: v for target in iter}, the keys tuples of whole numbers and texts -/
theorem put_dT {X : Cx} {pins : List (Addr × Obj)} {σ : L2.St} {H : Hp} {s : Shared} {E : Value → Shared → Prop} {D b : Addr} {kvs : List (List Key × V)} {k : List Key} {v : V} {r : Value} {Q : Unit → Shared → Prop}
    (hu : X.A.units + 1 < cLine) (I : Inv X pins σ H s) (hD : H D = some (.dT kvs)) (hb : H b = some (.tup (k.map kV))) (hz : kvs.length < sizeLine) (rv : RelV v r)
    (q : ∀ s2, Inv X pins σ (upd H D (.dT (putK kvs k v))) s2 → Q () s2) : wpAny (model X.prog X.w) X.A (dictSet D (.ref b) r) Q E s := by
  obtain ⟨_, lo, xs, kt, dd⟩ := dt_of I.hok hD
  have n1 : xs.length ≤ sizeLine := by have := Paired.length kt; omega
  have n2 : (putK kvs k v).length ≤ sizeLine := by have := length_putK kvs k v; omega
  refine wpAny_dictSet_heap (hsz := n1) (show X.A.units < cLine by omega) (key_of I.hok hb) dd fun g dg un => q _ ?_
  obtain ⟨od, es, ep, a1, a2, a3, a4, _, a5⟩ := dg
  refine d_write I (by rw [hD]; exact True.intro) un ⟨od, a1⟩ ⟨n2, lo, _, (kt.put k hb rv).keeps fun c ys ec => ?_, od, es, ep, a1, a2, a3, a4, a5⟩
  rw [upd_ne fun z => by rw [z, hD] at ec; cases ec]
  exact ec
section
variable {X : Cx}
/-- D is the new dict; the key stands as a tuple when it is stored -/
def tDcT (wi : TI) (g : TG) (tk tv : TE) (vs : List Nat) : TE := fun σ H Q => wi σ H fun J H1 => ∀ D, H1 D = none → ∃ W : Nat → Nat → Hp → Prop, (∃ m, W 0 m (upd H1 D (.dT []))) ∧ ∀ i m G, W i m G →
  (J.stop i G ∧ Q (.ref D) G) ∨ (J.go i G ∧ ∃ Nx : Hp → Prop, (∀ G', Nx G' → ∃ m', m' < m ∧ W (i + 1) m' G') ∧ ∀ x G', J.yld i G x G' → g x (wipe σ vs) G' fun σ2 G2 => wipe σ2 vs = wipe σ vs ∧
    tk σ2 G2 fun y G3 => tv σ2 G3 fun z G4 => ∃ kvs k b, y = .ref b ∧ G4 b = some (.tup (k.map kV)) ∧ G4 D = some (.dT kvs) ∧ kvs.length < sizeLine ∧ Nx (upd G4 D (.dT (putK kvs k z))))
theorem pe_dcT {kx vx tg iter : Expr} {scope : Scope} {own : List (Str × Nat)} {pos : Pos} {wi : TI} {g : TG} {tk tv : TE} (calm : X.calm = true) (hu : X.A.units + 1 < cLine) (nd : X.N.Nodup) (src : PI X tg iter wi) (blk : BlkOk X.N X.env.scope scope own)
    (G1 : ∀ (s : Shared) (H : Hp) (C : Addr) (cl : List (Str × Addr)) (fp : List Addr), PG (X.blk s H scope (compEnvC scope cl C X.env) fp) tg g)
    (K1 : ∀ (s : Shared) (H : Hp) (C : Addr) (cl : List (Str × Addr)) (fp : List Addr), PE (X.blk s H scope (compEnvC scope cl C X.env) fp) kx tk)
    (V1 : ∀ (s : Shared) (H : Hp) (C : Addr) (cl : List (Str × Addr)) (fp : List Addr), PE (X.blk s H scope (compEnvC scope cl C X.env) fp) vx tv)
    (fold : ∀ x, foldedSetIterable iter X.env x = pure x := by intro _; rfl) :
    PE X (.DictComp kx vx [⟨tg, iter, [], 0⟩] scope pos) (tDcT wi g tk tv (own.map (·.2))) := by
  refine ⟨fun pins s σ H Q I w0 => ?_⟩
  rw [arm_eval_DictComp]
  let vs := own.map (·.2)
  have cells : ∀ y ∈ scope.names, y.2 = .free → ∃ c, X.env.cells.lookup y.1 = some c := fun y m e => (blk.free y m e).elim (fun k => I.ok.has _ (.inl k)) fun k => I.ok.has _ (.inr k)
  refine wpAny_comprehension_free rfl fold (closure_ok cells) blk.kind (fun y m e => by rw [blk.uniq y m, e]) (thn (src.run pins s σ H _ I w0) fun xv t1 a1 => thn a1 fun iv t2 a2 => ?_)
  obtain ⟨it, fp, tn, J, H2, rfl, I2, T, r2, f2, walk⟩ := a2
  refine wpAny_newObj_type (newEnv_comp ?_)
  -- the new dict stands at the end of the heap
  obtain ⟨D, eD⟩ : ∃ D, D = t2.heap.objs.size := ⟨_, rfl⟩
  have nD : H2 D = none := I2.hok.fresh (Nat.le_of_eq eD.symm)
  obtain ⟨W, ⟨m0, w2⟩, turn⟩ := walk D nD
  obtain ⟨t3, e3⟩ : ∃ t3 : Shared, t3 = { t2 with heap := t2.heap.push { cls := .type "dict", data := .dict #[] } } := ⟨_, rfl⟩
  have p3 : ∀ b o, t2.heap.get? b = some o → t3.heap.get? b = some o := fun b o e => by rw [e3]; exact Heap.get?_push_of_some _ e
  have I3 : Inv X pins σ (upd H2 D (.dT [])) t3 := by
    rw [e3]
    refine I2.laid (t' := t2.toks) (fun b o e => Heap.get?_push_of_some _ e) (Nat.le_of_eq eD.symm) ?_
    rw [eD]
    exact dt_empty t2.heap I2.big
  have low : ∀ b ∈ fp, b < t2.heap.objs.size := fun b m => let ⟨o, e, _⟩ := T.obj _ _ r2 b m; Heap.lt_size e
  have f3 : ∀ b ∈ fp, FpOk X pins (upd H2 D (.dT [])) b ∧ b < t3.heap.objs.size := fun b m => by
    have lt := low b m
    refine ⟨⟨?_, (f2 b m).2⟩, by rw [e3]; show b < (t2.heap.push _).objs.size; rw [Heap.size_push]; exact Nat.lt_succ_of_lt lt⟩
    rw [upd_ne (by rw [eD]; exact Nat.ne_of_lt lt)]
    exact (f2 b m).1
  have r3 : tn 0 t3.heap := T.keep _ _ _ r2 fun b _ o e => p3 b o e
  have I4 := block_start I3 blk nd f3
  obtain ⟨cs, ecs⟩ : ∃ cs, cs = cellsFrom (t3.heap.objs.size + 1) scope.names (cloFrom X.env.cells scope.names []) := ⟨_, rfl⟩
  obtain ⟨ce, ece⟩ : ∃ ce, ce = compEnvC scope cs t3.heap.objs.size X.env := ⟨_, rfl⟩
  have cL : ce.locals = t3.heap.objs.size := by rw [ece]; rfl
  obtain ⟨t4, e4⟩ : ∃ t4 : Shared, t4 = { t3 with heap := pushCells (t3.heap.push { cls := .type "dict", data := .dict #[] }) scope.names } := ⟨_, rfl⟩
  rw [← ecs, ← ece, ← e4] at I4
  have pg : PG (X.blk t3 (upd H2 D (.dT [])) scope ce fp) tg g := by rw [ece]; exact G1 ..
  have pk : PE (X.blk t3 (upd H2 D (.dT [])) scope ce fp) kx tk := by rw [ece]; exact K1 ..
  have pe : PE (X.blk t3 (upd H2 D (.dT [])) scope ce fp) vx tv := by rw [ece]; exact V1 ..
  generalize eH3 : upd H2 D (.dT []) = H3 at I3 I4 pg pk pe w2 f3
  have r4 : tn 0 t4.heap := T.keep _ _ _ r3 fun b _ o e => by rw [e4]; exact pushCells_keeps _ _ _ _ (Heap.get?_push_of_some _ e)
  show codeAny (model X.prog X.w) X.A (.compStart (.DictComp kx vx [⟨tg, iter, [], 0⟩] scope pos) 0 (.ref it) (.ref t2.heap.objs.size) (compEnvC scope (cellsFrom ((t2.heap.push { cls := .type "dict", data := .dict #[] }).objs.size + 1) scope.names (cloFrom X.env.cells scope.names [])) (t2.heap.push { cls := .type "dict", data := .dict #[] }).objs.size X.env))
    (compPost (model X.prog X.w) X.A X.xe none (EP X pins σ Q) (.ref t2.heap.objs.size) (t2.heap.push { cls := .type "dict", data := .dict #[] }).objs.size) { t2 with heap := pushCells ((t2.heap.push { cls := .type "dict", data := .dict #[] }).push { cls := .type "dict", data := .dict #[] }) scope.names }
  have h3 : t2.heap.push { cls := .type "dict", data := .dict #[] } = t3.heap := by rw [e3]
  have u4 : t4 = { t2 with heap := pushCells (t3.heap.push { cls := .type "dict", data := .dict #[] }) scope.names } := by rw [e4, e3]
  rw [h3, ← u4, ← ecs, ← ece, ← eD]
  have keepB : ∀ {σ9 : L2.St} {G : Hp} {u : Shared}, Inv (X.blk t3 H3 scope ce fp) [] σ9 G u → (∀ b ∈ fp, G b = none) → ∀ b ∈ fp, FpOk (X.blk t3 H3 scope ce fp) [] G b := fun {σ9 G u} J9 no b m =>
    ⟨no b m, (J9.ok.exf b m).1, J9.ok.exfs b m, .inl m, fun x c e => (J9.ok.exf b m).2 x c e, fun p hp => absurd (show p ∈ ([] : List (Addr × Obj)) ++ [] from hp) (by simp)⟩
  have wl : (wipe σ vs).length = σ.length := wipe_length ..
  have whole : codeAny (model X.prog X.w) X.A (.compLoop (.DictComp kx vx [⟨tg, iter, [], 0⟩] scope pos) 0 (.ref it) (.ref D) ce) (compPost (model X.prog X.w) X.A X.xe none (EP X pins σ Q) (.ref D) t3.heap.objs.size) t4 := by
    refine compLoop_anyD (fun left u => ∃ i G, W i left G ∧ (∀ b ∈ fp, G b = none) ∧ tn i u.heap ∧ Inv (X.blk t3 H3 scope ce fp) [] (wipe σ vs) G u) ?_ m0 ⟨0, H3, w2, fun b m => (f3 b m).1.1, r4, I4⟩
    rintro left u5 ⟨i, G5, wi5, no5, r5, J5⟩
    rcases turn i left G5 wi5 with ⟨stop, last⟩ | ⟨go, Nx, nxt, step⟩
    · refine thnF (T.done (X.blk t3 H3 scope ce fp) rfl rfl rfl calm i [] u5 _ G5 (fun _ _ => False) J5 (keepB J5 no5) r5 stop) fun r u6 ⟨er, J6⟩ => ?_
      subst er
      have back : Inv X pins σ G5 u6 := I3.call' (ch := fp) J6.os J6.base J6.hok J6.bare fun b m => by
        obtain ⟨_, c1, c2, c3, c4, c5⟩ := (f3 b m).1
        exact ⟨c3, c1, c4, c5⟩
      have free : G5 t3.heap.objs.size = none := by
        have z : G5 ce.locals = none := J6.free
        rwa [cL] at z
      obtain ⟨m, ns, _⟩ := J6.loc
      have ns : u6.heap.Ns ce.locals m := ns
      rw [cL] at ns
      refine ⟨m, ns, fun g' sb => ?_⟩
      obtain ⟨c0, c1, c2, c3, c4, c5⟩ := I3.fpOk (Nat.le_refl _) free
      exact ⟨.ref D, G5, back.turned (t' := u6.toks) (fun b o ne e => (sb.2 b ne).trans e) c0 c1 c3 c4 c5, rfl, last⟩
    · refine thnF (T.item (X.blk t3 H3 scope ce fp) rfl rfl rfl calm i [] u5 _ G5 (fun _ _ => False) J5 (keepB J5 no5) r5 go) fun r u6 ⟨it1, er, h6⟩ => ?_
      subst er
      refine thnF h6 fun _ u7 ⟨x, G7, J7, rx, yx, r7, no7⟩ => ?_
      refine thnF (pg.run _ u7 _ G7 x it1 _ (J7.pinned (keepB J7 no7) (T.obj _ _ r7)) rx (step x G7 yx)) fun _ u8 ⟨σ8, G8, J8, sw, q8⟩ => ?_
      refine wpAny_pure ?_
      rw [if_pos rfl]
      refine thnF (pk.run _ u8 σ8 G8 _ J8 q8) fun z1 u9 ⟨y1, G9, J9, ry, q9⟩ => ?_
      refine thnF (pe.run _ u9 σ8 G9 _ J9 q9) fun z2 u10 ⟨y2, G10, J10, rz, kvs, k, b, eb, hb, hD, hz, nx⟩ => ?_
      subst eb
      cases ry
      refine put_dT (X := X.blk t3 H3 scope ce fp) hu J10 hD hb hz rz fun u11 J11 => ?_
      obtain ⟨m', lt, wn⟩ := nxt _ nx
      have pinned : ∀ b ∈ fp, ∀ o, u7.heap.get? b = some o → u11.heap.get? b = some o ∧ upd G10 D (.dT (putK kvs k y2)) b = none := fun b m o e =>
        let z := J11.pin (b, o) (List.mem_append_right _ (List.mem_append_right _ (mem_pinsAt m e)))
        ⟨z.1, z.2.1⟩
      have len : (wipe σ vs).length = σ8.length := by rw [← sw, wipe_length]
      refine ⟨m', lt, i + 1, _, wn, fun b m => ?_, T.keep _ _ _ r7 fun b m o e => (pinned b m o e).1, (J11.unpinned (pins := [])).weak len fun j v e => ?_⟩
      · obtain ⟨o, e, _⟩ := T.obj _ _ r7 b m
        exact (pinned b m o e).2
      · rw [← sw] at e
        exact (wipe_some e).1
  exact codeAny_compStart_dict whole (T.self X.A 0 _ _ _ r4 whole)
end
end Tb
namespace Tb
open PySem PySem.Spec PyProof.Rows L2
/-! ### for (a, b), v in d.items(), the keys tuples of whole numbers and texts -/
def ItPr (d : Addr) (o : Obj) (kvs : List (List Key × V)) : It :=
  ⟨fun i H => i < kvs.length ∧ H d = some (.frz o (.dT kvs)),
   fun i H x H' => ∃ (T q : Addr) (k : List Key) (v : V), x = .ref T ∧ kvs[i]? = some (k, v) ∧ H q = some (.tup (k.map kV)) ∧ H T = none ∧ H' = upd H T (.tup [.ref q, v]),
   fun i H => kvs.length ≤ i ∧ H d = some (.frz o (.dT kvs))⟩
section
variable {X : Cx} {pins : List (Addr × Obj)} {σ : L2.St} {H : Hp} {s : Shared} {d : Addr} {o : Obj}
theorem raw_frzT {kvs : List (List Key × V)} (I : Inv X pins σ H s) (h : H d = some (.frz o (.dT kvs))) : (d == sysModules) = false ∧ ∃ (es : Array DictEntry) (ep : Nat), o.data = .dict es ep ∧ DT.Raw s.heap d es ep ∧ es.size = kvs.length ∧ kvs.length ≤ sizeLine ∧
    ∀ (i : Nat) (k : List Key) (v : V), kvs[i]? = some (k, v) → ∃ (q : Addr) (e : DictEntry), es[i]? = some e ∧ e.key = .ref q ∧ H q = some (.tup (k.map kV)) ∧ RelV v e.val := by
  obtain ⟨g, z, ns, ts, pr, o1, es, ep, g1, ex, dat, ents, _⟩ := I.hok d _ h
  rw [g] at g1
  cases g1
  have l1 : es.size = ts.length := size_of_entries ents
  have l2 : kvs.length = ts.length := Paired.length pr
  refine ⟨ns, es, ep, dat, ⟨o, g, ex, dat⟩, by omega, z, fun i k v e => ?_⟩
  obtain ⟨t, et, r1, r2, r3⟩ := paired_get pr e
  have w := entry_at ents i
  rw [et] at w
  exact ⟨t.2.1, _, w, rfl, r2, r3⟩
end
theorem turn_pr {P : Program} {w : World} {K : PySem.W.Frag} {d : Addr} {o : Obj} {es : Array DictEntry} {ep : Nat} {kvs : List (List Key × V)} {elts : List Expr} {n : Nat} {pos : Pos} (it : Addr) (hod : o.data = .dict es ep) :
    Turn P w K (.Tuple elts n pos) (ItPr d o kvs) [it] it (fun i h => ∃ lk lv, IsItemIter h it d i es.size ep lk lv) where
  mem := List.mem_singleton.mpr rfl
  obj := fun i h ⟨lk, lv, st⟩ b m => by
    cases List.mem_singleton.mp m
    exact ⟨_, st, nofun⟩
  keep := fun i h h' ⟨lk, lv, st⟩ k => ⟨lk, lv, k it (List.mem_singleton.mpr rfl) _ st⟩
  item := by
    rintro X rfl rfl rfl calm i pins s σ H E I fp ⟨lk, lv, st⟩ ⟨lt, hd⟩
    obtain ⟨ns, es', ep', dat, raw, sz, zl, ent⟩ := raw_frzT I hd
    obtain ⟨rfl, rfl⟩ := dict_ep hod dat
    obtain ⟨q, e, he, hk, hq, rv⟩ := ent i kvs[i].1 kvs[i].2 (List.getElem?_eq_getElem lt)
    have li : i < es'.size := by omega
    have e2 : es'[i] = e := by
      rw [Array.getElem?_eq_getElem li] at he
      exact Option.some.inj he
    have old : it < s.heap.objs.size := Heap.lt_size st
    refine DT.nextI st raw li fun h1 out tup hz keep => ?_
    rw [e2] at out tup
    rw [hk] at tup
    refine ⟨_, rfl, wpAny_letOwnedTupleGo_items (s := { s with heap := h1 }) out fun h2 st2 sb => ?_⟩
    have t2 : h2.get? s.heap.objs.size = some { cls := .type "tuple", data := .seq #[.ref q, e.val] } := (sb.2 _ (Nat.ne_of_gt old)).trans tup
    have J : Inv X pins σ (upd H s.heap.objs.size (.tup [.ref q, kvs[i].2])) { s with heap := h2 } := by
      refine I.turnedNew (t' := s.toks) (ch := [it]) (fun b ob nb e => (sb.2 b fun z => nb (by rw [z]; exact List.mem_singleton.mpr rfl)).trans (keep b ob (fun z => nb (by rw [z]; exact List.mem_singleton.mpr rfl)) e)) fp (Nat.le_refl _) ?_
      exact ⟨by show 2 ≤ sizeLine; decide, [.ref q, e.val], .cons rfl (.cons rv .nil), ⟨_, t2, rfl, _, rfl⟩⟩
    refine ⟨.ref s.heap.objs.size, _, J, rfl, ⟨_, q, kvs[i].1, kvs[i].2, rfl, List.getElem?_eq_getElem lt, hq, I.hok.fresh (Nat.le_refl _), rfl⟩, ⟨_, _, st2⟩, fun b m => ?_⟩
    cases List.mem_singleton.mp m
    rw [upd_ne (Nat.ne_of_lt old)]
    exact (fp it (List.mem_singleton.mpr rfl)).1
  done := by
    rintro X rfl rfl rfl calm i pins s σ H E I fp ⟨lk, lv, st⟩ ⟨le, hd⟩
    obtain ⟨ns, es', ep', dat, raw, sz, zl, ent⟩ := raw_frzT I hd
    obtain ⟨rfl, rfl⟩ := dict_ep hod dat
    obtain ⟨f0, f1, f2, f3, f4, f5⟩ := fp it (List.mem_singleton.mpr rfl)
    exact DT.endI (I.ok.hd calm) st raw (by omega) fun h1 eb => ⟨rfl, I.turned (t' := s.toks) (fun b ob nb e => eb b ob nb e) f0 f1 f3 f4 f5⟩
  self := fun A i s Q E ⟨_, _, st⟩ h => PySem.W.kcp_self st h
/-- the dict is locked -/
def iPr (td : TE) : TI := fun σ H R => td σ H fun x H1 => ∃ d o kvs, x = .ref d ∧ H1 d = some (.frz o (.dT kvs)) ∧ R (ItPr d o kvs) H1
theorem pi_pr {X : Cx} {e : Expr} {td : TE} {apos cpos tpos : Pos} {elts : List Expr} {n : Nat} (he : PE X e td) (hb : attributeBase e "items" X.env (eval e X.env) = eval e X.env := by rfl) (hl : (apos.endLine == cpos.line) = true := by rfl) :
    PI X (.Tuple elts n tpos) (.Call (.Attribute e "items" apos) [] [] cpos) (iPr td) := by
  refine ⟨fun pins s σ H R I h => ?_⟩
  refine wpAny_Call_method (T := "dict") (id := "dict.items") hb rfl hl F.plainAttrs_dict F.slot_dict_items F.type_dict_items (thn (he.run pins s σ H _ I h) ?_)
  rintro u s1 ⟨x, H1, I1, rx, d, o, kvs, rfl, hd, q⟩
  cases rx
  obtain ⟨ns, es, ep, dat, raw, sz, zl, ent⟩ := raw_frzT I1 hd
  refine ⟨raw.typeIs, fun b eb => ?_, ?_⟩
  · cases eb
    obtain ⟨ob, g, ex, _⟩ := raw
    exact ⟨ob, g, ex.2.1⟩
  have I2 : Inv X pins σ H1 { s1 with heap := s1.heap.push { cls := .type "dict_items", data := .fields #[.ref d] } } := I1.kept (t' := s1.toks) fun b ob q => Heap.get?_push_of_some _ q
  show wpAny _ _ (callWith cpos (.builtin "dict.items") [.ref d] [] []) _ X.xe s1
  refine method_meetsIn F.slot_dict_items F.entry_dict_items rfl (PySem.evalArgs_none ⟨rfl, raw.typeIs, F.args_dict_items_1 _, _, DT.meetsItems (es := es) (ep := ep) ns, raw, ?_⟩)
  refine DT.iterI (es := es) (ep := ep) (d := d) ⟨_, Heap.get?_push_size _ rfl, rfl, rfl⟩ (raw.push _) (pi_one (tk := s1.toks) I2 _ (turn_pr _ dat) ⟨.none, .none, ?_⟩ q)
  exact Heap.get?_push_size _ rfl
end Tb
namespace Tb
open PySem PySem.Spec PyProof.Rows L2
abbrev sLBox : Stmt := topS 18
abbrev NLBox : List Str := ["script", "cells", "cell"]
theorem scLBox : FnScope NLBox ["script"] (defScope sLBox) := ⟨rfl, rfl, rfl, by decide +kernel, rfl, by decide +kernel, by decide +kernel⟩
abbrev sDraw : Stmt := topS 19
abbrev NDraw : List Str := ["box", "many", "digit", "cell", "mixed"]
theorem scDraw : FnScope NDraw ["box", "many"] (defScope sDraw) := ⟨rfl, rfl, rfl, by decide +kernel, rfl, by decide +kernel, by decide +kernel⟩
abbrev sIsInt : Stmt := topS 20
abbrev NIsInt : List Str := ["actual"]
theorem scIsInt : FnScope NIsInt ["actual"] (defScope sIsInt) := ⟨rfl, rfl, rfl, by decide +kernel, rfl, by decide +kernel, by decide +kernel⟩
/-- the box of the draws (p; g is its second list): the cells, the big cell under way, the draws so far (n at most), the big cells left -/
def Box (g : Addr) (n : Nat) (H : Hp) (p : Addr) : Prop := ∃ (c : Addr) (cs gs : List Int) (a b : Int), H p = some (.lst [.ref c, .int a, .int b, .ref g]) ∧ H c = some (.lst (cs.map V.int)) ∧ H g = some (.lst (gs.map V.int)) ∧ p ≠ c ∧ p ≠ g ∧ c ≠ g ∧ cs ≠ [] ∧ (∀ x ∈ cs, 0 ≤ x) ∧ (∀ x ∈ gs, 0 ≤ x) ∧ 0 ≤ a ∧ 0 ≤ b ∧ b ≤ (n : Int) ∧ cs.length ≤ 63 ∧ gs.length ≤ 63
theorem Box.same {g : Addr} {n : Nat} {H H' : Hp} {p : Addr} (B : Box g n H p) (h : Same H H') : Box g n H' p := by
  obtain ⟨c, cs, gs, a, b, h1, h2, h3, rest⟩ := B
  exact ⟨c, cs, gs, a, b, h _ _ h1, h _ _ h2, h _ _ h3, rest⟩
theorem Box.mono {g : Addr} {n m : Nat} {H : Hp} {p : Addr} (B : Box g n H p) (h : n ≤ m) : Box g m H p := by
  obtain ⟨c, cs, gs, a, b, h1, h2, h3, d1, d2, d3, ne, c0, g0, a0, b0, bn, l⟩ := B
  exact ⟨c, cs, gs, a, b, h1, h2, h3, d1, d2, d3, ne, c0, g0, a0, b0, by omega, l⟩
/-- all but the two stays -/
def But2 (p g : Addr) (H H' : Hp) : Prop := ∀ b o, H b = some o → b ≠ p → b ≠ g → H' b = some o
theorem But2.refl (p g : Addr) (H : Hp) : But2 p g H H := fun _ _ h _ _ => h
theorem But2.trans {p g : Addr} {H H1 H2 : Hp} (a : But2 p g H H1) (b : But2 p g H1 H2) : But2 p g H H2 := fun c o h n m => b c o (a c o h n m) n m
theorem But2.upd1 {p g : Addr} {H : Hp} {o : HO} : But2 p g H (upd H p o) := fun b x e n _ => by rw [upd_ne n]; exact e
theorem But2.upd2 {p g : Addr} {H : Hp} {o : HO} : But2 p g H (upd H g o) := fun b x e _ n => by rw [upd_ne n]; exact e
theorem But2.same {p g : Addr} {H H' : Hp} (h : Same H H') : But2 p g H H' := fun b o e _ _ => h b o e
theorem cut_hi (xs : List V) (k : Nat) : cutV xs none (some (k : Int)) = xs.take k := by
  unfold cutV
  rw [HT.sIx_nat, HT.sIx_none, List.drop_zero, Nat.sub_zero]
  by_cases h : k ≤ xs.length
  · rw [Nat.min_eq_left h]
  · rw [Nat.min_eq_right (by omega), List.take_length, List.take_of_length_le (by omega)]
theorem take_at {α : Type _} {xs : List α} {i : Nat} {x : α} (h : xs[i]? = some x) : xs.take (i + 1) = xs.take i ++ [x] := by
  rw [List.take_add_one, h]; rfl
theorem seqIx0 {n : Nat} : seqIndex? 0 (n + 1) = some 0 := by
  unfold seqIndex?
  simp
def bigI (c : Int) : Bool := decide ((10 : Int) ^ (18 : Int).toNat ≤ c)
def absI (i : Int) : Int := if i < 0 then -i else i
theorem absI_nn (i : Int) : 0 ≤ absI i := by
  unfold absI
  split <;> omega
section
variable {P : Program} {w : World} {K : PySem.W.Frag} {mg : Str → Option Value} {base : Heap}
def spIsInt : Sp := fun vs H Q _ => ∃ i : Int, vs = [.int i] ∧ Q (.bl true) H
theorem ok_isint {f : Addr} {fd : FuncData} {k : Nat} (F : Fun K "_law_is_integer" "_law_is_integer" sIsInt f fd) (B : Blt mg) : FnOk P w K mg base CX0 (k + 1) f fd ["actual"] spIsInt := by
  refine F.ok scIsInt (fun vs H Q E h => ?_) (fun cdv A outer s H vs Q E hr h => ?_)
  · obtain ⟨i, rfl, _⟩ := h
    rfl
  · obtain ⟨i, rfl, q⟩ := h
    refine ⟨_, (pss_one (ps_ret (pe_and (pe_callB call_isi (by rfl) B.isi (by decide +kernel) (pa_cons (pv 0) (pa_cons (pe_bltn (by rfl) B.int PyProof.Rows.boot_int (v := .ty "int") (u := .type "int") rfl) pa_nil))) (pe_one (pe_not (pe_callB call_isi (by rfl) B.isi (by decide +kernel) (pa_cons (pv 0) (pa_cons (pe_bltn (by rfl) B.bool (by decide +kernel) (v := .ty "bool") (u := .type "bool") rfl) pa_nil)))))))), ?_⟩
    refine ⟨.int i, rfl, .int i, .ty "int", .type "int", .type "int", true, rfl, .ty _, .base (.int _), kit_ty (by decide +kernel), true, rfl, ?_⟩
    exact ⟨.int i, rfl, .int i, .ty "bool", .type "int", .type "bool", false, rfl, .ty _, .base (.int _), kit_ty (by decide +kernel), false, rfl, q⟩
def spLBox (K : PySem.W.Frag) : Sp := fun vs H Q _ => ∃ (a : Addr) (ns : List Int), vs = [.ref a] ∧ SqL K H a (ns.map V.int) ∧ ∀ (p g : Addr) (H' : Hp), H p = none → H g = none → Box g 0 H' p → Same H H' → Q (.ref p) H'
theorem ok_lbox {f : Addr} {fd : FuncData} {k : Nat} (F : Fun K "_law_box" "_law_box" sLBox f fd) (B : Blt mg) : FnOk P w K mg base CX0 (k + 1) f fd ["script"] (spLBox K) := by
  refine F.ok scLBox (fun vs H Q E h => ?_) (fun cdv A outer s H vs Q E hr h => ?_)
  · obtain ⟨a, ns, rfl, _⟩ := h
    rfl
  · obtain ⟨a, ns, rfl, hS, q⟩ := h
    refine ⟨_, (pss_cons (ps_setLc (i := 1) (own := [("cell", 2)]) (g := gName 2) (by rfl) scLBox.nd rfl rfl (sw_true rfl rfl rfl (by decide +kernel)) (pi_list (pe_slice sl_list (pv 0) po_none (po_some pe_int))) (blkOk_by (N := NLBox) (sc := defScope sLBox) (by decide +kernel)) (fun _ _ _ _ _ => pg_name (i := 2) scLBox.nd rfl (Or.inl rfl)) (fun _ _ _ _ _ => pts_nil) (fun _ _ _ _ _ => pe_callB call_abs (by rfl) B.abs (by decide +kernel) (pa_cons (pe_callTy call_int1 (by rfl) B.int PyProof.Rows.boot_int (pa_cons (pv 2) pa_nil)) pa_nil)))
      (C8.pss_cut (ps_if (pt_cmpR op_eq (pe_callB call_len_seq (by rfl) B.len PySem.boot_len (pa_cons (pv 1) pa_nil)) pe_int (nomark _))
        (pss_one (ps_set (i := 1) scLBox.nd rfl (.inl rfl) (pe_lst (pa_cons pe_int pa_nil))))
        pss_nil)
      (pss_one (ps_ret (pe_lst (pa_cons (pv 1) (pa_cons pe_int (pa_cons pe_int (pa_cons (pe_lc (own := [("cell", 2)]) (g := gName 2) (by rfl) scLBox.nd (pi_list (pv 1)) (blkOk_by (N := NLBox) (sc := defScope sLBox) (by decide +kernel)) (fun _ _ _ _ _ => pg_name (i := 2) scLBox.nd rfl (Or.inl rfl)) (fun _ _ _ _ _ => pts_one (pt_cmpR op_ge (pv 2) (pe_op op_pow pe_int pe_int) (nomark _))) (fun _ _ _ _ _ => pv 2)) pa_nil))))))))), ?_⟩
    have hz : sizeLine = 16777216 := rfl
    refine ⟨.ref a, rfl, 63, rfl, a, _, rfl, hS, fun m nm => ?_⟩
    rw [show cutV (ns.map V.int) none (some (63 : Int)) = (ns.take 63).map V.int by rw [List.map_take]; exact cut_hi _ 63]
    refine ⟨m, rfl, ⟨_, sqOf upd_same⟩, fun D nD => ?_⟩
    have nD0 : H D = none := (same_upd nm).free nD
    refine lc_it (walk_list (a := m) (xs := (ns.take 63).map V.int)) (fun i H1 => Same H H1 ∧ H1 m = some (.lst ((ns.take 63).map V.int)) ∧ H1 D = some (.lst ((((ns.take 63).take i).map absI).map V.int))) ⟨(same_upd nm).trans (same_upd nD), same_upd nD _ _ upd_same, upd_same⟩ (fun i H1 _ hP => sqOf hP.2.1) (fun i v H1 H2 hi hP hy => ?_) (fun H1 hP => ?_)
    · obtain ⟨S1, hm, hD⟩ := hP
      obtain ⟨rfl, ev⟩ := hy
      rw [List.getElem?_map] at ev
      obtain ⟨x, ex, rfl⟩ := Option.map_eq_some_iff.mp ev
      refine ⟨rfl, .int x, rfl, .inl ⟨x, rfl, x, rfl, _, hD, ?_, fun c o hc => ?_, ?_, ?_⟩⟩
      · rw [List.length_map, List.length_map, List.length_take, List.length_take]; omega
      · rw [upd_ne (ne_of_none hc nD0)]; exact S1 _ _ hc
      · rw [upd_ne (fun e => by rw [e, upd_same] at nD; cases nD)]; exact hm
      · rw [upd_same, take_at ex, List.map_append, List.map_append]; rfl
    · obtain ⟨S1, hm, hD⟩ := hP
      rw [List.length_map, List.take_length] at hD
      obtain ⟨cs, hcs⟩ : ∃ cs, cs = (ns.take 63).map absI := ⟨_, rfl⟩
      rw [← hcs] at hD
      have c0 : ∀ x ∈ cs, 0 ≤ x := fun x hx => by
        rw [hcs] at hx
        obtain ⟨y, _, rfl⟩ := List.mem_map.mp hx
        exact absI_nn y
      have cl : cs.length ≤ 63 := by
        rw [hcs, List.length_map, List.length_take]; omega
      refine ⟨fun σ' H' => ∃ (C : Addr) (cs : List Int), σ' = [some (.ref a), some (.ref C), none] ∧ Same H H' ∧ H C = none ∧ H' C = some (.lst (cs.map V.int)) ∧ cs ≠ [] ∧ (∀ x ∈ cs, 0 ≤ x) ∧ cs.length ≤ 63, ?_, ?_⟩
      · refine ⟨.ref D, rfl, D, _, rfl, .inl (sqOf hD), rfl, _, rfl, ite2 (fun e => ?_) (fun e => ?_)⟩
        · refine ⟨by show 1 ≤ sizeLine; omega, fun L nL => ?_⟩
          refine ⟨L, [0], rfl, S1.trans (same_upd nL), S1.free nL, upd_same, by decide, fun x hx => ?_, by decide⟩
          rw [List.mem_singleton.mp hx]; decide
        · refine ⟨D, cs, rfl, S1, nD0, hD, fun z => e ?_, c0, cl⟩
          rw [z]; rfl
      · rintro σ' H' ⟨C, cs, rfl, S2, nC, hC, ne, c0, cl⟩
        refine ⟨.ref C, rfl, .ref C, rfl, C, rfl, ⟨_, sqOf hC⟩, fun D2 nD2 => ?_⟩
        refine lc_it (walk_list (a := C) (xs := cs.map V.int)) (fun i H3 => Same H H3 ∧ H3 C = some (.lst (cs.map V.int)) ∧ H3 D2 = some (.lst (((cs.take i).filter bigI).map V.int))) ⟨S2.trans (same_upd nD2), same_upd nD2 _ _ hC, upd_same⟩ (fun i H3 _ hP => sqOf hP.2.1) (fun i v H3 H4 hi hP hy => ?_) (fun H3 hP => ?_)
        · obtain ⟨S3, hC3, hD3⟩ := hP
          obtain ⟨rfl, ev⟩ := hy
          rw [List.getElem?_map] at ev
          obtain ⟨x, ex, rfl⟩ := Option.map_eq_some_iff.mp ev
          refine ⟨rfl, .int x, rfl, 10, 18, rfl, rfl, ⟨by decide, by decide, by decide⟩, x, _, rfl, rfl, _, rfl, ite2 (fun e => ?_) (fun e => ?_)⟩
          · refine ⟨_, rfl, _, hD3, ?_, fun c o hc => ?_, ?_, ?_⟩
            · rw [List.length_map]
              have := List.length_filter_le bigI (cs.take i)
              rw [List.length_take] at this
              omega
            · rw [upd_ne (ne_of_none hc (S2.free nD2))]; exact S3 _ _ hc
            · rw [upd_ne (fun z => by rw [← z, hC] at nD2; cases nD2)]; exact hC3
            · rw [upd_same, take_at ex, List.filter_append, List.filter_cons_of_pos (show bigI x = true from e), List.filter_nil, List.map_append]; rfl
          · refine ⟨S3, hC3, ?_⟩
            rw [take_at ex, List.filter_append, List.filter_cons_of_neg (show ¬ bigI x = true from e), List.filter_nil, List.append_nil]
            exact hD3
        · obtain ⟨S3, hC3, hD3⟩ := hP
          rw [List.length_map, List.take_length] at hD3
          refine ⟨by show 4 ≤ sizeLine; omega, fun p np => ?_⟩
          refine q p D2 _ (S3.free np) (S2.free nD2) ⟨C, cs, cs.filter bigI, 0, 0, upd_same, ?_, ?_, ?_, ?_, ?_, ne, c0, fun x hx => c0 x (List.mem_filter.mp hx).1, by decide, by decide, by decide, cl, Nat.le_trans (List.length_filter_le _ _) cl⟩ (S3.trans (same_upd np))
          · exact same_upd np _ _ hC3
          · exact same_upd np _ _ hD3
          · exact fun z => by rw [z, hC3] at np; cases np
          · exact fun z => by rw [z, hD3] at np; cases np
          · exact fun z => by rw [← z, hC] at nD2; cases nD2
def spDraw : Sp := fun vs H Q _ => ∃ (p g : Addr) (m : Int) (n : Nat), vs = [.ref p, .int m] ∧ Box g n H p ∧ n < 2 ^ 60 ∧ 0 < m ∧ m < 2 ^ 60 ∧ ∀ (z : Int) (H' : Hp), 0 ≤ z → z < m → Box g (n + 1) H' p → But2 p g H H' → Q (.int z) H'
theorem ok_draw {f : Addr} {fd : FuncData} {k : Nat} (F : Fun K "_law_draw" "_law_draw" sDraw f fd) (B : Blt mg) : FnOk P w K mg base CX0 (k + 1) f fd ["box", "many"] spDraw := by
  refine F.ok scDraw (fun vs H Q E h => ?_) (fun cdv A outer s H vs Q E hr h => ?_)
  · obtain ⟨p, g, m, n, rfl, _⟩ := h
    rfl
  · obtain ⟨p, G, m, n, rfl, hB, hn, m0, hm, q⟩ := h
    obtain ⟨C, cs, gs, a, b, hp, hC, hG, d1, d2, d3, ne, c0, g0, a0, b0, bn, cl, gl⟩ := id hB
    refine ⟨_, (pss_cons (ps_asg (pe_op op_add (pe_ix ix_list (pv 0) pe_int (fun _ _ => rfl)) pe_int) (pg_sub (pv 0) pe_int set_list))
      (C8.pss_cut (ps_if (PW.pt (pw_and (pt_cmpR op_eq (pe_ix ix_list (pv 0) pe_int (fun _ _ => rfl)) pe_int (nomark _)) (pw_and1 (pt_cmpR op_gt (pe_callB call_len_seq (by rfl) B.len PySem.boot_len (pa_cons (pe_ix ix_list (pv 0) pe_int (fun _ _ => rfl)) pa_nil)) pe_int (nomark _)))))
        (pss_one (ps_asg (pe_bm PySem.F.plainAttrs_list PySem.F.slot_list_pop PySem.F.type_list_pop mt_popAt (pe_ix ix_list (pv 0) pe_int (fun _ _ => rfl)) (pa_cons pe_int pa_nil)) (pg_sub (pv 0) pe_int set_list)))
        pss_nil)
      (pss_cons (ps_if (pt_cmpR op_gt (pe_ix ix_list (pv 0) pe_int (fun _ _ => rfl)) pe_int (nomark _))
        (pss_cons (ps_set (i := 2) scDraw.nd rfl (.inl rfl) (pe_op op_mod (pe_callTy call_int1 (by rfl) B.int PyProof.Rows.boot_int (pa_cons (pe_ix ix_list (pv 0) pe_int (fun _ _ => rfl)) pa_nil)) (pv 1)))
        (pss_cons (ps_asg (pe_op op_fdivW (pe_ix ix_list (pv 0) pe_int (fun _ _ => rfl)) (pv 1)) (pg_sub (pv 0) pe_int set_list))
        (pss_one (ps_ret (pv 2)))))
        pss_nil)
      (pss_cons (ps_set (i := 3) scDraw.nd rfl (.inl rfl) (pe_ix ix_list (pe_ix ix_list (pv 0) pe_int (fun _ _ => rfl)) (pe_op op_mod (pe_callTy call_int1 (by rfl) B.int PyProof.Rows.boot_int (pa_cons (pe_ix ix_list (pv 0) pe_int (fun _ _ => rfl)) pa_nil)) (pe_callB call_len_seq (by rfl) B.len PySem.boot_len (pa_cons (pe_ix ix_list (pv 0) pe_int (fun _ _ => rfl)) pa_nil))) (fun _ _ => rfl)))
      (pss_cons (ps_set (i := 4) scDraw.nd rfl (.inl rfl) (pe_op op_mod (pe_callTy call_int1 (by rfl) B.int PyProof.Rows.boot_int (pa_cons (pe_op op_add (pe_op op_add (pe_op op_mul (pv 3) pe_int) (pe_op op_mul (pe_ix ix_list (pv 0) pe_int (fun _ _ => rfl)) pe_int)) pe_int) pa_nil)) pe_int))
      (pss_cons (ps_set (i := 4) scDraw.nd rfl (.inl rfl) (pe_op op_mod (pe_callTy call_int1 (by rfl) B.int PyProof.Rows.boot_int (pa_cons (pe_op op_add (pe_op op_add (pe_op op_mul (pv 4) pe_int) (pv 3)) (pe_op op_mulW (pe_ix ix_list (pv 0) pe_int (fun _ _ => rfl)) (pe_ix ix_list (pv 0) pe_int (fun _ _ => rfl)))) pa_nil)) pe_int))
      (pss_one (ps_ret (pe_op op_mod (pe_op op_fdiv (pv 4) pe_int) (pv 1)))))))))), ?_⟩
    have hm9 : m.natAbs < 2 ^ 61 := by omega
    refine ⟨.ref p, rfl, p, _, 2, .int b, rfl, rfl, sqOf hp, atI_nat (j := 2) rfl, b, 1, rfl, rfl, .ref p, rfl, p, _, 2, 2, rfl, rfl, hp, rfl, ?_⟩
    have B1 : But2 p G H (upd H p (.lst [.ref C, .int a, .int (b + 1), .ref G])) := .upd1
    have hC1 := B1 _ _ hC (Ne.symm d1) d3
    have hp1 : (upd H p (.lst [.ref C, .int a, .int (b + 1), .ref G])) p = some (.lst [.ref C, .int a, .int (b + 1), .ref G]) := upd_same
    have hG1 : (upd H p (.lst [.ref C, .int a, .int (b + 1), .ref G])) G = some (.lst (gs.map V.int)) := by rw [upd_ne (Ne.symm d2)]; exact hG
    refine ⟨fun σ' H' => ∃ (a : Int) (gs : List Int), σ' = [some (.ref p), some (.int m), none, none, none] ∧ H' p = some (.lst [.ref C, .int a, .int (b + 1), .ref G]) ∧ H' G = some (.lst (gs.map V.int)) ∧ (∀ x ∈ gs, 0 ≤ x) ∧ 0 ≤ a ∧ gs.length ≤ 63 ∧ But2 p G H H', ?_, ?_⟩
    · refine ⟨.ref p, rfl, p, _, 1, .int a, rfl, rfl, sqOf hp1, atI_nat (j := 1) rfl, rfl, _, rfl, ite2 (fun e => ?_) (fun e => ?_)⟩
      · refine ⟨.ref p, rfl, p, _, 3, .ref G, rfl, rfl, sqOf hp1, atI_nat (j := 3) rfl, G, _, rfl, .inl (sqOf hG1), _, 0, rfl, rfl, _, rfl, ite2 (fun e => ?_) (fun e => ?_)⟩
        · cases gs with
          | nil => exact absurd (of_decide_eq_true e) (by decide)
          | cons x gs =>
            refine ⟨.ref p, rfl, p, _, 3, .ref G, rfl, rfl, sqOf hp1, atI_nat (j := 3) rfl, .inl ⟨rfl, _, sqOf hG1⟩, G, _, 0, 0, .int x, rfl, rfl, hG1, by decide, by decide, seqIx0, rfl, .ref p, rfl, p, [.ref C, .int a, .int (b + 1), .ref G], 1, 1, rfl, rfl, ?_, rfl, ?_⟩
            · rw [upd_ne d2]; exact hp1
            · refine ⟨x, gs, rfl, upd_same, ?_, fun y hy => g0 y (List.mem_cons_of_mem _ hy), g0 x List.mem_cons_self, by rw [List.length_cons] at gl; omega, (B1.trans .upd2).trans .upd1⟩
              rw [upd_ne (Ne.symm d2), upd_same]; rfl
        · exact ⟨a, gs, rfl, hp1, hG1, g0, a0, gl, B1⟩
      · exact ⟨a, gs, rfl, hp1, hG1, g0, a0, gl, B1⟩
    · rintro σ' H' ⟨a, gs, rfl, hp', hG', g0, a0, gl, B2⟩
      have hC' := B2 _ _ hC (Ne.symm d1) d3
      refine ⟨.ref p, rfl, p, _, 1, .int a, rfl, rfl, sqOf hp', atI_nat (j := 1) rfl, a, 0, rfl, rfl, _, rfl, ite2 (fun e => ?_) (fun e => ?_)⟩
      · refine ⟨.ref p, rfl, p, _, 1, .int a, rfl, rfl, sqOf hp', atI_nat (j := 1) rfl, .inl ⟨_, rfl, .int m, rfl, _, _, rfl, rfl, (by show (0 : Int) < m; omega), ?_⟩⟩
        refine ⟨.ref p, rfl, p, _, 1, .int a, rfl, rfl, sqOf hp', atI_nat (j := 1) rfl, .int m, rfl, a, m, rfl, rfl, wide_div m0 hm9 (by decide) (by decide), .ref p, rfl, p, _, 1, 1, rfl, rfl, hp', rfl, ?_⟩
        refine ⟨_, rfl, q _ _ (Int.emod_nonneg _ (by omega)) (Int.emod_lt_of_pos _ m0) ⟨C, cs, gs, a / m, b + 1, upd_same, ?_, ?_, d1, d2, d3, ne, c0, g0, Int.ediv_nonneg a0 (by omega), by omega, by omega, cl, gl⟩ (B2.trans .upd1)⟩
        · rw [upd_ne (Ne.symm d1)]; exact hC'
        · rw [upd_ne (Ne.symm d2)]; exact hG'
      · have cl0 : 0 < cs.length := List.length_pos_iff.mpr ne
        refine ⟨.ref p, rfl, p, _, 0, .ref C, rfl, rfl, sqOf hp', atI_nat (j := 0) rfl, .ref p, rfl, p, _, 2, .int (b + 1), rfl, rfl, sqOf hp', atI_nat (j := 2) rfl, .inl ⟨_, rfl, .ref p, rfl, p, _, 0, .ref C, rfl, rfl, sqOf hp', atI_nat (j := 0) rfl, C, _, rfl, .inl (sqOf hC'), _, _, rfl, rfl, ?_, ?_⟩⟩
        · rw [List.length_map]; show (0 : Int) < _; omega
        obtain ⟨j, hj, lj⟩ : ∃ j : Nat, (b + 1) % ((cs.map V.int).length : Int) = (j : Int) ∧ j < cs.length := ⟨((b + 1) % (cs.length : Int)).toNat, by rw [List.length_map]; have := Int.emod_nonneg (b + 1) (show (cs.length : Int) ≠ 0 by omega); omega, by have := Int.emod_lt_of_pos (b + 1) (show (0 : Int) < (cs.length : Int) by omega); omega⟩
        have ej : cs[j]? = some cs[j] := List.getElem?_eq_getElem lj
        have j0 : 0 ≤ cs[j] := c0 _ (List.getElem_mem lj)
        refine ⟨C, _, j, .int cs[j], rfl, congrArg V.int hj, sqOf hC', atI_nat (by rw [List.getElem?_map, ej]; rfl), ?_⟩
        have mulc : ∀ i j : Int, 0 < j → j < 2 ^ 64 → CMul i j := fun i j h1 h2 => .inr ⟨by omega, h2⟩
        refine ⟨.int cs[j], rfl, _, 48271, rfl, rfl, mulc _ _ (by decide) (by decide), .ref p, rfl, p, _, 2, .int (b + 1), rfl, rfl, sqOf hp', atI_nat (j := 2) rfl, _, 40692, rfl, rfl, mulc _ _ (by decide) (by decide), _, _, rfl, rfl, _, 11, rfl, rfl, .inl ⟨_, rfl, _, 2147483399, rfl, rfl, (by show (0 : Int) < 2147483399; decide), ?_⟩⟩
        obtain ⟨x, hx⟩ : ∃ x, x = (cs[j] * 48271 + (b + 1) * 40692 + 11) % 2147483399 := ⟨_, rfl⟩
        refine ⟨.int x, by rw [hx]; rfl, x, 69621, rfl, rfl, mulc _ _ (by decide) (by decide), .int cs[j], rfl, _, _, rfl, rfl, .ref p, rfl, p, _, 2, .int (b + 1), rfl, rfl, sqOf hp', atI_nat (j := 2) rfl, .ref p, rfl, p, _, 2, .int (b + 1), rfl, rfl, sqOf hp', atI_nat (j := 2) rfl, _, _, rfl, rfl, wide_mul (a := 61) (b := 61) (by omega) (by omega) (by decide) (by decide) (by decide), _, _, rfl, rfl, .inl ⟨_, rfl, _, 2147483647, rfl, rfl, (by show (0 : Int) < 2147483647; decide), ?_⟩⟩
        refine ⟨_, rfl, _, 7, rfl, rfl, ⟨by decide, by decide⟩, .int m, rfl, _, _, rfl, rfl, (by show (0 : Int) < m; omega), ?_⟩
        exact q _ _ (Int.emod_nonneg _ (by omega)) (Int.emod_lt_of_pos _ m0) ⟨C, cs, gs, a, b + 1, hp', hC', hG', d1, d2, d3, ne, c0, g0, a0, by omega, by omega, cl, gl⟩ B2
end
end Tb
namespace Tb
open PySem PySem.Spec PyProof.Rows L2
abbrev sAcc : Stmt := topS 22
abbrev NAcc : List Str := ["box", "names", "kind"]
theorem scAcc : FnScope NAcc ["box", "names"] (defScope sAcc) := ⟨rfl, rfl, rfl, by decide +kernel, rfl, by decide +kernel, by decide +kernel⟩
abbrev sCents : Stmt := topS 23
abbrev NCents : List Str := ["box"]
theorem scCents : FnScope NCents ["box"] (defScope sCents) := ⟨rfl, rfl, rfl, by decide +kernel, rfl, by decide +kernel, by decide +kernel⟩
/-- a def of the text and what it promises -/
structure C1 (P : Program) (w : World) (K : PySem.W.Frag) (mg : Str → Option Value) (base : Heap) (x : Str) (st : Stmt) (ps : List Str) (l : Nat) (sp : Sp) (g : Addr) (gd : FuncData) : Prop where
  D : Dd K mg x st ps g gd
  G : FnOk P w K mg base CX0 l g gd ps sp
theorem strs_at {ks : List Str} {i : Nat} (h : i < ks.length) : (ks.map V.str)[i]? = some (.str ks[i]) := by
  rw [List.getElem?_map, List.getElem?_eq_getElem h]
  rfl
theorem Box.off {g : Addr} {n : Nat} {H : Hp} {p D : Addr} (B : Box g n H p) (h : H D = none) : D ≠ p ∧ D ≠ g := by
  obtain ⟨c, cs, gs, a, b, h1, h2, h3, rest⟩ := B
  exact ⟨fun e => by (rw [e, h1] at h; cases h), fun e => by (rw [e, h3] at h; cases h)⟩
theorem But2.free {p g D : Addr} {H H' : Hp} (b : But2 p g H H') (n1 : D ≠ p) (n2 : D ≠ g) : H' D = none → H D = none := fun h => by
  cases e : H D with
  | none => rfl
  | some o => rw [b D o e n1 n2] at h; cases h
abbrev kinds : List Str := ["house", "sender", "house", "land"]
section
variable {P : Program} {w : World} {K : PySem.W.Frag} {mg : Str → Option Value} {base : Heap}
abbrev CDraw (P : Program) (w : World) (K : PySem.W.Frag) (mg : Str → Option Value) (base : Heap) (g : Addr) (gd : FuncData) := C1 P w K mg base "_law_draw" sDraw ["box", "many"] 1 spDraw g gd
def spCents : Sp := fun vs H Q _ => ∃ (p g : Addr) (n : Nat), vs = [.ref p] ∧ Box g n H p ∧ n < 2 ^ 59 ∧ ∀ (z : Int) (H' : Hp), 1 ≤ z → z ≤ 10 ^ 13 → Box g (n + 3) H' p → But2 p g H H' → Q (.int z) H'
theorem ok_cents {f g : Addr} {fd gd : FuncData} (F : Fun K "_law_cents" "_law_cents" sCents f fd) (cDraw : CDraw P w K mg base g gd) : FnOk P w K mg base CX0 2 f fd ["box"] spCents := by
  refine F.ok scCents (fun vs H Q E h => ?_) (fun cdv A outer s H vs Q E hr h => ?_)
  · obtain ⟨p, G, n, rfl, _⟩ := h
    rfl
  · obtain ⟨p, G, n, rfl, hB, hn, q⟩ := h
    refine ⟨_, (pss_cons (ps_if (pt_cmpR op_eq (pe_call cDraw.G (hr.mono (by first | decide | omega)) (by rfl) cDraw.D.g cDraw.D.F.kp cDraw.D.b .nil pass0 (pa_cons (pv 0) (pa_cons pe_int pa_nil))) pe_int (nomark _))
        (pss_one (ps_ret (pe_op op_add (pe_op op_add pe_int (pe_op op_mul (pe_call cDraw.G (hr.mono (by first | decide | omega)) (by rfl) cDraw.D.g cDraw.D.F.kp cDraw.D.b .nil pass0 (pa_cons (pv 0) (pa_cons (pe_op op_pow pe_int pe_int) pa_nil))) (pe_op op_pow pe_int pe_int))) (pe_call cDraw.G (hr.mono (by first | decide | omega)) (by rfl) cDraw.D.g cDraw.D.F.kp cDraw.D.b .nil pass0 (pa_cons (pv 0) (pa_cons (pe_op op_pow pe_int pe_int) pa_nil))))))
        pss_nil)
      (pss_one (ps_ret (pe_op op_add pe_int (pe_call cDraw.G (hr.mono (by first | decide | omega)) (by rfl) cDraw.D.g cDraw.D.F.kp cDraw.D.b .nil pass0 (pa_cons (pv 0) (pa_cons pe_int pa_nil))))))), ?_⟩
    have mulc : ∀ i j : Int, 0 < j → j < 2 ^ 64 → CMul i j := fun i j h1 h2 => .inr ⟨by omega, h2⟩
    refine ⟨.ref p, rfl, p, G, 4, n, rfl, hB, by omega, by decide, by decide, fun v H1 v0 v1 B1 b1 => ?_⟩
    refine ⟨rfl, _, rfl, ite2 (fun e => ?_) (fun e => ?_)⟩
    · refine ⟨.ref p, rfl, 10, 6, rfl, rfl, ⟨by decide, by decide, by decide⟩, p, G, 10 ^ 6, n + 1, rfl, B1, by omega, by decide, by decide, fun x H2 x0 x1 B2 b2 => ?_⟩
      refine ⟨10, 7, rfl, rfl, ⟨by decide, by decide, by decide⟩, x, 10 ^ 7, rfl, rfl, mulc _ _ (by decide) (by decide), 1, _, rfl, rfl, ?_⟩
      refine ⟨.ref p, rfl, 10, 7, rfl, rfl, ⟨by decide, by decide, by decide⟩, p, G, 10 ^ 7, n + 2, rfl, B2, by omega, by decide, by decide, fun y H3 y0 y1 B3 b3 => ?_⟩
      refine ⟨_, y, rfl, rfl, q _ _ (by omega) (by omega) B3 ((b1.trans b2).trans b3)⟩
    · refine ⟨.ref p, rfl, p, G, 9, n + 1, rfl, B1, by omega, by decide, by decide, fun x H2 x0 x1 B2 b2 => ?_⟩
      exact ⟨1, x, rfl, rfl, q _ _ (by omega) (by omega) (B2.mono (by omega)) (b1.trans b2)⟩
/-- the names: a stem and the others -/
def spAcc (K : PySem.W.Frag) : Sp := fun vs H Q _ => ∃ (p g l : Addr) (n : Nat) (ks : List Str), vs = [.ref p, .ref l] ∧ Box g n H p ∧ n < 2 ^ 59 ∧ H l = some (.lst (ks.map V.str)) ∧ 2 ≤ ks.length ∧ ks.length ≤ 41 ∧ l ≠ p ∧ l ≠ g ∧ ∀ (T : Addr) (x y : Str) (H' : Hp), (x = "house" ∨ x = "sender" ∨ x = "land") → y ∈ ks.tail → H' T = some (.tup [.str x, .str y]) → H T = none → Box g (n + 2) H' p → But2 p g H H' → Q (.ref T) H'
theorem ok_acc {f g : Addr} {fd gd : FuncData} (F : Fun K "_law_account" "_law_account" sAcc f fd) (cDraw : CDraw P w K mg base g gd) (B : Blt mg) : FnOk P w K mg base CX0 2 f fd ["box", "names"] (spAcc K) := by
  refine F.ok scAcc (fun vs H Q E h => ?_) (fun cdv A outer s H vs Q E hr h => ?_)
  · obtain ⟨p, G, l, n, ks, rfl, _⟩ := h
    rfl
  · obtain ⟨p, G, l, n, ks, rfl, hB, hn, hL, k2, k41, lp, lg, q⟩ := h
    refine ⟨_, (pss_cons (ps_set (i := 2) scAcc.nd rfl (.inl rfl) (pe_ix ix_list (pe_lst (pa_cons pe_str (pa_cons pe_str (pa_cons pe_str (pa_cons pe_str pa_nil))))) (pe_call cDraw.G (hr.mono (by first | decide | omega)) (by rfl) cDraw.D.g cDraw.D.F.kp cDraw.D.b .nil pass0 (pa_cons (pv 0) (pa_cons pe_int pa_nil))) (fun _ _ => rfl)))
      (pss_one (ps_ret (pe_tup (pa_cons (pv 2) (pa_cons (pe_ix ix_list (pv 1) (pe_op op_add pe_int (pe_call cDraw.G (hr.mono (by first | decide | omega)) (by rfl) cDraw.D.g cDraw.D.F.kp cDraw.D.b .nil pass0 (pa_cons (pv 0) (pa_cons (pe_op op_sub (pe_callB call_len_seq (by rfl) B.len PySem.boot_len (pa_cons (pv 1) pa_nil)) pe_int) pa_nil)))) (fun _ _ => rfl)) pa_nil)))))), ?_⟩
    have hz : sizeLine = 16777216 := rfl
    refine ⟨by show 4 ≤ sizeLine; omega, fun D nD => ?_⟩
    have S0 := same_upd (o := .lst (kinds.map V.str)) nD
    have B0 := hB.same S0
    refine ⟨.ref p, rfl, p, G, 4, n, rfl, B0, by omega, by decide, by decide, fun v H1 v0 v1 B1 b1 => ?_⟩
    obtain ⟨dp, dg⟩ := hB.off nD
    have hD1 := b1 D _ upd_same dp dg
    have lv : v.toNat < kinds.length := by show v.toNat < 4; omega
    refine ⟨D, _, v.toNat, .str kinds[v.toNat], rfl, congrArg V.int (show v = (v.toNat : Int) by omega), sqOf hD1, atI_nat (strs_at lv), ?_⟩
    have hL1 := b1 l _ (S0 _ _ hL) lp lg
    refine ⟨.str kinds[v.toNat], rfl, .ref l, rfl, .ref p, rfl, .ref l, rfl, l, _, rfl, .inl (sqOf hL1), _, 1, rfl, rfl, p, G, (ks.length : Int) - 1, n + 1, by rw [List.length_map]; rfl, B1, by omega, by omega, by omega, fun u H2 u0 u1 B2 b2 => ?_⟩
    have lu : (1 + u).toNat < ks.length := by omega
    refine ⟨1, u, rfl, rfl, l, _, (1 + u).toNat, .str ks[(1 + u).toNat], rfl, congrArg V.int (show 1 + u = ((1 + u).toNat : Int) by omega), sqOf (b2 l _ hL1 lp lg), atI_nat (strs_at lu), by show 2 ≤ sizeLine; omega, fun T nT => ?_⟩
    have b02 := ((But2.same S0 : But2 p G _ _).trans b1).trans b2
    obtain ⟨tp, tg⟩ := B2.off nT
    refine q T _ _ _ ?_ ?_ upd_same (b02.free tp tg nT) (B2.same (same_upd nT)) (b02.trans (.same (same_upd nT)))
    · have : kinds[v.toNat] ∈ kinds := List.getElem_mem lv
      simp only [kinds, List.mem_cons, List.not_mem_nil, or_false] at this
      rcases this with h | h | h | h
      · exact .inl h
      · exact .inr (.inl h)
      · exact .inl h
      · exact .inr (.inr h)
    · have e : ks[(1 + u).toNat] = ks.tail[u.toNat]'(by rw [List.length_tail]; omega) := by
        rw [List.getElem_tail]
        congr 1
        omega
      rw [e]
      exact List.getElem_mem _
end
end Tb
namespace Tb
open PySem PySem.Spec PyProof.Rows L2
abbrev sNames : Stmt := topS 21
abbrev NNames : List Str := ["box", "count", "stem", "k", "place", "names", "number"]
theorem scNames : FnScope NNames ["box"] (defScope sNames) := ⟨rfl, rfl, rfl, by decide +kernel, rfl, by decide +kernel, by decide +kernel⟩
theorem lt_len : (letters.length : Int) = 26 := by decide +kernel
theorem sign_in {s : Str} {n c : Nat} (h : s.cps[n]? = some c) : isIn s c = true := decide_eq_true (by
  rw [Array.mem_toList_iff]
  exact Array.mem_of_getElem? h)
def numS (i : Nat) : Str := ((toString (i : Int) : String) : Str)
def decL (z : List Nat) : Nat := z.foldl (fun a c => a * 10 + (c - 48)) 0
theorem num_all : ∀ i < 600, decL (tl (numS i)) = i ∧ 1 ≤ (numS i).length ∧ (numS i).length ≤ 3 ∧ ∀ c ∈ tl (numS i), isIn digits c = true := by decide +kernel
/-- a name: the stem, parted by a number -/
def nmS (stem : Str) (pl i : Nat) : Str := cutS stem none (some (pl : Int)) ++ numS i ++ cutS stem (some (pl : Int)) none
theorem nmS_inj {stem : Str} {pl i j : Nat} (hi : i < 600) (hj : j < 600) (h : nmS stem pl i = nmS stem pl j) : i = j := by
  have h := congrArg tl h
  unfold nmS at h
  rw [tl_app, tl_app, tl_app, tl_app] at h
  have h := List.append_cancel_left (List.append_cancel_right h)
  have := congrArg decL h
  rwa [(num_all i hi).1, (num_all j hj).1] at this
/-- the texts that the law draws: a stem of letters, and names -/
structure Nms (ks : List Str) : Prop where
  ex : ∃ (stem : Str) (pl : Nat) (is : List Nat), ks = stem :: is.map (nmS stem pl) ∧ is.Nodup ∧ (∀ i ∈ is, i < 600) ∧ 1 ≤ stem.length ∧ stem.length ≤ 6 ∧ pl ≤ stem.length ∧ (∀ c ∈ tl stem, isIn letters c = true) ∧ 1 ≤ is.length ∧ is.length ≤ 40
/-! lists that begin with an int -/
def IntL (o : HO) : Prop := ∃ i xs, o = .lst (.int i :: xs)
theorem ni_tup (xs : List V) : ¬ IntL (.tup xs) := fun ⟨_, _, e⟩ => by cases e
theorem ni_strs (ks : List Str) : ¬ IntL (.lst (ks.map V.str)) := fun ⟨_, _, e⟩ => by
  cases ks <;> cases e
theorem ni_refs (as : List Addr) : ¬ IntL (.lst (as.map V.ref)) := fun ⟨_, _, e⟩ => by
  cases as <;> cases e
theorem Box.upd {g : Addr} {n : Nat} {H : Hp} {p N : Addr} {o o' : HO} (B : Box g n H p) (h : H N = some o) (i : ¬ IntL o) (n1 : N ≠ p) (n2 : N ≠ g) : Box g n (upd H N o') p := by
  obtain ⟨c, cs, gs, a, b, h1, h2, h3, d1, d2, d3, ne, rest⟩ := B
  have n3 : N ≠ c := fun e => by
    rw [e, h2] at h
    cases h
    cases cs with
    | nil => exact ne rfl
    | cons x xs => exact i ⟨_, _, rfl⟩
  exact ⟨c, cs, gs, a, b, by rw [upd_ne (Ne.symm n1)]; exact h1, by rw [upd_ne (Ne.symm n3)]; exact h2, by rw [upd_ne (Ne.symm n2)]; exact h3, d1, d2, d3, ne, rest⟩
theorem But2.updN {p g N : Addr} {H H' : Hp} {o : HO} (b : But2 p g H H') (h : H N = none) : But2 p g H (L2.upd H' N o) := fun c x e n m => by
  rw [upd_ne (ne_of_none e h)]
  exact b c x e n m
section
variable {P : Program} {w : World} {K : PySem.W.Frag} {mg : Str → Option Value} {base : Heap}
def spNames : Sp := fun vs H Q _ => ∃ (p g : Addr) (n : Nat), vs = [.ref p] ∧ Box g n H p ∧ n < 2 ^ 59 ∧ ∀ (l : Addr) (ks : List Str) (H' : Hp), Nms ks → H' l = some (.lst (ks.map V.str)) → H l = none → Box g (n + 60) H' p → But2 p g H H' → Q (.ref l) H'
theorem ok_names {f g : Addr} {fd gd : FuncData} (F : Fun K "_law_names" "_law_names" sNames f fd) (cDraw : CDraw P w K mg base g gd) (B : Blt mg) : FnOk P w K mg base CX0 2 f fd ["box"] spNames := by
  refine F.ok scNames (fun vs H Q E h => ?_) (fun cdv A outer s H vs Q E hr h => ?_)
  · obtain ⟨p, G, n, rfl, _⟩ := h
    rfl
  · obtain ⟨p, G, n, rfl, hB, hn, q⟩ := h
    refine ⟨_, (pss_cons (ps_set (i := 1) scNames.nd rfl (.inl rfl) (pe_op op_add pe_int (pe_call cDraw.G (hr.mono (by first | decide | omega)) (by rfl) cDraw.D.g cDraw.D.F.kp cDraw.D.b .nil pass0 (pa_cons (pv 0) (pa_cons pe_int pa_nil)))))
      (C8.pss_cut (ps_if (pt_cmpR op_eq (pe_call cDraw.G (hr.mono (by first | decide | omega)) (by rfl) cDraw.D.g cDraw.D.F.kp cDraw.D.b .nil pass0 (pa_cons (pv 0) (pa_cons pe_int pa_nil))) pe_int (nomark _))
        (pss_one (ps_set (i := 1) scNames.nd rfl (.inl rfl) (pe_op op_add pe_int (pe_call cDraw.G (hr.mono (by first | decide | omega)) (by rfl) cDraw.D.g cDraw.D.F.kp cDraw.D.b .nil pass0 (pa_cons (pv 0) (pa_cons pe_int pa_nil))))))
        pss_nil)
      (pss_cons (ps_set (i := 2) scNames.nd rfl (.inl rfl) pe_str)
      (pss_cons (ps_for PassesOwn.never rfl (pi_range1 (by rfl) B.range (pa_cons (pe_op op_add pe_int (pe_call cDraw.G (hr.mono (by first | decide | omega)) (by rfl) cDraw.D.g cDraw.D.F.kp cDraw.D.b .nil pass0 (pa_cons (pv 0) (pa_cons pe_int pa_nil)))) pa_nil)) (pg_name (i := 3) scNames.nd rfl (.inl rfl))
        (pss_one (ps_set (i := 2) scNames.nd rfl (.inl rfl) (pe_op op_add_str (pv 2) (pe_item_str pe_str (pe_call cDraw.G (hr.mono (by first | decide | omega)) (by rfl) cDraw.D.g cDraw.D.F.kp cDraw.D.b .nil pass0 (pa_cons (pv 0) (pa_cons pe_int pa_nil))) (fun _ _ => rfl))))))
      (pss_cons (ps_set (i := 4) scNames.nd rfl (.inl rfl) (pe_ix ix_list (pe_lst (pa_cons pe_int (pa_cons (pe_callB call_len_str (by rfl) B.len PySem.boot_len (pa_cons (pv 2) pa_nil)) pa_nil))) (pe_call cDraw.G (hr.mono (by first | decide | omega)) (by rfl) cDraw.D.g cDraw.D.F.kp cDraw.D.b .nil pass0 (pa_cons (pv 0) (pa_cons pe_int pa_nil))) (fun _ _ => rfl)))
      (pss_cons (ps_set (i := 5) scNames.nd rfl (.inl rfl) (pe_lst pa_nil))
      (pss_cons (ps_set (i := 6) scNames.nd rfl (.inl rfl) (pe_call cDraw.G (hr.mono (by first | decide | omega)) (by rfl) cDraw.D.g cDraw.D.F.kp cDraw.D.b .nil pass0 (pa_cons (pv 0) (pa_cons pe_int pa_nil))))
      (pss_cons (ps_for PassesOwn.never rfl (pi_range1 (by rfl) B.range (pa_cons (pv 1) pa_nil)) (pg_name (i := 3) scNames.nd rfl (.inl rfl))
        (pss_cons (ps_expr (pe_bm PySem.F.plainAttrs_list PySem.F.slot_list_append PySem.F.type_list_append mt_append (pv 5) (pa_cons (pe_op op_add_str (pe_op op_add_str (pe_slice sl_str (pv 2) po_none (po_some (pv 4))) (pe_callTy call_str_int (by rfl) B.str PyProof.Rows.boot_str (pa_cons (pv 6) pa_nil))) (pe_slice sl_str (pv 2) (po_some (pv 4)) po_none)) pa_nil)))
        (pss_one (ps_set (i := 6) scNames.nd rfl (.inl rfl) (pe_op op_add (pe_op op_add (pv 6) pe_int) (pe_call cDraw.G (hr.mono (by first | decide | omega)) (by rfl) cDraw.D.g cDraw.D.F.kp cDraw.D.b .nil pass0 (pa_cons (pv 0) (pa_cons pe_int pa_nil))))))))
      (pss_one (ps_ret (pe_op op_cat (pe_lst (pa_cons (pv 2) pa_nil)) (pv 5)))))))))))), ?_⟩
    have hz : sizeLine = 16777216 := rfl
    have ll := lt_len
    refine ⟨.ref p, rfl, p, G, 7, n, rfl, hB, by omega, by decide, by decide, fun c0 H1 c00 c01 B1 b1 => ⟨1, c0, rfl, rfl, ?_⟩⟩
    refine ⟨fun σ' H' => ∃ c : Int, σ' = [some (.ref p), some (.int c), none, none, none, none, none] ∧ 1 ≤ c ∧ c ≤ 40 ∧ Box G (n + 3) H' p ∧ But2 p G H H', ?_, ?_⟩
    · refine ⟨.ref p, rfl, p, G, 8, n + 1, rfl, B1, by omega, by decide, by decide, fun v H2 v0 v1 B2 b2 => ?_⟩
      refine ⟨rfl, _, rfl, ite2 (fun e => ?_) (fun e => ?_)⟩
      · refine ⟨.ref p, rfl, p, G, 40, n + 2, rfl, B2, by omega, by decide, by decide, fun c H3 c0 c1 B3 b3 => ⟨1, c, rfl, rfl, ?_⟩⟩
        exact ⟨1 + c, rfl, by omega, by omega, B3, (b1.trans b2).trans b3⟩
      · exact ⟨1 + c0, rfl, by omega, by omega, B2.mono (by omega), b1.trans b2⟩
    · rintro σ' H' ⟨c, rfl, c1, c40, B3, b3⟩
      refine ⟨.ref p, rfl, p, G, 6, n + 3, rfl, B3, by omega, by decide, by decide, fun sl H4 sl0 sl1 B4 b4 => ⟨1, sl, rfl, rfl, _, rfl, by omega, by omega, ?_⟩⟩
      refine for_range (lo := 0) (n := (1 + sl : Int).toNat) (fun i σ H5 => ∃ z y3, σ = [some (.ref p), some (.int c), some (.str z), y3, none, none, none] ∧ Box G (n + 4 + i) H5 p ∧ But2 p G H H5 ∧ z.length = i ∧ ∀ c ∈ tl z, isIn letters c = true) ⟨Str.ofString "", none, rfl, B4, b3.trans b4, by decide +kernel, by decide +kernel⟩ ?_ ?_
      · rintro i σ H5 hi ⟨z, y3, rfl, B5, b5, hl, hd⟩
        refine ⟨.str z, rfl, .ref p, rfl, p, G, 26, n + 4 + i, rfl, B5, by omega, by decide, by decide, fun v H6 v0 v1 B6 b6 => ?_⟩
        obtain ⟨d, e⟩ := at_sign (z := letters) (i := v) (by omega) v0
        refine ⟨letters, v, d, rfl, rfl, v0, by omega, by omega, e, _, _, rfl, rfl, by rw [one_len]; omega, ?_⟩
        refine ⟨_, _, rfl, B6, b5.trans b6, by rw [app_len, hl, one_len], fun x hx => ?_⟩
        rw [tl_app, tl_one, List.mem_append] at hx
        rcases hx with hx | hx
        · exact hd x hx
        · rw [List.mem_singleton.mp hx]
          exact sign_in e
      · rintro σ H5 ⟨z, y3, rfl, B5, b5, hl, hd⟩
        refine ⟨.str z, rfl, z, rfl, by omega, by show 2 ≤ sizeLine; omega, fun D nD => ?_⟩
        have S0 := same_upd (o := .lst [V.int 1, V.int (z.length : Int)]) nD
        have B5' := (B5.same S0).mono (show n + 4 + (1 + sl : Int).toNat ≤ n + 10 by omega)
        obtain ⟨dp, dg⟩ := B5.off nD
        refine ⟨.ref p, rfl, p, G, 2, n + 10, rfl, B5', by omega, by decide, by decide, fun v H6 v0 v1 B6 b6 => ?_⟩
        have hD6 := b6 D _ upd_same dp dg
        have b06 := (b5.trans (.same S0)).trans b6
        obtain ⟨pl, hv, hpl, hpl1⟩ : ∃ pl : Nat, [V.int 1, V.int (z.length : Int)][v.toNat]? = some (.int (pl : Int)) ∧ pl ≤ z.length ∧ 1 ≤ pl := by
          rcases (show v = 0 ∨ v = 1 by omega) with rfl | rfl
          · exact ⟨1, rfl, by omega, by omega⟩
          · exact ⟨z.length, rfl, by omega, by omega⟩
        refine ⟨D, _, v.toNat, .int (pl : Int), rfl, congrArg V.int (show v = (v.toNat : Int) by omega), sqOf hD6, atI_nat hv, ?_⟩
        refine ⟨by show 0 ≤ sizeLine; omega, fun N nN => ?_⟩
        have SN := same_upd (o := .lst []) nN
        obtain ⟨np, ng⟩ := B6.off nN
        refine ⟨.ref p, rfl, p, G, 12, n + 11, rfl, B6.same SN, by omega, by decide, by decide, fun m H7 m0 m1 B7 b7 => ?_⟩
        have hN7 := b7 N _ upd_same np ng
        refine ⟨.int c, rfl, c, rfl, by omega, by omega, ?_⟩
        have b07 := (b06.trans (.same SN)).trans b7
        refine for_range (lo := 0) (n := c.toNat) (fun i σ H8 => ∃ (m : Nat) (is : List Nat) (y3 : Option V), σ = [some (.ref p), some (.int c), some (.str z), y3, some (.int (pl : Int)), some (.ref N), some (.int (m : Int))] ∧ Box G (n + 12 + i) H8 p ∧ But2 p G H H8 ∧ H8 N = some (.lst ((is.map (nmS z pl)).map V.str)) ∧ is.length = i ∧ is.Nodup ∧ (∀ j ∈ is, j < m) ∧ m < 12 + 13 * i) ⟨m.toNat, [], y3, ?_, B7, b07, hN7, rfl, List.nodup_nil, fun _ h => (by cases h), by omega⟩ ?_ ?_
        · rw [show ((m.toNat : Nat) : Int) = m by omega]; rfl
        · rintro i σ H8 hi ⟨m, is, y3, rfl, B8, b8, hN8, hl8, nd, lt, mb⟩
          refine ⟨.ref N, rfl, .inl ⟨rfl, _, sqOf hN8⟩, ?_⟩
          have m6 : m < 600 := by omega
          have hnum := num_all m m6
          have l1 : (cutS z none (some (pl : Int))).length ≤ 6 := by rw [len_tl, tl_hi, List.length_take, ← len_tl]; omega
          have l2 : (cutS z (some (pl : Int)) none).length ≤ 6 := by rw [len_tl, tl_lo, List.length_drop, ← len_tl]; omega
          have l3 : (numS m).length ≤ 3 := hnum.2.2.1
          refine ⟨.str z, rfl, .int (pl : Int), rfl, (pl : Int), rfl, z, rfl, by omega, .int (m : Int), rfl, (m : Int), rfl, Nat.lt_of_le_of_lt (Nat.log2_le_self _) (by omega), ?_⟩
          refine ⟨cutS z none (some (pl : Int)), numS m, rfl, rfl, by omega, .str z, rfl, .int (pl : Int), rfl, (pl : Int), rfl, z, rfl, by omega, ?_⟩
          refine ⟨cutS z none (some (pl : Int)) ++ numS m, cutS z (some (pl : Int)) none, rfl, rfl, by rw [app_len]; omega, ?_⟩
          refine ⟨N, _, .str (nmS z pl m), rfl, rfl, hN8, by rw [List.length_map, List.length_map]; omega, ?_⟩
          have nN0 := b06.free np ng nN
          refine ⟨.int (m : Int), rfl, (m : Int), 1, rfl, rfl, .ref p, rfl, p, G, 12, n + 12 + i, rfl, B8.upd hN8 (ni_strs _) np ng, by omega, by decide, by decide, fun u H9 u0 u1 B9 b9 => ⟨(m : Int) + 1, u, rfl, rfl, ?_⟩⟩
          have hN9 := b9 N _ upd_same np ng
          refine ⟨m + 1 + u.toNat, is ++ [m], some (.int ((0 : Int) + (i : Int))), ?_, B9, (b8.updN nN0).trans b9, ?_, by rw [List.length_append, hl8]; rfl, ?_, fun j hj => ?_, by omega⟩
          · rw [show ((m + 1 + u.toNat : Nat) : Int) = (m : Int) + 1 + u by omega]; rfl
          · rw [hN9, List.map_append, List.map_append]; rfl
          · rw [List.nodup_append]
            refine ⟨nd, List.nodup_cons.mpr ⟨List.not_mem_nil, List.nodup_nil⟩, fun a ha b hb e => ?_⟩
            rw [List.mem_singleton.mp hb] at e
            have := lt a ha
            omega
          · rcases List.mem_append.mp hj with hj | hj
            · have := lt j hj; omega
            · rw [List.mem_singleton.mp hj]; omega
        · rintro σ H8 ⟨m, is, y3, rfl, B8, b8, hN8, hl8, nd, lt, mb⟩
          refine ⟨.str z, rfl, by show 1 ≤ sizeLine; omega, fun M nM => ?_⟩
          have SM := same_upd (o := .lst [V.str z]) nM
          refine ⟨.ref N, rfl, M, N, _, _, rfl, rfl, upd_same, SM _ _ hN8, by rw [List.length_map, List.length_map]; show 1 + is.length ≤ _; omega, fun L nL => ?_⟩
          have SL := same_upd (o := .lst ([V.str z] ++ (is.map (nmS z pl)).map V.str)) nL
          have S2 := SM.trans SL
          have nL8 := SM.free nL
          obtain ⟨lp, lg⟩ := B8.off nL8
          refine q L (z :: is.map (nmS z pl)) _ ⟨z, pl, is, rfl, nd, fun j hj => ?_, by omega, by omega, hpl, hd, by omega, by omega⟩ upd_same (b8.free lp lg nL8) ((B8.same S2).mono (by omega)) (b8.trans (.same S2))
          have := lt j hj
          omega
end
end Tb
namespace Tb
open PySem PySem.Spec PyProof.Rows L2
abbrev sPosts : Stmt := topS 24
abbrev NPosts : List Str := ["box", "names", "count", "found", "k", "debtor", "creditor", "word"]
theorem scPosts : FnScope NPosts ["box", "names"] (defScope sPosts) := ⟨rfl, rfl, rfl, by decide +kernel, rfl, by decide +kernel, by decide +kernel⟩
def SgP (p : Pr) : Prop := Sg p.1 ∧ Sg p.2
theorem lay_2 {p : Pr} (h : SgP p) : SeqAt.shaped (enc2 p) = true := by
  show (PyData.canLay0 (enc2 p) && decide (PyData.depth (enc2 p) ≤ 64)) = true
  rw [Bool.and_eq_true]
  refine ⟨by simp only [enc2, PyData.canLay0, PyData.canLayAll0, strOk_sg h.1, strOk_sg h.2, Bool.and_true], decide_eq_true ?_⟩
  have := depth2 p
  omega
theorem eqv_same {d : PyData} (h : SeqAt.shaped d = true) : PyData.eqv d d = true := SeqAt.eqv_refl _ (SeqAt.canLay_of_shaped h)
theorem dp_pr {K : PySem.W.Frag} {H : Hp} {T : Addr} {p : Pr} (h : H T = some (.tup [.str p.1, .str p.2])) : Dp K H (.ref T) (enc2 p) := .tup (.of h) (.cons (.str _) (.cons (.str _) .nil))
/-- a posting -/
structure Po where
  day : Int
  d : Pr
  c : Pr
  cents : Int
  word : Str
  no : Int
def PoAt (H : Hp) (T : Addr) (o : Po) : Prop := ∃ D C : Addr, H T = some (.tup [.int o.day, .ref D, .ref C, .int o.cents, .str o.word, .int o.no]) ∧ H D = some (.tup [.str o.d.1, .str o.d.2]) ∧ H C = some (.tup [.str o.c.1, .str o.c.2])
theorem PoAt.keep {H H' : Hp} {T : Addr} {o : Po} (h : PoAt H T o) (k : ∀ b xs, H b = some (.tup xs) → H' b = some (.tup xs)) : PoAt H' T o := by
  obtain ⟨D, C, h1, h2, h3⟩ := h
  exact ⟨D, C, k _ _ h1, k _ _ h2, k _ _ h3⟩
def KindOk (x : Str) : Prop := x = "house" ∨ x = "sender" ∨ x = "land"
structure GPo (ks : List Str) (o : Po) : Prop where
  ne : o.d ≠ o.c
  d1 : KindOk o.d.1
  d2 : o.d.2 ∈ ks.tail
  c1 : KindOk o.c.1
  c2 : o.c.2 ∈ ks.tail
  lo : 1 ≤ o.cents
  hi : o.cents ≤ 10 ^ 13
  day : 0 ≤ o.day ∧ o.day < 99
  word : o.word ∈ (["toll", "postage", "duty"] : List Str)
  no : 1 ≤ o.no ∧ o.no ≤ 9
theorem kind_sg {x : Str} (h : KindOk x) : Sg x := by
  rcases h with rfl | rfl | rfl <;> (unfold Sg; decide +kernel)
theorem is_sg {z : Str} (hz : Sg z) {c : Nat} (h : isIn z c = true) : c < 1114112 := hz c (of_decide_eq_true h)
theorem nms_sg {ks : List Str} (N : Nms ks) : ∀ y ∈ ks, Sg y := by
  obtain ⟨stem, pl, is, rfl, nd, lt, l1, l6, hp, hl, n1, n40⟩ := N.ex
  have s0 : Sg letters := by unfold Sg; decide +kernel
  have s1 : Sg digits := by unfold Sg; decide +kernel
  have sst : Sg stem := fun c hc => is_sg s0 (hl c hc)
  intro y hy
  rcases List.mem_cons.mp hy with rfl | hy
  · exact sst
  · obtain ⟨i, hi, rfl⟩ := List.mem_map.mp hy
    intro c hc
    unfold nmS at hc
    rw [tl_app, tl_app, tl_hi, tl_lo, List.mem_append, List.mem_append] at hc
    rcases hc with (hc | hc) | hc
    · exact sst c (List.mem_of_mem_take hc)
    · exact is_sg s1 ((num_all i (lt i hi)).2.2.2 c hc)
    · exact sst c (List.mem_of_mem_drop hc)
theorem pg_keep {p g : Addr} {n : Nat} {H H' : Hp} (B : Box g n H p) (h : But2 p g H H') : ∀ b xs, H b = some (.tup xs) → H' b = some (.tup xs) := fun b xs e => by
  obtain ⟨c, cs, gs, a, b', h1, h2, h3, _⟩ := B
  exact h b _ e (fun z => by rw [z, h1] at e; cases e) (fun z => by rw [z, h3] at e; cases e)
theorem ni_refs' {α : Type} (bs : List (Addr × α)) : ¬ IntL (.lst (bs.map fun b => V.ref b.1)) := fun ⟨_, _, e⟩ => by
  cases bs <;> cases e
section
variable {P : Program} {w : World} {K : PySem.W.Frag} {mg : Str → Option Value} {base : Heap}
abbrev CCents (P : Program) (w : World) (K : PySem.W.Frag) (mg : Str → Option Value) (base : Heap) (g : Addr) (gd : FuncData) := C1 P w K mg base "_law_cents" sCents ["box"] 2 spCents g gd
abbrev CAcc (P : Program) (w : World) (K : PySem.W.Frag) (mg : Str → Option Value) (base : Heap) (g : Addr) (gd : FuncData) := C1 P w K mg base "_law_account" sAcc ["box", "names"] 2 (spAcc K) g gd
/-- postings in a list -/
structure Pos (ks : List Str) (H : Hp) (l : Addr) (bs : List (Addr × Po)) : Prop where
  l : H l = some (.lst (bs.map fun b => V.ref b.1))
  t : ∀ b ∈ bs, PoAt H b.1 b.2
  g : ∀ b ∈ bs, GPo ks b.2
def spPosts : Sp := fun vs H Q _ => ∃ (p g l : Addr) (n : Nat) (ks : List Str), vs = [.ref p, .ref l] ∧ Box g n H p ∧ n < 2 ^ 58 ∧ Nms ks ∧ H l = some (.lst (ks.map V.str)) ∧ l ≠ p ∧ l ≠ g ∧ ∀ (r : Addr) (bs : List (Addr × Po)) (H' : Hp), Pos ks H' r bs → bs.length ≤ 60 → H r = none → Box g (n + 700) H' p → But2 p g H H' → Q (.ref r) H'
theorem ok_posts {f g g2 g3 : Addr} {fd gd gd2 gd3 : FuncData} (F : Fun K "_law_postings" "_law_postings" sPosts f fd) (cDraw : CDraw P w K mg base g gd) (cAcc : CAcc P w K mg base g2 gd2) (cCents : CCents P w K mg base g3 gd3) (B : Blt mg) : FnOk P w K mg base CX0 3 f fd ["box", "names"] spPosts := by
  refine F.ok scPosts (fun vs H Q E h => ?_) (fun cdv A outer s H vs Q E hr h => ?_)
  · obtain ⟨p, G, l, n, ks, rfl, _⟩ := h
    rfl
  · obtain ⟨p, G, l, n, ks, rfl, hB, hn, hN, hL, lp, lg, q⟩ := h
    refine ⟨_, (pss_cons (ps_set (i := 2) scPosts.nd rfl (.inl rfl) (pe_call cDraw.G (hr.mono (by first | decide | omega)) (by rfl) cDraw.D.g cDraw.D.F.kp cDraw.D.b .nil pass0 (pa_cons (pv 0) (pa_cons pe_int pa_nil))))
      (C8.pss_cut (ps_if (pt_cmpR op_eq (pe_call cDraw.G (hr.mono (by first | decide | omega)) (by rfl) cDraw.D.g cDraw.D.F.kp cDraw.D.b .nil pass0 (pa_cons (pv 0) (pa_cons pe_int pa_nil))) pe_int (nomark _))
        (pss_one (ps_set (i := 2) scPosts.nd rfl (.inl rfl) (pe_call cDraw.G (hr.mono (by first | decide | omega)) (by rfl) cDraw.D.g cDraw.D.F.kp cDraw.D.b .nil pass0 (pa_cons (pv 0) (pa_cons pe_int pa_nil)))))
        pss_nil)
      (pss_cons (ps_set (i := 3) scPosts.nd rfl (.inl rfl) (pe_lst pa_nil))
      (pss_cons (ps_for PassesOwn.never rfl (pi_range1 (by rfl) B.range (pa_cons (pv 2) pa_nil)) (pg_name (i := 4) scPosts.nd rfl (.inl rfl))
        (pss_cons (ps_set (i := 5) scPosts.nd rfl (.inl rfl) (pe_call cAcc.G (hr.mono (by first | decide | omega)) (by rfl) cAcc.D.g cAcc.D.F.kp cAcc.D.b .nil pass0 (pa_cons (pv 0) (pa_cons (pv 1) pa_nil))))
        (pss_cons (ps_set (i := 6) scPosts.nd rfl (.inl rfl) (pe_call cAcc.G (hr.mono (by first | decide | omega)) (by rfl) cAcc.D.g cAcc.D.F.kp cAcc.D.b .nil pass0 (pa_cons (pv 0) (pa_cons (pv 1) pa_nil))))
        (C8.pss_cut (ps_if (pt_cmpR (op_eqD hr.units) (pv 5) (pv 6) (nomark _))
          (pss_one (ps_set (i := 6) scPosts.nd rfl (.inl rfl) (pe_tup (pa_cons (pe_ix ix_list (pe_lst (pa_cons pe_str (pa_cons pe_str pa_nil))) (pe_callTy call_int1 (by rfl) B.int PyProof.Rows.boot_int (pa_cons (pe_cmpR op_eq (pe_ix ix_tup (pv 5) pe_int (fun _ _ => rfl)) pe_str (nomark _)) pa_nil)) (fun _ _ => rfl)) (pa_cons (pe_ix ix_tup (pv 5) pe_int (fun _ _ => rfl)) pa_nil)))))
          pss_nil)
        (pss_cons (ps_set (i := 7) scPosts.nd rfl (.inl rfl) (pe_ix ix_list (pe_lst (pa_cons pe_str (pa_cons pe_str (pa_cons pe_str pa_nil)))) (pe_call cDraw.G (hr.mono (by first | decide | omega)) (by rfl) cDraw.D.g cDraw.D.F.kp cDraw.D.b .nil pass0 (pa_cons (pv 0) (pa_cons pe_int pa_nil))) (fun _ _ => rfl)))
        (pss_one (ps_expr (pe_bm PySem.F.plainAttrs_list PySem.F.slot_list_append PySem.F.type_list_append mt_append (pv 3) (pa_cons (pe_tup (pa_cons (pe_call cDraw.G (hr.mono (by first | decide | omega)) (by rfl) cDraw.D.g cDraw.D.F.kp cDraw.D.b .nil pass0 (pa_cons (pv 0) (pa_cons pe_int pa_nil))) (pa_cons (pv 5) (pa_cons (pv 6) (pa_cons (pe_call cCents.G (hr.mono (by first | decide | omega)) (by rfl) cCents.D.g cCents.D.F.kp cCents.D.b .nil pass0 (pa_cons (pv 0) pa_nil)) (pa_cons (pv 7) (pa_cons (pe_op op_add pe_int (pe_call cDraw.G (hr.mono (by first | decide | omega)) (by rfl) cDraw.D.g cDraw.D.F.kp cDraw.D.b .nil pass0 (pa_cons (pv 0) (pa_cons pe_int pa_nil)))) pa_nil))))))) pa_nil)))))))))
      (pss_one (ps_ret (pv 3))))))), ?_⟩
    have hz : sizeLine = 16777216 := rfl
    refine ⟨.ref p, rfl, p, G, 9, n, rfl, hB, by omega, by decide, by decide, fun c0 H1 c00 c01 B1 b1 => ?_⟩
    refine ⟨fun σ' H' => ∃ c : Int, σ' = [some (.ref p), some (.ref l), some (.int c), none, none, none, none, none] ∧ 0 ≤ c ∧ c ≤ 60 ∧ Box G (n + 3) H' p ∧ But2 p G H H', ?_, ?_⟩
    · refine ⟨.ref p, rfl, p, G, 8, n + 1, rfl, B1, by omega, by decide, by decide, fun v H2 v0 v1 B2 b2 => ?_⟩
      refine ⟨rfl, _, rfl, ite2 (fun e => ?_) (fun e => ?_)⟩
      · refine ⟨.ref p, rfl, p, G, 61, n + 2, rfl, B2, by omega, by decide, by decide, fun c H3 c0 c1 B3 b3 => ?_⟩
        exact ⟨c, rfl, by omega, by omega, B3, (b1.trans b2).trans b3⟩
      · exact ⟨c0, rfl, by omega, by omega, B2.mono (by omega), b1.trans b2⟩
    · rintro σ' H' ⟨c, rfl, c0, c60, B3, b3⟩
      refine ⟨by show 0 ≤ sizeLine; omega, fun R nR => ?_⟩
      have SR := same_upd (o := .lst []) nR
      obtain ⟨rp, rg⟩ := B3.off nR
      have nR0 := b3.free rp rg nR
      refine ⟨.int c, rfl, c, rfl, by omega, by omega, ?_⟩
      refine for_range (lo := 0) (n := c.toNat) (fun i σ H4 => ∃ (bs : List (Addr × Po)) (y4 y5 y6 y7 : Option V), σ = [some (.ref p), some (.ref l), some (.int c), some (.ref R), y4, y5, y6, y7] ∧ Box G (n + 3 + 10 * i) H4 p ∧ But2 p G H H4 ∧ Pos ks H4 R bs ∧ bs.length = i) ⟨[], none, none, none, none, rfl, B3.same SR, b3.trans (.same SR), ⟨upd_same, fun _ h => (by cases h), fun _ h => (by cases h)⟩, rfl⟩ ?_ ?_
      · rintro i σ H4 hi ⟨bs, y4, y5, y6, y7, rfl, B4, b4, hP, hl⟩
        obtain ⟨k2, k41⟩ : 2 ≤ ks.length ∧ ks.length ≤ 41 := by
          obtain ⟨stem, pl, is, rfl, _, _, _, _, _, _, n1, n40⟩ := hN.ex
          rw [List.length_cons, List.length_map]
          omega
        have hL4 := b4 l _ hL lp lg
        refine ⟨.ref p, rfl, .ref l, rfl, p, G, l, n + 3 + 10 * i, ks, rfl, B4, by omega, hL4, k2, k41, lp, lg, fun D x1 x2 H5 hx1 hx2 hD nD B5 b5 => ?_⟩
        have hL5 := b5 l _ hL4 lp lg
        refine ⟨.ref p, rfl, .ref l, rfl, p, G, l, n + 5 + 10 * i, ks, rfl, B5.mono (by omega), by omega, hL5, k2, k41, lp, lg, fun C z1 z2 H6 hz1 hz2 hC nC B6 b6 => ?_⟩
        have hD6 := pg_keep B5 b6 _ _ hD
        have b46 := (b4.trans b5).trans b6
        have sk := nms_sg hN
        have tk : ∀ y ∈ ks.tail, Sg y := fun y hy => sk y (List.mem_of_mem_tail hy)
        have sd := lay_2 (p := (x1, x2)) ⟨kind_sg hx1, tk _ hx2⟩
        have sc := lay_2 (p := (z1, z2)) ⟨kind_sg hz1, tk _ hz2⟩
        have hR6 := b6 R _ (b5 R _ hP.l rp rg) rp rg
        have hT6 : ∀ b ∈ bs, PoAt H6 b.1 b.2 := fun b hb => ((hP.t b hb).keep (pg_keep B4 b5)).keep (pg_keep B5 b6)
        refine ⟨fun σ' H' => ∃ (C' : Addr) (o : Pr), σ' = [some (.ref p), some (.ref l), some (.int c), some (.ref R), some (.int ((0 : Int) + (i : Int))), some (.ref D), some (.ref C'), y7] ∧ Same H6 H' ∧ H' C' = some (.tup [.str o.1, .str o.2]) ∧ KindOk o.1 ∧ o.2 ∈ ks.tail ∧ (x1, x2) ≠ o, ?_, ?_⟩
        · refine ⟨.ref D, rfl, .ref C, rfl, enc2 (x1, x2), enc2 (z1, z2), dp_pr hD6, dp_pr hC, sd, sc, _, rfl, ite2 (fun e => ?_) (fun e => ?_)⟩
          · refine ⟨by show 2 ≤ sizeLine; omega, fun W nW => ?_⟩
            have SW := same_upd (o := .lst ((["house", "land"] : List Str).map V.str)) nW
            have hDW : SqT K _ D [.str x1, .str x2] := .of (SW _ _ hD6)
            refine ⟨.ref D, rfl, D, _, 0, .str x1, rfl, rfl, hDW, rfl, rfl, .inr ⟨_, rfl, ?_⟩⟩
            obtain ⟨j, e1, lj, hj⟩ : ∃ j : Nat, V.int (if decide (V.str x1 = V.str (Str.ofString "house")) = true then 1 else 0) = .int (j : Int) ∧ j < 2 ∧ ∀ z : Str, (["house", "land"] : List Str)[j]? = some z → KindOk z ∧ z ≠ x1 := by
              by_cases hk : x1 = Str.ofString "house"
              · refine ⟨1, by rw [hk, decide_eq_true rfl]; rfl, by decide, fun z hz => ?_⟩
                obtain rfl : Str.ofString "land" = z := Option.some.inj hz
                exact ⟨.inr (.inr rfl), by rw [hk]; decide +kernel⟩
              · refine ⟨0, by rw [decide_eq_false (fun z => hk (by cases z; rfl))]; rfl, by decide, fun z hz => ?_⟩
                obtain rfl : Str.ofString "house" = z := Option.some.inj hz
                exact ⟨.inl rfl, fun z => hk z.symm⟩
            obtain ⟨z, ez⟩ : ∃ z, (["house", "land"] : List Str)[j]? = some z := ⟨_, List.getElem?_eq_getElem lj⟩
            obtain ⟨kz, nz⟩ := hj z ez
            refine ⟨W, _, j, .str z, rfl, e1, sqOf upd_same, atI_nat (show (((["house", "land"] : List Str).map V.str))[j]? = some (V.str z) by rw [List.getElem?_map, ez]; rfl), .ref D, rfl, D, _, 1, .str x2, rfl, rfl, hDW, rfl, by show 2 ≤ sizeLine; omega, fun T nT => ?_⟩
            exact ⟨T, (z, x2), rfl, SW.trans (same_upd nT), upd_same, kz, hx2, fun e => nz (congrArg Prod.fst e).symm⟩
          · exact ⟨C, (z1, z2), rfl, Same.refl _, hC, hz1, hz2, fun z => e (by rw [z]; exact eqv_same sc)⟩
        · rintro σ' H7 ⟨C', o, rfl, S7, hC7, ho1, ho2, hne⟩
          have B7 := (B6.same S7).mono (show n + 5 + 10 * i + 2 ≤ n + 7 + 10 * i by omega)
          refine ⟨by show 3 ≤ sizeLine; omega, fun W nW => ?_⟩
          have SW := same_upd (o := .lst ((["toll", "postage", "duty"] : List Str).map V.str)) nW
          obtain ⟨wp, wg⟩ := B7.off nW
          refine ⟨.ref p, rfl, p, G, 3, n + 7 + 10 * i, rfl, B7.same SW, by omega, by decide, by decide, fun v H8 v0 v1 B8 b8 => ?_⟩
          have hW8 := b8 W _ upd_same wp wg
          have lv : v.toNat < (["toll", "postage", "duty"] : List Str).length := by show v.toNat < 3; omega
          refine ⟨W, _, v.toNat, .str (["toll", "postage", "duty"] : List Str)[v.toNat], rfl, congrArg V.int (show v = (v.toNat : Int) by omega), sqOf hW8, atI_nat (strs_at lv), ?_⟩
          have b48 := (b46.trans (.same (S7.trans SW))).trans b8
          have hR8 := b8 R _ (SW _ _ (S7 _ _ hR6)) rp rg
          refine ⟨.ref R, rfl, .inl ⟨rfl, _, sqOf hR8⟩, ?_⟩
          refine ⟨.ref p, rfl, p, G, 99, n + 7 + 10 * i + 1, rfl, B8, by omega, by decide, by decide, fun day H9 d0 d1 B9 b9 => ?_⟩
          refine ⟨.ref D, rfl, .ref C', rfl, .ref p, rfl, p, G, n + 7 + 10 * i + 1 + 1, rfl, B9, by omega, fun ct HA ct0 ct1 BA bA => ?_⟩
          refine ⟨_, rfl, .ref p, rfl, p, G, 9, n + 7 + 10 * i + 1 + 1 + 3, rfl, BA, by omega, by decide, by decide, fun u HB u0 u1 BB bB => ⟨1, u, rfl, rfl, by show 6 ≤ sizeLine; omega, fun T nT => ?_⟩⟩
          have hRB := bB R _ (bA R _ (b9 R _ hR8 rp rg) rp rg) rp rg
          have kp : ∀ b xs, H6 b = some (.tup xs) → HB b = some (.tup xs) := fun b xs e => pg_keep BA bB _ _ (pg_keep B9 bA _ _ (pg_keep B8 b9 _ _ (pg_keep (B7.same SW) b8 _ _ (SW _ _ (S7 _ _ e)))))
          have kC : HB C' = some (.tup [.str o.1, .str o.2]) := pg_keep BA bB _ _ (pg_keep B9 bA _ _ (pg_keep B8 b9 _ _ (pg_keep (B7.same SW) b8 _ _ (SW _ _ hC7))))
          have ST := same_upd (o := .tup [.int day, .ref D, .ref C', .int ct, .str (["toll", "postage", "duty"] : List Str)[v.toNat], .int (1 + u)]) nT
          have hRT := ST _ _ hRB
          have kR : ∀ (o' : HO) b xs, (L2.upd HB T (.tup [.int day, .ref D, .ref C', .int ct, .str (["toll", "postage", "duty"] : List Str)[v.toNat], .int (1 + u)])) b = some (.tup xs) → (L2.upd (L2.upd HB T (.tup [.int day, .ref D, .ref C', .int ct, .str (["toll", "postage", "duty"] : List Str)[v.toNat], .int (1 + u)])) R o') b = some (.tup xs) := fun o' b xs e => by
            rw [upd_ne (fun z => by rw [z, hRT] at e; cases e)]
            exact e
          refine ⟨R, _, .ref T, rfl, rfl, hRT, by rw [List.length_map, hl]; omega, ?_⟩
          refine ⟨bs ++ [(T, ⟨day, (x1, x2), o, ct, (["toll", "postage", "duty"] : List Str)[v.toNat], 1 + u⟩)], _, _, _, _, rfl, ((BB.same ST).upd hRT (ni_refs' bs) rp rg).mono (by omega), ((((b48.trans b9).trans bA).trans bB).trans (.same ST)).updN nR0, ⟨?_, fun b hb => ?_, fun b hb => ?_⟩, by rw [List.length_append, hl]; rfl⟩
          · rw [upd_same, List.map_append]; rfl
          · rcases List.mem_append.mp hb with hb | hb
            · exact (hT6 b hb).keep fun a xs e => kR _ _ _ (ST _ _ (kp _ _ e))
            · rw [List.mem_singleton.mp hb]
              exact ⟨D, C', kR _ _ _ upd_same, kR _ _ _ (ST _ _ (kp _ _ hD6)), kR _ _ _ (ST _ _ kC)⟩
          · rcases List.mem_append.mp hb with hb | hb
            · exact hP.g b hb
            · rw [List.mem_singleton.mp hb]
              exact ⟨hne, hx1, hx2, ho1, ho2, ct0, ct1, ⟨d0, d1⟩, List.getElem_mem lv, by show (1 : Int) ≤ 1 + u; omega, by show 1 + u ≤ (9 : Int); omega⟩
      · rintro σ H4 ⟨bs, y4, y5, y6, y7, rfl, B4, b4, hP, hl⟩
        exact ⟨.ref R, rfl, q R bs H4 hP (by omega) nR0 (B4.mono (by omega)) b4⟩
end
end Tb
namespace Tb
open PySem PySem.Spec PyProof.Rows L2
abbrev sSums : Stmt := topS 25
abbrev NSums : List Str := ["postings", "found", "posting"]
theorem scSums : FnScope NSums ["postings"] (defScope sSums) := ⟨rfl, rfl, rfl, by decide +kernel, rfl, by decide +kernel, by decide +kernel⟩
/-! a dict of accounts and sums -/
abbrev DS := List (Pr × Int)
def kP (p : Pr) : List Key := [Sum.inr p.1, Sum.inr p.2]
def kvD (d : DS) : List (List Key × V) := d.map fun e => (kP e.1, V.int e.2)
def getD (d : DS) (k : Pr) : Option Int := (d.find? fun e => decide (e.1 = k)).map (·.2)
def putD (d : DS) (k : Pr) (v : Int) : DS := if (d.any fun e => decide (e.1 = k)) = true then d.map (fun e => if e.1 = k then (e.1, v) else e) else d ++ [(k, v)]
def stepD (d : DS) (o : Po) : DS :=
  let a := putD d o.d ((getD d o.d).getD 0 - o.cents)
  putD a o.c ((getD a o.c).getD 0 + o.cents)
def sumD (ps : List Po) : DS := ps.foldl stepD []
theorem kP_inj {a b : Pr} (h : kP a = kP b) : a = b := by
  have h1 := List.cons.inj h
  have h2 := List.cons.inj h1.2
  exact Prod.ext (Sum.inr.inj h1.1) (Sum.inr.inj h2.1)
theorem kP_iff {a b : Pr} : kP a = kP b ↔ a = b := ⟨kP_inj, fun h => by rw [h]⟩
theorem valV_kvD (k : Pr) : ∀ d : DS, valV (kvD d) (kP k) = (getD d k).map V.int
  | [] => rfl
  | e :: r => by
    have ih := valV_kvD k r
    show valV ((kP e.1, V.int e.2) :: kvD r) (kP k) = _
    unfold getD
    by_cases h : e.1 = k
    · rw [valV_pos (kP_iff.mpr h), List.find?_cons_of_pos (by simpa using h)]; rfl
    · rw [valV_neg (fun z => h (kP_iff.mp z)), ih, List.find?_cons_of_neg (by simpa using h)]; rfl
theorem putK_kvD (k : Pr) (v : Int) (d : DS) : putK (kvD d) (kP k) (.int v) = kvD (putD d k v) := by
  have e1 : ((kvD d).any fun kv => decide (kv.1 = kP k)) = d.any fun e => decide (e.1 = k) := by
    unfold kvD
    rw [List.any_map]
    congr 1
    funext e
    exact decide_eq_decide.mpr kP_iff
  unfold putK putD
  rw [e1]
  by_cases h : (d.any fun e => decide (e.1 = k)) = true
  · rw [if_pos h, if_pos h]
    unfold kvD
    rw [List.map_map, List.map_map]
    refine List.map_congr_left fun e _ => ?_
    show (if kP e.1 = kP k then (kP e.1, V.int v) else (kP e.1, V.int e.2)) = _
    by_cases h2 : e.1 = k
    · rw [if_pos (kP_iff.mpr h2)]
      show _ = (kP (if e.1 = k then (e.1, v) else e).1, V.int (if e.1 = k then (e.1, v) else e).2)
      rw [if_pos h2]
    · rw [if_neg (fun z => h2 (kP_iff.mp z))]
      show _ = (kP (if e.1 = k then (e.1, v) else e).1, V.int (if e.1 = k then (e.1, v) else e).2)
      rw [if_neg h2]
  · rw [if_neg h, if_neg h]
    unfold kvD
    rw [List.map_append]; rfl
theorem putD_len (d : DS) (k : Pr) (v : Int) : (putD d k v).length ≤ d.length + 1 := by
  unfold putD
  split
  · rw [List.length_map]; omega
  · rw [List.length_append]; exact Nat.le_refl _
theorem stepD_len (d : DS) (o : Po) : (stepD d o).length ≤ d.length + 2 := by
  have h1 := putD_len d o.d ((getD d o.d).getD 0 - o.cents)
  have h2 := putD_len (putD d o.d ((getD d o.d).getD 0 - o.cents)) o.c ((getD (putD d o.d ((getD d o.d).getD 0 - o.cents)) o.c).getD 0 + o.cents)
  exact Nat.le_trans h2 (Nat.succ_le_succ h1)
theorem dget_D {H : Hp} {D b : Addr} {d : DS} {k : Pr} (e : H D = some (.dT (kvD d))) (eb : H b = some (.tup [.str k.1, .str k.2])) : DGet H D (.ref b) ((getD d k).map V.int) := by
  rw [← valV_kvD]
  exact DGet.t (k := kP k) e eb
theorem dput_D {H : Hp} {D b : Addr} {d : DS} {k : Pr} {v : Int} (e : H D = some (.dT (kvD d))) (eb : H b = some (.tup [.str k.1, .str k.2])) (l : d.length < sizeLine) : DPut H D (.ref b) (.int v) (upd H D (.dT (kvD (putD d k v)))) := by
  rw [← putK_kvD]
  exact .inr ⟨_, kP k, b, e, rfl, eb, by unfold kvD; rwa [List.length_map], rfl⟩
theorem getD_map (o : Option Int) : (o.map V.int).getD (.int 0) = .int (o.getD 0) := by cases o <;> rfl
section
variable {P : Program} {w : World} {K : PySem.W.Frag} {mg : Str → Option Value} {base : Heap}
def spSums : Sp := fun vs H Q _ => ∃ (l : Addr) (bs : List (Addr × Po)), vs = [.ref l] ∧ H l = some (.lst (bs.map fun b => V.ref b.1)) ∧ (∀ b ∈ bs, PoAt H b.1 b.2) ∧ bs.length ≤ 60 ∧ ∀ (r : Addr) (H' : Hp), Same H H' → H r = none → H' r = some (.dT (kvD (sumD (bs.map (·.2))))) → Q (.ref r) H'
theorem ok_sums {f : Addr} {fd : FuncData} {k : Nat} (F : Fun K "_law_sums" "_law_sums" sSums f fd) (B : Blt mg) : FnOk P w K mg base CX0 (k + 1) f fd ["postings"] spSums := by
  refine F.ok scSums (fun vs H Q E h => ?_) (fun cdv A outer s H vs Q E hr h => ?_)
  · obtain ⟨l, bs, rfl, _⟩ := h
    rfl
  · obtain ⟨l, bs, rfl, hS, hT, hl, q⟩ := h
    have hu := Nat.lt_of_le_of_lt (Nat.add_le_add_left (show 1 ≤ 64 by decide) _) hr.units
    refine ⟨_, (pss_cons (ps_set (i := 1) scSums.nd rfl (.inl rfl) pe_dnewT)
      (pss_cons (ps_for PassesOwn.never rfl (pi_list (pv 0)) (pg_name (i := 2) scSums.nd rfl (.inl rfl))
        (pss_cons (ps_dput hu (pv 1) (pe_ix ix_tup (pv 2) pe_int (fun _ _ => rfl)) (pe_op op_sub (pe_dget2 hu (pv 1) (pe_ix ix_tup (pv 2) pe_int (fun _ _ => rfl)) pe_int ⟨rfl, by rfl, rfl, rfl⟩) (pe_ix ix_tup (pv 2) pe_int (fun _ _ => rfl))) (by rfl))
        (pss_one (ps_dput hu (pv 1) (pe_ix ix_tup (pv 2) pe_int (fun _ _ => rfl)) (pe_op op_add (pe_dget2 hu (pv 1) (pe_ix ix_tup (pv 2) pe_int (fun _ _ => rfl)) pe_int ⟨rfl, by rfl, rfl, rfl⟩) (pe_ix ix_tup (pv 2) pe_int (fun _ _ => rfl))) (by rfl)))))
      (pss_one (ps_ret (pv 1))))), ?_⟩
    have hz : sizeLine = 16777216 := rfl
    intro D nD
    have S0 := same_upd (o := .dT []) nD
    refine ⟨.ref l, rfl, l, rfl, ⟨_, sqOf (S0 _ _ hS)⟩, ?_⟩
    refine for_list (a := l) (xs := bs.map fun b => V.ref b.1) (fun i σ H1 => ∃ y, σ = [some (.ref l), some (.ref D), y] ∧ Same H H1 ∧ H1 D = some (.dT (kvD (sumD ((bs.take i).map (·.2))))) ∧ (sumD ((bs.take i).map (·.2))).length ≤ 2 * i) ⟨none, rfl, S0, upd_same, Nat.le_refl 0⟩ (fun i σ H1 _ hP => by obtain ⟨y, rfl, S1, _⟩ := hP; exact sqOf (S1 _ _ hS)) (fun i v σ H1 ev hP => ?_) (fun σ H1 hP => ?_)
    · obtain ⟨y, rfl, S1, hD, hn⟩ := hP
      rw [List.getElem?_map] at ev
      obtain ⟨b, eb, rfl⟩ := Option.map_eq_some_iff.mp ev
      obtain ⟨D1, C1, hb, hd, hc⟩ := hT b (List.mem_of_getElem? eb)
      have ts : sumD ((bs.take (i + 1)).map (·.2)) = stepD (sumD ((bs.take i).map (·.2))) b.2 := by
        unfold sumD
        rw [take_at eb, List.map_append, List.foldl_append]; rfl
      have li : i < bs.length := by
        rcases Nat.lt_or_ge i bs.length with h | h
        · exact h
        · rw [List.getElem?_eq_none h] at eb; cases eb
      obtain ⟨d, hdd⟩ : ∃ d, d = sumD ((bs.take i).map (·.2)) := ⟨_, rfl⟩
      rw [← hdd] at hD hn ts
      have sT : SqT K H1 b.1 _ := .of (S1 _ _ hb)
      refine ⟨.ref D, rfl, D, rfl, .inr ⟨_, .of hD⟩, .ref b.1, rfl, b.1, _, 1, .ref D1, rfl, rfl, sT, rfl, _, dget_D hD (S1 _ _ hd), .ref b.1, rfl, b.1, _, 3, .int b.2.cents, rfl, rfl, sT, rfl, _, _, getD_map _, rfl, .ref D, rfl, .ref b.1, rfl, b.1, _, 1, .ref D1, rfl, rfl, sT, rfl, D, _, rfl, dput_D hD (S1 _ _ hd) (by omega), ?_⟩
      have S2 : Same H (L2.upd H1 D (.dT (kvD (putD d b.2.d ((getD d b.2.d).getD 0 - b.2.cents))))) := fun a o e => by
        rw [upd_ne (ne_of_none e nD)]; exact S1 _ _ e
      have sT2 : SqT K (L2.upd H1 D (.dT (kvD (putD d b.2.d ((getD d b.2.d).getD 0 - b.2.cents))))) b.1 _ := .of (S2 _ _ hb)
      have l2 := putD_len d b.2.d ((getD d b.2.d).getD 0 - b.2.cents)
      refine ⟨.ref D, rfl, D, rfl, .inr ⟨_, .of upd_same⟩, .ref b.1, rfl, b.1, _, 2, .ref C1, rfl, rfl, sT2, rfl, _, dget_D upd_same (S2 _ _ hc), .ref b.1, rfl, b.1, _, 3, .int b.2.cents, rfl, rfl, sT2, rfl, _, _, getD_map _, rfl, .ref D, rfl, .ref b.1, rfl, b.1, _, 2, .ref C1, rfl, rfl, sT2, rfl, D, _, rfl, dput_D upd_same (S2 _ _ hc) (by omega), ?_⟩
      refine ⟨_, rfl, fun a o e => ?_, ?_, ?_⟩
      · rw [upd_ne (ne_of_none e nD)]; exact S2 _ _ e
      · rw [upd_same, ts]; rfl
      · rw [ts]
        have := stepD_len d b.2
        omega
    · obtain ⟨y, rfl, S1, hD, hn⟩ := hP
      rw [List.length_map, List.take_length] at hD
      exact ⟨.ref D, rfl, q D H1 S1 nD hD⟩
end
end Tb
namespace Tb
open PySem PySem.Spec PyProof.Rows L2
abbrev sHouseP : Stmt := topS 28
abbrev NHouseP : List Str := ["postings", "one"]
theorem scHouseP : FnScope NHouseP ["postings"] (defScope sHouseP) := ⟨rfl, rfl, rfl, by decide +kernel, rfl, by decide +kernel, by decide +kernel⟩
/-- both accounts are houses -/
def housy (b : Addr × Po) : Bool := decide (b.2.d.1 = Str.ofString "house") && decide (b.2.c.1 = Str.ofString "house")
section
variable {P : Program} {w : World} {K : PySem.W.Frag} {mg : Str → Option Value} {base : Heap}
def spHouseP : Sp := fun vs H Q _ => ∃ (l : Addr) (bs : List (Addr × Po)), vs = [.ref l] ∧ H l = some (.lst (bs.map fun b => V.ref b.1)) ∧ (∀ b ∈ bs, PoAt H b.1 b.2) ∧ bs.length ≤ 60 ∧ ∀ (r : Addr) (H' : Hp), Same H H' → H r = none → H' r = some (.lst ((bs.filter housy).map fun b => V.ref b.1)) → Q (.ref r) H'
theorem ok_housep {f : Addr} {fd : FuncData} {k : Nat} (F : Fun K "_law_house_part" "_law_house_part" sHouseP f fd) : FnOk P w K mg base CX0 (k + 1) f fd ["postings"] spHouseP := by
  refine F.ok scHouseP (fun vs H Q E h => ?_) (fun cdv A outer s H vs Q E hr h => ?_)
  · obtain ⟨l, bs, rfl, _⟩ := h
    rfl
  · obtain ⟨l, bs, rfl, hS, hT, hl, q⟩ := h
    refine ⟨_, (pss_one (ps_ret (pe_lc (own := [("one", 1)]) (g := gName 1) (by rfl) scHouseP.nd (pi_list (pv 0)) (blkOk_by (N := NHouseP) (sc := defScope sHouseP) (by decide +kernel)) (fun _ _ _ _ _ => pg_name (i := 1) scHouseP.nd rfl (Or.inl rfl)) (fun _ _ _ _ _ => pts_one (PW.pt (pw_and (pt_cmpR op_eq (pe_ix (r := rIxT K) ix_tup (pe_ix (r := rIxT K) ix_tup (pv 1) pe_int (fun _ _ => rfl)) pe_int (fun _ _ => rfl)) pe_str (nomark _)) (pw_and1 (pt_cmpR op_eq (pe_ix (r := rIxT K) ix_tup (pe_ix (r := rIxT K) ix_tup (pv 1) pe_int (fun _ _ => rfl)) pe_int (fun _ _ => rfl)) pe_str (nomark _)))))) (fun _ _ _ _ _ => pv 1)))), ?_⟩
    have hz : sizeLine = 16777216 := rfl
    refine ⟨.ref l, rfl, l, rfl, ⟨_, sqOf hS⟩, fun D nD => ?_⟩
    refine lc_it (walk_list (a := l) (xs := bs.map fun b => V.ref b.1)) (fun i H1 => Same H H1 ∧ H1 D = some (.lst (((bs.take i).filter housy).map fun b => V.ref b.1))) ⟨same_upd nD, upd_same⟩ (fun i H1 _ hP => sqOf (hP.1 _ _ hS)) (fun i v H1 H2 hi hP hy => ?_) (fun H1 hP => ?_)
    · obtain ⟨S1, hD⟩ := hP
      obtain ⟨rfl, ev⟩ := hy
      rw [List.getElem?_map] at ev
      obtain ⟨b, eb, rfl⟩ := Option.map_eq_some_iff.mp ev
      obtain ⟨D1, C1, hb, hd, hc⟩ := hT b (List.mem_of_getElem? eb)
      have ts := take_at eb
      have sT : SqT K H2 b.1 _ := .of (S1 _ _ hb)
      have sD : SqT K H2 D1 _ := .of (S1 _ _ hd)
      have sC : SqT K H2 C1 _ := .of (S1 _ _ hc)
      have stay : housy b = false → Same H H2 ∧ H2 D = some (.lst (((bs.take (i + 1)).filter housy).map fun b => V.ref b.1)) := fun e => ⟨S1, by rw [ts, List.filter_append, List.filter_cons_of_neg (by rw [e]; decide), List.filter_nil, List.append_nil]; exact hD⟩
      refine ⟨rfl, .ref b.1, rfl, b.1, _, 1, .ref D1, rfl, rfl, sT, rfl, D1, _, 0, .str b.2.d.1, rfl, rfl, sD, rfl, rfl, _, rfl, ite2 (fun e1 => ?_) (fun e1 => ?_)⟩
      · refine ⟨.ref b.1, rfl, b.1, _, 2, .ref C1, rfl, rfl, sT, rfl, C1, _, 0, .str b.2.c.1, rfl, rfl, sC, rfl, rfl, _, rfl, ite2 (fun e2 => ?_) (fun e2 => ?_)⟩
        · have e1 := V.str.inj (of_decide_eq_true e1)
          have e2 := V.str.inj (of_decide_eq_true e2)
          have hit : housy b = true := by
            unfold housy
            rw [e1, e2, decide_eq_true rfl]; rfl
          refine ⟨.ref b.1, rfl, _, hD, ?_, fun c o hc => ?_, ?_⟩
          · rw [List.length_map]
            have := List.length_filter_le housy (bs.take i)
            rw [List.length_take] at this
            omega
          · rw [upd_ne (ne_of_none hc nD)]; exact S1 _ _ hc
          · rw [upd_same, ts, List.filter_append, List.filter_cons_of_pos hit, List.filter_nil, List.map_append]; rfl
        · refine stay ?_
          unfold housy
          rw [decide_eq_false (fun z => e2 (decide_eq_true (congrArg V.str z))), Bool.and_false]
      · refine stay ?_
        unfold housy
        rw [decide_eq_false (fun z => e1 (decide_eq_true (congrArg V.str z))), Bool.false_and]
    · obtain ⟨S1, hD⟩ := hP
      rw [List.length_map, List.take_length] at hD
      exact q D H1 S1 nD hD
end
end Tb
namespace Tb
open PySem PySem.Spec PyProof.Rows L2
abbrev sSameN : Stmt := topS 26
abbrev NSameN : List Str := ["actual", "due", "one"]
theorem scSameN : FnScope NSameN ["actual", "due"] (defScope sSameN) := ⟨rfl, rfl, rfl, by decide +kernel, rfl, by decide +kernel, by decide +kernel⟩
/-! a dict of names and numbers -/
abbrev DN := List (Str × Int)
def kvN (d : DN) : List (Key × V) := d.map fun e => (Sum.inr e.1, V.int e.2)
def getN (d : DN) (k : Str) : Option Int := (d.find? fun e => decide (e.1 = k)).map (·.2)
theorem valV_kvN (k : Str) : ∀ d : DN, valV (kvN d) (Sum.inr k) = (getN d k).map V.int
  | [] => rfl
  | e :: r => by
    have ih := valV_kvN k r
    show valV ((Sum.inr e.1, V.int e.2) :: kvN r) (Sum.inr k) = _
    unfold getN
    by_cases h : e.1 = k
    · rw [valV_pos (by rw [h]), List.find?_cons_of_pos (by simpa using h)]; rfl
    · rw [valV_neg (fun z => h (Sum.inr.inj z)), ih, List.find?_cons_of_neg (by simpa using h)]; rfl
theorem kvD_len (d : DS) : (kvD d).length = d.length := List.length_map _
theorem kvN_len (d : DN) : (kvN d).length = d.length := List.length_map _
theorem kvD_at (d : DS) (i : Nat) : (kvD d)[i]? = d[i]?.map fun e => (kP e.1, V.int e.2) := List.getElem?_map
theorem kvN_at (d : DN) (i : Nat) : (kvN d)[i]? = d[i]?.map fun e => (Sum.inr e.1, V.int e.2) := List.getElem?_map
/-- an int stands at the key -/
theorem dg_T {H : Hp} {D b : Addr} {d : DS} {k : Pr} {v : Int} (e : Rd H D (.dT (kvD d))) (eb : H b = some (.tup ((kP k).map kV))) (g : getD d k = some v) : DGet H D (.ref b) (some (.int v)) := by
  refine .inr ⟨_, kP k, b, e, rfl, eb, ?_⟩
  rw [valV_kvD, g]; rfl
theorem dg_K {H : Hp} {D : Addr} {d : DN} {k : Str} {v : Int} (e : Rd H D (.dK (kvN d))) (g : getN d k = some v) : DGet H D (.str k) (some (.int v)) := by
  refine .inl ⟨_, Sum.inr k, e, rfl, ?_⟩
  rw [valV_kvN, g]; rfl
def rLenA : List V → Hp → VK → Prop := fun xs H Q => ∃ a, xs = [V.ref a] ∧ ((∃ kvs : List (Key × V), H a = some (.dK kvs) ∧ Q (.int kvs.length) H) ∨ ∃ kvs : List (List Key × V), H a = some (.dT kvs) ∧ Q (.int kvs.length) H)
theorem call_lenA {X : Cx} : CallR X (.builtin "len") rLenA := by
  intro pins s σ H xs us Q I r h
  obtain ⟨a, e, h⟩ := h
  rcases h with ⟨kvs, ha, q⟩ | ⟨kvs, ha, q⟩
  · exact call_lenD pins s σ H xs us Q I r ⟨a, kvs, e, ha, q⟩
  · exact call_len_dT pins s σ H xs us Q I r ⟨a, kvs, e, ha, q⟩
section
variable {P : Program} {w : World} {K : PySem.W.Frag} {mg : Str → Option Value} {base : Heap}
abbrev CIsInt (P : Program) (w : World) (K : PySem.W.Frag) (mg : Str → Option Value) (base : Heap) (g : Addr) (gd : FuncData) := C1 P w K mg base "_law_is_integer" sIsInt ["actual"] 1 spIsInt g gd
def SameT (H : Hp) (a d : Addr) : Prop := ∃ x y : DS, H a = some (.dT (kvD x)) ∧ H d = some (.dT (kvD y)) ∧ x.length = y.length ∧ ∀ e ∈ y, getD x e.1 = some e.2 ∧ getD y e.1 = some e.2
def SameK (H : Hp) (a d : Addr) : Prop := ∃ x y : DN, H a = some (.dK (kvN x)) ∧ H d = some (.dK (kvN y)) ∧ x.length = y.length ∧ ∀ e ∈ y, getN x e.1 = some e.2 ∧ getN y e.1 = some e.2
def spSameN : Sp := fun vs H Q _ => ∃ a d : Addr, vs = [.ref a, .ref d] ∧ a ≠ d ∧ (SameT H a d ∨ SameK H a d) ∧ ∀ H', Same H H' → Q (.bl true) H'
theorem ok_samen {f g : Addr} {fd gd : FuncData} (F : Fun K "_law_same_numbers" "_law_same_numbers" sSameN f fd) (cIsInt : CIsInt P w K mg base g gd) (B : Blt mg) : FnOk P w K mg base CX0 2 f fd ["actual", "due"] spSameN := by
  refine F.ok scSameN (fun vs H Q E h => ?_) (fun cdv A outer s H vs Q E hr h => ?_)
  · obtain ⟨a, d, rfl, _⟩ := h
    rfl
  · obtain ⟨a, d, rfl, ad, h, q⟩ := h
    have hu := hu_of hr
    refine ⟨_, (pss_cons (ps_if (PW.pt (pw_or (pt_not (pt_val (pe_callB call_isi (by rfl) B.isi (by decide +kernel) (pa_cons (pv 0) (pa_cons (pe_bltn (by rfl) B.dict (by decide +kernel) (v := .ty "dict") (u := .type "dict") rfl) pa_nil))))) (pw_or1 (pt_cmpR op_ne (pe_callB call_lenA (by rfl) B.len PySem.boot_len (pa_cons (pv 0) pa_nil)) (pe_callB call_lenA (by rfl) B.len PySem.boot_len (pa_cons (pv 1) pa_nil)) (nomark _)))))
        (pss_one (ps_ret pe_bl))
        pss_nil)
      (pss_cons (ps_lock (ps_for PassesOwn.never rfl (pi_keys (pv 1)) (pg_name (i := 2) scSameN.nd rfl (.inl rfl))
        (pss_one (ps_if (PW.pt (pw_or (pt_cmp (pc_dnotin hu (pv 2) (pv 0))) (pw_or (pt_not (pt_val (pe_call cIsInt.G (hr.mono (by first | decide | omega)) (by rfl) cIsInt.D.g cIsInt.D.F.kp cIsInt.D.b .nil pass0 (pa_cons (pe_dget hu (pv 0) (pv 2) (fun _ _ => rfl)) pa_nil)))) (pw_or1 (pt_cmpR op_ne (pe_dget hu (pv 0) (pv 2) (fun _ _ => rfl)) (pe_dget hu (pv 1) (pv 2) (fun _ _ => rfl)) (nomark _))))))
          (pss_one (ps_ret pe_bl))
          pss_nil))))
      (pss_one (ps_ret pe_bl)))), ?_⟩
    rcases h with h | h
    · obtain ⟨x, y, hx, hy, le, g⟩ := h
      refine ⟨.ref a, rfl, .ref a, .ty "dict", _, .type "dict", true, rfl, .ty _, .base (.dT hx), kit_ty (by decide +kernel), true, rfl, ?_⟩
      refine ⟨.ref a, rfl, a, rfl, .inr ⟨_, hx, .ref d, rfl, d, rfl, .inr ⟨_, hy, rfl, _, rfl, ite2 (fun e => ?_) (fun _ => ?_)⟩⟩⟩
      · rw [kvD_len, kvD_len, le, decide_eq_true rfl] at e
        exact absurd e (by decide)
      refine ⟨d, _, hy, trivial, fun od => ?_⟩
      refine ⟨.ref d, rfl, d, od, rfl, .inr ⟨kvD y, upd_same, ?_⟩⟩
      refine for_it (walk_keysT (d := d) (o := od) (kvs := kvD y)) (fun i σ H' => H' = L2.upd H d (.frz od (.dT (kvD y))) ∧ ∃ y3, σ = [some (.ref a), some (.ref d), y3]) ⟨rfl, none, rfl⟩ (fun i σ H' _ hP => by rw [hP.1]; exact upd_same) (fun i v σ H5 H6 hi hP yy => ?_) (fun σ H5 hP => ?_)
      · obtain ⟨rfl, y3, rfl⟩ := hP
        obtain ⟨rfl, k, v, b, ek, rfl, hb⟩ := yy
        rw [kvD_at] at ek
        obtain ⟨e, ee, e2⟩ := Option.map_eq_some_iff.mp ek
        cases e2
        obtain ⟨g1, g2⟩ := g e (List.mem_of_getElem? ee)
        have hx' : Rd (L2.upd H d (.frz od (.dT (kvD y)))) a (.dT (kvD x)) := .of (by rw [upd_ne ad]; exact hx)
        have hy' : Rd (L2.upd H d (.frz od (.dT (kvD y)))) d (.dT (kvD y)) := .inr ⟨od, upd_same⟩
        refine ⟨.ref b, rfl, .ref a, rfl, a, _, rfl, dg_T hx' hb g1, false, rfl, ?_⟩
        refine ⟨.ref a, rfl, .ref b, rfl, a, _, rfl, dg_T hx' hb g1, _, rfl, true, rfl, ?_⟩
        refine ⟨.ref a, rfl, .ref b, rfl, a, _, rfl, dg_T hx' hb g1, .ref d, rfl, .ref b, rfl, d, _, rfl, dg_T hy' hb g2, rfl, _, rfl, ite2 (fun e => ?_) (fun _ => ?_)⟩
        · rw [decide_eq_true rfl] at e
          exact absurd e (by decide)
        · exact ⟨rfl, _, rfl⟩
      · obtain ⟨rfl, y3, rfl⟩ := hP
        refine ⟨upd_same, q _ fun b o e => ?_⟩
        by_cases z : b = d
        · rw [z, upd_same, ← hy, ← z]; exact e
        · rw [upd_ne z, upd_ne z]; exact e
    · obtain ⟨x, y, hx, hy, le, g⟩ := h
      refine ⟨.ref a, rfl, .ref a, .ty "dict", _, .type "dict", true, rfl, .ty _, .base (.dK hx), kit_ty (by decide +kernel), true, rfl, ?_⟩
      refine ⟨.ref a, rfl, a, rfl, .inl ⟨_, hx, .ref d, rfl, d, rfl, .inl ⟨_, hy, rfl, _, rfl, ite2 (fun e => ?_) (fun _ => ?_)⟩⟩⟩
      · rw [kvN_len, kvN_len, le, decide_eq_true rfl] at e
        exact absurd e (by decide)
      refine ⟨d, _, hy, trivial, fun od => ?_⟩
      refine ⟨.ref d, rfl, d, od, rfl, .inl ⟨kvN y, upd_same, ?_⟩⟩
      refine for_it (walk_keys (d := d) (o := od) (kvs := kvN y)) (fun i σ H' => H' = L2.upd H d (.frz od (.dK (kvN y))) ∧ ∃ y3, σ = [some (.ref a), some (.ref d), y3]) ⟨rfl, none, rfl⟩ (fun i σ H' _ hP => by rw [hP.1]; exact upd_same) (fun i v σ H5 H6 hi hP yy => ?_) (fun σ H5 hP => ?_)
      · obtain ⟨rfl, y3, rfl⟩ := hP
        obtain ⟨rfl, k, v, ek, rfl⟩ := yy
        rw [kvN_at] at ek
        obtain ⟨e, ee, e2⟩ := Option.map_eq_some_iff.mp ek
        cases e2
        obtain ⟨g1, g2⟩ := g e (List.mem_of_getElem? ee)
        have hx' : Rd (L2.upd H d (.frz od (.dK (kvN y)))) a (.dK (kvN x)) := .of (by rw [upd_ne ad]; exact hx)
        have hy' : Rd (L2.upd H d (.frz od (.dK (kvN y)))) d (.dK (kvN y)) := .inr ⟨od, upd_same⟩
        refine ⟨.str e.1, rfl, .ref a, rfl, a, _, rfl, dg_K hx' g1, false, rfl, ?_⟩
        refine ⟨.ref a, rfl, .str e.1, rfl, a, _, rfl, dg_K hx' g1, _, rfl, true, rfl, ?_⟩
        refine ⟨.ref a, rfl, .str e.1, rfl, a, _, rfl, dg_K hx' g1, .ref d, rfl, .str e.1, rfl, d, _, rfl, dg_K hy' g2, rfl, _, rfl, ite2 (fun e => ?_) (fun _ => ?_)⟩
        · rw [decide_eq_true rfl] at e
          exact absurd e (by decide)
        · exact ⟨rfl, _, rfl⟩
      · obtain ⟨rfl, y3, rfl⟩ := hP
        refine ⟨upd_same, q _ fun b o e => ?_⟩
        by_cases z : b = d
        · rw [z, upd_same, ← hy, ← z]; exact e
        · rw [upd_ne z, upd_ne z]; exact e
end
end Tb
namespace Tb
open PySem PySem.Spec PyProof.Rows L2
open PySem.W (EachIs AllAlike Sortable dataLe)
/-! facts of dicts of accounts and sums -/
theorem getD_cons (e : Pr × Int) (d : DS) (k : Pr) : getD (e :: d) k = if e.1 = k then some e.2 else getD d k := by
  unfold getD
  by_cases h : e.1 = k
  · rw [if_pos h, List.find?_cons_of_pos (by simpa using h)]; rfl
  · rw [if_neg h, List.find?_cons_of_neg (by simpa using h)]
theorem getD_none {k : Pr} : ∀ {d : DS}, k ∉ d.map (·.1) → getD d k = none
  | [], _ => rfl
  | e :: d, h => by
    rw [getD_cons, if_neg (fun z => h (List.mem_cons.mpr (.inl z.symm))), getD_none (fun z => h (List.mem_cons_of_mem _ z))]
theorem getD_mem : ∀ {d : DS}, (d.map (·.1)).Nodup → ∀ {e : Pr × Int}, e ∈ d → getD d e.1 = some e.2
  | [], _, _, h => by cases h
  | f :: d, nd, e, h => by
    obtain ⟨n1, n2⟩ := List.nodup_cons.mp nd
    rw [getD_cons]
    rcases List.mem_cons.mp h with rfl | h
    · rw [if_pos rfl]
    · rw [if_neg (fun z => n1 (List.mem_map.mpr ⟨e, h, z.symm⟩)), getD_mem n2 h]
theorem mapInt_inj {a b : Option Int} (h : a.map V.int = b.map V.int) : a = b := by
  cases a <;> cases b <;> first | rfl | cases h
  rfl
theorem getD_put (d : DS) (k j : Pr) (v : Int) : getD (putD d k v) j = if j = k then some v else getD d j := by
  apply mapInt_inj
  rw [← valV_kvD, ← putK_kvD, valV_put]
  by_cases h : j = k
  · rw [if_pos (by rw [h]), if_pos h]; rfl
  · rw [if_neg (fun z => h (kP_inj z)), if_neg h, valV_kvD]
theorem any_key {d : DS} {k : Pr} : (d.any fun e => decide (e.1 = k)) = true ↔ k ∈ d.map (·.1) := by
  rw [List.any_eq_true, List.mem_map]
  exact ⟨fun ⟨e, h, c⟩ => ⟨e, h, of_decide_eq_true c⟩, fun ⟨e, h, c⟩ => ⟨e, h, decide_eq_true c⟩⟩
theorem putD_keys (d : DS) (k : Pr) (v : Int) : (putD d k v).map (·.1) = if k ∈ d.map (·.1) then d.map (·.1) else d.map (·.1) ++ [k] := by
  unfold putD
  by_cases h : k ∈ d.map (·.1)
  · rw [if_pos (any_key.mpr h), if_pos h, List.map_map]
    refine List.map_congr_left fun e _ => ?_
    show (if e.1 = k then (e.1, v) else e).1 = e.1
    split <;> rfl
  · rw [if_neg (fun z => h (any_key.mp z)), if_neg h, List.map_append]; rfl
theorem putD_nd {d : DS} (nd : (d.map (·.1)).Nodup) (k : Pr) (v : Int) : ((putD d k v).map (·.1)).Nodup := by
  rw [putD_keys]
  by_cases h : k ∈ d.map (·.1)
  · rw [if_pos h]; exact nd
  · rw [if_neg h]; exact nd_snoc nd h
def totD (d : DS) : Int := (d.map (·.2)).sum
theorem tot_cons (e : Pr × Int) (d : DS) : totD (e :: d) = e.2 + totD d := rfl
theorem tot_map {k : Pr} {c : Int} : ∀ {d : DS}, (d.map (·.1)).Nodup → k ∈ d.map (·.1) → totD (d.map fun e => if e.1 = k then (e.1, c) else e) = totD d - (getD d k).getD 0 + c
  | [], _, h => by cases h
  | f :: d, nd, h => by
    obtain ⟨n1, n2⟩ := List.nodup_cons.mp nd
    rw [List.map_cons, tot_cons, tot_cons, getD_cons]
    by_cases z : f.1 = k
    · rw [if_pos z, if_pos z]
      have e : (d.map fun e => if e.1 = k then (e.1, c) else e) = d := by
        have h2 : ∀ x ∈ d, (if x.1 = k then (x.1, c) else x) = id x := fun x hx => if_neg fun y => n1 (List.mem_map.mpr ⟨x, hx, y.trans z.symm⟩)
        rw [List.map_congr_left h2, List.map_id]
      rw [e]
      show c + totD d = f.2 + totD d - f.2 + c
      omega
    · rw [if_neg z, if_neg z, tot_map n2 ((List.mem_cons.mp h).resolve_left fun y => z y.symm)]
      omega
theorem tot_put {d : DS} (nd : (d.map (·.1)).Nodup) (k : Pr) (v : Int) : totD (putD d k ((getD d k).getD 0 + v)) = totD d + v := by
  unfold putD
  by_cases h : k ∈ d.map (·.1)
  · rw [if_pos (any_key.mpr h), tot_map nd h]
    omega
  · rw [if_neg (fun z => h (any_key.mp z)), getD_none h]
    unfold totD
    rw [List.map_append, List.sum_append]
    simp
theorem stepD_nd {d : DS} (nd : (d.map (·.1)).Nodup) (o : Po) : ((stepD d o).map (·.1)).Nodup := putD_nd (putD_nd nd _ _) _ _
theorem stepD_tot {d : DS} (nd : (d.map (·.1)).Nodup) (o : Po) : totD (stepD d o) = totD d := by
  unfold stepD
  rw [tot_put (putD_nd nd _ _), Int.sub_eq_add_neg, tot_put nd]
  omega
theorem sumD_nd : ∀ (ps : List Po) (d : DS), (d.map (·.1)).Nodup → ((ps.foldl stepD d).map (·.1)).Nodup
  | [], _, h => h
  | o :: ps, d, h => sumD_nd ps _ (stepD_nd h o)
theorem sumD_tot : ∀ (ps : List Po) (d : DS), (d.map (·.1)).Nodup → totD (ps.foldl stepD d) = totD d
  | [], _, _ => rfl
  | o :: ps, d, h => (sumD_tot ps _ (stepD_nd h o)).trans (stepD_tot h o)
theorem sums_nd (ps : List Po) : ((sumD ps).map (·.1)).Nodup := sumD_nd ps [] List.nodup_nil
theorem sums_tot (ps : List Po) : totD (sumD ps) = 0 := sumD_tot ps [] List.nodup_nil
theorem sums_len : ∀ (ps : List Po) (d : DS), (ps.foldl stepD d).length ≤ d.length + 2 * ps.length
  | [], _ => Nat.le_refl _
  | o :: ps, d => by
    have h1 := sums_len ps (stepD d o)
    have h2 := stepD_len d o
    rw [List.length_cons]
    exact Nat.le_trans h1 (by omega)
theorem sumD_len (ps : List Po) : (sumD ps).length ≤ 2 * ps.length := Nat.le_trans (sums_len ps []) (by show 0 + _ ≤ _; omega)
/-- what an account has -/
def balD (ps : List Po) (k : Pr) : Int := (getD (sumD ps) k).getD 0
theorem bal_step (d : DS) (o : Po) (k : Pr) (h : o.d ≠ o.c) : (getD (stepD d o) k).getD 0 = (getD d k).getD 0 + (if o.c = k then o.cents else 0) - (if o.d = k then o.cents else 0) := by
  show (getD (putD (putD d o.d ((getD d o.d).getD 0 - o.cents)) o.c ((getD (putD d o.d ((getD d o.d).getD 0 - o.cents)) o.c).getD 0 + o.cents)) k).getD 0 = _
  rw [getD_put]
  by_cases h1 : k = o.c
  · subst h1
    rw [if_pos rfl, if_pos rfl, if_neg h, getD_put, if_neg (fun z => h z.symm)]
    show _ + _ = _
    omega
  · rw [if_neg h1, if_neg (fun z : o.c = k => h1 z.symm), getD_put]
    by_cases h2 : k = o.d
    · subst h2
      rw [if_pos rfl, if_pos rfl]
      show _ - _ = _
      omega
    · rw [if_neg h2, if_neg (fun z : o.d = k => h2 z.symm)]
      omega
def owedTo (ps : List Po) (k : Pr) : Int := ((ps.filter fun o => decide (o.c = k)).map Po.cents).sum
def owedBy (ps : List Po) (k : Pr) : Int := ((ps.filter fun o => decide (o.d = k)).map Po.cents).sum
theorem bal_fold (k : Pr) : ∀ (ps : List Po) (d : DS), (∀ o ∈ ps, o.d ≠ o.c) → (getD (ps.foldl stepD d) k).getD 0 = (getD d k).getD 0 + owedTo ps k - owedBy ps k
  | [], d, _ => by
    show _ = _ + 0 - 0
    rw [List.foldl_nil]; omega
  | o :: ps, d, h => by
    rw [List.foldl_cons, bal_fold k ps _ fun x hx => h x (List.mem_cons_of_mem _ hx), bal_step d o k (h o List.mem_cons_self)]
    unfold owedTo owedBy
    by_cases h1 : o.c = k
    · rw [if_pos h1, List.filter_cons_of_pos (by simpa using h1), List.map_cons, List.sum_cons, if_neg (fun z => h o List.mem_cons_self (z.trans h1.symm)), List.filter_cons_of_neg (by simpa using fun z => h o List.mem_cons_self (z.trans h1.symm))]
      omega
    · rw [if_neg h1, List.filter_cons_of_neg (by simpa using h1)]
      by_cases h2 : o.d = k
      · rw [if_pos h2, List.filter_cons_of_pos (by simpa using h2), List.map_cons, List.sum_cons]; omega
      · rw [if_neg h2, List.filter_cons_of_neg (by simpa using h2)]; omega
theorem balD_eq {ps : List Po} (h : ∀ o ∈ ps, o.d ≠ o.c) (k : Pr) : balD ps k = owedTo ps k - owedBy ps k := by
  unfold balD sumD
  rw [bal_fold k ps [] h]
  show (0 : Int) + _ - _ = _
  omega
/-! in the order of the accounts -/
def ksD (d : DS) : List Pr := (d.map (·.1)).mergeSort le2
def srtD (d : DS) : DS := (ksD d).map fun k => (k, (getD d k).getD 0)
theorem srt_keys (d : DS) : (srtD d).map (·.1) = ksD d := by
  unfold srtD
  rw [List.map_map]
  exact (List.map_congr_left fun _ _ => rfl).trans (List.map_id _)
theorem ks_perm (d : DS) : (ksD d).Perm (d.map (·.1)) := List.mergeSort_perm _ _
theorem ks_nd {d : DS} (h : (d.map (·.1)).Nodup) : (ksD d).Nodup := (ks_perm d).nodup_iff.mpr h
theorem srt_len (d : DS) : (srtD d).length = d.length := by
  unfold srtD
  rw [List.length_map, (ks_perm d).length_eq, List.length_map]
theorem srt_get {d : DS} (nd : (d.map (·.1)).Nodup) {e : Pr × Int} (h : e ∈ d) : getD (srtD d) e.1 = some e.2 := by
  have mk : e.1 ∈ ksD d := (ks_perm d).mem_iff.mpr (List.mem_map.mpr ⟨e, h, rfl⟩)
  have : (e.1, (getD d e.1).getD 0) ∈ srtD d := List.mem_map.mpr ⟨e.1, mk, rfl⟩
  have := getD_mem (by rw [srt_keys]; exact ks_nd nd) this
  rw [this, getD_mem nd h]; rfl
theorem sort_kP (ps : List Pr) : (ps.map kP).mergeSort (dataLe false encT) = (ps.mergeSort le2).map kP := by
  rw [List.map_mergeSort]
  intro a _ b _
  rfl
theorem kvD_keys (d : DS) : (kvD d).map Prod.fst = (d.map (·.1)).map kP := by
  unfold kvD
  rw [List.map_map, List.map_map]; rfl
theorem kvD_enc (d : DS) : (kvD d).map (fun kv => encT kv.1) = (d.map (·.1)).map enc2 := by
  unfold kvD
  rw [List.map_map, List.map_map]; rfl
/-- a comprehension's walk -/
theorem in_it {J : It} {n : Nat} {G : Hp → Prop} {Y : Nat → Hp → V → Hp → Prop} (w : Walk J n G Y) {H4 : Hp} {Z : Hp → Prop} {S : Nat → V → Hp → Hp → (Hp → Prop) → Prop} (Pv : Nat → Hp → Prop) (h0 : Pv 0 H4) (hG : ∀ i H, i ≤ n → Pv i H → G H)
    (hs : ∀ j x H H', j < n → Pv j H → Y j H x H' → S j x H H' (Pv (j + 1))) (hd : ∀ H, Pv n H → Z H) :
    ∃ W1 : Nat → Nat → Hp → Prop, (∃ m, W1 0 m H4) ∧ ∀ j k H, W1 j k H → (J.stop j H ∧ Z H) ∨ (J.go j H ∧ ∃ Nx : Hp → Prop, (∀ H', Nx H' → ∃ k', k' < k ∧ W1 (j + 1) k' H') ∧ ∀ x H', J.yld j H x H' → S j x H H' Nx) := by
  refine ⟨fun i m H => m = n - i ∧ i ≤ n ∧ Pv i H, ⟨n, by simp, Nat.zero_le _, h0⟩, ?_⟩
  rintro i m H ⟨rfl, hi, p⟩
  have q := hG i H hi p
  by_cases hlt : i < n
  · exact .inr ⟨w.goes i H hlt q, Pv (i + 1), fun H' p' => ⟨n - (i + 1), by omega, rfl, hlt, p'⟩, fun x H' y => hs i x H H' hlt p (w.yields i H x H' hlt q y)⟩
  · have e : i = n := by omega
    subst e
    exact .inl ⟨w.stops H q, hd H p⟩
/-- the entries one by one, in the order of the accounts -/
theorem putD_new {d : DS} {k : Pr} {v : Int} (h : k ∉ d.map (·.1)) : putD d k v = d ++ [(k, v)] := by
  unfold putD
  rw [if_neg (fun z => h (any_key.mp z))]
theorem srt_put {d : DS} (nd : (d.map (·.1)).Nodup) {i : Nat} {k : Pr} (h : (ksD d)[i]? = some k) : putD ((srtD d).take i) k ((getD d k).getD 0) = (srtD d).take (i + 1) := by
  have e1 : (srtD d)[i]? = some (k, (getD d k).getD 0) := by
    unfold srtD
    rw [List.getElem?_map, h]; rfl
  rw [take_at e1, putD_new]
  intro z
  rw [List.map_take, srt_keys] at z
  obtain ⟨j, hj⟩ := List.mem_iff_getElem?.mp z
  have lj : j < i := by
    rcases Nat.lt_or_ge j i with c | c
    · exact c
    · rw [List.getElem?_eq_none (by rw [List.length_take]; omega)] at hj; cases hj
  rw [List.getElem?_take_of_lt lj] at hj
  have := (List.getElem?_inj (by rcases Nat.lt_or_ge j (ksD d).length with c | c; exact c; rw [List.getElem?_eq_none c] at hj; cases hj) (ks_nd nd)).mp (hj.trans h.symm)
  omega
end Tb
namespace Tb
open PySem PySem.Spec PyProof.Rows L2
open PySem.W (EachIs AllAlike Sortable dataLe)
abbrev sBals : Stmt := topS 15
abbrev NBals : List Str := ["postings", "found", "_", "debtor", "creditor", "cents", "account"]
theorem scBals : FnScope NBals ["postings"] (defScope sBals) := ⟨rfl, rfl, rfl, by decide +kernel, rfl, by decide +kernel, by decide +kernel⟩
section
variable {P : Program} {w : World} {K : PySem.W.Frag} {mg : Str → Option Value} {base : Heap}
def spBals : Sp := fun vs H Q _ => ∃ (l : Addr) (bs : List (Addr × Po)), vs = [.ref l] ∧ H l = some (.lst (bs.map fun b => V.ref b.1)) ∧ (∀ b ∈ bs, PoAt H b.1 b.2) ∧ bs.length ≤ 60 ∧ ∀ (r : Addr) (H' : Hp), Same H H' → H r = none → H' r = some (.dT (kvD (srtD (sumD (bs.map (·.2)))))) → Q (.ref r) H'
theorem ok_bals {f : Addr} {fd : FuncData} {k : Nat} (F : Fun K "balances" "balances" sBals f fd) (B : Blt mg) : FnOk P w K mg base CX0 (k + 1) f fd ["postings"] spBals := by
  refine F.ok scBals (fun vs H Q E h => ?_) (fun cdv A outer s H vs Q E hr h => ?_)
  · obtain ⟨l, bs, rfl, _⟩ := h
    rfl
  · obtain ⟨l, bs, rfl, hS, hT, hl, q⟩ := h
    have hu := Nat.lt_of_le_of_lt (Nat.add_le_add_left (show 1 ≤ 64 by decide) _) hr.units
    refine ⟨_, (pss_cons (ps_set (i := 1) scBals.nd rfl (.inr rfl) pe_dnewT)
      (pss_cons (ps_for PassesOwn.never rfl (pi_list (pv 0)) (pg_tup (by rfl) (pgs_cons (pg_name (i := 2) scBals.nd rfl (.inl rfl)) (pgs_cons (pg_name (i := 3) scBals.nd rfl (.inl rfl)) (pgs_cons (pg_name (i := 4) scBals.nd rfl (.inl rfl)) (pgs_cons (pg_name (i := 5) scBals.nd rfl (.inl rfl)) (pgs_cons (pg_name (i := 2) scBals.nd rfl (.inl rfl)) (pgs_cons (pg_name (i := 2) scBals.nd rfl (.inl rfl)) pgs_nil)))))))
        (pss_cons (ps_dput hu (pv 1) (pv 3) (pe_op op_sub (pe_dget2 hu (pv 1) (pv 3) pe_int ⟨rfl, by rfl, rfl, rfl⟩) (pv 5)) (by rfl))
        (pss_one (ps_dput hu (pv 1) (pv 4) (pe_op op_add (pe_dget2 hu (pv 1) (pv 4) pe_int ⟨rfl, by rfl, rfl, rfl⟩) (pv 5)) (by rfl)))))
      (pss_one (ps_ret (pe_dcT (own := [("account", 6)]) (g := gName 6) (by rfl) hu scBals.nd (pi_list (pe_callB (cr_sortedDT rfl hr.units) (by rfl) B.sorted PyProof.Rows.boot_sorted (pa_cons (pv 1) pa_nil))) (blkOk_by (N := NBals) (sc := defScope sBals) (by decide +kernel)) (fun _ _ _ _ _ => pg_name (i := 6) scBals.nd rfl (Or.inl rfl))  (fun _ _ _ _ _ => pv 6) (fun _ _ _ _ _ => pe_dget hu (pv 1) (pv 6) (fun _ _ => rfl))))))), ?_⟩
    have hz : sizeLine = 16777216 := rfl
    intro D nD
    have S0 := same_upd (o := .dT []) nD
    refine ⟨.ref l, rfl, l, rfl, ⟨_, sqOf (S0 _ _ hS)⟩, ?_⟩
    refine for_list (a := l) (xs := bs.map fun b => V.ref b.1) (fun i σ H1 => ∃ y2 y3 y4 y5, σ = [some (.ref l), some (.ref D), y2, y3, y4, y5, none] ∧ Same H H1 ∧ H1 D = some (.dT (kvD (sumD ((bs.take i).map (·.2))))) ∧ (sumD ((bs.take i).map (·.2))).length ≤ 2 * i) ⟨none, none, none, none, rfl, S0, upd_same, Nat.le_refl 0⟩ (fun i σ H1 _ hP => by obtain ⟨y2, y3, y4, y5, rfl, S1, _⟩ := hP; exact sqOf (S1 _ _ hS)) (fun i v σ H1 ev hP => ?_) (fun σ H1 hP => ?_)
    · obtain ⟨y2, y3, y4, y5, rfl, S1, hD, hn⟩ := hP
      rw [List.getElem?_map] at ev
      obtain ⟨b, eb, rfl⟩ := Option.map_eq_some_iff.mp ev
      obtain ⟨D1, C1, hb, hd, hc⟩ := hT b (List.mem_of_getElem? eb)
      have ts : sumD ((bs.take (i + 1)).map (·.2)) = stepD (sumD ((bs.take i).map (·.2))) b.2 := by
        unfold sumD
        rw [take_at eb, List.map_append, List.foldl_append]; rfl
      have li : i < bs.length := by
        rcases Nat.lt_or_ge i bs.length with h | h
        · exact h
        · rw [List.getElem?_eq_none h] at eb; cases eb
      obtain ⟨d, hdd⟩ : ∃ d, d = sumD ((bs.take i).map (·.2)) := ⟨_, rfl⟩
      rw [← hdd] at hD hn ts
      have sT : SqT K H1 b.1 _ := .of (S1 _ _ hb)
      refine ⟨b.1, _, rfl, sT, rfl, .int b.2.day, _, rfl, .ref D1, _, rfl, .ref C1, _, rfl, .int b.2.cents, _, rfl, .str b.2.word, _, rfl, .int b.2.no, _, rfl, rfl, ?_⟩
      refine ⟨.ref D, rfl, D, rfl, .inr ⟨_, .of hD⟩, .ref D1, rfl, _, dget_D hD (S1 _ _ hd), .int b.2.cents, rfl, _, _, getD_map _, rfl, .ref D, rfl, .ref D1, rfl, D, _, rfl, dput_D hD (S1 _ _ hd) (by omega), ?_⟩
      have S2 : Same H (L2.upd H1 D (.dT (kvD (putD d b.2.d ((getD d b.2.d).getD 0 - b.2.cents))))) := fun a o e => by
        rw [upd_ne (ne_of_none e nD)]; exact S1 _ _ e
      have l2 := putD_len d b.2.d ((getD d b.2.d).getD 0 - b.2.cents)
      refine ⟨.ref D, rfl, D, rfl, .inr ⟨_, .of upd_same⟩, .ref C1, rfl, _, dget_D upd_same (S2 _ _ hc), .int b.2.cents, rfl, _, _, getD_map _, rfl, .ref D, rfl, .ref C1, rfl, D, _, rfl, dput_D upd_same (S2 _ _ hc) (by omega), ?_⟩
      refine ⟨_, _, _, _, rfl, fun a o e => ?_, ?_, ?_⟩
      · rw [upd_ne (ne_of_none e nD)]; exact S2 _ _ e
      · rw [upd_same, ts]; rfl
      · rw [ts]
        have := stepD_len d b.2
        omega
    · obtain ⟨y2, y3, y4, y5, rfl, S1, hD, hn⟩ := hP
      rw [List.length_map, List.take_length] at hD hn
      have nd := sums_nd (bs.map (·.2))
      generalize sumD (bs.map (·.2)) = d at hD hn nd q
      refine ⟨.ref D, rfl, D, kvD d, rfl, .of hD, by rw [kvD_len]; omega, by rw [kvD_enc]; exact alike2 _, by rw [kvD_enc]; exact sortable2 _, fun kv hkv => ?_, fun p cs np ecs hcs => ?_⟩
      · obtain ⟨r0, _, rfl⟩ := List.mem_map.mp hkv
        exact Nat.le_trans (depth2 r0.1) (by decide)
      rw [kvD_keys, sort_kP] at ecs
      have ecs : cs.map Prod.snd = (ksD d).map kP := ecs
      have lcs : cs.length = d.length := by
        have := congrArg List.length ecs
        rw [List.length_map, List.length_map, (ks_perm d).length_eq, List.length_map] at this
        exact this
      have Sp := same_upd (o := .lst (cs.map fun c => V.ref c.1)) np
      refine ⟨p, rfl, ⟨_, sqOf upd_same⟩, fun D2 nD2 => ?_⟩
      have S2' := Sp.trans (same_upd (o := .dT []) nD2)
      have hp2 : upd (upd H1 p (.lst (cs.map fun c => V.ref c.1))) D2 (.dT []) p = some (.lst (cs.map fun c => V.ref c.1)) := same_upd nD2 _ _ upd_same
      have D2n : H1 D2 = none := Sp.free nD2
      refine in_it (walk_list (a := p) (xs := cs.map fun c => V.ref c.1)) (fun i H' => Same H1 H' ∧ H' p = some (.lst (cs.map fun c => V.ref c.1)) ∧ H' D2 = some (.dT (kvD ((srtD d).take i)))) ⟨S2', hp2, upd_same⟩ (fun i H' _ hP => sqOf hP.2.1) (fun i v H5 H6 hi hP hy => ?_) (fun H5 hP => ?_)
      · obtain ⟨S5, hp5, hD5⟩ := hP
        obtain ⟨rfl, ev⟩ := hy
        rw [List.getElem?_map] at ev
        obtain ⟨c, ec, rfl⟩ := Option.map_eq_some_iff.mp ev
        have ek : ((ksD d).map kP)[i]? = some c.2 := by rw [← ecs, List.getElem?_map, ec]; rfl
        rw [List.getElem?_map] at ek
        obtain ⟨k0, e0, ek⟩ := Option.map_eq_some_iff.mp ek
        have hc5 := S5 _ _ (hcs c (List.mem_of_getElem? ec))
        rw [← ek] at hc5
        have mk : k0 ∈ d.map (·.1) := (ks_perm d).mem_iff.mp (List.mem_of_getElem? e0)
        obtain ⟨e, me, rfl⟩ := List.mem_map.mp mk
        have g0 := getD_mem nd me
        refine ⟨rfl, .ref c.1, rfl, .ref D, rfl, .ref c.1, rfl, D, .int e.2, rfl, ?_, ?_⟩
        · have := dget_D (S5 _ _ hD) hc5
          rw [g0] at this
          exact this
        · have sp := srt_put nd e0
          rw [g0] at sp
          refine ⟨kvD ((srtD d).take i), kP e.1, c.1, rfl, hc5, hD5, by rw [kvD_len, List.length_take, srt_len]; omega, fun b o hb => ?_, ?_, ?_⟩
          · rw [upd_ne (ne_of_none hb D2n)]; exact S5 _ _ hb
          · rw [upd_ne (fun z => by rw [z, hD5] at hp5; cases hp5)]; exact hp5
          · rw [upd_same, putK_kvD]
            exact congrArg (fun x => some (HO.dT (kvD x))) sp
      · obtain ⟨S5, hp5, hD5⟩ := hP
        rw [List.length_map, lcs, ← srt_len d, List.take_length] at hD5
        exact q D2 H5 (S1.trans S5) (S1.free D2n) hD5
end
end Tb
namespace Tb
open PySem PySem.Spec PyProof.Rows L2
abbrev sBal : Stmt := topS 16
abbrev NBal : List Str := ["postings", "account", "owed", "posting"]
theorem scBal : FnScope NBal ["postings", "account"] (defScope sBal) := ⟨rfl, rfl, rfl, by decide +kernel, rfl, by decide +kernel, by decide +kernel⟩
theorem eqv_pr {a b : Pr} (ha : SgP a) (hb : SgP b) : PyData.eqv (enc2 a) (enc2 b) = decide (a = b) := by
  by_cases h : a = b
  · subst h
    rw [decide_eq_true rfl]
    exact eqv_same (lay_2 ha)
  · rw [decide_eq_false h]
    unfold enc2
    have q : ∀ x y : Str, PyData.eqv (.str x) (.str y) = decide (x = y) := fun x y => by rw [PyData.eqv]; exact Bool.beq_eq_decide_eq x y
    rw [PyData.eqv, PyData.eqvAll, PyData.eqvAll, PyData.eqvAll, q, q, Bool.and_true]
    by_cases h1 : a.1 = b.1
    · by_cases h2 : a.2 = b.2
      · exact absurd (Prod.ext h1 h2) h
      · rw [decide_eq_false h2, Bool.and_false]
    · rw [decide_eq_false h1, Bool.false_and]
section
variable {P : Program} {w : World} {K : PySem.W.Frag} {mg : Str → Option Value} {base : Heap}
def SgO (o : Po) : Prop := SgP o.d ∧ SgP o.c
def spBal : Sp := fun vs H Q _ => ∃ (l T : Addr) (bs : List (Addr × Po)) (k : Pr), vs = [.ref l, .ref T] ∧ H l = some (.lst (bs.map fun b => V.ref b.1)) ∧ (∀ b ∈ bs, PoAt H b.1 b.2 ∧ SgO b.2) ∧ bs.length ≤ 60 ∧ H T = some (.tup [.str k.1, .str k.2]) ∧ SgP k ∧ ∀ (H' : Hp), Same H H' → Q (.int (owedTo (bs.map (·.2)) k - owedBy (bs.map (·.2)) k)) H'
theorem ok_bal {f : Addr} {fd : FuncData} {k : Nat} (F : Fun K "balance" "balance" sBal f fd) (B : Blt mg) : FnOk P w K mg base CX0 (k + 1) f fd ["postings", "account"] spBal := by
  refine F.ok scBal (fun vs H Q E h => ?_) (fun cdv A outer s H vs Q E hr h => ?_)
  · obtain ⟨l, T, bs, k, rfl, _⟩ := h
    rfl
  · obtain ⟨l, T, bs, k, rfl, hS, hT, hl, ht, sk, q⟩ := h
    refine ⟨_, (pss_cons (ps_set (i := 2) scBal.nd rfl (.inl rfl) (pe_callB (cr_sum rfl) (by rfl) B.sum (by decide +kernel) (pa_cons (pe_lc (own := [("posting", 3)]) (g := gName 3) (by rfl) scBal.nd (pi_list (pv 0)) (blkOk_by (N := NBal) (sc := defScope sBal) (by decide +kernel)) (fun _ _ _ _ _ => pg_name (i := 3) scBal.nd rfl (Or.inl rfl)) (fun _ _ _ _ _ => pts_one (pt_cmpR (r := rEqD K) (op_eqD hr.units) (pe_ix (r := rIxT K) ix_tup (pv 3) pe_int (fun _ _ => rfl)) (pv 1) (nomark _))) (fun _ _ _ _ _ => pe_ix (r := rIxT K) ix_tup (pv 3) pe_int (fun _ _ => rfl))) pa_nil)))
      (pss_one (ps_ret (pe_op op_sub (pv 2) (pe_callB (cr_sum rfl) (by rfl) B.sum (by decide +kernel) (pa_cons (pe_lc (own := [("posting", 3)]) (g := gName 3) (by rfl) scBal.nd (pi_list (pv 0)) (blkOk_by (N := NBal) (sc := defScope sBal) (by decide +kernel)) (fun _ _ _ _ _ => pg_name (i := 3) scBal.nd rfl (Or.inl rfl)) (fun _ _ _ _ _ => pts_one (pt_cmpR (r := rEqD K) (op_eqD hr.units) (pe_ix (r := rIxT K) ix_tup (pv 3) pe_int (fun _ _ => rfl)) (pv 1) (nomark _))) (fun _ _ _ _ _ => pe_ix (r := rIxT K) ix_tup (pv 3) pe_int (fun _ _ => rfl))) pa_nil)))))), ?_⟩
    have hz : sizeLine = 16777216 := rfl
    refine ⟨.ref l, rfl, l, rfl, ⟨_, sqOf ((Same.refl H) _ _ hS)⟩, fun D nD => ?_⟩
    refine lc_it (walk_list (a := l) (xs := bs.map fun b => V.ref b.1)) (fun i H1 => Same H H1 ∧ H1 D = some (.lst ((((((bs.take i).map (·.2)).filter fun o => decide (o.c = k)).map Po.cents)).map V.int))) ⟨same_upd nD, upd_same⟩ (fun i H1 _ hP => sqOf (hP.1 _ _ ((Same.refl H) _ _ hS))) (fun i v H1 H2 hi hP hy => ?_) (fun H3 hP => ?_)
    · obtain ⟨hP0, hD⟩ := hP
      obtain ⟨rfl, ev⟩ := hy
      rw [List.getElem?_map] at ev
      obtain ⟨b, eb, rfl⟩ := Option.map_eq_some_iff.mp ev
      obtain ⟨⟨D1, C1, hb, hd, hc⟩, sd, sc⟩ := hT b (List.mem_of_getElem? eb)
      have S1 := (Same.refl H).trans hP0
      have sT : SqT K H2 b.1 _ := .of (S1 _ _ hb)
      refine ⟨rfl, .ref b.1, rfl, b.1, _, 2, .ref C1, rfl, rfl, sT, rfl, .ref T, rfl, _, _, dp_pr (S1 _ _ hc), dp_pr (S1 _ _ ht), lay_2 sc, lay_2 sk, _, rfl, ite2 (fun e => ?_) (fun e => ?_)⟩
      · rw [eqv_pr sc sk] at e
        refine ⟨.ref b.1, rfl, b.1, _, 3, .int b.2.cents, rfl, rfl, sT, rfl, _, hD, ?_, fun c o hc => ?_, ?_⟩
        · rw [List.length_map, List.length_map]
          have := List.length_filter_le (fun o : Po => decide (o.c = k)) ((bs.take i).map (·.2))
          rw [List.length_map, List.length_take] at this
          omega
        · rw [upd_ne (ne_of_none hc nD)]; exact hP0 _ _ hc
        · rw [upd_same, take_at eb, List.map_append, List.filter_append, List.map_cons, List.filter_cons_of_pos (p := fun o : Po => decide (o.c = k)) e, List.map_nil, List.filter_nil, List.map_append, List.map_append]; rfl
      · rw [eqv_pr sc sk] at e
        refine ⟨hP0, ?_⟩
        rw [take_at eb, List.map_append, List.filter_append, List.map_cons, List.filter_cons_of_neg (p := fun o : Po => decide (o.c = k)) e, List.map_nil, List.filter_nil, List.append_nil]
        exact hD
    · obtain ⟨S3, hD⟩ := hP
      rw [List.length_map, List.take_length] at hD
      refine ⟨D, _, rfl, sqOf hD, ?_⟩
      refine ⟨.int (owedTo (bs.map (·.2)) k), rfl, ?_⟩
      refine ⟨.ref l, rfl, l, rfl, ⟨_, sqOf (S3 _ _ hS)⟩, fun D2 nD2 => ?_⟩
      refine lc_it (walk_list (a := l) (xs := bs.map fun b => V.ref b.1)) (fun i H1 => Same H3 H1 ∧ H1 D2 = some (.lst ((((((bs.take i).map (·.2)).filter fun o => decide (o.d = k)).map Po.cents)).map V.int))) ⟨same_upd nD2, upd_same⟩ (fun i H1 _ hP => sqOf (hP.1 _ _ (S3 _ _ hS))) (fun i v H1 H2 hi hP hy => ?_) (fun H4 hP => ?_)
      · obtain ⟨hP0, hD⟩ := hP
        obtain ⟨rfl, ev⟩ := hy
        rw [List.getElem?_map] at ev
        obtain ⟨b, eb, rfl⟩ := Option.map_eq_some_iff.mp ev
        obtain ⟨⟨D1, C1, hb, hd, hc⟩, sd, sc⟩ := hT b (List.mem_of_getElem? eb)
        have S1 := S3.trans hP0
        have sT : SqT K H2 b.1 _ := .of (S1 _ _ hb)
        refine ⟨rfl, .ref b.1, rfl, b.1, _, 1, .ref D1, rfl, rfl, sT, rfl, .ref T, rfl, _, _, dp_pr (S1 _ _ hd), dp_pr (S1 _ _ ht), lay_2 sd, lay_2 sk, _, rfl, ite2 (fun e => ?_) (fun e => ?_)⟩
        · rw [eqv_pr sd sk] at e
          refine ⟨.ref b.1, rfl, b.1, _, 3, .int b.2.cents, rfl, rfl, sT, rfl, _, hD, ?_, fun c o hc => ?_, ?_⟩
          · rw [List.length_map, List.length_map]
            have := List.length_filter_le (fun o : Po => decide (o.d = k)) ((bs.take i).map (·.2))
            rw [List.length_map, List.length_take] at this
            omega
          · rw [upd_ne (ne_of_none hc nD2)]; exact hP0 _ _ hc
          · rw [upd_same, take_at eb, List.map_append, List.filter_append, List.map_cons, List.filter_cons_of_pos (p := fun o : Po => decide (o.d = k)) e, List.map_nil, List.filter_nil, List.map_append, List.map_append]; rfl
        · rw [eqv_pr sd sk] at e
          refine ⟨hP0, ?_⟩
          rw [take_at eb, List.map_append, List.filter_append, List.map_cons, List.filter_cons_of_neg (p := fun o : Po => decide (o.d = k)) e, List.map_nil, List.filter_nil, List.append_nil]
          exact hD
      · obtain ⟨S4, hD4⟩ := hP
        rw [List.length_map, List.take_length] at hD4
        refine ⟨D2, _, rfl, sqOf hD4, ?_⟩
        exact ⟨_, _, rfl, rfl, q _ (S3.trans S4)⟩
end
end Tb
namespace Tb
open PySem PySem.Spec PyProof.Rows L2
open PySem.W (EachIs AllAlike Sortable dataLe)
abbrev sSumsH : Stmt := topS 27
abbrev NSumsH : List Str := ["postings", "strange", "due", "passed", "turn", "actual", "one"]
theorem scSumsH : FnScope NSumsH ["postings", "strange"] (defScope sSumsH) := ⟨rfl, rfl, rfl, by decide +kernel, rfl, by decide +kernel, by decide +kernel⟩
def lay8 (d : PyData) : Prop := PyData.canLay0 d = true ∧ d.depth ≤ 8
theorem lay8s : ∀ {ds : List PyData}, (∀ d ∈ ds, lay8 d) → PyData.canLayAll0 ds = true ∧ PyData.depthAll ds ≤ 8
  | [], _ => by simp [PyData.canLayAll0, PyData.depthAll]
  | d :: ds, h => by
    obtain ⟨a1, a2⟩ := h d (List.mem_cons_self ..)
    obtain ⟨b1, b2⟩ := lay8s (ds := ds) fun q hq => h q (List.mem_cons_of_mem _ hq)
    refine ⟨?_, ?_⟩
    · simp only [PyData.canLayAll0, a1, b1, Bool.and_true]
    · simp only [PyData.depthAll]
      omega
theorem shaped_ls {ds : List PyData} (h : ∀ d ∈ ds, lay8 d) : SeqAt.shaped (.list ds) = true := by
  obtain ⟨h1, h2⟩ := lay8s h
  show (PyData.canLay0 (.list ds) && decide (PyData.depth (.list ds) ≤ 64)) = true
  rw [Bool.and_eq_true]
  refine ⟨by simp only [PyData.canLay0]; exact h1, decide_eq_true ?_⟩
  simp only [PyData.depth]
  omega
theorem lay8_pr {p : Pr} (h : SgP p) : lay8 (enc2 p) :=
  ⟨by simp only [enc2, PyData.canLay0, PyData.canLayAll0, strOk_sg h.1, strOk_sg h.2, Bool.and_true], Nat.le_trans (depth2 p) (by decide)⟩
def encO (o : Po) : PyData := .tuple [.int o.day, enc2 o.d, enc2 o.c, .int o.cents, .str o.word, .int o.no]
theorem dp_po {K : PySem.W.Frag} {H : Hp} {T : Addr} {o : Po} (h : PoAt H T o) : Dp K H (.ref T) (encO o) := by
  obtain ⟨D, C, h1, h2, h3⟩ := h
  exact .tup (.of h1) (.cons (.int _) (.cons (dp_pr h2) (.cons (dp_pr h3) (.cons (.int _) (.cons (.str _) (.cons (.int _) .nil))))))
theorem dps_po {K : PySem.W.Frag} {H : Hp} : ∀ {bs : List (Addr × Po)}, (∀ b ∈ bs, PoAt H b.1 b.2) → DpAll K H (bs.map fun b => V.ref b.1) (bs.map fun b => encO b.2)
  | [], _ => .nil
  | b :: bs, h => .cons (dp_po (h b List.mem_cons_self)) (dps_po fun x hx => h x (List.mem_cons_of_mem _ hx))
theorem word_sg {z : Str} (h : z ∈ (["toll", "postage", "duty"] : List Str)) : Sg z := by
  simp only [List.mem_cons, List.not_mem_nil, or_false] at h
  rcases h with rfl | rfl | rfl <;> (unfold Sg; decide +kernel)
theorem gpo_sg {ks : List Str} (N : Nms ks) {o : Po} (g : GPo ks o) : SgO o := ⟨⟨kind_sg g.d1, nms_sg N _ (List.mem_of_mem_tail g.d2)⟩, ⟨kind_sg g.c1, nms_sg N _ (List.mem_of_mem_tail g.c2)⟩⟩
theorem lay8_po {ks : List Str} (N : Nms ks) {o : Po} (g : GPo ks o) : lay8 (encO o) := by
  obtain ⟨s1, s2⟩ := gpo_sg N g
  obtain ⟨a1, a2⟩ := lay8_pr s1
  obtain ⟨b1, b2⟩ := lay8_pr s2
  have d1 := depth2 o.d
  have d2 := depth2 o.c
  refine ⟨by simp only [encO, PyData.canLay0, PyData.canLayAll0, a1, b1, strOk_sg (word_sg g.word), Bool.and_true], ?_⟩
  simp only [encO, PyData.depth, PyData.depthAll]
  omega
theorem shaped_po {ks : List Str} (N : Nms ks) {bs : List (Addr × Po)} (h : ∀ b ∈ bs, GPo ks b.2) : SeqAt.shaped (.list (bs.map fun b => encO b.2)) = true := shaped_ls fun d hd => by
  obtain ⟨b, hb, rfl⟩ := List.mem_map.mp hd
  exact lay8_po N (h b hb)
/-- two lists of the same postings -/
theorem same_po {K : PySem.W.Frag} {H : Hp} {ks : List Str} (N : Nms ks) {l l2 : Addr} {bs : List (Addr × Po)} (h1 : H l = some (.lst (bs.map fun b => V.ref b.1))) (h2 : H l2 = some (.lst (bs.map fun b => V.ref b.1))) (t : ∀ b ∈ bs, PoAt H b.1 b.2) (g : ∀ b ∈ bs, GPo ks b.2) {Q : VK} (q : Q (.bl false) H) : rNeD K (.ref l) (.ref l2) H Q := by
  have sh := shaped_po N g
  refine ⟨_, _, .lst (sqOf h1) (dps_po t), .lst (sqOf h2) (dps_po t), sh, sh, ?_⟩
  rw [eqv_same sh]
  exact q
theorem sums_key {ks : List Str} (N : Nms ks) {ps : List Po} (h : ∀ o ∈ ps, GPo ks o) : ∀ e ∈ sumD ps, SgP e.1 := by
  have put : ∀ (d : DS) (k : Pr) (v : Int), (∀ e ∈ d, SgP e.1) → SgP k → ∀ e ∈ putD d k v, SgP e.1 := fun d k v hd hk e he => by
    have : e.1 ∈ (putD d k v).map (·.1) := List.mem_map.mpr ⟨e, he, rfl⟩
    rw [putD_keys] at this
    have old : e.1 ∈ d.map (·.1) → SgP e.1 := fun z => by
      obtain ⟨x, hx, ex⟩ := List.mem_map.mp z
      rw [← ex]; exact hd x hx
    split at this
    · exact old this
    · rcases List.mem_append.mp this with z | z
      · exact old z
      · rw [List.mem_singleton.mp z]; exact hk
  have fold : ∀ (ps : List Po) (d : DS), (∀ o ∈ ps, GPo ks o) → (∀ e ∈ d, SgP e.1) → ∀ e ∈ ps.foldl stepD d, SgP e.1 := by
    intro ps
    induction ps with
    | nil => exact fun d _ hd => hd
    | cons o ps ih => exact fun d ho hd => ih _ (fun x hx => ho x (List.mem_cons_of_mem _ hx)) (put _ _ _ (put _ _ _ hd (gpo_sg N (ho o List.mem_cons_self)).1) (gpo_sg N (ho o List.mem_cons_self)).2)
  exact fold ps [] h fun e he => by cases he
/-- the keys' tuples -/
theorem keys_of {H : Hp} : ∀ {d : DS} {bs : List Addr}, IsKeys H (kvD d) bs → ∃ zs : List (Addr × Pr), bs = zs.map (·.1) ∧ zs.map (·.2) = d.map (·.1) ∧ ∀ z ∈ zs, H z.1 = some (.tup [.str z.2.1, .str z.2.2])
  | [], _, .nil => ⟨[], rfl, rfl, fun _ h => by cases h⟩
  | e :: d, b :: bs, .cons h t => by
    obtain ⟨zs, e1, e2, e3⟩ := keys_of (d := d) t
    refine ⟨(b, e.1) :: zs, by rw [e1]; rfl, by rw [List.map_cons, e2]; rfl, fun z hz => ?_⟩
    rcases List.mem_cons.mp hz with rfl | hz
    · exact h
    · exact e3 z hz
theorem dps_pr {K : PySem.W.Frag} {H : Hp} : ∀ {zs : List (Addr × Pr)}, (∀ z ∈ zs, H z.1 = some (.tup [.str z.2.1, .str z.2.2])) → DpAll K H (zs.map fun z => V.ref z.1) ((zs.map (·.2)).map enc2)
  | [], _ => .nil
  | b :: bs, h => .cons (dp_pr (h b List.mem_cons_self)) (dps_pr fun x hx => h x (List.mem_cons_of_mem _ hx))
theorem keys2_of {H : Hp} : ∀ {cs : List (Addr × List Key)} {ks : List Pr}, cs.map Prod.snd = ks.map kP → (∀ c ∈ cs, H c.1 = some (.tup (c.2.map kV))) → ∃ zs : List (Addr × Pr), (cs.map fun c => V.ref c.1) = (zs.map fun z => V.ref z.1) ∧ zs.map (·.2) = ks ∧ ∀ z ∈ zs, H z.1 = some (.tup [.str z.2.1, .str z.2.2])
  | [], [], _, _ => ⟨[], rfl, rfl, fun _ h => by cases h⟩
  | [], _ :: _, e, _ => by cases e
  | _ :: _, [], e, _ => by cases e
  | c :: cs, k :: ks, e, h => by
    obtain ⟨e1, e2⟩ := List.cons.inj e
    obtain ⟨zs, a1, a2, a3⟩ := keys2_of (cs := cs) (ks := ks) e2 fun x hx => h x (List.mem_cons_of_mem _ hx)
    refine ⟨(c.1, k) :: zs, by rw [List.map_cons, a1]; rfl, by rw [List.map_cons, a2], fun z hz => ?_⟩
    rcases List.mem_cons.mp hz with rfl | hz
    · have := h c List.mem_cons_self
      rw [show c.2 = kP k from e1] at this
      exact this
    · exact a3 z hz
section
variable {P : Program} {w : World} {K : PySem.W.Frag} {mg : Str → Option Value} {base : Heap}
abbrev CSums (P : Program) (w : World) (K : PySem.W.Frag) (mg : Str → Option Value) (base : Heap) (g : Addr) (gd : FuncData) := C1 P w K mg base "_law_sums" sSums ["postings"] 1 spSums g gd
abbrev CSameN (P : Program) (w : World) (K : PySem.W.Frag) (mg : Str → Option Value) (base : Heap) (g : Addr) (gd : FuncData) := C1 P w K mg base "_law_same_numbers" sSameN ["actual", "due"] 2 spSameN g gd
abbrev CBals (P : Program) (w : World) (K : PySem.W.Frag) (mg : Str → Option Value) (base : Heap) (g : Addr) (gd : FuncData) := C1 P w K mg base "balances" sBals ["postings"] 1 spBals g gd
abbrev CBal (P : Program) (w : World) (K : PySem.W.Frag) (mg : Str → Option Value) (base : Heap) (g : Addr) (gd : FuncData) := C1 P w K mg base "balance" sBal ["postings", "account"] 1 spBal g gd
def spSumsH : Sp := fun vs H Q _ => ∃ (l T : Addr) (ks : List Str) (bs : List (Addr × Po)) (k : Pr), vs = [.ref l, .ref T] ∧ Nms ks ∧ Pos ks H l bs ∧ bs.length ≤ 60 ∧ H T = some (.tup [.str k.1, .str k.2]) ∧ SgP k ∧ ∀ (H' : Hp), Same H H' → Q (.bl true) H'
theorem ok_sumsh {f g1 g2 g3 g4 g5 : Addr} {fd gd1 gd2 gd3 gd4 gd5 : FuncData} (F : Fun K "_law_sums_hold" "_law_sums_hold" sSumsH f fd) (cSums : CSums P w K mg base g1 gd1) (cSameN : CSameN P w K mg base g2 gd2) (cBals : CBals P w K mg base g3 gd3) (cBal : CBal P w K mg base g4 gd4) (cIsInt : CIsInt P w K mg base g5 gd5) (B : Blt mg) : FnOk P w K mg base CX0 3 f fd ["postings", "strange"] spSumsH := by
  refine F.ok scSumsH (fun vs H Q E h => ?_) (fun cdv A outer s H vs Q E hr h => ?_)
  · obtain ⟨l, T, ks, bs, k, rfl, _⟩ := h
    rfl
  · obtain ⟨l, T, ks, bs, k, rfl, hN, hP, hl, ht, sk, q⟩ := h
    have hu := hu_of hr
    have hz : sizeLine = 16777216 := rfl
    refine ⟨_, (pss_cons (ps_set (i := 2) scSumsH.nd rfl (.inl rfl) (pe_call cSums.G (hr.mono (by first | decide | omega)) (by rfl) cSums.D.g cSums.D.F.kp cSums.D.b .nil pass0 (pa_cons (pv 0) pa_nil)))
      (pss_cons (ps_set (i := 3) scSumsH.nd rfl (.inl rfl) (pe_callTy call_list_of (by rfl) B.list PyProof.Rows.boot_list (pa_cons (pv 0) pa_nil)))
      (pss_cons (ps_for PassesOwn.never rfl (pi_range1 (by rfl) B.range (pa_cons pe_int pa_nil)) (pg_name (i := 4) scSumsH.nd rfl (.inl rfl))
        (pss_cons (ps_set (i := 5) scSumsH.nd rfl (.inr rfl) (pe_call cBals.G (hr.mono (by first | decide | omega)) (by rfl) cBals.D.g cBals.D.F.kp cBals.D.b .nil pass0 (pa_cons (pv 3) pa_nil)))
        (pss_cons (ps_if (PW.pt (pw_or (pt_not (pt_val (pe_call cSameN.G (hr.mono (by first | decide | omega)) (by rfl) cSameN.D.g cSameN.D.F.kp cSameN.D.b .nil pass0 (pa_cons (pv 5) (pa_cons (pv 2) pa_nil))))) (pw_or (pt_cmpR (op_neD hr.units) (pe_callTy (call_list_dT rfl) (by rfl) B.list PyProof.Rows.boot_list (pa_cons (pv 5) pa_nil)) (pe_callB (cr_sortedDT rfl hr.units) (by rfl) B.sorted PyProof.Rows.boot_sorted (pa_cons (pv 2) pa_nil)) (nomark _)) (pw_or1 (pt_cmpR (op_neD hr.units) (pv 3) (pv 0) (nomark _))))))
          (pss_one (ps_ret pe_bl))
          pss_nil)
        (pss_cons (ps_if (pt_cmpR op_ne (pe_callB (cr_sum rfl) (by rfl) B.sum (by decide +kernel) (pa_cons (pe_lock (pe_lc (own := [("one", 6)]) (g := gName 6) (by rfl) scSumsH.nd (pi_keys (pv 2)) (blkOk_by (N := NSumsH) (sc := defScope sSumsH) (by decide +kernel)) (fun _ _ _ _ _ => pg_name (i := 6) scSumsH.nd rfl (Or.inl rfl)) (fun _ _ _ _ _ => pts_nil) (fun _ _ _ _ _ => pe_dget hu (pv 5) (pv 6) (fun _ _ => rfl)))) pa_nil)) pe_int (nomark _))
          (pss_one (ps_ret pe_bl))
          pss_nil)
        (pss_one (ps_dput hu (pv 5) (pv 1) pe_int (by rfl)))))))
      (pss_cons (ps_for PassesOwn.never rfl (pi_list (pe_op op_cat (pe_callTy (call_list_dT rfl) (by rfl) B.list PyProof.Rows.boot_list (pa_cons (pv 2) pa_nil)) (pe_lst (pa_cons (pv 1) pa_nil)))) (pg_name (i := 6) scSumsH.nd rfl (.inl rfl))
        (pss_cons (ps_set (i := 5) scSumsH.nd rfl (.inr rfl) (pe_call cBal.G (hr.mono (by first | decide | omega)) (by rfl) cBal.D.g cBal.D.F.kp cBal.D.b .nil pass0 (pa_cons (pv 3) (pa_cons (pv 6) pa_nil))))
        (pss_one (ps_if (PW.pt (pw_or (pt_not (pt_val (pe_call cIsInt.G (hr.mono (by first | decide | omega)) (by rfl) cIsInt.D.g cIsInt.D.F.kp cIsInt.D.b .nil pass0 (pa_cons (pv 5) pa_nil)))) (pw_or (pt_cmpR op_ne (pv 5) (pe_dget2 hu (pv 2) (pv 6) pe_int ⟨rfl, by rfl, rfl, rfl⟩) (nomark _)) (pw_or1 (pt_cmpR (op_neD hr.units) (pv 3) (pv 0) (nomark _))))))
          (pss_one (ps_ret pe_bl))
          pss_nil))))
      (pss_one (ps_ret pe_bl)))))), ?_⟩
    refine ⟨.ref l, rfl, l, bs, rfl, hP.l, hP.t, hl, fun due H1 S1 nd1 hd1 => ?_⟩
    have nd := sums_nd (bs.map (·.2))
    have ln := sumD_len (bs.map (·.2))
    have sgk := sums_key hN (ps := bs.map (·.2)) fun o ho => by
      obtain ⟨b, hb, rfl⟩ := List.mem_map.mp ho
      exact hP.g b hb
    have bal : ∀ k, owedTo (bs.map (·.2)) k - owedBy (bs.map (·.2)) k = (getD (sumD (bs.map (·.2))) k).getD 0 := fun k => (balD_eq (fun o ho => by
      obtain ⟨b, hb, rfl⟩ := List.mem_map.mp ho
      exact (hP.g b hb).ne) k).symm
    have tot := sums_tot (bs.map (·.2))
    rw [List.length_map] at ln
    obtain ⟨d, hdd⟩ : ∃ d, d = sumD (bs.map (·.2)) := ⟨_, rfl⟩
    rw [← hdd] at nd ln sgk bal tot hd1
    refine ⟨.ref l, rfl, l, _, rfl, .inl (sqOf (S1 _ _ hP.l)), fun p np => ?_⟩
    have S2 := S1.trans (same_upd (o := .lst (bs.map fun b => V.ref b.1)) np)
    have hp2 : upd H1 p (.lst (bs.map fun b => V.ref b.1)) p = some (.lst (bs.map fun b => V.ref b.1)) := upd_same
    have hd2 := same_upd (o := .lst (bs.map fun b => V.ref b.1)) np _ _ hd1
    generalize upd H1 p (.lst (bs.map fun b => V.ref b.1)) = H2 at S2 hp2 hd2
    have hP2 : ∀ {H' : Hp}, Same H2 H' → ∀ b ∈ bs, PoAt H' b.1 b.2 := fun S b hb => (hP.t b hb).keep fun a xs e => S _ _ (S2 _ _ e)
    have samep : ∀ {H' : Hp} {Q' : VK}, Same H2 H' → Q' (.bl false) H' → rNeD K (.ref p) (.ref l) H' Q' := fun S q => same_po hN (S _ _ hp2) (S _ _ (S2 _ _ hP.l)) (hP2 S) hP.g q
    have shk : SeqAt.shaped (.list ((ksD d).map enc2)) = true := shaped_ls fun x hx => by
      obtain ⟨k, hk, rfl⟩ := List.mem_map.mp hx
      obtain ⟨e, he, rfl⟩ := List.mem_map.mp ((ks_perm d).mem_iff.mp hk)
      exact lay8_pr (sgk e he)
    refine ⟨2, rfl, by decide, by decide, ?_⟩
    refine for_range (lo := 0) (n := 2) (fun i σ H3 => ∃ y4 y5, σ = [some (.ref l), some (.ref T), some (.ref due), some (.ref p), y4, y5, none] ∧ Same H2 H3) ⟨none, none, rfl, Same.refl _⟩ ?_ ?_
    · rintro i σ H3 hi ⟨y4, y5, rfl, S3⟩
      refine ⟨.ref p, rfl, p, bs, rfl, S3 _ _ hp2, hP2 S3, hl, fun r H4 S4 nr hr4 => ?_⟩
      rw [← hdd] at hr4
      have S24 := S3.trans S4
      have rdue : r ≠ due := fun z => by rw [z, S3 _ _ hd2] at nr; cases nr
      refine ⟨.ref r, rfl, .ref due, rfl, r, due, rfl, rdue, .inl ⟨srtD d, d, hr4, S24 _ _ hd2, srt_len d, fun e he => ⟨srt_get nd he, getD_mem nd he⟩⟩, fun H5 S5 => ?_⟩
      have S25 := S24.trans S5
      refine ⟨true, rfl, ?_⟩
      refine ⟨.ref r, rfl, r, _, rfl, .of (S5 _ _ hr4), fun p1 bs1 np1 hk1 => ?_⟩
      obtain ⟨zs, ez, zk, za⟩ := keys_of hk1
      rw [srt_keys] at zk
      have S6 := same_upd (o := .lst (bs1.map V.ref)) np1
      have hp6 : upd H5 p1 (.lst (bs1.map V.ref)) p1 = some (.lst (zs.map fun z => V.ref z.1)) := by rw [upd_same, ez, List.map_map]; rfl
      generalize upd H5 p1 (.lst (bs1.map V.ref)) = H6 at S6 hp6
      have S26 := S25.trans S6
      refine ⟨.ref due, rfl, due, kvD d, rfl, .of (S26 _ _ hd2), by rw [kvD_len]; omega, by rw [kvD_enc]; exact alike2 _, by rw [kvD_enc]; exact sortable2 _, fun kv hkv => ?_, fun p2 cs np2 ecs hcs => ?_⟩
      · obtain ⟨r0, _, rfl⟩ := List.mem_map.mp hkv
        exact Nat.le_trans (depth2 r0.1) (by decide)
      rw [kvD_keys, sort_kP] at ecs
      obtain ⟨ys, ey, yk, ya⟩ := keys2_of (ks := ksD d) ecs hcs
      have S7 := same_upd (o := .lst (cs.map fun c => V.ref c.1)) np2
      have hp7 : upd H6 p2 (.lst (cs.map fun c => V.ref c.1)) p2 = some (.lst (ys.map fun z => V.ref z.1)) := by rw [upd_same, ey]
      generalize upd H6 p2 (.lst (cs.map fun c => V.ref c.1)) = H7 at S7 hp7
      have S27 := S26.trans S7
      have dz : Dp K H7 (.ref p1) (.list ((ksD d).map enc2)) := by
        rw [← zk]
        exact .lst (sqOf (S7 _ _ hp6)) (dps_pr fun z hz => S7 _ _ (S6 _ _ (za z hz)))
      have dy : Dp K H7 (.ref p2) (.list ((ksD d).map enc2)) := by
        rw [← yk]
        exact .lst (sqOf hp7) (dps_pr fun z hz => S7 _ _ (ya z hz))
      refine ⟨_, _, dz, dy, shk, shk, _, rfl, ?_⟩
      rw [eqv_same shk]
      refine ite2 (fun e => by cases e) (fun _ => ?_)
      refine ⟨.ref p, rfl, .ref l, rfl, samep S27 ⟨_, rfl, ite2 (fun e => by cases e) (fun _ => ?_)⟩⟩
      have hr7 : H7 r = some (.dT (kvD (srtD d))) := S7 _ _ (S6 _ _ (S5 _ _ hr4))
      have hd7 := S27 _ _ hd2
      refine ⟨due, _, hd7, trivial, fun od => ?_⟩
      refine ⟨.ref due, rfl, due, od, rfl, .inr ⟨kvD d, upd_same, fun D nD => ?_⟩⟩
      have Dd : D ≠ due := fun z => by rw [z, upd_same] at nD; cases nD
      have nD7 : H7 D = none := by rw [upd_ne Dd] at nD; exact nD
      refine lc_it (walk_keysT (d := due) (o := od) (kvs := kvD d)) (fun i H' => H' due = some (.frz od (.dT (kvD d))) ∧ (∀ b o, H7 b = some o → b ≠ due → H' b = some o) ∧ H' D = some (.lst (((d.take i).map (·.2)).map V.int))) ⟨?_, fun b o e n => ?_, upd_same⟩ (fun i H' _ hP => hP.1) (fun i v H8 H9 hi hP hy => ?_) (fun H8 hP => ?_)
      · rw [upd_ne (Ne.symm Dd)]; exact upd_same
      · rw [upd_ne (ne_of_none e nD7), upd_ne n]; exact e
      · obtain ⟨h1, h2, h3⟩ := hP
        obtain ⟨rfl, k1, v1, b, ek, rfl, hb⟩ := hy
        rw [kvD_at] at ek
        obtain ⟨e, ee, e2⟩ := Option.map_eq_some_iff.mp ek
        cases e2
        refine ⟨rfl, .ref r, rfl, .ref b, rfl, r, .int e.2, rfl, dg_T (.of (h2 _ _ hr7 rdue)) hb (srt_get nd (List.mem_of_getElem? ee)), _, h3, ?_, ?_, fun b o e n => ?_, ?_⟩
        · rw [List.length_map, List.length_map, List.length_take]; omega
        · rw [upd_ne (Ne.symm Dd)]; exact h1
        · rw [upd_ne (ne_of_none e nD7)]; exact h2 b o e n
        · rw [upd_same, take_at ee, List.map_append, List.map_append]; rfl
      · obtain ⟨h1, h2, h3⟩ := hP
        rw [kvD_len, List.take_length] at h3
        have S8 : Same H7 (L2.upd H8 due (.dT (kvD d))) := fun b o e => by
          by_cases z : b = due
          · rw [z, upd_same, ← hd7, ← z]; exact e
          · rw [upd_ne z]; exact h2 b o e z
        have hD9 : L2.upd H8 due (.dT (kvD d)) D = some (.lst ((d.map (·.2)).map V.int)) := by rw [upd_ne Dd]; exact h3
        refine ⟨h1, D, _, rfl, sqOf hD9, ?_⟩
        generalize L2.upd H8 due (.dT (kvD d)) = H9 at S8 hD9
        refine ⟨rfl, _, rfl, ite2 (fun e => ?_) (fun _ => ?_)⟩
        · rw [show (d.map (·.2)).sum = 0 from tot, decide_eq_true rfl] at e
          exact absurd e (by decide)
        have S29 := S27.trans S8
        refine ⟨.ref r, rfl, .ref T, rfl, r, _, rfl, dput_D (S8 _ _ hr7) (S29 _ _ (S2 _ _ ht)) (by rw [srt_len]; omega), ?_⟩
        refine ⟨_, _, rfl, fun b o e => ?_⟩
        rw [upd_ne (ne_of_none (S3 _ _ e) nr)]
        exact S29 _ _ e
    · rintro σ H3 ⟨y4, y5, rfl, S3⟩
      refine ⟨.ref due, rfl, due, _, rfl, .of (S3 _ _ hd2), fun p1 bs1 np1 hk1 => ?_⟩
      obtain ⟨zs, ez, zk, za⟩ := keys_of hk1
      have S4 := S3.trans (same_upd (o := .lst (bs1.map V.ref)) np1)
      have hp4 : upd H3 p1 (.lst (bs1.map V.ref)) p1 = some (.lst (zs.map fun z => V.ref z.1)) := by rw [upd_same, ez, List.map_map]; rfl
      have za4 : ∀ z ∈ zs, upd H3 p1 (.lst (bs1.map V.ref)) z.1 = some (.tup [.str z.2.1, .str z.2.2]) := fun z hz => same_upd np1 _ _ (za z hz)
      generalize upd H3 p1 (.lst (bs1.map V.ref)) = H4 at S4 hp4 za4
      refine ⟨.ref T, rfl, by show 1 ≤ sizeLine; omega, fun M nM => ?_⟩
      have S5 := S4.trans (same_upd (o := .lst [V.ref T]) nM)
      have hp5 := same_upd (o := .lst [V.ref T]) nM _ _ hp4
      have za5 : ∀ z ∈ zs, upd H4 M (.lst [V.ref T]) z.1 = some (.tup [.str z.2.1, .str z.2.2]) := fun z hz => same_upd nM _ _ (za4 z hz)
      have hM5 : upd H4 M (.lst [V.ref T]) M = some (.lst [V.ref T]) := upd_same
      generalize upd H4 M (.lst [V.ref T]) = H5 at S5 hp5 za5 hM5
      have lz : zs.length = d.length := by
        have := congrArg List.length zk
        rwa [List.length_map, List.length_map] at this
      refine ⟨p1, M, _, _, rfl, rfl, hp5, hM5, by rw [List.length_map]; show zs.length + 1 ≤ _; omega, fun L nL => ?_⟩
      have S6 := S5.trans (same_upd (o := .lst ((zs.map fun z => V.ref z.1) ++ [V.ref T])) nL)
      have hL6 : upd H5 L (.lst ((zs.map fun z => V.ref z.1) ++ [V.ref T])) L = some (.lst ((zs ++ [(T, k)]).map fun z => V.ref z.1)) := by rw [upd_same, List.map_append]; rfl
      have za6 : ∀ z ∈ zs ++ [(T, k)], upd H5 L (.lst ((zs.map fun z => V.ref z.1) ++ [V.ref T])) z.1 = some (.tup [.str z.2.1, .str z.2.2]) ∧ SgP z.2 := fun z hz => by
        rcases List.mem_append.mp hz with hz | hz
        · refine ⟨same_upd nL _ _ (za5 z hz), ?_⟩
          have : z.2 ∈ d.map (·.1) := by rw [← zk]; exact List.mem_map.mpr ⟨z, hz, rfl⟩
          obtain ⟨e, he, ee⟩ := List.mem_map.mp this
          rw [← ee]; exact sgk e he
        · rw [List.mem_singleton.mp hz]
          exact ⟨S6 _ _ (S2 _ _ ht), sk⟩
      generalize upd H5 L (.lst ((zs.map fun z => V.ref z.1) ++ [V.ref T])) = H6 at S6 hL6 za6
      generalize zs ++ [(T, k)] = ws at hL6 za6
      refine ⟨L, rfl, ⟨_, sqOf hL6⟩, ?_⟩
      refine for_list (a := L) (xs := ws.map fun z => V.ref z.1) (fun i σ H7 => ∃ y5 y6, σ = [some (.ref l), some (.ref T), some (.ref due), some (.ref p), y4, y5, y6] ∧ Same H6 H7) ⟨y5, none, rfl, Same.refl _⟩ (fun i σ H1 _ hP => by obtain ⟨y5, y6, rfl, S7⟩ := hP; exact sqOf (S7 _ _ hL6)) (fun i v σ H7 ev hP => ?_) (fun σ H7 hP => ?_)
      · obtain ⟨y5, y6, rfl, S7⟩ := hP
        rw [List.getElem?_map] at ev
        obtain ⟨z, ez, rfl⟩ := Option.map_eq_some_iff.mp ev
        obtain ⟨hz1, sz⟩ := za6 z (List.mem_of_getElem? ez)
        have S27 := S6.trans S7
        refine ⟨.ref p, rfl, .ref z.1, rfl, p, z.1, bs, z.2, rfl, S27 _ _ hp2, fun b hb => ⟨hP2 S27 b hb, gpo_sg hN (hP.g b hb)⟩, hl, S7 _ _ hz1, sz, fun H8 S8 => ?_⟩
        rw [bal]
        have S28 := S27.trans S8
        refine ⟨_, rfl, _, rfl, true, rfl, ?_⟩
        refine ⟨.int _, rfl, .ref due, rfl, due, rfl, .inr ⟨_, .of (S28 _ _ hd2)⟩, .ref z.1, rfl, _, dget_D (S28 _ _ hd2) (S8 _ _ (S7 _ _ hz1)), ?_⟩
        rw [getD_map]
        refine ⟨rfl, _, rfl, ite2 (fun e => ?_) (fun _ => ?_)⟩
        · rw [decide_eq_true rfl] at e
          exact absurd e (by decide)
        refine ⟨.ref p, rfl, .ref l, rfl, samep S28 ⟨_, rfl, ite2 (fun e => by cases e) (fun _ => ?_)⟩⟩
        exact ⟨_, _, rfl, S7.trans S8⟩
      · obtain ⟨y5, y6, rfl, S7⟩ := hP
        exact q _ (S2.trans (S6.trans S7))
end
end Tb
namespace Tb
open PySem PySem.Spec PyProof.Rows L2
abbrev sHPosts : Stmt := topS 11
abbrev NHPosts : List Str := ["postings", "posting"]
theorem scHPosts : FnScope NHPosts ["postings"] (defScope sHPosts) := ⟨rfl, rfl, rfl, by decide +kernel, rfl, by decide +kernel, by decide +kernel⟩
abbrev sHousePH : Stmt := topS 29
abbrev NHousePH : List Str := ["postings", "due", "passed", "turn", "actual"]
theorem scHousePH : FnScope NHousePH ["postings"] (defScope sHousePH) := ⟨rfl, rfl, rfl, by decide +kernel, rfl, by decide +kernel, by decide +kernel⟩
section
variable {P : Program} {w : World} {K : PySem.W.Frag} {mg : Str → Option Value} {base : Heap}
def spHPosts : Sp := fun vs H Q _ => ∃ (l : Addr) (bs : List (Addr × Po)), vs = [.ref l] ∧ H l = some (.lst (bs.map fun b => V.ref b.1)) ∧ (∀ b ∈ bs, PoAt H b.1 b.2) ∧ bs.length ≤ 60 ∧ ∀ (r : Addr) (H' : Hp), Same H H' → H r = none → H' r = some (.lst ((bs.filter housy).map fun b => V.ref b.1)) → Q (.ref r) H'
theorem ok_hposts {f : Addr} {fd : FuncData} {k : Nat} (F : Fun K "house_postings" "house_postings" sHPosts f fd) : FnOk P w K mg base CX0 (k + 1) f fd ["postings"] spHPosts := by
  refine F.ok scHPosts (fun vs H Q E h => ?_) (fun cdv A outer s H vs Q E hr h => ?_)
  · obtain ⟨l, bs, rfl, _⟩ := h
    rfl
  · obtain ⟨l, bs, rfl, hS, hT, hl, q⟩ := h
    refine ⟨_, (pss_one (ps_ret (pe_lc (own := [("posting", 1)]) (g := gName 1) (by rfl) scHPosts.nd (pi_list (pv 0)) (blkOk_by (N := NHPosts) (sc := defScope sHPosts) (by decide +kernel)) (fun _ _ _ _ _ => pg_name (i := 1) scHPosts.nd rfl (Or.inl rfl)) (fun _ _ _ _ _ => pts_one (PW.pt (pw_and (pt_cmpR op_eq (pe_ix (r := rIxT K) ix_tup (pe_ix (r := rIxT K) ix_tup (pv 1) pe_int (fun _ _ => rfl)) pe_int (fun _ _ => rfl)) pe_str (nomark _)) (pw_and1 (pt_cmpR op_eq (pe_ix (r := rIxT K) ix_tup (pe_ix (r := rIxT K) ix_tup (pv 1) pe_int (fun _ _ => rfl)) pe_int (fun _ _ => rfl)) pe_str (nomark _)))))) (fun _ _ _ _ _ => pv 1)))), ?_⟩
    have hz : sizeLine = 16777216 := rfl
    refine ⟨.ref l, rfl, l, rfl, ⟨_, sqOf hS⟩, fun D nD => ?_⟩
    refine lc_it (walk_list (a := l) (xs := bs.map fun b => V.ref b.1)) (fun i H1 => Same H H1 ∧ H1 D = some (.lst (((bs.take i).filter housy).map fun b => V.ref b.1))) ⟨same_upd nD, upd_same⟩ (fun i H1 _ hP => sqOf (hP.1 _ _ hS)) (fun i v H1 H2 hi hP hy => ?_) (fun H1 hP => ?_)
    · obtain ⟨S1, hD⟩ := hP
      obtain ⟨rfl, ev⟩ := hy
      rw [List.getElem?_map] at ev
      obtain ⟨b, eb, rfl⟩ := Option.map_eq_some_iff.mp ev
      obtain ⟨D1, C1, hb, hd, hc⟩ := hT b (List.mem_of_getElem? eb)
      have ts := take_at eb
      have sT : SqT K H2 b.1 _ := .of (S1 _ _ hb)
      have sD : SqT K H2 D1 _ := .of (S1 _ _ hd)
      have sC : SqT K H2 C1 _ := .of (S1 _ _ hc)
      have stay : housy b = false → Same H H2 ∧ H2 D = some (.lst (((bs.take (i + 1)).filter housy).map fun b => V.ref b.1)) := fun e => ⟨S1, by rw [ts, List.filter_append, List.filter_cons_of_neg (by rw [e]; decide), List.filter_nil, List.append_nil]; exact hD⟩
      refine ⟨rfl, .ref b.1, rfl, b.1, _, 1, .ref D1, rfl, rfl, sT, rfl, D1, _, 0, .str b.2.d.1, rfl, rfl, sD, rfl, rfl, _, rfl, ite2 (fun e1 => ?_) (fun e1 => ?_)⟩
      · refine ⟨.ref b.1, rfl, b.1, _, 2, .ref C1, rfl, rfl, sT, rfl, C1, _, 0, .str b.2.c.1, rfl, rfl, sC, rfl, rfl, _, rfl, ite2 (fun e2 => ?_) (fun e2 => ?_)⟩
        · have e1 := V.str.inj (of_decide_eq_true e1)
          have e2 := V.str.inj (of_decide_eq_true e2)
          have hit : housy b = true := by
            unfold housy
            rw [e1, e2, decide_eq_true rfl]; rfl
          refine ⟨.ref b.1, rfl, _, hD, ?_, fun c o hc => ?_, ?_⟩
          · rw [List.length_map]
            have := List.length_filter_le housy (bs.take i)
            rw [List.length_take] at this
            omega
          · rw [upd_ne (ne_of_none hc nD)]; exact S1 _ _ hc
          · rw [upd_same, ts, List.filter_append, List.filter_cons_of_pos hit, List.filter_nil, List.map_append]; rfl
        · refine stay ?_
          unfold housy
          rw [decide_eq_false (fun z => e2 (decide_eq_true (congrArg V.str z))), Bool.and_false]
      · refine stay ?_
        unfold housy
        rw [decide_eq_false (fun z => e1 (decide_eq_true (congrArg V.str z))), Bool.false_and]
    · obtain ⟨S1, hD⟩ := hP
      rw [List.length_map, List.take_length] at hD
      exact q D H1 S1 nD hD
abbrev CHouseP (P : Program) (w : World) (K : PySem.W.Frag) (mg : Str → Option Value) (base : Heap) (g : Addr) (gd : FuncData) := C1 P w K mg base "_law_house_part" sHouseP ["postings"] 1 spHouseP g gd
abbrev CHPosts (P : Program) (w : World) (K : PySem.W.Frag) (mg : Str → Option Value) (base : Heap) (g : Addr) (gd : FuncData) := C1 P w K mg base "house_postings" sHPosts ["postings"] 1 spHPosts g gd
def spHousePH : Sp := fun vs H Q _ => ∃ (l : Addr) (ks : List Str) (bs : List (Addr × Po)), vs = [.ref l] ∧ Nms ks ∧ Pos ks H l bs ∧ bs.length ≤ 60 ∧ ∀ (H' : Hp), Same H H' → Q (.bl true) H'
theorem ok_houseph {f g1 g2 : Addr} {fd gd1 gd2 : FuncData} (F : Fun K "_law_house_part_holds" "_law_house_part_holds" sHousePH f fd) (cHouseP : CHouseP P w K mg base g1 gd1) (cHPosts : CHPosts P w K mg base g2 gd2) (B : Blt mg) : FnOk P w K mg base CX0 2 f fd ["postings"] spHousePH := by
  refine F.ok scHousePH (fun vs H Q E h => ?_) (fun cdv A outer s H vs Q E hr h => ?_)
  · obtain ⟨l, ks, bs, rfl, _⟩ := h
    rfl
  · obtain ⟨l, ks, bs, rfl, hN, hP, hl, q⟩ := h
    have hz : sizeLine = 16777216 := rfl
    refine ⟨_, (pss_cons (ps_set (i := 1) scHousePH.nd rfl (.inl rfl) (pe_call cHouseP.G (hr.mono (by first | decide | omega)) (by rfl) cHouseP.D.g cHouseP.D.F.kp cHouseP.D.b .nil pass0 (pa_cons (pv 0) pa_nil)))
      (pss_cons (ps_set (i := 2) scHousePH.nd rfl (.inl rfl) (pe_callTy call_list_of (by rfl) B.list PyProof.Rows.boot_list (pa_cons (pv 0) pa_nil)))
      (pss_cons (ps_for PassesOwn.never rfl (pi_range1 (by rfl) B.range (pa_cons pe_int pa_nil)) (pg_name (i := 3) scHousePH.nd rfl (.inl rfl))
        (pss_cons (ps_set (i := 4) scHousePH.nd rfl (.inl rfl) (pe_call cHPosts.G (hr.mono (by first | decide | omega)) (by rfl) cHPosts.D.g cHPosts.D.F.kp cHPosts.D.b .nil pass0 (pa_cons (pv 2) pa_nil)))
        (pss_cons (ps_if (PW.pt (pw_or (pt_not (pt_val (pe_callB call_isi (by rfl) B.isi (by decide +kernel) (pa_cons (pv 4) (pa_cons (pe_bltn (by rfl) B.list PyProof.Rows.boot_list (v := .ty "list") (u := .type "list") rfl) pa_nil))))) (pw_or (pt_cmpR (op_neD hr.units) (pv 4) (pv 1) (nomark _)) (pw_or1 (pt_cmpR (op_neD hr.units) (pv 2) (pv 0) (nomark _))))))
          (pss_one (ps_ret pe_bl))
          pss_nil)
        (pss_one (ps_expr (pe_bm PySem.F.plainAttrs_list PySem.F.slot_list_append PySem.F.type_list_append mt_append (pv 4) (pa_cons pe_int pa_nil)))))))
      (pss_one (ps_ret pe_bl))))), ?_⟩
    refine ⟨.ref l, rfl, l, bs, rfl, hP.l, hP.t, hl, fun due H1 S1 nd1 hd1 => ?_⟩
    refine ⟨.ref l, rfl, l, _, rfl, .inl (sqOf (S1 _ _ hP.l)), fun p np => ?_⟩
    have S2 := S1.trans (same_upd (o := .lst (bs.map fun b => V.ref b.1)) np)
    have hp2 : upd H1 p (.lst (bs.map fun b => V.ref b.1)) p = some (.lst (bs.map fun b => V.ref b.1)) := upd_same
    have hd2 := same_upd (o := .lst (bs.map fun b => V.ref b.1)) np _ _ hd1
    generalize upd H1 p (.lst (bs.map fun b => V.ref b.1)) = H2 at S2 hp2 hd2
    have hP2 : ∀ {H' : Hp}, Same H2 H' → ∀ b ∈ bs, PoAt H' b.1 b.2 := fun S b hb => (hP.t b hb).keep fun a xs e => S _ _ (S2 _ _ e)
    have samep : ∀ {H' : Hp} {Q' : VK}, Same H2 H' → Q' (.bl false) H' → rNeD K (.ref p) (.ref l) H' Q' := fun S q => same_po hN (S _ _ hp2) (S _ _ (S2 _ _ hP.l)) (hP2 S) hP.g q
    refine ⟨2, rfl, by decide, by decide, ?_⟩
    refine for_range (lo := 0) (n := 2) (fun i σ H3 => ∃ y3 y4, σ = [some (.ref l), some (.ref due), some (.ref p), y3, y4] ∧ Same H2 H3) ⟨none, none, rfl, Same.refl _⟩ ?_ ?_
    · rintro i σ H3 hi ⟨y3, y4, rfl, S3⟩
      refine ⟨.ref p, rfl, p, bs, rfl, S3 _ _ hp2, hP2 S3, hl, fun r H4 S4 nr hr4 => ?_⟩
      have S24 := S3.trans S4
      refine ⟨.ref r, rfl, .ref r, .ty "list", _, .type "list", true, rfl, .ty _, .base (.lst hr4), kit_ty (by decide +kernel), true, rfl, ?_⟩
      refine ⟨.ref r, rfl, .ref due, rfl, same_po hN hr4 (S24 _ _ hd2) (fun b hb => hP2 S24 b ((List.mem_filter.mp hb).1)) (fun b hb => hP.g b ((List.mem_filter.mp hb).1)) ⟨_, rfl, ite2 (fun e => by cases e) (fun _ => ?_)⟩⟩
      refine ⟨.ref p, rfl, .ref l, rfl, samep S24 ⟨_, rfl, ite2 (fun e => by cases e) (fun _ => ?_)⟩⟩
      refine ⟨.ref r, rfl, .inl ⟨rfl, _, sqOf hr4⟩, r, _, .int 3, rfl, rfl, hr4, ?_, ?_⟩
      · rw [List.length_map]
        have := List.length_filter_le housy bs
        omega
      · refine ⟨_, _, rfl, fun b o e => ?_⟩
        rw [upd_ne (ne_of_none (S3 _ _ e) nr)]
        exact S24 _ _ e
    · rintro σ H3 ⟨y3, y4, rfl, S3⟩
      exact q _ (S2.trans S3)
end
end Tb
namespace Tb
open PySem PySem.Spec PyProof.Rows L2
/-! facts of dicts of names and numbers -/
def putN (d : DN) (k : Str) (v : Int) : DN := if (d.any fun e => decide (e.1 = k)) = true then d.map (fun e => if e.1 = k then (e.1, v) else e) else d ++ [(k, v)]
theorem putK_kvN (k : Str) (v : Int) (d : DN) : putK (kvN d) ((Sum.inr k : Key)) (.int v) = kvN (putN d k v) := by
  have e1 : ((kvN d).any fun kv => decide (kv.1 = (Sum.inr k : Key))) = d.any fun e => decide (e.1 = k) := by
    unfold kvN
    rw [List.any_map]
    congr 1
    funext e
    exact decide_eq_decide.mpr ⟨fun z => Sum.inr.inj z, fun z => congrArg Sum.inr z⟩
  unfold putK putN
  rw [e1]
  by_cases h : (d.any fun e => decide (e.1 = k)) = true
  · rw [if_pos h, if_pos h]
    unfold kvN
    rw [List.map_map, List.map_map]
    refine List.map_congr_left fun e _ => ?_
    show (if (Sum.inr e.1 : Key) = (Sum.inr k : Key) then ((Sum.inr e.1 : Key), V.int v) else ((Sum.inr e.1 : Key), V.int e.2)) = _
    by_cases h2 : e.1 = k
    · rw [if_pos (congrArg Sum.inr h2)]
      show _ = ((Sum.inr (if e.1 = k then (e.1, v) else e).1 : Key), V.int (if e.1 = k then (e.1, v) else e).2)
      rw [if_pos h2]
    · rw [if_neg (fun z => h2 (Sum.inr.inj z))]
      show _ = ((Sum.inr (if e.1 = k then (e.1, v) else e).1 : Key), V.int (if e.1 = k then (e.1, v) else e).2)
      rw [if_neg h2]
  · rw [if_neg h, if_neg h]
    unfold kvN
    rw [List.map_append]; rfl
theorem putN_len (d : DN) (k : Str) (v : Int) : (putN d k v).length ≤ d.length + 1 := by
  unfold putN
  split
  · rw [List.length_map]; omega
  · rw [List.length_append]; exact Nat.le_refl _
theorem getN_cons (e : Str × Int) (d : DN) (k : Str) : getN (e :: d) k = if e.1 = k then some e.2 else getN d k := by
  unfold getN
  by_cases h : e.1 = k
  · rw [if_pos h, List.find?_cons_of_pos (by simpa using h)]; rfl
  · rw [if_neg h, List.find?_cons_of_neg (by simpa using h)]
theorem getN_none {k : Str} : ∀ {d : DN}, k ∉ d.map (·.1) → getN d k = none
  | [], _ => rfl
  | e :: d, h => by
    rw [getN_cons, if_neg (fun z => h (List.mem_cons.mpr (.inl z.symm))), getN_none (fun z => h (List.mem_cons_of_mem _ z))]
theorem getN_mem : ∀ {d : DN}, (d.map (·.1)).Nodup → ∀ {e : Str × Int}, e ∈ d → getN d e.1 = some e.2
  | [], _, _, h => by cases h
  | f :: d, nd, e, h => by
    obtain ⟨n1, n2⟩ := List.nodup_cons.mp nd
    rw [getN_cons]
    rcases List.mem_cons.mp h with rfl | h
    · rw [if_pos rfl]
    · rw [if_neg (fun z => n1 (List.mem_map.mpr ⟨e, h, z.symm⟩)), getN_mem n2 h]
theorem getN_put (d : DN) (k j : Str) (v : Int) : getN (putN d k v) j = if j = k then some v else getN d j := by
  apply mapInt_inj
  rw [← valV_kvN, ← putK_kvN, valV_put]
  by_cases h : j = k
  · rw [if_pos (by rw [h]), if_pos h]; rfl
  · rw [if_neg (fun z => h (Sum.inr.inj z)), if_neg h, valV_kvN]
theorem any_keyn {d : DN} {k : Str} : (d.any fun e => decide (e.1 = k)) = true ↔ k ∈ d.map (·.1) := by
  rw [List.any_eq_true, List.mem_map]
  exact ⟨fun ⟨e, h, c⟩ => ⟨e, h, of_decide_eq_true c⟩, fun ⟨e, h, c⟩ => ⟨e, h, decide_eq_true c⟩⟩
theorem putN_keys (d : DN) (k : Str) (v : Int) : (putN d k v).map (·.1) = if k ∈ d.map (·.1) then d.map (·.1) else d.map (·.1) ++ [k] := by
  unfold putN
  by_cases h : k ∈ d.map (·.1)
  · rw [if_pos (any_keyn.mpr h), if_pos h, List.map_map]
    refine List.map_congr_left fun e _ => ?_
    show (if e.1 = k then (e.1, v) else e).1 = e.1
    split <;> rfl
  · rw [if_neg (fun z => h (any_keyn.mp z)), if_neg h, List.map_append]; rfl
theorem putN_nd {d : DN} (nd : (d.map (·.1)).Nodup) (k : Str) (v : Int) : ((putN d k v).map (·.1)).Nodup := by
  rw [putN_keys]
  by_cases h : k ∈ d.map (·.1)
  · rw [if_pos h]; exact nd
  · rw [if_neg h]; exact nd_snoc nd h
def totN (d : DN) : Int := (d.map (·.2)).sum
theorem totn_cons (e : Str × Int) (d : DN) : totN (e :: d) = e.2 + totN d := rfl
theorem totn_map {k : Str} {c : Int} : ∀ {d : DN}, (d.map (·.1)).Nodup → k ∈ d.map (·.1) → totN (d.map fun e => if e.1 = k then (e.1, c) else e) = totN d - (getN d k).getD 0 + c
  | [], _, h => by cases h
  | f :: d, nd, h => by
    obtain ⟨n1, n2⟩ := List.nodup_cons.mp nd
    rw [List.map_cons, totn_cons, totn_cons, getN_cons]
    by_cases z : f.1 = k
    · rw [if_pos z, if_pos z]
      have e : (d.map fun e => if e.1 = k then (e.1, c) else e) = d := by
        have h2 : ∀ x ∈ d, (if x.1 = k then (x.1, c) else x) = id x := fun x hx => if_neg fun y => n1 (List.mem_map.mpr ⟨x, hx, y.trans z.symm⟩)
        rw [List.map_congr_left h2, List.map_id]
      rw [e]
      show c + totN d = f.2 + totN d - f.2 + c
      omega
    · rw [if_neg z, if_neg z, totn_map n2 ((List.mem_cons.mp h).resolve_left fun y => z y.symm)]
      omega
theorem totn_put {d : DN} (nd : (d.map (·.1)).Nodup) (k : Str) (v : Int) : totN (putN d k ((getN d k).getD 0 + v)) = totN d + v := by
  unfold putN
  by_cases h : k ∈ d.map (·.1)
  · rw [if_pos (any_keyn.mpr h), totn_map nd h]
    omega
  · rw [if_neg (fun z => h (any_keyn.mp z)), getN_none h]
    unfold totN
    rw [List.map_append, List.sum_append]
    simp
end Tb
namespace Tb
open PySem PySem.Spec PyProof.Rows L2
/-! balances of houses, payments -/
abbrev Row3 := Str × Str × Int
def val (d : DN) (k : Str) : Int := (getN d k).getD 0
def afterR (q : DN) (r : Row3) : DN :=
  let a := putN q r.1 (val q r.1 + r.2.2)
  putN a r.2.1 (val a r.2.1 - r.2.2)
def after (q : DN) (rs : List Row3) : DN := rs.foldl afterR q
/-- first payers, first payees -/
def settle : DN → DN → List Row3
  | (a, x) :: as, (b, y) :: bs =>
    if x = y then (a, b, x) :: settle as bs
    else if x < y then (a, b, x) :: settle as ((b, y - x) :: bs)
    else (a, b, y) :: settle ((a, x - y) :: as) bs
  | _, _ => []
termination_by as bs => as.length + bs.length
theorem settle_cons (a b : Str) (x y : Int) (as bs : DN) : settle ((a, x) :: as) ((b, y) :: bs) = if x = y then (a, b, x) :: settle as bs else if x < y then (a, b, x) :: settle as ((b, y - x) :: bs) else (a, b, y) :: settle ((a, x - y) :: as) bs := by rw [settle]
theorem settle_nil1 (bs : DN) : settle [] bs = [] := by
  rw [settle]
  intro _ _ _ _ _ _ h; cases h
theorem settle_nil2 (as : DN) : settle as [] = [] := by
  rw [settle]
  intro _ _ _ _ _ _ _ h; cases h
def AllPos (l : DN) : Prop := ∀ e ∈ l, 1 ≤ e.2
theorem AllPos.tl {e : Str × Int} {l : DN} (h : AllPos (e :: l)) : AllPos l := fun x hx => h x (List.mem_cons_of_mem _ hx)
theorem AllPos.hd {e : Str × Int} {l : DN} (h : AllPos (e :: l)) : 1 ≤ e.2 := h e List.mem_cons_self
theorem AllPos.put {a : Str} {v : Int} {l : DN} (h : AllPos l) (hv : 1 ≤ v) : AllPos ((a, v) :: l) := fun x hx => by
  rcases List.mem_cons.mp hx with rfl | hx
  · exact hv
  · exact h x hx
theorem AllPos.nn : ∀ {l : DN}, AllPos l → 0 ≤ totN l
  | [], _ => Int.le_refl 0
  | e :: l, h => by
    rw [totn_cons]
    have := AllPos.nn h.tl
    have := h.hd
    omega
theorem AllPos.zero {l : DN} (h : AllPos l) (t : totN l = 0) : l = [] := by
  cases l with
  | nil => rfl
  | cons e l =>
    rw [totn_cons] at t
    have := h.tl.nn
    have := h.hd
    omega
theorem tot_nil : totN [] = 0 := rfl
/-- an induction along the rule -/
theorem settle_ind {M : DN → DN → Prop} (h0 : ∀ bs, M [] bs) (h1 : ∀ as, M as [])
    (hs : ∀ a b x y as bs, (x = y → M as bs) → (x < y → M as ((b, y - x) :: bs)) → (y < x → M ((a, x - y) :: as) bs) → M ((a, x) :: as) ((b, y) :: bs)) : ∀ as bs, M as bs := by
  have go : ∀ (n : Nat) (as bs : DN), as.length + bs.length ≤ n → M as bs := by
    intro n
    induction n with
    | zero =>
      intro as bs h
      cases as with
      | nil => exact h0 bs
      | cons e as => simp at h
    | succ n ih =>
      intro as bs h
      cases as with
      | nil => exact h0 bs
      | cons e as =>
        cases bs with
        | nil => exact h1 _
        | cons f bs =>
          simp only [List.length_cons] at h
          exact hs e.1 f.1 e.2 f.2 as bs (fun _ => ih _ _ (by omega)) (fun _ => ih _ _ (by simp only [List.length_cons]; omega)) (fun _ => ih _ _ (by simp only [List.length_cons]; omega))
  exact fun as bs => go _ as bs (Nat.le_refl _)
def centsN (rs : List Row3) : Int := (rs.map (·.2.2)).sum
theorem cents_cons (r : Row3) (rs : List Row3) : centsN (r :: rs) = r.2.2 + centsN rs := rfl
theorem cents_app (a b : List Row3) : centsN (a ++ b) = centsN a + centsN b := by
  unfold centsN
  rw [List.map_append, List.sum_append]
theorem settle_cents : ∀ as bs : DN, AllPos as → AllPos bs → totN as = totN bs → centsN (settle as bs) = totN as := by
  refine settle_ind (fun bs _ pb t => ?_) (fun as pa _ t => ?_) fun a b x y as bs i1 i2 i3 pa pb t => ?_
  · rw [settle_nil1]; rfl
  · rw [settle_nil2, t]; rfl
  · rw [settle_cons]
    rw [totn_cons, totn_cons] at t
    have t : x + totN as = y + totN bs := t
    rw [totn_cons]
    show _ = x + totN as
    by_cases h : x = y
    · rw [if_pos h, cents_cons, i1 h pa.tl pb.tl (by omega)]
    · rw [if_neg h]
      by_cases h2 : x < y
      · rw [if_pos h2, cents_cons, i2 h2 pa.tl (pb.tl.put (by omega)) (by rw [totn_cons]; show _ = y - x + _; omega)]
      · rw [if_neg h2, cents_cons, i3 (by omega) (pa.tl.put (by omega)) pb.tl (by rw [totn_cons]; show x - y + _ = _; omega), totn_cons]
        show y + (x - y + _) = _
        omega
theorem settle_len : ∀ as bs : DN, AllPos as → AllPos bs → totN as = totN bs → as ≠ [] → 1 ≤ (settle as bs).length ∧ (settle as bs).length + 1 ≤ as.length + bs.length := by
  refine settle_ind (fun bs _ pb t n => absurd rfl n) (fun as pa _ t n => absurd (pa.zero t) n) fun a b x y as bs i1 i2 i3 pa pb t _ => ?_
  rw [settle_cons]
  rw [totn_cons, totn_cons] at t
  have t : x + totN as = y + totN bs := t
  by_cases h : x = y
  · rw [if_pos h, List.length_cons, List.length_cons, List.length_cons]
    by_cases e : as = []
    · subst e
      rw [settle_nil1]
      simp
      omega
    · have := i1 h pa.tl pb.tl (by omega) e
      omega
  · rw [if_neg h]
    by_cases h2 : x < y
    · rw [if_pos h2, List.length_cons, List.length_cons, List.length_cons]
      by_cases e : as = []
      · subst e
        have := pb.tl.nn
        rw [tot_nil] at t
        omega
      · have := i2 h2 pa.tl (pb.tl.put (by omega)) (by rw [totn_cons]; show _ = y - x + _; omega) e
        rw [List.length_cons] at this
        omega
    · rw [if_neg h2, List.length_cons, List.length_cons, List.length_cons]
      have := i3 (by omega) (pa.tl.put (by omega)) pb.tl (by rw [totn_cons]; show x - y + _ = _; omega) (by simp)
      rw [List.length_cons] at this
      omega
theorem settle_rows : ∀ as bs : DN, AllPos as → AllPos bs → ∀ r ∈ settle as bs, 1 ≤ r.2.2 ∧ r.1 ∈ as.map (·.1) ∧ r.2.1 ∈ bs.map (·.1) := by
  refine settle_ind (fun bs _ pb r h => ?_) (fun as pa _ r h => ?_) fun a b x y as bs i1 i2 i3 pa pb r h => ?_
  · rw [settle_nil1] at h; cases h
  · rw [settle_nil2] at h; cases h
  · have x1 : 1 ≤ x := pa.hd
    have y1 : 1 ≤ y := pb.hd
    rw [settle_cons] at h
    by_cases e : x = y
    · rw [if_pos e] at h
      rcases List.mem_cons.mp h with rfl | h
      · exact ⟨x1, List.mem_cons_self, List.mem_cons_self⟩
      · obtain ⟨h1, h2, h3⟩ := i1 e pa.tl pb.tl r h
        exact ⟨h1, List.mem_cons_of_mem _ h2, List.mem_cons_of_mem _ h3⟩
    · rw [if_neg e] at h
      by_cases e2 : x < y
      · rw [if_pos e2] at h
        rcases List.mem_cons.mp h with rfl | h
        · exact ⟨x1, List.mem_cons_self, List.mem_cons_self⟩
        · obtain ⟨h1, h2, h3⟩ := i2 e2 pa.tl (pb.tl.put (by omega)) r h
          exact ⟨h1, List.mem_cons_of_mem _ h2, h3⟩
      · rw [if_neg e2] at h
        rcases List.mem_cons.mp h with rfl | h
        · exact ⟨y1, List.mem_cons_self, List.mem_cons_self⟩
        · obtain ⟨h1, h2, h3⟩ := i3 (by omega) (pa.tl.put (by omega)) pb.tl r h
          exact ⟨h1, h2, List.mem_cons_of_mem _ h3⟩
theorem val_put (d : DN) (k j : Str) (v : Int) : val (putN d k v) j = if j = k then v else val d j := by
  unfold val
  rw [getN_put]
  split <;> rfl
theorem val_after (q : DN) (r : Row3) (k : Str) : val (afterR q r) k = val q k + (if r.1 = k then r.2.2 else 0) - (if r.2.1 = k then r.2.2 else 0) := by
  show val (putN (putN q r.1 (val q r.1 + r.2.2)) r.2.1 (val (putN q r.1 (val q r.1 + r.2.2)) r.2.1 - r.2.2)) k = _
  rw [val_put]
  by_cases h : k = r.2.1
  · subst h
    rw [if_pos rfl, if_pos rfl, val_put]
    by_cases h1 : r.2.1 = r.1
    · rw [if_pos h1, if_pos h1.symm, h1]
    · rw [if_neg h1, if_neg (fun z => h1 z.symm)]; omega
  · rw [if_neg h, if_neg (fun z : r.2.1 = k => h z.symm), val_put]
    by_cases h1 : k = r.1
    · subst h1
      rw [if_pos rfl, if_pos rfl]; omega
    · rw [if_neg h1, if_neg (fun z : r.1 = k => h1 z.symm)]; omega
theorem val_cons (e : Str × Int) (d : DN) (k : Str) : val (e :: d) k = if e.1 = k then e.2 else val d k := by
  unfold val
  rw [getN_cons]
  split <;> rfl
theorem val_none {d : DN} {k : Str} (h : k ∉ d.map (·.1)) : val d k = 0 := by
  unfold val
  rw [getN_none h]; rfl
theorem settle_zero : ∀ as bs : DN, AllPos as → AllPos bs → totN as = totN bs → (as.map (·.1)).Nodup → (bs.map (·.1)).Nodup → ∀ q : DN, (∀ k, val q k = val bs k - val as k) → ∀ k, val (after q (settle as bs)) k = 0 := by
  refine settle_ind (fun bs _ pb t _ _ q h k => ?_) (fun as pa _ t _ _ q h k => ?_) fun a b x y as bs i1 i2 i3 pa pb t na nb q h => ?_
  · rw [settle_nil1]
    show val q k = 0
    rw [h, pb.zero t.symm]; rfl
  · rw [settle_nil2]
    show val q k = 0
    rw [h, pa.zero t]; rfl
  · rw [totn_cons, totn_cons] at t
    have t : x + totN as = y + totN bs := t
    obtain ⟨na1, na2⟩ := List.nodup_cons.mp na
    obtain ⟨nb1, nb2⟩ := List.nodup_cons.mp nb
    have va : val as a = 0 := val_none na1
    have vb : val bs b = 0 := val_none nb1
    have h : ∀ k, val q k = (if b = k then y else val bs k) - (if a = k then x else val as k) := fun k => by
      rw [h k, val_cons, val_cons]
    rw [settle_cons]
    by_cases e : x = y
    · rw [if_pos e]
      refine i1 e pa.tl pb.tl (by omega) na2 nb2 _ fun k => ?_
      rw [val_after, h k]
      show _ + (if a = k then x else 0) - (if b = k then x else 0) = _
      split <;> split <;> (try subst_vars) <;> omega
    · rw [if_neg e]
      by_cases e2 : x < y
      · rw [if_pos e2]
        refine i2 e2 pa.tl (pb.tl.put (by omega)) (by rw [totn_cons]; show _ = y - x + _; omega) na2 nb _ fun k => ?_
        rw [val_after, h k, val_cons]
        show _ + (if a = k then x else 0) - (if b = k then x else 0) = (if b = k then y - x else _) - _
        split <;> split <;> (try subst_vars) <;> omega
      · rw [if_neg e2]
        refine i3 (by omega) (pa.tl.put (by omega)) pb.tl (by rw [totn_cons]; show x - y + _ = _; omega) na nb2 _ fun k => ?_
        rw [val_after, h k, val_cons]
        show _ + (if a = k then y else 0) - (if b = k then y else 0) = _ - (if a = k then x - y else _)
        split <;> split <;> (try subst_vars) <;> omega
end Tb
namespace Tb
open PySem PySem.Spec PyProof.Rows L2
theorem after_cons (q : DN) (r : Row3) (rs : List Row3) : after q (r :: rs) = after (afterR q r) rs := rfl
theorem after_app (q : DN) (a b : List Row3) : after q (a ++ b) = after (after q a) b := by
  unfold after
  rw [List.foldl_append]
/-- the names that stand in a dict -/
def Has (q : DN) (rs : List Row3) : Prop := ∀ r ∈ rs, r.1 ∈ q.map (·.1) ∧ r.2.1 ∈ q.map (·.1)
theorem keys_in {d : DN} {k : Str} {v : Int} (h : k ∈ d.map (·.1)) : (putN d k v).map (·.1) = d.map (·.1) := by
  rw [putN_keys, if_pos h]
theorem keys_afterR {q : DN} {r : Row3} (h : r.1 ∈ q.map (·.1) ∧ r.2.1 ∈ q.map (·.1)) : (afterR q r).map (·.1) = q.map (·.1) := by
  show (putN (putN q r.1 _) r.2.1 _).map (·.1) = _
  rw [keys_in (by rw [keys_in h.1]; exact h.2), keys_in h.1]
theorem keys_after : ∀ {rs : List Row3} {q : DN}, Has q rs → (after q rs).map (·.1) = q.map (·.1)
  | [], _, _ => rfl
  | r :: rs, q, h => by
    have e := keys_afterR (h r List.mem_cons_self)
    rw [after_cons, keys_after (q := afterR q r) (fun x hx => by rw [e]; exact h x (List.mem_cons_of_mem _ hx)), e]
theorem tot_afterR {q : DN} (nd : (q.map (·.1)).Nodup) (r : Row3) : totN (afterR q r) = totN q := by
  show totN (putN (putN q r.1 (val q r.1 + r.2.2)) r.2.1 (val (putN q r.1 (val q r.1 + r.2.2)) r.2.1 - r.2.2)) = _
  unfold val
  rw [Int.sub_eq_add_neg, totn_put (putN_nd nd _ _), totn_put nd]
  omega
theorem nd_afterR {q : DN} (nd : (q.map (·.1)).Nodup) (r : Row3) : ((afterR q r).map (·.1)).Nodup := putN_nd (putN_nd nd _ _) _ _
theorem nd_after : ∀ (rs : List Row3) {q : DN}, (q.map (·.1)).Nodup → ((after q rs).map (·.1)).Nodup
  | [], _, h => h
  | r :: rs, _, h => nd_after rs (nd_afterR h r)
theorem tot_after : ∀ (rs : List Row3) {q : DN}, (q.map (·.1)).Nodup → totN (after q rs) = totN q
  | [], _, _ => rfl
  | r :: rs, q, h => (tot_after rs (nd_afterR h r)).trans (tot_afterR h r)
/-! the positive balances -/
def posI (v : Int) : Int := if 0 < v then v else 0
def posN (d : DN) : Int := (d.map fun e => posI e.2).sum
theorem posn_cons (e : Str × Int) (d : DN) : posN (e :: d) = posI e.2 + posN d := rfl
theorem posn_map {k : Str} {c : Int} : ∀ {d : DN}, (d.map (·.1)).Nodup → k ∈ d.map (·.1) → posN (d.map fun e => if e.1 = k then (e.1, c) else e) = posN d - posI (val d k) + posI c
  | [], _, h => by cases h
  | f :: d, nd, h => by
    obtain ⟨n1, n2⟩ := List.nodup_cons.mp nd
    rw [List.map_cons, posn_cons, posn_cons, val_cons]
    by_cases z : f.1 = k
    · rw [if_pos z, if_pos z]
      have h2 : ∀ x ∈ d, (if x.1 = k then (x.1, c) else x) = id x := fun x hx => if_neg fun y => n1 (List.mem_map.mpr ⟨x, hx, y.trans z.symm⟩)
      rw [List.map_congr_left h2, List.map_id]
      show posI c + posN d = _
      omega
    · rw [if_neg z, if_neg z, posn_map n2 ((List.mem_cons.mp h).resolve_left fun y => z y.symm)]
      omega
theorem posn_put {d : DN} (nd : (d.map (·.1)).Nodup) (k : Str) (v : Int) : posN (putN d k v) = posN d - posI (val d k) + posI v := by
  unfold putN
  by_cases h : k ∈ d.map (·.1)
  · rw [if_pos (any_keyn.mpr h), posn_map nd h]
  · rw [if_neg (fun z => h (any_keyn.mp z)), val_none h]
    unfold posN
    rw [List.map_append, List.sum_append, List.map_cons, List.map_nil, List.sum_cons, List.sum_nil, show posI 0 = 0 from rfl]
    show _ + (posI v + 0) = _
    omega
theorem posn_afterR {q : DN} (nd : (q.map (·.1)).Nodup) {r : Row3} (h : 0 ≤ r.2.2) : posN q ≤ posN (afterR q r) + r.2.2 := by
  show _ ≤ posN (putN (putN q r.1 (val q r.1 + r.2.2)) r.2.1 (val (putN q r.1 (val q r.1 + r.2.2)) r.2.1 - r.2.2)) + _
  rw [posn_put (putN_nd nd _ _), posn_put nd]
  generalize val (putN q r.1 (val q r.1 + r.2.2)) r.2.1 = v
  unfold posI
  split <;> split <;> split <;> split <;> omega
theorem posn_after : ∀ {rs : List Row3} {q : DN}, (q.map (·.1)).Nodup → (∀ r ∈ rs, 0 ≤ r.2.2) → posN q ≤ posN (after q rs) + centsN rs
  | [], _, _, _ => by
    show _ ≤ _ + 0
    rw [Int.add_zero]; exact Int.le_refl _
  | r :: rs, q, nd, h => by
    have h1 := posn_afterR nd (h r List.mem_cons_self)
    have h2 := posn_after (rs := rs) (nd_afterR nd r) fun x hx => h x (List.mem_cons_of_mem _ hx)
    rw [cents_cons]
    rw [after_cons]
    omega
/-! in the order of the names -/
def ksN (d : DN) : List Str := (d.map (·.1)).mergeSort le1
def srtN (d : DN) : DN := (ksN d).map fun k => (k, val d k)
theorem ksn_perm (d : DN) : (ksN d).Perm (d.map (·.1)) := List.mergeSort_perm _ _
theorem self_map {d : DN} (nd : (d.map (·.1)).Nodup) : (d.map (·.1)).map (fun k => (k, val d k)) = d := by
  rw [List.map_map]
  refine (List.map_congr_left fun e he => ?_).trans (List.map_id _)
  show (e.1, val d e.1) = e
  unfold val
  rw [getN_mem nd he]; rfl
theorem srtn_perm {d : DN} (nd : (d.map (·.1)).Nodup) : (srtN d).Perm d := by
  have := (ksn_perm d).map fun k => (k, val d k)
  rwa [self_map nd] at this
def isNeg (e : Str × Int) : Bool := decide (e.2 < 0)
def isPos (e : Str × Int) : Bool := decide (0 < e.2)
def negE (e : Str × Int) : Str × Int := (e.1, -e.2)
def owing (d : DN) : DN := ((srtN d).filter isNeg).map negE
def owed (d : DN) : DN := (srtN d).filter isPos
def ruleN (d : DN) : List Row3 := settle (owing d) (owed d)
theorem owing_pos (d : DN) : AllPos (owing d) := fun e he => by
  obtain ⟨f, hf, rfl⟩ := List.mem_map.mp he
  have := of_decide_eq_true (List.mem_filter.mp hf).2
  show 1 ≤ -f.2
  omega
theorem owed_pos (d : DN) : AllPos (owed d) := fun e he => by
  have := of_decide_eq_true (List.mem_filter.mp he).2
  omega
theorem split_tot : ∀ d : DN, totN (d.filter isPos) - totN ((d.filter isNeg).map negE) = totN d ∧ totN (d.filter isPos) = posN d ∧ (d.filter isPos).length + ((d.filter isNeg).map negE).length = (d.filter fun e => !decide (e.2 = 0)).length
  | [] => ⟨rfl, rfl, rfl⟩
  | e :: d => by
    obtain ⟨h1, h2, h3⟩ := split_tot d
    by_cases p : 0 < e.2
    · have n : ¬ e.2 < 0 := by omega
      have z : ¬ e.2 = 0 := by omega
      rw [List.filter_cons_of_pos (p := isPos) (by simpa [isPos] using p), List.filter_cons_of_neg (p := isNeg) (by simpa [isNeg] using n), List.filter_cons_of_pos (by simpa using z), totn_cons, totn_cons, posn_cons, List.length_cons, List.length_cons]
      unfold posI
      rw [if_pos p]
      exact ⟨by omega, by omega, by omega⟩
    · by_cases n : e.2 < 0
      · have z : ¬ e.2 = 0 := by omega
        rw [List.filter_cons_of_neg (p := isPos) (by simpa [isPos] using p), List.filter_cons_of_pos (p := isNeg) (by simpa [isNeg] using n), List.filter_cons_of_pos (by simpa using z), List.map_cons, totn_cons, totn_cons, posn_cons, List.length_cons, List.length_cons]
        unfold posI
        rw [if_neg p]
        exact ⟨by show _ - (-e.2 + _) = _; omega, by omega, by omega⟩
      · have z : e.2 = 0 := by omega
        rw [List.filter_cons_of_neg (p := isPos) (by simpa [isPos] using p), List.filter_cons_of_neg (p := isNeg) (by simpa [isNeg] using n), List.filter_cons_of_neg (by simpa using z), totn_cons, posn_cons]
        unfold posI
        rw [if_neg p]
        exact ⟨by omega, by omega, h3⟩
/-- a sum in any order -/
theorem sum_perm {a b : List Int} (h : a.Perm b) : a.sum = b.sum := by
  induction h with
  | nil => rfl
  | cons x _ ih => rw [List.sum_cons, List.sum_cons, ih]
  | swap x y l => rw [List.sum_cons, List.sum_cons, List.sum_cons, List.sum_cons]; omega
  | trans _ _ h1 h2 => exact h1.trans h2
structure Even (d : DN) : Prop where
  nd : (d.map (·.1)).Nodup
  t : totN d = 0
theorem owe_eq {d : DN} (h : Even d) : totN (owing d) = totN (owed d) := by
  have := (split_tot (srtN d)).1
  rw [show totN (srtN d) = totN d from sum_perm ((srtn_perm h.nd).map _), h.t] at this
  show totN (((srtN d).filter isNeg).map negE) = totN ((srtN d).filter isPos)
  omega
theorem owed_tot {d : DN} (h : Even d) : totN (owed d) = posN d :=
  (split_tot (srtN d)).2.1.trans (sum_perm ((srtn_perm h.nd).map _))
def uneven (d : DN) : DN := d.filter fun e => !decide (e.2 = 0)
theorem owe_len {d : DN} (h : Even d) : (owed d).length + (owing d).length = (uneven d).length :=
  (split_tot (srtN d)).2.2.trans ((srtn_perm h.nd).filter _).length_eq
theorem rule_cents {d : DN} (h : Even d) : centsN (ruleN d) = posN d := by
  rw [← owed_tot h, ← owe_eq h]
  exact settle_cents _ _ (owing_pos d) (owed_pos d) (owe_eq h)
theorem rule_len {d : DN} (h : Even d) : (ruleN d = [] ∧ uneven d = []) ∨ (1 ≤ (ruleN d).length ∧ (ruleN d).length + 1 ≤ (uneven d).length) := by
  by_cases e : owing d = []
  · left
    have e2 : owed d = [] := (owed_pos d).zero (by rw [← owe_eq h, e]; rfl)
    refine ⟨by unfold ruleN; rw [e, settle_nil1], List.eq_nil_of_length_eq_zero ?_⟩
    rw [← owe_len h, e, e2]; rfl
  · right
    have := settle_len _ _ (owing_pos d) (owed_pos d) (owe_eq h) e
    rw [← owe_len h]
    unfold ruleN
    omega
theorem srtn_keys (d : DN) : (srtN d).map (·.1) = ksN d := by
  unfold srtN
  rw [List.map_map]
  exact (List.map_congr_left fun _ _ => rfl).trans (List.map_id _)
theorem ksn_nd {d : DN} (h : (d.map (·.1)).Nodup) : (ksN d).Nodup := (ksn_perm d).nodup_iff.mpr h
theorem owed_sub (d : DN) : ((owed d).map (·.1)).Sublist (ksN d) := by
  rw [← srtn_keys d]
  exact List.filter_sublist.map _
theorem owing_keys (d : DN) : (owing d).map (·.1) = ((srtN d).filter isNeg).map (·.1) := by
  unfold owing
  rw [List.map_map]; rfl
theorem owing_sub (d : DN) : ((owing d).map (·.1)).Sublist (ksN d) := by
  rw [owing_keys, ← srtn_keys d]
  exact List.filter_sublist.map _
theorem rule_rows (d : DN) : ∀ r ∈ ruleN d, 1 ≤ r.2.2 ∧ r.1 ∈ d.map (·.1) ∧ r.2.1 ∈ d.map (·.1) := fun r hr => by
  obtain ⟨h1, h2, h3⟩ := settle_rows _ _ (owing_pos d) (owed_pos d) r hr
  exact ⟨h1, (ksn_perm d).mem_iff.mp ((owing_sub d).subset h2), (ksn_perm d).mem_iff.mp ((owed_sub d).subset h3)⟩
theorem rule_has (d : DN) : Has d (ruleN d) := fun r hr => (rule_rows d r hr).2
theorem val_mem {d : DN} (nd : (d.map (·.1)).Nodup) {e : Str × Int} (h : e ∈ d) : val d e.1 = e.2 := by
  unfold val
  rw [getN_mem nd h]; rfl
theorem val_split {d : DN} (nd : (d.map (·.1)).Nodup) : ∀ k, val d k = val (owed d) k - val (owing d) k := by
  have nk := ksn_nd nd
  have n1 : ((owed d).map (·.1)).Nodup := (owed_sub d).nodup nk
  have n2 : ((owing d).map (·.1)).Nodup := (owing_sub d).nodup nk
  have mem : ∀ e, e ∈ srtN d → val d e.1 = e.2 := fun e he => by
    obtain ⟨k, _, rfl⟩ := List.mem_map.mp he
    rfl
  intro k
  by_cases h : k ∈ d.map (·.1)
  · have hk : (k, val d k) ∈ srtN d := List.mem_map.mpr ⟨k, (ksn_perm d).mem_iff.mpr h, rfl⟩
    by_cases p : 0 < val d k
    · have e1 := val_mem n1 (e := (k, val d k)) (List.mem_filter.mpr ⟨hk, decide_eq_true p⟩)
      have e2 : k ∉ (owing d).map (·.1) := fun z => by
        rw [owing_keys] at z
        obtain ⟨f, hf, ef⟩ := List.mem_map.mp z
        obtain ⟨f1, f2⟩ := List.mem_filter.mp hf
        have := of_decide_eq_true f2
        rw [← mem f f1, ef] at this
        omega
      rw [val_none e2, show val (owed d) k = val d k from e1]
      omega
    · have e1 : k ∉ (owed d).map (·.1) := fun z => by
        obtain ⟨f, hf, ef⟩ := List.mem_map.mp z
        obtain ⟨f1, f2⟩ := List.mem_filter.mp hf
        have := of_decide_eq_true f2
        rw [← mem f f1, ef] at this
        omega
      rw [val_none e1]
      by_cases n : val d k < 0
      · have e2 := val_mem n2 (e := (k, -val d k)) (List.mem_map.mpr ⟨(k, val d k), List.mem_filter.mpr ⟨hk, decide_eq_true n⟩, rfl⟩)
        rw [show val (owing d) k = -val d k from e2]
        omega
      · have e2 : k ∉ (owing d).map (·.1) := fun z => by
          rw [owing_keys] at z
          obtain ⟨f, hf, ef⟩ := List.mem_map.mp z
          obtain ⟨f1, f2⟩ := List.mem_filter.mp hf
          have := of_decide_eq_true f2
          rw [← mem f f1, ef] at this
          omega
        rw [val_none e2]
        omega
  · rw [val_none h, val_none fun z => h ((ksn_perm d).mem_iff.mp ((owed_sub d).subset z)), val_none fun z => h ((ksn_perm d).mem_iff.mp ((owing_sub d).subset z))]
    rfl
theorem rule_zero {d : DN} (h : Even d) (k : Str) : val (after d (ruleN d)) k = 0 :=
  settle_zero _ _ (owing_pos d) (owed_pos d) (owe_eq h) ((owing_sub d).nodup (ksn_nd h.nd)) ((owed_sub d).nodup (ksn_nd h.nd)) d (val_split h.nd) k
theorem even_after {d : DN} (h : Even d) (rs : List Row3) : Even (after d rs) := ⟨nd_after rs h.nd, (tot_after rs h.nd).trans h.t⟩
/-- other payments that settle -/
structure Oth (d : DN) (rs : List Row3) : Prop where
  has : Has d rs
  nn : ∀ r ∈ rs, 0 ≤ r.2.2
  ge : posN d ≤ centsN rs
  zero : ∀ k, val (after d rs) k = 0
theorem oth_of {d : DN} (h : Even d) {found : List Row3} (hs : Has d found) (nn : ∀ r ∈ found, 0 ≤ r.2.2) : Oth d (found ++ ruleN (after d found)) := by
  have he := even_after h found
  refine ⟨fun r hr => ?_, fun r hr => ?_, ?_, fun k => ?_⟩
  · rcases List.mem_append.mp hr with hr | hr
    · exact hs r hr
    · have := rule_has _ r hr
      rwa [keys_after hs] at this
  · rcases List.mem_append.mp hr with hr | hr
    · exact nn r hr
    · have := (rule_rows _ r hr).1
      omega
  · rw [cents_app, rule_cents he]
    have := posn_after h.nd nn
    omega
  · rw [after_app]
    exact rule_zero he k
end Tb
namespace Tb
open PySem PySem.Spec PyProof.Rows L2
abbrev sPurse : Stmt := topS 30
abbrev NPurse : List Str := ["box", "names", "postings", "sums", "drawn", "shift", "found", "left", "order", "name", "cents"]
theorem scPurse : FnScope NPurse ["box", "names", "postings"] (defScope sPurse) := ⟨rfl, rfl, rfl, by decide +kernel, rfl, by decide +kernel, by decide +kernel⟩
theorem putN_new {d : DN} {k : Str} {v : Int} (h : k ∉ d.map (·.1)) : putN d k v = d ++ [(k, v)] := by
  unfold putN
  rw [if_neg (fun z => h (any_keyn.mp z))]
theorem dput_N {H : Hp} {D : Addr} {d : DN} {k : Str} {v : Int} (e : H D = some (.dK (kvN d))) (l : d.length < sizeLine) : DPut H D (.str k) (.int v) (upd H D (.dK (kvN (putN d k v)))) := by
  rw [← putK_kvN]
  exact .inl ⟨_, Sum.inr k, e, rfl, by rw [kvN_len]; exact l, rfl⟩
theorem cut_lo (xs : List V) (k : Nat) (h : k ≤ xs.length) : cutV xs (some (k : Int)) none = xs.drop k := by
  unfold cutV
  rw [HT.sIx_nat, Nat.min_eq_left h, HT.sIx_none, ← List.length_drop, List.take_length]
theorem cut_lh (xs : List V) (k : Nat) (h : 1 + k ≤ xs.length) : cutV xs (some 1) (some ((1 + k : Nat) : Int)) = (xs.drop 1).take k := by
  have e : HT.sIx xs.length 0 (some 1) = 1 := by
    rw [show (some 1 : Option Int) = some ((1 : Nat) : Int) from rfl, HT.sIx_nat]; omega
  unfold cutV
  rw [HT.sIx_nat, Nat.min_eq_left h, e, Nat.add_sub_cancel_left]
theorem last_at {os : List Str} (h : 0 < os.length) : ∃ z, os[os.length - 1]? = some z ∧ atI (os.map V.str) (-1) = some (.str z) := by
  obtain ⟨ys, y, rfl⟩ : ∃ ys y, os = ys ++ [y] := ⟨os.dropLast, os.getLast (List.length_pos_iff.mp h), (List.dropLast_concat_getLast _).symm⟩
  refine ⟨y, by simp, ?_⟩
  rw [List.map_append]
  exact atI_last _ _
theorem take_nm {os : List Str} (nd : os.Nodup) {i : Nat} {k : Str} (h : os[i]? = some k) : k ∉ os.take i := by
  intro z
  obtain ⟨j, hj⟩ := List.mem_iff_getElem?.mp z
  have lj : j < i := by
    rcases Nat.lt_or_ge j i with c | c
    · exact c
    · rw [List.getElem?_eq_none (by rw [List.length_take]; omega)] at hj; cases hj
  rw [List.getElem?_take_of_lt lj] at hj
  have := (List.getElem?_inj (by rcases Nat.lt_or_ge j os.length with c | c; exact c; rw [List.getElem?_eq_none c] at hj; cases hj) nd).mp (hj.trans h.symm)
  omega
/-- a sum over names, each once -/
theorem house_tot {os : List Str} (nd : os.Nodup) : ∀ {s : DS}, (s.map (·.1)).Nodup → (∀ e ∈ s, e.1.1 = Str.ofString "house" ∧ e.1.2 ∈ os) → (os.map fun n => (getD s ((Str.ofString "house", n) : Pr)).getD 0).sum = totD s
  | [], _, _ => by
    have : ∀ l : List Str, (l.map fun _ => (0 : Int)).sum = 0 := fun l => by
      induction l with
      | nil => rfl
      | cons a l ih => rw [List.map_cons, List.sum_cons, ih]; rfl
    exact this os
  | e :: s, ns, h => by
    obtain ⟨n1, n2⟩ := List.nodup_cons.mp ns
    obtain ⟨h1, h2⟩ := h e List.mem_cons_self
    have ih := house_tot nd n2 fun x hx => h x (List.mem_cons_of_mem _ hx)
    rw [tot_cons, ← ih]
    have ee : e.1 = ((Str.ofString "house", e.1.2) : Pr) := Prod.ext h1 rfl
    have z0 : (getD s ((Str.ofString "house", e.1.2) : Pr)).getD 0 = 0 := by
      rw [← ee, getD_none n1]; rfl
    have go : ∀ l : List Str, l.Nodup → (l.map fun n => (getD (e :: s) ((Str.ofString "house", n) : Pr)).getD 0).sum = (if e.1.2 ∈ l then e.2 else 0) + (l.map fun n => (getD s ((Str.ofString "house", n) : Pr)).getD 0).sum := by
      intro l
      induction l with
      | nil => exact fun _ => rfl
      | cons a l ih =>
        intro nl
        obtain ⟨m1, m2⟩ := List.nodup_cons.mp nl
        rw [List.map_cons, List.map_cons, List.sum_cons, List.sum_cons, ih m2, getD_cons]
        by_cases c : e.1.2 = a
        · rw [if_pos (by rw [ee, c]), if_neg (by rw [c]; exact m1), if_pos (by rw [c]; exact List.mem_cons_self), ← c, z0]
          show e.2 + (0 + _) = e.2 + (0 + _)
          rfl
        · rw [if_neg (fun z => c (by rw [z]))]
          by_cases c2 : e.1.2 ∈ l
          · rw [if_pos c2, if_pos (List.mem_cons_of_mem _ c2)]; omega
          · rw [if_neg c2, if_neg (fun z => (List.mem_cons.mp z).elim c c2)]; omega
    rw [go os nd, if_pos h2]
theorem sums_keys {R : Pr → Prop} : ∀ (ps : List Po), (∀ o ∈ ps, R o.d ∧ R o.c) → ∀ e ∈ sumD ps, R e.1 := by
  have put : ∀ (d : DS) (k : Pr) (v : Int), (∀ e ∈ d, R e.1) → R k → ∀ e ∈ putD d k v, R e.1 := fun d k v hd hk e he => by
    have : e.1 ∈ (putD d k v).map (·.1) := List.mem_map.mpr ⟨e, he, rfl⟩
    rw [putD_keys] at this
    have old : e.1 ∈ d.map (·.1) → R e.1 := fun z => by
      obtain ⟨x, hx, ex⟩ := List.mem_map.mp z
      rw [← ex]; exact hd x hx
    split at this
    · exact old this
    · rcases List.mem_append.mp this with z | z
      · exact old z
      · rw [List.mem_singleton.mp z]; exact hk
  have fold : ∀ (ps : List Po) (d : DS), (∀ o ∈ ps, R o.d ∧ R o.c) → (∀ e ∈ d, R e.1) → ∀ e ∈ ps.foldl stepD d, R e.1 := by
    intro ps
    induction ps with
    | nil => exact fun d _ hd => hd
    | cons o ps ih => exact fun d ho hd => ih _ (fun x hx => ho x (List.mem_cons_of_mem _ hx)) (put _ _ _ (put _ _ _ hd (ho o List.mem_cons_self).1) (ho o List.mem_cons_self).2)
  exact fun ps h => fold ps [] h fun e he => by cases he
/-- balances of the names that sum to 0 -/
structure Purse (ks : List Str) (d : DN) : Prop where
  e : Even d
  p : (d.map (·.1)).Perm ks.tail
section
variable {P : Program} {w : World} {K : PySem.W.Frag} {mg : Str → Option Value} {base : Heap}
def spPurse : Sp := fun vs H Q _ => ∃ (p g l po : Addr) (n : Nat) (ks : List Str) (bs : List (Addr × Po)), vs = [.ref p, .ref l, .ref po] ∧ Box g n H p ∧ n < 2 ^ 58 ∧ Nms ks ∧ H l = some (.lst (ks.map V.str)) ∧ l ≠ p ∧ l ≠ g ∧ Pos ks H po bs ∧ bs.length ≤ 60 ∧ ∀ (r : Addr) (d : DN) (H' : Hp), Purse ks d → H' r = some (.dK (kvN d)) → H r = none → Box g (n + 200) H' p → But2 p g H H' → Q (.ref r) H'
theorem ok_purse {f g1 g2 g3 g4 : Addr} {fd gd1 gd2 gd3 gd4 : FuncData} (F : Fun K "_law_purse" "_law_purse" sPurse f fd) (cDraw : CDraw P w K mg base g1 gd1) (cCents : CCents P w K mg base g2 gd2) (cSums : CSums P w K mg base g3 gd3) (cHouseP : CHouseP P w K mg base g4 gd4) (B : Blt mg) : FnOk P w K mg base CX0 3 f fd ["box", "names", "postings"] spPurse := by
  refine F.ok scPurse (fun vs H Q E h => ?_) (fun cdv A outer s H vs Q E hr h => ?_)
  · obtain ⟨p, G, l, po, n, ks, bs, rfl, _⟩ := h
    rfl
  · obtain ⟨p, G, l, po, n, ks, bs, rfl, hB, hn, hN, hL, lp, lg, hP, hl, q⟩ := h
    have hu := hu_of hr
    have hz : sizeLine = 16777216 := rfl
    refine ⟨_, (pss_cons (ps_set (i := 3) scPurse.nd rfl (.inl rfl) (pe_call cSums.G (hr.mono (by first | decide | omega)) (by rfl) cSums.D.g cSums.D.F.kp cSums.D.b .nil pass0 (pa_cons (pe_call cHouseP.G (hr.mono (by first | decide | omega)) (by rfl) cHouseP.D.g cHouseP.D.F.kp cHouseP.D.b .nil pass0 (pa_cons (pv 2) pa_nil)) pa_nil)))
      (pss_cons (ps_set (i := 4) scPurse.nd rfl (.inl rfl) (pe_call cDraw.G (hr.mono (by first | decide | omega)) (by rfl) cDraw.D.g cDraw.D.F.kp cDraw.D.b .nil pass0 (pa_cons (pv 0) (pa_cons pe_int pa_nil))))
      (pss_cons (ps_set (i := 5) scPurse.nd rfl (.inl rfl) (pe_call cDraw.G (hr.mono (by first | decide | omega)) (by rfl) cDraw.D.g cDraw.D.F.kp cDraw.D.b .nil pass0 (pa_cons (pv 0) (pa_cons (pe_op op_sub (pe_callB call_len_seq (by rfl) B.len PySem.boot_len (pa_cons (pv 1) pa_nil)) pe_int) pa_nil))))
      (pss_cons (ps_set (i := 6) scPurse.nd rfl (.inl rfl) pe_dnewK)
      (pss_cons (ps_set (i := 7) scPurse.nd rfl (.inl rfl) pe_int)
      (pss_cons (ps_set (i := 8) scPurse.nd rfl (.inl rfl) (pe_op op_cat (pe_slice sl_list (pv 1) (po_some (pe_op op_add pe_int (pv 5))) po_none) (pe_slice sl_list (pv 1) (po_some pe_int) (po_some (pe_op op_add pe_int (pv 5))))))
      (C8.pss_cut (ps_if (pt_cmpR op_eq (pe_call cDraw.G (hr.mono (by first | decide | omega)) (by rfl) cDraw.D.g cDraw.D.F.kp cDraw.D.b .nil pass0 (pa_cons (pv 0) (pa_cons pe_int pa_nil))) pe_int (nomark _))
        (pss_one (ps_expr (pe_bm0 PySem.F.plainAttrs_list PySem.F.slot_list_reverse PySem.F.type_list_reverse mt_reverse (pv 8))))
        pss_nil)
      (pss_cons (ps_for PassesOwn.never rfl (pi_list (pv 8)) (pg_name (i := 9) scPurse.nd rfl (.inl rfl))
        (pss_cons (ps_set (i := 10) scPurse.nd rfl (.inl rfl) (pe_dget2 hu (pv 3) (pe_tup (pa_cons pe_str (pa_cons (pv 9) pa_nil))) pe_int ⟨rfl, by rfl, rfl, rfl⟩))
        (C8.pss_cut (ps_if (pt_cmpR op_eq (pv 4) pe_int (nomark _))
          (pss_cons (ps_set (i := 10) scPurse.nd rfl (.inl rfl) (pe_op op_mul (pe_ix ix_list (pe_lst (pa_cons pe_int (pa_cons pe_int (pa_cons (pe_un un_neg pe_int) (pa_cons pe_int pa_nil))))) (pe_call cDraw.G (hr.mono (by first | decide | omega)) (by rfl) cDraw.D.g cDraw.D.F.kp cDraw.D.b .nil pass0 (pa_cons (pv 0) (pa_cons pe_int pa_nil))) (fun _ _ => rfl)) (pe_call cCents.G (hr.mono (by first | decide | omega)) (by rfl) cCents.D.g cCents.D.F.kp cCents.D.b .nil pass0 (pa_cons (pv 0) pa_nil))))
          (pss_one (ps_if (pt_cmpR op_eq (pv 9) (pe_ix ix_list (pv 8) (pe_un un_neg pe_int) (fun _ _ => rfl)) (nomark _))
            (pss_one (ps_set (i := 10) scPurse.nd rfl (.inl rfl) (pe_un un_neg (pv 7))))
            pss_nil)))
          pss_nil)
        (pss_cons (ps_dput hu (pv 6) (pv 9) (pv 10) (by rfl))
        (pss_one (ps_set (i := 7) scPurse.nd rfl (.inl rfl) (pe_op op_add (pv 7) (pv 10))))))))
      (pss_one (ps_ret (pv 6))))))))))), ?_⟩
    refine ⟨.ref po, rfl, po, bs, rfl, hP.l, hP.t, hl, fun hp H1 S1 nh hh => ?_⟩
    refine ⟨hp, bs.filter housy, rfl, hh, fun b hb => (hP.t b (List.mem_filter.mp hb).1).keep fun a xs e => S1 _ _ e, Nat.le_trans (List.length_filter_le _ _) hl, fun S H2 S2 nS hS => ?_⟩
    obtain ⟨k2, k41⟩ : 2 ≤ ks.length ∧ ks.length ≤ 41 := by
      obtain ⟨stem, pl, is, rfl, _, _, _, _, _, _, n1, n40⟩ := hN.ex
      rw [List.length_cons, List.length_map]
      omega
    have S12 := S1.trans S2
    have B2 := hB.same S12
    refine ⟨.ref p, rfl, p, G, 2, n, rfl, B2, by omega, by decide, by decide, fun dr H3 dr0 dr1 B3 b3 => ?_⟩
    obtain ⟨Sp, Sg0⟩ := (hB.same S1).off nS
    have hS3 := b3 S _ hS Sp Sg0
    have hL3 := b3 l _ (S12 _ _ hL) lp lg
    refine ⟨.ref p, rfl, .ref l, rfl, l, _, rfl, .inl (sqOf hL3), _, 1, rfl, rfl, p, G, (ks.length : Int) - 1, n + 1, by rw [List.length_map]; rfl, B3, by omega, by omega, by omega, fun sh H4 sh0 sh1 B4 b4 => ?_⟩
    have hS4 := b4 S _ hS3 Sp Sg0
    have hL4 := b4 l _ hL3 lp lg
    have b04 := ((But2.same S12 : But2 p G _ _).trans b3).trans b4
    intro D nD
    have SD := same_upd (o := .dK []) nD
    obtain ⟨Dp, Dg⟩ := B4.off nD
    have B5 := B4.same SD
    have b05 := b04.trans (.same SD)
    have D0 : H D = none := b04.free Dp Dg nD
    have hS5 := SD _ _ hS4
    have hL5 := SD _ _ hL4
    have hD5 : L2.upd H4 D (.dK []) D = some (.dK (kvN [])) := upd_same
    generalize L2.upd H4 D (.dK []) = H5 at SD B5 b05 hS5 hL5 hD5
    have lk : (ks.map V.str).length = ks.length := List.length_map _
    obtain ⟨c, hc⟩ : ∃ c : Nat, sh = (c : Int) := ⟨sh.toNat, by omega⟩
    have ec : 1 + sh = ((1 + c : Nat) : Int) := by omega
    refine ⟨.ref l, rfl, .int sh, rfl, 1, sh, rfl, rfl, _, rfl, l, _, rfl, sqOf hL5, fun A1 nA1 => ?_⟩
    rw [ec, cut_lo _ _ (by omega)]
    have SA1 := same_upd (o := .lst ((ks.map V.str).drop (1 + c))) nA1
    have hA1 : upd H5 A1 (.lst ((ks.map V.str).drop (1 + c))) A1 = some (.lst ((ks.map V.str).drop (1 + c))) := upd_same
    generalize upd H5 A1 (.lst ((ks.map V.str).drop (1 + c))) = H6 at SA1 hA1
    refine ⟨.ref l, rfl, _, rfl, .int sh, rfl, 1, sh, rfl, rfl, _, rfl, l, _, rfl, sqOf (SA1 _ _ hL5), fun A2 nA2 => ?_⟩
    rw [ec, cut_lh _ _ (by omega)]
    have SA2 := same_upd (o := .lst (((ks.map V.str).drop 1).take c)) nA2
    have hA2 : upd H6 A2 (.lst (((ks.map V.str).drop 1).take c)) A2 = some (.lst (((ks.map V.str).drop 1).take c)) := upd_same
    have hA12 := SA2 _ _ hA1
    generalize upd H6 A2 (.lst (((ks.map V.str).drop 1).take c)) = H7 at SA2 hA2 hA12
    refine ⟨A1, A2, _, _, rfl, rfl, hA12, hA2, by rw [List.length_take, List.length_drop, List.length_drop]; omega, fun L nL => ?_⟩
    obtain ⟨os, hos⟩ : ∃ os, os = ks.drop (1 + c) ++ (ks.drop 1).take c := ⟨_, rfl⟩
    have pos : os.Perm ks.tail := by
      rw [hos]
      refine List.perm_append_comm.trans ?_
      rw [← List.drop_one, ← List.drop_drop, List.take_append_drop]
    have eos : (ks.map V.str).drop (1 + c) ++ ((ks.map V.str).drop 1).take c = os.map V.str := by
      rw [hos, List.map_append, List.map_drop, List.map_take, List.map_drop]
    rw [eos]
    have nL5 : H5 L = none := SA1.free (SA2.free nL)
    have S57 := (SA1.trans SA2).trans (same_upd (o := .lst (os.map V.str)) nL)
    have hL7 : upd H7 L (.lst (os.map V.str)) L = some (.lst (os.map V.str)) := upd_same
    generalize upd H7 L (.lst (os.map V.str)) = H8 at S57 hL7
    have B8 := B5.same S57
    have b08 := b05.trans (.same S57)
    have hS8 := S57 _ _ hS5
    have hD8 := S57 _ _ hD5
    obtain ⟨Lp, Lg⟩ := B5.off nL5
    have L0 : H L = none := b05.free Lp Lg nL5
    have nos : os.Nodup := by
      obtain ⟨stem, pl, is, rfl, nd, lt, _⟩ := hN.ex
      refine pos.nodup_iff.mpr ?_
      show (is.map (nmS stem pl)).Nodup
      exact List.pairwise_map.mpr (List.Pairwise.imp_of_mem (fun ha hb ne e => ne (nmS_inj (lt _ ha) (lt _ hb) e)) nd)
    have los : os.length = ks.length - 1 := by rw [pos.length_eq, List.length_tail]
    refine ⟨fun σ' H' => ∃ os : List Str, σ' = [some (.ref p), some (.ref l), some (.ref po), some (.ref S), some (.int dr), some (.int sh), some (.ref D), some (.int 0), some (.ref L), none, none] ∧ os.Perm ks.tail ∧ H' L = some (.lst (os.map V.str)) ∧ H' D = some (.dK (kvN [])) ∧ H' S = some (.dT (kvD (sumD ((bs.filter housy).map (·.2))))) ∧ Box G (n + 3) H' p ∧ But2 p G H H', ?_, ?_⟩
    · refine ⟨.ref p, rfl, p, G, 2, n + 2, rfl, B8.mono (by omega), by omega, by decide, by decide, fun v H9 v0 v1 B9 b9 => ?_⟩
      have hL9 := b9 _ _ hL7 Lp Lg
      refine ⟨rfl, _, rfl, ite2 (fun e => ?_) (fun e => ?_)⟩
      · refine ⟨.ref L, rfl, .inl ⟨rfl, _, sqOf hL9⟩, L, _, rfl, rfl, hL9, ?_⟩
        have hD9 := b9 _ _ hD8 Dp Dg
        have hS9 := b9 _ _ hS8 Sp Sg0
        refine ⟨os.reverse, rfl, (List.reverse_perm os).trans pos, by rw [upd_same, List.map_reverse], ?_, ?_, (B9.upd hL9 (ni_strs _) Lp Lg).mono (by omega), (b08.trans b9).updN L0⟩
        · rw [upd_ne (fun z => by rw [z, hL9] at hD9; cases hD9)]; exact hD9
        · rw [upd_ne (fun z => by rw [z, hL9] at hS9; cases hS9)]; exact hS9
      · exact ⟨os, rfl, pos, hL9, b9 _ _ hD8 Dp Dg, b9 _ _ hS8 Sp Sg0, B9.mono (by omega), b08.trans b9⟩
    · clear hL7 hD8 hS8 pos nos los eos hos
      clear os
      rintro σ' H9 ⟨os, rfl, pos, hL9, hD9, hS9, B9, b9⟩
      have nos : os.Nodup := by
        obtain ⟨stem, pl, is, rfl, nd, lt, _⟩ := hN.ex
        refine pos.nodup_iff.mpr ?_
        show (is.map (nmS stem pl)).Nodup
        exact List.pairwise_map.mpr (List.Pairwise.imp_of_mem (fun ha hb ne e => ne (nmS_inj (lt _ ha) (lt _ hb) e)) nd)
      have los : os.length = ks.length - 1 := by rw [pos.length_eq, List.length_tail]
      obtain ⟨s, hs⟩ : ∃ s, s = sumD ((bs.filter housy).map (·.2)) := ⟨_, rfl⟩
      rw [← hs] at hS9
      have S0 : H S = none := S1.free nS
      have DL : D ≠ L := fun z => by rw [z, hL9] at hD9; cases hD9
      have DS : D ≠ S := fun z => by rw [z, hS9] at hD9; cases hD9
      refine ⟨.ref L, rfl, L, rfl, ⟨_, sqOf hL9⟩, ?_⟩
      refine for_list (a := L) (xs := os.map V.str) (fun i σ HA => ∃ y9 y10 d, σ = [some (.ref p), some (.ref l), some (.ref po), some (.ref S), some (.int dr), some (.int sh), some (.ref D), some (.int (totN d)), some (.ref L), y9, y10] ∧ HA L = some (.lst (os.map V.str)) ∧ HA D = some (.dK (kvN d)) ∧ HA S = some (.dT (kvD s)) ∧ Box G (n + 3 + 4 * i) HA p ∧ But2 p G H HA ∧ d.map (·.1) = os.take i ∧ (dr ≠ 1 → ∀ e ∈ d, e.2 = (getD s ((Str.ofString "house", e.1) : Pr)).getD 0) ∧ (dr = 1 → i = os.length → totN d = 0))
        ⟨none, none, [], rfl, hL9, hD9, hS9, B9, b9, rfl, fun _ _ h => (by cases h), fun _ _ => rfl⟩ (fun i σ HA _ hP => by obtain ⟨y9, y10, d, rfl, hLA, _⟩ := hP; exact sqOf hLA) (fun i v σ HA ev hP => ?_) (fun σ HA hP => ?_)
      · obtain ⟨y9, y10, d, rfl, hLA, hDA, hSA, BA, bA, kd, g0, g1⟩ := hP
        rw [List.getElem?_map] at ev
        obtain ⟨nm, en, rfl⟩ := Option.map_eq_some_iff.mp ev
        have li : i < os.length := by
          rcases Nat.lt_or_ge i os.length with h | h
          · exact h
          · rw [List.getElem?_eq_none h] at en; cases en
        refine ⟨.ref S, rfl, S, rfl, .inr ⟨_, .of hSA⟩, .str nm, rfl, by show 2 ≤ sizeLine; omega, fun T nT => ?_⟩
        have ST := same_upd (o := .tup [V.str (Str.ofString "house"), V.str nm]) nT
        refine ⟨_, dget_D (k := ((Str.ofString "house", nm) : Pr)) (ST _ _ hSA) upd_same, ?_⟩
        rw [getD_map]
        have BT := BA.same ST
        have bT := bA.trans (.same ST)
        have hLT := ST _ _ hLA
        have hDT := ST _ _ hDA
        have hST := ST _ _ hSA
        generalize L2.upd HA T (.tup [V.str (Str.ofString "house"), V.str nm]) = HT at ST BT bT hLT hDT hST
        refine ⟨fun σ' H' => ∃ ct : Int, σ' = [some (.ref p), some (.ref l), some (.ref po), some (.ref S), some (.int dr), some (.int sh), some (.ref D), some (.int (totN d)), some (.ref L), some (.str nm), some (.int ct)] ∧ H' L = some (.lst (os.map V.str)) ∧ H' D = some (.dK (kvN d)) ∧ H' S = some (.dT (kvD s)) ∧ Box G (n + 3 + 4 * i + 4) H' p ∧ But2 p G H H' ∧ (dr ≠ 1 → ct = (getD s ((Str.ofString "house", nm) : Pr)).getD 0) ∧ (dr = 1 → i + 1 = os.length → ct = - totN d), ?_, ?_⟩
        · refine ⟨.int dr, rfl, rfl, _, rfl, ite2 (fun e => ?_) (fun e => ?_)⟩
          · refine ⟨1, rfl, by show 4 ≤ sizeLine; omega, fun W nW => ?_⟩
            have SW := same_upd (o := .lst [V.int 0, V.int 1, V.int (-1), V.int 1]) nW
            have hWW : upd HT W (.lst [V.int 0, V.int 1, V.int (-1), V.int 1]) W = some (.lst [V.int 0, V.int 1, V.int (-1), V.int 1]) := upd_same
            obtain ⟨Wp, Wg⟩ := BT.off nW
            refine ⟨.ref p, rfl, p, G, 4, n + 3 + 4 * i, rfl, BT.same SW, by omega, by decide, by decide, fun v HB v0 v1 BB bB => ?_⟩
            obtain ⟨x, hx⟩ : ∃ x : Int, [V.int 0, V.int 1, V.int (-1), V.int 1][v.toNat]? = some (.int x) := by
              rcases (show v = 0 ∨ v = 1 ∨ v = 2 ∨ v = 3 by omega) with rfl | rfl | rfl | rfl
              · exact ⟨0, rfl⟩
              · exact ⟨1, rfl⟩
              · exact ⟨-1, rfl⟩
              · exact ⟨1, rfl⟩
            refine ⟨W, _, v.toNat, .int x, rfl, congrArg V.int (show v = (v.toNat : Int) by omega), sqOf (bB W _ hWW Wp Wg), atI_nat hx, ?_⟩
            refine ⟨.ref p, rfl, p, G, n + 3 + 4 * i + 1, rfl, BB, by omega, fun ct HC ct0 ct1 BC bC => ?_⟩
            refine ⟨x, ct, rfl, rfl, .inr ⟨by omega, by omega⟩, ?_⟩
            have kp : ∀ b o, HT b = some o → b ≠ p → b ≠ G → HC b = some o := fun b o e n1 n2 => bC b o (bB b o (SW _ _ e) n1 n2) n1 n2
            have hLC := kp _ _ hLT Lp Lg
            have hDC := kp _ _ hDT Dp Dg
            have hSC := kp _ _ hST Sp Sg0
            have bTC := ((bT.trans (.same SW)).trans bB).trans bC
            obtain ⟨z, ez, az⟩ := last_at (os := os) (by omega)
            refine ⟨.str nm, rfl, .ref L, rfl, 1, rfl, L, _, -1, .str z, rfl, rfl, sqOf hLC, az, rfl, _, rfl, ite2 (fun e2 => ?_) (fun e2 => ?_)⟩
            · exact ⟨_, rfl, _, rfl, _, rfl, hLC, hDC, hSC, BC, bTC, fun z => absurd (V.int.inj (of_decide_eq_true e)) z, fun _ _ => rfl⟩
            · refine ⟨_, rfl, hLC, hDC, hSC, BC, bTC, fun z => absurd (V.int.inj (of_decide_eq_true e)) z, fun _ y => absurd ?_ e2⟩
              rw [show os.length - 1 = i by omega, en] at ez
              cases ez
              exact decide_eq_true rfl
          · refine ⟨_, rfl, hLT, hDT, hST, BT.mono (by omega), bT, fun _ => rfl, fun z => absurd (decide_eq_true (congrArg V.int z)) e⟩
        · rintro σ' HC ⟨ct, rfl, hLC, hDC, hSC, BC, bC, c0, c1⟩
          have nk : nm ∉ d.map (·.1) := by rw [kd]; exact take_nm nos en
          have ld : d.length = i := by
            have := congrArg List.length kd
            rw [List.length_map, List.length_take] at this
            omega
          refine ⟨.int ct, rfl, .ref D, rfl, .str nm, rfl, D, _, rfl, dput_N hDC (by omega), ?_⟩
          rw [putN_new nk]
          have td : totN (d ++ [(nm, ct)]) = totN d + ct := by
            unfold totN
            rw [List.map_append, List.sum_append]
            show _ + (ct + 0) = _
            omega
          refine ⟨.int (totN d), rfl, .int ct, rfl, _, _, rfl, rfl, _, _, d ++ [(nm, ct)], by rw [td]; rfl, ?_, upd_same, ?_, (BC.upd hDC (fun ⟨_, _, z⟩ => by cases z) Dp Dg).mono (by omega), bC.updN D0, ?_, fun z e he => ?_, fun z y => ?_⟩
          · rw [upd_ne (Ne.symm DL)]; exact hLC
          · rw [upd_ne (Ne.symm DS)]; exact hSC
          · rw [List.map_append, kd, take_at en]; rfl
          · rcases List.mem_append.mp he with he | he
            · exact g0 z e he
            · rw [List.mem_singleton.mp he]; exact c0 z
          · rw [td, c1 z y]; omega
      · obtain ⟨y9, y10, d, rfl, hLA, hDA, hSA, BA, bA, kd, g0, g1⟩ := hP
        rw [List.length_map] at kd g1
        rw [List.take_length] at kd
        have td : totN d = 0 := by
          by_cases z : dr = 1
          · exact g1 z rfl
          · have g0 := g0 z
            rw [← sums_tot ((bs.filter housy).map (·.2)), ← hs]
            have hk : ∀ e ∈ s, e.1.1 = Str.ofString "house" ∧ e.1.2 ∈ os := by
              rw [hs]
              refine sums_keys (R := fun k => k.1 = Str.ofString "house" ∧ k.2 ∈ os) _ fun o ho => ?_
              obtain ⟨b, hb, rfl⟩ := List.mem_map.mp ho
              obtain ⟨m, hm⟩ := List.mem_filter.mp hb
              have gb := hP.g b m
              unfold housy at hm
              rw [Bool.and_eq_true] at hm
              exact ⟨⟨of_decide_eq_true hm.1, pos.mem_iff.mpr gb.d2⟩, ⟨of_decide_eq_true hm.2, pos.mem_iff.mpr gb.c2⟩⟩
            rw [← house_tot nos (by rw [hs]; exact sums_nd _) hk, ← kd, List.map_map]
            unfold totN
            exact congrArg List.sum (List.map_congr_left fun e he => g0 e he)
        exact ⟨.ref D, rfl, q D d HA ⟨⟨by rw [kd]; exact nos, td⟩, by rw [kd]; exact pos⟩ hDA D0 (BA.mono (by rw [List.length_map]; omega)) bA⟩
end
end Tb
namespace Tb
open PySem PySem.Spec PyProof.Rows L2
abbrev sRule : Stmt := topS 31
abbrev NRule : List Str := ["purse", "owing", "owed", "found", "payer", "payee", "turn", "cents", "name"]
theorem scRule : FnScope NRule ["purse"] (defScope sRule) := ⟨rfl, rfl, rfl, by decide +kernel, rfl, by decide +kernel, by decide +kernel⟩
/-- rows in a list -/
structure Rws (H : Hp) (l : Addr) (bs : List (Addr × Row3)) : Prop where
  l : H l = some (.lst (bs.map fun b => V.ref b.1))
  t : ∀ b ∈ bs, H b.1 = some (.tup [.str b.2.1, .str b.2.2.1, .int b.2.2.2])
abbrev It2 := Addr × (Str × Int)
def ItL (H : Hp) (b : It2) : Prop := H b.1 = some (.lst [.str b.2.1, .int b.2.2])
structure Two (H : Hp) (l : Addr) (bs : List It2) : Prop where
  l : H l = some (.lst (bs.map fun b => V.ref b.1))
  t : ∀ b ∈ bs, ItL H b
theorem two_off {H : Hp} {D : Addr} {bs : List It2} (h : Two H D bs) {b : It2} (hb : ItL H b) : b.1 ≠ D := fun z => by
  unfold ItL at hb
  rw [z, h.l] at hb
  cases bs <;> cases hb
theorem Two.snoc {H : Hp} {D N : Addr} {bs : List It2} {nm : Str} {v : Int} (h : Two H D bs) (nN : H N = none) : Two (upd (upd H N (.lst [.str nm, .int v])) D (.lst ((bs.map fun b => V.ref b.1) ++ [.ref N]))) D (bs ++ [(N, (nm, v))]) := by
  have ND : N ≠ D := fun z => by rw [z, h.l] at nN; cases nN
  refine ⟨by rw [upd_same, List.map_append]; rfl, fun b hb => ?_⟩
  unfold ItL
  rcases List.mem_append.mp hb with hb | hb
  · rw [upd_ne (two_off h (h.t b hb))]
    exact same_upd nN _ _ (h.t b hb)
  · rw [List.mem_singleton.mp hb]
    rw [upd_ne ND, upd_same]
theorem Two.same {H H' : Hp} {D : Addr} {bs : List It2} (h : Two H D bs) (s : Same H H') : Two H' D bs := ⟨s _ _ h.l, fun b hb => s _ _ (h.t b hb)⟩
theorem Two.other {H : Hp} {D F : Addr} {bs : List It2} {α : Type} {zs : List (Addr × α)} {o : HO} (h : Two H D bs) (hF : H F = some (.lst (zs.map fun z => V.ref z.1))) (n : D ≠ F) : Two (upd H F o) D bs := by
  refine ⟨by rw [upd_ne n]; exact h.l, fun b hb => ?_⟩
  have hb := h.t b hb
  unfold ItL at hb ⊢
  rw [upd_ne (fun z => by rw [z, hF] at hb; cases zs <;> cases hb)]
  exact hb
theorem Rws.other {H : Hp} {D F : Addr} {bs : List (Addr × Row3)} {xs : List V} {o : HO} (h : Rws H D bs) (hF : H F = some (.lst xs)) (n : D ≠ F) : Rws (upd H F o) D bs := by
  refine ⟨by rw [upd_ne n]; exact h.l, fun b hb => ?_⟩
  have hb := h.t b hb
  rw [upd_ne (fun z => by rw [z, hF] at hb; cases hb)]
  exact hb
theorem Rws.same {H H' : Hp} {D : Addr} {bs : List (Addr × Row3)} (h : Rws H D bs) (s : Same H H') : Rws H' D bs := ⟨s _ _ h.l, fun b hb => s _ _ (h.t b hb)⟩
theorem Rws.snoc {H : Hp} {D T : Addr} {bs : List (Addr × Row3)} {r : Row3} (h : Rws H D bs) (nT : H T = none) : Rws (upd (upd H T (.tup [.str r.1, .str r.2.1, .int r.2.2])) D (.lst ((bs.map fun b => V.ref b.1) ++ [.ref T]))) D (bs ++ [(T, r)]) := by
  have TD : T ≠ D := fun z => by rw [z, h.l] at nT; cases nT
  refine ⟨by rw [upd_same, List.map_append]; rfl, fun b hb => ?_⟩
  rcases List.mem_append.mp hb with hb | hb
  · have := h.t b hb
    rw [upd_ne (fun z => by rw [z, h.l] at this; cases this)]
    exact same_upd nT _ _ this
  · rw [List.mem_singleton.mp hb]
    rw [upd_ne TD, upd_same]
theorem Two.set {H : Hp} {D N : Addr} {bs : List It2} {i : Nat} {nm : Str} {v : Int} (h : Two H D bs) (nN : H N = none) : Two (upd (upd H N (.lst [.str nm, .int v])) D (.lst ((bs.map fun b => V.ref b.1).set i (.ref N)))) D (bs.set i (N, (nm, v))) := by
  have ND : N ≠ D := fun z => by rw [z, h.l] at nN; cases nN
  refine ⟨by rw [upd_same, List.map_set], fun b hb => ?_⟩
  unfold ItL
  rcases List.mem_or_eq_of_mem_set hb with hb | hb
  · rw [upd_ne (two_off h (h.t b hb))]
    exact same_upd nN _ _ (h.t b hb)
  · rw [hb]
    rw [upd_ne ND, upd_same]
theorem ixN_at {n j : Nat} (h : j < n) : ixN n (j : Int) = some j := by
  unfold ixN
  rw [if_pos (by omega), if_pos (by omega), Int.toNat_natCast]
theorem set_drop {α : Type} {l : List α} {i : Nat} {v : α} (w : α) (h : l[i]? = some v) : l.drop i = v :: l.drop (i + 1) ∧ (l.set i w).drop i = w :: l.drop (i + 1) ∧ (l.set i w).drop (i + 1) = l.drop (i + 1) := by
  obtain ⟨lt, e⟩ := List.getElem?_eq_some_iff.mp h
  have h1 : l.drop i = v :: l.drop (i + 1) := by rw [List.drop_eq_getElem_cons lt, e]
  refine ⟨h1, ?_, ?_⟩
  · rw [List.drop_set, if_neg (Nat.lt_irrefl i), h1, Nat.sub_self]; rfl
  · rw [List.drop_set, if_pos (Nat.lt_succ_self i)]
theorem step_int (p : Nat) (x c : Int) : (p : Int) + (if decide (V.int (x - c) = V.int 0) = true then 1 else 0) = ((if x = c then p + 1 else p : Nat) : Int) := by
  by_cases h : x = c
  · rw [if_pos h, if_pos (by rw [h, Int.sub_self, decide_eq_true rfl])]; rfl
  · rw [if_neg h, if_neg (fun z => h (by have := V.int.inj (of_decide_eq_true z); omega))]; omega
/-- what is left of a list of sums -/
theorem left_list {l : List (Str × Int)} {p : Nat} {a : Str} {x : Int} (c : Int) (h : l[p]? = some (a, x)) : (l.set p (a, x - c)).drop (if x = c then p + 1 else p) = if x = c then l.drop (p + 1) else (a, x - c) :: l.drop (p + 1) := by
  obtain ⟨_, h2, h3⟩ := set_drop (a, x - c) h
  by_cases e : x = c
  · rw [if_pos e, if_pos e]; exact h3
  · rw [if_neg e, if_neg e]; exact h2
theorem val_get {d : DN} {k : Str} (h : k ∈ d.map (·.1)) : getN d k = some (val d k) := by
  unfold val
  cases e : getN d k with
  | some v => rfl
  | none =>
    obtain ⟨f, hf, rfl⟩ := List.mem_map.mp h
    have : ∀ {d : DN}, f ∈ d → getN d f.1 ≠ none := by
      intro d
      induction d with
      | nil => intro h; cases h
      | cons g d ih =>
        intro h z
        rw [getN_cons] at z
        by_cases c : g.1 = f.1
        · rw [if_pos c] at z; cases z
        · rw [if_neg c] at z
          rcases List.mem_cons.mp h with rfl | h
          · exact c rfl
          · exact ih h z
    exact absurd e (this hf)
theorem kvN_keys (d : DN) : (kvN d).map (·.1) = (d.map (·.1)).map Sum.inr := by
  unfold kvN
  rw [List.map_map, List.map_map]; rfl
section
variable {P : Program} {w : World} {K : PySem.W.Frag} {mg : Str → Option Value} {base : Heap}
def spRule : Sp := fun vs H Q _ => ∃ (r : Addr) (d : DN), vs = [.ref r] ∧ H r = some (.dK (kvN d)) ∧ (d.map (·.1)).Nodup ∧ d.length ≤ 100 ∧ ∀ (t : Addr) (bs : List (Addr × Row3)) (H' : Hp), Same H H' → H t = none → Rws H' t bs → bs.map (·.2) = ruleN d → Q (.ref t) H'
theorem ok_rule {f : Addr} {fd : FuncData} {k : Nat} (F : Fun K "_law_rule" "_law_rule" sRule f fd) (B : Blt mg) : FnOk P w K mg base CX0 (k + 1) f fd ["purse"] spRule := by
  refine F.ok scRule (fun vs H Q E h => ?_) (fun cdv A outer s H vs Q E hr h => ?_)
  · obtain ⟨r, d, rfl, _⟩ := h
    rfl
  · obtain ⟨r, d, rfl, hd, nd, ld, q⟩ := h
    have hu := Nat.lt_of_le_of_lt (Nat.add_le_add_left (show 1 ≤ 64 by decide) _) hr.units
    have hz : sizeLine = 16777216 := rfl
    refine ⟨_, (pss_cons (ps_setLc (i := 1) (own := [("name", 8)]) (g := gName 8) (by rfl) scRule.nd rfl rfl (sw_true rfl rfl rfl (by decide +kernel)) (pi_list (pe_callB (cr_sortedDk rfl hr.units) (by rfl) B.sorted PyProof.Rows.boot_sorted (pa_cons (pv 0) pa_nil))) (blkOk_by (N := NRule) (sc := defScope sRule) (by decide +kernel)) (fun _ _ _ _ _ => pg_name (i := 8) scRule.nd rfl (Or.inl rfl)) (fun _ _ _ _ _ => pts_one (pt_cmpR op_lt (pe_dget hu (pv 0) (pv 8) (fun _ _ => rfl)) pe_int (nomark _))) (fun _ _ _ _ _ => pe_lst (pa_cons (pv 8) (pa_cons (pe_un un_neg (pe_dget hu (pv 0) (pv 8) (fun _ _ => rfl))) pa_nil))))
      (pss_cons (ps_setLc (i := 2) (own := [("name", 8)]) (g := gName 8) (by rfl) scRule.nd rfl rfl (sw_true rfl rfl rfl (by decide +kernel)) (pi_list (pe_callB (cr_sortedDk rfl hr.units) (by rfl) B.sorted PyProof.Rows.boot_sorted (pa_cons (pv 0) pa_nil))) (blkOk_by (N := NRule) (sc := defScope sRule) (by decide +kernel)) (fun _ _ _ _ _ => pg_name (i := 8) scRule.nd rfl (Or.inl rfl)) (fun _ _ _ _ _ => pts_one (pt_cmpR op_gt (pe_dget hu (pv 0) (pv 8) (fun _ _ => rfl)) pe_int (nomark _))) (fun _ _ _ _ _ => pe_lst (pa_cons (pv 8) (pa_cons (pe_dget hu (pv 0) (pv 8) (fun _ _ => rfl)) pa_nil))))
      (pss_cons (ps_set (i := 3) scRule.nd rfl (.inl rfl) (pe_lst pa_nil))
      (pss_cons (ps_set (i := 4) scRule.nd rfl (.inl rfl) pe_int)
      (pss_cons (ps_set (i := 5) scRule.nd rfl (.inl rfl) pe_int)
      (pss_cons (ps_for PassesOwn.never rfl (pi_range1 (by rfl) B.range (pa_cons (pe_op op_add (pe_callB call_len_seq (by rfl) B.len PySem.boot_len (pa_cons (pv 1) pa_nil)) (pe_callB call_len_seq (by rfl) B.len PySem.boot_len (pa_cons (pv 2) pa_nil))) pa_nil)) (pg_name (i := 6) scRule.nd rfl (.inl rfl))
        (pss_cons (ps_if (PW.pt (pw_or (pt_cmpR op_ge (pv 4) (pe_callB call_len_seq (by rfl) B.len PySem.boot_len (pa_cons (pv 1) pa_nil)) (nomark _)) (pw_or1 (pt_cmpR op_ge (pv 5) (pe_callB call_len_seq (by rfl) B.len PySem.boot_len (pa_cons (pv 2) pa_nil)) (nomark _)))))
          (pss_one ps_break)
          pss_nil)
        (pss_cons (ps_set (i := 7) scRule.nd rfl (.inl rfl) (pe_callB (call_min2 rfl) (by rfl) B.min (by decide +kernel) (pa_cons (pe_ix ix_list (pe_ix ix_list (pv 1) (pv 4) (fun _ _ => rfl)) pe_int (fun _ _ => rfl)) (pa_cons (pe_ix ix_list (pe_ix ix_list (pv 2) (pv 5) (fun _ _ => rfl)) pe_int (fun _ _ => rfl)) pa_nil))))
        (pss_cons (ps_expr (pe_bm PySem.F.plainAttrs_list PySem.F.slot_list_append PySem.F.type_list_append mt_append (pv 3) (pa_cons (pe_tup (pa_cons (pe_ix ix_list (pe_ix ix_list (pv 1) (pv 4) (fun _ _ => rfl)) pe_int (fun _ _ => rfl)) (pa_cons (pe_ix ix_list (pe_ix ix_list (pv 2) (pv 5) (fun _ _ => rfl)) pe_int (fun _ _ => rfl)) (pa_cons (pv 7) pa_nil)))) pa_nil)))
        (pss_cons (ps_asg (pe_lst (pa_cons (pe_ix ix_list (pe_ix ix_list (pv 1) (pv 4) (fun _ _ => rfl)) pe_int (fun _ _ => rfl)) (pa_cons (pe_op op_sub (pe_ix ix_list (pe_ix ix_list (pv 1) (pv 4) (fun _ _ => rfl)) pe_int (fun _ _ => rfl)) (pv 7)) pa_nil))) (pg_sub (pv 1) (pv 4) set_list))
        (pss_cons (ps_asg (pe_lst (pa_cons (pe_ix ix_list (pe_ix ix_list (pv 2) (pv 5) (fun _ _ => rfl)) pe_int (fun _ _ => rfl)) (pa_cons (pe_op op_sub (pe_ix ix_list (pe_ix ix_list (pv 2) (pv 5) (fun _ _ => rfl)) pe_int (fun _ _ => rfl)) (pv 7)) pa_nil))) (pg_sub (pv 2) (pv 5) set_list))
        (pss_cons (ps_set (i := 4) scRule.nd rfl (.inl rfl) (pe_op op_add (pv 4) (pe_callTy call_int1 (by rfl) B.int PyProof.Rows.boot_int (pa_cons (pe_cmpR op_eq (pe_ix ix_list (pe_ix ix_list (pv 1) (pv 4) (fun _ _ => rfl)) pe_int (fun _ _ => rfl)) pe_int (nomark _)) pa_nil))))
        (pss_one (ps_set (i := 5) scRule.nd rfl (.inl rfl) (pe_op op_add (pv 5) (pe_callTy call_int1 (by rfl) B.int PyProof.Rows.boot_int (pa_cons (pe_cmpR op_eq (pe_ix ix_list (pe_ix ix_list (pv 2) (pv 5) (fun _ _ => rfl)) pe_int (fun _ _ => rfl)) pe_int (nomark _)) pa_nil))))))))))))
      (pss_one (ps_ret (pv 3))))))))), ?_⟩
    have lk : (ksN d).length = d.length := by rw [(ksn_perm d).length_eq, List.length_map]
    refine ⟨.ref r, rfl, r, _, d.map (·.1), rfl, .of hd, kvN_keys d, by rw [List.length_map]; omega, fun p np => ?_⟩
    rw [show (d.map (·.1)).mergeSort (PySem.W.dataLe false PyData.str) = ksN d from rfl]
    have S1 : Same H (L2.upd H p (.lst ((ksN d).map V.str))) := same_upd np
    have hp1 : (L2.upd H p (.lst ((ksN d).map V.str))) p = some (.lst ((ksN d).map V.str)) := upd_same
    generalize L2.upd H p (.lst ((ksN d).map V.str)) = H1 at S1 hp1
    have hp := hp1
    refine ⟨p, rfl, ⟨_, sqOf hp⟩, fun OW nOW => ?_⟩
    refine lc_it (walk_list (a := p) (xs := (ksN d).map V.str)) (fun i H' => Same H1 H' ∧ ∃ bs : List It2, Two H' OW bs ∧ bs.map (·.2) = (((srtN d).take i).filter isNeg).map negE ∧ bs.length ≤ i) ⟨same_upd nOW, [], ⟨upd_same, fun _ h => by cases h⟩, rfl, Nat.le_refl 0⟩ (fun i H' _ hP => sqOf (hP.1 _ _ hp)) (fun i v H' H'' hi hP hy => ?_) (fun H2 hP => ?_)
    · obtain ⟨S', bs, hT, hm, hln⟩ := hP
      obtain ⟨rfl, ev⟩ := hy
      rw [List.getElem?_map] at ev
      obtain ⟨nm, en, rfl⟩ := Option.map_eq_some_iff.mp ev
      have mn : nm ∈ d.map (·.1) := (ksn_perm d).mem_iff.mp (List.mem_of_getElem? en)
      have es : (srtN d)[i]? = some (nm, val d nm) := by
        unfold srtN
        rw [List.getElem?_map, en]; rfl
      have g0 := dg_K (.of ((S1.trans S') _ _ hd)) (val_get mn)
      refine ⟨rfl, .ref r, rfl, .str nm, rfl, r, _, rfl, g0, _, _, rfl, rfl, _, rfl, ite2 (fun e => ?_) (fun e => ?_)⟩
      · refine ⟨.str nm, rfl, .ref r, rfl, .str nm, rfl, r, _, rfl, g0, _, rfl, by show 2 ≤ sizeLine; omega, fun N nN => ?_⟩
        have S'' := S'.trans (same_upd (o := .lst [V.str nm, V.int (-val d nm)]) nN)
        refine ⟨_, same_upd nN _ _ hT.l, by rw [List.length_map] at hi ⊢; omega, fun c o hc => ?_, _, hT.snoc nN, ?_, ?_⟩
        · rw [upd_ne (ne_of_none hc nOW)]; exact S'' _ _ hc
        · rw [take_at es, List.filter_append, List.filter_cons_of_pos (show isNeg (nm, val d nm) = true from e), List.filter_nil, List.map_append, hm, List.map_append]; rfl
        · rw [List.length_append]; exact Nat.succ_le_succ hln
      · refine ⟨S', bs, hT, ?_, by omega⟩
        rw [take_at es, List.filter_append, List.filter_cons_of_neg (show ¬ isNeg (nm, val d nm) = true from e), List.filter_nil, List.append_nil]
        exact hm
    obtain ⟨S2, bw0, hW0, mW0, _⟩ := hP
    rw [List.length_map, show (srtN d).take (ksN d).length = srtN d by rw [← srtn_keys d, List.length_map, List.take_length]] at mW0
    have mW0 : bw0.map (·.2) = owing d := mW0
    refine ⟨.ref r, rfl, r, _, d.map (·.1), rfl, .of ((S1.trans S2) _ _ hd), kvN_keys d, by rw [List.length_map]; omega, fun p2 np2 => ?_⟩
    rw [show (d.map (·.1)).mergeSort (PySem.W.dataLe false PyData.str) = ksN d from rfl]
    have S3 := (S1.trans S2).trans (same_upd (o := .lst ((ksN d).map V.str)) np2)
    have hp2 : (L2.upd H2 p2 (.lst ((ksN d).map V.str))) p2 = some (.lst ((ksN d).map V.str)) := upd_same
    have hW3 := hW0.same (same_upd (o := .lst ((ksN d).map V.str)) np2)
    generalize L2.upd H2 p2 (.lst ((ksN d).map V.str)) = H3 at S3 hp2 hW3
    refine ⟨p2, rfl, ⟨_, sqOf hp2⟩, fun OE nOE => ?_⟩
    refine lc_it (walk_list (a := p2) (xs := (ksN d).map V.str)) (fun i H' => Same H3 H' ∧ ∃ bs : List It2, Two H' OE bs ∧ bs.map (·.2) = ((srtN d).take i).filter isPos ∧ bs.length ≤ i) ⟨same_upd nOE, [], ⟨upd_same, fun _ h => by cases h⟩, rfl, Nat.le_refl 0⟩ (fun i H' _ hP => sqOf (hP.1 _ _ hp2)) (fun i v H' H'' hi hP hy => ?_) (fun H4 hP => ?_)
    · obtain ⟨S', bs, hT, hm, hln⟩ := hP
      obtain ⟨rfl, ev⟩ := hy
      rw [List.getElem?_map] at ev
      obtain ⟨nm, en, rfl⟩ := Option.map_eq_some_iff.mp ev
      have mn : nm ∈ d.map (·.1) := (ksn_perm d).mem_iff.mp (List.mem_of_getElem? en)
      have es : (srtN d)[i]? = some (nm, val d nm) := by
        unfold srtN
        rw [List.getElem?_map, en]; rfl
      have g0 := dg_K (.of ((S3.trans S') _ _ hd)) (val_get mn)
      refine ⟨rfl, .ref r, rfl, .str nm, rfl, r, _, rfl, g0, _, _, rfl, rfl, _, rfl, ite2 (fun e => ?_) (fun e => ?_)⟩
      · refine ⟨.str nm, rfl, .ref r, rfl, .str nm, rfl, r, _, rfl, g0, by show 2 ≤ sizeLine; omega, fun N nN => ?_⟩
        have S'' := S'.trans (same_upd (o := .lst [V.str nm, V.int (val d nm)]) nN)
        refine ⟨_, same_upd nN _ _ hT.l, by rw [List.length_map] at hi ⊢; omega, fun c o hc => ?_, _, hT.snoc nN, ?_, ?_⟩
        · rw [upd_ne (ne_of_none hc nOE)]; exact S'' _ _ hc
        · rw [take_at es, List.filter_append, List.filter_cons_of_pos (show isPos (nm, val d nm) = true from e), List.filter_nil, List.map_append, hm]; rfl
        · rw [List.length_append]; exact Nat.succ_le_succ hln
      · refine ⟨S', bs, hT, ?_, by omega⟩
        rw [take_at es, List.filter_append, List.filter_cons_of_neg (show ¬ isPos (nm, val d nm) = true from e), List.filter_nil, List.append_nil]
        exact hm
    obtain ⟨S34, be0, hE0, mE0, _⟩ := hP
    rw [List.length_map, show (srtN d).take (ksN d).length = srtN d by rw [← srtn_keys d, List.length_map, List.take_length]] at mE0
    have mE0 : be0.map (·.2) = owed d := mE0
    have S4 := S3.trans S34
    have hW4 := hW3.same S34
    have OWE : OW ≠ OE := fun z => by rw [← z, hW3.l] at nOE; cases nOE
    have OW0 : H OW = none := S1.free nOW
    have OE0 : H OE = none := S3.free nOE
    refine ⟨by show 0 ≤ sizeLine; omega, fun FO nFO => ?_⟩
    have S5 := S4.trans (same_upd (o := .lst []) nFO)
    have hW5 := hW4.same (same_upd (o := .lst []) nFO)
    have hE5 := hE0.same (same_upd (o := .lst []) nFO)
    have hF5 : Rws (L2.upd H4 FO (.lst [])) FO [] := ⟨upd_same, fun _ h => by cases h⟩
    have OWF : OW ≠ FO := fun z => by rw [← z, hW4.l] at nFO; cases nFO
    have OEF : OE ≠ FO := fun z => by rw [← z, hE0.l] at nFO; cases nFO
    have FO0 : H FO = none := S4.free nFO
    generalize L2.upd H4 FO (.lst []) = H5 at S5 hW5 hE5 hF5
    refine ⟨.ref OW, rfl, OW, _, rfl, .inl (sqOf hW5.l), .ref OE, rfl, OE, _, rfl, .inl (sqOf hE5.l), _, _, rfl, rfl, ?_⟩
    have lw : bw0.length + be0.length ≤ 200 := by
      have h1 := congrArg List.length mW0
      have h2 := congrArg List.length mE0
      rw [List.length_map] at h1 h2
      have h3 : (owing d).length ≤ (srtN d).length := by unfold owing; rw [List.length_map]; exact List.length_filter_le _ _
      have h4 : (owed d).length ≤ (srtN d).length := List.length_filter_le _ _
      have h5 : (srtN d).length = d.length := by unfold srtN; rw [List.length_map, lk]
      omega
    refine ⟨(bw0.length + be0.length : Nat), congrArg (fun x => [V.int x]) (by rw [List.length_map, List.length_map, Int.natCast_add]), by omega, by omega, ?_⟩
    refine for_range (lo := 0) (n := bw0.length + be0.length) (fun i σ HA => ∃ (pw pe : Nat) (bw be : List It2) (bs : List (Addr × Row3)) (as cs : DN) (y6 y7 : Option V), σ = [some (.ref r), some (.ref OW), some (.ref OE), some (.ref FO), some (.int pw), some (.int pe), y6, y7, none] ∧ Same H HA ∧ Two HA OW bw ∧ Two HA OE be ∧ Rws HA FO bs ∧ (bw.map (·.2)).drop pw = as ∧ (be.map (·.2)).drop pe = cs ∧ bs.map (·.2) ++ settle as cs = ruleN d ∧ as.length + cs.length + i ≤ bw0.length + be0.length ∧ bs.length ≤ i)
      ⟨0, 0, bw0, be0, [], owing d, owed d, none, none, rfl, S5, hW5, hE5, hF5, by rw [mW0]; rfl, by rw [mE0]; rfl, rfl, by rw [← mW0, ← mE0, List.length_map, List.length_map]; omega, Nat.le_refl 0⟩ ?_ ?_
    · rintro i σ HA hi ⟨pw, pe, bw, be, bs, as, cs, y6, y7, rfl, SA, hWA, hEA, hFA, das, dcs, st, fu, lb⟩
      refine ⟨.int pw, rfl, .ref OW, rfl, OW, _, rfl, .inl (sqOf hWA.l), _, _, rfl, rfl, _, rfl, ite2 (fun e => ?_) (fun e => ?_)⟩
      · rw [decide_eq_true_eq] at e
        have e1 : as = [] := by
          rw [← das]
          refine List.drop_eq_nil_of_le ?_
          rw [List.length_map] at e ⊢
          omega
        rw [e1, settle_nil1, List.append_nil] at st
        exact ⟨.ref FO, rfl, q FO bs HA SA FO0 hFA st⟩
      · refine ⟨.int pe, rfl, .ref OE, rfl, OE, _, rfl, .inl (sqOf hEA.l), _, _, rfl, rfl, _, rfl, ite2 (fun e2 => ?_) (fun e2 => ?_)⟩
        · rw [decide_eq_true_eq] at e2
          have e1 : cs = [] := by
            rw [← dcs]
            refine List.drop_eq_nil_of_le ?_
            rw [List.length_map] at e2 ⊢
            omega
          rw [e1, settle_nil2, List.append_nil] at st
          exact ⟨.ref FO, rfl, q FO bs HA SA FO0 hFA st⟩
        rw [decide_eq_true_eq, List.length_map] at e e2
        have lpw : pw < bw.length := by omega
        have lpe : pe < be.length := by omega
        obtain ⟨⟨A1, a, x⟩, eA⟩ : ∃ z, bw[pw]? = some z := ⟨_, List.getElem?_eq_getElem lpw⟩
        obtain ⟨⟨C1, b, y⟩, eC⟩ : ∃ z, be[pe]? = some z := ⟨_, List.getElem?_eq_getElem lpe⟩
        have iA : HA A1 = some (.lst [.str a, .int x]) := hWA.t _ (List.mem_of_getElem? eA)
        have iC : HA C1 = some (.lst [.str b, .int y]) := hEA.t _ (List.mem_of_getElem? eC)
        have vA : (bw.map fun b => V.ref b.1)[pw]? = some (.ref A1) := by rw [List.getElem?_map, eA]; rfl
        have vC : (be.map fun b => V.ref b.1)[pe]? = some (.ref C1) := by rw [List.getElem?_map, eC]; rfl
        refine ⟨.ref OW, rfl, .int pw, rfl, OW, _, pw, .ref A1, rfl, rfl, sqOf hWA.l, atI_nat vA, A1, _, 1, .int x, rfl, rfl, sqOf iA, rfl, ?_⟩
        refine ⟨.ref OE, rfl, .int pe, rfl, OE, _, pe, .ref C1, rfl, rfl, sqOf hEA.l, atI_nat vC, C1, _, 1, .int y, rfl, rfl, sqOf iC, rfl, x, y, rfl, ?_⟩
        obtain ⟨c, hc⟩ : ∃ c, c = if y < x then y else x := ⟨_, rfl⟩
        rw [← hc]
        refine ⟨.ref FO, rfl, .inl ⟨rfl, _, sqOf hFA.l⟩, ?_⟩
        refine ⟨.ref OW, rfl, .int pw, rfl, OW, _, pw, .ref A1, rfl, rfl, sqOf hWA.l, atI_nat vA, A1, _, 0, .str a, rfl, rfl, sqOf iA, rfl, ?_⟩
        refine ⟨.ref OE, rfl, .int pe, rfl, OE, _, pe, .ref C1, rfl, rfl, sqOf hEA.l, atI_nat vC, C1, _, 0, .str b, rfl, rfl, sqOf iC, rfl, .int c, rfl, by show 3 ≤ sizeLine; omega, fun T nT => ?_⟩
        have ST := same_upd (o := .tup [V.str a, V.str b, V.int c]) nT
        refine ⟨FO, _, .ref T, rfl, rfl, ST _ _ hFA.l, by rw [List.length_map]; omega, ?_⟩
        have hWB := (hWA.same ST).other (o := .lst ((bs.map fun b => V.ref b.1) ++ [V.ref T])) (ST _ _ hFA.l) OWF
        have hEB := (hEA.same ST).other (o := .lst ((bs.map fun b => V.ref b.1) ++ [V.ref T])) (ST _ _ hFA.l) OEF
        have hFB := hFA.snoc (r := (a, b, c)) nT
        have SB : Same H (L2.upd (L2.upd HA T (.tup [V.str a, V.str b, V.int c])) FO (.lst ((bs.map fun b => V.ref b.1) ++ [V.ref T]))) := fun z o hz => by
          rw [upd_ne (ne_of_none hz FO0)]; exact ST _ _ (SA _ _ hz)
        generalize L2.upd (L2.upd HA T (.tup [V.str a, V.str b, V.int c])) FO (.lst ((bs.map fun b => V.ref b.1) ++ [V.ref T])) = HB at hWB hEB hFB SB
        have iA : HB A1 = some (.lst [.str a, .int x]) := hWB.t _ (List.mem_of_getElem? eA)
        refine ⟨.ref OW, rfl, .int pw, rfl, OW, _, pw, .ref A1, rfl, rfl, sqOf hWB.l, atI_nat vA, A1, _, 0, .str a, rfl, rfl, sqOf iA, rfl, ?_⟩
        refine ⟨.ref OW, rfl, .int pw, rfl, OW, _, pw, .ref A1, rfl, rfl, sqOf hWB.l, atI_nat vA, A1, _, 1, .int x, rfl, rfl, sqOf iA, rfl, .int c, rfl, _, _, rfl, rfl, by show 2 ≤ sizeLine; omega, fun N nN => ?_⟩
        have SN := same_upd (o := .lst [V.str a, V.int (x - c)]) nN
        refine ⟨.ref OW, rfl, .int pw, rfl, OW, _, pw, pw, rfl, rfl, SN _ _ hWB.l, ixN_at (by rw [List.length_map]; omega), ?_⟩
        have hWC := hWB.set (i := pw) (nm := a) (v := x - c) nN
        have hEC := (hEB.same SN).other (o := .lst ((bw.map fun b => V.ref b.1).set pw (.ref N))) (SN _ _ hWB.l) (Ne.symm OWE)
        have hFC := (hFB.same SN).other (o := .lst ((bw.map fun b => V.ref b.1).set pw (.ref N))) (SN _ _ hWB.l) (Ne.symm OWF)
        have SC : Same H (L2.upd (L2.upd HB N (.lst [V.str a, V.int (x - c)])) OW (.lst ((bw.map fun b => V.ref b.1).set pw (.ref N)))) := fun z o hz => by
          rw [upd_ne (ne_of_none hz OW0)]; exact SN _ _ (SB _ _ hz)
        generalize L2.upd (L2.upd HB N (.lst [V.str a, V.int (x - c)])) OW (.lst ((bw.map fun b => V.ref b.1).set pw (.ref N))) = HC at hWC hEC hFC SC
        have iC : HC C1 = some (.lst [.str b, .int y]) := hEC.t _ (List.mem_of_getElem? eC)
        refine ⟨.ref OE, rfl, .int pe, rfl, OE, _, pe, .ref C1, rfl, rfl, sqOf hEC.l, atI_nat vC, C1, _, 0, .str b, rfl, rfl, sqOf iC, rfl, ?_⟩
        refine ⟨.ref OE, rfl, .int pe, rfl, OE, _, pe, .ref C1, rfl, rfl, sqOf hEC.l, atI_nat vC, C1, _, 1, .int y, rfl, rfl, sqOf iC, rfl, .int c, rfl, _, _, rfl, rfl, by show 2 ≤ sizeLine; omega, fun M nM => ?_⟩
        have SM := same_upd (o := .lst [V.str b, V.int (y - c)]) nM
        refine ⟨.ref OE, rfl, .int pe, rfl, OE, _, pe, pe, rfl, rfl, SM _ _ hEC.l, ixN_at (by rw [List.length_map]; omega), ?_⟩
        have hED := hEC.set (i := pe) (nm := b) (v := y - c) nM
        have hWD := (hWC.same SM).other (o := .lst ((be.map fun b => V.ref b.1).set pe (.ref M))) (SM _ _ hEC.l) OWE
        have hFD := (hFC.same SM).other (o := .lst ((be.map fun b => V.ref b.1).set pe (.ref M))) (SM _ _ hEC.l) (Ne.symm OEF)
        have SD : Same H (L2.upd (L2.upd HC M (.lst [V.str b, V.int (y - c)])) OE (.lst ((be.map fun b => V.ref b.1).set pe (.ref M)))) := fun z o hz => by
          rw [upd_ne (ne_of_none hz OE0)]; exact SM _ _ (SC _ _ hz)
        generalize L2.upd (L2.upd HC M (.lst [V.str b, V.int (y - c)])) OE (.lst ((be.map fun b => V.ref b.1).set pe (.ref M))) = HD at hED hWD hFD SD
        have eW : (bw.set pw (N, (a, x - c)))[pw]? = some (N, (a, x - c)) := List.getElem?_set_self lpw
        have eE : (be.set pe (M, (b, y - c)))[pe]? = some (M, (b, y - c)) := List.getElem?_set_self lpe
        have iN : HD N = some (.lst [.str a, .int (x - c)]) := hWD.t _ (List.mem_of_getElem? eW)
        have iM : HD M = some (.lst [.str b, .int (y - c)]) := hED.t _ (List.mem_of_getElem? eE)
        have vN : ((bw.set pw (N, (a, x - c))).map fun b => V.ref b.1)[pw]? = some (.ref N) := by rw [List.getElem?_map, eW]; rfl
        have vM : ((be.set pe (M, (b, y - c))).map fun b => V.ref b.1)[pe]? = some (.ref M) := by rw [List.getElem?_map, eE]; rfl
        refine ⟨.int pw, rfl, .ref OW, rfl, .int pw, rfl, OW, _, pw, .ref N, rfl, rfl, sqOf hWD.l, atI_nat vN, N, _, 1, .int (x - c), rfl, rfl, sqOf iN, rfl, rfl, .inr ⟨_, rfl, _, _, rfl, rfl, ?_⟩⟩
        refine ⟨.int pe, rfl, .ref OE, rfl, .int pe, rfl, OE, _, pe, .ref M, rfl, rfl, sqOf hED.l, atI_nat vM, M, _, 1, .int (y - c), rfl, rfl, sqOf iM, rfl, rfl, .inr ⟨_, rfl, _, _, rfl, rfl, ?_⟩⟩
        have mA : (bw.map (·.2))[pw]? = some (a, x) := by rw [List.getElem?_map, eA]; rfl
        have mC : (be.map (·.2))[pe]? = some (b, y) := by rw [List.getElem?_map, eC]; rfl
        have lA := left_list c mA
        have lC := left_list c mC
        obtain ⟨dA, _⟩ := set_drop (a, x) mA
        obtain ⟨dC, _⟩ := set_drop (b, y) mC
        rw [das] at dA
        rw [dcs] at dC
        refine ⟨if x = c then pw + 1 else pw, if y = c then pe + 1 else pe, bw.set pw (N, (a, x - c)), be.set pe (M, (b, y - c)), bs ++ [(T, (a, b, c))], if x = c then (bw.map (·.2)).drop (pw + 1) else (a, x - c) :: (bw.map (·.2)).drop (pw + 1), if y = c then (be.map (·.2)).drop (pe + 1) else (b, y - c) :: (be.map (·.2)).drop (pe + 1), _, _, by rw [← step_int, ← step_int]; rfl, SD, hWD, hED, hFD, by rw [List.map_set]; exact lA, by rw [List.map_set]; exact lC, ?_, ?_, by rw [List.length_append]; exact Nat.succ_le_succ lb⟩
        · rw [← st, dA, dC, settle_cons, List.map_append, List.append_assoc]
          congr 1
          by_cases h1 : x = y
          · have h2 : c = x := by rw [hc, if_neg (by omega)]
            rw [if_pos h1, if_pos h2.symm, if_pos (h1 ▸ h2.symm), h2]; rfl
          · rw [if_neg h1]
            by_cases h3 : x < y
            · have h2 : c = x := by rw [hc, if_neg (by omega)]
              rw [if_pos h3, if_pos h2.symm, if_neg (by omega), h2]; rfl
            · have h2 : c = y := by rw [hc, if_pos (by omega)]
              rw [if_neg h3, if_neg (by omega), if_pos h2.symm, h2]; rfl
        · have h1 := congrArg List.length dA
          have h2 := congrArg List.length dC
          rw [List.length_cons] at h1 h2
          have h3 : c = x ∨ c = y := by
            by_cases z : y < x
            · exact .inr (by rw [hc, if_pos z])
            · exact .inl (by rw [hc, if_neg z])
          rcases h3 with h3 | h3
          · rw [if_pos h3.symm]
            split <;> (try rw [List.length_cons]) <;> omega
          · rw [if_pos h3.symm]
            split <;> (try rw [List.length_cons]) <;> omega
    · rintro σ HA ⟨pw, pe, bw, be, bs, as, cs, y6, y7, rfl, SA, hWA, hEA, hFA, das, dcs, st, fu, lb⟩
      have e1 : as = [] := List.eq_nil_of_length_eq_zero (by omega)
      rw [e1, settle_nil1, List.append_nil] at st
      exact ⟨.ref FO, rfl, q FO bs HA SA FO0 hFA st⟩
end
end Tb
namespace L2
open PySem PySem.Spec PyProof.Rows
theorem kv_vals {kvs : List (Key × V)} {vs : List (Key × Value)} (h : KV kvs vs) : Vals (kvs.map (·.2)) (vs.map (·.2)) := by
  induction h with
  | nil => exact .nil
  | cons r _ ih => exact .cons r.2 ih
/-- list(e.values()) -/
def tListVals (te : TE) : TE := fun σ H Q => te σ H fun x H1 => ∃ (d : Addr) (kvs : List (Key × V)), x = .ref d ∧ H1 d = some (.dK kvs) ∧ ∀ p, H1 p = none → Q (.ref p) (upd H1 p (.lst (kvs.map (·.2))))
section
variable {X : Cx} {e : Expr} {te : TE} {p pos apos cpos : Pos}
theorem pe_listValues (hc : X.calm = true) (he : PE X e te) (hg : Gl X "list") (hm : X.mg "list" = none) (hv : bootBuiltins "list" = some (.type "list")) (hbase : attributeBase e "values" X.env (eval e X.env) = eval e X.env := by rfl) (hline : (apos.endLine == cpos.line) = true := by rfl)
    (hs : starEach [.Call (.Attribute e "values" apos) [] [] cpos] X.env = (false, eval (.Call (.Attribute e "values" apos) [] [] cpos) X.env) :: starEach [] X.env := by rfl) :
    PE X (.Call (.Name "list" p) [.Call (.Attribute e "values" apos) [] [] cpos] [] pos) (tListVals te) := by
  refine ⟨fun pins s σ H Q I hq => ?_⟩
  refine wpAny_Call_Name_kw (ld_blt I hg hm hv ?_)
  refine PyProof.Rows.callWith_type1 ?_ hs rfl
  rw [hs]
  show wpAny _ _ (spliced ((false, eval (.Call (.Attribute e "values" apos) [] [] cpos) X.env) :: backTo pos (starEach [] X.env))) _ _ s
  refine Calls.spliced_cons ?_
  refine wpAny_Call_method (T := "dict") (id := "dict.values") hbase rfl hline F.plainAttrs_dict F.slot_dict_values F.type_dict_values (thn (he.run pins s σ H _ I hq) fun u s1 ⟨x, H1, I1, rx, d, kvs, ex, hd, q⟩ => ?_)
  subst ex
  obtain rfl : u = Value.ref d := rx
  obtain ⟨hz, hs0, vs, kv, hdo⟩ := I1.hok d _ hd
  obtain ⟨ep, hat⟩ := hdo.dictAt
  have lk : kvs.length = vs.length := Paired.length kv
  have I2 : Inv X pins σ H1 { s1 with heap := s1.heap.push { cls := .type "dict_values", data := .fields #[.ref d] } } := I1.kept (t' := s1.toks) fun b ob q => Heap.get?_push_of_some _ q
  refine ⟨hdo.typeIs, hdo.mapOf.noDict, ?_⟩
  show wpAny _ _ (callWith cpos (.builtin "dict.values") [.ref d] [] []) _ X.xe s1
  refine method_meetsIn F.slot_dict_values F.entry_dict_values rfl (PySem.evalArgs_none ⟨rfl, hdo.typeIs, F.args_dict_values_1 _, _, meets_dict_values (mixKind X.prog X.w) d hs0, ⟨vs, hdo⟩, ?_⟩)
  refine Calls.spliced_nil ?_
  refine PySem.W.kdl_call (PySem.W.kdl_values (knd := mixKind X.prog X.w) (kvs := vs) (ep := ep) (d := d)) (I1.ok.hd hc) ⟨⟨_, Heap.get?_push_size _ rfl, rfl, rfl⟩, hat.push _⟩ (by omega) fun h' tk acc c hk hS hacc => ?_
  have ea : acc.toList = vs.map (·.2) := PySem.W.kdl_vals_eq _ (by rw [Array.length_toList]; exact hacc.1) fun j v e => hacc.2 j v (by rw [← Array.getElem?_toList]; exact e)
  have I3 := I2.laid (a := (s1.heap.push { cls := .type "dict_values", data := .fields #[.ref d] }).objs.size) (o := .lst (kvs.map (·.2))) (t' := tk) hk (Nat.le_refl _)
    (show ObjOk X.prog X.w _ _ _ (.lst (kvs.map (·.2))) from ⟨by rw [List.length_map]; exact hz, acc.toList, c, by rw [ea]; exact kv_vals kv, by rw [Array.toArray_toList]; exact hS⟩)
  exact ⟨.ref _, _, I3, rfl, q _ (I2.hok.fresh (Nat.le_refl _))⟩
end
end L2
namespace Tb
open PySem PySem.Spec PyProof.Rows L2
abbrev sAfter : Stmt := topS 32
abbrev NAfter : List Str := ["purse", "rows", "found", "name", "row"]
theorem scAfter : FnScope NAfter ["purse", "rows"] (defScope sAfter) := ⟨rfl, rfl, rfl, by decide +kernel, rfl, by decide +kernel, by decide +kernel⟩
abbrev sSettled : Stmt := topS 13
abbrev NSettled : List Str := ["balances", "payments", "left", "payer", "payee", "cents", "name"]
theorem scSettled : FnScope NSettled ["balances", "payments"] (defScope sSettled) := ⟨rfl, rfl, rfl, by decide +kernel, rfl, by decide +kernel, by decide +kernel⟩
theorem passE0 {X : Cx} {σ : L2.St} : PassesAt (L2.CX X.prog X.w) X σ E0 := fun _ _ _ _ _ _ c => by
  obtain ⟨_, _, _, _, _, _, _, _, _, _, _, _, h⟩ := c
  exact h.elim
/-- a def of the text that may raise, and what it promises -/
structure C1X (P : Program) (w : World) (K : PySem.W.Frag) (mg : Str → Option Value) (base : Heap) (x : Str) (st : Stmt) (ps : List Str) (l : Nat) (sp : Sp) (g : Addr) (gd : FuncData) : Prop where
  D : Dd K mg x st ps g gd
  G : FnOk P w K mg base (L2.CX P w) l g gd ps sp
theorem afterR_len {q : DN} {r : Row3} (h : r.1 ∈ q.map (·.1) ∧ r.2.1 ∈ q.map (·.1)) : (afterR q r).length = q.length := by
  have := congrArg List.length (keys_afterR h)
  rwa [List.length_map, List.length_map] at this
theorem after_len {rs : List Row3} {q : DN} (h : Has q rs) : (after q rs).length = q.length := by
  have := congrArg List.length (keys_after h)
  rwa [List.length_map, List.length_map] at this
theorem has_take {q : DN} {rs : List Row3} (h : Has q rs) (i : Nat) : Has q (rs.take i) := fun r hr => h r (List.mem_of_mem_take hr)
theorem after_take {q : DN} {rs : List Row3} {i : Nat} {r : Row3} (h : rs[i]? = some r) : after q (rs.take (i + 1)) = afterR (after q (rs.take i)) r := by
  rw [take_at h, after_app]; rfl
theorem dg_N {H : Hp} {D : Addr} {d : DN} {k : Str} (e : Rd H D (.dK (kvN d))) (g : k ∈ d.map (·.1)) : DGet H D (.str k) (some (.int (val d k))) := dg_K e (val_get g)
section
variable {P : Program} {w : World} {K : PySem.W.Frag} {mg : Str → Option Value} {base : Heap}
def spAfter : Sp := fun vs H Q _ => ∃ (r l : Addr) (d : DN) (bs : List (Addr × Row3)), vs = [.ref r, .ref l] ∧ H r = some (.dK (kvN d)) ∧ (d.map (·.1)).Nodup ∧ d.length ≤ 100 ∧ Rws H l bs ∧ Has d (bs.map (·.2)) ∧ ∀ (t : Addr) (H' : Hp), Same H H' → H t = none → H' t = some (.dK (kvN (after d (bs.map (·.2))))) → Q (.ref t) H'
theorem ok_after {f : Addr} {fd : FuncData} {k : Nat} (F : Fun K "_law_after" "_law_after" sAfter f fd) (B : Blt mg) : FnOk P w K mg base CX0 (k + 1) f fd ["purse", "rows"] spAfter := by
  refine F.ok scAfter (fun vs H Q E h => ?_) (fun cdv A outer s H vs Q E hr h => ?_)
  · obtain ⟨r, l, d, bs, rfl, _⟩ := h
    rfl
  · obtain ⟨r, l, d, bs, rfl, hd, nd, ld, hR, hH, q⟩ := h
    have hu := Nat.lt_of_le_of_lt (Nat.add_le_add_left (show 1 ≤ 64 by decide) _) hr.units
    have hz : sizeLine = 16777216 := rfl
    refine ⟨_, (pss_cons (ps_set (i := 2) scAfter.nd rfl (.inl rfl) pe_dnewK)
      (pss_cons (ps_lock (ps_for PassesOwn.never rfl (pi_keys (pv 0)) (pg_name (i := 3) scAfter.nd rfl (.inl rfl))
        (pss_one (ps_dput hu (pv 2) (pv 3) (pe_dget hu (pv 0) (pv 3) (fun _ _ => rfl)) (by rfl)))))
      (pss_cons (ps_for PassesOwn.never rfl (pi_list (pv 1)) (pg_name (i := 4) scAfter.nd rfl (.inl rfl))
        (pss_cons (ps_dput hu (pv 2) (pe_ix (r := rIxT K) ix_tup (pv 4) pe_int (fun _ _ => rfl)) (pe_op op_add (pe_dget hu (pv 2) (pe_ix (r := rIxT K) ix_tup (pv 4) pe_int (fun _ _ => rfl)) (fun _ _ => rfl)) (pe_ix (r := rIxT K) ix_tup (pv 4) pe_int (fun _ _ => rfl))) (by rfl))
        (pss_one (ps_dput hu (pv 2) (pe_ix (r := rIxT K) ix_tup (pv 4) pe_int (fun _ _ => rfl)) (pe_op op_sub (pe_dget hu (pv 2) (pe_ix (r := rIxT K) ix_tup (pv 4) pe_int (fun _ _ => rfl)) (fun _ _ => rfl)) (pe_ix (r := rIxT K) ix_tup (pv 4) pe_int (fun _ _ => rfl))) (by rfl)))))
      (pss_one (ps_ret (pv 2)))))), ?_⟩
    intro D nD
    have Dr : D ≠ r := fun z => by rw [z, hd] at nD; cases nD
    refine ⟨r, _, same_upd nD _ _ hd, trivial, fun od => ?_⟩
    refine ⟨.ref r, rfl, r, od, rfl, .inl ⟨kvN d, upd_same, ?_⟩⟩
    refine for_it (walk_keys (d := r) (o := od) (kvs := kvN d)) (fun i σ H' => (∃ y3, σ = [some (.ref r), some (.ref l), some (.ref D), y3, none]) ∧ H' r = some (.frz od (.dK (kvN d))) ∧ (∀ b o, H b = some o → b ≠ r → H' b = some o) ∧ H' D = some (.dK (kvN (d.take i)))) ⟨⟨none, rfl⟩, upd_same, fun b o e n => ?_, ?_⟩ (fun i σ H' _ hP => hP.2.1) (fun i v σ H5 H6 hi hP yy => ?_) (fun σ H5 hP => ?_)
    · rw [upd_ne n]; exact same_upd nD _ _ e
    · rw [upd_ne Dr]; exact upd_same
    · obtain ⟨⟨y3, rfl⟩, h1, h2, h3⟩ := hP
      obtain ⟨rfl, k, v, ek, rfl⟩ := yy
      rw [kvN_at] at ek
      obtain ⟨e, ee, e2⟩ := Option.map_eq_some_iff.mp ek
      cases e2
      have hr' : Rd H6 r (.dK (kvN d)) := .inr ⟨od, h1⟩
      refine ⟨.ref r, rfl, .str e.1, rfl, r, _, rfl, dg_K hr' (getN_mem nd (List.mem_of_getElem? ee)), .ref D, rfl, .str e.1, rfl, D, _, rfl, dput_N h3 (by rw [List.length_take]; omega), ?_⟩
      refine ⟨⟨_, rfl⟩, ?_, fun b o hb n => ?_, ?_⟩
      · rw [upd_ne (Ne.symm Dr)]; exact h1
      · rw [upd_ne (ne_of_none hb nD)]; exact h2 b o hb n
      · rw [upd_same, putN_new, take_at ee]
        rw [List.map_take]
        exact take_nm nd (by rw [List.getElem?_map, ee]; rfl)
    · obtain ⟨⟨y3, rfl⟩, h1, h2, h3⟩ := hP
      rw [kvN_len, List.take_length] at h3
      refine ⟨h1, ?_⟩
      have S6 : Same H (L2.upd H5 r (.dK (kvN d))) := fun b o e => by
        by_cases z : b = r
        · rw [z, upd_same, ← hd, ← z]; exact e
        · rw [upd_ne z]; exact h2 b o e z
      have hD6 : L2.upd H5 r (.dK (kvN d)) D = some (.dK (kvN d)) := by rw [upd_ne Dr]; exact h3
      generalize L2.upd H5 r (.dK (kvN d)) = H6 at S6 hD6
      refine ⟨.ref l, rfl, l, rfl, ⟨_, sqOf (S6 _ _ hR.l)⟩, ?_⟩
      refine for_list (a := l) (xs := bs.map fun b => V.ref b.1) (fun i σ H7 => (∃ y4, σ = [some (.ref r), some (.ref l), some (.ref D), y3, y4]) ∧ Same H H7 ∧ H7 D = some (.dK (kvN (after d ((bs.map (·.2)).take i))))) ⟨⟨none, rfl⟩, S6, hD6⟩ (fun i σ H1 _ hP => sqOf (hP.2.1 _ _ hR.l)) (fun i v σ H7 ev hP => ?_) (fun σ H7 hP => ?_)
      · obtain ⟨⟨y4, rfl⟩, S7, hD⟩ := hP
        rw [List.getElem?_map] at ev
        obtain ⟨b, eb, rfl⟩ := Option.map_eq_some_iff.mp ev
        have er : (bs.map (·.2))[i]? = some b.2 := by rw [List.getElem?_map, eb]; rfl
        have ht := has_take hH i
        have hk := hH b.2 (List.mem_of_getElem? er)
        rw [← keys_after ht] at hk
        have lq := after_len ht
        have hb := hR.t b (List.mem_of_getElem? eb)
        rw [after_take er]
        generalize after d ((bs.map (·.2)).take i) = q at hD hk lq
        have sT : SqT K H7 b.1 _ := .of (S7 _ _ hb)
        refine ⟨.ref D, rfl, .ref b.1, rfl, b.1, _, 0, .str b.2.1, rfl, rfl, sT, rfl, D, _, rfl, dg_N (.of hD) hk.1, .ref b.1, rfl, b.1, _, 2, .int b.2.2.2, rfl, rfl, sT, rfl, _, _, rfl, rfl, .ref D, rfl, .ref b.1, rfl, b.1, _, 0, .str b.2.1, rfl, rfl, sT, rfl, D, _, rfl, dput_N hD (by omega), ?_⟩
        have S8 : Same H (L2.upd H7 D (.dK (kvN (putN q b.2.1 (val q b.2.1 + b.2.2.2))))) := fun a o e => by
          rw [upd_ne (ne_of_none e nD)]; exact S7 _ _ e
        have sT : SqT K (L2.upd H7 D (.dK (kvN (putN q b.2.1 (val q b.2.1 + b.2.2.2))))) b.1 _ := .of (S8 _ _ hb)
        have k2 : b.2.2.1 ∈ (putN q b.2.1 (val q b.2.1 + b.2.2.2)).map (·.1) := by rw [keys_in hk.1]; exact hk.2
        have l2 := putN_len q b.2.1 (val q b.2.1 + b.2.2.2)
        refine ⟨.ref D, rfl, .ref b.1, rfl, b.1, _, 1, .str b.2.2.1, rfl, rfl, sT, rfl, D, _, rfl, dg_N (.of upd_same) k2, .ref b.1, rfl, b.1, _, 2, .int b.2.2.2, rfl, rfl, sT, rfl, _, _, rfl, rfl, .ref D, rfl, .ref b.1, rfl, b.1, _, 1, .str b.2.2.1, rfl, rfl, sT, rfl, D, _, rfl, dput_N upd_same (by omega), ?_⟩
        refine ⟨⟨_, rfl⟩, fun a o e => ?_, upd_same⟩
        rw [upd_ne (ne_of_none e nD)]; exact S8 _ _ e
      · obtain ⟨⟨y4, rfl⟩, S7, hD⟩ := hP
        rw [List.length_map, ← List.length_map (·.2), List.take_length] at hD
        exact ⟨.ref D, rfl, q D H7 S7 nD hD⟩
/-- the first name that is no key -/
def FirstBad (d : DN) (rs : List Row3) (z : Str) : Prop := ∃ (i : Nat) (r : Row3), rs[i]? = some r ∧ Has d (rs.take i) ∧ z ∉ d.map (·.1) ∧ (r.1 = z ∨ (r.1 ∈ d.map (·.1) ∧ r.2.1 = z))
def spSettled (CU : Addr) : Sp := fun vs H Q E => ∃ (r l : Addr) (d : DN) (bs : List (Addr × Row3)), vs = [.ref r, .ref l] ∧ H r = some (.dK (kvN d)) ∧ d.length ≤ 100 ∧ Rws H l bs ∧ (Has d (bs.map (·.2)) ∨ ∃ z, FirstBad d (bs.map (·.2)) z) ∧
  (Has d (bs.map (·.2)) → ∀ (t : Addr) (H' : Hp), Same H H' → H t = none → H' t = some (.dK (kvN (after d (bs.map (·.2))))) → Q (.ref t) H') ∧
  (∀ z, FirstBad d (bs.map (·.2)) z → ∀ e H', Same H H' → H' e = some (.xd [(wName, .str z)]) → E (.ref CU) (some e) H')
theorem ok_settled {f CU gU : Addr} {fd gdU : FuncData} (F : Fun K "settled" "settled" sSettled f fd) (B : Blt mg) (U : EUnk K mg CU gU gdU) : FnOk P w K mg base (L2.CX P w) 3 f fd ["balances", "payments"] (spSettled CU) := by
  have GU : FnOk P w K mg base CX0 1 gU gdU ["self", "name"] (spErr K wName) := ok_unk U.M.F
  refine F.okX scSettled (fun vs H Q E h => ?_) (fun cdv A outer s H vs Q E hr h => ?_)
  · obtain ⟨r, l, d, bs, rfl, _⟩ := h
    rfl
  · obtain ⟨r, l, d, bs, rfl, hd, ld, hR, alt, qG, qB⟩ := h
    have hu := hu_of hr
    have hr2 : Room 2 _ := hr.mono (show 2 ≤ 2 by decide)
    have hz : sizeLine = 16777216 := rfl
    refine ⟨_, (pss_cons (ps_set (i := 2) scSettled.nd rfl (.inl rfl) (pe_callTy call_dictD (by rfl) B.dict PyProof.Rows.boot_dict (pa_cons (pv 0) pa_nil)))
      (pss_cons (ps_for (passes_of rfl) rfl (pi_list (pv 1)) (pg_tup (by rfl) (pgs_cons (pg_name (i := 3) scSettled.nd rfl (.inl rfl)) (pgs_cons (pg_name (i := 4) scSettled.nd rfl (.inl rfl)) (pgs_cons (pg_name (i := 5) scSettled.nd rfl (.inl rfl)) pgs_nil))))
        (pss_cons (ps_for (passes_of rfl) rfl (pi_tup (pe_tup (pa_cons (pv 3) (pa_cons (pv 4) pa_nil)))) (pg_name (i := 6) scSettled.nd rfl (.inl rfl))
          (pss_one (ps_if (pt_cmp (pc_dnotin hu (pv 6) (pv 2)))
            (pss_one (ps_raise rfl (takes_of rfl rfl rfl rfl) (pmk_oex U.T.ox U.T.iC U.T.tI GU hr2 U.M.b .nil pass0 (by rfl) U.g (pa_cons (pv 6) pa_nil))))
            pss_nil)))
        (pss_cons (ps_daug hu (pv 2) (pv 3) (pv 5) in_add (fun _ _ _ => rfl))
        (pss_one (ps_daug hu (pv 2) (pv 4) (pv 5) in_sub (fun _ _ _ => rfl))))))
      (pss_one (ps_ret (pv 2))))), ?_⟩
    refine ⟨.ref r, rfl, r, _, rfl, .of hd, fun D nD => ?_⟩
    have S1 := same_upd (o := .dK (kvN d)) nD
    have hD1 : L2.upd H D (.dK (kvN d)) D = some (.dK (kvN d)) := upd_same
    generalize L2.upd H D (.dK (kvN d)) = H1 at S1 hD1
    refine ⟨.ref l, rfl, l, rfl, ⟨_, sqOf (S1 _ _ hR.l)⟩, ?_⟩
    refine for_list (a := l) (xs := bs.map fun b => V.ref b.1) (fun i σ H7 => (∃ y3 y4 y5 y6, σ = [some (.ref r), some (.ref l), some (.ref D), y3, y4, y5, y6]) ∧ Same H H7 ∧ Has d ((bs.map (·.2)).take i) ∧ H7 D = some (.dK (kvN (after d ((bs.map (·.2)).take i))))) ⟨⟨none, none, none, none, rfl⟩, S1, fun _ h => (by cases h), hD1⟩ (fun i σ H1 _ hP => sqOf (hP.2.1 _ _ hR.l)) (fun i v σ H7 ev hP => ?_) (fun σ H7 hP => ?_)
    · obtain ⟨⟨y3, y4, y5, y6, rfl⟩, S7, ht, hD⟩ := hP
      rw [List.getElem?_map] at ev
      obtain ⟨b, eb, rfl⟩ := Option.map_eq_some_iff.mp ev
      have er : (bs.map (·.2))[i]? = some b.2 := by rw [List.getElem?_map, eb]; rfl
      have lq := after_len ht
      have kq := keys_after ht
      have hb := hR.t b (List.mem_of_getElem? eb)
      have sT : SqT K H7 b.1 _ := .of (S7 _ _ hb)
      refine ⟨b.1, _, rfl, sT, rfl, .str b.2.1, _, rfl, .str b.2.2.1, _, rfl, .int b.2.2.2, _, rfl, rfl, ?_⟩
      refine ⟨.str b.2.1, rfl, .str b.2.2.1, rfl, by show 2 ≤ sizeLine; omega, fun T nT => ?_⟩
      have S8 := S7.trans (same_upd (o := .tup [V.str b.2.1, V.str b.2.2.1]) nT)
      have hD8 := same_upd (o := .tup [V.str b.2.1, V.str b.2.2.1]) nT _ _ hD
      have hT8 : L2.upd H7 T (.tup [V.str b.2.1, V.str b.2.2.1]) T = some (.tup [V.str b.2.1, V.str b.2.2.1]) := upd_same
      generalize L2.upd H7 T (.tup [V.str b.2.1, V.str b.2.2.1]) = H8 at S8 hD8 hT8
      have qs := after d ((bs.map (·.2)).take i)
      refine ⟨T, rfl, ⟨_, .of hT8⟩, ?_⟩
      refine for_it (walk_tup (a := T) (xs := [V.str b.2.1, V.str b.2.2.1])) (fun j σ H9 => (∃ y6, σ = [some (.ref r), some (.ref l), some (.ref D), some (.str b.2.1), some (.str b.2.2.1), some (.int b.2.2.2), y6]) ∧ H9 = H8 ∧ (1 ≤ j → b.2.1 ∈ d.map (·.1)) ∧ (2 ≤ j → b.2.2.1 ∈ d.map (·.1))) ⟨⟨_, rfl⟩, rfl, fun h => absurd h (by omega), fun h => absurd h (by omega)⟩ (fun j σ H9 _ hP => by rw [hP.2.1]; exact .of hT8) (fun j v σ H9 H10 hj hP yy => ?_) (fun σ H9 hP => ?_)
      · obtain ⟨⟨y6, rfl⟩, rfl, h1, h2⟩ := hP
        obtain ⟨rfl, ev⟩ := yy
        obtain ⟨z, ez, cz⟩ : ∃ z, v = .str z ∧ ((j = 0 ∧ z = b.2.1) ∨ (j = 1 ∧ z = b.2.2.1)) := by
          rcases (show j = 0 ∨ j = 1 by have : j < 2 := hj; omega) with rfl | rfl
          · exact ⟨b.2.1, (Option.some.inj ev).symm, .inl ⟨rfl, rfl⟩⟩
          · exact ⟨b.2.2.1, (Option.some.inj ev).symm, .inr ⟨rfl, rfl⟩⟩
        subst ez
        refine ⟨.str z, rfl, .ref D, rfl, D, _, rfl, .inl ⟨_, Sum.inr z, .of hD8, rfl, rfl⟩, _, rfl, ?_⟩
        rw [valV_kvN]
        by_cases m : z ∈ d.map (·.1)
        · rw [val_get (by rw [kq]; exact m)]
          refine ite2 (fun e => by cases e) (fun _ => ?_)
          refine ⟨⟨_, rfl⟩, rfl, fun _ => ?_, fun h => ?_⟩
          · rcases cz with ⟨rfl, rfl⟩ | ⟨rfl, rfl⟩
            · exact m
            · exact h1 (Nat.le_refl 1)
          · rcases cz with ⟨rfl, rfl⟩ | ⟨rfl, rfl⟩
            · omega
            · exact m
        · rw [getN_none (by rw [kq]; exact m)]
          refine ite2 (fun _ => ?_) (fun e => absurd rfl e)
          refine ⟨.str z, rfl, (by show 1 ≤ 1000; decide), err_made U.T (Q := E) fun e H4 S4 he => qB z ⟨i, b.2, er, ht, m, ?_⟩ e H4 (S8.trans S4) he⟩
          rcases cz with ⟨rfl, rfl⟩ | ⟨rfl, rfl⟩
          · exact .inl rfl
          · exact .inr ⟨h1 (Nat.le_refl 1), rfl⟩
      · obtain ⟨⟨y6, rfl⟩, rfl, h1, h2⟩ := hP
        have h1 := h1 (show 1 ≤ 2 by decide)
        have h2 := h2 (show 2 ≤ 2 by decide)
        rw [after_take er]
        have hs : Has d ((bs.map (·.2)).take (i + 1)) := by
          rw [take_at er]
          intro x hx
          rcases List.mem_append.mp hx with hx | hx
          · exact ht x hx
          · rw [List.mem_singleton.mp hx]; exact ⟨h1, h2⟩
        rw [← kq] at h1 h2
        generalize after d ((bs.map (·.2)).take i) = q at hD8 h1 h2 lq
        have l2 := putN_len q b.2.1 (val q b.2.1 + b.2.2.2)
        refine ⟨.ref D, rfl, .str b.2.1, rfl, D, _, rfl, dg_N (.of hD8) h1, .int b.2.2.2, rfl, _, _, rfl, rfl, _, dput_N hD8 (by omega), ?_⟩
        refine ⟨.ref D, rfl, .str b.2.2.1, rfl, D, _, rfl, dg_N (.of upd_same) (by rw [keys_in h1]; exact h2), .int b.2.2.2, rfl, _, _, rfl, rfl, _, dput_N upd_same (by omega), ?_⟩
        refine ⟨⟨_, _, _, _, rfl⟩, fun a o e => ?_, hs, upd_same⟩
        rw [upd_ne (ne_of_none e nD), upd_ne (ne_of_none e nD)]; exact S8 _ _ e
    · obtain ⟨⟨y3, y4, y5, y6, rfl⟩, S7, ht, hD⟩ := hP
      rw [List.length_map, ← List.length_map (·.2), List.take_length] at hD ht
      exact ⟨.ref D, rfl, qG ht D H7 S7 nD hD⟩
end
end Tb
namespace Tb
open PySem PySem.Spec PyProof.Rows L2
abbrev sPay : Stmt := topS 12
abbrev NPay : List Str := ["balances", "left", "payers", "payees", "found", "payer", "payee", "cents", "name"]
theorem scPay : FnScope NPay ["balances"] (defScope sPay) := ⟨rfl, rfl, rfl, by decide +kernel, rfl, by decide +kernel, by decide +kernel⟩
abbrev wBal : Str := ("balances" : String)
theorem kvN_vals (d : DN) : (kvN d).map (·.2) = (d.map (·.2)).map V.int := by
  unfold kvN
  rw [List.map_map, List.map_map]; rfl
theorem srt_val {d : DN} {f : Str × Int} (h : f ∈ srtN d) : f.1 ∈ d.map (·.1) ∧ f.2 = val d f.1 := by
  obtain ⟨k, hk, rfl⟩ := List.mem_map.mp h
  exact ⟨(ksn_perm d).mem_iff.mp hk, rfl⟩
theorem owing_val {d : DN} {e : Str × Int} (h : e ∈ owing d) : e.1 ∈ d.map (·.1) ∧ val d e.1 = -e.2 := by
  obtain ⟨f, hf, rfl⟩ := List.mem_map.mp h
  obtain ⟨h1, h2⟩ := srt_val (List.mem_filter.mp hf).1
  exact ⟨h1, by show val d f.1 = - -f.2; rw [← h2]; omega⟩
theorem owed_val {d : DN} {e : Str × Int} (h : e ∈ owed d) : e.1 ∈ d.map (·.1) ∧ val d e.1 = e.2 := by
  obtain ⟨h1, h2⟩ := srt_val (List.mem_filter.mp h).1
  exact ⟨h1, h2.symm⟩
theorem left_names {x : DN} {a : Str} {x1 c : Int} {as : DN} (h1 : val x a = 0 ↔ x1 = c) (h2 : ∀ e ∈ as, val x e.1 ≠ 0) : (a :: as.map (·.1)).filter (fun n => !decide (val x n = 0)) = (if x1 = c then as else (a, x1 - c) :: as).map (·.1) := by
  have rest : (as.map (·.1)).filter (fun n => !decide (val x n = 0)) = as.map (·.1) := List.filter_eq_self.mpr fun n hn => by
    obtain ⟨e, he, rfl⟩ := List.mem_map.mp hn
    rw [decide_eq_false (h2 e he)]; rfl
  by_cases h : x1 = c
  · rw [if_pos h, List.filter_cons_of_neg (by rw [decide_eq_true (h1.mpr h)]; decide), rest]
  · rw [if_neg h, List.filter_cons_of_pos (by rw [decide_eq_false (fun z => h (h1.mp z))]; decide), rest]; rfl
theorem neg_neg_lt {y x : Int} : (if y < - -x then y else - -x) = if y < x then y else x := by rw [Int.neg_neg]
section
variable {P : Program} {w : World} {K : PySem.W.Frag} {mg : Str → Option Value} {base : Heap}
def spPay (CI : Addr) : Sp := fun vs H Q E => ∃ (r : Addr) (d : DN), vs = [.ref r] ∧ H r = some (.dK (kvN d)) ∧ (d.map (·.1)).Nodup ∧ d.length ≤ 100 ∧
  (totN d = 0 → ∀ (t : Addr) (bs : List (Addr × Row3)) (H' : Hp), Same H H' → H t = none → Rws H' t bs → bs.map (·.2) = ruleN d → Q (.ref t) H') ∧
  (totN d ≠ 0 → ∀ e H', Same H H' → H' e = some (.xd [(wWhat, .str wBal)]) → E (.ref CI) (some e) H')
theorem ok_pay {f CI gI : Addr} {fd gdI : FuncData} (F : Fun K "payments" "payments" sPay f fd) (B : Blt mg) (R : EInv K mg CI gI gdI) : FnOk P w K mg base (L2.CX P w) 3 f fd ["balances"] (spPay CI) := by
  have GI : FnOk P w K mg base CX0 1 gI gdI ["self", "what"] (spErr K wWhat) := ok_inv R.M.F
  refine F.okX scPay (fun vs H Q E h => ?_) (fun cdv A outer s H vs Q E hr h => ?_)
  · obtain ⟨r, d, rfl, _⟩ := h
    rfl
  · obtain ⟨r, d, rfl, hd, nd, ld, qG, qB⟩ := h
    have hu := hu_of hr
    have hr2 : Room 2 _ := hr.mono (show 2 ≤ 2 by decide)
    have hz : sizeLine = 16777216 := rfl
    refine ⟨_, (pss_cons (ps_if (pt_cmpR op_ne (pe_callB (cr_sum rfl) (by rfl) B.sum (by decide +kernel) (pa_cons (pe_listValues rfl (pv 0) (by rfl) B.list PyProof.Rows.boot_list) pa_nil)) pe_int (nomark _))
        (pss_one (ps_raise rfl (takes_of rfl rfl rfl rfl) (pmk_oex R.T.ox R.T.iC R.T.tI GI hr2 R.M.b .nil pass0 (by rfl) R.g (pa_cons pe_str pa_nil))))
        pss_nil)
      (pss_cons (ps_set (i := 1) scPay.nd rfl (.inr rfl) (pe_callTy call_dictD (by rfl) B.dict PyProof.Rows.boot_dict (pa_cons (pv 0) pa_nil)))
      (pss_cons (ps_setLc (i := 2) (own := [("name", 8)]) (g := gName 8) (by rfl) scPay.nd rfl rfl (sw_true rfl rfl rfl (by decide +kernel)) (pi_list (pe_callB (cr_sortedDk rfl hr.units) (by rfl) B.sorted PyProof.Rows.boot_sorted (pa_cons (pv 0) pa_nil))) (blkOk_by (N := NPay) (sc := defScope sPay) (by decide +kernel)) (fun _ _ _ _ _ => pg_name (i := 8) scPay.nd rfl (Or.inl rfl)) (fun _ _ _ _ _ => pts_one (pt_cmpR op_lt (pe_dget hu (pv 0) (pv 8) (fun _ _ => rfl)) pe_int (nomark _))) (fun _ _ _ _ _ => pv 8))
      (pss_cons (ps_setLc (i := 3) (own := [("name", 8)]) (g := gName 8) (by rfl) scPay.nd rfl rfl (sw_true rfl rfl rfl (by decide +kernel)) (pi_list (pe_callB (cr_sortedDk rfl hr.units) (by rfl) B.sorted PyProof.Rows.boot_sorted (pa_cons (pv 0) pa_nil))) (blkOk_by (N := NPay) (sc := defScope sPay) (by decide +kernel)) (fun _ _ _ _ _ => pg_name (i := 8) scPay.nd rfl (Or.inl rfl)) (fun _ _ _ _ _ => pts_one (pt_cmpR op_gt (pe_dget hu (pv 0) (pv 8) (fun _ _ => rfl)) pe_int (nomark _))) (fun _ _ _ _ _ => pv 8))
      (pss_cons (ps_set (i := 4) scPay.nd rfl (.inl rfl) (pe_lst pa_nil))
      (pss_cons (ps_while (passes_of rfl) (pt_truth (pv 2) (by intro _; rfl))
        (pss_cons (ps_par (i := 5) (j := 6) rfl scPay.nd rfl rfl (by decide) rfl rfl (pa_cons (pe_ix ix_list (pv 2) pe_int (fun _ _ => rfl)) (pa_cons (pe_ix ix_list (pv 3) pe_int (fun _ _ => rfl)) pa_nil)) (by rfl))
        (pss_cons (ps_set (i := 7) scPay.nd rfl (.inl rfl) (pe_callB (call_min2 rfl) (by rfl) B.min (by decide +kernel) (pa_cons (pe_un un_neg (pe_dget hu (pv 1) (pv 5) (fun _ _ => rfl))) (pa_cons (pe_dget hu (pv 1) (pv 6) (fun _ _ => rfl)) pa_nil))))
        (pss_cons (ps_expr (pe_bm PySem.F.plainAttrs_list PySem.F.slot_list_append PySem.F.type_list_append mt_append (pv 4) (pa_cons (pe_tup (pa_cons (pv 5) (pa_cons (pv 6) (pa_cons (pv 7) pa_nil)))) pa_nil)))
        (pss_cons (ps_daug hu (pv 1) (pv 5) (pv 7) in_add (fun _ _ _ => rfl))
        (pss_cons (ps_daug hu (pv 1) (pv 6) (pv 7) in_sub (fun _ _ _ => rfl))
        (pss_cons (ps_setLc (i := 2) (own := [("name", 8)]) (g := gName 8) (by rfl) scPay.nd rfl rfl (sw_true rfl rfl rfl (by decide +kernel)) (pi_list (pv 2)) (blkOk_by (N := NPay) (sc := defScope sPay) (by decide +kernel)) (fun _ _ _ _ _ => pg_name (i := 8) scPay.nd rfl (Or.inl rfl)) (fun _ _ _ _ _ => pts_one (pt_cmpR op_ne (pe_dget hu (pv 1) (pv 8) (fun _ _ => rfl)) pe_int (nomark _))) (fun _ _ _ _ _ => pv 8))
        (pss_one (ps_setLc (i := 3) (own := [("name", 8)]) (g := gName 8) (by rfl) scPay.nd rfl rfl (sw_true rfl rfl rfl (by decide +kernel)) (pi_list (pv 3)) (blkOk_by (N := NPay) (sc := defScope sPay) (by decide +kernel)) (fun _ _ _ _ _ => pg_name (i := 8) scPay.nd rfl (Or.inl rfl)) (fun _ _ _ _ _ => pts_one (pt_cmpR op_ne (pe_dget hu (pv 1) (pv 8) (fun _ _ => rfl)) pe_int (nomark _))) (fun _ _ _ _ _ => pv 8))))))))))
      (pss_one (ps_ret (pv 4))))))))), ?_⟩
    refine ⟨.ref r, rfl, r, kvN d, rfl, hd, fun p np => ?_⟩
    have S1 := same_upd (o := .lst ((kvN d).map (·.2))) np
    have hp1 : L2.upd H p (.lst ((kvN d).map (·.2))) p = some (.lst ((d.map (·.2)).map V.int)) := by rw [upd_same, kvN_vals]
    generalize L2.upd H p (.lst ((kvN d).map (·.2))) = H1 at S1 hp1
    refine ⟨p, _, rfl, sqOf hp1, rfl, _, rfl, ite2 (fun e => ?_) (fun e => ?_)⟩
    · refine ⟨(by show 1 ≤ 1000; decide), err_made R.T (Q := E) fun x H4 S4 he => qB (fun z => ?_) x H4 (S1.trans S4) he⟩
      rw [show (d.map (·.2)).sum = 0 from z, decide_eq_true rfl] at e
      exact absurd e (by decide)
    have td : totN d = 0 := by
      cases z : decide (V.int (d.map (·.2)).sum = V.int 0) with
      | true => exact V.int.inj (of_decide_eq_true z)
      | false => rw [z] at e; exact absurd rfl e
    have he : Even d := ⟨nd, td⟩
    have q := qG td
    refine ⟨.ref r, rfl, r, _, rfl, .of (S1 _ _ hd), fun LF nLF => ?_⟩
    have S2 := S1.trans (same_upd (o := .dK (kvN d)) nLF)
    have LF0 : H LF = none := S1.free nLF
    have hLF : L2.upd H1 LF (.dK (kvN d)) LF = some (.dK (kvN d)) := upd_same
    generalize L2.upd H1 LF (.dK (kvN d)) = H2 at S2 hLF
    have lk : (ksN d).length = d.length := by rw [(ksn_perm d).length_eq, List.length_map]
    refine ⟨.ref r, rfl, r, _, d.map (·.1), rfl, .of (S2 _ _ hd), kvN_keys d, by rw [List.length_map]; omega, fun p1 np1 => ?_⟩
    rw [show (d.map (·.1)).mergeSort (PySem.W.dataLe false PyData.str) = ksN d from rfl]
    have S3 := S2.trans (same_upd (o := .lst ((ksN d).map V.str)) np1)
    have hp1 : (L2.upd H2 p1 (.lst ((ksN d).map V.str))) p1 = some (.lst ((ksN d).map V.str)) := upd_same
    have hLF3 := same_upd (o := .lst ((ksN d).map V.str)) np1 _ _ hLF
    generalize L2.upd H2 p1 (.lst ((ksN d).map V.str)) = H3 at S3 hp1 hLF3
    refine ⟨p1, rfl, ⟨_, sqOf hp1⟩, fun PY nPY => ?_⟩
    refine lc_it (walk_list (a := p1) (xs := (ksN d).map V.str)) (fun i H' => Same H3 H' ∧ H' PY = some (.lst (((((srtN d).take i).filter isNeg).map (·.1)).map V.str))) ⟨same_upd nPY, upd_same⟩ (fun i H' _ hP => sqOf (hP.1 _ _ hp1)) (fun i v H' H'' hi hP hy => ?_) (fun H4 hP => ?_)
    · obtain ⟨S', hT⟩ := hP
      obtain ⟨rfl, ev⟩ := hy
      rw [List.getElem?_map] at ev
      obtain ⟨nm, en, rfl⟩ := Option.map_eq_some_iff.mp ev
      have mn : nm ∈ d.map (·.1) := (ksn_perm d).mem_iff.mp (List.mem_of_getElem? en)
      have es : (srtN d)[i]? = some (nm, val d nm) := by
        unfold srtN
        rw [List.getElem?_map, en]; rfl
      have g0 := dg_N (.of ((S3.trans S') _ _ hd)) mn
      refine ⟨rfl, .ref r, rfl, .str nm, rfl, r, _, rfl, g0, _, _, rfl, rfl, _, rfl, ite2 (fun e => ?_) (fun e => ?_)⟩
      · refine ⟨.str nm, rfl, _, hT, ?_, fun c o hc => ?_, ?_⟩
        · rw [List.length_map, List.length_map]
          have := List.length_filter_le isNeg ((srtN d).take i)
          rw [List.length_take] at this
          rw [List.length_map] at hi
          omega
        · rw [upd_ne (ne_of_none hc nPY)]; exact S' _ _ hc
        · rw [upd_same, take_at es, List.filter_append, List.filter_cons_of_pos (show isNeg (nm, val d nm) = true from e), List.filter_nil, List.map_append, List.map_append]; rfl
      · refine ⟨S', ?_⟩
        rw [take_at es, List.filter_append, List.filter_cons_of_neg (show ¬ isNeg (nm, val d nm) = true from e), List.filter_nil, List.append_nil]
        exact hT
    obtain ⟨S34, hPY4⟩ := hP
    rw [List.length_map, show (srtN d).take (ksN d).length = srtN d by rw [← srtn_keys d, List.length_map, List.take_length], ← owing_keys] at hPY4
    have S4 := S3.trans S34
    have hLF4 := S34 _ _ hLF3
    refine ⟨.ref r, rfl, r, _, d.map (·.1), rfl, .of (S4 _ _ hd), kvN_keys d, by rw [List.length_map]; omega, fun p2 np2 => ?_⟩
    rw [show (d.map (·.1)).mergeSort (PySem.W.dataLe false PyData.str) = ksN d from rfl]
    have S5 := S4.trans (same_upd (o := .lst ((ksN d).map V.str)) np2)
    have hp2 : (L2.upd H4 p2 (.lst ((ksN d).map V.str))) p2 = some (.lst ((ksN d).map V.str)) := upd_same
    have hPY5 := same_upd (o := .lst ((ksN d).map V.str)) np2 _ _ hPY4
    have hLF5 := same_upd (o := .lst ((ksN d).map V.str)) np2 _ _ hLF4
    generalize L2.upd H4 p2 (.lst ((ksN d).map V.str)) = H5 at S5 hp2 hLF5 hPY5
    refine ⟨p2, rfl, ⟨_, sqOf hp2⟩, fun PE nPE => ?_⟩
    refine lc_it (walk_list (a := p2) (xs := (ksN d).map V.str)) (fun i H' => Same H5 H' ∧ H' PE = some (.lst (((((srtN d).take i).filter isPos).map (·.1)).map V.str))) ⟨same_upd nPE, upd_same⟩ (fun i H' _ hP => sqOf (hP.1 _ _ hp2)) (fun i v H' H'' hi hP hy => ?_) (fun H6 hP => ?_)
    · obtain ⟨S', hT⟩ := hP
      obtain ⟨rfl, ev⟩ := hy
      rw [List.getElem?_map] at ev
      obtain ⟨nm, en, rfl⟩ := Option.map_eq_some_iff.mp ev
      have mn : nm ∈ d.map (·.1) := (ksn_perm d).mem_iff.mp (List.mem_of_getElem? en)
      have es : (srtN d)[i]? = some (nm, val d nm) := by
        unfold srtN
        rw [List.getElem?_map, en]; rfl
      have g0 := dg_N (.of ((S5.trans S') _ _ hd)) mn
      refine ⟨rfl, .ref r, rfl, .str nm, rfl, r, _, rfl, g0, _, _, rfl, rfl, _, rfl, ite2 (fun e => ?_) (fun e => ?_)⟩
      · refine ⟨.str nm, rfl, _, hT, ?_, fun c o hc => ?_, ?_⟩
        · rw [List.length_map, List.length_map]
          have := List.length_filter_le isPos ((srtN d).take i)
          rw [List.length_take] at this
          rw [List.length_map] at hi
          omega
        · rw [upd_ne (ne_of_none hc nPE)]; exact S' _ _ hc
        · rw [upd_same, take_at es, List.filter_append, List.filter_cons_of_pos (show isPos (nm, val d nm) = true from e), List.filter_nil, List.map_append, List.map_append]; rfl
      · refine ⟨S', ?_⟩
        rw [take_at es, List.filter_append, List.filter_cons_of_neg (show ¬ isPos (nm, val d nm) = true from e), List.filter_nil, List.append_nil]
        exact hT
    obtain ⟨S56, hPE6⟩ := hP
    rw [List.length_map, show (srtN d).take (ksN d).length = srtN d by rw [← srtn_keys d, List.length_map, List.take_length], show ((srtN d).filter isPos).map (·.1) = (owed d).map (·.1) from rfl] at hPE6
    have S6 := S5.trans S56
    have hLF6 := S56 _ _ hLF5
    have hPY6 := S56 _ _ hPY5
    have PYE : PY ≠ PE := fun z => by rw [← z, hPY5] at nPE; cases nPE
    have PY0 : H PY = none := S3.free nPY
    have PE0 : H PE = none := S5.free nPE
    refine ⟨by show 0 ≤ sizeLine; omega, fun FO nFO => ?_⟩
    have S7 := S6.trans (same_upd (o := .lst []) nFO)
    have hLF7 := same_upd (o := .lst []) nFO _ _ hLF6
    have hPY7 := same_upd (o := .lst []) nFO _ _ hPY6
    have hPE7 := same_upd (o := .lst []) nFO _ _ hPE6
    have hFO7 : Rws (L2.upd H6 FO (.lst [])) FO [] := ⟨upd_same, fun _ h => by cases h⟩
    have FO0 : H FO = none := S6.free nFO
    have LFF : LF ≠ FO := fun z => by rw [← z, hLF6] at nFO; cases nFO
    generalize L2.upd H6 FO (.lst []) = H7 at S7 hLF7 hPY7 hPE7 hFO7
    have nk := ksn_nd nd
    have lo : (owing d).length + (owed d).length ≤ 200 := by
      have h3 : (owing d).length ≤ (srtN d).length := by unfold owing; rw [List.length_map]; exact List.length_filter_le _ _
      have h4 : (owed d).length ≤ (srtN d).length := List.length_filter_le _ _
      have h5 : (srtN d).length = d.length := by unfold srtN; rw [List.length_map, lk]
      omega
    refine ⟨fun m σ HA => ∃ (PY PE : Addr) (y5 y6 y7 : Option V) (as cs x : DN) (bs : List (Addr × Row3)), σ = [some (.ref r), some (.ref LF), some (.ref PY), some (.ref PE), some (.ref FO), y5, y6, y7, none] ∧ Same H HA ∧ HA LF = some (.dK (kvN x)) ∧ HA PY = some (.lst ((as.map (·.1)).map V.str)) ∧ HA PE = some (.lst ((cs.map (·.1)).map V.str)) ∧ Rws HA FO bs ∧ m = as.length + cs.length ∧ bs.map (·.2) ++ settle as cs = ruleN d ∧ AllPos as ∧ AllPos cs ∧ totN as = totN cs ∧ (as.map (·.1)).Nodup ∧ (cs.map (·.1)).Nodup ∧ (∀ e ∈ as, ∀ f ∈ cs, e.1 ≠ f.1) ∧ (∀ e ∈ as, getN x e.1 = some (-e.2)) ∧ (∀ e ∈ cs, getN x e.1 = some e.2) ∧ x.length ≤ 100 ∧ as.length + cs.length + bs.length ≤ 200, ?_, ?_⟩
    · refine ⟨_, PY, PE, none, none, none, owing d, owed d, d, [], rfl, S7, hLF7, hPY7, hPE7, hFO7, rfl, rfl, owing_pos d, owed_pos d, owe_eq he, (owing_sub d).nodup nk, (owed_sub d).nodup nk, fun e he f hf z => ?_, fun e he => ?_, fun e he => ?_, ld, lo⟩
      · have h1 := (owing_val he).2
        have h2 := (owed_val hf).2
        have h3 := owing_pos d e he
        have h4 := owed_pos d f hf
        rw [z] at h1
        omega
      · rw [val_get (owing_val he).1, (owing_val he).2]
      · rw [val_get (owed_val he).1, (owed_val he).2]
    · rintro m σ HA ⟨PY, PE, y5, y6, y7, as, cs, x, bs, rfl, SA, hLFA, hPYA, hPEA, hFA, rfl, st, pa, pc, ta, na, nc, dis, ga, gc, lx, lb⟩
      cases as with
      | nil =>
        refine ⟨.ref PY, rfl, false, .inl ⟨_, sqOf hPYA, rfl⟩, ?_⟩
        rw [settle_nil1, List.append_nil] at st
        exact ⟨.ref FO, rfl, q FO bs HA SA FO0 hFA st⟩
      | cons ax as =>
        cases cs with
        | nil =>
          have := pa.tl.nn
          have := pa.hd
          rw [totn_cons, tot_nil] at ta
          omega
        | cons by1 cs =>
          obtain ⟨a, x1⟩ := ax
          obtain ⟨b, y⟩ := by1
          refine ⟨.ref PY, rfl, true, .inl ⟨_, sqOf hPYA, rfl⟩, ?_⟩
          refine ⟨_, fun _ _ h => h, ?_⟩
          have g1 : getN x a = some (-x1) := ga (a, x1) List.mem_cons_self
          have g2 : getN x b = some y := gc (b, y) List.mem_cons_self
          have ab : a ≠ b := dis (a, x1) List.mem_cons_self (b, y) List.mem_cons_self
          refine ⟨.ref PY, rfl, PY, _, 0, .str a, rfl, rfl, sqOf hPYA, atI_nat (j := 0) rfl, .ref PE, rfl, PE, _, 0, .str b, rfl, rfl, sqOf hPEA, atI_nat (j := 0) rfl, .str a, .str b, rfl, ?_⟩
          refine ⟨.ref LF, rfl, .str a, rfl, LF, _, rfl, dg_K (.of hLFA) g1, _, rfl, .ref LF, rfl, .str b, rfl, LF, _, rfl, dg_K (.of hLFA) g2, _, _, rfl, ?_⟩
          obtain ⟨c, hc⟩ : ∃ c, c = if y < x1 then y else x1 := ⟨_, rfl⟩
          rw [neg_neg_lt, ← hc]
          have c12 : (c = x1 ∧ x1 ≤ y) ∨ (c = y ∧ y < x1) := by
            by_cases z : y < x1
            · exact .inr ⟨by rw [hc, if_pos z], z⟩
            · exact .inl ⟨by rw [hc, if_neg z], by omega⟩
          refine ⟨.ref FO, rfl, .inl ⟨rfl, _, sqOf hFA.l⟩, .str a, rfl, .str b, rfl, .int c, rfl, by show 3 ≤ sizeLine; omega, fun T nT => ?_⟩
          have ST := same_upd (o := .tup [V.str a, V.str b, V.int c]) nT
          refine ⟨FO, _, .ref T, rfl, rfl, ST _ _ hFA.l, by rw [List.length_map]; rw [List.length_cons, List.length_cons] at lb; omega, ?_⟩
          have PYF : PY ≠ FO := fun z => by
            have := hFA.l
            rw [← z, hPYA] at this
            cases bs <;> cases this
          have PEF : PE ≠ FO := fun z => by
            have := hFA.l
            rw [← z, hPEA] at this
            cases bs <;> cases this
          have hPYB : L2.upd (L2.upd HA T (.tup [V.str a, V.str b, V.int c])) FO (.lst ((bs.map fun b => V.ref b.1) ++ [V.ref T])) PY = _ := (upd_ne PYF).trans (ST _ _ hPYA)
          have hPEB : L2.upd (L2.upd HA T (.tup [V.str a, V.str b, V.int c])) FO (.lst ((bs.map fun b => V.ref b.1) ++ [V.ref T])) PE = _ := (upd_ne PEF).trans (ST _ _ hPEA)
          have hLFB : L2.upd (L2.upd HA T (.tup [V.str a, V.str b, V.int c])) FO (.lst ((bs.map fun b => V.ref b.1) ++ [V.ref T])) LF = _ := (upd_ne LFF).trans (ST _ _ hLFA)
          have hFB := hFA.snoc (r := (a, b, c)) nT
          have SB : Same H (L2.upd (L2.upd HA T (.tup [V.str a, V.str b, V.int c])) FO (.lst ((bs.map fun b => V.ref b.1) ++ [V.ref T]))) := fun z o hz => by
            rw [upd_ne (ne_of_none hz FO0)]; exact ST _ _ (SA _ _ hz)
          generalize L2.upd (L2.upd HA T (.tup [V.str a, V.str b, V.int c])) FO (.lst ((bs.map fun b => V.ref b.1) ++ [V.ref T])) = HB at hPYB hPEB hLFB hFB SB
          have keysg : ∀ {d : DN} {k : Str} {v : Int}, getN d k = some v → k ∈ d.map (·.1) := fun {d k v} h => by
            by_cases z : k ∈ d.map (·.1)
            · exact z
            · rw [getN_none z] at h; cases h
          have lxa : (putN x a (-x1 + c)).length = x.length := by
            have := congrArg List.length (keys_in (v := -x1 + c) (keysg g1))
            rwa [List.length_map, List.length_map] at this
          have g3 : getN (putN x a (-x1 + c)) b = some y := by rw [getN_put, if_neg (Ne.symm ab), g2]
          have lxb : (putN (putN x a (-x1 + c)) b (y - c)).length = x.length := by
            have := congrArg List.length (keys_in (v := y - c) (keysg g3))
            rw [List.length_map, List.length_map] at this
            omega
          refine ⟨.ref LF, rfl, .str a, rfl, LF, _, rfl, dg_K (.of hLFB) g1, .int c, rfl, _, _, rfl, rfl, _, dput_N hLFB (by omega), ?_⟩
          refine ⟨.ref LF, rfl, .str b, rfl, LF, _, rfl, dg_K (.of upd_same) g3, .int c, rfl, _, _, rfl, rfl, _, dput_N upd_same (by omega), ?_⟩
          have gx : ∀ k, getN (putN (putN x a (-x1 + c)) b (y - c)) k = if k = b then some (y - c) else if k = a then some (-x1 + c) else getN x k := fun k => by rw [getN_put, getN_put]
          have SC : Same H (L2.upd (L2.upd HB LF (.dK (kvN (putN x a (-x1 + c))))) LF (.dK (kvN (putN (putN x a (-x1 + c)) b (y - c))))) := fun z o hz => by
            rw [upd_ne (ne_of_none hz LF0), upd_ne (ne_of_none hz LF0)]; exact SB _ _ hz
          have PYL : PY ≠ LF := fun z => by rw [z, hLFB] at hPYB; cases hPYB
          have PEL : PE ≠ LF := fun z => by rw [z, hLFB] at hPEB; cases hPEB
          have hPYC : L2.upd (L2.upd HB LF (.dK (kvN (putN x a (-x1 + c))))) LF (.dK (kvN (putN (putN x a (-x1 + c)) b (y - c)))) PY = _ := (upd_ne PYL).trans ((upd_ne PYL).trans hPYB)
          have hPEC : L2.upd (L2.upd HB LF (.dK (kvN (putN x a (-x1 + c))))) LF (.dK (kvN (putN (putN x a (-x1 + c)) b (y - c)))) PE = _ := (upd_ne PEL).trans ((upd_ne PEL).trans hPEB)
          have hFC : Rws (L2.upd (L2.upd HB LF (.dK (kvN (putN x a (-x1 + c))))) LF (.dK (kvN (putN (putN x a (-x1 + c)) b (y - c))))) FO (bs ++ [(T, (a, b, c))]) := ⟨(upd_ne (Ne.symm LFF)).trans ((upd_ne (Ne.symm LFF)).trans hFB.l), fun z hz => by
            have := hFB.t z hz
            have ne : z.1 ≠ LF := fun e => by rw [e, hLFB] at this; cases this
            rw [upd_ne ne, upd_ne ne]; exact this⟩
          have hLFC : L2.upd (L2.upd HB LF (.dK (kvN (putN x a (-x1 + c))))) LF (.dK (kvN (putN (putN x a (-x1 + c)) b (y - c)))) LF = some (.dK (kvN (putN (putN x a (-x1 + c)) b (y - c)))) := upd_same
          generalize L2.upd (L2.upd HB LF (.dK (kvN (putN x a (-x1 + c))))) LF (.dK (kvN (putN (putN x a (-x1 + c)) b (y - c)))) = HC at SC hPYC hPEC hFC hLFC
          generalize putN (putN x a (-x1 + c)) b (y - c) = x2 at gx hLFC lxb
          obtain ⟨na1, na2⟩ := List.nodup_cons.mp na
          obtain ⟨nc1, nc2⟩ := List.nodup_cons.mp nc
          have gas : ∀ e ∈ as, getN x2 e.1 = some (-e.2) := fun e he => by
            rw [gx, if_neg (dis e (List.mem_cons_of_mem _ he) (b, y) List.mem_cons_self), if_neg (fun z => na1 (List.mem_map.mpr ⟨e, he, z⟩)), ga e (List.mem_cons_of_mem _ he)]
          have gcs : ∀ e ∈ cs, getN x2 e.1 = some e.2 := fun e he => by
            rw [gx, if_neg (fun z => nc1 (List.mem_map.mpr ⟨e, he, z⟩)), if_neg (fun z => dis (a, x1) List.mem_cons_self e (List.mem_cons_of_mem _ he) z.symm), gc e (List.mem_cons_of_mem _ he)]
          have gxa : getN x2 a = some (-x1 + c) := by rw [gx, if_neg ab, if_pos rfl]
          have gxb : getN x2 b = some (y - c) := by rw [gx, if_pos rfl]
          have vg : ∀ {k : Str} {v : Int}, getN x2 k = some v → val x2 k = v := fun h => by unfold val; rw [h]; rfl
          have nmA := left_names (x := x2) (a := a) (x1 := x1) (c := c) (as := as) (by rw [vg gxa]; omega) (fun e he => by rw [vg (gas e he)]; have := pa.tl e he; omega)
          have nmC := left_names (x := x2) (a := b) (x1 := y) (c := c) (as := cs) (by rw [vg gxb]; omega) (fun e he => by rw [vg (gcs e he)]; have := pc.tl e he; omega)
          have getA : ∀ n ∈ a :: as.map (·.1), ∃ v, getN x2 n = some v := fun n hn => by
            rcases List.mem_cons.mp hn with rfl | hn
            · exact ⟨_, gxa⟩
            · obtain ⟨e, he, rfl⟩ := List.mem_map.mp hn
              exact ⟨_, gas e he⟩
          have getC : ∀ n ∈ b :: cs.map (·.1), ∃ v, getN x2 n = some v := fun n hn => by
            rcases List.mem_cons.mp hn with rfl | hn
            · exact ⟨_, gxb⟩
            · obtain ⟨e, he, rfl⟩ := List.mem_map.mp hn
              exact ⟨_, gcs e he⟩
          have lA : (a :: as.map (·.1)).length + (b :: cs.map (·.1)).length ≤ 200 := by
            rw [List.length_cons, List.length_cons] at lb
            rw [List.length_cons, List.length_cons, List.length_map, List.length_map]
            omega
          have hPYC : HC PY = some (.lst ((a :: as.map (·.1)).map V.str)) := hPYC
          have hPEC : HC PE = some (.lst ((b :: cs.map (·.1)).map V.str)) := hPEC
          obtain ⟨nsA, eA⟩ : ∃ nsA, nsA = a :: as.map (·.1) := ⟨_, rfl⟩
          obtain ⟨nsC, eC⟩ : ∃ nsC, nsC = b :: cs.map (·.1) := ⟨_, rfl⟩
          rw [← eA] at hPYC nmA getA lA
          rw [← eC] at hPEC nmC getC lA
          refine ⟨.ref PY, rfl, PY, rfl, ⟨_, sqOf hPYC⟩, fun N1 nN1 => ?_⟩
          refine lc_it (walk_list (a := PY) (xs := nsA.map V.str)) (fun i H' => Same HC H' ∧ H' N1 = some (.lst (((nsA.take i).filter (fun n => !decide (val x2 n = 0))).map V.str))) ⟨same_upd nN1, upd_same⟩ (fun i H' _ hP => sqOf (hP.1 _ _ hPYC)) (fun i v H' H'' hi hP hy => ?_) (fun HD hP => ?_)
          · obtain ⟨S', hT⟩ := hP
            obtain ⟨rfl, ev⟩ := hy
            rw [List.getElem?_map] at ev
            obtain ⟨nm, en, rfl⟩ := Option.map_eq_some_iff.mp ev
            obtain ⟨v, gv⟩ := getA nm (List.mem_of_getElem? en)
            refine ⟨rfl, .ref LF, rfl, .str nm, rfl, LF, _, rfl, dg_K (.of (S' _ _ hLFC)) gv, rfl, _, rfl, ?_⟩
            have ed : decide (V.int v = V.int 0) = decide (val x2 nm = 0) := by
              rw [vg gv]
              exact decide_eq_decide.mpr ⟨fun z => V.int.inj z, fun z => by rw [z]⟩
            rw [ed]
            refine ite2 (fun e => ?_) (fun e => ?_)
            · refine ⟨.str nm, rfl, _, hT, ?_, fun c o hc => ?_, ?_⟩
              · rw [List.length_map]
                have := List.length_filter_le (fun n => !decide (val x2 n = 0)) (nsA.take i)
                rw [List.length_take] at this
                omega
              · rw [upd_ne (ne_of_none hc nN1)]; exact S' _ _ hc
              · rw [upd_same, take_at en, List.filter_append, List.filter_cons_of_pos (p := fun n => !decide (val x2 n = 0)) e, List.filter_nil, List.map_append]; rfl
            · refine ⟨S', ?_⟩
              rw [take_at en, List.filter_append, List.filter_cons_of_neg (p := fun n => !decide (val x2 n = 0)) e, List.filter_nil, List.append_nil]
              exact hT
          obtain ⟨SCD, hN1⟩ := hP
          rw [List.length_map, List.take_length, nmA] at hN1
          have hPED := SCD _ _ hPEC
          have hLFD := SCD _ _ hLFC
          refine ⟨.ref PE, rfl, PE, rfl, ⟨_, sqOf hPED⟩, fun N2 nN2 => ?_⟩
          refine lc_it (walk_list (a := PE) (xs := nsC.map V.str)) (fun i H' => Same HD H' ∧ H' N2 = some (.lst (((nsC.take i).filter (fun n => !decide (val x2 n = 0))).map V.str))) ⟨same_upd nN2, upd_same⟩ (fun i H' _ hP => sqOf (hP.1 _ _ hPED)) (fun i v H' H'' hi hP hy => ?_) (fun HE hP => ?_)
          · obtain ⟨S', hT⟩ := hP
            obtain ⟨rfl, ev⟩ := hy
            rw [List.getElem?_map] at ev
            obtain ⟨nm, en, rfl⟩ := Option.map_eq_some_iff.mp ev
            obtain ⟨v, gv⟩ := getC nm (List.mem_of_getElem? en)
            refine ⟨rfl, .ref LF, rfl, .str nm, rfl, LF, _, rfl, dg_K (.of (S' _ _ hLFD)) gv, rfl, _, rfl, ?_⟩
            have ed : decide (V.int v = V.int 0) = decide (val x2 nm = 0) := by
              rw [vg gv]
              exact decide_eq_decide.mpr ⟨fun z => V.int.inj z, fun z => by rw [z]⟩
            rw [ed]
            refine ite2 (fun e => ?_) (fun e => ?_)
            · refine ⟨.str nm, rfl, _, hT, ?_, fun c o hc => ?_, ?_⟩
              · rw [List.length_map]
                have := List.length_filter_le (fun n => !decide (val x2 n = 0)) (nsC.take i)
                rw [List.length_take] at this
                omega
              · rw [upd_ne (ne_of_none hc nN2)]; exact S' _ _ hc
              · rw [upd_same, take_at en, List.filter_append, List.filter_cons_of_pos (p := fun n => !decide (val x2 n = 0)) e, List.filter_nil, List.map_append]; rfl
            · refine ⟨S', ?_⟩
              rw [take_at en, List.filter_append, List.filter_cons_of_neg (p := fun n => !decide (val x2 n = 0)) e, List.filter_nil, List.append_nil]
              exact hT
          obtain ⟨SDE, hN2⟩ := hP
          rw [List.length_map, List.take_length, nmC] at hN2
          have hN1E := SDE _ _ hN1
          have SE := SC.trans (SCD.trans SDE)
          have mid : ∀ {e : Str × Int}, e ∈ (if x1 = c then as else (a, x1 - c) :: as) → e ∈ as ∨ (x1 ≠ c ∧ e = (a, x1 - c)) := fun {e} he => by
            by_cases z : x1 = c
            · rw [if_pos z] at he; exact .inl he
            · rw [if_neg z] at he
              exact (List.mem_cons.mp he).elim (fun h => .inr ⟨z, h⟩) .inl
          have mid2 : ∀ {e : Str × Int}, e ∈ (if y = c then cs else (b, y - c) :: cs) → e ∈ cs ∨ (y ≠ c ∧ e = (b, y - c)) := fun {e} he => by
            by_cases z : y = c
            · rw [if_pos z] at he; exact .inl he
            · rw [if_neg z] at he
              exact (List.mem_cons.mp he).elim (fun h => .inr ⟨z, h⟩) .inl
          have tA : totN (if x1 = c then as else (a, x1 - c) :: as) = totN as + (x1 - c) := by
            by_cases z : x1 = c
            · rw [if_pos z]; omega
            · rw [if_neg z, totn_cons]; show x1 - c + _ = _; omega
          have tC : totN (if y = c then cs else (b, y - c) :: cs) = totN cs + (y - c) := by
            by_cases z : y = c
            · rw [if_pos z]; omega
            · rw [if_neg z, totn_cons]; show y - c + _ = _; omega
          have lA2 : (if x1 = c then as else (a, x1 - c) :: as).length = as.length + (if x1 = c then 0 else 1) := by
            by_cases z : x1 = c
            · rw [if_pos z, if_pos z]; rfl
            · rw [if_neg z, if_neg z]; rfl
          have lC2 : (if y = c then cs else (b, y - c) :: cs).length = cs.length + (if y = c then 0 else 1) := by
            by_cases z : y = c
            · rw [if_pos z, if_pos z]; rfl
            · rw [if_neg z, if_neg z]; rfl
          have less : (if x1 = c then 0 else 1) + (if y = c then 0 else 1) ≤ 1 := by
            rcases c12 with ⟨z, _⟩ | ⟨z, _⟩
            · rw [if_pos z.symm]; split <;> omega
            · rw [if_pos z.symm]; split <;> omega
          rw [totn_cons, totn_cons] at ta
          have ta : x1 + totN as = y + totN cs := ta
          refine ⟨_, ?_, N1, N2, _, _, _, if x1 = c then as else (a, x1 - c) :: as, if y = c then cs else (b, y - c) :: cs, x2, bs ++ [(T, (a, b, c))], rfl, SE, SDE _ _ hLFD, hN1E, hN2, (hFC.same SCD).same SDE, rfl, ?_, fun e he => ?_, fun e he => ?_, by omega, ?_, ?_, fun e he f hf => ?_, fun e he => ?_, fun e he => ?_, by omega, ?_⟩
          · rw [lA2, lC2, List.length_cons, List.length_cons]; omega
          · rw [← st, settle_cons, List.map_append, List.append_assoc]
            congr 1
            by_cases h1 : x1 = y
            · have h2 : c = x1 := by omega
              rw [if_pos h1, if_pos h2.symm, if_pos (h1 ▸ h2.symm), h2]; rfl
            · rw [if_neg h1]
              by_cases h3 : x1 < y
              · have h2 : c = x1 := by omega
                rw [if_pos h3, if_pos h2.symm, if_neg (by omega), h2]; rfl
              · have h2 : c = y := by omega
                rw [if_neg h3, if_neg (by omega), if_pos h2.symm, h2]; rfl
          · rcases mid he with h | ⟨z, rfl⟩
            · exact pa.tl e h
            · show 1 ≤ x1 - c; omega
          · rcases mid2 he with h | ⟨z, rfl⟩
            · exact pc.tl e h
            · show 1 ≤ y - c; omega
          · by_cases z : x1 = c
            · rw [if_pos z]; exact na2
            · rw [if_neg z]; exact na
          · by_cases z : y = c
            · rw [if_pos z]; exact nc2
            · rw [if_neg z]; exact nc
          · have h1 : ∃ e', e' ∈ (a, x1) :: as ∧ e'.1 = e.1 := by
              rcases mid he with h | ⟨z, rfl⟩
              · exact ⟨e, List.mem_cons_of_mem _ h, rfl⟩
              · exact ⟨_, List.mem_cons_self, rfl⟩
            have h2 : ∃ f', f' ∈ (b, y) :: cs ∧ f'.1 = f.1 := by
              rcases mid2 hf with h | ⟨z, rfl⟩
              · exact ⟨f, List.mem_cons_of_mem _ h, rfl⟩
              · exact ⟨_, List.mem_cons_self, rfl⟩
            obtain ⟨e', m1, q1⟩ := h1
            obtain ⟨f', m2, q2⟩ := h2
            rw [← q1, ← q2]
            exact dis e' m1 f' m2
          · rcases mid he with h | ⟨z, rfl⟩
            · exact gas e h
            · rw [gxa]
              show _ = some (-(x1 - c))
              congr 1
              omega
          · rcases mid2 he with h | ⟨z, rfl⟩
            · exact gcs e h
            · exact gxb
          · rw [lA2, lC2, List.length_append]
            rw [List.length_cons, List.length_cons] at lb
            show _ + (bs.length + 1) ≤ _
            omega
end
end Tb
namespace Tb
open PySem PySem.Spec PyProof.Rows L2
abbrev sOthers : Stmt := topS 33
abbrev NOthers : List Str := ["box", "purse", "names", "found", "k", "payer", "payee"]
theorem scOthers : FnScope NOthers ["box", "purse"] (defScope sOthers) := ⟨rfl, rfl, rfl, by decide +kernel, rfl, by decide +kernel, by decide +kernel⟩
abbrev sForm : Stmt := topS 34
abbrev NForm : List Str := ["rows", "row"]
theorem scForm : FnScope NForm ["rows"] (defScope sForm) := ⟨rfl, rfl, rfl, by decide +kernel, rfl, by decide +kernel, by decide +kernel⟩
section
variable {P : Program} {w : World} {K : PySem.W.Frag} {mg : Str → Option Value} {base : Heap}
abbrev CRule (P : Program) (w : World) (K : PySem.W.Frag) (mg : Str → Option Value) (base : Heap) (g : Addr) (gd : FuncData) := C1 P w K mg base "_law_rule" sRule ["purse"] 1 spRule g gd
abbrev CAfter (P : Program) (w : World) (K : PySem.W.Frag) (mg : Str → Option Value) (base : Heap) (g : Addr) (gd : FuncData) := C1 P w K mg base "_law_after" sAfter ["purse", "rows"] 1 spAfter g gd
def spForm : Sp := fun vs H Q _ => ∃ (l : Addr) (bs : List (Addr × Row3)), vs = [.ref l] ∧ Rws H l bs ∧ Q (.bl true) H
theorem ok_form {f g : Addr} {fd gd : FuncData} (F : Fun K "_law_form" "_law_form" sForm f fd) (cIsInt : CIsInt P w K mg base g gd) (B : Blt mg) : FnOk P w K mg base CX0 2 f fd ["rows"] spForm := by
  refine F.ok scForm (fun vs H Q E h => ?_) (fun cdv A outer s H vs Q E hr h => ?_)
  · obtain ⟨l, bs, rfl, _⟩ := h
    rfl
  · obtain ⟨l, bs, rfl, hR, q⟩ := h
    refine ⟨_, (pss_cons (ps_if (pt_not (pt_val (pe_callB call_isi (by rfl) B.isi (by decide +kernel) (pa_cons (pv 0) (pa_cons (pe_bltn (by rfl) B.list PyProof.Rows.boot_list (v := .ty "list") (u := .type "list") rfl) pa_nil)))))
        (pss_one (ps_ret pe_bl))
        pss_nil)
      (pss_cons (ps_for PassesOwn.never rfl (pi_list (pv 0)) (pg_name (i := 1) scForm.nd rfl (.inl rfl))
        (pss_cons (ps_if (PW.pt (pw_or (pt_not (pt_val (pe_callB call_isi (by rfl) B.isi (by decide +kernel) (pa_cons (pv 1) (pa_cons (pe_bltn (by rfl) B.tuple (by decide +kernel) (v := .ty "tuple") (u := .type "tuple") rfl) pa_nil))))) (pw_or (pt_cmpR op_ne (pe_callB call_len_seq (by rfl) B.len PySem.boot_len (pa_cons (pv 1) pa_nil)) pe_int (nomark _)) (pw_or1 (pt_not (pt_val (pe_call cIsInt.G (hr.mono (by first | decide | omega)) (by rfl) cIsInt.D.g cIsInt.D.F.kp cIsInt.D.b .nil pass0 (pa_cons (pe_ix (r := rIxT K) ix_tup (pv 1) pe_int (fun _ _ => rfl)) pa_nil))))))))
          (pss_one (ps_ret pe_bl))
          pss_nil)
        (pss_one (ps_if (PW.pt (pw_or (pt_not (pt_val (pe_callB call_isi (by rfl) B.isi (by decide +kernel) (pa_cons (pe_ix (r := rIxT K) ix_tup (pv 1) pe_int (fun _ _ => rfl)) (pa_cons (pe_bltn (by rfl) B.str PyProof.Rows.boot_str (v := .ty "str") (u := .type "str") rfl) pa_nil))))) (pw_or1 (pt_not (pt_val (pe_callB call_isi (by rfl) B.isi (by decide +kernel) (pa_cons (pe_ix (r := rIxT K) ix_tup (pv 1) pe_int (fun _ _ => rfl)) (pa_cons (pe_bltn (by rfl) B.str PyProof.Rows.boot_str (v := .ty "str") (u := .type "str") rfl) pa_nil))))))))
          (pss_one (ps_ret pe_bl))
          pss_nil))))
      (pss_one (ps_ret pe_bl)))), ?_⟩
    refine ⟨.ref l, rfl, .ref l, .ty "list", _, .type "list", true, rfl, .ty _, .base (.lst hR.l), kit_ty (by decide +kernel), true, rfl, ?_⟩
    refine ⟨.ref l, rfl, l, rfl, ⟨_, sqOf hR.l⟩, ?_⟩
    refine for_list (a := l) (xs := bs.map fun b => V.ref b.1) (fun i σ H1 => (∃ y1, σ = [some (.ref l), y1]) ∧ H1 = H) ⟨⟨none, rfl⟩, rfl⟩ (fun i σ H1 _ hP => by rw [hP.2]; exact sqOf hR.l) (fun i v σ H1 ev hP => ?_) (fun σ H1 hP => ?_)
    · obtain ⟨⟨y1, rfl⟩, rfl⟩ := hP
      rw [List.getElem?_map] at ev
      obtain ⟨b, eb, rfl⟩ := Option.map_eq_some_iff.mp ev
      have hb := hR.t b (List.mem_of_getElem? eb)
      have sT : SqT K H1 b.1 _ := .of hb
      refine ⟨.ref b.1, rfl, .ref b.1, .ty "tuple", _, .type "tuple", true, rfl, .ty _, .base (.tup hb), kit_ty (by decide +kernel), true, rfl, ?_⟩
      refine ⟨.ref b.1, rfl, b.1, _, rfl, .inr sT, rfl, _, rfl, ite2 (fun e => absurd (show (!decide (V.int 3 = V.int 3)) = true from e) (by decide)) (fun _ => ?_)⟩
      refine ⟨.ref b.1, rfl, b.1, _, 2, .int b.2.2.2, rfl, rfl, sT, rfl, _, rfl, true, rfl, ?_⟩
      refine ⟨.ref b.1, rfl, b.1, _, 0, .str b.2.1, rfl, rfl, sT, rfl, .str b.2.1, .ty "str", _, .type "str", true, rfl, .ty _, .base (.str _), kit_ty (by decide +kernel), true, rfl, ?_⟩
      refine ⟨.ref b.1, rfl, b.1, _, 1, .str b.2.2.1, rfl, rfl, sT, rfl, .str b.2.2.1, .ty "str", _, .type "str", true, rfl, .ty _, .base (.str _), kit_ty (by decide +kernel), true, rfl, ?_⟩
      exact ⟨⟨_, rfl⟩, rfl⟩
    · obtain ⟨⟨y1, rfl⟩, rfl⟩ := hP
      exact q
def spOthers : Sp := fun vs H Q _ => ∃ (p g r : Addr) (n : Nat) (d : DN), vs = [.ref p, .ref r] ∧ Box g n H p ∧ n < 2 ^ 58 ∧ H r = some (.dK (kvN d)) ∧ r ≠ p ∧ r ≠ g ∧ Even d ∧ 1 ≤ d.length ∧ d.length ≤ 40 ∧ ∀ (t : Addr) (bs : List (Addr × Row3)) (H' : Hp), Rws H' t bs → Oth d (bs.map (·.2)) → bs.length ≤ 100 → H t = none → Box g (n + 30) H' p → But2 p g H H' → Q (.ref t) H'
theorem ok_others {f g1 g2 g3 g4 : Addr} {fd gd1 gd2 gd3 gd4 : FuncData} (F : Fun K "_law_others" "_law_others" sOthers f fd) (cDraw : CDraw P w K mg base g1 gd1) (cCents : CCents P w K mg base g2 gd2) (cRule : CRule P w K mg base g3 gd3) (cAfter : CAfter P w K mg base g4 gd4) (B : Blt mg) : FnOk P w K mg base CX0 3 f fd ["box", "purse"] spOthers := by
  refine F.ok scOthers (fun vs H Q E h => ?_) (fun cdv A outer s H vs Q E hr h => ?_)
  · obtain ⟨p, G, r, n, d, rfl, _⟩ := h
    rfl
  · obtain ⟨p, G, r, n, d, rfl, hB, hn, hd, rp, rg, he, l1, l40, q⟩ := h
    have hz : sizeLine = 16777216 := rfl
    refine ⟨_, (pss_cons (ps_set (i := 2) scOthers.nd rfl (.inl rfl) (pe_callB (cr_sortedDk rfl hr.units) (by rfl) B.sorted PyProof.Rows.boot_sorted (pa_cons (pv 1) pa_nil)))
      (pss_cons (ps_set (i := 3) scOthers.nd rfl (.inl rfl) (pe_lst pa_nil))
      (pss_cons (ps_for PassesOwn.never rfl (pi_range1 (by rfl) B.range (pa_cons (pe_op op_mul (pe_call cDraw.G (hr.mono (by first | decide | omega)) (by rfl) cDraw.D.g cDraw.D.F.kp cDraw.D.b .nil pass0 (pa_cons (pv 0) (pa_cons pe_int pa_nil))) (pe_callTy call_int1 (by rfl) B.int PyProof.Rows.boot_int (pa_cons (pe_cmpR op_gt (pe_callB call_len_seq (by rfl) B.len PySem.boot_len (pa_cons (pv 2) pa_nil)) pe_int (nomark _)) pa_nil))) pa_nil)) (pg_name (i := 4) scOthers.nd rfl (.inl rfl))
        (pss_cons (ps_set (i := 5) scOthers.nd rfl (.inl rfl) (pe_call cDraw.G (hr.mono (by first | decide | omega)) (by rfl) cDraw.D.g cDraw.D.F.kp cDraw.D.b .nil pass0 (pa_cons (pv 0) (pa_cons (pe_callB call_len_seq (by rfl) B.len PySem.boot_len (pa_cons (pv 2) pa_nil)) pa_nil))))
        (pss_cons (ps_set (i := 6) scOthers.nd rfl (.inl rfl) (pe_op op_mod (pe_op op_add (pe_op op_add (pv 5) pe_int) (pe_call cDraw.G (hr.mono (by first | decide | omega)) (by rfl) cDraw.D.g cDraw.D.F.kp cDraw.D.b .nil pass0 (pa_cons (pv 0) (pa_cons (pe_op op_sub (pe_callB call_len_seq (by rfl) B.len PySem.boot_len (pa_cons (pv 2) pa_nil)) pe_int) pa_nil)))) (pe_callB call_len_seq (by rfl) B.len PySem.boot_len (pa_cons (pv 2) pa_nil))))
        (pss_one (ps_expr (pe_bm PySem.F.plainAttrs_list PySem.F.slot_list_append PySem.F.type_list_append mt_append (pv 3) (pa_cons (pe_tup (pa_cons (pe_ix ix_list (pv 2) (pv 5) (fun _ _ => rfl)) (pa_cons (pe_ix ix_list (pv 2) (pv 6) (fun _ _ => rfl)) (pa_cons (pe_op op_mul (pe_call cDraw.G (hr.mono (by first | decide | omega)) (by rfl) cDraw.D.g cDraw.D.F.kp cDraw.D.b .nil pass0 (pa_cons (pv 0) (pa_cons pe_int pa_nil))) (pe_call cCents.G (hr.mono (by first | decide | omega)) (by rfl) cCents.D.g cCents.D.F.kp cCents.D.b .nil pass0 (pa_cons (pv 0) pa_nil))) pa_nil)))) pa_nil)))))))
      (pss_one (ps_ret (pe_op op_cat (pv 3) (pe_call cRule.G (hr.mono (by first | decide | omega)) (by rfl) cRule.D.g cRule.D.F.kp cRule.D.b .nil pass0 (pa_cons (pe_call cAfter.G (hr.mono (by first | decide | omega)) (by rfl) cAfter.D.g cAfter.D.F.kp cAfter.D.b .nil pass0 (pa_cons (pv 1) (pa_cons (pv 3) pa_nil))) pa_nil)))))))), ?_⟩
    have lk : (ksN d).length = d.length := by rw [(ksn_perm d).length_eq, List.length_map]
    refine ⟨.ref r, rfl, r, _, d.map (·.1), rfl, .of hd, kvN_keys d, by rw [List.length_map]; omega, fun L nL => ?_⟩
    rw [show (d.map (·.1)).mergeSort (PySem.W.dataLe false PyData.str) = ksN d from rfl]
    have S1 := same_upd (o := .lst ((ksN d).map V.str)) nL
    have hL1 : (L2.upd H L (.lst ((ksN d).map V.str))) L = some (.lst ((ksN d).map V.str)) := upd_same
    generalize L2.upd H L (.lst ((ksN d).map V.str)) = H1 at S1 hL1
    refine ⟨by show 0 ≤ sizeLine; omega, fun FO nFO => ?_⟩
    have S2 := S1.trans (same_upd (o := .lst []) nFO)
    have hL2 := same_upd (o := .lst []) nFO _ _ hL1
    have hF2 : Rws (L2.upd H1 FO (.lst [])) FO [] := ⟨upd_same, fun _ h => by cases h⟩
    have FO0 : H FO = none := S1.free nFO
    obtain ⟨Lp, Lg⟩ := hB.off nL
    obtain ⟨Fp, Fg⟩ := hB.off FO0
    have LF : L ≠ FO := fun z => by rw [← z, hL1] at nFO; cases nFO
    have B2 := hB.same S2
    generalize L2.upd H1 FO (.lst []) = H2 at S2 hL2 hF2 B2
    refine ⟨.ref p, rfl, p, G, 4, n, rfl, B2, by omega, by decide, by decide, fun v H3 v0 v1 B3 b3 => ?_⟩
    have hL3 := b3 _ _ hL2 Lp Lg
    refine ⟨.ref L, rfl, L, _, rfl, .inl (sqOf hL3), _, _, rfl, rfl, .inr ⟨_, rfl, ?_⟩⟩
    obtain ⟨m, hm, m01⟩ : ∃ m : Int, m = (if decide ((1 : Int) < (((ksN d).map V.str).length : Int)) = true then 1 else 0) ∧ ((m = 0) ∨ (m = 1 ∧ 2 ≤ d.length)) := by
      by_cases z : (1 : Int) < (((ksN d).map V.str).length : Int)
      · exact ⟨1, by rw [if_pos (decide_eq_true z)], .inr ⟨rfl, by rw [List.length_map, lk] at z; omega⟩⟩
      · exact ⟨0, by rw [if_neg (by rw [decide_eq_false z]; decide)], .inl rfl⟩
    rw [← hm]
    have vm : 0 ≤ v * m ∧ v * m ≤ 3 ∧ (0 < v * m → 2 ≤ d.length) := by
      rcases m01 with rfl | ⟨rfl, h⟩
      · rw [Int.mul_zero]; exact ⟨by omega, by omega, fun h => absurd h (by omega)⟩
      · rw [Int.mul_one]; exact ⟨by omega, by omega, fun _ => h⟩
    refine ⟨v, m, rfl, rfl, .inl ⟨by omega, by omega⟩, v * m, rfl, by omega, by omega, ?_⟩
    have b03 := (But2.same S2 : But2 p G _ _).trans b3
    have hF3 : Rws H3 FO [] := ⟨b3 _ _ hF2.l Fp Fg, fun _ h => by cases h⟩
    refine for_range (lo := 0) (n := (v * m).toNat) (fun i σ HA => ∃ (y4 y5 y6 : Option V) (bs : List (Addr × Row3)), σ = [some (.ref p), some (.ref r), some (.ref L), some (.ref FO), y4, y5, y6] ∧ Box G (n + 1 + 7 * i) HA p ∧ But2 p G H HA ∧ HA L = some (.lst ((ksN d).map V.str)) ∧ Rws HA FO bs ∧ bs.length = i ∧ Has d (bs.map (·.2)) ∧ ∀ x ∈ bs.map (·.2), 0 ≤ x.2.2) ⟨none, none, none, [], rfl, B3, b03, hL3, hF3, rfl, fun _ h => (by cases h), fun _ h => (by cases h)⟩ ?_ ?_
    · rintro i σ HA hi ⟨y4, y5, y6, bs, rfl, BA, bA, hLA, hFA, hln, hH, nn⟩
      have d2 : 2 ≤ d.length := vm.2.2 (by omega)
      have i3 : i < 3 := by omega
      have lL : (((ksN d).map V.str).length : Int) = d.length := by rw [List.length_map, lk]
      refine ⟨.ref p, rfl, .ref L, rfl, L, _, rfl, .inl (sqOf hLA), p, G, (d.length : Int), n + 1 + 7 * i, congrArg (fun x => [V.ref p, V.int x]) lL, BA, by omega, by omega, by omega, fun pr HB pr0 pr1 BB bB => ?_⟩
      have hLB := bB _ _ hLA Lp Lg
      refine ⟨.int pr, rfl, _, _, rfl, rfl, .ref p, rfl, .ref L, rfl, L, _, rfl, .inl (sqOf hLB), _, 1, rfl, rfl, p, G, (d.length : Int) - 1, n + 1 + 7 * i + 1, congrArg (fun x => [V.ref p, V.int (x - 1)]) lL, BB, by omega, by omega, by omega, fun pe HC pe0 pe1 BC bC => ?_⟩
      have hLC := bC _ _ hLB Lp Lg
      refine ⟨pr + 1, pe, rfl, rfl, .ref L, rfl, L, _, rfl, .inl (sqOf hLC), _, _, rfl, rfl, by rw [lL]; omega, ?_⟩
      rw [lL]
      obtain ⟨z, hz2⟩ : ∃ z, z = (pr + 1 + pe) % (d.length : Int) := ⟨_, rfl⟩
      have z0 : 0 ≤ z := by rw [hz2]; exact Int.emod_nonneg _ (by omega)
      have z1 : z < d.length := by rw [hz2]; exact Int.emod_lt_of_pos _ (by omega)
      rw [show (fun i j : Int => V.int (i % j)) (pr + 1 + pe) (d.length : Int) = V.int z by rw [hz2]]
      have hFC : Rws HC FO bs := ⟨bC _ _ (bB _ _ hFA.l Fp Fg) Fp Fg, fun x hx => pg_keep BB bC _ _ (pg_keep BA bB _ _ (hFA.t x hx))⟩
      have lpr : pr.toNat < (ksN d).length := by omega
      have lz : z.toNat < (ksN d).length := by omega
      refine ⟨.ref FO, rfl, .inl ⟨rfl, _, sqOf hFC.l⟩, ?_⟩
      refine ⟨.ref L, rfl, .int pr, rfl, L, _, pr.toNat, .str (ksN d)[pr.toNat], rfl, congrArg V.int (show pr = (pr.toNat : Int) by omega), sqOf hLC, atI_nat (strs_at lpr), ?_⟩
      refine ⟨.ref L, rfl, .int z, rfl, L, _, z.toNat, .str (ksN d)[z.toNat], rfl, congrArg V.int (show z = (z.toNat : Int) by omega), sqOf hLC, atI_nat (strs_at lz), ?_⟩
      refine ⟨.ref p, rfl, p, G, 2, n + 1 + 7 * i + 1 + 1, rfl, BC, by omega, by decide, by decide, fun v2 HD v20 v21 BD bD => ?_⟩
      refine ⟨.ref p, rfl, p, G, n + 1 + 7 * i + 1 + 1 + 1, rfl, BD, by omega, fun ct HE ct0 ct1 BE bE => ?_⟩
      refine ⟨v2, ct, rfl, rfl, .inl ⟨by omega, by omega⟩, by show 3 ≤ sizeLine; omega, fun T nT => ?_⟩
      have hFE : Rws HE FO bs := ⟨bE _ _ (bD _ _ hFC.l Fp Fg) Fp Fg, fun x hx => pg_keep BD bE _ _ (pg_keep BC bD _ _ (hFC.t x hx))⟩
      have hLE := bE _ _ (bD _ _ hLC Lp Lg) Lp Lg
      have ST := same_upd (o := .tup [V.str (ksN d)[pr.toNat], V.str (ksN d)[z.toNat], V.int (v2 * ct)]) nT
      refine ⟨FO, _, .ref T, rfl, rfl, ST _ _ hFE.l, by rw [List.length_map]; omega, ?_⟩
      refine ⟨_, _, _, bs ++ [(T, ((ksN d)[pr.toNat], (ksN d)[z.toNat], v2 * ct))], rfl, ((BE.same ST).upd (ST _ _ hFE.l) (ni_refs' bs) Fp Fg).mono (by omega), (((((bA.trans bB).trans bC).trans bD).trans bE).trans (.same ST)).updN FO0, ?_, hFE.snoc (r := ((ksN d)[pr.toNat], (ksN d)[z.toNat], v2 * ct)) nT, by rw [List.length_append, hln]; rfl, fun x hx => ?_, fun x hx => ?_⟩
      · rw [upd_ne LF]; exact ST _ _ hLE
      · rw [List.map_append] at hx
        rcases List.mem_append.mp hx with hx | hx
        · exact hH x hx
        · rw [List.mem_singleton.mp hx]
          exact ⟨(ksn_perm d).mem_iff.mp (List.getElem_mem lpr), (ksn_perm d).mem_iff.mp (List.getElem_mem lz)⟩
      · rw [List.map_append] at hx
        rcases List.mem_append.mp hx with hx | hx
        · exact nn x hx
        · rw [List.mem_singleton.mp hx]
          exact Int.mul_nonneg (by omega) (by omega)
    · rintro σ HA ⟨y4, y5, y6, bs, rfl, BA, bA, hLA, hFA, hln, hH, nn⟩
      have hrA : HA r = some (.dK (kvN d)) := bA _ _ hd rp rg
      have bs3 : bs.length ≤ 3 := by omega
      refine ⟨.ref FO, rfl, .ref r, rfl, .ref FO, rfl, r, FO, d, bs, rfl, hrA, he.nd, by omega, hFA, hH, fun t HB SB nt ht => ?_⟩
      have ea := even_after he (bs.map (·.2))
      refine ⟨t, after d (bs.map (·.2)), rfl, ht, ea.nd, by rw [after_len hH]; omega, fun u cs HC SC nu hu ecs => ?_⟩
      have lcs : cs.length ≤ 90 := by
        have h1 := rule_len ea
        have h2 : (uneven (after d (bs.map (·.2)))).length ≤ (after d (bs.map (·.2))).length := List.length_filter_le _ _
        rw [after_len hH] at h2
        rw [← ecs] at h1
        rcases h1 with ⟨h1, _⟩ | ⟨_, h1⟩
        · have := congrArg List.length h1
          rw [List.length_map] at this
          rw [this]; decide
        · rw [List.length_map] at h1; omega
      have hFC := (hFA.same SB).same SC
      refine ⟨FO, u, _, _, rfl, rfl, hFC.l, hu.l, by rw [List.length_map, List.length_map]; omega, fun M nM => ?_⟩
      have SM := SB.trans (SC.trans (same_upd (o := .lst ((bs.map fun b => V.ref b.1) ++ (cs.map fun b => V.ref b.1))) nM))
      have nMA : HA M = none := (SB.trans SC).free nM
      obtain ⟨Mp, Mg⟩ := BA.off nMA
      refine q M (bs ++ cs) _ ⟨by rw [upd_same, List.map_append], fun x hx => ?_⟩ ?_ (by rw [List.length_append]; omega) (bA.free Mp Mg nMA) ((BA.same SM).mono (by omega)) (bA.trans (.same SM))
      · rcases List.mem_append.mp hx with hx | hx
        · exact same_upd nM _ _ (hFC.t x hx)
        · exact same_upd nM _ _ (hu.t x hx)
      · rw [List.map_append, ecs]
        exact oth_of he hH nn
end
end Tb
namespace Tb
open PySem PySem.Spec PyProof.Rows L2
abbrev sPaid : Stmt := topS 35
abbrev NPaid : List Str := ["purse", "others", "passed", "uneven", "positive", "turn", "rows", "total", "name", "row"]
theorem scPaid : FnScope NPaid ["purse", "others"] (defScope sPaid) := ⟨rfl, rfl, rfl, by decide +kernel, rfl, by decide +kernel, by decide +kernel⟩
def encR (r : Row3) : PyData := .tuple [.str r.1, .str r.2.1, .int r.2.2]
def SgR (r : Row3) : Prop := Sg r.1 ∧ Sg r.2.1
theorem lay8_r {r : Row3} (h : SgR r) : lay8 (encR r) := by
  refine ⟨by simp only [encR, PyData.canLay0, PyData.canLayAll0, strOk_sg h.1, strOk_sg h.2, Bool.and_true], ?_⟩
  simp [encR, PyData.depth, PyData.depthAll]
theorem dps_r {K : PySem.W.Frag} {H : Hp} : ∀ {bs : List (Addr × Row3)}, (∀ b ∈ bs, H b.1 = some (.tup [.str b.2.1, .str b.2.2.1, .int b.2.2.2])) → DpAll K H (bs.map fun b => V.ref b.1) ((bs.map (·.2)).map encR)
  | [], _ => .nil
  | b :: bs, h => .cons (.tup (.of (h b List.mem_cons_self)) (.cons (.str _) (.cons (.str _) (.cons (.int _) .nil)))) (dps_r fun x hx => h x (List.mem_cons_of_mem _ hx))
/-- two lists of the same rows -/
theorem same_r {K : PySem.W.Frag} {H : Hp} {l l2 : Addr} {bs cs : List (Addr × Row3)} (h1 : Rws H l bs) (h2 : Rws H l2 cs) (e : bs.map (·.2) = cs.map (·.2)) (g : ∀ r ∈ bs.map (·.2), SgR r) {Q : VK} (q : Q (.bl false) H) : rNeD K (.ref l) (.ref l2) H Q := by
  have sh : SeqAt.shaped (.list ((bs.map (·.2)).map encR)) = true := shaped_ls fun d hd => by
    obtain ⟨b, hb, rfl⟩ := List.mem_map.mp hd
    exact lay8_r (g b hb)
  refine ⟨.list ((bs.map (·.2)).map encR), .list ((bs.map (·.2)).map encR), .lst (sqOf h1.l) (dps_r h1.t), .lst (sqOf h2.l) (by rw [e]; exact dps_r h2.t), sh, sh, ?_⟩
  rw [eqv_same sh]
  exact q
theorem zb (n : Nat) : decide (V.int (n : Int) = V.int 0) = decide (n = 0) := decide_eq_decide.mpr ⟨fun z => by have := V.int.inj z; omega, fun z => by rw [z]; rfl⟩
theorem ne_self {H : Hp} {a b : Addr} {d : DN} (nd : (d.map (·.1)).Nodup) (h1 : H a = some (.dK (kvN d))) (h2 : H b = some (.dK (kvN d))) {Q : VK} (q : Q (.bl false) H) : rNeDA (.ref a) (.ref b) H Q := by
  refine ⟨a, b, _, _, rfl, rfl, h1, h2, rfl, fun p hp => ?_, q⟩
  obtain ⟨e, he, rfl⟩ := List.mem_map.mp hp
  refine ⟨?_, rfl⟩
  rw [valV_kvN, getN_mem nd he]; rfl
section
variable {P : Program} {w : World} {K : PySem.W.Frag} {mg : Str → Option Value} {base : Heap}
abbrev CForm (P : Program) (w : World) (K : PySem.W.Frag) (mg : Str → Option Value) (base : Heap) (g : Addr) (gd : FuncData) := C1 P w K mg base "_law_form" sForm ["rows"] 2 spForm g gd
abbrev CPay (P : Program) (w : World) (K : PySem.W.Frag) (mg : Str → Option Value) (base : Heap) (CI : Addr) (g : Addr) (gd : FuncData) := C1X P w K mg base "payments" sPay ["balances"] 3 (spPay CI) g gd
abbrev CSettled (P : Program) (w : World) (K : PySem.W.Frag) (mg : Str → Option Value) (base : Heap) (CU : Addr) (g : Addr) (gd : FuncData) := C1X P w K mg base "settled" sSettled ["balances", "payments"] 3 (spSettled CU) g gd
def spPaid : Sp := fun vs H Q _ => ∃ (r o : Addr) (d : DN) (bo : List (Addr × Row3)), vs = [.ref r, .ref o] ∧ H r = some (.dK (kvN d)) ∧ Even d ∧ d.length ≤ 40 ∧ (∀ k ∈ d.map (·.1), Sg k) ∧ Rws H o bo ∧ posN d ≤ centsN (bo.map (·.2)) ∧ bo.length ≤ 200 ∧ ∀ (H' : Hp), Same H H' → Q (.bl true) H'
theorem ok_paid {f g1 g2 g3 CI : Addr} {fd gd1 gd2 gd3 : FuncData} (F : Fun K "_law_paid" "_law_paid" sPaid f fd) (cPay : CPay P w K mg base CI g1 gd1) (cForm : CForm P w K mg base g2 gd2) (cRule : CRule P w K mg base g3 gd3) (B : Blt mg) : FnOk P w K mg base CX0 4 f fd ["purse", "others"] spPaid := by
  refine F.ok scPaid (fun vs H Q E h => ?_) (fun cdv A outer s H vs Q E hr h => ?_)
  · obtain ⟨r, o, d, bo, rfl, _⟩ := h
    rfl
  · obtain ⟨r, o, d, bo, rfl, hd, he, l40, sg, hO, ge, lo, q⟩ := h
    have hu := hu_of hr
    have hu0 : (A.deeper (envOfC (Str.ofString "_law_paid") (defScope sPaid) s.heap.objs.size f cdv)).units < cLine := Nat.lt_of_succ_lt hu
    have hz : sizeLine = 16777216 := rfl
    refine ⟨_, (pss_cons (ps_set (i := 2) scPaid.nd rfl (.inl rfl) (pe_callTy call_dictD (by rfl) B.dict PyProof.Rows.boot_dict (pa_cons (pv 0) pa_nil)))
      (pss_cons (ps_lock (ps_setLc (i := 3) (own := [("name", 8)]) (g := gName 8) (by rfl) scPaid.nd rfl rfl (sw_true rfl rfl rfl (by decide +kernel)) (pi_keys (pv 0)) (blkOk_by (N := NPaid) (sc := defScope sPaid) (by decide +kernel)) (fun _ _ _ _ _ => pg_name (i := 8) scPaid.nd rfl (Or.inl rfl)) (fun _ _ _ _ _ => pts_one (pt_cmpR op_ne (pe_dget hu (pv 0) (pv 8) (fun _ _ => rfl)) pe_int (nomark _))) (fun _ _ _ _ _ => pv 8)))
      (pss_cons (ps_set (i := 4) scPaid.nd rfl (.inl rfl) (pe_callB (cr_sum rfl) (by rfl) B.sum (by decide +kernel) (pa_cons (pe_lock (pe_lc (own := [("name", 8)]) (g := gName 8) (by rfl) scPaid.nd (pi_keys (pv 0)) (blkOk_by (N := NPaid) (sc := defScope sPaid) (by decide +kernel)) (fun _ _ _ _ _ => pg_name (i := 8) scPaid.nd rfl (Or.inl rfl)) (fun _ _ _ _ _ => pts_one (pt_cmpR op_gt (pe_dget hu (pv 0) (pv 8) (fun _ _ => rfl)) pe_int (nomark _))) (fun _ _ _ _ _ => pe_dget hu (pv 0) (pv 8) (fun _ _ => rfl)))) pa_nil)))
      (pss_cons (ps_for PassesOwn.never rfl (pi_range1 (by rfl) B.range (pa_cons pe_int pa_nil)) (pg_name (i := 5) scPaid.nd rfl (.inl rfl))
        (pss_cons (ps_set (i := 6) scPaid.nd rfl (.inl rfl) (pe_callS cPay.G (hr.mono (by first | decide | omega)) (by rfl) cPay.D.g cPay.D.F.kp cPay.D.b (fun _ => passE0) (pa_cons (pv 2) pa_nil)))
        (pss_cons (ps_if (PW.pt (pw_or (pt_not (pt_val (pe_call cForm.G (hr.mono (by first | decide | omega)) (by rfl) cForm.D.g cForm.D.F.kp cForm.D.b .nil pass0 (pa_cons (pv 6) pa_nil)))) (pw_or (pt_cmpR (op_ne_dictA hu0) (pv 2) (pv 0) (nomark _)) (pw_or1 (pt_cmpR (op_neD hr.units) (pv 6) (pe_call cRule.G (hr.mono (by first | decide | omega)) (by rfl) cRule.D.g cRule.D.F.kp cRule.D.b .nil pass0 (pa_cons (pv 0) pa_nil)) (nomark _))))))
          (pss_one (ps_ret pe_bl))
          pss_nil)
        (pss_cons (ps_if (PW.pt (pw_or (pt_cmpR op_gt (pe_callB call_len_seq (by rfl) B.len PySem.boot_len (pa_cons (pv 6) pa_nil)) (pe_callB (call_max2 rfl) (by rfl) B.max (by decide +kernel) (pa_cons pe_int (pa_cons (pe_op op_sub (pe_callB call_len_seq (by rfl) B.len PySem.boot_len (pa_cons (pv 3) pa_nil)) pe_int) pa_nil))) (nomark _)) (pw_or1 (pt_cmpR op_ne (pe_cmpR op_eq (pe_callB call_len_seq (by rfl) B.len PySem.boot_len (pa_cons (pv 6) pa_nil)) pe_int (nomark _)) (pe_cmpR op_eq (pe_callB call_len_seq (by rfl) B.len PySem.boot_len (pa_cons (pv 3) pa_nil)) pe_int (nomark _)) (nomark _)))))
          (pss_one (ps_ret pe_bl))
          pss_nil)
        (pss_cons (ps_if (pt_cmpR op_lt (pe_callB (cr_min rfl) (by rfl) B.min (by decide +kernel) (pa_cons (pe_op op_cat (pe_lst (pa_cons pe_int pa_nil)) (pe_lc (own := [("row", 9)]) (g := gName 9) (by rfl) scPaid.nd (pi_list (pv 6)) (blkOk_by (N := NPaid) (sc := defScope sPaid) (by decide +kernel)) (fun _ _ _ _ _ => pg_name (i := 9) scPaid.nd rfl (Or.inl rfl)) (fun _ _ _ _ _ => pts_nil) (fun _ _ _ _ _ => pe_ix (r := rIxT K) ix_tup (pv 9) pe_int (fun _ _ => rfl)))) pa_nil)) pe_int (nomark _))
          (pss_one (ps_ret pe_bl))
          pss_nil)
        (pss_cons (ps_set (i := 7) scPaid.nd rfl (.inl rfl) (pe_callB (cr_sum rfl) (by rfl) B.sum (by decide +kernel) (pa_cons (pe_lc (own := [("row", 9)]) (g := gName 9) (by rfl) scPaid.nd (pi_list (pv 6)) (blkOk_by (N := NPaid) (sc := defScope sPaid) (by decide +kernel)) (fun _ _ _ _ _ => pg_name (i := 9) scPaid.nd rfl (Or.inl rfl)) (fun _ _ _ _ _ => pts_nil) (fun _ _ _ _ _ => pe_ix (r := rIxT K) ix_tup (pv 9) pe_int (fun _ _ => rfl))) pa_nil)))
        (pss_cons (ps_if (PW.pt (pw_or (pt_cmpR op_ne (pv 7) (pv 4) (nomark _)) (pw_or1 (pt_cmpR op_gt (pv 7) (pe_callB (cr_sum rfl) (by rfl) B.sum (by decide +kernel) (pa_cons (pe_lc (own := [("row", 9)]) (g := gName 9) (by rfl) scPaid.nd (pi_list (pv 1)) (blkOk_by (N := NPaid) (sc := defScope sPaid) (by decide +kernel)) (fun _ _ _ _ _ => pg_name (i := 9) scPaid.nd rfl (Or.inl rfl)) (fun _ _ _ _ _ => pts_nil) (fun _ _ _ _ _ => pe_ix (r := rIxT K) ix_tup (pv 9) pe_int (fun _ _ => rfl))) pa_nil)) (nomark _)))))
          (pss_one (ps_ret pe_bl))
          pss_nil)
        (pss_one (ps_expr (pe_bm PySem.F.plainAttrs_list PySem.F.slot_list_append PySem.F.type_list_append mt_append (pv 6) (pa_cons pe_int pa_nil)))))))))))
      (pss_one (ps_ret pe_bl)))))), ?_⟩
    refine ⟨.ref r, rfl, r, _, rfl, .of hd, fun p np => ?_⟩
    have S1 := same_upd (o := .dK (kvN d)) np
    have hp1 : L2.upd H p (.dK (kvN d)) p = some (.dK (kvN d)) := upd_same
    generalize L2.upd H p (.dK (kvN d)) = H1 at S1 hp1
    have hr1 := S1 _ _ hd
    have pr : p ≠ r := fun z => by rw [z, hd] at np; cases np
    refine ⟨r, _, hr1, trivial, fun od => ?_⟩
    refine ⟨.ref r, rfl, r, od, rfl, .inl ⟨kvN d, upd_same, fun U nU => ?_⟩⟩
    have Ur : U ≠ r := fun z => by rw [z, upd_same] at nU; cases nU
    have nU1 : H1 U = none := by rw [upd_ne Ur] at nU; exact nU
    refine lc_it (walk_keys (d := r) (o := od) (kvs := kvN d)) (fun i H' => H' r = some (.frz od (.dK (kvN d))) ∧ (∀ b o, H1 b = some o → b ≠ r → H' b = some o) ∧ H' U = some (.lst ((((d.take i).filter fun e => !decide (e.2 = 0)).map (·.1)).map V.str))) ⟨?_, fun b o e n => ?_, upd_same⟩ (fun i H' _ hP => hP.1) (fun i v H8 H9 hi hP hy => ?_) (fun H8 hP => ?_)
    · rw [upd_ne (Ne.symm Ur)]; exact upd_same
    · rw [upd_ne (ne_of_none e nU1), upd_ne n]; exact e
    · obtain ⟨h1, h2, h3⟩ := hP
      obtain ⟨rfl, k1, v1, ek, rfl⟩ := hy
      rw [kvN_at] at ek
      obtain ⟨e, ee, e2⟩ := Option.map_eq_some_iff.mp ek
      cases e2
      rw [kvN_len] at hi
      have ed : decide (V.int e.2 = V.int 0) = decide (e.2 = 0) := decide_eq_decide.mpr ⟨fun z => V.int.inj z, fun z => by rw [z]⟩
      refine ⟨rfl, .ref r, rfl, .str e.1, rfl, r, _, rfl, dg_K (.inr ⟨od, h1⟩) (getN_mem he.nd (List.mem_of_getElem? ee)), rfl, _, rfl, ?_⟩
      rw [ed]
      refine ite2 (fun c => ?_) (fun c => ?_)
      · refine ⟨.str e.1, rfl, _, h3, ?_, ?_, fun b o e n => ?_, ?_⟩
        · rw [List.length_map, List.length_map]
          have := List.length_filter_le (fun e : Str × Int => !decide (e.2 = 0)) (d.take i)
          rw [List.length_take] at this
          omega
        · rw [upd_ne (Ne.symm Ur)]; exact h1
        · rw [upd_ne (ne_of_none e nU1)]; exact h2 b o e n
        · rw [upd_same, take_at ee, List.filter_append, List.filter_cons_of_pos (p := fun e : Str × Int => !decide (e.2 = 0)) c, List.filter_nil, List.map_append, List.map_append]; rfl
      · refine ⟨h1, h2, ?_⟩
        rw [take_at ee, List.filter_append, List.filter_cons_of_neg (p := fun e : Str × Int => !decide (e.2 = 0)) c, List.filter_nil, List.append_nil]
        exact h3
    obtain ⟨h1, h2, h3⟩ := hP
    rw [kvN_len, List.take_length] at h3
    have S8 : Same H1 (L2.upd H8 r (.dK (kvN d))) := fun b o e => by
      by_cases z : b = r
      · rw [z, upd_same, ← hr1, ← z]; exact e
      · rw [upd_ne z]; exact h2 b o e z
    have hU2 : L2.upd H8 r (.dK (kvN d)) U = some (.lst (((uneven d).map (·.1)).map V.str)) := by rw [upd_ne Ur]; exact h3
    refine ⟨h1, ?_⟩
    have S2 := S1.trans S8
    have hp2 := S8 _ _ hp1
    clear h1 h2 h3
    generalize L2.upd H8 r (.dK (kvN d)) = H2 at S8 hU2 S2 hp2
    have hr2 := S2 _ _ hd
    refine ⟨r, _, hr2, trivial, fun od2 => ?_⟩
    refine ⟨.ref r, rfl, r, od2, rfl, .inl ⟨kvN d, upd_same, fun W nW => ?_⟩⟩
    have Wr : W ≠ r := fun z => by rw [z, upd_same] at nW; cases nW
    have nW2 : H2 W = none := by rw [upd_ne Wr] at nW; exact nW
    refine lc_it (walk_keys (d := r) (o := od2) (kvs := kvN d)) (fun i H' => H' r = some (.frz od2 (.dK (kvN d))) ∧ (∀ b o, H2 b = some o → b ≠ r → H' b = some o) ∧ H' W = some (.lst ((((d.take i).filter isPos).map (·.2)).map V.int))) ⟨?_, fun b o e n => ?_, upd_same⟩ (fun i H' _ hP => hP.1) (fun i v H8 H9 hi hP hy => ?_) (fun H8 hP => ?_)
    · rw [upd_ne (Ne.symm Wr)]; exact upd_same
    · rw [upd_ne (ne_of_none e nW2), upd_ne n]; exact e
    · obtain ⟨h1, h2, h3⟩ := hP
      obtain ⟨rfl, k1, v1, ek, rfl⟩ := hy
      rw [kvN_at] at ek
      obtain ⟨e, ee, e2⟩ := Option.map_eq_some_iff.mp ek
      cases e2
      rw [kvN_len] at hi
      have g0 : DGet H9 r (.str e.1) (some (.int e.2)) := dg_K (.inr ⟨od2, h1⟩) (getN_mem he.nd (List.mem_of_getElem? ee))
      refine ⟨rfl, .ref r, rfl, .str e.1, rfl, r, _, rfl, g0, _, _, rfl, rfl, _, rfl, ite2 (fun c => ?_) (fun c => ?_)⟩
      · refine ⟨.ref r, rfl, .str e.1, rfl, r, _, rfl, g0, _, h3, ?_, ?_, fun b o e n => ?_, ?_⟩
        · rw [List.length_map, List.length_map]
          have := List.length_filter_le isPos (d.take i)
          rw [List.length_take] at this
          omega
        · rw [upd_ne (Ne.symm Wr)]; exact h1
        · rw [upd_ne (ne_of_none e nW2)]; exact h2 b o e n
        · rw [upd_same, take_at ee, List.filter_append, List.filter_cons_of_pos (show isPos e = true from c), List.filter_nil, List.map_append, List.map_append]; rfl
      · refine ⟨h1, h2, ?_⟩
        rw [take_at ee, List.filter_append, List.filter_cons_of_neg (show ¬ isPos e = true from c), List.filter_nil, List.append_nil]
        exact h3
    obtain ⟨h1, h2, h3⟩ := hP
    rw [kvN_len, List.take_length] at h3
    have S8 : Same H2 (L2.upd H8 r (.dK (kvN d))) := fun b o e => by
      by_cases z : b = r
      · rw [z, upd_same, ← hr2, ← z]; exact e
      · rw [upd_ne z]; exact h2 b o e z
    have hW3 : L2.upd H8 r (.dK (kvN d)) W = some (.lst (((d.filter isPos).map (·.2)).map V.int)) := by rw [upd_ne Wr]; exact h3
    refine ⟨h1, W, _, rfl, sqOf hW3, ?_⟩
    rw [show ((d.filter isPos).map (·.2)).sum = posN d from (split_tot d).2.1]
    have S3 := S2.trans S8
    have hp3 := S8 _ _ hp2
    have hU3 := S8 _ _ hU2
    clear h1 h2 h3
    generalize L2.upd H8 r (.dK (kvN d)) = H3 at S8 S3 hp3 hU3 hW3
    refine ⟨2, rfl, by decide, by decide, ?_⟩
    refine for_range (lo := 0) (n := 2) (fun i σ HA => ∃ y5 y6 y7, σ = [some (.ref r), some (.ref o), some (.ref p), some (.ref U), some (.int (posN d)), y5, y6, y7, none, none] ∧ Same H3 HA) ⟨none, none, none, rfl, Same.refl _⟩ ?_ ?_
    · rintro i σ HA hi ⟨y5, y6, y7, rfl, SA⟩
      refine ⟨.ref p, rfl, p, d, rfl, SA _ _ hp3, he.nd, by omega, fun _ t bs HB SB nt hR e => ?_, fun h => absurd he.t h⟩
      have S3B := SA.trans SB
      refine ⟨.ref t, rfl, t, bs, rfl, hR, true, rfl, ?_⟩
      refine ⟨.ref p, rfl, .ref r, rfl, ne_self he.nd (S3B _ _ hp3) ((S3.trans S3B) _ _ hd) ⟨_, rfl, ite2 (fun e => by cases e) (fun _ => ?_)⟩⟩
      have sgr : ∀ x ∈ bs.map (·.2), SgR x := fun x hx => by
        rw [e] at hx
        exact ⟨sg _ (rule_rows d x hx).2.1, sg _ (rule_rows d x hx).2.2⟩
      refine ⟨.ref t, rfl, .ref r, rfl, r, d, rfl, (S3.trans S3B) _ _ hd, he.nd, by omega, fun u cs HC SC nu hu ecs => same_r (hR.same SC) hu (e.trans ecs.symm) sgr ⟨_, rfl, ite2 (fun e => by cases e) (fun _ => ?_)⟩⟩
      have S3C := S3B.trans SC
      have hRC := hR.same SC
      have hUC := S3C _ _ hU3
      have rl : (bs.length = 0 ∧ (uneven d).length = 0) ∨ (1 ≤ bs.length ∧ bs.length + 1 ≤ (uneven d).length) := by
        have := rule_len he
        rw [← e, List.length_map] at this
        rcases this with ⟨h1, h2⟩ | h
        · left
          rw [h2]
          exact ⟨by have := congrArg List.length h1; rwa [List.length_map] at this, rfl⟩
        · exact .inr h
      have u40 : (uneven d).length ≤ d.length := List.length_filter_le _ _
      have lbs : (bs.map fun b => V.ref b.1).length = bs.length := List.length_map _
      have lun : (((uneven d).map (·.1)).map V.str).length = (uneven d).length := by rw [List.length_map, List.length_map]
      refine ⟨.ref t, rfl, t, _, rfl, .inl (sqOf hRC.l), .ref U, rfl, U, _, rfl, .inl (sqOf hUC), _, 1, rfl, rfl, 0, _, rfl, _, _, rfl, rfl, _, rfl, ite2 (fun c => ?_) (fun _ => ?_)⟩
      · rw [lbs, lun] at c
        have c := of_decide_eq_true c
        by_cases z : (((uneven d).length : Nat) : Int) - 1 > 0
        · rw [if_pos z] at c; omega
        · rw [if_neg z] at c; omega
      refine ⟨.ref t, rfl, t, _, rfl, .inl (sqOf hRC.l), rfl, .ref U, rfl, U, _, rfl, .inl (sqOf hUC), rfl, rfl, _, rfl, ite2 (fun c => ?_) (fun _ => ?_)⟩
      · rw [lbs, lun, zb, zb, show decide (bs.length = 0) = decide ((uneven d).length = 0) from decide_eq_decide.mpr (by omega), decide_eq_true rfl] at c
        exact absurd c (by decide)
      have b40 : bs.length ≤ 40 := by omega
      have cpos : ∀ x ∈ bs.map (·.2), 1 ≤ x.2.2 := fun x hx => by
        rw [e] at hx
        exact (rule_rows d x hx).1
      have ctot : centsN (bs.map (·.2)) = posN d := by rw [e]; exact rule_cents he
      refine ⟨by show 1 ≤ sizeLine; omega, fun M nM => ?_⟩
      have SM := same_upd (o := .lst [V.int 1]) nM
      have hM : L2.upd HC M (.lst [V.int 1]) M = some (.lst [V.int 1]) := upd_same
      generalize L2.upd HC M (.lst [V.int 1]) = HD at SM hM
      have hRD := hRC.same SM
      refine ⟨.ref t, rfl, t, rfl, ⟨_, sqOf hRD.l⟩, fun C1 nC1 => ?_⟩
      refine lc_it (walk_list (a := t) (xs := bs.map fun b => V.ref b.1)) (fun i H' => Same HD H' ∧ H' C1 = some (.lst (((((bs.map (·.2)).take i).map (·.2.2))).map V.int))) ⟨same_upd nC1, upd_same⟩ (fun i H' _ hP => sqOf (hP.1 _ _ hRD.l)) (fun i v H' H'' hi hP hy => ?_) (fun HE hP => ?_)
      · obtain ⟨S', hT⟩ := hP
        obtain ⟨rfl, ev⟩ := hy
        rw [List.getElem?_map] at ev
        obtain ⟨b, eb, rfl⟩ := Option.map_eq_some_iff.mp ev
        have sT : SqT K H'' b.1 _ := .of (S' _ _ (hRD.t b (List.mem_of_getElem? eb)))
        rw [List.length_map] at hi
        refine ⟨rfl, .ref b.1, rfl, b.1, _, 2, .int b.2.2.2, rfl, rfl, sT, rfl, _, hT, ?_, fun c o hc => ?_, ?_⟩
        · rw [List.length_map, List.length_map, List.length_take]; omega
        · rw [upd_ne (ne_of_none hc nC1)]; exact S' _ _ hc
        · rw [upd_same, take_at (xs := bs.map (·.2)) (by rw [List.getElem?_map, eb]; rfl), List.map_append, List.map_append]; rfl
      obtain ⟨SC1, hC1⟩ := hP
      rw [List.length_map, ← List.length_map (as := bs) (·.2), List.take_length] at hC1
      refine ⟨M, C1, _, _, rfl, rfl, SC1 _ _ hM, hC1, by rw [List.length_map, List.length_map, List.length_map]; show 1 + _ ≤ _; omega, fun N1 nN1 => ?_⟩
      have SN1 := same_upd (o := .lst ([V.int 1] ++ ((bs.map (·.2)).map (·.2.2)).map V.int)) nN1
      refine ⟨N1, 1 :: (bs.map (·.2)).map (·.2.2), rfl, sqOf upd_same, by rw [List.length_cons]; omega, fun m hm _ => ?_⟩
      have m1 : 1 ≤ m := by
        rcases List.mem_cons.mp hm with rfl | hm
        · exact Int.le_refl _
        · obtain ⟨x, hx, rfl⟩ := List.mem_map.mp hm
          exact cpos x hx
      refine ⟨m, 1, rfl, rfl, _, rfl, ite2 (fun c => absurd (of_decide_eq_true c) (by omega)) (fun _ => ?_)⟩
      have S3F := S3C.trans ((SM.trans SC1).trans SN1)
      have hRF := (hRD.same SC1).same SN1
      generalize L2.upd HE N1 (.lst ([V.int 1] ++ ((bs.map (·.2)).map (·.2.2)).map V.int)) = HF at S3F hRF
      refine ⟨.ref t, rfl, t, rfl, ⟨_, sqOf hRF.l⟩, fun C2 nC2 => ?_⟩
      refine lc_it (walk_list (a := t) (xs := bs.map fun b => V.ref b.1)) (fun i H' => Same HF H' ∧ H' C2 = some (.lst (((((bs.map (·.2)).take i).map (·.2.2))).map V.int))) ⟨same_upd nC2, upd_same⟩ (fun i H' _ hP => sqOf (hP.1 _ _ hRF.l)) (fun i v H' H'' hi hP hy => ?_) (fun HG hP => ?_)
      · obtain ⟨S', hT⟩ := hP
        obtain ⟨rfl, ev⟩ := hy
        rw [List.getElem?_map] at ev
        obtain ⟨b, eb, rfl⟩ := Option.map_eq_some_iff.mp ev
        have sT : SqT K H'' b.1 _ := .of (S' _ _ (hRF.t b (List.mem_of_getElem? eb)))
        rw [List.length_map] at hi
        refine ⟨rfl, .ref b.1, rfl, b.1, _, 2, .int b.2.2.2, rfl, rfl, sT, rfl, _, hT, ?_, fun c o hc => ?_, ?_⟩
        · rw [List.length_map, List.length_map, List.length_take]; omega
        · rw [upd_ne (ne_of_none hc nC2)]; exact S' _ _ hc
        · rw [upd_same, take_at (xs := bs.map (·.2)) (by rw [List.getElem?_map, eb]; rfl), List.map_append, List.map_append]; rfl
      obtain ⟨SC2, hC2⟩ := hP
      rw [List.length_map, ← List.length_map (as := bs) (·.2), List.take_length] at hC2
      refine ⟨C2, _, rfl, sqOf hC2, ?_⟩
      rw [show ((bs.map (·.2)).map (·.2.2)).sum = posN d from ctot]
      refine ⟨.int (posN d), rfl, .int (posN d), rfl, rfl, _, rfl, ite2 (fun c => ?_) (fun _ => ?_)⟩
      · rw [decide_eq_true rfl] at c
        exact absurd c (by decide)
      have S3G := S3F.trans SC2
      have hOG : Rws HG o bo := (hO.same S3).same S3G
      have hRG := hRF.same SC2
      refine ⟨.int (posN d), rfl, ?_⟩
      refine ⟨.ref o, rfl, o, rfl, ⟨_, sqOf hOG.l⟩, fun C3 nC3 => ?_⟩
      refine lc_it (walk_list (a := o) (xs := bo.map fun b => V.ref b.1)) (fun i H' => Same HG H' ∧ H' C3 = some (.lst (((((bo.map (·.2)).take i).map (·.2.2))).map V.int))) ⟨same_upd nC3, upd_same⟩ (fun i H' _ hP => sqOf (hP.1 _ _ hOG.l)) (fun i v H' H'' hi hP hy => ?_) (fun HK hP => ?_)
      · obtain ⟨S', hT⟩ := hP
        obtain ⟨rfl, ev⟩ := hy
        rw [List.getElem?_map] at ev
        obtain ⟨b, eb, rfl⟩ := Option.map_eq_some_iff.mp ev
        have sT : SqT K H'' b.1 _ := .of (S' _ _ (hOG.t b (List.mem_of_getElem? eb)))
        rw [List.length_map] at hi
        refine ⟨rfl, .ref b.1, rfl, b.1, _, 2, .int b.2.2.2, rfl, rfl, sT, rfl, _, hT, ?_, fun c o hc => ?_, ?_⟩
        · rw [List.length_map, List.length_map, List.length_take]; omega
        · rw [upd_ne (ne_of_none hc nC3)]; exact S' _ _ hc
        · rw [upd_same, take_at (xs := bo.map (·.2)) (by rw [List.getElem?_map, eb]; rfl), List.map_append, List.map_append]; rfl
      obtain ⟨SC3, hC3⟩ := hP
      rw [List.length_map, ← List.length_map (as := bo) (·.2), List.take_length] at hC3
      refine ⟨C3, _, rfl, sqOf hC3, _, _, rfl, rfl, _, rfl, ite2 (fun c => ?_) (fun _ => ?_)⟩
      · have c : ((bo.map (·.2)).map (·.2.2)).sum < posN d := of_decide_eq_true c
        have ge : posN d ≤ ((bo.map (·.2)).map (·.2.2)).sum := ge
        omega
      have hRK := hRG.same SC3
      refine ⟨.ref t, rfl, .inl ⟨rfl, _, sqOf hRK.l⟩, t, _, .int 0, rfl, rfl, hRK.l, by rw [lbs]; omega, ?_⟩
      refine ⟨_, _, _, rfl, fun b o hb => ?_⟩
      rw [upd_ne (ne_of_none (SA _ _ hb) nt)]
      exact (S3G.trans SC3) _ _ hb
    · rintro σ HA ⟨y5, y6, y7, rfl, SA⟩
      exact q _ (S3.trans SA)
end
end Tb
namespace Tb
open PySem PySem.Spec PyProof.Rows L2
abbrev sSettles : Stmt := topS 36
abbrev NSettles : List Str := ["purse", "rows", "passed", "handed", "due", "turn", "actual", "name"]
theorem scSettles : FnScope NSettles ["purse", "rows"] (defScope sSettles) := ⟨rfl, rfl, rfl, by decide +kernel, rfl, by decide +kernel, by decide +kernel⟩
section
variable {P : Program} {w : World} {K : PySem.W.Frag} {mg : Str → Option Value} {base : Heap}
def spSettles : Sp := fun vs H Q _ => ∃ (r l : Addr) (d : DN) (bs : List (Addr × Row3)), vs = [.ref r, .ref l] ∧ H r = some (.dK (kvN d)) ∧ (d.map (·.1)).Nodup ∧ d.length ≤ 40 ∧ (∀ k ∈ d.map (·.1), Sg k) ∧ Rws H l bs ∧ Has d (bs.map (·.2)) ∧ ∀ (H' : Hp), Same H H' → Q (.bl true) H'
theorem ok_settles {f g1 g2 g3 CU : Addr} {fd gd1 gd2 gd3 : FuncData} (F : Fun K "_law_settles" "_law_settles" sSettles f fd) (cSettled : CSettled P w K mg base CU g1 gd1) (cSameN : CSameN P w K mg base g2 gd2) (cAfter : CAfter P w K mg base g3 gd3) (B : Blt mg) : FnOk P w K mg base CX0 4 f fd ["purse", "rows"] spSettles := by
  refine F.ok scSettles (fun vs H Q E h => ?_) (fun cdv A outer s H vs Q E hr h => ?_)
  · obtain ⟨r, l, d, bs, rfl, _⟩ := h
    rfl
  · obtain ⟨r, l, d, bs, rfl, hd, nd, l40, sg, hR, hH, q⟩ := h
    have hu := hu_of hr
    have hu0 : (A.deeper (envOfC (Str.ofString "_law_settles") (defScope sSettles) s.heap.objs.size f cdv)).units < cLine := Nat.lt_of_succ_lt hu
    have hz : sizeLine = 16777216 := rfl
    refine ⟨_, (pss_cons (ps_set (i := 2) scSettles.nd rfl (.inl rfl) (pe_callTy call_dictD (by rfl) B.dict PyProof.Rows.boot_dict (pa_cons (pv 0) pa_nil)))
      (pss_cons (ps_set (i := 3) scSettles.nd rfl (.inl rfl) (pe_callTy call_list_of (by rfl) B.list PyProof.Rows.boot_list (pa_cons (pv 1) pa_nil)))
      (pss_cons (ps_set (i := 4) scSettles.nd rfl (.inl rfl) (pe_call cAfter.G (hr.mono (by first | decide | omega)) (by rfl) cAfter.D.g cAfter.D.F.kp cAfter.D.b .nil pass0 (pa_cons (pv 0) (pa_cons (pv 1) pa_nil))))
      (pss_cons (ps_for PassesOwn.never rfl (pi_range1 (by rfl) B.range (pa_cons pe_int pa_nil)) (pg_name (i := 5) scSettles.nd rfl (.inl rfl))
        (pss_cons (ps_set (i := 6) scSettles.nd rfl (.inl rfl) (pe_callS cSettled.G (hr.mono (by first | decide | omega)) (by rfl) cSettled.D.g cSettled.D.F.kp cSettled.D.b (fun _ => passE0) (pa_cons (pv 2) (pa_cons (pv 3) pa_nil))))
        (pss_cons (ps_if (PW.pt (pw_or (pt_not (pt_val (pe_call cSameN.G (hr.mono (by first | decide | omega)) (by rfl) cSameN.D.g cSameN.D.F.kp cSameN.D.b .nil pass0 (pa_cons (pv 6) (pa_cons (pv 4) pa_nil))))) (pw_or (pt_cmpR (op_ne_dictA hu0) (pv 2) (pv 0) (nomark _)) (pw_or1 (pt_cmpR (op_neD hr.units) (pv 3) (pv 1) (nomark _))))))
          (pss_one (ps_ret pe_bl))
          pss_nil)
        (pss_one (ps_lock (ps_for PassesOwn.never rfl (pi_keys (pv 4)) (pg_name (i := 7) scSettles.nd rfl (.inl rfl))
          (pss_one (ps_dput hu (pv 6) (pv 7) (pe_op op_add (pe_dget hu (pv 6) (pv 7) (fun _ _ => rfl)) pe_int) (by rfl)))))))))
      (pss_one (ps_ret pe_bl)))))), ?_⟩
    refine ⟨.ref r, rfl, r, _, rfl, .of hd, fun p np => ?_⟩
    have S1 := same_upd (o := .dK (kvN d)) np
    have hp1 : L2.upd H p (.dK (kvN d)) p = some (.dK (kvN d)) := upd_same
    generalize L2.upd H p (.dK (kvN d)) = H1 at S1 hp1
    refine ⟨.ref l, rfl, l, _, rfl, .inl (sqOf (S1 _ _ hR.l)), fun h nh => ?_⟩
    have S2 := S1.trans (same_upd (o := .lst (bs.map fun b => V.ref b.1)) nh)
    have hh2 : Rws (L2.upd H1 h (.lst (bs.map fun b => V.ref b.1))) h bs := ⟨upd_same, fun b hb => S2 _ _ (hR.t b hb)⟩
    have hp2 := same_upd (o := .lst (bs.map fun b => V.ref b.1)) nh _ _ hp1
    generalize L2.upd H1 h (.lst (bs.map fun b => V.ref b.1)) = H2 at S2 hh2 hp2
    refine ⟨.ref r, rfl, .ref l, rfl, r, l, d, bs, rfl, S2 _ _ hd, nd, by omega, hR.same S2, hH, fun due H3 S23 ndu hdu => ?_⟩
    have S3 := S2.trans S23
    have hh3 := hh2.same S23
    have hp3 := S23 _ _ hp2
    have ndA : ((after d (bs.map (·.2))).map (·.1)).Nodup := nd_after _ nd
    have lA := after_len hH
    have sgr : ∀ x ∈ bs.map (·.2), SgR x := fun x hx => ⟨sg _ (hH x hx).1, sg _ (hH x hx).2⟩
    generalize eA : after d (bs.map (·.2)) = da at hdu ndA lA
    refine ⟨2, rfl, by decide, by decide, ?_⟩
    refine for_range (lo := 0) (n := 2) (fun i σ HA => ∃ y5 y6 y7, σ = [some (.ref r), some (.ref l), some (.ref p), some (.ref h), some (.ref due), y5, y6, y7] ∧ Same H3 HA) ⟨none, none, none, rfl, Same.refl _⟩ ?_ ?_
    · rintro i σ HA hi ⟨y5, y6, y7, rfl, SA⟩
      refine ⟨.ref p, rfl, .ref h, rfl, p, h, d, bs, rfl, SA _ _ hp3, by omega, hh3.same SA, .inl hH, fun _ t HB SB nt ht => ?_, fun z hz' => ?_⟩
      · rw [eA] at ht
        have S3B := SA.trans SB
        have hduB := S3B _ _ hdu
        have td : t ≠ due := fun z => by rw [z, SA _ _ hdu] at nt; cases nt
        refine ⟨.ref t, rfl, .ref due, rfl, t, due, rfl, td, .inr ⟨da, da, ht, hduB, rfl, fun e he => ⟨getN_mem ndA he, getN_mem ndA he⟩⟩, fun HC SC => ⟨true, rfl, ?_⟩⟩
        have S3C := S3B.trans SC
        refine ⟨.ref p, rfl, .ref r, rfl, ne_self nd (S3C _ _ hp3) ((S3.trans S3C) _ _ hd) ⟨_, rfl, ite2 (fun e => by cases e) (fun _ => ?_)⟩⟩
        refine ⟨.ref h, rfl, .ref l, rfl, same_r (hh3.same S3C) ((hR.same S3).same S3C) rfl sgr ⟨_, rfl, ite2 (fun e => by cases e) (fun _ => ?_)⟩⟩
        have hduC := S3C _ _ hdu
        have htC := SC _ _ ht
        refine ⟨due, _, hduC, trivial, fun od => ?_⟩
        refine ⟨.ref due, rfl, due, od, rfl, .inl ⟨kvN da, upd_same, ?_⟩⟩
        refine for_it (walk_keys (d := due) (o := od) (kvs := kvN da)) (fun i σ H' => (∃ y5 y7 x, σ = [some (.ref r), some (.ref l), some (.ref p), some (.ref h), some (.ref due), y5, some (.ref t), y7] ∧ H' t = some (.dK (kvN x)) ∧ x.map (·.1) = da.map (·.1)) ∧ H' due = some (.frz od (.dK (kvN da))) ∧ (∀ b o, HC b = some o → b ≠ due → b ≠ t → H' b = some o)) ⟨⟨_, _, da, rfl, by rw [upd_ne td]; exact htC, rfl⟩, upd_same, fun b o e n _ => by rw [upd_ne n]; exact e⟩ (fun i σ H' _ hP => hP.2.1) (fun i v σ H5 H6 hi hP yy => ?_) (fun σ H5 hP => ?_)
        · obtain ⟨⟨y5, y7, x, rfl, hx, kx⟩, h1, h2⟩ := hP
          obtain ⟨rfl, k, v, ek, rfl⟩ := yy
          rw [kvN_at] at ek
          obtain ⟨e, ee, e2⟩ := Option.map_eq_some_iff.mp ek
          cases e2
          have mk : e.1 ∈ x.map (·.1) := by rw [kx]; exact List.mem_map.mpr ⟨e, List.mem_of_getElem? ee, rfl⟩
          have lx : x.length = da.length := by
            have := congrArg List.length kx
            rwa [List.length_map, List.length_map] at this
          refine ⟨.ref t, rfl, .str e.1, rfl, t, _, rfl, dg_N (.of hx) mk, _, _, rfl, rfl, .ref t, rfl, .str e.1, rfl, t, _, rfl, dput_N hx (by omega), ?_⟩
          refine ⟨⟨_, _, _, rfl, upd_same, by rw [keys_in mk, kx]⟩, ?_, fun b o hb n1 n2 => ?_⟩
          · rw [upd_ne (Ne.symm td)]; exact h1
          · rw [upd_ne n2]; exact h2 b o hb n1 n2
        · obtain ⟨⟨y5, y7, x, rfl, hx, kx⟩, h1, h2⟩ := hP
          refine ⟨h1, _, _, _, rfl, fun b o e => ?_⟩
          by_cases z : b = due
          · rw [z, upd_same, ← hdu, ← z]; exact e
          · rw [upd_ne z]
            exact h2 b o (S3C _ _ e) z (ne_of_none (SA _ _ e) nt)
      · exfalso
        obtain ⟨j, x, ej, _, nz, c⟩ := hz'
        have hx := hH x (List.mem_of_getElem? ej)
        rcases c with c | ⟨_, c⟩
        · rw [c] at hx; exact nz hx.1
        · rw [c] at hx; exact nz hx.2
    · rintro σ HA ⟨y5, y6, y7, rfl, SA⟩
      exact q _ (S3.trans SA)
end
end Tb
set_option maxHeartbeats 2000000
namespace Tb
open PySem PySem.Spec PyProof.Rows L2
open L2H (RoomH PinOk cxH inv_startH roomH_of)
/-! ### a def that is handed the caught error -/
/-- what such a def promises: q is the error's object, which stands -/
structure FnP (P : Program) (w : World) (K : PySem.W.Frag) (mg : Str → Option Value) (base : Heap) (k : Nat) (f : Addr) (fd : FuncData) (ps : List Str) (sp : Addr × Obj → Sp) : Prop where
  many : ∀ q vs H Q E, sp q vs H Q E → vs.length = ps.length
  goes : ∀ (A : Around) (up : List Env) (s : Shared) (H : Hp) (g : Args) (us : List Value) (vs : List V) (Q : VK) (E : XK) (q : Addr × Obj), RoomH k A → PinOk up H s q → Env0 P w K mg base A up s H →
    BindsTo s fd g (ps.zip us) → Vals vs us → sp q vs H Q E → codeAny (model P w) A (.call (.ref f) g) (CR CX0 up P w H s Q E) s
section
variable {P : Program} {w : World} {K : PySem.W.Frag} {mg : Str → Option Value} {base : Heap}
theorem okP {x qual : Str} {st : Stmt} {f : Addr} {fd : FuncData} {N ps : List Str} {k : Nat} {sp : Addr × Obj → Sp} (F : Fun K x qual st f fd) (S : FnScope N ps (defScope st)) (many : ∀ q vs H Q E, sp q vs H Q E → vs.length = ps.length)
    (text : ∀ (cd : Value) (A : Around) (up : List Env) (s : Shared) (H : Hp) (vs : List V) (Q : VK) (E : XK) (q : Addr × Obj), RoomH k (A.deeper (envOfC qual (defScope st) s.heap.objs.size f cd)) → sp q vs H Q E →
      ∃ t, PSs (cxH CX0 P w K mg base N qual (defScope st) f cd A up s H E q) (defBody st) t ∧ t { nx := fun _ H' => Q .non H', rt := Q } (L2.start N vs) H) : FnP P w K mg base (k + 1) f fd ps sp := by
  obtain ⟨oc, od, kV, doc, pm, an, cd, ct, osl, rfl, lk, hcd⟩ := F.ex
  refine ⟨many, fun A up s H g us vs Q E q room pin env0 bind vals want => ?_⟩
  have len := many _ _ _ _ _ want
  have KX : K.In s.heap := env0.mod.kin.keeps fun b o e => (env0.bs b o e).1
  have lim : s.heap.NoLimit := env0.mod.nolimit.keeps fun b o e => (env0.bs b o e).1
  have kinds : ∀ z ∈ ps.zip us, (defScope st).names.lookup z.1 = some .local ∨ ((defScope st).names.lookup z.1 = some .cell ∧ ((cellsFrom (s.heap.objs.size + 1) (defScope st).names []).lookup z.1).isSome = true) := by
    rintro ⟨n, v⟩ hz
    rcases S.par n (List.of_mem_zip hz).1 with c | c
    · exact .inl c
    · exact .inr ⟨c, PySem.W.cellsFrom_some _ _ _ (.inl c)⟩
  have kept : K.In s.heap := KX
  refine codeAny_call_function room.depth (kept _ _ lk) rfl S.co S.gen rfl (PySem.W.codeRec_of kept hcd) (bind _ _ _ _ (wpAny_newFunctionEnv_cells S.kind kinds fun env ee s1 inside => ?_))
  subst ee
  refine ⟨lim.keeps inside.toInCall.keep, codeAny_func ?_⟩
  obtain ⟨t, ht, hq⟩ := text cd A up s H vs Q E q (room.deeper _) want
  have J : Inv (cxH CX0 P w K mg base N qual (defScope st) f cd A up s H E q) [] (L2.start N vs) H s1 := inv_startH S pin env0 len vals inside
  refine wpAny_mono (ht.run [] s1 (L2.start N vs) H _ J hq) (fun flow s' end_ => ?_) fun e s' end_ => end_
  cases flow with
  | ret u => exact let ⟨v, σ', H', J', rv, z⟩ := end_; ⟨v, H', J'.os, J'.bare, J'.base, J'.hok, rv, z⟩
  | next => exact let ⟨σ', H', J', z⟩ := end_; ⟨.non, H', J'.os, J'.bare, J'.base, J'.hok, rfl, z⟩
  | brk => exact let ⟨_, _, _, z⟩ := end_; z.elim
  | cont => exact let ⟨_, _, _, z⟩ := end_; z.elim
end
section
variable {X : Cx} {k : Nat} {f a : Addr} {oe : Obj} {pn : List (Addr × Obj)} {fd : FuncData} {ps : List Str} {sp : Addr × Obj → Sp} {x : Str} {p pos : PySem.Pos} {e : Expr} {es : List Expr} {t : TA}
def tCallP (sp : Addr × Obj → Sp) (a : Addr) (cls : Value) (d : Option Addr) (t : TA) : TE := fun σ H Q => t σ H fun vs H1 => ∀ oe, Zc cls d oe → (∃ ws, oe.data = .fields ws) → sp (a, oe) vs H1 Q E0
theorem pe_callP {cls : Value} {d : Option Addr} (hz : Zc cls d oe) (hf : ∃ ws, oe.data = .fields ws) (F : FnP X.prog X.w X.K X.mg X.base k f fd ps sp) (room : Room k X.A) (hg : Gl X x) (hm : X.mg x = some (.ref f)) (kp : PySem.W.keepIn X.K (.ref f) = true) (bind : Binds X.K fd ps [])
    (pa : PA (X.suite a ((a, oe) :: pn)) (e :: es) t) (nd : (x == ("__debug__" : Str)) = false := by decide) (se : starEach (e :: es) X.env = (false, eval e X.env) :: starEach es X.env := by rfl) (pl : (backTo pos (starEach es X.env)).any (·.1) = false := by rfl) :
    PE (X.suite a ((a, oe) :: pn)) (.Call (.Name x p) (e :: es) [] pos) (tCallP sp a cls d t) := by
  refine ⟨fun pins s σ H Q I h => ?_⟩
  refine wpAny_Call_Name_kw (ld_glob (X := X.suite a ((a, oe) :: pn)) I hg hm ?_ nd)
  refine PySem.W.callWith_K (h₀ := X.base) I.ok.mod.kin kp (thn (pa.run pos pins s σ H _ I h) fun us s1 ⟨vs, H1, I1, r, q⟩ => ⟨I1.kIn, ?_⟩) se pl
  have q := q oe hz hf
  have len : us.length = ps.length := by rw [← r.length]; exact F.many _ _ _ _ _ q
  have b := bind s1 us I1.kIn (by rw [List.append_nil]; exact len)
  rw [List.append_nil] at b
  have at_ := I1.pin (a, oe) (List.mem_append_left _ List.mem_cons_self)
  have pin : PinOk X.stack H1 s1 (a, oe) := ⟨at_.1, at_.2.1, fun m => (List.mem_cons.mp (I1.stkSub a m)).elim at_.2.2.1 at_.2.2.2.1, at_.2.2.2.2⟩
  refine wpAny_call (codeAny_mono (F.goes (X.A.mark (some (.ref a))) X.stack s1 H1 ⟨us, []⟩ us vs Q E0 (a, oe) ⟨room.dp, room.un⟩ pin I1.env0 b r q) fun res s' hq => ?_)
  cases res with
  | error er => exact hq.elim
  | ok flow =>
    cases flow with
    | ret u => exact I1.after hq
    | next => exact hq.elim
    | brk => exact hq.elim
    | cont => exact hq.elim
end
section
variable {X : Cx} {a D : Addr} {oe : Obj} {d : Option Addr} {cls : Value}
theorem call_isP {fI : Addr} {n : Str} (T : ErrC X.K D fI n) (hz : Zc cls d oe) (hf : ∃ vs, oe.data = .fields vs) (hp : (a, oe) ∈ X.pn) : CallR X (.builtin "isinstance") (rIsX X.K D a cls d) := by
  intro pins s σ H xs us Q I r h
  obtain ⟨rfl, c, cv, b, dd, fs, rfl, hc, rfl, hdd, e, q⟩ := h
  obtain ⟨u1, u2, rfl, r1, r2⟩ := vals2 r
  cases (show u1 = Value.ref a from r1)
  obtain rfl := hc.eq r2
  have J : ∃ od, PySem.W.InstAt s.heap a oe D (some od) := by
    obtain ⟨ha, _⟩ := I.pin (a, oe) (List.mem_append_left _ hp)
    obtain ⟨vs, hv⟩ := hf
    have hx : ObjOk X.prog X.w H s.heap dd (.xd fs) := I.hok dd _ hdd
    obtain ⟨mA, hns, _⟩ := hx
    obtain ⟨od, ho, _⟩ := lookIn_ns hns
    refine ⟨od, ha, hz.1, ?_, ?_⟩
    · unfold PySem.W.notCls
      rw [hv]
    · rw [hz.2]
      exact ho
  obtain ⟨od, J⟩ := J
  exact PySem.W.kia_one (PySem.W.kitx_exc T.cl T.xf.ga T.xf.gg T.xf.exC T.ha T.hn T.tk T.hm) I.kIn J e (fun z => nomatch z) fun tk => ⟨.bl b, H, I.tok tk, rfl, q⟩
end
end Tb
namespace Tb
open PySem PySem.Spec PyProof.Rows L2
open L2H (RoomH PinOk cxH)
abbrev sError : Stmt := topS 37
abbrev NError : List Str := ["raised", "kinds"]
theorem scError : FnScope NError ["raised"] (defScope sError) := ⟨rfl, rfl, rfl, by decide +kernel, rfl, by decide +kernel, by decide +kernel⟩
/-- the classes of the errors, as the module has them -/
structure EGl (mg : Str → Option Value) (CP c0 c1 c2 c3 c4 c5 c6 c7 : Addr) : Prop where
  gP : mg "ParcelError" = some (.ref CP)
  g0 : mg "Invalid" = some (.ref c0)
  g1 : mg "Unknown" = some (.ref c1)
  g2 : mg "TooMany" = some (.ref c2)
  g3 : mg "Contradiction" = some (.ref c3)
  g4 : mg "Late" = some (.ref c4)
  g5 : mg "Refused" = some (.ref c5)
  g6 : mg "BadManifest" = some (.ref c6)
  g7 : mg "BadLine" = some (.ref c7)
  ve : mg "ValueError" = none
/-- of which of the classes an error of the class D is -/
structure Kinds (K : PySem.W.Frag) (D c0 c1 c2 c3 c4 c5 c6 c7 : Addr) (b0 b1 b2 b3 b4 b5 b6 b7 : Bool) : Prop where
  k0 : PySem.W.kitOne K (.ref D) (.ref c0) = some b0
  k1 : PySem.W.kitOne K (.ref D) (.ref c1) = some b1
  k2 : PySem.W.kitOne K (.ref D) (.ref c2) = some b2
  k3 : PySem.W.kitOne K (.ref D) (.ref c3) = some b3
  k4 : PySem.W.kitOne K (.ref D) (.ref c4) = some b4
  k5 : PySem.W.kitOne K (.ref D) (.ref c5) = some b5
  k6 : PySem.W.kitOne K (.ref D) (.ref c6) = some b6
  k7 : PySem.W.kitOne K (.ref D) (.ref c7) = some b7
  kV : PySem.W.kitOne K (.ref D) (.type "ValueError") = some true
section
variable {P : Program} {w : World} {K : PySem.W.Frag} {mg : Str → Option Value} {base : Heap}
def spErrorP (K : PySem.W.Frag) (c0 c1 c2 c3 c4 c5 c6 c7 : Addr) : Addr × Obj → Sp := fun q vs H Q _ => ∃ (D fI dd : Addr) (n : Str) (fs : List (Str × V)) (b0 b1 b2 b3 b4 b5 b6 b7 : Bool), vs = [.ref q.1] ∧ ErrC K D fI n ∧ Zc (.ref D) (some dd) q.2 ∧ (∃ ws, q.2.data = .fields ws) ∧ H dd = some (.xd fs) ∧
  Kinds K D c0 c1 c2 c3 c4 c5 c6 c7 b0 b1 b2 b3 b4 b5 b6 b7 ∧ ∀ l H', Same H H' → H l = none → H' l = some (.lst ([b0, b1, b2, b3, b4, b5, b6, b7, true].map V.bl)) → Q (.ref l) H'
theorem ok_error {f CP c0 c1 c2 c3 c4 c5 c6 c7 : Addr} {fd : FuncData} (F : Fun K "_law_error" "_law_error" sError f fd) (B : Blt mg) (G : EGl mg CP c0 c1 c2 c3 c4 c5 c6 c7) : FnP P w K mg base 1 f fd ["raised"] (spErrorP K c0 c1 c2 c3 c4 c5 c6 c7) := by
  refine okP F scError (fun q vs H Q E h => ?_) (fun cdv A outer s H vs Q E q hr h => ?_)
  · obtain ⟨_, _, _, _, _, _, _, _, _, _, _, _, _, rfl, _⟩ := h
    rfl
  · obtain ⟨D, fI, dd, n, fs, b0, b1, b2, b3, b4, b5, b6, b7, rfl, T, hz, hf, hd, ks, w0⟩ := h
    have hp : (q.1, q.2) ∈ (cxH CX0 P w K mg base NError (Str.ofString "_law_error") (defScope sError) f cdv A outer s H E q).pn := List.mem_cons_self
    have hz0 : sizeLine = 16777216 := rfl
    refine ⟨_, (pss_cons (ps_set (i := 1) scError.nd rfl (.inl rfl) (pe_lst (pa_cons (pe_callB (id := "isinstance") (r := rIsX K D q.1 (.ref D) (some dd)) (call_isP T hz hf hp) (by rfl) B.isi (by decide +kernel) (pa_cons (pv 0) (pa_cons (pe_glob (by rfl) G.g0 (v := .ref c0) rfl) pa_nil))) (pa_cons (pe_callB (id := "isinstance") (r := rIsX K D q.1 (.ref D) (some dd)) (call_isP T hz hf hp) (by rfl) B.isi (by decide +kernel) (pa_cons (pv 0) (pa_cons (pe_glob (by rfl) G.g1 (v := .ref c1) rfl) pa_nil))) (pa_cons (pe_callB (id := "isinstance") (r := rIsX K D q.1 (.ref D) (some dd)) (call_isP T hz hf hp) (by rfl) B.isi (by decide +kernel) (pa_cons (pv 0) (pa_cons (pe_glob (by rfl) G.g2 (v := .ref c2) rfl) pa_nil))) pa_nil)))))
      (pss_cons (ps_set (i := 1) scError.nd rfl (.inl rfl) (pe_op op_cat (pv 1) (pe_lst (pa_cons (pe_callB (id := "isinstance") (r := rIsX K D q.1 (.ref D) (some dd)) (call_isP T hz hf hp) (by rfl) B.isi (by decide +kernel) (pa_cons (pv 0) (pa_cons (pe_glob (by rfl) G.g3 (v := .ref c3) rfl) pa_nil))) (pa_cons (pe_callB (id := "isinstance") (r := rIsX K D q.1 (.ref D) (some dd)) (call_isP T hz hf hp) (by rfl) B.isi (by decide +kernel) (pa_cons (pv 0) (pa_cons (pe_glob (by rfl) G.g4 (v := .ref c4) rfl) pa_nil))) pa_nil)))))
      (pss_cons (ps_set (i := 1) scError.nd rfl (.inl rfl) (pe_op op_cat (pv 1) (pe_lst (pa_cons (pe_callB (id := "isinstance") (r := rIsX K D q.1 (.ref D) (some dd)) (call_isP T hz hf hp) (by rfl) B.isi (by decide +kernel) (pa_cons (pv 0) (pa_cons (pe_glob (by rfl) G.g5 (v := .ref c5) rfl) pa_nil))) (pa_cons (pe_callB (id := "isinstance") (r := rIsX K D q.1 (.ref D) (some dd)) (call_isP T hz hf hp) (by rfl) B.isi (by decide +kernel) (pa_cons (pv 0) (pa_cons (pe_glob (by rfl) G.g6 (v := .ref c6) rfl) pa_nil))) pa_nil)))))
      (pss_cons (ps_expr (pe_bm PySem.F.plainAttrs_list PySem.F.slot_list_append PySem.F.type_list_append mt_append (pv 1) (pa_cons (pe_callB (id := "isinstance") (r := rIsX K D q.1 (.ref D) (some dd)) (call_isP T hz hf hp) (by rfl) B.isi (by decide +kernel) (pa_cons (pv 0) (pa_cons (pe_glob (by rfl) G.g7 (v := .ref c7) rfl) pa_nil))) pa_nil)))
      (pss_one (ps_ret (pe_op op_cat (pv 1) (pe_lst (pa_cons (pe_callB (id := "isinstance") (r := rIsX K D q.1 (.ref D) (some dd)) (call_isP T hz hf hp) (by rfl) B.isi (by decide +kernel) (pa_cons (pv 0) (pa_cons (pe_bltn (by rfl) G.ve (by decide +kernel) (v := .ty "ValueError") (u := .type "ValueError") rfl) pa_nil))) pa_nil))))))))), ?_⟩
    refine ⟨.ref q.1, rfl, rfl, .ref c0, .ref c0, b0, dd, fs, rfl, .own _, rfl, hd, ks.k0, .ref q.1, rfl, rfl, .ref c1, .ref c1, b1, dd, fs, rfl, .own _, rfl, hd, ks.k1, .ref q.1, rfl, rfl, .ref c2, .ref c2, b2, dd, fs, rfl, .own _, rfl, hd, ks.k2, by show 3 ≤ sizeLine; omega, fun A1 n1 => ?_⟩
    have S1 := same_upd (o := .lst [V.bl b0, V.bl b1, V.bl b2]) n1
    have h1 : L2.upd H A1 (.lst [V.bl b0, V.bl b1, V.bl b2]) A1 = some (.lst [V.bl b0, V.bl b1, V.bl b2]) := upd_same
    have d1 := S1 _ _ hd
    generalize L2.upd H A1 (.lst [V.bl b0, V.bl b1, V.bl b2]) = H1 at S1 h1 d1
    refine ⟨.ref A1, rfl, .ref q.1, rfl, rfl, .ref c3, .ref c3, b3, dd, fs, rfl, .own _, rfl, d1, ks.k3, .ref q.1, rfl, rfl, .ref c4, .ref c4, b4, dd, fs, rfl, .own _, rfl, d1, ks.k4, by show 2 ≤ sizeLine; omega, fun A2 n2 => ?_⟩
    have S2 := S1.trans (same_upd (o := .lst [V.bl b3, V.bl b4]) n2)
    have h2 : L2.upd H1 A2 (.lst [V.bl b3, V.bl b4]) A2 = some (.lst [V.bl b3, V.bl b4]) := upd_same
    have h12 := same_upd (o := .lst [V.bl b3, V.bl b4]) n2 _ _ h1
    generalize L2.upd H1 A2 (.lst [V.bl b3, V.bl b4]) = H2 at S2 h2 h12
    refine ⟨A1, A2, _, _, rfl, rfl, h12, h2, by show 5 ≤ sizeLine; omega, fun A3 n3 => ?_⟩
    have S3 := S2.trans (same_upd (o := .lst ([V.bl b0, V.bl b1, V.bl b2] ++ [V.bl b3, V.bl b4])) n3)
    have h3 : L2.upd H2 A3 (.lst ([V.bl b0, V.bl b1, V.bl b2] ++ [V.bl b3, V.bl b4])) A3 = some (.lst [V.bl b0, V.bl b1, V.bl b2, V.bl b3, V.bl b4]) := upd_same
    have d3 := S3 _ _ hd
    generalize L2.upd H2 A3 (.lst ([V.bl b0, V.bl b1, V.bl b2] ++ [V.bl b3, V.bl b4])) = H3 at S3 h3 d3
    refine ⟨.ref A3, rfl, .ref q.1, rfl, rfl, .ref c5, .ref c5, b5, dd, fs, rfl, .own _, rfl, d3, ks.k5, .ref q.1, rfl, rfl, .ref c6, .ref c6, b6, dd, fs, rfl, .own _, rfl, d3, ks.k6, by show 2 ≤ sizeLine; omega, fun A4 n4 => ?_⟩
    have S4 := S3.trans (same_upd (o := .lst [V.bl b5, V.bl b6]) n4)
    have h4 : L2.upd H3 A4 (.lst [V.bl b5, V.bl b6]) A4 = some (.lst [V.bl b5, V.bl b6]) := upd_same
    have h34 := same_upd (o := .lst [V.bl b5, V.bl b6]) n4 _ _ h3
    generalize L2.upd H3 A4 (.lst [V.bl b5, V.bl b6]) = H4 at S4 h4 h34
    refine ⟨A3, A4, _, _, rfl, rfl, h34, h4, by show 7 ≤ sizeLine; omega, fun A5 n5 => ?_⟩
    have nA5 : H A5 = none := S4.free n5
    have S5 := S4.trans (same_upd (o := .lst ([V.bl b0, V.bl b1, V.bl b2, V.bl b3, V.bl b4] ++ [V.bl b5, V.bl b6])) n5)
    have h5 : L2.upd H4 A5 (.lst ([V.bl b0, V.bl b1, V.bl b2, V.bl b3, V.bl b4] ++ [V.bl b5, V.bl b6])) A5 = some (.lst [V.bl b0, V.bl b1, V.bl b2, V.bl b3, V.bl b4, V.bl b5, V.bl b6]) := upd_same
    have d5 := S5 _ _ hd
    generalize L2.upd H4 A5 (.lst ([V.bl b0, V.bl b1, V.bl b2, V.bl b3, V.bl b4] ++ [V.bl b5, V.bl b6])) = H5 at S5 h5 d5
    refine ⟨.ref A5, rfl, .inl ⟨rfl, _, sqOf h5⟩, .ref q.1, rfl, rfl, .ref c7, .ref c7, b7, dd, fs, rfl, .own _, rfl, d5, ks.k7, A5, _, _, rfl, rfl, h5, by show 7 < sizeLine; omega, ?_⟩
    have S6 : Same H (L2.upd H5 A5 (.lst ([V.bl b0, V.bl b1, V.bl b2, V.bl b3, V.bl b4, V.bl b5, V.bl b6] ++ [V.bl b7]))) := fun z o e => by
      rw [upd_ne (ne_of_none e nA5)]; exact S5 _ _ e
    have h6 : L2.upd H5 A5 (.lst ([V.bl b0, V.bl b1, V.bl b2, V.bl b3, V.bl b4, V.bl b5, V.bl b6] ++ [V.bl b7])) A5 = some (.lst [V.bl b0, V.bl b1, V.bl b2, V.bl b3, V.bl b4, V.bl b5, V.bl b6, V.bl b7]) := upd_same
    have d6 := S6 _ _ hd
    generalize L2.upd H5 A5 (.lst ([V.bl b0, V.bl b1, V.bl b2, V.bl b3, V.bl b4, V.bl b5, V.bl b6] ++ [V.bl b7])) = H6 at S6 h6 d6
    refine ⟨.ref A5, rfl, .ref q.1, rfl, rfl, .ty "ValueError", .type "ValueError", true, dd, fs, rfl, .ty _, rfl, d6, ks.kV, by show 1 ≤ sizeLine; omega, fun A7 n7 => ?_⟩
    have S7 := S6.trans (same_upd (o := .lst [V.bl true]) n7)
    have h7 : L2.upd H6 A7 (.lst [V.bl true]) A7 = some (.lst [V.bl true]) := upd_same
    have h67 := same_upd (o := .lst [V.bl true]) n7 _ _ h6
    generalize L2.upd H6 A7 (.lst [V.bl true]) = H7 at S7 h7 h67
    refine ⟨A5, A7, _, _, rfl, rfl, h67, h7, by show 9 ≤ sizeLine; omega, fun A8 n8 => ?_⟩
    exact w0 A8 _ (S7.trans (same_upd n8)) (S7.free n8) upd_same
end
end Tb
namespace Tb
open PySem PySem.Spec PyProof.Rows L2
open L2H (RoomH PinOk cxH)
abbrev sRefS : Stmt := topS 38
abbrev NRefS : List Str := ["purse", "raised"]
theorem scRefS : FnScope NRefS ["purse"] (defScope sRefS) := ⟨rfl, rfl, rfl, by decide +kernel, rfl, by decide +kernel, by decide +kernel⟩
abbrev sRefN : Stmt := topS 39
abbrev NRefN : List Str := ["purse", "rows", "name", "raised"]
theorem scRefN : FnScope NRefN ["purse", "rows", "name"] (defScope sRefN) := ⟨rfl, rfl, rfl, by decide +kernel, rfl, by decide +kernel, by decide +kernel⟩
theorem dp_bls {K : PySem.W.Frag} {H : Hp} : ∀ bs : List Bool, DpAll K H (bs.map V.bl) (bs.map PyData.bool)
  | [] => .nil
  | b :: bs => .cons (.bl b) (dp_bls bs)
theorem shaped_bls (bs : List Bool) : SeqAt.shaped (.list (bs.map PyData.bool)) = true := shaped_ls fun d hd => by
  obtain ⟨b, _, rfl⟩ := List.mem_map.mp hd
  exact ⟨by simp only [PyData.canLay0], by simp [PyData.depth]⟩
theorem same_bls {K : PySem.W.Frag} {H : Hp} {l l2 : Addr} {xs : List V} (bs : List Bool) (h1 : H l = some (.lst (bs.map V.bl))) (h2 : H l2 = some (.lst xs)) (e : xs = bs.map V.bl) {Q : VK} (q : Q (.bl true) H) : rEqD K (.ref l) (.ref l2) H Q := by
  refine ⟨_, _, .lst (sqOf h1) (dp_bls bs), .lst (sqOf h2) (by rw [e]; exact dp_bls bs), shaped_bls bs, shaped_bls bs, ?_⟩
  rw [eqv_same (shaped_bls bs)]
  exact q
def rLstO (K : PySem.W.Frag) : List V → Hp → VK → Prop := fun xs H Q => ∃ p ys, xs = [V.ref p] ∧ (SqL K H p ys ∨ SqT K H p ys) ∧ ∀ l, H l = none → Q (.ref l) (upd H l (.lst ys))
section
variable {P : Program} {w : World} {K : PySem.W.Frag} {mg : Str → Option Value} {base : Heap}
/-- the def that is handed the error -/
structure CErr (P : Program) (w : World) (K : PySem.W.Frag) (mg : Str → Option Value) (base : Heap) (c0 c1 c2 c3 c4 c5 c6 c7 : Addr) (g : Addr) (gd : FuncData) : Prop where
  D : Dd K mg "_law_error" sError ["raised"] g gd
  G : FnP P w K mg base 1 g gd ["raised"] (spErrorP K c0 c1 c2 c3 c4 c5 c6 c7)
def spRefS : Sp := fun vs H Q _ => ∃ (r : Addr) (d : DN), vs = [.ref r] ∧ H r = some (.dK (kvN d)) ∧ (d.map (·.1)).Nodup ∧ d.length ≤ 100 ∧ totN d ≠ 0 ∧ ∀ H', Same H H' → Q (.bl true) H'
theorem ok_refs {f g1 g2 CP c0 c1 c2 c3 c4 c5 c6 c7 fI : Addr} {fd gd1 gd2 fdI : FuncData} (F : Fun K "_law_refused_sum" "_law_refused_sum" sRefS f fd) (cPay : CPay P w K mg base c0 g1 gd1) (cErr : CErr P w K mg base c0 c1 c2 c3 c4 c5 c6 c7 g2 gd2) (R : EInv K mg c0 fI fdI) (G : EGl mg CP c0 c1 c2 c3 c4 c5 c6 c7) (ks : Kinds K c0 c0 c1 c2 c3 c4 c5 c6 c7 true false false false false false false false) (ex : PySem.W.exmOne K (.ref c0) (.ref CP) = some true) (B : Blt mg) : FnOk P w K mg base CX0 4 f fd ["purse"] spRefS := by
  refine F.ok scRefS (fun vs H Q E h => ?_) (fun cdv A outer s H vs Q E hr h => ?_)
  · obtain ⟨r, d, rfl, _⟩ := h
    rfl
  · obtain ⟨r, d, rfl, hd, nd, ld, nt, q⟩ := h
    have hz0 : sizeLine = 16777216 := rfl
    refine ⟨_, pss_cons (ps_try_as (i := 1) rfl rfl scRefS.nd rfl rfl ⟨rfl, by decide, .inl G.gP⟩ takes0
        (fun W pn xe tk _ => pss_one (ps_expr (pe_callS cPay.G (hr.mono (by first | decide | omega)) (by rfl) cPay.D.g cPay.D.F.kp cPay.D.b (fun σ => passAt tk σ) (pa_cons (pe_callTy call_dictD (by rfl) B.dict PyProof.Rows.boot_dict (pa_cons (pv 0) pa_nil)) pa_nil))))
        (fun a oe cls d pn hz hf => pss_one (ps_ret (pe_and (pe_cmpR (r := rEqD K) (op_eqD hr.units) (pe_callP hz hf cErr.G (hr.mono (by first | decide | omega)) (by rfl) cErr.D.g cErr.D.F.kp cErr.D.b (pa_cons (pv 1) pa_nil)) (pe_op op_cat (pe_op op_cat (pe_lst (pa_cons pe_bl pa_nil)) (pe_op op_rep (pe_lst (pa_cons pe_bl pa_nil)) pe_int)) (pe_lst (pa_cons pe_bl pa_nil))) (nomark _)) (pe_one (pe_cmpR op_eq (pe_xf R.T.xf R.T.no hz hf (pv 1)) pe_str (nomark _)))))))
      (pss_one (ps_ret pe_bl)), ?_⟩
    refine ⟨.ref r, rfl, r, _, rfl, .of hd, fun p np => ?_⟩
    have S1 := same_upd (o := .dK (kvN d)) np
    have hp1 : L2.upd H p (.dK (kvN d)) p = some (.dK (kvN d)) := upd_same
    generalize L2.upd H p (.dK (kvN d)) = H1 at S1 hp1
    refine ⟨p, d, rfl, hp1, nd, ld, fun z => absurd z nt, fun _ e H2 S2 he => ?_⟩
    refine ⟨true, ex, fun _ a ha => ?_, fun z => by cases z⟩
    refine ⟨.ref a, rfl, fun oe hz hf => ⟨c0, fI, e, wWhat, _, true, false, false, false, false, false, false, false, rfl, R.T, hz, hf, he, ks, fun l H3 S3 nl hl => ?_⟩⟩
    have hl : H3 l = some (.lst ([true, false, false, false, false, false, false, false, true].map V.bl)) := hl
    refine ⟨by show 1 ≤ sizeLine; omega, fun A1 n1 => ?_⟩
    have S4 := S3.trans (same_upd (o := .lst [V.bl true]) n1)
    have h1 : L2.upd H3 A1 (.lst [V.bl true]) A1 = some (.lst [V.bl true]) := upd_same
    have hl4 := same_upd (o := .lst [V.bl true]) n1 _ _ hl
    generalize L2.upd H3 A1 (.lst [V.bl true]) = H4 at S4 h1 hl4
    refine ⟨by show 1 ≤ sizeLine; omega, fun A2 n2 => ?_⟩
    have S5 := S4.trans (same_upd (o := .lst [V.bl false]) n2)
    have h2 : L2.upd H4 A2 (.lst [V.bl false]) A2 = some (.lst [V.bl false]) := upd_same
    have h15 := same_upd (o := .lst [V.bl false]) n2 _ _ h1
    have hl5 := same_upd (o := .lst [V.bl false]) n2 _ _ hl4
    generalize L2.upd H4 A2 (.lst [V.bl false]) = H5 at S5 h2 h15 hl5
    refine ⟨A2, _, _, rfl, rfl, h2, by decide, by decide, by show 7 ≤ sizeLine; omega, fun A3 n3 => ?_⟩
    have ef : (List.replicate (Int.toNat 7) [V.bl false]).flatten = List.replicate 7 (V.bl false) := rfl
    rw [ef]
    have S6 := S5.trans (same_upd (o := .lst (List.replicate 7 (V.bl false))) n3)
    have h3 : L2.upd H5 A3 (.lst (List.replicate 7 (V.bl false))) A3 = some (.lst (List.replicate 7 (V.bl false))) := upd_same
    have h16 := same_upd (o := .lst (List.replicate 7 (V.bl false))) n3 _ _ h15
    have hl6 := same_upd (o := .lst (List.replicate 7 (V.bl false))) n3 _ _ hl5
    generalize L2.upd H5 A3 (.lst (List.replicate 7 (V.bl false))) = H6 at S6 h3 h16 hl6
    refine ⟨A1, A3, _, _, rfl, rfl, h16, h3, by show 1 + 7 ≤ sizeLine; omega, fun A4 n4 => ?_⟩
    have S7 := S6.trans (same_upd (o := .lst ([V.bl true] ++ List.replicate 7 (V.bl false))) n4)
    have h4 : L2.upd H6 A4 (.lst ([V.bl true] ++ List.replicate 7 (V.bl false))) A4 = some (.lst ([V.bl true] ++ List.replicate 7 (V.bl false))) := upd_same
    have hl7 := same_upd (o := .lst ([V.bl true] ++ List.replicate 7 (V.bl false))) n4 _ _ hl6
    generalize L2.upd H6 A4 (.lst ([V.bl true] ++ List.replicate 7 (V.bl false))) = H7 at S7 h4 hl7
    refine ⟨by show 1 ≤ sizeLine; omega, fun A5 n5 => ?_⟩
    have S8 := S7.trans (same_upd (o := .lst [V.bl true]) n5)
    have h5 : L2.upd H7 A5 (.lst [V.bl true]) A5 = some (.lst [V.bl true]) := upd_same
    have h48 := same_upd (o := .lst [V.bl true]) n5 _ _ h4
    have hl8 := same_upd (o := .lst [V.bl true]) n5 _ _ hl7
    generalize L2.upd H7 A5 (.lst [V.bl true]) = H8 at S8 h5 h48 hl8
    refine ⟨A4, A5, _, _, rfl, rfl, h48, h5, by show 8 + 1 ≤ sizeLine; omega, fun A6 n6 => ?_⟩
    have S9 := S8.trans (same_upd (o := .lst (([V.bl true] ++ List.replicate 7 (V.bl false)) ++ [V.bl true])) n6)
    have h6 : L2.upd H8 A6 (.lst (([V.bl true] ++ List.replicate 7 (V.bl false)) ++ [V.bl true])) A6 = some (.lst (([V.bl true] ++ List.replicate 7 (V.bl false)) ++ [V.bl true])) := upd_same
    have hl9 := same_upd (o := .lst (([V.bl true] ++ List.replicate 7 (V.bl false)) ++ [V.bl true])) n6 _ _ hl8
    generalize L2.upd H8 A6 (.lst (([V.bl true] ++ List.replicate 7 (V.bl false)) ++ [V.bl true])) = H9 at S9 h6 hl9
    refine same_bls [true, false, false, false, false, false, false, false, true] hl9 h6 rfl ⟨true, rfl, ?_⟩
    refine ⟨.ref a, rfl, rfl, rfl, e, _, .str wBal, rfl, S9 _ _ he, rfl, rfl, ?_⟩
    rw [decide_eq_true rfl]
    exact q _ (S1.trans (S2.trans S9))
def spRefN : Sp := fun vs H Q _ => ∃ (r l : Addr) (z : Str) (d : DN) (bs : List (Addr × Row3)), vs = [.ref r, .ref l, .str z] ∧ H r = some (.dK (kvN d)) ∧ d.length ≤ 100 ∧ Rws H l bs ∧ FirstBad d (bs.map (·.2)) z ∧ ¬ Has d (bs.map (·.2)) ∧ (∀ y, FirstBad d (bs.map (·.2)) y → y = z) ∧ ∀ H', Same H H' → Q (.bl true) H'
theorem ok_refn {f g1 g2 CP c0 c1 c2 c3 c4 c5 c6 c7 fI : Addr} {fd gd1 gd2 fdI : FuncData} (F : Fun K "_law_refused_name" "_law_refused_name" sRefN f fd) (cSettled : CSettled P w K mg base c1 g1 gd1) (cErr : CErr P w K mg base c0 c1 c2 c3 c4 c5 c6 c7 g2 gd2) (R : EUnk K mg c1 fI fdI) (G : EGl mg CP c0 c1 c2 c3 c4 c5 c6 c7) (ks : Kinds K c1 c0 c1 c2 c3 c4 c5 c6 c7 false true false false false false false false) (ex : PySem.W.exmOne K (.ref c1) (.ref CP) = some true) (B : Blt mg) : FnOk P w K mg base CX0 4 f fd ["purse", "rows", "name"] spRefN := by
  refine F.ok scRefN (fun vs H Q E h => ?_) (fun cdv A outer s H vs Q E hr h => ?_)
  · obtain ⟨r, l, z, d, bs, rfl, _⟩ := h
    rfl
  · obtain ⟨r, l0, z, d, bs, rfl, hd, ld, hR, fb, nh, un, q⟩ := h
    have hz0 : sizeLine = 16777216 := rfl
    refine ⟨_, pss_cons (ps_try_as (i := 3) rfl rfl scRefN.nd rfl rfl ⟨rfl, by decide, .inl G.gP⟩ takes0
        (fun W pn xe tk _ => pss_one (ps_expr (pe_callS cSettled.G (hr.mono (by first | decide | omega)) (by rfl) cSettled.D.g cSettled.D.F.kp cSettled.D.b (fun σ => passAt tk σ) (pa_cons (pe_callTy call_dictD (by rfl) B.dict PyProof.Rows.boot_dict (pa_cons (pv 0) pa_nil)) (pa_cons (pe_callTy (r := rLstO K) call_list_of (by rfl) B.list PyProof.Rows.boot_list (pa_cons (pv 1) pa_nil)) pa_nil)))))
        (fun a oe cls d pn hz hf => pss_one (ps_ret (pe_and (pe_cmpR (r := rEqD K) (op_eqD hr.units) (pe_callP hz hf cErr.G (hr.mono (by first | decide | omega)) (by rfl) cErr.D.g cErr.D.F.kp cErr.D.b (pa_cons (pv 3) pa_nil)) (pe_op op_cat (pe_op op_cat (pe_lst (pa_cons pe_bl (pa_cons pe_bl pa_nil))) (pe_op op_rep (pe_lst (pa_cons pe_bl pa_nil)) pe_int)) (pe_lst (pa_cons pe_bl pa_nil))) (nomark _)) (pe_one (pe_cmpR op_eq (pe_xf R.T.xf R.T.no hz hf (pv 3)) (pv 2) (nomark _)))))))
      (pss_one (ps_ret pe_bl)), ?_⟩
    refine ⟨.ref r, rfl, r, _, rfl, .of hd, fun p np => ?_⟩
    have S1 := same_upd (o := .dK (kvN d)) np
    have hp1 : L2.upd H p (.dK (kvN d)) p = some (.dK (kvN d)) := upd_same
    generalize L2.upd H p (.dK (kvN d)) = H1 at S1 hp1
    refine ⟨.ref l0, rfl, l0, _, rfl, .inl (sqOf (S1 _ _ hR.l)), fun h nh1 => ?_⟩
    have S2 := S1.trans (same_upd (o := .lst (bs.map fun b => V.ref b.1)) nh1)
    have hh2 : Rws (L2.upd H1 h (.lst (bs.map fun b => V.ref b.1))) h bs := ⟨upd_same, fun b hb => S2 _ _ (hR.t b hb)⟩
    have hp2 := same_upd (o := .lst (bs.map fun b => V.ref b.1)) nh1 _ _ hp1
    generalize L2.upd H1 h (.lst (bs.map fun b => V.ref b.1)) = H2a at S2 hh2 hp2
    refine ⟨p, h, d, bs, rfl, hp2, ld, hh2, .inr ⟨z, fb⟩, fun y => absurd y nh, fun y hy e H2 S22 he => ?_⟩
    obtain rfl := un y hy
    refine ⟨true, ex, fun _ a ha => ?_, fun z => by cases z⟩
    refine ⟨.ref a, rfl, fun oe hz hf => ⟨c1, fI, e, wName, _, false, true, false, false, false, false, false, false, rfl, R.T, hz, hf, he, ks, fun l H3 S3 nl hl => ?_⟩⟩
    have hl : H3 l = some (.lst ([false, true, false, false, false, false, false, false, true].map V.bl)) := hl
    refine ⟨by show 2 ≤ sizeLine; omega, fun A1 n1 => ?_⟩
    have S4 := S3.trans (same_upd (o := .lst [V.bl false, V.bl true]) n1)
    have h1 : L2.upd H3 A1 (.lst [V.bl false, V.bl true]) A1 = some (.lst [V.bl false, V.bl true]) := upd_same
    have hl4 := same_upd (o := .lst [V.bl false, V.bl true]) n1 _ _ hl
    generalize L2.upd H3 A1 (.lst [V.bl false, V.bl true]) = H4 at S4 h1 hl4
    refine ⟨by show 1 ≤ sizeLine; omega, fun A2 n2 => ?_⟩
    have S5 := S4.trans (same_upd (o := .lst [V.bl false]) n2)
    have h2 : L2.upd H4 A2 (.lst [V.bl false]) A2 = some (.lst [V.bl false]) := upd_same
    have h15 := same_upd (o := .lst [V.bl false]) n2 _ _ h1
    have hl5 := same_upd (o := .lst [V.bl false]) n2 _ _ hl4
    generalize L2.upd H4 A2 (.lst [V.bl false]) = H5 at S5 h2 h15 hl5
    refine ⟨A2, _, _, rfl, rfl, h2, by decide, by decide, by show 6 ≤ sizeLine; omega, fun A3 n3 => ?_⟩
    have ef : (List.replicate (Int.toNat 6) [V.bl false]).flatten = List.replicate 6 (V.bl false) := rfl
    rw [ef]
    have S6 := S5.trans (same_upd (o := .lst (List.replicate 6 (V.bl false))) n3)
    have h3 : L2.upd H5 A3 (.lst (List.replicate 6 (V.bl false))) A3 = some (.lst (List.replicate 6 (V.bl false))) := upd_same
    have h16 := same_upd (o := .lst (List.replicate 6 (V.bl false))) n3 _ _ h15
    have hl6 := same_upd (o := .lst (List.replicate 6 (V.bl false))) n3 _ _ hl5
    generalize L2.upd H5 A3 (.lst (List.replicate 6 (V.bl false))) = H6 at S6 h3 h16 hl6
    refine ⟨A1, A3, _, _, rfl, rfl, h16, h3, by show 2 + 6 ≤ sizeLine; omega, fun A4 n4 => ?_⟩
    have S7 := S6.trans (same_upd (o := .lst ([V.bl false, V.bl true] ++ List.replicate 6 (V.bl false))) n4)
    have h4 : L2.upd H6 A4 (.lst ([V.bl false, V.bl true] ++ List.replicate 6 (V.bl false))) A4 = some (.lst ([V.bl false, V.bl true] ++ List.replicate 6 (V.bl false))) := upd_same
    have hl7 := same_upd (o := .lst ([V.bl false, V.bl true] ++ List.replicate 6 (V.bl false))) n4 _ _ hl6
    generalize L2.upd H6 A4 (.lst ([V.bl false, V.bl true] ++ List.replicate 6 (V.bl false))) = H7 at S7 h4 hl7
    refine ⟨by show 1 ≤ sizeLine; omega, fun A5 n5 => ?_⟩
    have S8 := S7.trans (same_upd (o := .lst [V.bl true]) n5)
    have h5 : L2.upd H7 A5 (.lst [V.bl true]) A5 = some (.lst [V.bl true]) := upd_same
    have h48 := same_upd (o := .lst [V.bl true]) n5 _ _ h4
    have hl8 := same_upd (o := .lst [V.bl true]) n5 _ _ hl7
    generalize L2.upd H7 A5 (.lst [V.bl true]) = H8 at S8 h5 h48 hl8
    refine ⟨A4, A5, _, _, rfl, rfl, h48, h5, by show 8 + 1 ≤ sizeLine; omega, fun A6 n6 => ?_⟩
    have S9 := S8.trans (same_upd (o := .lst (([V.bl false, V.bl true] ++ List.replicate 6 (V.bl false)) ++ [V.bl true])) n6)
    have h6 : L2.upd H8 A6 (.lst (([V.bl false, V.bl true] ++ List.replicate 6 (V.bl false)) ++ [V.bl true])) A6 = some (.lst (([V.bl false, V.bl true] ++ List.replicate 6 (V.bl false)) ++ [V.bl true])) := upd_same
    have hl9 := same_upd (o := .lst (([V.bl false, V.bl true] ++ List.replicate 6 (V.bl false)) ++ [V.bl true])) n6 _ _ hl8
    generalize L2.upd H8 A6 (.lst (([V.bl false, V.bl true] ++ List.replicate 6 (V.bl false)) ++ [V.bl true])) = H9 at S9 h6 hl9
    refine same_bls [false, true, false, false, false, false, false, false, true] hl9 h6 rfl ⟨true, rfl, ?_⟩
    refine ⟨.ref a, rfl, rfl, rfl, e, _, .str y, rfl, S9 _ _ he, rfl, .str y, rfl, rfl, ?_⟩
    rw [decide_eq_true rfl]
    exact q _ (S2.trans (S22.trans S9))
end
end Tb
set_option maxHeartbeats 8000000
namespace Tb
open PySem PySem.Spec PyProof.Rows L2
abbrev sLaw : Stmt := topS 40
abbrev NLaw : List Str := ["script", "box", "names", "strange", "postings", "purse", "others", "rows", "part", "spoilt", "name", "first", "later", "number"]
theorem scLaw : FnScope NLaw ["script"] (defScope sLaw) := ⟨rfl, rfl, rfl, by decide +kernel, rfl, by decide +kernel, by decide +kernel⟩
theorem bad_one {d : DN} {rs : List Row3} {y z : Str} (h1 : FirstBad d rs y) (h2 : FirstBad d rs z) : y = z := by
  obtain ⟨i, r, ei, hi, ny, cy⟩ := h1
  obtain ⟨j, x, ej, hj, nz, cz⟩ := h2
  have out : ∀ {i j : Nat} {r : Row3} {y : Str}, rs[i]? = some r → Has d (rs.take j) → y ∉ d.map (·.1) → (r.1 = y ∨ (r.1 ∈ d.map (·.1) ∧ r.2.1 = y)) → ¬ i < j := fun {i j r y} e h n c lt => by
    have m : r ∈ rs.take j := List.mem_of_getElem? (i := i) (by rw [List.getElem?_take_of_lt lt]; exact e)
    rcases c with c | ⟨_, c⟩
    · exact n (c ▸ (h r m).1)
    · exact n (c ▸ (h r m).2)
  have e : i = j := by
    have := out ei hj ny cy
    have := out ej hi nz cz
    omega
  subst e
  rw [ei] at ej
  cases ej
  rcases cy with cy | ⟨m, cy⟩
  · rcases cz with cz | ⟨m2, _⟩
    · exact cy.symm.trans cz
    · rw [cy] at m2; exact absurd m2 ny
  · rcases cz with cz | ⟨_, cz⟩
    · rw [cz] at m; exact absurd m nz
    · exact cy.symm.trans cz
theorem bad_not {d : DN} {rs : List Row3} {z : Str} (h : FirstBad d rs z) : ¬ Has d rs := fun hh => by
  obtain ⟨i, r, ei, _, nz, c⟩ := h
  have := hh r (List.mem_of_getElem? ei)
  rcases c with c | ⟨_, c⟩
  · exact nz (c ▸ this.1)
  · exact nz (c ▸ this.2)
/-- the stem is no name -/
theorem stem_no {ks : List Str} (N : Nms ks) {x : Str} (h : ks[0]? = some x) : x ∉ ks.tail := by
  obtain ⟨stem, pl, is, rfl, nd, lt, l1, l6, hp, hl, n1, n40⟩ := N.ex
  cases h
  intro m
  obtain ⟨i, hi, e⟩ := List.mem_map.mp m
  have hn := num_all i (lt i hi)
  have e1 := congrArg (fun z => (tl z).length) e
  unfold nmS at e1
  simp only [tl_app, List.length_append, tl_hi, tl_lo, List.length_take, List.length_drop] at e1
  have e2 : 1 ≤ (tl (numS i)).length := by rw [← len_tl]; exact hn.2.1
  omega
theorem totN_zero {d : DN} (nd : (d.map (·.1)).Nodup) (h : ∀ k, val d k = 0) : ∀ e ∈ d, e.2 = 0 := fun e he => by rw [← val_mem nd he, h]
theorem Pos.same {ks : List Str} {H H' : Hp} {l : Addr} {bs : List (Addr × Po)} (h : Pos ks H l bs) (s : Same H H') : Pos ks H' l bs := ⟨s _ _ h.l, fun b hb => (h.t b hb).keep fun a xs e => s _ _ e, h.g⟩
theorem Rws.draw {p g : Addr} {n : Nat} {H H' : Hp} {l : Addr} {bs : List (Addr × Row3)} (h : Rws H l bs) (B : Box g n H p) (b : But2 p g H H') (lp : l ≠ p) (lg : l ≠ g) : Rws H' l bs := ⟨b _ _ h.l lp lg, fun x hx => pg_keep B b _ _ (h.t x hx)⟩
section
variable {P : Program} {w : World} {K : PySem.W.Frag} {mg : Str → Option Value} {base : Heap}
abbrev CLBox (P : Program) (w : World) (K : PySem.W.Frag) (mg : Str → Option Value) (base : Heap) (g : Addr) (gd : FuncData) := C1 P w K mg base "_law_box" sLBox ["script"] 1 (spLBox K) g gd
abbrev CNames (P : Program) (w : World) (K : PySem.W.Frag) (mg : Str → Option Value) (base : Heap) (g : Addr) (gd : FuncData) := C1 P w K mg base "_law_names" sNames ["box"] 2 spNames g gd
abbrev CPosts (P : Program) (w : World) (K : PySem.W.Frag) (mg : Str → Option Value) (base : Heap) (g : Addr) (gd : FuncData) := C1 P w K mg base "_law_postings" sPosts ["box", "names"] 3 spPosts g gd
abbrev CSumsH (P : Program) (w : World) (K : PySem.W.Frag) (mg : Str → Option Value) (base : Heap) (g : Addr) (gd : FuncData) := C1 P w K mg base "_law_sums_hold" sSumsH ["postings", "strange"] 3 spSumsH g gd
abbrev CHousePH (P : Program) (w : World) (K : PySem.W.Frag) (mg : Str → Option Value) (base : Heap) (g : Addr) (gd : FuncData) := C1 P w K mg base "_law_house_part_holds" sHousePH ["postings"] 2 spHousePH g gd
abbrev CPurse (P : Program) (w : World) (K : PySem.W.Frag) (mg : Str → Option Value) (base : Heap) (g : Addr) (gd : FuncData) := C1 P w K mg base "_law_purse" sPurse ["box", "names", "postings"] 3 spPurse g gd
abbrev COthers (P : Program) (w : World) (K : PySem.W.Frag) (mg : Str → Option Value) (base : Heap) (g : Addr) (gd : FuncData) := C1 P w K mg base "_law_others" sOthers ["box", "purse"] 3 spOthers g gd
abbrev CPaid (P : Program) (w : World) (K : PySem.W.Frag) (mg : Str → Option Value) (base : Heap) (g : Addr) (gd : FuncData) := C1 P w K mg base "_law_paid" sPaid ["purse", "others"] 4 spPaid g gd
abbrev CSettles (P : Program) (w : World) (K : PySem.W.Frag) (mg : Str → Option Value) (base : Heap) (g : Addr) (gd : FuncData) := C1 P w K mg base "_law_settles" sSettles ["purse", "rows"] 4 spSettles g gd
abbrev CRefS (P : Program) (w : World) (K : PySem.W.Frag) (mg : Str → Option Value) (base : Heap) (g : Addr) (gd : FuncData) := C1 P w K mg base "_law_refused_sum" sRefS ["purse"] 4 spRefS g gd
abbrev CRefN (P : Program) (w : World) (K : PySem.W.Frag) (mg : Str → Option Value) (base : Heap) (g : Addr) (gd : FuncData) := C1 P w K mg base "_law_refused_name" sRefN ["purse", "rows", "name"] 4 spRefN g gd
def spLaw (K : PySem.W.Frag) : Sp := fun vs H Q _ => ∃ (a : Addr) (ns : List Int), vs = [.ref a] ∧ SqL K H a (ns.map V.int) ∧ ∀ H', Q (.bl true) H'
theorem ok_law {f g1 g2 g3 g4 g5 g6 g7 g8 g9 g10 g11 g12 g13 g14 g15 g16 g17 g18 g19 CI CU : Addr} {fd gd1 gd2 gd3 gd4 gd5 gd6 gd7 gd8 gd9 gd10 gd11 gd12 gd13 gd14 gd15 gd16 gd17 gd18 gd19 : FuncData} (F : Fun K "law" "law" sLaw f fd) (cLBox : CLBox P w K mg base g1 gd1) (cNames : CNames P w K mg base g2 gd2) (cDraw : CDraw P w K mg base g3 gd3) (cCents : CCents P w K mg base g4 gd4) (cPosts : CPosts P w K mg base g5 gd5) (cSumsH : CSumsH P w K mg base g6 gd6) (cHousePH : CHousePH P w K mg base g7 gd7) (cPurse : CPurse P w K mg base g8 gd8) (cOthers : COthers P w K mg base g9 gd9) (cPaid : CPaid P w K mg base g10 gd10) (cRule : CRule P w K mg base g11 gd11) (cSettles : CSettles P w K mg base g12 gd12) (cForm : CForm P w K mg base g13 gd13) (cPay : CPay P w K mg base CI g14 gd14) (cSettled : CSettled P w K mg base CU g15 gd15) (cSameN : CSameN P w K mg base g16 gd16) (cAfter : CAfter P w K mg base g17 gd17) (cRefS : CRefS P w K mg base g18 gd18) (cRefN : CRefN P w K mg base g19 gd19) (B : Blt mg) : FnOk P w K mg base CX0 5 f fd ["script"] (spLaw K) := by
  refine F.ok scLaw (fun vs H Q E h => ?_) (fun cdv A outer s H vs Q E hr h => ?_)
  · obtain ⟨a, ns, rfl, _⟩ := h
    rfl
  · obtain ⟨a, ns, rfl, hS, q⟩ := h
    have hu := hu_of hr
    have hz : sizeLine = 16777216 := rfl
    refine ⟨_, (pss_cons (ps_set (i := 1) scLaw.nd rfl (.inl rfl) (pe_call cLBox.G (hr.mono (by first | decide | omega)) (by rfl) cLBox.D.g cLBox.D.F.kp cLBox.D.b .nil pass0 (pa_cons (pv 0) pa_nil)))
      (pss_cons (ps_set (i := 2) scLaw.nd rfl (.inl rfl) (pe_call cNames.G (hr.mono (by first | decide | omega)) (by rfl) cNames.D.g cNames.D.F.kp cNames.D.b .nil pass0 (pa_cons (pv 1) pa_nil)))
      (pss_cons (ps_set (i := 3) scLaw.nd rfl (.inl rfl) (pe_tup (pa_cons (pe_ix ix_list (pe_lst (pa_cons pe_str (pa_cons pe_str (pa_cons pe_str pa_nil)))) (pe_call cDraw.G (hr.mono (by first | decide | omega)) (by rfl) cDraw.D.g cDraw.D.F.kp cDraw.D.b .nil pass0 (pa_cons (pv 1) (pa_cons pe_int pa_nil))) (fun _ _ => rfl)) (pa_cons (pe_ix ix_list (pv 2) pe_int (fun _ _ => rfl)) pa_nil))))
      (pss_cons (ps_set (i := 4) scLaw.nd rfl (.inl rfl) (pe_call cPosts.G (hr.mono (by first | decide | omega)) (by rfl) cPosts.D.g cPosts.D.F.kp cPosts.D.b .nil pass0 (pa_cons (pv 1) (pa_cons (pv 2) pa_nil))))
      (pss_cons (ps_if (PW.pt (pw_or (pt_not (pt_val (pe_call cSumsH.G (hr.mono (by first | decide | omega)) (by rfl) cSumsH.D.g cSumsH.D.F.kp cSumsH.D.b .nil pass0 (pa_cons (pv 4) (pa_cons (pv 3) pa_nil))))) (pw_or1 (pt_not (pt_val (pe_call cHousePH.G (hr.mono (by first | decide | omega)) (by rfl) cHousePH.D.g cHousePH.D.F.kp cHousePH.D.b .nil pass0 (pa_cons (pv 4) pa_nil)))))))
        (pss_one (ps_ret pe_bl))
        pss_nil)
      (pss_cons (ps_set (i := 5) scLaw.nd rfl (.inl rfl) (pe_call cPurse.G (hr.mono (by first | decide | omega)) (by rfl) cPurse.D.g cPurse.D.F.kp cPurse.D.b .nil pass0 (pa_cons (pv 1) (pa_cons (pv 2) (pa_cons (pv 4) pa_nil)))))
      (pss_cons (ps_set (i := 6) scLaw.nd rfl (.inl rfl) (pe_call cOthers.G (hr.mono (by first | decide | omega)) (by rfl) cOthers.D.g cOthers.D.F.kp cOthers.D.b .nil pass0 (pa_cons (pv 1) (pa_cons (pv 5) pa_nil))))
      (pss_cons (ps_if (pt_not (pt_val (pe_call cPaid.G (hr.mono (by first | decide | omega)) (by rfl) cPaid.D.g cPaid.D.F.kp cPaid.D.b .nil pass0 (pa_cons (pv 5) (pa_cons (pv 6) pa_nil)))))
        (pss_one (ps_ret pe_bl))
        pss_nil)
      (pss_cons (ps_set (i := 7) scLaw.nd rfl (.inl rfl) (pe_call cRule.G (hr.mono (by first | decide | omega)) (by rfl) cRule.D.g cRule.D.F.kp cRule.D.b .nil pass0 (pa_cons (pv 5) pa_nil)))
      (pss_cons (ps_set (i := 8) scLaw.nd rfl (.inl rfl) (pe_slice sl_list (pv 7) po_none (po_some (pe_call cDraw.G (hr.mono (by first | decide | omega)) (by rfl) cDraw.D.g cDraw.D.F.kp cDraw.D.b .nil pass0 (pa_cons (pv 1) (pa_cons (pe_op op_add (pe_callB call_len_seq (by rfl) B.len PySem.boot_len (pa_cons (pv 7) pa_nil)) pe_int) pa_nil))))))
      (pss_cons (ps_if (PW.pt (pw_or (pt_not (pt_val (pe_call cSettles.G (hr.mono (by first | decide | omega)) (by rfl) cSettles.D.g cSettles.D.F.kp cSettles.D.b .nil pass0 (pa_cons (pv 5) (pa_cons (pv 7) pa_nil))))) (pw_or (pt_not (pt_val (pe_call cSettles.G (hr.mono (by first | decide | omega)) (by rfl) cSettles.D.g cSettles.D.F.kp cSettles.D.b .nil pass0 (pa_cons (pv 5) (pa_cons (pv 6) pa_nil))))) (pw_or1 (pt_not (pt_val (pe_call cSettles.G (hr.mono (by first | decide | omega)) (by rfl) cSettles.D.g cSettles.D.F.kp cSettles.D.b .nil pass0 (pa_cons (pv 5) (pa_cons (pv 8) pa_nil)))))))))
        (pss_one (ps_ret pe_bl))
        pss_nil)
      (pss_cons (ps_if (PW.pt (pw_or (pt_not (pt_val (pe_call cForm.G (hr.mono (by first | decide | omega)) (by rfl) cForm.D.g cForm.D.F.kp cForm.D.b .nil pass0 (pa_cons (pe_callS cPay.G (hr.mono (by first | decide | omega)) (by rfl) cPay.D.g cPay.D.F.kp cPay.D.b (fun _ => passE0) (pa_cons pe_dnewK pa_nil)) pa_nil)))) (pw_or (pt_cmpR op_gt (pe_callB call_len_seq (by rfl) B.len PySem.boot_len (pa_cons (pe_callS cPay.G (hr.mono (by first | decide | omega)) (by rfl) cPay.D.g cPay.D.F.kp cPay.D.b (fun _ => passE0) (pa_cons pe_dnewK pa_nil)) pa_nil)) pe_int (nomark _)) (pw_or1 (pt_not (pt_val (pe_call cSameN.G (hr.mono (by first | decide | omega)) (by rfl) cSameN.D.g cSameN.D.F.kp cSameN.D.b .nil pass0 (pa_cons (pe_callS cSettled.G (hr.mono (by first | decide | omega)) (by rfl) cSettled.D.g cSettled.D.F.kp cSettled.D.b (fun _ => passE0) (pa_cons pe_dnewK (pa_cons (pe_lst pa_nil) pa_nil))) (pa_cons pe_dnewK pa_nil)))))))))
        (pss_one (ps_ret pe_bl))
        pss_nil)
      (pss_cons (ps_if (pt_cmpR op_ne (pe_callB (cr_max rfl) (by rfl) B.max (by decide +kernel) (pa_cons (pe_lc (own := [("number", 13)]) (g := gName 13) (by rfl) scLaw.nd (pi_list (pe_listValues rfl (pe_call cAfter.G (hr.mono (by first | decide | omega)) (by rfl) cAfter.D.g cAfter.D.F.kp cAfter.D.b .nil pass0 (pa_cons (pv 5) (pa_cons (pv 6) pa_nil))) (by rfl) B.list PyProof.Rows.boot_list)) (blkOk_by (N := NLaw) (sc := defScope sLaw) (by decide +kernel)) (fun _ _ _ _ _ => pg_name (i := 13) scLaw.nd rfl (Or.inl rfl)) (fun _ _ _ _ _ => pts_nil) (fun _ _ _ _ _ => pe_callB call_abs (by rfl) B.abs (by decide +kernel) (pa_cons (pv 13) pa_nil))) pa_nil)) pe_int (nomark _))
        (pss_one (ps_ret pe_bl))
        pss_nil)
      (pss_cons (ps_set (i := 9) scLaw.nd rfl (.inl rfl) (pe_callTy call_dictD (by rfl) B.dict PyProof.Rows.boot_dict (pa_cons (pv 5) pa_nil)))
      (pss_cons (ps_set (i := 10) scLaw.nd rfl (.inl rfl) (pe_ix ix_list (pv 2) (pe_op op_add pe_int (pe_call cDraw.G (hr.mono (by first | decide | omega)) (by rfl) cDraw.D.g cDraw.D.F.kp cDraw.D.b .nil pass0 (pa_cons (pv 1) (pa_cons (pe_op op_sub (pe_callB call_len_seq (by rfl) B.len PySem.boot_len (pa_cons (pv 2) pa_nil)) pe_int) pa_nil)))) (fun _ _ => rfl)))
      (pss_cons (ps_dput hu (pv 9) (pv 10) (pe_op op_add (pe_dget hu (pv 9) (pv 10) (fun _ _ => rfl)) (pe_op op_mul (pe_ix ix_list (pe_lst (pa_cons pe_int (pa_cons (pe_un un_neg pe_int) pa_nil))) (pe_call cDraw.G (hr.mono (by first | decide | omega)) (by rfl) cDraw.D.g cDraw.D.F.kp cDraw.D.b .nil pass0 (pa_cons (pv 1) (pa_cons pe_int pa_nil))) (fun _ _ => rfl)) (pe_call cCents.G (hr.mono (by first | decide | omega)) (by rfl) cCents.D.g cCents.D.F.kp cCents.D.b .nil pass0 (pa_cons (pv 1) pa_nil)))) (by rfl))
      (pss_cons (ps_if (PW.pt (pw_or (pt_not (pt_val (pe_call cRefS.G (hr.mono (by first | decide | omega)) (by rfl) cRefS.D.g cRefS.D.F.kp cRefS.D.b .nil pass0 (pa_cons (pv 9) pa_nil)))) (pw_or1 (pt_not (pt_val (pe_call cPaid.G (hr.mono (by first | decide | omega)) (by rfl) cPaid.D.g cPaid.D.F.kp cPaid.D.b .nil pass0 (pa_cons (pv 5) (pa_cons (pv 6) pa_nil))))))))
        (pss_one (ps_ret pe_bl))
        pss_nil)
      (pss_cons (ps_set (i := 11) scLaw.nd rfl (.inl rfl) (pe_ix ix_list (pe_lst (pa_cons (pe_tup (pa_cons (pe_ix ix_list (pv 2) pe_int (fun _ _ => rfl)) (pa_cons (pv 10) (pa_cons pe_int pa_nil)))) (pa_cons (pe_tup (pa_cons (pv 10) (pa_cons (pe_ix ix_list (pv 2) pe_int (fun _ _ => rfl)) (pa_cons pe_int pa_nil)))) (pa_cons (pe_tup (pa_cons (pe_ix ix_list (pv 2) pe_int (fun _ _ => rfl)) (pa_cons (pe_op op_add_str (pe_ix ix_list (pv 2) pe_int (fun _ _ => rfl)) pe_str) (pa_cons pe_int pa_nil)))) pa_nil)))) (pe_call cDraw.G (hr.mono (by first | decide | omega)) (by rfl) cDraw.D.g cDraw.D.F.kp cDraw.D.b .nil pass0 (pa_cons (pv 1) (pa_cons pe_int pa_nil))) (fun _ _ => rfl)))
      (pss_cons (ps_set (i := 12) scLaw.nd rfl (.inl rfl) (pe_ix ix_list (pe_lst (pa_cons (pe_tup (pa_cons (pv 10) (pa_cons (pe_op op_add_str (pe_ix ix_list (pv 2) pe_int (fun _ _ => rfl)) pe_str) (pa_cons pe_int pa_nil)))) (pa_cons (pe_tup (pa_cons (pe_op op_add_str (pe_ix ix_list (pv 2) pe_int (fun _ _ => rfl)) pe_str) (pa_cons (pv 10) (pa_cons pe_int pa_nil)))) pa_nil))) (pe_call cDraw.G (hr.mono (by first | decide | omega)) (by rfl) cDraw.D.g cDraw.D.F.kp cDraw.D.b .nil pass0 (pa_cons (pv 1) (pa_cons pe_int pa_nil))) (fun _ _ => rfl)))
      (pss_one (ps_ret (pe_call cRefN.G (hr.mono (by first | decide | omega)) (by rfl) cRefN.D.g cRefN.D.F.kp cRefN.D.b .nil pass0 (pa_cons (pv 5) (pa_cons (pe_op op_cat (pe_op op_cat (pv 6) (pe_lst (pa_cons (pv 11) (pa_cons (pv 12) pa_nil)))) (pv 7)) (pa_cons (pe_ix ix_list (pv 2) pe_int (fun _ _ => rfl)) pa_nil))))))))))))))))))))))))), ?_⟩
    refine ⟨.ref a, rfl, a, ns, rfl, hS, fun p g H1 np ng B1 S1 => ?_⟩
    refine ⟨.ref p, rfl, p, g, 0, rfl, B1, by decide, fun l ks H2 hN hL nl B2 b2 => ?_⟩
    obtain ⟨lp, lg⟩ := B1.off nl
    obtain ⟨k2, k41⟩ : 2 ≤ ks.length ∧ ks.length ≤ 41 := by
      obtain ⟨stem, pl, is, rfl, _, _, _, _, _, _, n1, n40⟩ := hN.ex
      rw [List.length_cons, List.length_map]
      omega
    have lk : (ks.map V.str).length = ks.length := List.length_map _
    obtain ⟨stem, e0⟩ : ∃ z, ks[0]? = some z := ⟨_, List.getElem?_eq_getElem (by omega)⟩
    have v0 : (ks.map V.str)[0]? = some (.str stem) := by rw [List.getElem?_map, e0]; rfl
    have ns0 := stem_no hN e0
    have sgk := nms_sg hN
    have sg0 := sgk stem (List.mem_of_getElem? e0)
    -- strange
    refine ⟨by show 3 ≤ sizeLine; omega, fun W nW => ?_⟩
    have SW := same_upd (o := .lst ((["house", "sender", "land"] : List Str).map V.str)) nW
    obtain ⟨Wp, Wg⟩ := B2.off nW
    refine ⟨.ref p, rfl, p, g, 3, 60, rfl, (B2.same SW).mono (by omega), by decide, by decide, by decide, fun v H3 v0' v1 B3 b3 => ?_⟩
    have hW3 := b3 W _ upd_same Wp Wg
    have hL3 := b3 _ _ (SW _ _ hL) lp lg
    have lv : v.toNat < (["house", "sender", "land"] : List Str).length := by show v.toNat < 3; omega
    refine ⟨W, _, v.toNat, .str (["house", "sender", "land"] : List Str)[v.toNat], rfl, congrArg V.int (show v = (v.toNat : Int) by omega), sqOf hW3, atI_nat (strs_at lv), ?_⟩
    refine ⟨.ref l, rfl, l, _, 0, .str stem, rfl, rfl, sqOf hL3, atI_nat (j := 0) v0, by show 2 ≤ sizeLine; omega, fun T nT => ?_⟩
    have ST := same_upd (o := .tup [V.str (["house", "sender", "land"] : List Str)[v.toNat], V.str stem]) nT
    have hT4 : L2.upd H3 T (.tup [V.str (["house", "sender", "land"] : List Str)[v.toNat], V.str stem]) T = some (.tup [V.str (["house", "sender", "land"] : List Str)[v.toNat], V.str stem]) := upd_same
    have B4 := B3.same ST
    have hL4 := ST _ _ hL3
    generalize L2.upd H3 T (.tup [V.str (["house", "sender", "land"] : List Str)[v.toNat], V.str stem]) = H4 at hT4 B4 hL4
    have kk : KindOk (["house", "sender", "land"] : List Str)[v.toNat] := by
      have : (["house", "sender", "land"] : List Str)[v.toNat] ∈ (["house", "sender", "land"] : List Str) := List.getElem_mem lv
      simp only [List.mem_cons, List.not_mem_nil, or_false] at this
      exact this
    generalize (["house", "sender", "land"] : List Str)[v.toNat] = kind at hT4 kk
    refine ⟨.ref p, rfl, .ref l, rfl, p, g, l, 61, ks, rfl, B4.mono (by omega), by decide, hN, hL4, lp, lg, fun po bs H5 hP lb npo B5 b5 => ?_⟩
    obtain ⟨pop, pog⟩ := B4.off npo
    have hT5 := pg_keep B4 b5 _ _ hT4
    have hL5 := b5 _ _ hL4 lp lg
    refine ⟨.ref po, rfl, .ref T, rfl, po, T, ks, bs, (kind, stem), rfl, hN, hP, lb, hT5, ⟨kind_sg kk, sg0⟩, fun H6 S6 => ⟨true, rfl, ?_⟩⟩
    refine ⟨.ref po, rfl, po, ks, bs, rfl, hN, hP.same S6, lb, fun H7 S7 => ⟨true, rfl, ?_⟩⟩
    have S57 := S6.trans S7
    refine ⟨.ref p, rfl, .ref l, rfl, .ref po, rfl, p, g, l, po, 761, ks, bs, rfl, (B5.same S57).mono (by omega), by decide, hN, S57 _ _ hL5, lp, lg, hP.same S57, lb, fun r d H8 hPu hr8 nr B8 b8 => ?_⟩
    obtain ⟨rp, rg⟩ := (B5.same S57).off nr
    have hL8 := b8 _ _ (S57 _ _ hL5) lp lg
    have he := hPu.e
    have ld : d.length = ks.length - 1 := by
      have := hPu.p.length_eq
      rwa [List.length_map, List.length_tail] at this
    have sgd : ∀ k ∈ d.map (·.1), Sg k := fun k hk => sgk k (List.mem_of_mem_tail (hPu.p.mem_iff.mp hk))
    refine ⟨.ref p, rfl, .ref r, rfl, p, g, r, 961, d, rfl, B8, by decide, hr8, rp, rg, he, by omega, by omega, fun o bo H9 hO oth lo no B9 b9 => ?_⟩
    obtain ⟨op, og⟩ := B8.off no
    have hL9 := b9 _ _ hL8 lp lg
    have hr9 := b9 _ _ hr8 rp rg
    refine ⟨.ref r, rfl, .ref o, rfl, r, o, d, bo, rfl, hr9, he, by omega, sgd, hO, oth.ge, by omega, fun H10 S10 => ⟨true, rfl, ?_⟩⟩
    have B10 := B9.same S10
    have hL10 := S10 _ _ hL9
    have hr10 := S10 _ _ hr9
    have hO10 := hO.same S10
    refine ⟨.ref r, rfl, r, d, rfl, hr10, he.nd, by omega, fun t bt H11 S11 nt hT et => ?_⟩
    obtain ⟨tp, tg⟩ := B10.off nt
    have B11 := B10.same S11
    have hL11 := S11 _ _ hL10
    have hr11 := S11 _ _ hr10
    have hO11 := hO10.same S11
    have rr := rule_rows d
    have lt : bt.length ≤ 40 := by
      have h1 := rule_len he
      have h2 : (uneven d).length ≤ d.length := List.length_filter_le _ _
      rw [← et] at h1
      rcases h1 with ⟨h1, _⟩ | ⟨_, h1⟩
      · have := congrArg List.length h1
        rw [List.length_map] at this
        rw [this]; decide
      · rw [List.length_map] at h1; omega
    have lbt : (bt.map fun b => V.ref b.1).length = bt.length := List.length_map _
    refine ⟨.ref t, rfl, .ref p, rfl, .ref t, rfl, t, _, rfl, .inl (sqOf hT.l), _, 1, rfl, rfl, p, g, (bt.length : Int) + 1, 991, congrArg (fun (x : Nat) => [V.ref p, V.int ((x : Int) + 1)]) lbt, B11, by decide, by omega, by omega, fun z H12 z0 z1 B12 b12 => ?_⟩
    have hT12 := hT.draw B11 b12 tp tg
    have hO12 := hO11.draw B11 b12 op og
    have hL12 := b12 _ _ hL11 lp lg
    have hr12 := b12 _ _ hr11 rp rg
    refine ⟨z, rfl, t, _, rfl, sqOf hT12.l, fun pt npt => ?_⟩
    rw [show z = ((z.toNat : Nat) : Int) by omega, cut_hi]
    have SP := same_upd (o := .lst ((bt.map fun b => V.ref b.1).take z.toNat)) npt
    have hP13 : Rws (L2.upd H12 pt (.lst ((bt.map fun b => V.ref b.1).take z.toNat))) pt (bt.take z.toNat) := ⟨by rw [upd_same, List.map_take], fun b hb => SP _ _ (hT12.t b (List.mem_of_mem_take hb))⟩
    obtain ⟨B13, hT13, hO13, hL13, hr13⟩ : Box g 992 (L2.upd H12 pt (.lst ((bt.map fun b => V.ref b.1).take z.toNat))) p ∧ Rws (L2.upd H12 pt (.lst ((bt.map fun b => V.ref b.1).take z.toNat))) t bt ∧ Rws (L2.upd H12 pt (.lst ((bt.map fun b => V.ref b.1).take z.toNat))) o bo ∧ (L2.upd H12 pt (.lst ((bt.map fun b => V.ref b.1).take z.toNat))) l = some (.lst (ks.map V.str)) ∧ (L2.upd H12 pt (.lst ((bt.map fun b => V.ref b.1).take z.toNat))) r = some (.dK (kvN d)) := ⟨B12.same SP, hT12.same SP, hO12.same SP, SP _ _ hL12, SP _ _ hr12⟩
    generalize L2.upd H12 pt (.lst ((bt.map fun b => V.ref b.1).take z.toNat)) = H13 at hP13 B13 hT13 hO13 hL13 hr13
    have hasT : Has d (bt.map (·.2)) := by rw [et]; exact rule_has d
    have hasP : Has d ((bt.take z.toNat).map (·.2)) := by rw [List.map_take]; exact has_take hasT _
    refine ⟨.ref r, rfl, .ref t, rfl, r, t, d, bt, rfl, hr13, he.nd, by omega, sgd, hT13, hasT, fun H14 S14 => ⟨true, rfl, ?_⟩⟩
    refine ⟨.ref r, rfl, .ref o, rfl, r, o, d, bo, rfl, S14 _ _ hr13, he.nd, by omega, sgd, hO13.same S14, oth.has, fun H15 S15 => ⟨true, rfl, ?_⟩⟩
    have S35 := S14.trans S15
    refine ⟨.ref r, rfl, .ref pt, rfl, r, pt, d, _, rfl, S35 _ _ hr13, he.nd, by omega, sgd, hP13.same S35, hasP, fun H16 S16 => ⟨true, rfl, ?_⟩⟩
    have S36 := S35.trans S16
    -- no balances at all
    have e0n : ruleN [] = [] := by
      unfold ruleN
      rw [show owing [] = [] by simp [owing, srtN, ksN], settle_nil1]
    intro D1 nD1
    have SD1 := same_upd (o := .dK []) nD1
    refine ⟨D1, [], rfl, upd_same, List.nodup_nil, Nat.zero_le _, fun _ t1 b1 H17 S17 nt1 hR1 e1 => ⟨t1, b1, rfl, hR1, true, rfl, ?_⟩, fun h => absurd rfl h⟩
    have S37 := S36.trans (SD1.trans S17)
    intro D2 nD2
    have SD2 := same_upd (o := .dK []) nD2
    refine ⟨D2, [], rfl, upd_same, List.nodup_nil, Nat.zero_le _, fun _ t2 b2' H18 S18 nt2 hR2 e2 => ⟨t2, _, rfl, .inl (sqOf hR2.l), _, _, rfl, rfl, _, rfl, ite2 (fun c => ?_) (fun _ => ?_)⟩, fun h => absurd rfl h⟩
    · rw [e0n] at e2
      have : b2' = [] := List.map_eq_nil_iff.mp e2
      rw [this] at c
      exact absurd (of_decide_eq_true c) (by decide)
    have S38 := S37.trans (SD2.trans S18)
    intro D3 nD3
    have SD3 := same_upd (o := .dK []) nD3
    refine ⟨by show 0 ≤ sizeLine; omega, fun L0 nL0 => ?_⟩
    have SL0 := same_upd (o := .lst []) nL0
    refine ⟨D3, L0, [], [], rfl, SL0 _ _ upd_same, Nat.zero_le _, ⟨upd_same, fun _ h => by cases h⟩, .inl (fun _ h => by cases h), fun _ t3 H19 S19 nt3 ht3 => ?_, fun y hy => absurd (fun _ h => by cases h) (bad_not hy)⟩
    have S39 := S38.trans ((SD3.trans SL0).trans S19)
    intro D4 nD4
    have SD4 := same_upd (o := .dK []) nD4
    refine ⟨t3, D4, rfl, fun z => by (rw [z, nD4] at ht3; cases ht3), .inr ⟨[], [], SD4 _ _ ht3, upd_same, rfl, fun _ h => by cases h⟩, fun H20 S20 => ⟨true, rfl, ?_⟩⟩
    have S30 := S39.trans (SD4.trans S20)
    obtain ⟨B20, hT20, hO20, hL20, hr20⟩ : Box g 992 H20 p ∧ Rws H20 t bt ∧ Rws H20 o bo ∧ H20 l = some (.lst (ks.map V.str)) ∧ H20 r = some (.dK (kvN d)) := ⟨B13.same S30, hT13.same S30, hO13.same S30, S30 _ _ hL13, S30 _ _ hr13⟩
    clear S30 S39 S38 S37 S36 S35 SD1 SD2 SD3 SD4 SL0 S14 S15 S16 S17 S18 S19 S20
    -- the others leave nothing
    refine ⟨.ref r, rfl, .ref o, rfl, r, o, d, bo, rfl, hr20, he.nd, by omega, hO20, oth.has, fun u H21 S21 nu hu21 => ⟨u, _, rfl, hu21, fun vl nvl => ?_⟩⟩
    have hz0 : ∀ e ∈ after d (bo.map (·.2)), e.2 = 0 := totN_zero (nd_after _ he.nd) oth.zero
    have lda := after_len oth.has
    rw [kvN_vals]
    have S22 := S21.trans (same_upd (o := .lst (((after d (bo.map (·.2))).map (·.2)).map V.int)) nvl)
    have hv22 : L2.upd H21 vl (.lst (((after d (bo.map (·.2))).map (·.2)).map V.int)) vl = some (.lst (((after d (bo.map (·.2))).map (·.2)).map V.int)) := upd_same
    generalize L2.upd H21 vl (.lst (((after d (bo.map (·.2))).map (·.2)).map V.int)) = H22 at S22 hv22
    generalize after d (bo.map (·.2)) = da at hv22 hz0 lda
    refine ⟨vl, rfl, ⟨_, sqOf hv22⟩, fun C nC => ?_⟩
    refine lc_it (walk_list (a := vl) (xs := (da.map (·.2)).map V.int)) (fun i H' => Same H22 H' ∧ H' C = some (.lst ((((da.map (·.2)).take i).map absI).map V.int))) ⟨same_upd nC, upd_same⟩ (fun i H' _ hP => sqOf (hP.1 _ _ hv22)) (fun i v H' H'' hi hP hy => ?_) (fun H23 hP => ?_)
    · obtain ⟨S', hT⟩ := hP
      obtain ⟨rfl, ev⟩ := hy
      rw [List.getElem?_map] at ev
      obtain ⟨x, ex, rfl⟩ := Option.map_eq_some_iff.mp ev
      rw [List.length_map, List.length_map] at hi
      refine ⟨rfl, .int x, rfl, x, rfl, _, hT, ?_, fun c o hc => ?_, ?_⟩
      · rw [List.length_map, List.length_map, List.length_take, List.length_map]; omega
      · rw [upd_ne (ne_of_none hc nC)]; exact S' _ _ hc
      · rw [upd_same, take_at ex, List.map_append, List.map_append]; rfl
    obtain ⟨S23, hC⟩ := hP
    rw [List.length_map, List.take_length] at hC
    refine ⟨C, _, rfl, sqOf hC, by rw [List.length_map, List.length_map]; omega, fun m hm _ => ?_⟩
    have m0 : m = 0 := by
      obtain ⟨x, hx, rfl⟩ := List.mem_map.mp hm
      obtain ⟨e, he', rfl⟩ := List.mem_map.mp hx
      rw [hz0 e he']; rfl
    rw [m0]
    refine ⟨rfl, _, rfl, ite2 (fun c => absurd c (by rw [decide_eq_true rfl]; decide)) (fun _ => ?_)⟩
    have S20' := S22.trans S23
    obtain ⟨B23, hT23, hO23, hL23, hr23⟩ : Box g 992 H23 p ∧ Rws H23 t bt ∧ Rws H23 o bo ∧ H23 l = some (.lst (ks.map V.str)) ∧ H23 r = some (.dK (kvN d)) := ⟨B20.same S20', hT20.same S20', hO20.same S20', S20' _ _ hL20, S20' _ _ hr20⟩
    clear S20' S22 S23 S21
    -- a dict that does not sum to 0
    refine ⟨.ref r, rfl, r, _, rfl, .of hr23, fun sp nsp => ?_⟩
    have SS := same_upd (o := .dK (kvN d)) nsp
    have hs24 : L2.upd H23 sp (.dK (kvN d)) sp = some (.dK (kvN d)) := upd_same
    obtain ⟨spp, spg⟩ := B23.off nsp
    obtain ⟨B24, hT24, hO24, hL24, hr24⟩ : Box g 992 (L2.upd H23 sp (.dK (kvN d))) p ∧ Rws (L2.upd H23 sp (.dK (kvN d))) t bt ∧ Rws (L2.upd H23 sp (.dK (kvN d))) o bo ∧ (L2.upd H23 sp (.dK (kvN d))) l = some (.lst (ks.map V.str)) ∧ (L2.upd H23 sp (.dK (kvN d))) r = some (.dK (kvN d)) := ⟨B23.same SS, hT23.same SS, hO23.same SS, SS _ _ hL23, SS _ _ hr23⟩
    have spr : sp ≠ r := fun z => by rw [z, hr23] at nsp; cases nsp
    have spl : sp ≠ l := fun z => by rw [z, hL23] at nsp; cases nsp
    have spt : sp ≠ t := fun z => by rw [z, hT23.l] at nsp; cases nsp
    have spo : sp ≠ o := fun z => by rw [z, hO23.l] at nsp; cases nsp
    generalize L2.upd H23 sp (.dK (kvN d)) = H24 at hs24 B24 hT24 hO24 hL24 hr24
    refine ⟨.ref l, rfl, .ref p, rfl, .ref l, rfl, l, _, rfl, .inl (sqOf hL24), _, 1, rfl, rfl, p, g, (ks.length : Int) - 1, 992, by rw [lk]; rfl, B24, by decide, by omega, by omega, fun y H25 y0 y1 B25 b25 => ?_⟩
    have ly : (1 + y).toNat < ks.length := by omega
    refine ⟨1, y, rfl, rfl, l, _, (1 + y).toNat, .str ks[(1 + y).toNat], rfl, congrArg V.int (show 1 + y = ((1 + y).toNat : Int) by omega), sqOf (b25 l _ hL24 lp lg), atI_nat (strs_at ly), ?_⟩
    have mk : ks[(1 + y).toNat] ∈ ks.tail := by
      have e : ks[(1 + y).toNat] = ks.tail[y.toNat]'(by rw [List.length_tail]; omega) := by
        rw [List.getElem_tail]
        congr 1
        omega
      rw [e]
      exact List.getElem_mem _
    generalize ks[(1 + y).toNat] = nm at mk
    have mn : nm ∈ d.map (·.1) := hPu.p.mem_iff.mpr mk
    obtain ⟨hs25, hT25, hO25, hL25, hr25⟩ : H25 sp = some (.dK (kvN d)) ∧ Rws H25 t bt ∧ Rws H25 o bo ∧ H25 l = some (.lst (ks.map V.str)) ∧ H25 r = some (.dK (kvN d)) := ⟨b25 _ _ hs24 spp spg, hT24.draw B24 b25 tp tg, hO24.draw B24 b25 op og, b25 _ _ hL24 lp lg, b25 _ _ hr24 rp rg⟩
    refine ⟨.ref sp, rfl, .str nm, rfl, sp, _, rfl, dg_N (.of hs25) mn, 1, rfl, by show 2 ≤ sizeLine; omega, fun W2 nW2 => ?_⟩
    have SW2 := same_upd (o := .lst [V.int 1, V.int (-1)]) nW2
    obtain ⟨W2p, W2g⟩ := B25.off nW2
    refine ⟨.ref p, rfl, p, g, 2, 993, rfl, B25.same SW2, by decide, by decide, by decide, fun v2 H26 v20 v21 B26 b26 => ?_⟩
    obtain ⟨x, hx, x0⟩ : ∃ x : Int, [V.int 1, V.int (-1)][v2.toNat]? = some (.int x) ∧ (x = 1 ∨ x = -1) := by
      rcases (show v2 = 0 ∨ v2 = 1 by omega) with rfl | rfl
      · exact ⟨1, rfl, .inl rfl⟩
      · exact ⟨-1, rfl, .inr rfl⟩
    refine ⟨W2, _, v2.toNat, .int x, rfl, congrArg V.int (show v2 = (v2.toNat : Int) by omega), sqOf (b26 _ _ upd_same W2p W2g), atI_nat hx, ?_⟩
    refine ⟨.ref p, rfl, p, g, 994, rfl, B26, by decide, fun ct H27 ct0 ct1 B27 b27 => ?_⟩
    have k57 : ∀ b o, H25 b = some o → b ≠ p → b ≠ g → H27 b = some o := fun b o e n1 n2 => b27 b o (b26 b o (SW2 _ _ e) n1 n2) n1 n2
    have kt57 : ∀ b xs, H25 b = some (.tup xs) → H27 b = some (.tup xs) := fun b xs e => pg_keep B26 b27 _ _ (pg_keep (B25.same SW2) b26 _ _ (SW2 _ _ e))
    obtain ⟨hs27, hT27, hO27, hL27, hr27⟩ : H27 sp = some (.dK (kvN d)) ∧ Rws H27 t bt ∧ Rws H27 o bo ∧ H27 l = some (.lst (ks.map V.str)) ∧ H27 r = some (.dK (kvN d)) := ⟨k57 _ _ hs25 spp spg, ⟨k57 _ _ hT25.l tp tg, fun b hb => kt57 _ _ (hT25.t b hb)⟩, ⟨k57 _ _ hO25.l op og, fun b hb => kt57 _ _ (hO25.t b hb)⟩, k57 _ _ hL25 lp lg, k57 _ _ hr25 rp rg⟩
    have xc : x * ct ≠ 0 := by
      rcases x0 with rfl | rfl
      · rw [Int.one_mul]; omega
      · rw [Int.neg_mul, Int.one_mul]; omega
    refine ⟨x, ct, rfl, rfl, .inr ⟨by omega, by omega⟩, _, _, rfl, rfl, .ref sp, rfl, .str nm, rfl, sp, _, rfl, dput_N hs27 (by omega), ?_⟩
    have tne : totN (putN d nm (val d nm + x * ct)) ≠ 0 := by
      have : totN (putN d nm (val d nm + x * ct)) = totN d + x * ct := totn_put he.nd nm (x * ct)
      rw [this, he.t]; omega
    have hs28 : L2.upd H27 sp (.dK (kvN (putN d nm (val d nm + x * ct)))) sp = some (.dK (kvN (putN d nm (val d nm + x * ct)))) := upd_same
    obtain ⟨B28, hT28, hO28, hL28, hr28⟩ : Box g 997 (L2.upd H27 sp (.dK (kvN (putN d nm (val d nm + x * ct))))) p ∧ Rws (L2.upd H27 sp (.dK (kvN (putN d nm (val d nm + x * ct))))) t bt ∧ Rws (L2.upd H27 sp (.dK (kvN (putN d nm (val d nm + x * ct))))) o bo ∧ (L2.upd H27 sp (.dK (kvN (putN d nm (val d nm + x * ct))))) l = some (.lst (ks.map V.str)) ∧ (L2.upd H27 sp (.dK (kvN (putN d nm (val d nm + x * ct))))) r = some (.dK (kvN d)) := by
      have tup : ∀ {b : Addr} {xs : List V}, H27 b = some (.tup xs) → (L2.upd H27 sp (.dK (kvN (putN d nm (val d nm + x * ct))))) b = some (.tup xs) := fun {b xs} e => by
        rw [upd_ne (fun z => by rw [z, hs27] at e; cases e)]; exact e
      exact ⟨B27.upd hs27 (fun ⟨_, _, z⟩ => by cases z) spp spg, ⟨by rw [upd_ne (Ne.symm spt)]; exact hT27.l, fun b hb => tup (hT27.t b hb)⟩, ⟨by rw [upd_ne (Ne.symm spo)]; exact hO27.l, fun b hb => tup (hO27.t b hb)⟩, by rw [upd_ne (Ne.symm spl)]; exact hL27, by rw [upd_ne (Ne.symm spr)]; exact hr27⟩
    have lpn := putN_len d nm (val d nm + x * ct)
    have ndp := putN_nd he.nd nm (val d nm + x * ct)
    generalize L2.upd H27 sp (.dK (kvN (putN d nm (val d nm + x * ct)))) = H28 at hs28 B28 hT28 hO28 hL28 hr28
    refine ⟨.ref sp, rfl, sp, _, rfl, hs28, ndp, by omega, tne, fun H29 S29 => ⟨true, rfl, ?_⟩⟩
    refine ⟨.ref r, rfl, .ref o, rfl, r, o, d, bo, rfl, S29 _ _ hr28, he, by omega, sgd, hO28.same S29, oth.ge, by omega, fun H30 S30 => ⟨true, rfl, ?_⟩⟩
    have S90 := S29.trans S30
    obtain ⟨B30, hT30, hO30, hL30, hr30⟩ : Box g 997 H30 p ∧ Rws H30 t bt ∧ Rws H30 o bo ∧ H30 l = some (.lst (ks.map V.str)) ∧ H30 r = some (.dK (kvN d)) := ⟨B28.same S90, hT28.same S90, hO28.same S90, S90 _ _ hL28, S90 _ _ hr28⟩
    clear S90 S29 S30
    -- a name that is no key
    have sl : stem.length ≤ 6 := by
      obtain ⟨stem', pl, is, rfl, nd', lt', l1, l6, _⟩ := hN.ex
      cases e0
      exact l6
    have wq : ∀ z : Str, z.length = 1 → (stem ++ z).length ≤ 7 := fun z hz1 => by rw [app_len]; omega


    refine ⟨.ref l, rfl, l, _, 0, .str stem, rfl, rfl, sqOf hL30, atI_nat (j := 0) v0, .str nm, rfl, by show 3 ≤ sizeLine; omega, fun T1 n1 => ?_⟩
    have S1 := same_upd (o := .tup [V.str stem, V.str nm, V.int 1]) n1
    have h1 : L2.upd H30 T1 (.tup [V.str stem, V.str nm, V.int 1]) T1 = some (.tup [V.str stem, V.str nm, V.int 1]) := upd_same
    generalize L2.upd H30 T1 (.tup [V.str stem, V.str nm, V.int 1]) = Ha at S1 h1
    refine ⟨.str nm, rfl, .ref l, rfl, l, _, 0, .str stem, rfl, rfl, sqOf (S1 _ _ hL30), atI_nat (j := 0) v0, by show 3 ≤ sizeLine; omega, fun T2 n2 => ?_⟩
    have S2 := S1.trans (same_upd (o := .tup [V.str nm, V.str stem, V.int 2]) n2)
    have h12 := same_upd (o := .tup [V.str nm, V.str stem, V.int 2]) n2 _ _ h1
    have h2 : L2.upd Ha T2 (.tup [V.str nm, V.str stem, V.int 2]) T2 = some (.tup [V.str nm, V.str stem, V.int 2]) := upd_same
    generalize L2.upd Ha T2 (.tup [V.str nm, V.str stem, V.int 2]) = Hb at S2 h12 h2
    refine ⟨.ref l, rfl, l, _, 0, .str stem, rfl, rfl, sqOf (S2 _ _ hL30), atI_nat (j := 0) v0, .ref l, rfl, l, _, 0, .str stem, rfl, rfl, sqOf (S2 _ _ hL30), atI_nat (j := 0) v0, stem, Str.ofString "q", rfl, rfl, (by show stem.length + 1 ≤ sizeLine; omega), by show 3 ≤ sizeLine; omega, fun T3 n3 => ?_⟩
    have S3 := S2.trans (same_upd (o := .tup [V.str stem, V.str (stem ++ Str.ofString "q"), V.int 3]) n3)
    have h13 := same_upd (o := .tup [V.str stem, V.str (stem ++ Str.ofString "q"), V.int 3]) n3 _ _ h12
    have h23 := same_upd (o := .tup [V.str stem, V.str (stem ++ Str.ofString "q"), V.int 3]) n3 _ _ h2
    have h3 : L2.upd Hb T3 (.tup [V.str stem, V.str (stem ++ Str.ofString "q"), V.int 3]) T3 = some (.tup [V.str stem, V.str (stem ++ Str.ofString "q"), V.int 3]) := upd_same
    generalize L2.upd Hb T3 (.tup [V.str stem, V.str (stem ++ Str.ofString "q"), V.int 3]) = Hc at S3 h13 h23 h3
    refine ⟨by show 3 ≤ sizeLine; omega, fun W3 nW3 => ?_⟩
    have SW3 := same_upd (o := .lst [V.ref T1, V.ref T2, V.ref T3]) nW3
    have S4 := S3.trans SW3
    obtain ⟨W3p, W3g⟩ := B30.off (S3.free nW3)
    refine ⟨.ref p, rfl, p, g, 3, 997, rfl, B30.same S4, by decide, by decide, by decide, fun v3 H31 v30 v31 B31 b31 => ?_⟩
    have kt1 : ∀ b xs, Hc b = some (.tup xs) → H31 b = some (.tup xs) := fun b xs e => pg_keep (B30.same S4) b31 _ _ (SW3 _ _ e)
    obtain ⟨Tf, f1, hx, hTf, bad1⟩ : ∃ (Tf : Addr) (f1 : Row3), [V.ref T1, V.ref T2, V.ref T3][v3.toNat]? = some (.ref Tf) ∧ H31 Tf = some (.tup [.str f1.1, .str f1.2.1, .int f1.2.2]) ∧ (f1.1 = stem ∨ (f1.1 ∈ d.map (·.1) ∧ f1.2.1 = stem)) := by
      rcases (show v3 = 0 ∨ v3 = 1 ∨ v3 = 2 by omega) with rfl | rfl | rfl
      · exact ⟨T1, (stem, nm, 1), rfl, kt1 _ _ h13, .inl rfl⟩
      · exact ⟨T2, (nm, stem, 2), rfl, kt1 _ _ h23, .inr ⟨mn, rfl⟩⟩
      · exact ⟨T3, (stem, stem ++ Str.ofString "q", 3), rfl, kt1 _ _ h3, .inl rfl⟩
    refine ⟨W3, _, v3.toNat, .ref Tf, rfl, congrArg V.int (show v3 = (v3.toNat : Int) by omega), sqOf (b31 _ _ upd_same W3p W3g), atI_nat hx, ?_⟩
    obtain ⟨hT31, hO31, hL31, hr31⟩ : Rws H31 t bt ∧ Rws H31 o bo ∧ H31 l = some (.lst (ks.map V.str)) ∧ H31 r = some (.dK (kvN d)) := ⟨(hT30.same S4).draw (B30.same S4) b31 tp tg, (hO30.same S4).draw (B30.same S4) b31 op og, b31 _ _ (S4 _ _ hL30) lp lg, b31 _ _ (S4 _ _ hr30) rp rg⟩
    clear kt1 S4 S3 S2 S1 h13 h23 h3 h12 h1 h2
    refine ⟨.str nm, rfl, .ref l, rfl, l, _, 0, .str stem, rfl, rfl, sqOf hL31, atI_nat (j := 0) v0, stem, Str.ofString "w", rfl, rfl, (by show stem.length + 1 ≤ sizeLine; omega), by show 3 ≤ sizeLine; omega, fun T4 n4 => ?_⟩
    have S1 := same_upd (o := .tup [V.str nm, V.str (stem ++ Str.ofString "w"), V.int 1]) n4
    have h1 : L2.upd H31 T4 (.tup [V.str nm, V.str (stem ++ Str.ofString "w"), V.int 1]) T4 = some (.tup [V.str nm, V.str (stem ++ Str.ofString "w"), V.int 1]) := upd_same
    generalize L2.upd H31 T4 (.tup [V.str nm, V.str (stem ++ Str.ofString "w"), V.int 1]) = Hd at S1 h1
    refine ⟨.ref l, rfl, l, _, 0, .str stem, rfl, rfl, sqOf (S1 _ _ hL31), atI_nat (j := 0) v0, stem, Str.ofString "w", rfl, rfl, (by show stem.length + 1 ≤ sizeLine; omega), .str nm, rfl, by show 3 ≤ sizeLine; omega, fun T5 n5 => ?_⟩
    have S2 := S1.trans (same_upd (o := .tup [V.str (stem ++ Str.ofString "w"), V.str nm, V.int 0]) n5)
    have h12 := same_upd (o := .tup [V.str (stem ++ Str.ofString "w"), V.str nm, V.int 0]) n5 _ _ h1
    have h2 : L2.upd Hd T5 (.tup [V.str (stem ++ Str.ofString "w"), V.str nm, V.int 0]) T5 = some (.tup [V.str (stem ++ Str.ofString "w"), V.str nm, V.int 0]) := upd_same
    generalize L2.upd Hd T5 (.tup [V.str (stem ++ Str.ofString "w"), V.str nm, V.int 0]) = He at S2 h12 h2
    refine ⟨by show 2 ≤ sizeLine; omega, fun W4 nW4 => ?_⟩
    have SW4 := same_upd (o := .lst [V.ref T4, V.ref T5]) nW4
    have S4 := S2.trans SW4
    obtain ⟨W4p, W4g⟩ := B31.off (S2.free nW4)
    refine ⟨.ref p, rfl, p, g, 2, 998, rfl, B31.same S4, by decide, by decide, by decide, fun v4 H32 v40 v41 B32 b32 => ?_⟩
    have kt1 : ∀ b xs, He b = some (.tup xs) → H32 b = some (.tup xs) := fun b xs e => pg_keep (B31.same S4) b32 _ _ (SW4 _ _ e)
    obtain ⟨Tl, f2, hy, hTl⟩ : ∃ (Tl : Addr) (f2 : Row3), [V.ref T4, V.ref T5][v4.toNat]? = some (.ref Tl) ∧ H32 Tl = some (.tup [.str f2.1, .str f2.2.1, .int f2.2.2]) := by
      rcases (show v4 = 0 ∨ v4 = 1 by omega) with rfl | rfl
      · exact ⟨T4, (nm, stem ++ Str.ofString "w", 1), rfl, kt1 _ _ h12⟩
      · exact ⟨T5, (stem ++ Str.ofString "w", nm, 0), rfl, kt1 _ _ h2⟩
    refine ⟨W4, _, v4.toNat, .ref Tl, rfl, congrArg V.int (show v4 = (v4.toNat : Int) by omega), sqOf (b32 _ _ upd_same W4p W4g), atI_nat hy, ?_⟩
    obtain ⟨hT32, hO32, hL32, hr32⟩ : Rws H32 t bt ∧ Rws H32 o bo ∧ H32 l = some (.lst (ks.map V.str)) ∧ H32 r = some (.dK (kvN d)) := ⟨(hT31.same S4).draw (B31.same S4) b32 tp tg, (hO31.same S4).draw (B31.same S4) b32 op og, b32 _ _ (S4 _ _ hL31) lp lg, b32 _ _ (S4 _ _ hr31) rp rg⟩
    have hTf32 := pg_keep (B31.same S4) b32 _ _ (S4 _ _ hTf)
    clear kt1 S4 S2 S1 h12 h1 h2
    refine ⟨.ref r, rfl, .ref o, rfl, .ref Tf, rfl, .ref Tl, rfl, by show 2 ≤ sizeLine; omega, fun A1 nA1 => ?_⟩
    have S1 := same_upd (o := .lst [V.ref Tf, V.ref Tl]) nA1
    have hA1 : L2.upd H32 A1 (.lst [V.ref Tf, V.ref Tl]) A1 = some (.lst [V.ref Tf, V.ref Tl]) := upd_same
    generalize L2.upd H32 A1 (.lst [V.ref Tf, V.ref Tl]) = H33 at S1 hA1
    refine ⟨o, A1, _, _, rfl, rfl, S1 _ _ hO32.l, hA1, by rw [List.length_map]; show bo.length + 2 ≤ _; omega, fun A2 nA2 => ?_⟩
    have S2 := S1.trans (same_upd (o := .lst ((bo.map fun b => V.ref b.1) ++ [V.ref Tf, V.ref Tl])) nA2)
    have hA2 : L2.upd H33 A2 (.lst ((bo.map fun b => V.ref b.1) ++ [V.ref Tf, V.ref Tl])) A2 = some (.lst ((bo.map fun b => V.ref b.1) ++ [V.ref Tf, V.ref Tl])) := upd_same
    generalize L2.upd H33 A2 (.lst ((bo.map fun b => V.ref b.1) ++ [V.ref Tf, V.ref Tl])) = H34 at S2 hA2
    refine ⟨.ref t, rfl, A2, t, _, _, rfl, rfl, hA2, S2 _ _ hT32.l, by rw [List.length_append, List.length_map, List.length_map]; show bo.length + 2 + bt.length ≤ _; omega, fun A3 nA3 => ?_⟩
    have S3 := S2.trans (same_upd (o := .lst (((bo.map fun b => V.ref b.1) ++ [V.ref Tf, V.ref Tl]) ++ (bt.map fun b => V.ref b.1))) nA3)
    have hA3 : L2.upd H34 A3 (.lst (((bo.map fun b => V.ref b.1) ++ [V.ref Tf, V.ref Tl]) ++ (bt.map fun b => V.ref b.1))) A3 = some (.lst (((bo.map fun b => V.ref b.1) ++ [V.ref Tf, V.ref Tl]) ++ (bt.map fun b => V.ref b.1))) := upd_same
    generalize L2.upd H34 A3 (.lst (((bo.map fun b => V.ref b.1) ++ [V.ref Tf, V.ref Tl]) ++ (bt.map fun b => V.ref b.1))) = H35 at S3 hA3
    have hR35 : Rws H35 A3 ((bo ++ [(Tf, f1), (Tl, f2)]) ++ bt) := by
      refine ⟨by rw [hA3, List.map_append, List.map_append]; rfl, fun b hb => ?_⟩
      rcases List.mem_append.mp hb with hb | hb
      · rcases List.mem_append.mp hb with hb | hb
        · exact S3 _ _ (hO32.t b hb)
        · rcases List.mem_cons.mp hb with rfl | hb
          · exact S3 _ _ hTf32
          · rw [List.mem_singleton.mp hb]
            exact S3 _ _ hTl
      · exact S3 _ _ (hT32.t b hb)
    have fb : FirstBad d (((bo ++ [(Tf, f1), (Tl, f2)]) ++ bt).map (·.2)) stem := by
      refine ⟨bo.length, f1, ?_, ?_, fun m => ns0 (hPu.p.mem_iff.mp m), bad1⟩
      · rw [List.getElem?_map, List.append_assoc, List.getElem?_append_right (Nat.le_refl _), Nat.sub_self]; rfl
      · rw [← List.map_take, List.append_assoc, List.take_left]
        exact oth.has
    refine ⟨.ref l, rfl, l, _, 0, .str stem, rfl, rfl, sqOf (S3 _ _ hL32), atI_nat (j := 0) v0, ?_⟩
    exact ⟨r, A3, stem, d, _, rfl, S3 _ _ hr32, by omega, hR35, fb, bad_not fb, fun y hy => bad_one hy fb, fun H' _ => q H'⟩
end
end Tb
set_option maxHeartbeats 0
namespace Tb
open PySem PySem.Spec PyProof.Rows L2
theorem cls_some {K : PySem.W.Frag} {C : Addr} (h : PySem.W.hasDictIn K C = true) : (PySem.W.clsIn K C).isSome = true := by
  obtain ⟨cd, hc, _⟩ := PySem.W.any_some h
  rw [hc]
  rfl
theorem kit_refC {K : PySem.W.Frag} {t : Value} {C : Addr} {b : Bool} (hd : PySem.W.hasDictIn K C = true) (ht : PySem.W.typeIn K (.ref C) = some (.type "type")) (hs : PySem.W.subIn K t (.ref C) = some b) : PySem.W.kitCls K t (.ref C) = some b := by
  have e2 : ((PySem.W.clsIn K C).isSome && PySem.W.typeIn K (.ref C) == some (.type "type")) = true := by rw [cls_some hd, ht]; rfl
  show (if ((PySem.W.clsIn K C).isSome && PySem.W.typeIn K (.ref C) == some (.type "type")) = true then PySem.W.subIn K t (.ref C) else none) = some b
  rw [if_pos e2]
  exact hs
theorem kit_tyC {K : PySem.W.Frag} {t : Value} {T : String} {b : Bool} (hT : PySem.W.kitMeta T = true) (hs : PySem.W.subIn K t (.type T) = some b) : PySem.W.kitCls K t (.type T) = some b := by
  show (if PySem.W.kitMeta T = true then PySem.W.subIn K t (.type T) else none) = some b
  rw [if_pos hT]
  exact hs
theorem kit_t {K : PySem.W.Frag} {t c : Value} (h : PySem.W.kitCls K t c = some true) : PySem.W.kitOne K t c = some true := by
  unfold PySem.W.kitOne
  by_cases e : (t == c) = true
  · rw [if_pos e]
  · rw [if_neg e]
    exact h
theorem kit_f {K : PySem.W.Frag} {t c : Value} (e : (t == c) = false) (h : PySem.W.kitCls K t c = some false) : PySem.W.kitOne K t c = some false := by
  unfold PySem.W.kitOne
  rw [if_neg (by rw [e]; exact Bool.false_ne_true)]
  exact h
theorem kit_nil {K : PySem.W.Frag} {t : Value} : PySem.W.kitAny K t [] = some false := rfl
theorem kit_no {K : PySem.W.Frag} {t c : Value} {r : List Value} (h : PySem.W.kitOne K t c = some false) (hr : PySem.W.kitAny K t r = some false) : PySem.W.kitAny K t (c :: r) = some false := by
  show (match PySem.W.kitOne K t c with | some true => some true | some false => PySem.W.kitAny K t r | none => none) = some false
  rw [h]
  exact hr
theorem all_mk {l : PySem.W.OpenLaw} {w : World} {K : PySem.W.Frag} {h : Heap} {mg : Str → Option Value} {fa f1 f2 f3 f4 f5 f6 f7 f8 f9 f10 f11 f12 f13 f14 f15 f16 f17 f18 f19 f20 f21 f22 f23 f24 f25 f26 f27 f28 CI mI CU mU CP C2 C3 C4 C5 C6 C7 : Addr} (X : K.In h) (G : h.Ns mainGlobals mg) (hfa : mg "law" = some (.ref fa))
    {od1 an1 od2 an2 od3 an3 od4 an4 od5 an5 od6 an6 od7 an7 od8 an8 od9 an9 od10 an10 od11 an11 od12 an12 od13 an13 od14 an14 od15 an15 od16 an16 od17 an17 od18 an18 od19 an19 od20 an20 od21 an21 od22 an22 od23 an23 od24 an24 od25 an25 od26 an26 od27 an27 od28 an28 odmI anmI odmU anmU : Option Addr} {sl1 sl2 sl3 sl4 sl5 sl6 sl7 sl8 sl9 sl10 sl11 sl12 sl13 sl14 sl15 sl16 sl17 sl18 sl19 sl20 sl21 sl22 sl23 sl24 sl25 sl26 sl27 sl28 slmI slmU : Array (Option Value)} {oc1 kV1 dc1 pm1 cd1 ct1 oc2 kV2 dc2 pm2 cd2 ct2 oc3 kV3 dc3 pm3 cd3 ct3 oc4 kV4 dc4 pm4 cd4 ct4 oc5 kV5 dc5 pm5 cd5 ct5 oc6 kV6 dc6 pm6 cd6 ct6 oc7 kV7 dc7 pm7 cd7 ct7 oc8 kV8 dc8 pm8 cd8 ct8 oc9 kV9 dc9 pm9 cd9 ct9 oc10 kV10 dc10 pm10 cd10 ct10 oc11 kV11 dc11 pm11 cd11 ct11 oc12 kV12 dc12 pm12 cd12 ct12 oc13 kV13 dc13 pm13 cd13 ct13 oc14 kV14 dc14 pm14 cd14 ct14 oc15 kV15 dc15 pm15 cd15 ct15 oc16 kV16 dc16 pm16 cd16 ct16 oc17 kV17 dc17 pm17 cd17 ct17 oc18 kV18 dc18 pm18 cd18 ct18 oc19 kV19 dc19 pm19 cd19 ct19 oc20 kV20 dc20 pm20 cd20 ct20 oc21 kV21 dc21 pm21 cd21 ct21 oc22 kV22 dc22 pm22 cd22 ct22 oc23 kV23 dc23 pm23 cd23 ct23 oc24 kV24 dc24 pm24 cd24 ct24 oc25 kV25 dc25 pm25 cd25 ct25 oc26 kV26 dc26 pm26 cd26 ct26 oc27 kV27 dc27 pm27 cd27 ct27 oc28 kV28 dc28 pm28 cd28 ct28 ocmI kVmI dcmI pmmI cdmI ctmI ocmU kVmU dcmU pmmU cdmU ctmU : Value}
    {nmI qI} {NI} {bsI} {bmI} {snI} {subI} {abI} {colI} {ddI} {k0I} {k1I} {k2I} {k3I} {k5I}
    {nmU qU} {NU} {bsU} {bmU} {snU} {subU} {abU} {colU} {ddU} {k0U} {k1U} {k2U} {k3U} {k5U}
    (a1 : PySem.W.nsIn K mainGlobals "house_postings" = some (some (.ref f1)))
    (l1 : K.lookup f1 = some ⟨oc1, od1, .func (PySem.W.fnOf "house_postings" "house_postings" (defArgs sHPosts) (defBody sHPosts) (defScope sHPosts) .none kV1 dc1 pm1 an1 cd1 ct1), sl1⟩)
    (c1 : PySem.W.codeIn K cd1 "house_postings" = true)
    (k1 : PySem.W.keepIn K (.ref f1) = true)
    (a2 : PySem.W.nsIn K mainGlobals "payments" = some (some (.ref f2)))
    (l2 : K.lookup f2 = some ⟨oc2, od2, .func (PySem.W.fnOf "payments" "payments" (defArgs sPay) (defBody sPay) (defScope sPay) .none kV2 dc2 pm2 an2 cd2 ct2), sl2⟩)
    (c2 : PySem.W.codeIn K cd2 "payments" = true)
    (k2 : PySem.W.keepIn K (.ref f2) = true)
    (a3 : PySem.W.nsIn K mainGlobals "settled" = some (some (.ref f3)))
    (l3 : K.lookup f3 = some ⟨oc3, od3, .func (PySem.W.fnOf "settled" "settled" (defArgs sSettled) (defBody sSettled) (defScope sSettled) .none kV3 dc3 pm3 an3 cd3 ct3), sl3⟩)
    (c3 : PySem.W.codeIn K cd3 "settled" = true)
    (k3 : PySem.W.keepIn K (.ref f3) = true)
    (a4 : PySem.W.nsIn K mainGlobals "balances" = some (some (.ref f4)))
    (l4 : K.lookup f4 = some ⟨oc4, od4, .func (PySem.W.fnOf "balances" "balances" (defArgs sBals) (defBody sBals) (defScope sBals) .none kV4 dc4 pm4 an4 cd4 ct4), sl4⟩)
    (c4 : PySem.W.codeIn K cd4 "balances" = true)
    (k4 : PySem.W.keepIn K (.ref f4) = true)
    (a5 : PySem.W.nsIn K mainGlobals "balance" = some (some (.ref f5)))
    (l5 : K.lookup f5 = some ⟨oc5, od5, .func (PySem.W.fnOf "balance" "balance" (defArgs sBal) (defBody sBal) (defScope sBal) .none kV5 dc5 pm5 an5 cd5 ct5), sl5⟩)
    (c5 : PySem.W.codeIn K cd5 "balance" = true)
    (k5 : PySem.W.keepIn K (.ref f5) = true)
    (a6 : PySem.W.nsIn K mainGlobals "_law_box" = some (some (.ref f6)))
    (l6 : K.lookup f6 = some ⟨oc6, od6, .func (PySem.W.fnOf "_law_box" "_law_box" (defArgs sLBox) (defBody sLBox) (defScope sLBox) .none kV6 dc6 pm6 an6 cd6 ct6), sl6⟩)
    (c6 : PySem.W.codeIn K cd6 "_law_box" = true)
    (k6 : PySem.W.keepIn K (.ref f6) = true)
    (a7 : PySem.W.nsIn K mainGlobals "_law_draw" = some (some (.ref f7)))
    (l7 : K.lookup f7 = some ⟨oc7, od7, .func (PySem.W.fnOf "_law_draw" "_law_draw" (defArgs sDraw) (defBody sDraw) (defScope sDraw) .none kV7 dc7 pm7 an7 cd7 ct7), sl7⟩)
    (c7 : PySem.W.codeIn K cd7 "_law_draw" = true)
    (k7 : PySem.W.keepIn K (.ref f7) = true)
    (a8 : PySem.W.nsIn K mainGlobals "_law_is_integer" = some (some (.ref f8)))
    (l8 : K.lookup f8 = some ⟨oc8, od8, .func (PySem.W.fnOf "_law_is_integer" "_law_is_integer" (defArgs sIsInt) (defBody sIsInt) (defScope sIsInt) .none kV8 dc8 pm8 an8 cd8 ct8), sl8⟩)
    (c8 : PySem.W.codeIn K cd8 "_law_is_integer" = true)
    (k8 : PySem.W.keepIn K (.ref f8) = true)
    (a9 : PySem.W.nsIn K mainGlobals "_law_names" = some (some (.ref f9)))
    (l9 : K.lookup f9 = some ⟨oc9, od9, .func (PySem.W.fnOf "_law_names" "_law_names" (defArgs sNames) (defBody sNames) (defScope sNames) .none kV9 dc9 pm9 an9 cd9 ct9), sl9⟩)
    (c9 : PySem.W.codeIn K cd9 "_law_names" = true)
    (k9 : PySem.W.keepIn K (.ref f9) = true)
    (a10 : PySem.W.nsIn K mainGlobals "_law_account" = some (some (.ref f10)))
    (l10 : K.lookup f10 = some ⟨oc10, od10, .func (PySem.W.fnOf "_law_account" "_law_account" (defArgs sAcc) (defBody sAcc) (defScope sAcc) .none kV10 dc10 pm10 an10 cd10 ct10), sl10⟩)
    (c10 : PySem.W.codeIn K cd10 "_law_account" = true)
    (k10 : PySem.W.keepIn K (.ref f10) = true)
    (a11 : PySem.W.nsIn K mainGlobals "_law_cents" = some (some (.ref f11)))
    (l11 : K.lookup f11 = some ⟨oc11, od11, .func (PySem.W.fnOf "_law_cents" "_law_cents" (defArgs sCents) (defBody sCents) (defScope sCents) .none kV11 dc11 pm11 an11 cd11 ct11), sl11⟩)
    (c11 : PySem.W.codeIn K cd11 "_law_cents" = true)
    (k11 : PySem.W.keepIn K (.ref f11) = true)
    (a12 : PySem.W.nsIn K mainGlobals "_law_postings" = some (some (.ref f12)))
    (l12 : K.lookup f12 = some ⟨oc12, od12, .func (PySem.W.fnOf "_law_postings" "_law_postings" (defArgs sPosts) (defBody sPosts) (defScope sPosts) .none kV12 dc12 pm12 an12 cd12 ct12), sl12⟩)
    (c12 : PySem.W.codeIn K cd12 "_law_postings" = true)
    (k12 : PySem.W.keepIn K (.ref f12) = true)
    (a13 : PySem.W.nsIn K mainGlobals "_law_sums" = some (some (.ref f13)))
    (l13 : K.lookup f13 = some ⟨oc13, od13, .func (PySem.W.fnOf "_law_sums" "_law_sums" (defArgs sSums) (defBody sSums) (defScope sSums) .none kV13 dc13 pm13 an13 cd13 ct13), sl13⟩)
    (c13 : PySem.W.codeIn K cd13 "_law_sums" = true)
    (k13 : PySem.W.keepIn K (.ref f13) = true)
    (a14 : PySem.W.nsIn K mainGlobals "_law_same_numbers" = some (some (.ref f14)))
    (l14 : K.lookup f14 = some ⟨oc14, od14, .func (PySem.W.fnOf "_law_same_numbers" "_law_same_numbers" (defArgs sSameN) (defBody sSameN) (defScope sSameN) .none kV14 dc14 pm14 an14 cd14 ct14), sl14⟩)
    (c14 : PySem.W.codeIn K cd14 "_law_same_numbers" = true)
    (k14 : PySem.W.keepIn K (.ref f14) = true)
    (a15 : PySem.W.nsIn K mainGlobals "_law_sums_hold" = some (some (.ref f15)))
    (l15 : K.lookup f15 = some ⟨oc15, od15, .func (PySem.W.fnOf "_law_sums_hold" "_law_sums_hold" (defArgs sSumsH) (defBody sSumsH) (defScope sSumsH) .none kV15 dc15 pm15 an15 cd15 ct15), sl15⟩)
    (c15 : PySem.W.codeIn K cd15 "_law_sums_hold" = true)
    (k15 : PySem.W.keepIn K (.ref f15) = true)
    (a16 : PySem.W.nsIn K mainGlobals "_law_house_part" = some (some (.ref f16)))
    (l16 : K.lookup f16 = some ⟨oc16, od16, .func (PySem.W.fnOf "_law_house_part" "_law_house_part" (defArgs sHouseP) (defBody sHouseP) (defScope sHouseP) .none kV16 dc16 pm16 an16 cd16 ct16), sl16⟩)
    (c16 : PySem.W.codeIn K cd16 "_law_house_part" = true)
    (k16 : PySem.W.keepIn K (.ref f16) = true)
    (a17 : PySem.W.nsIn K mainGlobals "_law_house_part_holds" = some (some (.ref f17)))
    (l17 : K.lookup f17 = some ⟨oc17, od17, .func (PySem.W.fnOf "_law_house_part_holds" "_law_house_part_holds" (defArgs sHousePH) (defBody sHousePH) (defScope sHousePH) .none kV17 dc17 pm17 an17 cd17 ct17), sl17⟩)
    (c17 : PySem.W.codeIn K cd17 "_law_house_part_holds" = true)
    (k17 : PySem.W.keepIn K (.ref f17) = true)
    (a18 : PySem.W.nsIn K mainGlobals "_law_purse" = some (some (.ref f18)))
    (l18 : K.lookup f18 = some ⟨oc18, od18, .func (PySem.W.fnOf "_law_purse" "_law_purse" (defArgs sPurse) (defBody sPurse) (defScope sPurse) .none kV18 dc18 pm18 an18 cd18 ct18), sl18⟩)
    (c18 : PySem.W.codeIn K cd18 "_law_purse" = true)
    (k18 : PySem.W.keepIn K (.ref f18) = true)
    (a19 : PySem.W.nsIn K mainGlobals "_law_rule" = some (some (.ref f19)))
    (l19 : K.lookup f19 = some ⟨oc19, od19, .func (PySem.W.fnOf "_law_rule" "_law_rule" (defArgs sRule) (defBody sRule) (defScope sRule) .none kV19 dc19 pm19 an19 cd19 ct19), sl19⟩)
    (c19 : PySem.W.codeIn K cd19 "_law_rule" = true)
    (k19 : PySem.W.keepIn K (.ref f19) = true)
    (a20 : PySem.W.nsIn K mainGlobals "_law_after" = some (some (.ref f20)))
    (l20 : K.lookup f20 = some ⟨oc20, od20, .func (PySem.W.fnOf "_law_after" "_law_after" (defArgs sAfter) (defBody sAfter) (defScope sAfter) .none kV20 dc20 pm20 an20 cd20 ct20), sl20⟩)
    (c20 : PySem.W.codeIn K cd20 "_law_after" = true)
    (k20 : PySem.W.keepIn K (.ref f20) = true)
    (a21 : PySem.W.nsIn K mainGlobals "_law_others" = some (some (.ref f21)))
    (l21 : K.lookup f21 = some ⟨oc21, od21, .func (PySem.W.fnOf "_law_others" "_law_others" (defArgs sOthers) (defBody sOthers) (defScope sOthers) .none kV21 dc21 pm21 an21 cd21 ct21), sl21⟩)
    (c21 : PySem.W.codeIn K cd21 "_law_others" = true)
    (k21 : PySem.W.keepIn K (.ref f21) = true)
    (a22 : PySem.W.nsIn K mainGlobals "_law_form" = some (some (.ref f22)))
    (l22 : K.lookup f22 = some ⟨oc22, od22, .func (PySem.W.fnOf "_law_form" "_law_form" (defArgs sForm) (defBody sForm) (defScope sForm) .none kV22 dc22 pm22 an22 cd22 ct22), sl22⟩)
    (c22 : PySem.W.codeIn K cd22 "_law_form" = true)
    (k22 : PySem.W.keepIn K (.ref f22) = true)
    (a23 : PySem.W.nsIn K mainGlobals "_law_paid" = some (some (.ref f23)))
    (l23 : K.lookup f23 = some ⟨oc23, od23, .func (PySem.W.fnOf "_law_paid" "_law_paid" (defArgs sPaid) (defBody sPaid) (defScope sPaid) .none kV23 dc23 pm23 an23 cd23 ct23), sl23⟩)
    (c23 : PySem.W.codeIn K cd23 "_law_paid" = true)
    (k23 : PySem.W.keepIn K (.ref f23) = true)
    (a24 : PySem.W.nsIn K mainGlobals "_law_settles" = some (some (.ref f24)))
    (l24 : K.lookup f24 = some ⟨oc24, od24, .func (PySem.W.fnOf "_law_settles" "_law_settles" (defArgs sSettles) (defBody sSettles) (defScope sSettles) .none kV24 dc24 pm24 an24 cd24 ct24), sl24⟩)
    (c24 : PySem.W.codeIn K cd24 "_law_settles" = true)
    (k24 : PySem.W.keepIn K (.ref f24) = true)
    (a25 : PySem.W.nsIn K mainGlobals "_law_error" = some (some (.ref f25)))
    (l25 : K.lookup f25 = some ⟨oc25, od25, .func (PySem.W.fnOf "_law_error" "_law_error" (defArgs sError) (defBody sError) (defScope sError) .none kV25 dc25 pm25 an25 cd25 ct25), sl25⟩)
    (c25 : PySem.W.codeIn K cd25 "_law_error" = true)
    (k25 : PySem.W.keepIn K (.ref f25) = true)
    (a26 : PySem.W.nsIn K mainGlobals "_law_refused_sum" = some (some (.ref f26)))
    (l26 : K.lookup f26 = some ⟨oc26, od26, .func (PySem.W.fnOf "_law_refused_sum" "_law_refused_sum" (defArgs sRefS) (defBody sRefS) (defScope sRefS) .none kV26 dc26 pm26 an26 cd26 ct26), sl26⟩)
    (c26 : PySem.W.codeIn K cd26 "_law_refused_sum" = true)
    (k26 : PySem.W.keepIn K (.ref f26) = true)
    (a27 : PySem.W.nsIn K mainGlobals "_law_refused_name" = some (some (.ref f27)))
    (l27 : K.lookup f27 = some ⟨oc27, od27, .func (PySem.W.fnOf "_law_refused_name" "_law_refused_name" (defArgs sRefN) (defBody sRefN) (defScope sRefN) .none kV27 dc27 pm27 an27 cd27 ct27), sl27⟩)
    (c27 : PySem.W.codeIn K cd27 "_law_refused_name" = true)
    (k27 : PySem.W.keepIn K (.ref f27) = true)
    (a28 : PySem.W.nsIn K mainGlobals "law" = some (some (.ref f28)))
    (l28 : K.lookup f28 = some ⟨oc28, od28, .func (PySem.W.fnOf "law" "law" (defArgs sLaw) (defBody sLaw) (defScope sLaw) .none kV28 dc28 pm28 an28 cd28 ct28), sl28⟩)
    (c28 : PySem.W.codeIn K cd28 "law" = true)
    (k28 : PySem.W.keepIn K (.ref f28) = true)
    (z_len : PySem.W.nsIn K mainGlobals "len" = some none)
    (z_int : PySem.W.nsIn K mainGlobals "int" = some none)
    (z_str : PySem.W.nsIn K mainGlobals "str" = some none)
    (z_list : PySem.W.nsIn K mainGlobals "list" = some none)
    (z_tuple : PySem.W.nsIn K mainGlobals "tuple" = some none)
    (z_dict : PySem.W.nsIn K mainGlobals "dict" = some none)
    (z_bool : PySem.W.nsIn K mainGlobals "bool" = some none)
    (z_range : PySem.W.nsIn K mainGlobals "range" = some none)
    (z_sorted : PySem.W.nsIn K mainGlobals "sorted" = some none)
    (z_isinstance : PySem.W.nsIn K mainGlobals "isinstance" = some none)
    (z_sum : PySem.W.nsIn K mainGlobals "sum" = some none)
    (z_min : PySem.W.nsIn K mainGlobals "min" = some none)
    (z_max : PySem.W.nsIn K mainGlobals "max" = some none)
    (z_abs : PySem.W.nsIn K mainGlobals "abs" = some none)
    (z_ValueError : PySem.W.nsIn K mainGlobals "ValueError" = some none)
    (oHn : PySem.W.specialIn K (.builtin "object.__class__") "__get__" = some (some (.builtin "getset_descriptor.__get__")))
    (oTk : PySem.W.takesIn K (.builtin "object.__class__") = some true)
    (aIc : PySem.W.nsIn K mainGlobals "Invalid" = some (some (.ref CI)))
    (xIl : K.lookup CI = some (excClassObj nmI qI CI NI bsI bmI true snI subI abI colI ddI k0I k1I k2I k3I k5I "ValueError.__new__"))
    (xIv : PySem.HandSPX.refsVE bmI = true)
    (xIi : PySem.W.findIn K (.ref CI) "__init__" = some (some (.ref mI)))
    (xIs : PySem.W.findIn K (.ref CI) "__setattr__" = some (some (.builtin "object.__setattr__")))
    (xIe : PySem.W.subIn K (.ref CI) (.type "BaseException") = some true)
    (xIt : PySem.W.typeIn K (.ref CI) = some (.type "type"))
    (xIk : PySem.W.keepIn K (.ref CI) = true)
    (xIg : PySem.W.findIn K (.ref CI) "__getattribute__" = some (some (.builtin "BaseException.__getattribute__")))
    (xIa : PySem.W.findIn K (.ref CI) "__getattr__" = some none)
    (xIh : PySem.W.hasDictIn K CI = true)
    (xIn : PySem.W.findIn K (.ref CI) "what" = some none)
    (xIy : PySem.W.typeIn K (.ref mI) = some (.type "function"))
    (xIo : PySem.W.findIn K (.ref CI) "__class__" = some (some (.builtin "object.__class__")))
    (xIm : PySem.W.mroIn K CI (.type "object") = some true)
    (lmI : K.lookup mI = some ⟨ocmI, odmI, .func (PySem.W.fnOf "__init__" "Invalid.__init__" (defArgs sInv) (defBody sInv) (defScope sInv) .none kVmI dcmI pmmI anmI cdmI ctmI), slmI⟩)
    (cmI : PySem.W.codeIn K cdmI "Invalid.__init__" = true)
    (kmI : PySem.W.keepIn K (.ref mI) = true)
    (aUc : PySem.W.nsIn K mainGlobals "Unknown" = some (some (.ref CU)))
    (xUl : K.lookup CU = some (excClassObj nmU qU CU NU bsU bmU true snU subU abU colU ddU k0U k1U k2U k3U k5U "ValueError.__new__"))
    (xUv : PySem.HandSPX.refsVE bmU = true)
    (xUi : PySem.W.findIn K (.ref CU) "__init__" = some (some (.ref mU)))
    (xUs : PySem.W.findIn K (.ref CU) "__setattr__" = some (some (.builtin "object.__setattr__")))
    (xUe : PySem.W.subIn K (.ref CU) (.type "BaseException") = some true)
    (xUt : PySem.W.typeIn K (.ref CU) = some (.type "type"))
    (xUk : PySem.W.keepIn K (.ref CU) = true)
    (xUg : PySem.W.findIn K (.ref CU) "__getattribute__" = some (some (.builtin "BaseException.__getattribute__")))
    (xUa : PySem.W.findIn K (.ref CU) "__getattr__" = some none)
    (xUh : PySem.W.hasDictIn K CU = true)
    (xUn : PySem.W.findIn K (.ref CU) "name" = some none)
    (xUy : PySem.W.typeIn K (.ref mU) = some (.type "function"))
    (xUo : PySem.W.findIn K (.ref CU) "__class__" = some (some (.builtin "object.__class__")))
    (xUm : PySem.W.mroIn K CU (.type "object") = some true)
    (lmU : K.lookup mU = some ⟨ocmU, odmU, .func (PySem.W.fnOf "__init__" "Unknown.__init__" (defArgs sUnk) (defBody sUnk) (defScope sUnk) .none kVmU dcmU pmmU anmU cdmU ctmU), slmU⟩)
    (cmU : PySem.W.codeIn K cdmU "Unknown.__init__" = true)
    (kmU : PySem.W.keepIn K (.ref mU) = true)
    (aPc : PySem.W.nsIn K mainGlobals "ParcelError" = some (some (.ref CP)))
    (xPh : PySem.W.hasDictIn K CP = true)
    (xPt : PySem.W.typeIn K (.ref CP) = some (.type "type"))
    (xPe : PySem.W.subIn K (.ref CP) (.type "BaseException") = some true)
    (a2c : PySem.W.nsIn K mainGlobals "TooMany" = some (some (.ref C2)))
    (x2h : PySem.W.hasDictIn K C2 = true)
    (x2t : PySem.W.typeIn K (.ref C2) = some (.type "type"))
    (a3c : PySem.W.nsIn K mainGlobals "Contradiction" = some (some (.ref C3)))
    (x3h : PySem.W.hasDictIn K C3 = true)
    (x3t : PySem.W.typeIn K (.ref C3) = some (.type "type"))
    (a4c : PySem.W.nsIn K mainGlobals "Late" = some (some (.ref C4)))
    (x4h : PySem.W.hasDictIn K C4 = true)
    (x4t : PySem.W.typeIn K (.ref C4) = some (.type "type"))
    (a5c : PySem.W.nsIn K mainGlobals "Refused" = some (some (.ref C5)))
    (x5h : PySem.W.hasDictIn K C5 = true)
    (x5t : PySem.W.typeIn K (.ref C5) = some (.type "type"))
    (a6c : PySem.W.nsIn K mainGlobals "BadManifest" = some (some (.ref C6)))
    (x6h : PySem.W.hasDictIn K C6 = true)
    (x6t : PySem.W.typeIn K (.ref C6) = some (.type "type"))
    (a7c : PySem.W.nsIn K mainGlobals "BadLine" = some (some (.ref C7)))
    (x7h : PySem.W.hasDictIn K C7 = true)
    (x7t : PySem.W.typeIn K (.ref C7) = some (.type "type"))
    (sIP : PySem.W.subIn K (.ref CI) (.ref CP) = some true)
    (sIV : PySem.W.subIn K (.ref CI) (.type "ValueError") = some true)
    (sII : PySem.W.subIn K (.ref CI) (.ref CI) = some true)
    (sIU : PySem.W.subIn K (.ref CI) (.ref CU) = some false)
    (nsIU : (Value.ref CI == Value.ref CU) = false)
    (sI2 : PySem.W.subIn K (.ref CI) (.ref C2) = some false)
    (nsI2 : (Value.ref CI == Value.ref C2) = false)
    (sI3 : PySem.W.subIn K (.ref CI) (.ref C3) = some false)
    (nsI3 : (Value.ref CI == Value.ref C3) = false)
    (sI4 : PySem.W.subIn K (.ref CI) (.ref C4) = some false)
    (nsI4 : (Value.ref CI == Value.ref C4) = false)
    (sI5 : PySem.W.subIn K (.ref CI) (.ref C5) = some false)
    (nsI5 : (Value.ref CI == Value.ref C5) = false)
    (sI6 : PySem.W.subIn K (.ref CI) (.ref C6) = some false)
    (nsI6 : (Value.ref CI == Value.ref C6) = false)
    (sI7 : PySem.W.subIn K (.ref CI) (.ref C7) = some false)
    (nsI7 : (Value.ref CI == Value.ref C7) = false)
    (sUP : PySem.W.subIn K (.ref CU) (.ref CP) = some true)
    (sUV : PySem.W.subIn K (.ref CU) (.type "ValueError") = some true)
    (sUU : PySem.W.subIn K (.ref CU) (.ref CU) = some true)
    (sUI : PySem.W.subIn K (.ref CU) (.ref CI) = some false)
    (nsUI : (Value.ref CU == Value.ref CI) = false)
    (sU2 : PySem.W.subIn K (.ref CU) (.ref C2) = some false)
    (nsU2 : (Value.ref CU == Value.ref C2) = false)
    (sU3 : PySem.W.subIn K (.ref CU) (.ref C3) = some false)
    (nsU3 : (Value.ref CU == Value.ref C3) = false)
    (sU4 : PySem.W.subIn K (.ref CU) (.ref C4) = some false)
    (nsU4 : (Value.ref CU == Value.ref C4) = false)
    (sU5 : PySem.W.subIn K (.ref CU) (.ref C5) = some false)
    (nsU5 : (Value.ref CU == Value.ref C5) = false)
    (sU6 : PySem.W.subIn K (.ref CU) (.ref C6) = some false)
    (nsU6 : (Value.ref CU == Value.ref C6) = false)
    (sU7 : PySem.W.subIn K (.ref CU) (.ref C7) = some false)
    (nsU7 : (Value.ref CU == Value.ref C7) = false)
    : ∃ fd : FuncData, (∀ (s : Shared) (v : Value), BindsTo s fd ⟨[v], []⟩ [("script", v)]) ∧ ∀ base : Heap, K.In base → base.Ns mainGlobals mg → FnOk l.prog w K mg base CX0 5 fa fd ["script"] (spLaw K) := by
  have e := hfa.symm.trans (PySem.W.mg_of X G a28)
  cases e
  have F1 := fun_mk (st := sHPosts) l1 c1 k1
  have b1 := F1.binds (ps := ["postings"]) fun _ _ _ _ _ _ us hl => match us, hl with | [_], _ => rfl
  have D1 : Dd K mg "house_postings" sHPosts ["postings"] f1 _ := ⟨F1, b1, PySem.W.mg_of X G a1⟩
  have F2 := fun_mk (st := sPay) l2 c2 k2
  have b2 := F2.binds (ps := ["balances"]) fun _ _ _ _ _ _ us hl => match us, hl with | [_], _ => rfl
  have D2 : Dd K mg "payments" sPay ["balances"] f2 _ := ⟨F2, b2, PySem.W.mg_of X G a2⟩
  have F3 := fun_mk (st := sSettled) l3 c3 k3
  have b3 := F3.binds (ps := ["balances", "payments"]) fun _ _ _ _ _ _ us hl => match us, hl with | [_, _], _ => rfl
  have D3 : Dd K mg "settled" sSettled ["balances", "payments"] f3 _ := ⟨F3, b3, PySem.W.mg_of X G a3⟩
  have F4 := fun_mk (st := sBals) l4 c4 k4
  have b4 := F4.binds (ps := ["postings"]) fun _ _ _ _ _ _ us hl => match us, hl with | [_], _ => rfl
  have D4 : Dd K mg "balances" sBals ["postings"] f4 _ := ⟨F4, b4, PySem.W.mg_of X G a4⟩
  have F5 := fun_mk (st := sBal) l5 c5 k5
  have b5 := F5.binds (ps := ["postings", "account"]) fun _ _ _ _ _ _ us hl => match us, hl with | [_, _], _ => rfl
  have D5 : Dd K mg "balance" sBal ["postings", "account"] f5 _ := ⟨F5, b5, PySem.W.mg_of X G a5⟩
  have F6 := fun_mk (st := sLBox) l6 c6 k6
  have b6 := F6.binds (ps := ["script"]) fun _ _ _ _ _ _ us hl => match us, hl with | [_], _ => rfl
  have D6 : Dd K mg "_law_box" sLBox ["script"] f6 _ := ⟨F6, b6, PySem.W.mg_of X G a6⟩
  have F7 := fun_mk (st := sDraw) l7 c7 k7
  have b7 := F7.binds (ps := ["box", "many"]) fun _ _ _ _ _ _ us hl => match us, hl with | [_, _], _ => rfl
  have D7 : Dd K mg "_law_draw" sDraw ["box", "many"] f7 _ := ⟨F7, b7, PySem.W.mg_of X G a7⟩
  have F8 := fun_mk (st := sIsInt) l8 c8 k8
  have b8 := F8.binds (ps := ["actual"]) fun _ _ _ _ _ _ us hl => match us, hl with | [_], _ => rfl
  have D8 : Dd K mg "_law_is_integer" sIsInt ["actual"] f8 _ := ⟨F8, b8, PySem.W.mg_of X G a8⟩
  have F9 := fun_mk (st := sNames) l9 c9 k9
  have b9 := F9.binds (ps := ["box"]) fun _ _ _ _ _ _ us hl => match us, hl with | [_], _ => rfl
  have D9 : Dd K mg "_law_names" sNames ["box"] f9 _ := ⟨F9, b9, PySem.W.mg_of X G a9⟩
  have F10 := fun_mk (st := sAcc) l10 c10 k10
  have b10 := F10.binds (ps := ["box", "names"]) fun _ _ _ _ _ _ us hl => match us, hl with | [_, _], _ => rfl
  have D10 : Dd K mg "_law_account" sAcc ["box", "names"] f10 _ := ⟨F10, b10, PySem.W.mg_of X G a10⟩
  have F11 := fun_mk (st := sCents) l11 c11 k11
  have b11 := F11.binds (ps := ["box"]) fun _ _ _ _ _ _ us hl => match us, hl with | [_], _ => rfl
  have D11 : Dd K mg "_law_cents" sCents ["box"] f11 _ := ⟨F11, b11, PySem.W.mg_of X G a11⟩
  have F12 := fun_mk (st := sPosts) l12 c12 k12
  have b12 := F12.binds (ps := ["box", "names"]) fun _ _ _ _ _ _ us hl => match us, hl with | [_, _], _ => rfl
  have D12 : Dd K mg "_law_postings" sPosts ["box", "names"] f12 _ := ⟨F12, b12, PySem.W.mg_of X G a12⟩
  have F13 := fun_mk (st := sSums) l13 c13 k13
  have b13 := F13.binds (ps := ["postings"]) fun _ _ _ _ _ _ us hl => match us, hl with | [_], _ => rfl
  have D13 : Dd K mg "_law_sums" sSums ["postings"] f13 _ := ⟨F13, b13, PySem.W.mg_of X G a13⟩
  have F14 := fun_mk (st := sSameN) l14 c14 k14
  have b14 := F14.binds (ps := ["actual", "due"]) fun _ _ _ _ _ _ us hl => match us, hl with | [_, _], _ => rfl
  have D14 : Dd K mg "_law_same_numbers" sSameN ["actual", "due"] f14 _ := ⟨F14, b14, PySem.W.mg_of X G a14⟩
  have F15 := fun_mk (st := sSumsH) l15 c15 k15
  have b15 := F15.binds (ps := ["postings", "strange"]) fun _ _ _ _ _ _ us hl => match us, hl with | [_, _], _ => rfl
  have D15 : Dd K mg "_law_sums_hold" sSumsH ["postings", "strange"] f15 _ := ⟨F15, b15, PySem.W.mg_of X G a15⟩
  have F16 := fun_mk (st := sHouseP) l16 c16 k16
  have b16 := F16.binds (ps := ["postings"]) fun _ _ _ _ _ _ us hl => match us, hl with | [_], _ => rfl
  have D16 : Dd K mg "_law_house_part" sHouseP ["postings"] f16 _ := ⟨F16, b16, PySem.W.mg_of X G a16⟩
  have F17 := fun_mk (st := sHousePH) l17 c17 k17
  have b17 := F17.binds (ps := ["postings"]) fun _ _ _ _ _ _ us hl => match us, hl with | [_], _ => rfl
  have D17 : Dd K mg "_law_house_part_holds" sHousePH ["postings"] f17 _ := ⟨F17, b17, PySem.W.mg_of X G a17⟩
  have F18 := fun_mk (st := sPurse) l18 c18 k18
  have b18 := F18.binds (ps := ["box", "names", "postings"]) fun _ _ _ _ _ _ us hl => match us, hl with | [_, _, _], _ => rfl
  have D18 : Dd K mg "_law_purse" sPurse ["box", "names", "postings"] f18 _ := ⟨F18, b18, PySem.W.mg_of X G a18⟩
  have F19 := fun_mk (st := sRule) l19 c19 k19
  have b19 := F19.binds (ps := ["purse"]) fun _ _ _ _ _ _ us hl => match us, hl with | [_], _ => rfl
  have D19 : Dd K mg "_law_rule" sRule ["purse"] f19 _ := ⟨F19, b19, PySem.W.mg_of X G a19⟩
  have F20 := fun_mk (st := sAfter) l20 c20 k20
  have b20 := F20.binds (ps := ["purse", "rows"]) fun _ _ _ _ _ _ us hl => match us, hl with | [_, _], _ => rfl
  have D20 : Dd K mg "_law_after" sAfter ["purse", "rows"] f20 _ := ⟨F20, b20, PySem.W.mg_of X G a20⟩
  have F21 := fun_mk (st := sOthers) l21 c21 k21
  have b21 := F21.binds (ps := ["box", "purse"]) fun _ _ _ _ _ _ us hl => match us, hl with | [_, _], _ => rfl
  have D21 : Dd K mg "_law_others" sOthers ["box", "purse"] f21 _ := ⟨F21, b21, PySem.W.mg_of X G a21⟩
  have F22 := fun_mk (st := sForm) l22 c22 k22
  have b22 := F22.binds (ps := ["rows"]) fun _ _ _ _ _ _ us hl => match us, hl with | [_], _ => rfl
  have D22 : Dd K mg "_law_form" sForm ["rows"] f22 _ := ⟨F22, b22, PySem.W.mg_of X G a22⟩
  have F23 := fun_mk (st := sPaid) l23 c23 k23
  have b23 := F23.binds (ps := ["purse", "others"]) fun _ _ _ _ _ _ us hl => match us, hl with | [_, _], _ => rfl
  have D23 : Dd K mg "_law_paid" sPaid ["purse", "others"] f23 _ := ⟨F23, b23, PySem.W.mg_of X G a23⟩
  have F24 := fun_mk (st := sSettles) l24 c24 k24
  have b24 := F24.binds (ps := ["purse", "rows"]) fun _ _ _ _ _ _ us hl => match us, hl with | [_, _], _ => rfl
  have D24 : Dd K mg "_law_settles" sSettles ["purse", "rows"] f24 _ := ⟨F24, b24, PySem.W.mg_of X G a24⟩
  have F25 := fun_mk (st := sError) l25 c25 k25
  have b25 := F25.binds (ps := ["raised"]) fun _ _ _ _ _ _ us hl => match us, hl with | [_], _ => rfl
  have D25 : Dd K mg "_law_error" sError ["raised"] f25 _ := ⟨F25, b25, PySem.W.mg_of X G a25⟩
  have F26 := fun_mk (st := sRefS) l26 c26 k26
  have b26 := F26.binds (ps := ["purse"]) fun _ _ _ _ _ _ us hl => match us, hl with | [_], _ => rfl
  have D26 : Dd K mg "_law_refused_sum" sRefS ["purse"] f26 _ := ⟨F26, b26, PySem.W.mg_of X G a26⟩
  have F27 := fun_mk (st := sRefN) l27 c27 k27
  have b27 := F27.binds (ps := ["purse", "rows", "name"]) fun _ _ _ _ _ _ us hl => match us, hl with | [_, _, _], _ => rfl
  have D27 : Dd K mg "_law_refused_name" sRefN ["purse", "rows", "name"] f27 _ := ⟨F27, b27, PySem.W.mg_of X G a27⟩
  have F28 := fun_mk (st := sLaw) l28 c28 k28
  have FmI := fun_mk (st := sInv) lmI cmI kmI
  have bmI := FmI.binds (ps := ["self", "what"]) fun _ _ _ _ _ _ us hl => match us, hl with | [_, _], _ => rfl
  have EI : ErrC K CI mI "what" := ⟨⟨⟨_, _, _, _, _, _, _, _, _, _, _, _, _, _, _, xIl, xIv⟩, xIs, xIe, xIt, xIk⟩, ⟨xIg, xIa, xIe, xIh⟩, xIn, xIi, xIy, cls_some xIh, xIo, xIm, oHn, oTk⟩
  have MI : Mm K "__init__" "Invalid.__init__" sInv ["self", "what"] mI _ := ⟨FmI, bmI⟩
  have FmU := fun_mk (st := sUnk) lmU cmU kmU
  have bmU := FmU.binds (ps := ["self", "name"]) fun _ _ _ _ _ _ us hl => match us, hl with | [_, _], _ => rfl
  have EU : ErrC K CU mU "name" := ⟨⟨⟨_, _, _, _, _, _, _, _, _, _, _, _, _, _, _, xUl, xUv⟩, xUs, xUe, xUt, xUk⟩, ⟨xUg, xUa, xUe, xUh⟩, xUn, xUi, xUy, cls_some xUh, xUo, xUm, oHn, oTk⟩
  have MU : Mm K "__init__" "Unknown.__init__" sUnk ["self", "name"] mU _ := ⟨FmU, bmU⟩
  refine ⟨PySem.W.fnOf "law" "law" (defArgs sLaw) (defBody sLaw) (defScope sLaw) .none kV28 dc28 pm28 an28 cd28 ct28, fun s v => .of_eq rfl, fun base _ _ => ?_⟩
  have B : Blt mg := ⟨PySem.W.mg_none_of X G z_len, PySem.W.mg_none_of X G z_int, PySem.W.mg_none_of X G z_str, PySem.W.mg_none_of X G z_list, PySem.W.mg_none_of X G z_tuple, PySem.W.mg_none_of X G z_dict, PySem.W.mg_none_of X G z_bool, PySem.W.mg_none_of X G z_range, PySem.W.mg_none_of X G z_sorted, PySem.W.mg_none_of X G z_isinstance, PySem.W.mg_none_of X G z_sum, PySem.W.mg_none_of X G z_min, PySem.W.mg_none_of X G z_max, PySem.W.mg_none_of X G z_abs⟩
  have RI : EInv K mg CI mI _ := ⟨EI, MI, PySem.W.mg_of X G aIc⟩
  have RU : EUnk K mg CU mU _ := ⟨EU, MU, PySem.W.mg_of X G aUc⟩
  have GE : EGl mg CP CI CU C2 C3 C4 C5 C6 C7 := ⟨PySem.W.mg_of X G aPc, PySem.W.mg_of X G aIc, PySem.W.mg_of X G aUc, PySem.W.mg_of X G a2c, PySem.W.mg_of X G a3c, PySem.W.mg_of X G a4c, PySem.W.mg_of X G a5c, PySem.W.mg_of X G a6c, PySem.W.mg_of X G a7c, PySem.W.mg_none_of X G z_ValueError⟩
  have KI : Kinds K CI CI CU C2 C3 C4 C5 C6 C7 true false false false false false false false := ⟨kit_t (kit_refC xIh xIt sII), kit_f nsIU (kit_refC xUh xUt sIU), kit_f nsI2 (kit_refC x2h x2t sI2), kit_f nsI3 (kit_refC x3h x3t sI3), kit_f nsI4 (kit_refC x4h x4t sI4), kit_f nsI5 (kit_refC x5h x5t sI5), kit_f nsI6 (kit_refC x6h x6t sI6), kit_f nsI7 (kit_refC x7h x7t sI7), kit_t (kit_tyC rfl sIV)⟩
  have KU : Kinds K CU CI CU C2 C3 C4 C5 C6 C7 false true false false false false false false := ⟨kit_f nsUI (kit_refC xIh xIt sUI), kit_t (kit_refC xUh xUt sUU), kit_f nsU2 (kit_refC x2h x2t sU2), kit_f nsU3 (kit_refC x3h x3t sU3), kit_f nsU4 (kit_refC x4h x4t sU4), kit_f nsU5 (kit_refC x5h x5t sU5), kit_f nsU6 (kit_refC x6h x6t sU6), kit_f nsU7 (kit_refC x7h x7t sU7), kit_t (kit_tyC rfl sUV)⟩
  have XI : PySem.W.exmOne K (.ref CI) (.ref CP) = some true := PySem.W.exm_ref xPe xPh xPt sIP
  have XU : PySem.W.exmOne K (.ref CU) (.ref CP) = some true := PySem.W.exm_ref xPe xPh xPt sUP
  have cHPosts : C1 l.prog w K mg base "house_postings" sHPosts ["postings"] 1 (spHPosts) _ _ := ⟨D1, ok_hposts D1.F⟩
  have cPay : C1X l.prog w K mg base "payments" sPay ["balances"] 3 (spPay CI) _ _ := ⟨D2, ok_pay D2.F B RI⟩
  have cSettled : C1X l.prog w K mg base "settled" sSettled ["balances", "payments"] 3 (spSettled CU) _ _ := ⟨D3, ok_settled D3.F B RU⟩
  have cBals : C1 l.prog w K mg base "balances" sBals ["postings"] 1 (spBals) _ _ := ⟨D4, ok_bals D4.F B⟩
  have cBal : C1 l.prog w K mg base "balance" sBal ["postings", "account"] 1 (spBal) _ _ := ⟨D5, ok_bal D5.F B⟩
  have cLBox : C1 l.prog w K mg base "_law_box" sLBox ["script"] 1 (spLBox K) _ _ := ⟨D6, ok_lbox D6.F B⟩
  have cDraw : C1 l.prog w K mg base "_law_draw" sDraw ["box", "many"] 1 (spDraw) _ _ := ⟨D7, ok_draw D7.F B⟩
  have cIsInt : C1 l.prog w K mg base "_law_is_integer" sIsInt ["actual"] 1 (spIsInt) _ _ := ⟨D8, ok_isint D8.F B⟩
  have cNames : C1 l.prog w K mg base "_law_names" sNames ["box"] 2 (spNames) _ _ := ⟨D9, ok_names D9.F cDraw B⟩
  have cAcc : C1 l.prog w K mg base "_law_account" sAcc ["box", "names"] 2 (spAcc K) _ _ := ⟨D10, ok_acc D10.F cDraw B⟩
  have cCents : C1 l.prog w K mg base "_law_cents" sCents ["box"] 2 (spCents) _ _ := ⟨D11, ok_cents D11.F cDraw⟩
  have cPosts : C1 l.prog w K mg base "_law_postings" sPosts ["box", "names"] 3 (spPosts) _ _ := ⟨D12, ok_posts D12.F cDraw cAcc cCents B⟩
  have cSums : C1 l.prog w K mg base "_law_sums" sSums ["postings"] 1 (spSums) _ _ := ⟨D13, ok_sums D13.F B⟩
  have cSameN : C1 l.prog w K mg base "_law_same_numbers" sSameN ["actual", "due"] 2 (spSameN) _ _ := ⟨D14, ok_samen D14.F cIsInt B⟩
  have cSumsH : C1 l.prog w K mg base "_law_sums_hold" sSumsH ["postings", "strange"] 3 (spSumsH) _ _ := ⟨D15, ok_sumsh D15.F cSums cSameN cBals cBal cIsInt B⟩
  have cHouseP : C1 l.prog w K mg base "_law_house_part" sHouseP ["postings"] 1 (spHouseP) _ _ := ⟨D16, ok_housep D16.F⟩
  have cHousePH : C1 l.prog w K mg base "_law_house_part_holds" sHousePH ["postings"] 2 (spHousePH) _ _ := ⟨D17, ok_houseph D17.F cHouseP cHPosts B⟩
  have cPurse : C1 l.prog w K mg base "_law_purse" sPurse ["box", "names", "postings"] 3 (spPurse) _ _ := ⟨D18, ok_purse D18.F cDraw cCents cSums cHouseP B⟩
  have cRule : C1 l.prog w K mg base "_law_rule" sRule ["purse"] 1 (spRule) _ _ := ⟨D19, ok_rule D19.F B⟩
  have cAfter : C1 l.prog w K mg base "_law_after" sAfter ["purse", "rows"] 1 (spAfter) _ _ := ⟨D20, ok_after D20.F B⟩
  have cOthers : C1 l.prog w K mg base "_law_others" sOthers ["box", "purse"] 3 (spOthers) _ _ := ⟨D21, ok_others D21.F cDraw cCents cRule cAfter B⟩
  have cForm : C1 l.prog w K mg base "_law_form" sForm ["rows"] 2 (spForm) _ _ := ⟨D22, ok_form D22.F cIsInt B⟩
  have cPaid : C1 l.prog w K mg base "_law_paid" sPaid ["purse", "others"] 4 (spPaid) _ _ := ⟨D23, ok_paid D23.F cPay cForm cRule B⟩
  have cSettles : C1 l.prog w K mg base "_law_settles" sSettles ["purse", "rows"] 4 (spSettles) _ _ := ⟨D24, ok_settles D24.F cSettled cSameN cAfter B⟩
  have cErr : CErr l.prog w K mg base CI CU C2 C3 C4 C5 C6 C7 _ _ := ⟨D25, ok_error D25.F B GE⟩
  have cRefS : C1 l.prog w K mg base "_law_refused_sum" sRefS ["purse"] 4 (spRefS) _ _ := ⟨D26, ok_refs D26.F cPay cErr RI GE KI XI B⟩
  have cRefN : C1 l.prog w K mg base "_law_refused_name" sRefN ["purse", "rows", "name"] 4 (spRefN) _ _ := ⟨D27, ok_refn D27.F cSettled cErr RU GE KU XU B⟩
  exact ok_law F28 cLBox cNames cDraw cCents cPosts cSumsH cHousePH cPurse cOthers cPaid cRule cSettles cForm cPay cSettled cSameN cAfter cRefS cRefN B
end Tb
open PySem PySem.W PyProof.Rows
set_option maxRecDepth 100000 in
set_option maxHeartbeats 0 in
theorem PySem.Challenge.cw_everyparcel_k43_whole_payments_holds : PySem.Challenge.rw_everyparcel_k43_whole_payments.Holds := by
  w_on; o_law; k_head; (case hw => w_witness2)
  k_fill
  refine L2.walk_of (l := PySem.Challenge.rw_everyparcel_k43_whole_payments) (n := 63) (k := 5) (x := "script") (CX := fun _ => L2.CX0) (sp := fun w => Tb.spLaw _) rfl (by decide) rfl ⟨rfl, by decide, by decide⟩ (fun w h Y => PySem.W.kIn_of Y) ?F (fun _ _ a ns hl _ hS => ⟨a, ns, rfl, hS, fun _ => rfl⟩) (fun _ _ _ _ _ h => h)
  case F =>
    intro w mg fa h KX G hmg
    refine' Tb.all_mk KX G hmg ?a1 ?l1 ?c1 ?k1 ?a2 ?l2 ?c2 ?k2 ?a3 ?l3 ?c3 ?k3 ?a4 ?l4 ?c4 ?k4 ?a5 ?l5 ?c5 ?k5 ?a6 ?l6 ?c6 ?k6 ?a7 ?l7 ?c7 ?k7 ?a8 ?l8 ?c8 ?k8 ?a9 ?l9 ?c9 ?k9 ?a10 ?l10 ?c10 ?k10 ?a11 ?l11 ?c11 ?k11 ?a12 ?l12 ?c12 ?k12 ?a13 ?l13 ?c13 ?k13 ?a14 ?l14 ?c14 ?k14 ?a15 ?l15 ?c15 ?k15 ?a16 ?l16 ?c16 ?k16 ?a17 ?l17 ?c17 ?k17 ?a18 ?l18 ?c18 ?k18 ?a19 ?l19 ?c19 ?k19 ?a20 ?l20 ?c20 ?k20 ?a21 ?l21 ?c21 ?k21 ?a22 ?l22 ?c22 ?k22 ?a23 ?l23 ?c23 ?k23 ?a24 ?l24 ?c24 ?k24 ?a25 ?l25 ?c25 ?k25 ?a26 ?l26 ?c26 ?k26 ?a27 ?l27 ?c27 ?k27 ?a28 ?l28 ?c28 ?k28 ?z_len ?z_int ?z_str ?z_list ?z_tuple ?z_dict ?z_bool ?z_range ?z_sorted ?z_isinstance ?z_sum ?z_min ?z_max ?z_abs ?z_ValueError ?oHn ?oTk ?aIc ?xIl ?xIv ?xIi ?xIs ?xIe ?xIt ?xIk ?xIg ?xIa ?xIh ?xIn ?xIy ?xIo ?xIm ?lmI ?cmI ?kmI ?aUc ?xUl ?xUv ?xUi ?xUs ?xUe ?xUt ?xUk ?xUg ?xUa ?xUh ?xUn ?xUy ?xUo ?xUm ?lmU ?cmU ?kmU ?aPc ?xPh ?xPt ?xPe ?a2c ?x2h ?x2t ?a3c ?x3h ?x3t ?a4c ?x4h ?x4t ?a5c ?x5h ?x5t ?a6c ?x6h ?x6t ?a7c ?x7h ?x7t ?sIP ?sIV ?sII ?sIU ?nsIU ?sI2 ?nsI2 ?sI3 ?nsI3 ?sI4 ?nsI4 ?sI5 ?nsI5 ?sI6 ?nsI6 ?sI7 ?nsI7 ?sUP ?sUV ?sUU ?sUI ?nsUI ?sU2 ?nsU2 ?sU3 ?nsU3 ?sU4 ?nsU4 ?sU5 ?nsU5 ?sU6 ?nsU6 ?sU7 ?nsU7
    (case a1 => k_is); (case l1 => k_is); (case c1 => k_is); (case k1 => k_is); (case a2 => k_is); (case l2 => k_is); (case c2 => k_is); (case k2 => k_is)
    (case a3 => k_is); (case l3 => k_is); (case c3 => k_is); (case k3 => k_is); (case a4 => k_is); (case l4 => k_is); (case c4 => k_is); (case k4 => k_is)
    (case a5 => k_is); (case l5 => k_is); (case c5 => k_is); (case k5 => k_is); (case a6 => k_is); (case l6 => k_is); (case c6 => k_is); (case k6 => k_is)
    (case a7 => k_is); (case l7 => k_is); (case c7 => k_is); (case k7 => k_is); (case a8 => k_is); (case l8 => k_is); (case c8 => k_is); (case k8 => k_is)
    (case a9 => k_is); (case l9 => k_is); (case c9 => k_is); (case k9 => k_is); (case a10 => k_is); (case l10 => k_is); (case c10 => k_is); (case k10 => k_is)
    (case a11 => k_is); (case l11 => k_is); (case c11 => k_is); (case k11 => k_is); (case a12 => k_is); (case l12 => k_is); (case c12 => k_is); (case k12 => k_is)
    (case a13 => k_is); (case l13 => k_is); (case c13 => k_is); (case k13 => k_is); (case a14 => k_is); (case l14 => k_is); (case c14 => k_is); (case k14 => k_is)
    (case a15 => k_is); (case l15 => k_is); (case c15 => k_is); (case k15 => k_is); (case a16 => k_is); (case l16 => k_is); (case c16 => k_is); (case k16 => k_is)
    (case a17 => k_is); (case l17 => k_is); (case c17 => k_is); (case k17 => k_is); (case a18 => k_is); (case l18 => k_is); (case c18 => k_is); (case k18 => k_is)
    (case a19 => k_is); (case l19 => k_is); (case c19 => k_is); (case k19 => k_is); (case a20 => k_is); (case l20 => k_is); (case c20 => k_is); (case k20 => k_is)
    (case a21 => k_is); (case l21 => k_is); (case c21 => k_is); (case k21 => k_is); (case a22 => k_is); (case l22 => k_is); (case c22 => k_is); (case k22 => k_is)
    (case a23 => k_is); (case l23 => k_is); (case c23 => k_is); (case k23 => k_is); (case a24 => k_is); (case l24 => k_is); (case c24 => k_is); (case k24 => k_is)
    (case a25 => k_is); (case l25 => k_is); (case c25 => k_is); (case k25 => k_is); (case a26 => k_is); (case l26 => k_is); (case c26 => k_is); (case k26 => k_is)
    (case a27 => k_is); (case l27 => k_is); (case c27 => k_is); (case k27 => k_is); (case a28 => k_is); (case l28 => k_is); (case c28 => k_is); (case k28 => k_is)
    (case z_len => k_is); (case z_int => k_is); (case z_str => k_is); (case z_list => k_is); (case z_tuple => k_is); (case z_dict => k_is); (case z_bool => k_is); (case z_range => k_is)
    (case z_sorted => k_is); (case z_isinstance => k_is); (case z_sum => k_is); (case z_min => k_is); (case z_max => k_is); (case z_abs => k_is); (case z_ValueError => k_is); (case oHn => k_is)
    (case oTk => k_is); (case aIc => k_is); (case xIl => k_is); (case xIv => first | rfl | decide +kernel); (case xIi => k_is); (case xIs => k_is); (case xIe => k_is); (case xIt => k_is)
    (case xIk => k_is); (case xIg => k_is); (case xIa => k_is); (case xIh => k_is); (case xIn => k_is); (case xIy => k_is); (case xIo => k_is); (case xIm => k_is)
    (case lmI => k_is); (case cmI => k_is); (case kmI => k_is); (case aUc => k_is); (case xUl => k_is); (case xUv => first | rfl | decide +kernel); (case xUi => k_is); (case xUs => k_is)
    (case xUe => k_is); (case xUt => k_is); (case xUk => k_is); (case xUg => k_is); (case xUa => k_is); (case xUh => k_is); (case xUn => k_is); (case xUy => k_is)
    (case xUo => k_is); (case xUm => k_is); (case lmU => k_is); (case cmU => k_is); (case kmU => k_is); (case aPc => k_is); (case xPh => k_is); (case xPt => k_is)
    (case xPe => k_is); (case a2c => k_is); (case x2h => k_is); (case x2t => k_is); (case a3c => k_is); (case x3h => k_is); (case x3t => k_is); (case a4c => k_is)
    (case x4h => k_is); (case x4t => k_is); (case a5c => k_is); (case x5h => k_is); (case x5t => k_is); (case a6c => k_is); (case x6h => k_is); (case x6t => k_is)
    (case a7c => k_is); (case x7h => k_is); (case x7t => k_is); (case sIP => k_is); (case sIV => k_is); (case sII => k_is); (case sIU => k_is); (case nsIU => first | rfl | decide +kernel)
    (case sI2 => k_is); (case nsI2 => first | rfl | decide +kernel); (case sI3 => k_is); (case nsI3 => first | rfl | decide +kernel); (case sI4 => k_is); (case nsI4 => first | rfl | decide +kernel); (case sI5 => k_is); (case nsI5 => first | rfl | decide +kernel)
    (case sI6 => k_is); (case nsI6 => first | rfl | decide +kernel); (case sI7 => k_is); (case nsI7 => first | rfl | decide +kernel); (case sUP => k_is); (case sUV => k_is); (case sUU => k_is); (case sUI => k_is)
    (case nsUI => first | rfl | decide +kernel); (case sU2 => k_is); (case nsU2 => first | rfl | decide +kernel); (case sU3 => k_is); (case nsU3 => first | rfl | decide +kernel); (case sU4 => k_is); (case nsU4 => first | rfl | decide +kernel); (case sU5 => k_is)
    (case nsU5 => first | rfl | decide +kernel); (case sU6 => k_is); (case nsU6 => first | rfl | decide +kernel); (case sU7 => k_is); (case nsU7 => first | rfl | decide +kernel)
