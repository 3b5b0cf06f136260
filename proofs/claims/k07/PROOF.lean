import PyProof.Rows.All
import Wide.All
import OpenK.AllK
import Wide.FinOn
import HandS.TupSets
import KE.SortData
import KE.KDictKeyed
import HandS.ForMost
import PyProof.Transfer
import HandS.Wide
import HandS.StrMore
import HandS.IsInst
import HandS.Codes
import HandS.Walk
import HandS.More
import HandS.Conv
import HandS.DictComp
import HandS.ListItems
import HandS.Property
import HandS.Star
import HandS.Exc
import HandS.TryOnly
import HandS.TryMany
import HandS.ExcOwn
import HandS.WordsExc
import HandS.ExcInit
import HandS.ExcField
import HandS.ExcIs
import HandS.RaiseMore
import KE.KItemsList
import KE.KExcIs
import KE.KDictList
import HandS.SetKeys
import HandS.Style
import KE.DataCmp
import PySem.Challenge.RW_everyparcel_k07_whole_tests_and_ranks_te
set_option Elab.async false
set_option linter.all false
set_option maxRecDepth 100000
/-! sets of any heap keys: the table, up to 512 slots -/
namespace SH
open PySem PySem.Spec PyProof.Rows L2
/-- 1 + 5 + 25 + .. -/
def geo : Nat → Nat
  | 0 => 0
  | k + 1 => geo k * 5 + 1
theorem geo_pow : ∀ k, 5 ^ k = 4 * geo k + 1
  | 0 => rfl
  | k + 1 => by
    rw [Nat.pow_succ, geo_pow k]
    show (4 * geo k + 1) * 5 = 4 * (geo k * 5 + 1) + 1
    omega
theorem lcg_geo (m : Nat) : ∀ k, lcgN m k = geo k % (m + 1)
  | 0 => (Nat.zero_mod _).symm
  | k + 1 => by
    show (lcgN m k * 5 + 1) % (m + 1) = (geo k * 5 + 1) % (m + 1)
    rw [lcg_geo m k, Nat.add_mod, Nat.mod_mul_mod, ← Nat.add_mod]
theorem geo_eq (k : Nat) : geo k = (5 ^ k - 1) / 4 := by
  have := geo_pow k
  omega
/-- the step at which the slot j comes, bit by bit -/
def stepOf (j : Nat) : Nat := (List.range 9).foldl (fun b i => if 5 ^ b % 2 ^ (i + 3) = (4 * j + 1) % 2 ^ (i + 3) then b else b + 2 ^ i) 0
theorem steps512 : ((List.range 512).all fun j => decide (stepOf j ≤ 511 ∧ (5 ^ stepOf j - 1) / 4 % 512 = j)) = true := by decide +kernel
/-- soon enough each slot begins a run -/
def Meets (m : Nat) : Prop := ∀ (g : Int) (j : Nat), j ≤ m → ∃ n, n ≤ m + 12 ∧ runI m (SetTable.bits g) n = j
theorem meets_of {m : Nat} (all : ∀ j, j ≤ m → ∃ b, b ≤ m ∧ lcgN m b = j) (round : lcgN m (m + 1) = 0) : Meets m := by
  have per : ∀ k, lcgN m (m + 1 + k) = lcgN m k := by
    intro k
    induction k with
    | zero => exact round
    | succ k ih => exact congrArg (fun x => (x * 5 + 1) % (m + 1)) ih
  intro g j hj
  obtain ⟨a, ha, ea⟩ := all _ (runI_le m (SetTable.bits g) 12)
  obtain ⟨b, hb, eb⟩ := all j hj
  have key : ∀ k, lcgN m (a + k) = j → runI m (SetTable.bits g) (12 + k) = j := fun k e => by
    rw [runI_tail (bits_lt g), ← ea, lcgN_add, e]
  by_cases c : a ≤ b
  · exact ⟨12 + (b - a), by omega, key _ (by rw [show a + (b - a) = b by omega, eb])⟩
  · exact ⟨12 + (m + 1 + b - a), by omega, key _ (by rw [show a + (m + 1 + b - a) = m + 1 + b by omega, per, eb])⟩
theorem meets511 : Meets 511 := by
  refine meets_of (fun j hj => ?_) ?_
  · have h := List.all_eq_true.mp steps512 j (List.mem_range.mpr (by omega))
    rw [decide_eq_true_eq] at h
    exact ⟨stepOf j, h.1, by rw [lcg_geo, geo_eq]; exact h.2⟩
  · rw [lcg_geo, geo_eq]
    decide +kernel
/-- the masks that come with fewer than 300 members -/
def Mk (m : Nat) : Prop := MaskOk m ∨ m = 511
theorem Mk.meets {m : Nat} (h : Mk m) : Meets m := by
  rcases h with h | rfl
  · exact fun g j hj => run_meets h g hj
  · exact meets511
theorem Mk.odd {m : Nat} (h : Mk m) : m % 2 = 1 := by
  rcases h with h | rfl
  · exact mask_odd h
  · rfl
theorem Mk.cases {m : Nat} (h : Mk m) : m = 7 ∨ m = 31 ∨ m = 127 ∨ m = 511 := by
  rcases h with (h | h | h) | h
  · exact .inl h
  · exact .inr (.inl h)
  · exact .inr (.inr (.inl h))
  · exact .inr (.inr (.inr h))
theorem way_in (m : Nat) (g : Int) (k : Nat) : way m g k ≤ m := by
  have r := runEnd_bd (Nat.le_of_lt_succ (Nat.mod_lt (SetTable.bits g) (Nat.succ_pos m)))
  have q := nth_in (m := m) k (runAt m (SetTable.bits g % (m + 1)) (SetTable.bits g)) (by
    show SetTable.bits g % (m + 1) + (SetTable.runEnd m (SetTable.bits g % (m + 1)) - SetTable.bits g % (m + 1)) ≤ m
    rw [Nat.add_sub_cancel' r.2.1]
    exact r.1)
  exact Nat.le_trans (Nat.le_add_right _ _) q
theorem way_meets {m : Nat} (hm : Meets m) (g : Int) {j : Nat} (hj : j ≤ m) : ∃ k, k < 10 * SetTable.turns m ∧ way m g k = j := by
  obtain ⟨n, hn, e⟩ := hm g j hj
  obtain ⟨k, hk, e2⟩ := run_nth m (SetTable.bits g) n
  exact ⟨k, by unfold SetTable.turns; omega, (congrArg SetTable.Probe.j e2).trans e⟩
/-- each member is found again from its hash gs -/
structure TabM (t : SetTable) (gs : List Int) : Prop where
  up : Ris t.place.toList
  no : t.dummies = #[]
  n : t.place.size = gs.length
  msk : Mk t.mask
  le : ∀ x, x ∈ t.place.toList → x ≤ t.mask
  at' : ∀ (i : Nat) (g : Int) (j : Nat), gs[i]? = some g → t.place.toList[i]? = some j → ∃ k, way t.mask g k = j ∧ ∀ c, c < k → way t.mask g c ∈ t.place.toList
section
variable {t : SetTable} {gs : List Int}
theorem TabM.len (T : TabM t gs) : t.place.toList.length = gs.length := (Array.length_toList).trans T.n
theorem TabM.gap (T : TabM t gs) (hl : gs.length ≤ t.mask) (g : Int) : ∃ K, K < 10 * SetTable.turns t.mask ∧ way t.mask g K ∉ t.place.toList ∧ ∀ c, c < K → way t.mask g c ∈ t.place.toList := by
  obtain ⟨j, hj, hn⟩ := st_missing t.place.toList (t.mask + 1) (by rw [T.len]; omega)
  obtain ⟨k, hk, e⟩ := way_meets T.msk.meets g (Nat.le_of_lt_succ hj)
  obtain ⟨K, h1, h2, h3⟩ := st_least (p := fun c => way t.mask g c ∉ t.place.toList) k (fun z => hn (e ▸ z))
  exact ⟨K, Nat.lt_of_le_of_lt h1 hk, h2, fun c hc => Classical.not_not.mp (h3 c hc)⟩
theorem TabM.ahead (T : TabM t gs) {g : Int} {K i j : Nat} (hK : way t.mask g K ∉ t.place.toList) (hi : gs[i]? = some g) (hj : t.place.toList[i]? = some j) : ∃ k, k < K ∧ way t.mask g k = j := by
  obtain ⟨k, e, hb⟩ := T.at' i g j hi hj
  refine ⟨k, Nat.lt_of_not_le fun z => ?_, e⟩
  rcases Nat.lt_or_eq_of_le z with c | c
  · exact hK (hb K c)
  · exact hK (c ▸ e ▸ List.mem_of_getElem? hj)
theorem TabM.put (T : TabM t gs) {g : Int} {K : Nat} (hK : way t.mask g K ∉ t.place.toList) (hb : ∀ c, c < K → way t.mask g c ∈ t.place.toList) :
    SetTable.below t.place (way t.mask g K) ≤ gs.length ∧ TabM (t.put (way t.mask g K)).1 (gs.take (SetTable.below t.place (way t.mask g K)) ++ g :: gs.drop (SetTable.below t.place (way t.mask g K))) ∧ (t.put (way t.mask g K)).1.fill = gs.length + 1 := by
  have hin := way_in t.mask g K
  generalize hj : way t.mask g K = j at hK hin ⊢
  obtain ⟨c1, _, _⟩ := below_cut T.up j
  have b1 : SetTable.below t.place j ≤ t.place.toList.length := by rw [Array.length_toList]; exact c1
  have b2 : SetTable.below t.place j ≤ gs.length := T.len ▸ b1
  have pp := put_place t j
  have sz : (t.put j).1.place.size = gs.length + 1 := by rw [← Array.length_toList, pp, len_ins _ b1, T.len]
  have sub : ∀ x, x ∈ t.place.toList → x ∈ (t.put j).1.place.toList := fun x hx => by
    rw [pp]
    exact mem_ins.mpr (.inr hx)
  have pd := put_dm T.no j
  refine ⟨b2, ⟨ris_insert T.up fun e => hK (List.mem_of_getElem? (i := SetTable.below t.place j) (by rw [Array.getElem?_toList]; exact e)), pd, by rw [len_ins _ b2, sz], T.msk, fun x hx => ?_, fun i g' j' e1 e2 => ?_⟩, ?_⟩
  · rw [pp] at hx
    rcases mem_ins.mp hx with z | z
    · exact z ▸ hin
    · exact T.le x z
  · rw [tins_get gs b2] at e1
    rw [pp, tins_get _ b1] at e2
    have old : ∀ i', gs[i']? = some g' → t.place.toList[i']? = some j' → ∃ k, way t.mask g' k = j' ∧ ∀ c, c < k → way t.mask g' c ∈ (t.put j).1.place.toList := fun i' z1 z2 => by
      obtain ⟨k, e, z⟩ := T.at' i' g' j' z1 z2
      exact ⟨k, e, fun c hc => sub _ (z c hc)⟩
    by_cases lo : i < SetTable.below t.place j
    · rw [if_pos lo] at e1 e2
      exact old i e1 e2
    · rw [if_neg lo] at e1 e2
      by_cases eq : i = SetTable.below t.place j
      · rw [if_pos eq] at e1 e2
        cases e1
        cases e2
        exact ⟨K, hj, fun c hc => sub _ (hb c hc)⟩
      · rw [if_neg eq] at e1 e2
        exact old (i - 1) e1 e2
  · show (t.put j).1.place.size + (t.put j).1.dummies.size = _
    rw [sz, pd]
    rfl
end
/-! laying anew -/
theorem free_way {m : Nat} (hm : Meets m) (ow : Array (Option Nat)) (g : Int) {j : Nat} (hj : j ≤ m) (hf : oAt ow j = none) :
    ∃ K, SetTable.layClean.free m ow (SetTable.turns m) (SetTable.bits g % (m + 1)) (SetTable.bits g) = some (way m g K) ∧ oAt ow (way m g K) = none ∧ ∀ c, c < K → oAt ow (way m g c) ≠ none := by
  obtain ⟨n, hn, e⟩ := hm g j hj
  have hw : way m g (off m (SetTable.bits g % (m + 1)) (SetTable.bits g) n) = j := by
    show (nth m (runAt m _ _) _).j = j
    rw [nth_off, itL_run]
    exact e
  obtain ⟨K, k1, k2, k3⟩ := st_least (p := fun c => oAt ow (way m g c) = none) _ (show oAt ow (way m g (off m (SetTable.bits g % (m + 1)) (SetTable.bits g) n)) = none by rw [hw]; exact hf)
  refine ⟨K, free_spec m ow _ n _ _ K (by unfold SetTable.turns; omega) k1 (fun c hc => ?_) (by rw [show oAt ow (nth m _ K).j = none from k2]; rfl), k2, k3⟩
  cases z : oAt ow (nth m (runAt m (SetTable.bits g % (m + 1)) (SetTable.bits g)) c).j with
  | none => exact absurd z (k3 c hc)
  | some _ => rfl
theorem own_next {m : Nat} (hm : Meets m) {done : List Int} {ow : Array (Option Nat)} (W : Own m done ow) (hl : done.length ≤ m) (g : Int) :
    ∃ j, SetTable.layClean.free m ow (SetTable.turns m) (SetTable.bits g % (m + 1)) (SetTable.bits g) = some j ∧ Own m (done ++ [g]) (ow.setIfInBounds j (some done.length)) := by
  obtain ⟨ps, hps, hin⟩ := W.ps
  obtain ⟨j0, h0, hn0⟩ := st_missing ps (m + 1) (hps ▸ Nat.lt_succ_of_le hl)
  obtain ⟨K, e1, e2, e3⟩ := free_way hm ow g (Nat.le_of_lt_succ h0) (Classical.byContradiction fun z => hn0 (hin j0 (Nat.le_of_lt_succ h0) z))
  have hjm := way_in m g K
  generalize hj : way m g K = j at e1 e2 hjm
  have hjs : j < ow.size := by rw [W.sz]; omega
  have self := oAt_set_self (some done.length) hjs
  have up : ∀ i, oAt ow i ≠ none → oAt (ow.setIfInBounds j (some done.length)) i ≠ none := fun i hi => by
    by_cases c : i = j
    · rw [c, self]
      exact Option.some_ne_none _
    · rw [oAt_set_ne _ c]
      exact hi
  refine ⟨j, e1, by rw [Array.size_setIfInBounds]; exact W.sz, fun i k hi e => ?_, fun k hk => ?_, j :: ps, by simp [hps], fun i hi e => ?_⟩
  · by_cases c : i = j
    · rw [c, self] at e
      cases e
      exact ⟨g, K, by rw [List.getElem?_append_right (Nat.le_refl _), Nat.sub_self]; rfl, hj.trans c.symm, fun c' hc' => up _ (e3 c' hc')⟩
    · rw [oAt_set_ne _ c] at e
      obtain ⟨g', K', a1, a2, a3⟩ := W.at_ i k hi e
      exact ⟨g', K', by rw [List.getElem?_append_left (List.getElem?_eq_some_iff.mp a1).1]; exact a1, a2, fun c' hc' => up _ (a3 c' hc')⟩
  · by_cases c : k = done.length
    · exact ⟨j, hjm, c ▸ self⟩
    · rw [List.length_append] at hk
      obtain ⟨i, hi, e⟩ := W.all k (by simp at hk; omega)
      exact ⟨i, hi, by rw [oAt_set_ne _ (fun z => by rw [z, e2] at e; cases e)]; exact e⟩
  · by_cases c : i = j
    · exact c ▸ List.mem_cons_self
    · rw [oAt_set_ne _ c] at e
      exact List.mem_cons_of_mem _ (hin i hi e)
theorem lay_fold {m : Nat} (hm : Meets m) : ∀ (more done : List Int) (ow : Array (Option Nat)), Own m done ow → done.length + more.length ≤ m → ∃ ow', more.foldl (stepF m) (some (ow, done.length)) = some (ow', (done ++ more).length) ∧ Own m (done ++ more) ow'
  | [], done, ow, W, _ => by
    rw [List.append_nil]
    exact ⟨ow, rfl, W⟩
  | g :: more, done, ow, W, hl => by
    have hl2 : done.length + (more.length + 1) ≤ m := hl
    obtain ⟨j, e, W'⟩ := own_next hm W (by omega) g
    have q := lay_fold hm more (done ++ [g]) _ W' (by rw [List.length_append]; show done.length + 1 + more.length ≤ m; omega)
    rw [List.append_assoc, List.length_append] at q
    obtain ⟨ow', f, W2⟩ := q
    refine ⟨ow', ?_, W2⟩
    rw [List.foldl_cons, stepF_some (k := done.length) e]
    exact f
theorem lay_clean {m : Nat} (hm : Meets m) {hs : Array Int} (hn : hs.size ≤ m) : ∃ ow, SetTable.layClean m hs = some ow ∧ Own m hs.toList ow := by
  obtain ⟨ow, f, W⟩ := lay_fold hm hs.toList [] _ (Own.init m) (by show 0 + hs.toList.length ≤ m; rw [Array.length_toList]; omega)
  exact ⟨ow, by rw [layClean_eq, show hs.toList.foldl (stepF m) (some (Array.replicate (m + 1) none, 0)) = _ from f]; rfl, W⟩
theorem relaid_tab (t : SetTable) {hs : Array Int} {wanted M : Nat} (hw : SetTable.sizeAbove wanted - 1 = M) (hM : Mk M) (hn : hs.size ≤ M) :
    ∃ t' order, t.relaid hs wanted = some (t', order) ∧ order.toList.Perm (List.range hs.size) ∧ TabM t' (order.toList.map fun i => hs.getD i 0) ∧ t'.mask = M ∧ t'.led = t.led := by
  obtain ⟨ow, e, W⟩ := lay_clean hM.meets hn
  have er : t.relaid hs wanted = some (tabOf t M ow, ((liveOf M ow).map (·.2)).toArray) := by
    rw [relaid_eq, hw, e]
    rfl
  have rr := ris_live (fun j => ow.getD j none) (List.range (M + 1)) (by unfold Ris; exact List.pairwise_lt_range)
  have r1 : Ris ((liveOf M ow).map (·.1)) := rr.1
  have r2 : ∀ x ∈ (liveOf M ow).map (·.1), x ∈ List.range (M + 1) := rr.2
  have hz : hs.toList.length = hs.size := Array.length_toList
  have hlen : (liveOf M ow).length = hs.size := by
    obtain ⟨ps, p1, p2⟩ := W.ps
    have a : ((liveOf M ow).map (·.1)).length ≤ ps.length := nat_nodup_len _ ps (List.Pairwise.imp (fun h => Nat.ne_of_lt h) r1) fun x hx => by
      obtain ⟨⟨y, k⟩, hq, rfl⟩ := List.mem_map.mp hx
      have ⟨b1, b2⟩ := (mem_live W.sz).mp hq
      exact p2 y b1 (by rw [b2]; exact Option.some_ne_none _)
    have b : (List.range hs.size).length ≤ ((liveOf M ow).map (·.2)).length := nat_nodup_len _ _ List.nodup_range fun k hk => by
      obtain ⟨j, b1, b2⟩ := W.all k (by rw [hz]; exact List.mem_range.mp hk)
      exact List.mem_map.mpr ⟨_, (mem_live W.sz).mpr ⟨b1, b2⟩, rfl⟩
    rw [List.length_map] at a b
    rw [List.length_range] at b
    omega
  refine ⟨_, _, er, perm_range hs.size _ (by simpa using hlen) fun k hk => ?_, ⟨r1, rfl, by simp [tabOf], hM, fun x hx => Nat.le_of_lt_succ (List.mem_range.mp (r2 x hx)), fun i g j h1 h2 => ?_⟩, rfl, rfl⟩
  · obtain ⟨j, b1, b2⟩ := W.all k (by rw [hz]; exact hk)
    exact List.mem_map.mpr ⟨_, (mem_live W.sz).mpr ⟨b1, b2⟩, rfl⟩
  · have z1 : (((liveOf M ow).map (·.2)).map fun i => hs.getD i 0)[i]? = some g := h1
    have z2 : ((liveOf M ow).map (·.1))[i]? = some j := h2
    rw [List.getElem?_map, List.getElem?_map] at z1
    rw [List.getElem?_map] at z2
    cases hq : (liveOf M ow)[i]? with
    | none =>
      rw [hq] at z2
      cases z2
    | some q =>
      rw [hq] at z1 z2
      cases z2
      have ⟨b1, b2⟩ := (mem_live W.sz).mp (List.mem_of_getElem? hq)
      obtain ⟨g0, K, a1, a2, a3⟩ := W.at_ q.1 q.2 b1 b2
      have eg : g0 = g := by
        have u : hs.getD q.2 0 = g := Option.some.inj z1
        rw [Array.getD_eq_getD_getElem?, ← Array.getElem?_toList, a1] at u
        exact u
      subst eg
      refine ⟨K, a2, fun c hc => ?_⟩
      show way M g0 c ∈ (liveOf M ow).map (·.1)
      cases z : oAt ow (way M g0 c) with
      | none => exact absurd z (a3 c hc)
      | some k2 => exact List.mem_map.mpr ⟨(way M g0 c, k2), (mem_live W.sz).2 ⟨way_in M g0 c, z⟩, rfl⟩
theorem sizes : SetTable.sizeAbove (SetTable.grown 5) = 32 ∧ SetTable.sizeAbove (SetTable.grown 19) = 128 ∧ SetTable.sizeAbove (SetTable.grown 77) = 512 := by decide +kernel
end SH
/-! sets of any heap keys: the search, and adding -/
namespace SH
open PySem PySem.Spec PyProof.Rows L2
/-- the c-th probe for the hash g -/
def pb (m : Nat) (g : Int) (c : Nat) : SetTable.Probe := nth m (runAt m (SetTable.bits g % (m + 1)) (SetTable.bits g)) c
theorem pb_add (m : Nat) (g : Int) (c q : Nat) : nth m (pb m g c) q = pb m g (c + q) := (nth_add m c _ q).symm
theorem pb_dummy (m : Nat) (g : Int) : ∀ c, (pb m g c).dummy = none
  | 0 => rfl
  | c + 1 => by
    rw [← pb_add m g c 1]
    show (adv m (pb m g c)).dummy = none
    unfold adv
    split <;> exact pb_dummy m g c
section
variable {P : Program} {w : World} {κ : Type} [DecidableEq κ] {knd : HeapKind P w κ} {A : Around} {E : Value → Shared → Prop} {s : Shared}
/-- what a set asks of a member beside its hash -/
structure Calm (knd : HeapKind P w κ) : Prop where
  st : knd.Stays
  cl : ∀ {A : Around} {E : Value → Shared → Prop} {s : Shared} {k : κ} {b : Addr} {Q : Bool → Shared → Prop}, knd.is s.heap k b → Q false s → wpAny (model P w) A (ofAClassStatement 8 (.ref b)) Q E s
  hv : ∀ {A : Around} {E : Value → Shared → Prop} {s : Shared} {k : κ} {b : Addr} {Q : Bool → Shared → Prop}, knd.is s.heap k b → (∀ r, Q r s) → wpAny (model P w) A (hashByValue 8 (.ref b)) Q E s
theorem seen_no (C : Calm knd) {k : κ} {b : Addr} {Q : Bool → Shared → Prop} (hk : knd.is s.heap k b) {ys : List Value} (hy : ∀ y ∈ ys, ∃ k' c, y = Value.ref c ∧ knd.is s.heap k' c) (h : Q false s) :
    wpAny (model P w) A (searchCouldBeSeen (.ref b) ys) Q E s := by
  unfold searchCouldBeSeen
  refine wpAny_bind (wpAny_forIn_list _ (fun rest r z => z = s ∧ r.1 = none ∧ ∀ y ∈ rest, ∃ k' c, y = Value.ref c ∧ knd.is s.heap k' c) _ (fun v rest r z hz => ?_) (fun r z hz => ?_) _ _ ⟨rfl, rfl, hy⟩)
  · obtain ⟨rfl, hr, al⟩ := hz
    obtain ⟨k', c, rfl, hc⟩ := al v List.mem_cons_self
    have tl : ∀ y ∈ rest, ∃ k' c, y = Value.ref c ∧ knd.is z.heap k' c := fun y hy => al y (List.mem_cons_of_mem _ hy)
    dsimp only
    by_cases e : (b == c || (carriedByValue (.ref b) && carriedByValue (.ref c))) = true
    · exact wp_if_pos e (wpAny_pure ⟨rfl, rfl, tl⟩)
    · refine wp_if_neg e (wpAny_bind (knd.quiet hk ?_))
      rw [Bool.not_true, if_neg Bool.false_ne_true]
      refine wpAny_bind (knd.quiet hc ?_)
      rw [Bool.not_true, if_neg Bool.false_ne_true]
      refine wpAny_bind (C.cl hk ?_)
      rw [if_neg Bool.false_ne_true]
      refine wpAny_bind (C.cl hc ?_)
      rw [if_neg Bool.false_ne_true]
      exact wpAny_pure ⟨rfl, rfl, tl⟩
  · obtain ⟨r1, r2⟩ := r
    obtain ⟨rfl, hr, _⟩ := hz
    cases (show r1 = none from hr)
    exact wpAny_pure h
/-- the set at a, of the members L (their places, their keys) in the table's order -/
structure SetH (knd : HeapKind P w κ) (h : Heap) (a : Addr) (L : List (Addr × κ)) (es : Array (Int × Value)) (ep : Nat) (t : SetTable) : Prop where
  ob : ∃ o, h.get? a = some o ∧ o.ExactSet ∧ o.data = .set es ep t
  rows : es.toList = L.map fun p => (knd.hash p.2, Value.ref p.1)
  tab : TabM t (L.map fun p => knd.hash p.2)
  nd : (L.map (·.2)).Nodup
  el : ∀ p ∈ L, knd.is h p.2 p.1
  ld : w.params.followText "set-order" = true ∨ t.led = true
  gap : L.length * 5 < t.mask * 3
variable {a : Addr} {L : List (Addr × κ)} {es : Array (Int × Value)} {ep : Nat} {t : SetTable}
theorem rows_size (h : es.toList = L.map fun p => (knd.hash p.2, Value.ref p.1)) : es.size = L.length := by
  rw [← Array.length_toList, h, List.length_map]
theorem rows_at (h : es.toList = L.map fun p => (knd.hash p.2, Value.ref p.1)) {i : Nat} {p : Addr × κ} (e : L[i]? = some p) : es[i]? = some (knd.hash p.2, Value.ref p.1) := by
  rw [← Array.getElem?_toList, h, List.getElem?_map, e]
  rfl
theorem fits_of {gs : List Int} (T : TabM t gs) {n : Nat} (hn : gs.length = n) (hl : n ≤ t.mask) : t.fits n = true := by
  have := T.n
  unfold SetTable.fits SetTable.fill
  rw [T.no, Bool.and_eq_true, beq_iff_eq, decide_eq_true_eq]
  show t.place.size = n ∧ t.place.size + 0 ≤ t.mask
  omega
theorem SetH.fits (R : SetH knd s.heap a L es ep t) : t.fits es.size = true := by
  have h2 := R.gap
  have h3 := rows_size R.rows
  exact fits_of R.tab (by rw [List.length_map]; exact h3.symm) (by omega)
theorem SetH.small (R : SetH knd s.heap a L es ep t) : L.length ≤ 306 := by
  have h2 := R.gap
  rcases R.tab.msk.cases with e | e | e | e <;> omega
/-- the search from its c-th step on; K: the first gap on the way -/
theorem look (C : Calm knd) (R : SetH knd s.heap a L es ep t) {x : Addr} {k : κ} (hx : knd.is s.heap k x) (hr : knd.room A) {K : Nat} (hKf : K < 10 * SetTable.turns t.mask)
    (hK : way t.mask (knd.hash k) K ∉ t.place.toList) (hKb : ∀ c, c < K → way t.mask (knd.hash k) c ∈ t.place.toList) {Q : SetFound → Shared → Prop}
    (yes : k ∈ L.map (·.2) → Q (.there none) s) (no : k ∉ L.map (·.2) → Q (.free (way t.mask (knd.hash k) K) false) s) :
    ∀ (f c : Nat) (stand : Option SetTable.Probe), stand.getD (t.probeStart (knd.hash k)) = pb t.mask (knd.hash k) c → c ≤ K → K - c < f →
      (∀ (i : Nat) p, L[i]? = some p → p.2 = k → ∃ d, c ≤ d ∧ d < K ∧ t.place.toList[i]? = some (way t.mask (knd.hash k) d)) →
      wpAny (model P w) A (setSearchFrom a (.ref x) (knd.hash k) true f stand) Q E s
  | 0, c, stand, _, _, hf, _ => absurd hf (Nat.not_lt_zero _)
  | f + 1, c, stand, hst, hc, hf, hre => by
    obtain ⟨o, ho, hex, hd⟩ := R.ob
    have odd := R.tab.msk.odd
    rw [setSearchFrom_succ]
    refine wpAny_bind (wpAny_setState_of ho hd R.fits ?_)
    dsimp only
    refine wp_if_neg (by unfold SetTable.gaveWay; rw [odd]; decide) ?_
    try refine wpAny_bind (wpAny_pure ?_)
    have hz : c + (K - c) = K := by omega
    have hs : ∀ (i : Nat) p, L[i]? = some p → (fun i => (es[i]?.map (·.1)).getD 0) i = knd.hash p.2 := fun i p hp => by
      show (es[i]?.map (·.1)).getD 0 = _
      rw [rows_at R.rows hp]
      rfl
    have J : ∀ q, (nth t.mask (pb t.mask (knd.hash k) c) q).j = way t.mask (knd.hash k) (c + q) := fun q => congrArg SetTable.Probe.j (pb_add t.mask (knd.hash k) c q)
    rcases go_spec t R.tab.up R.tab.no (fun i => (es[i]?.map (·.1)).getD 0) (knd.hash k) (10 * SetTable.turns t.mask) (K - c) (pb t.mask (knd.hash k) c) (pb_dummy _ _ _) (by omega)
      (fun q hq => by rw [J]; exact hKb _ (by omega)) (by rw [J, hz]; exact hK) with ⟨q, i, hq, hi, _, first, pr⟩ | ⟨first, pr⟩
    · rw [J] at hi
      have pr2 : t.probe (fun i => (es[i]?.map (·.1)).getD 0) (knd.hash k) (stand.getD (t.probeStart (knd.hash k))) = some (.candidate (way t.mask (knd.hash k) (c + q)) i (pb t.mask (knd.hash k) (c + (q + 1)))) := by
        rw [hst, ← J, ← pb_add]
        exact pr
      rw [pr2]
      dsimp only
      have il : i < L.length := by
        have h1 := (List.getElem?_eq_some_iff.mp hi).1
        rw [R.tab.len, List.length_map] at h1
        exact h1
      obtain ⟨p, hp⟩ : ∃ p, L[i]? = some p := ⟨_, List.getElem?_eq_getElem il⟩
      have pm := List.mem_of_getElem? hp
      have rest : wpAny (model P w) A (searchRest a (.ref x) (knd.hash k) true f es t (way t.mask (knd.hash k) (c + q)) i (pb t.mask (knd.hash k) (c + (q + 1)))) Q E s := by
        unfold searchRest
        rw [rows_at R.rows hp]
        dsimp only
        refine wpAny_bind (wpAny_holding (knd.eqBool hr (R.el p pm) hx (wpAny_bind (wpAny_setState_of ho hd R.fits ?_))))
        dsimp only
        by_cases e : p.2 = k
        · exact wp_if_pos (by simp [e]) (wpAny_pure (yes (List.mem_map.mpr ⟨p, pm, e⟩)))
        · refine wp_if_neg (by simp [e]) ?_
          try refine wpAny_bind (wpAny_pure ?_)
          have live : t.slot (way t.mask (knd.hash k) (c + q)) = .live i := slot_live R.tab.up hi
          rw [sameMem]
          dsimp only
          simp only [if_true, live, rows_at R.rows hp]
          refine wpAny_bind (wpAny_isSame_ref_self (wpAny_bind (wpAny_pure ?_)))
          simp only [if_true]
          refine wp_if_neg (by simp [e]) ?_
          refine look C R hx hr hKf hK hKb yes no f (c + (q + 1)) _ rfl (by omega) (by omega) fun i0 p0 h0 k0 => ?_
          obtain ⟨d, d1, d2, d3⟩ := hre i0 p0 h0 k0
          refine ⟨d, Nat.lt_of_not_le fun z => ?_, d2, d3⟩
          rcases Nat.lt_or_eq_of_le z with z | z
          · exact first (d - c) i0 (Nat.sub_lt_left_of_lt_add d1 z) (by rw [J, Nat.add_sub_cancel' d1]; exact d3) ((hs i0 p0 h0).trans (congrArg knd.hash k0))
          · have z : d = c + q := z
            have s0 := slot_live R.tab.up d3
            rw [z, live] at s0
            cases s0
            rw [hp] at h0
            cases h0
            exact e k0
      by_cases hl : t.led = true
      · refine wp_if_neg (by simp [hl]) ?_
        try refine wpAny_bind (wpAny_pure ?_)
        exact rest
      · refine wp_if_pos (by simp [hl]) (wpAny_bind (seen_no C hx (fun y hy => ?_) ?_))
        · obtain ⟨u, hu, rfl⟩ := List.mem_map.mp hy
          have hu2 : u ∈ es.toList := by
            have h1 : u ∈ es ∧ u.1 = knd.hash k := by simpa using hu
            simpa using h1.1
          rw [R.rows] at hu2
          obtain ⟨p2, hp2, rfl⟩ := List.mem_map.mp hu2
          exact ⟨p2.2, p2.1, rfl, R.el p2 hp2⟩
        · refine wp_if_neg (by decide) ?_
          try refine wpAny_bind (wpAny_pure ?_)
          exact rest
    · have pr2 : t.probe (fun i => (es[i]?.map (·.1)).getD 0) (knd.hash k) (stand.getD (t.probeStart (knd.hash k))) = some (.empty (way t.mask (knd.hash k) K) none) := by
        have e2 := J (K - c)
        rw [hz] at e2
        rw [hst, ← e2]
        exact pr
      rw [pr2]
      dsimp only
      refine wpAny_pure (no fun hm => ?_)
      obtain ⟨p0, h0, k0⟩ := List.mem_map.mp hm
      obtain ⟨i0, hi0⟩ := List.mem_iff_getElem?.mp h0
      obtain ⟨d, d1, d2, d3⟩ := hre i0 p0 hi0 k0
      exact first (d - c) i0 (by omega) (by rw [J, Nat.add_sub_cancel' d1]; exact d3) ((hs i0 p0 hi0).trans (congrArg knd.hash k0))
/-- the search that adding makes -/
theorem look_at (C : Calm knd) (R : SetH knd s.heap a L es ep t) {x : Addr} {k : κ} (hx : knd.is s.heap k x) (hr : knd.room A) {Q : SetFound → Shared → Prop} (yes : k ∈ L.map (·.2) → Q (.there none) s)
    (no : ∀ K, k ∉ L.map (·.2) → way t.mask (knd.hash k) K ∉ t.place.toList → (∀ c, c < K → way t.mask (knd.hash k) c ∈ t.place.toList) → Q (.free (way t.mask (knd.hash k) K) false) s) :
    wpAny (model P w) A (setSearch a (.ref x) (knd.hash k) true) Q E s := by
  have g := R.gap
  obtain ⟨K, k1, k2, k3⟩ := R.tab.gap (by rw [List.length_map]; omega) (knd.hash k)
  have big : 10 * SetTable.turns t.mask ≤ 10000 := by
    unfold SetTable.turns
    rcases R.tab.msk.cases with e | e | e | e <;> omega
  unfold setSearch
  refine look C R hx hr k1 k2 k3 yes (fun n => no K n k2 k3) 100000 0 none rfl (Nat.zero_le _) (by omega) fun i p hp hk => ?_
  have hi : (L.map fun p => knd.hash p.2)[i]? = some (knd.hash k) := by
    rw [List.getElem?_map, hp, ← hk]
    rfl
  have hil : i < t.place.toList.length := by
    rw [R.tab.len]
    exact (List.getElem?_eq_some_iff.mp hi).1
  obtain ⟨c, hc, e⟩ := R.tab.ahead k2 hi (List.getElem?_eq_getElem hil)
  exact ⟨c, Nat.zero_le _, hc, by rw [List.getElem?_eq_getElem hil, e]⟩
/-- a member isn't the set -/
theorem el_same (C : Calm knd) {h h' : Heap} {k : κ} {b : Addr} {o : Obj} (hb : knd.is h k b) (ho : h.get? a = some o) (hd : o.data = .set es ep t) (hs : Heap.SameBut a h h') : knd.is h' k b := by
  refine C.st.stays (fun c u vs n hc hu => ?_) hb
  refine (hs.2 c fun e => ?_).trans hc
  rw [e, ho] at hc
  cases hc
  rw [hd] at hu
  cases hu
/-- the rows in the order of another table -/
theorem rows_order (h : es.toList = L.map fun p => (knd.hash p.2, Value.ref p.1)) (od : Array Nat) (hp : od.toList.Perm (List.range L.length)) :
    ∃ L2 : List (Addr × κ), (od.filterMap (es[·]?)).toList = (L2.map fun p => (knd.hash p.2, Value.ref p.1)) ∧ L2.Perm L ∧ (L2.map fun p => knd.hash p.2) = od.toList.map fun i => (es.map (·.1)).getD i 0 := by
  have all : (List.range L.length).filterMap (fun i => L[i]?) = L := by
    clear hp h
    have gen : ∀ (M : List (Addr × κ)), (List.range M.length).filterMap (fun i => M[i]?) = M := by
      intro M
      induction M with
      | nil => rfl
      | cons x M ih =>
        rw [List.length_cons, List.range_succ_eq_map, List.filterMap_cons_some (f := fun i => (x :: M)[i]?) (a := 0) (b := x) rfl, List.filterMap_map]
        exact congrArg (x :: ·) ih
    exact gen L
  have one : ∀ l : List Nat, (∀ i ∈ l, i < L.length) → l.filterMap (fun i => es[i]?) = ((l.filterMap fun i => L[i]?).map fun p => (knd.hash p.2, Value.ref p.1)) ∧ ((l.filterMap fun i => L[i]?).map fun p => knd.hash p.2) = l.map fun i => (es.map (·.1)).getD i 0 := by
    intro l
    induction l with
    | nil => exact fun _ => ⟨rfl, rfl⟩
    | cons i l ih =>
      intro hl
      have hi := List.getElem?_eq_getElem (hl i List.mem_cons_self)
      obtain ⟨e1, e2⟩ := ih fun j hj => hl j (List.mem_cons_of_mem _ hj)
      have e5 : (es.map (·.1))[i]? = some (knd.hash (L[i]'(hl i List.mem_cons_self)).2) := by
        rw [Array.getElem?_map, rows_at h hi]
        rfl
      rw [List.filterMap_cons_some (rows_at h hi), List.filterMap_cons_some hi, e1, List.map_cons, List.map_cons, List.map_cons, e2]
      exact ⟨rfl, by rw [Array.getD_eq_getD_getElem?, e5]; rfl⟩
  obtain ⟨e1, e2⟩ := one od.toList fun i hi => List.mem_range.mp (hp.mem_iff.mp hi)
  refine ⟨od.toList.filterMap fun i => L[i]?, by rw [Array.toList_filterMap]; exact e1, ?_, e2⟩
  have q := hp.filterMap fun i => L[i]?
  rw [all] at q
  exact q
/-- the members in a larger table -/
theorem relay (C : Calm knd) {o : Obj} (ho : s.heap.get? a = some o) (hex : o.ExactSet) (hd : o.data = .set es ep t) (rows : es.toList = L.map fun p => (knd.hash p.2, Value.ref p.1)) (hf : t.fits es.size = true)
    (nd : (L.map (·.2)).Nodup) (el : ∀ p ∈ L, knd.is s.heap p.2 p.1) (ld : w.params.followText "set-order" = true ∨ t.led = true) {wanted M : Nat}
    (hw : SetTable.sizeAbove wanted = M + 1) (hM : Mk M) (hn : L.length * 5 < M * 3) {Q : Unit → Shared → Prop}
    (hQ : ∀ h' L' es' ep' t', Heap.SameBut a s.heap h' → SetH knd h' a L' es' ep' t' → L'.Perm L → Q () { s with heap := h' }) : wpAny (model P w) A (setRelay a wanted) Q E s := by
  have hz := rows_size rows
  have hM5 : M ≤ 511 := by rcases hM.cases with e | e | e | e <;> omega
  obtain ⟨t', od, e, hp, T, em, el'⟩ := relaid_tab t (hs := es.map (·.1)) (wanted := wanted) (M := M) (by omega) hM (by rw [Array.size_map]; omega)
  rw [Array.size_map, hz] at hp
  obtain ⟨L2, r1, r2, r3⟩ := rows_order rows od hp
  rw [← r3] at T
  have z2 := (rows_size r1).trans (r2.length_eq.trans hz.symm)
  have line : sizeLine = 16777216 := rfl
  rw [setRelay_eq]
  refine wpAny_bind (wpAny_setState_of ho hd hf ?_)
  dsimp only
  refine wp_if_neg (by rw [hw]; omega) ?_
  try refine wpAny_bind (wpAny_pure ?_)
  rw [e]
  dsimp only
  refine wpAny_bind (wp_if_neg (by rw [z2]; simp) ?_)
  try refine wpAny_bind (wpAny_pure ?_)
  refine wpAny_pure ?_
  dsimp only
  refine wpAny_storeSet_of ho hd (hQ _ L2 (od.filterMap (es[·]?)) (ep + 1) t' (Heap.SameBut.update ..) ⟨⟨_, store_at ho hd, ⟨hex.1, hex.2.1, hex.2.2⟩, rfl⟩, r1, T, (r2.map (·.2)).nodup_iff.mpr nd, fun p hpm => el_same C (el p (r2.mem_iff.mp hpm)) ho hd (Heap.SameBut.update ..), by rw [el']; exact ld, by rw [r2.length_eq, em]; exact hn⟩ r2) (by rw [z2]; omega)
/-- one more member -/
theorem add (C : Calm knd) (R : SetH knd s.heap a L es ep t) {x : Addr} {k : κ} (hx : knd.is s.heap k x) (hr : knd.room A) (few : L.length + 1 ≤ 300) {Q : Bool → Shared → Prop}
    (hQ : ∀ b h' L' es' ep' t', Heap.SameBut a s.heap h' → SetH knd h' a L' es' ep' t' → (k ∈ L.map (·.2) → L' = L) → (k ∉ L.map (·.2) → L'.Perm ((x, k) :: L)) → Q b { s with heap := h' }) :
    wpAny (model P w) A (setAddHashed a (.ref x) (knd.hash k)) Q E s := by
  obtain ⟨o, ho, hex, hd⟩ := R.ob
  have line : sizeLine = 16777216 := rfl
  unfold setAddHashed
  rw [show (100000 : Nat) = 99999 + 1 from rfl, setAddHashedIn_succ]
  refine wpAny_holding (wpAny_bind (wpAny_setState_of ho hd R.fits ?_))
  dsimp only
  refine wp_if_neg (by simp [byScan, Value.scannable]) ?_
  try refine wpAny_bind (wpAny_pure ?_)
  refine wpAny_bind (look_at C R hx hr (fun hm => ?_) fun K hm hK hb => ?_)
  · exact wpAny_pure (hQ false s.heap L es ep t (Heap.SameBut.refl a s.heap) R (fun _ => rfl) fun z => absurd hm z)
  · dsimp only
    refine wpAny_bind (wpAny_setState_of ho hd R.fits ?_)
    dsimp only
    obtain ⟨q1, q2, q3⟩ := R.tab.put hK hb
    have zL := rows_size R.rows
    have gap := R.gap
    -- the table with the new slot
    have v1 : (t.put (way t.mask (knd.hash k) K)).2 = SetTable.below t.place (way t.mask (knd.hash k) K) := rfl
    have v2 : (t.put (way t.mask (knd.hash k) K)).1.mask = t.mask := rfl
    have v3 : (t.put (way t.mask (knd.hash k) K)).1.led = t.led := rfl
    generalize t.put (way t.mask (knd.hash k) K) = pt at q2 q3 v1 v2 v3 ⊢
    obtain ⟨t1, p⟩ := pt
    dsimp only at q2 q3 v1 v2 v3 ⊢
    rw [← v1] at q1 q2
    have rows1 : (SetTable.insertAt es p (knd.hash k, Value.ref x)).toList = (L.take p ++ (x, k) :: L.drop p).map fun p => (knd.hash p.2, Value.ref p.1) := by
      rw [SetTable.toList_insertAt, R.rows, List.map_append, List.map_cons, List.map_take, List.map_drop]
    have pm : (L.take p ++ (x, k) :: L.drop p).Perm ((x, k) :: L) := by
      have h := List.perm_middle (a := (x, k)) (l₁ := L.take p) (l₂ := L.drop p)
      rw [List.take_append_drop] at h
      exact h
    have hg : (L.map fun p => knd.hash p.2).take p ++ knd.hash k :: (L.map fun p => knd.hash p.2).drop p = (L.take p ++ (x, k) :: L.drop p).map fun p => knd.hash p.2 := by
      rw [List.map_append, List.map_cons, List.map_take, List.map_drop]
    rw [hg] at q2
    generalize L.take p ++ (x, k) :: L.drop p = L1 at rows1 pm q2
    have l1 := pm.length_eq
    rw [List.length_cons] at l1
    have nd1 : (L1.map (·.2)).Nodup := (pm.map (·.2)).nodup_iff.mpr (List.nodup_cons.mpr ⟨hm, R.nd⟩)
    have z1 := rows_size rows1
    generalize SetTable.insertAt es p (knd.hash k, Value.ref x) = es1 at rows1 z1
    rw [List.length_map] at q3
    -- whatever becomes of the mark «plain»
    have main : ∀ t2 : SetTable, TabM t2 (L1.map fun p => knd.hash p.2) → t2.mask = t.mask → t2.led = t.led → t2.fill = L.length + 1 →
        wpAny (model P w) A (storeSet a es1 t2 >>= fun _ => if (!false && t2.tooFull) = true then (setRelay a (SetTable.grown (es.size + 1)) >>= fun _ => pure true) else pure true) Q E s := fun t2 T2 m2 d2 f2 => by
      refine wpAny_bind (wpAny_storeSet_of ho hd ?_ (by rw [z1]; omega))
      have sb : Heap.SameBut a s.heap (s.heap.update a (Obj.putSet es1 t2)) := Heap.SameBut.update ..
      have ho1 := store_at (es' := es1) (t' := t2) ho hd
      generalize s.heap.update a (Obj.putSet es1 t2) = h1 at sb ho1 ⊢
      have el1 : ∀ p ∈ L1, knd.is h1 p.2 p.1 := fun p hp => by
        rcases List.mem_cons.mp (pm.mem_iff.mp hp) with e | hp
        · rw [e]
          exact el_same C hx ho hd sb
        · exact el_same C (R.el p hp) ho hd sb
      have ld1 : w.params.followText "set-order" = true ∨ t2.led = true := d2.symm ▸ R.ld
      by_cases hf : t2.tooFull = true
      · have full : (L.length + 1) * 5 ≥ t.mask * 3 := by
          have h := hf
          unfold SetTable.tooFull at h
          rw [decide_eq_true_eq, f2, m2] at h
          exact h
        have big : ∃ M, SetTable.sizeAbove (SetTable.grown (es.size + 1)) = M + 1 ∧ Mk M ∧ L1.length * 5 < M * 3 ∧ t.mask < M := by
          rcases R.tab.msk.cases with e | e | e | e
          · exact ⟨31, by rw [show es.size + 1 = 5 by omega]; exact sizes.1, .inl (.inr (.inl rfl)), by omega, by omega⟩
          · exact ⟨127, by rw [show es.size + 1 = 19 by omega]; exact sizes.2.1, .inl (.inr (.inr rfl)), by omega, by omega⟩
          · exact ⟨511, by rw [show es.size + 1 = 77 by omega]; exact sizes.2.2, .inr rfl, by omega, by omega⟩
          · omega
        obtain ⟨M, b1, b2, b3, b4⟩ := big
        have fin : wpAny (model P w) A (setRelay a (SetTable.grown (es.size + 1))) (fun _ s' => Q true s') E { s with heap := h1 } :=
          relay (s := { s with heap := h1 }) C ho1 ⟨hex.1, hex.2.1, hex.2.2⟩ rfl rows1 (fits_of T2 (by rw [List.length_map, z1]) (by omega)) nd1 el1 ld1 b1 b2 b3 fun h2 L2 es2 ep2 t3 sb2 R2 pm2 => hQ true h2 L2 es2 ep2 t3 (sb.trans sb2) R2 (fun z => absurd z hm) fun _ => pm2.trans pm
        exact wp_if_pos (by rw [hf]; rfl) (wpAny_bind (wpAny_mono fin (fun _ _ h => wpAny_pure h) fun _ _ h => h))
      · have fin : Q true { s with heap := h1 } := hQ true h1 L1 es1 (ep + 1) t2 sb ⟨⟨_, ho1, ⟨hex.1, hex.2.1, hex.2.2⟩, rfl⟩, rows1, T2, nd1, el1, ld1, by
          have h := hf
          unfold SetTable.tooFull at h
          rw [decide_eq_true_eq, f2, m2] at h
          omega⟩ (fun z => absurd z hm) fun _ => pm
        exact wp_if_neg (by rw [Bool.eq_false_iff.mpr hf]; decide) (wpAny_pure fin)
    have both : ∀ r : Bool, ∃ t2, (if r = true then t1 else { t1 with plain := false }) = t2 ∧ TabM t2 (L1.map fun p => knd.hash p.2) ∧ t2.mask = t.mask ∧ t2.led = t.led ∧ t2.fill = L.length + 1 := fun r => by
      cases r
      · exact ⟨{ t1 with plain := false }, rfl, ⟨q2.up, q2.no, q2.n, q2.msk, q2.le, q2.at'⟩, v2, v3, q3⟩
      · exact ⟨t1, rfl, q2, v2, v3, q3⟩
    by_cases pl : t1.plain = true
    · refine wp_if_pos pl (wpAny_bind (C.hv hx fun r => ?_))
      obtain ⟨t2, e2, f1, f2, f3, f4⟩ := both r
      rw [e2]
      exact main t2 f1 f2 f3 f4
    · refine wp_if_neg pl (wpAny_bind (wpAny_pure ?_))
      obtain ⟨t2, e2, f1, f2, f3, f4⟩ := both true
      rw [e2]
      exact main t2 f1 f2 f3 f4
end
end SH
/-! set(xs) of a list, whatever the members: by what holds of the set behind i items -/
namespace SH
open PySem PySem.Spec PyProof.Rows L2
/-- a set just made -/
abbrev fs (w : World) : Obj := { cls := .type "set", dict := none, data := .set #[] 0 (.fresh 0 0 (!w.params.followText "set-order")) }
section
variable {P : Program} {w : World} {A : Around} {E : Value → Shared → Prop} {s : Shared}
/-- what adding the item v to the set at S leaves -/
def Adds (P : Program) (w : World) (A : Around) (S : Addr) (v : Value) (J : Heap → Prop) (z : Shared) : Prop :=
  ∀ E' : Value → Shared → Prop, wpAny (model P w) A (setAdd S v) (fun _ y => ∃ h' tk, z.toks ≤ tk ∧ y = { z with heap := h', toks := tk } ∧ Heap.SameBut S z.heap h' ∧ J h') E' z
theorem set_loop {it : Addr} {fp wr : List Addr} {G : Array GenState → Array GenState → Prop} {n : Nat} {Pv : Nat → Value → Prop} {St : Nat → Shared → Prop} {R : Result → Shared → Prop} (W : WalksS P w A.in1 it fp wr G n Pv St)
    {S : Addr} (hSf : S ∉ fp) (J : Nat → Heap → Prop) (h0 : Heap) (hS0 : h0.get? S = none) (hw0 : ∀ b ∈ wr, h0.get? b = none)
    (fr : ∀ i h h', J i h → (∀ o, h.get? S = some o → h'.get? S = some o) → (∀ b o, h0.get? b = some o → h'.get? b = some o) → J i h')
    (step : ∀ i v (z : Shared), i < n → Pv i v → (∀ b o, h0.get? b = some o → z.heap.get? b = some o) → J i z.heap → Adds P w A.in1 S v (J (i + 1)) z) :
    ∀ (k i : Nat) (s : Shared), n - i = k → i ≤ n → St i s → (∀ b o, h0.get? b = some o → s.heap.get? b = some o) → J i s.heap →
      (∀ s', Moved (S :: wr) G s s' → J n s'.heap → (∀ b o, h0.get? b = some o → s'.heap.get? b = some o) → R (.ok (.ret .none)) s') →
      codeAny (model P w) A (.builtin "set.update.loop" ⟨[.ref S, .ref it], []⟩) R s := by
  have notin : S ∉ wr := fun h => hSf (W.sub _ h)
  have up : ∀ b ∈ wr, b ∈ S :: wr := fun b hb => List.mem_cons_of_mem _ hb
  have keep : ∀ {z z' : Shared}, Moved wr G z z' → (∀ b o, h0.get? b = some o → z.heap.get? b = some o) → ∀ b o, h0.get? b = some o → z'.heap.get? b = some o := fun m k b o e =>
    m.heap b o (fun hb => absurd e (by rw [hw0 b hb]; exact fun z => nomatch z)) (k b o e)
  intro k
  induction k with
  | zero =>
    intro i s hk hi hst old hJ hR
    obtain rfl : i = n := by omega
    refine codeAny_builtin F.entry_set_update_loop ?_
    rw [Around.under_plainId (id := "set.update.loop") F.plain_set_update_loop]
    show wpAny (model P w) A.in1 (pyNext (.ref it) >>= _) _ _ s
    refine wpAny_bind (W.done s _ _ hst fun z m => ?_)
    show wpAny _ A.in1 (ret .none) _ _ z
    exact wpAny_pure (hR z (m.mono up) (fr _ _ _ hJ (fun o e => m.heap S o notin e) (keep m old)) (keep m old))
  | succ k ih =>
    intro i s hk hi hst old hJ hR
    have lt : i < n := by omega
    refine codeAny_builtin F.entry_set_update_loop ?_
    rw [Around.under_plainId (id := "set.update.loop") F.plain_set_update_loop]
    show wpAny (model P w) A.in1 (pyNext (.ref it) >>= _) _ _ s
    refine wpAny_bind (W.item i s _ _ lt hst fun v z hv hz m => ?_)
    have old' := keep m old
    show wpAny _ A.in1 (holding [v] (setAdd S v) >>= _) _ _ z
    refine wpAny_bind (wpAny_holding (wpAny_mono (step i v z lt hv old' (fr _ _ _ hJ (fun o e => m.heap S o notin e) old') _) (fun _ y hy => ?_) fun _ _ h => h))
    obtain ⟨h', tk, htk, rfl, sb, hJ'⟩ := hy
    have old2 : ∀ b o, h0.get? b = some o → h'.get? b = some o := fun b o e => (sb.2 b (fun e2 => by rw [e2, hS0] at e; cases e)).trans (old' b o e)
    refine wpAny_pure ⟨plainId_quiet F.plain_set_update_loop _, ih (i + 1) _ (by omega) lt (W.frame _ z _ _ hz htk fun b hb o e => ?_) old2 hJ' fun y my hy oy => ?_⟩
    · rw [sb.2 b fun e2 => hSf (e2 ▸ hb)]
      exact e
    · refine hR y (Moved.trans W.gtrans ((m.mono up).then_heap htk fun b o hb e => ?_) my) hy oy
      rw [sb.2 b fun e2 => hb (e2 ▸ List.mem_cons_self)]
      exact e
set_option maxHeartbeats 3200000 in
/-- set(xs), xs a list: J i holds of the heap once i items are in -/
theorem call_set_of {l : Addr} {its : Array Value} {Q : Value → Shared → Prop} (hh : A.handled = none) (hl : s.heap.IsList l its) (J : Nat → Heap → Prop)
    (fr : ∀ i h h', J i h → (∀ o, h.get? s.heap.objs.size = some o → h'.get? s.heap.objs.size = some o) → (∀ b o, s.heap.get? b = some o → h'.get? b = some o) → J i h')
    (start : ∀ h, h.get? s.heap.objs.size = some (fs w) → (∀ b o, s.heap.get? b = some o → h.get? b = some o) → J 0 h)
    (step : ∀ i v (z : Shared), its[i]? = some v → (∀ b o, s.heap.get? b = some o → z.heap.get? b = some o) → J i z.heap → Adds P w A.in1.in1.in1 s.heap.objs.size v (J (i + 1)) z)
    (fin : ∀ (h' : Heap) (tk : Nat), J its.size h' → (∀ b o, s.heap.get? b = some o → h'.get? b = some o) → Q (.ref s.heap.objs.size) { s with heap := h', toks := tk }) :
    wpAny (model P w) A (call (.type "set") [.ref l]) Q E s := by
  generalize hS : s.heap.objs.size = S at fr start step fin
  obtain ⟨c, tl, hmro⟩ := F.called_set.mro
  have hmade := F.called_set.made
  have hsub := F.called_set.sub
  refine wpAny_call (codeAny_of_tree ?_)
  show wpAny _ _ (callAny (.type "set") _) _ _ _
  refine wpAny_pure ⟨Code.quiet_builtin _ (by decide +kernel), codeAny_builtin F.entry_type_call ?_⟩
  rw [Around.under_plain (weight_type_call_type "set" [.ref l] []) rfl]
  have h1 := F.called_set.notType
  have h2 := F.called_set.canCreate
  have hct := F.typeCall_set_1 (.ref l)
  repeat (any_goals (first | assumption | wp_step))
  refine codeAny_mono (code_set_led1 (.ref l) (E := E) (Q₁ := fun x z => x = .ref S ∧ z = { s with heap := s.heap.push (fs w) }) ⟨congrArg Value.ref hS, rfl⟩) fun r z hr => ?_
  cases r with
  | error e => exact hr
  | ok fl =>
    cases fl with
    | ret x =>
      obtain ⟨rfl, rfl⟩ := hr
      have atS : (s.heap.push (fs w)).get? S = some (fs w) := hS ▸ Heap.get?_push_size _ rfl
      have hT : Shared.TypeIs { s with heap := s.heap.push (fs w) } (.ref S) "set" := ⟨_, atS, rfl⟩
      have hli := F.called_set.init.lookup
      have hbi := F.called_set.init.bind (.ref S)
      repeat (any_goals (first | assumption | wp_step))
      refine codeAny_mono (codeAny_call_builtin (R := wants (fun r y => r = .none ∧ ∃ h' tk, y = { s with heap := h', toks := tk } ∧ J its.size h' ∧ ∀ b o, s.heap.get? b = some o → h'.get? b = some o) E) F.called_set.init.plain F.entry_set_init (check_set_init_1 hT ?_)) fun r y hr => ?_
      · obtain ⟨ol, hol, hcl, nl, hdl⟩ := hl
        obtain ⟨ocls, odict, odata, oslots⟩ := ol
        simp only at hcl hdl
        subst hcl
        subst hdl
        have hol' : (s.heap.push (fs w)).get? l = some { cls := .type "list", dict := odict, data := .seq its nl, slots := oslots } := Heap.get?_push_of_some _ hol
        have hl1 : (s.heap.push (fs w)).IsList l its := ⟨_, hol', rfl, nl, rfl⟩
        have hsls := F.sub_list_set
        have hslf := F.sub_list_frozenset
        have hne : (Value.type "list" == Value.type "dict") = false := by decide
        unfold Builtin.«set.__init__» noKeywords Builtin.Frozenset.updateFrom
        generalize hPI : pyIter = PI
        wp_walk
        subst hPI
        refine wpAny_pyIter_list hl1 (wpAny_bind (wpAny_runValue ?_))
        have lS : l < S := hS ▸ Heap.lt_size hol
        have z1 : (s.heap.push (fs w)).objs.size = S + 1 := by rw [Heap.size_push, hS]
        have none_of : ∀ b, S ≤ b → s.heap.get? b = none := fun b hb => by
          cases q : s.heap.get? b with
          | none => rfl
          | some o => exact absurd (Heap.lt_size q) (Nat.not_lt.mpr (hS.symm ▸ hb))
        have hh3 : A.in1.in1.in1.handled = none := by simp [hh]
        have push2 : ∀ b o, (s.heap.push (fs w)).get? b = some o → ((s.heap.push (fs w)).push { cls := .type "list_iterator", data := .fields #[.ref l, .int 0 0] }).get? b = some o := fun b o e => Heap.get?_push_of_some _ e
        refine set_loop (Walks.list hh3 (s.heap.push (fs w)).objs.size l (by rw [z1]; exact Nat.ne_of_lt (Nat.lt_succ_of_lt lS)) its).toS (S := S) (by rw [z1]; simp; exact fun e => Nat.lt_irrefl S (e.symm ▸ lS)) J s.heap (none_of S (Nat.le_refl _)) (fun b hb => none_of b (by rw [List.mem_singleton.mp hb, z1]; omega)) fr (fun i v z _ hv oz jz => step i v z hv oz jz)
          (its.size - 0) 0 _ rfl (Nat.zero_le _) ⟨⟨_, Heap.get?_push_size _ rfl, rfl, rfl⟩, hl1.push _⟩ (fun b o e => push2 b o (Heap.get?_push_of_some _ e)) (start _ (push2 S _ atS) fun b o e => push2 b o (Heap.get?_push_of_some _ e)) fun y m jy oy => ?_
        obtain ⟨h', g', d', tk', os'⟩ := y
        obtain rfl : g' = s.gens := m.gens
        obtain rfl : d' = s.drawn := m.drawn
        obtain rfl : os' = s.os := m.os
        show wpAny _ _ _ _ _ _
        refine wpAny_pure ?_
        show wpAny _ _ (ret .none) _ _ _
        exact wpAny_pure ⟨rfl, h', tk', rfl, jy, oy⟩
      · cases r with
        | error e => exact hr
        | ok fl =>
          cases fl with
          | ret r =>
            obtain ⟨rfl, h', tk, rfl, jy, oy⟩ := hr
            repeat (any_goals (first | assumption | wp_step))
            exact fin _ _ jy oy
          | _ => exact hr.elim
    | _ => exact hr.elim
end
end SH
/-! the layer's rules: set(xs) of tuples of keys, sorted of a set -/
namespace SH
open PySem PySem.Spec PyProof.Rows L2
open PySem.W (EachIs AllAlike Sortable dataLe)
/-! tuples of keys -/
abbrev TKK (P : Program) (w : World) : HeapKind P w (List Key) := tupleKind (mixKind P w)
section
variable {P : Program} {w : World} {A : Around} {E : Value → Shared → Prop} {s : Shared}
theorem items_keys {k : List Key} {vs : List Value} (h : ItemsAre (mixKind P w) k vs) : ∀ v ∈ vs, (∃ i t, v = Value.int i t) ∨ ∃ x t, v = Value.str x t := by
  induction h with
  | nil => exact fun v hv => nomatch hv
  | @cons k0 v' ks vs h1 _ ih =>
    intro v hv
    rcases List.mem_cons.mp hv with rfl | hv
    · rcases keyIs_shape h1 with ⟨i, t, _, e⟩ | ⟨x, t, _, e⟩
      · exact .inl ⟨i, t, e⟩
      · exact .inr ⟨x, t, e⟩
    · exact ih v hv
theorem cl_keys {k : List Key} {b : Addr} {Q : Bool → Shared → Prop} (hk : (TKK P w).is s.heap k b) (h : Q false s) : wpAny (model P w) A (ofAClassStatement 8 (.ref b)) Q E s := by
  have hT := IsTupleKey.typeIs hk
  obtain ⟨o, items, n, ho, _, hd, hi⟩ := hk
  unfold ofAClassStatement
  refine wpAny_bind (wpAny_typeOf hT ?_)
  dsimp only
  simp only [show (("tuple" : String) == "tuple") = true by decide, if_true, Bool.not_true, Bool.false_eq_true, if_false]
  try refine wpAny_bind (wpAny_pure ?_)
  try simp only [Bool.not_true, Bool.false_eq_true, if_false]
  show wpAny _ _ (seqItems? (.ref b) >>= _) _ _ s
  refine wpAny_bind (wpAny_seqItems ho hd ?_)
  dsimp only
  refine wpAny_bind ?_
  show wpAny _ _ (forIn items _ _) _ _ s
  rw [← Array.forIn_toList]
  refine wpAny_forIn_list _ (fun rest r z => z = s ∧ r.1 = none ∧ ∀ v ∈ rest, (∃ i t, v = Value.int i t) ∨ ∃ x t, v = Value.str x t) _ (fun v rest r z hz => ?_) (fun r z hz => ?_) _ _ ⟨rfl, rfl, items_keys hi⟩
  · obtain ⟨rfl, hr, al⟩ := hz
    have tl := fun u hu => al u (List.mem_cons_of_mem v hu)
    have e : ∀ n, ofAClassStatement n v = pure false := fun n => by
      rcases al v List.mem_cons_self with ⟨i, t, rfl⟩ | ⟨x, t, rfl⟩ <;> cases n <;> rfl
    rw [e]
    refine wpAny_bind (wpAny_pure ?_)
    rw [if_neg Bool.false_ne_true]
    exact wpAny_pure ⟨rfl, rfl, tl⟩
  · obtain ⟨r1, r2⟩ := r
    obtain ⟨rfl, hr, _⟩ := hz
    cases (show r1 = none from hr)
    exact wpAny_pure h
theorem hv_keys {k : List Key} {b : Addr} {Q : Bool → Shared → Prop} (hk : (TKK P w).is s.heap k b) (h : ∀ r, Q r s) : wpAny (model P w) A (hashByValue 8 (.ref b)) Q E s := by
  have hT := IsTupleKey.typeIs hk
  obtain ⟨o, items, n, ho, _, hd, hi⟩ := hk
  unfold hashByValue
  refine wpAny_bind (wpAny_specialOf hT F.slot_tuple_hash.lookup ?_)
  show wpAny _ _ (seqItems? (.ref b) >>= _) _ _ s
  refine wpAny_bind (wpAny_seqItems ho hd (wpAny_bind ?_))
  show wpAny _ _ (forIn items _ _) _ _ s
  rw [← Array.forIn_toList]
  refine wpAny_forIn_list _ (fun rest r z => z = s ∧ r.1 = none ∧ ∀ v ∈ rest, (∃ i t, v = Value.int i t) ∨ ∃ x t, v = Value.str x t) _ (fun v rest r z hz => ?_) (fun r z hz => ?_) _ _ ⟨rfl, rfl, items_keys hi⟩
  · obtain ⟨rfl, hr, al⟩ := hz
    have tl := fun u hu => al u (List.mem_cons_of_mem v hu)
    rcases al v List.mem_cons_self with ⟨i, t, rfl⟩ | ⟨x, t, rfl⟩
    · have e : ∀ n, hashByValue n (.int i t) = pure true := fun n => by cases n <;> rfl
      rw [e]
      refine wpAny_bind (wpAny_pure ?_)
      rw [Bool.not_true, if_neg Bool.false_ne_true]
      exact wpAny_pure ⟨rfl, rfl, tl⟩
    · have e : ∀ n, hashByValue n (.str x t) = pure false := fun n => by cases n <;> rfl
      rw [e]
      refine wpAny_bind (wpAny_pure ?_)
      rw [Bool.not_false, if_pos rfl]
      exact wpAny_pure (wpAny_pure (h false))
  · obtain ⟨r1, r2⟩ := r
    obtain ⟨rfl, hr, _⟩ := hz
    cases (show r1 = none from hr)
    exact wpAny_pure (h true)
theorem calm_keys : Calm (TKK P w) := ⟨tupleKind_stays, fun hk h => cl_keys hk h, fun hk h => hv_keys hk h⟩
end
/-! what the set has of the first i items -/
structure Has {κ : Type} (ks : List (Addr × κ)) (i : Nat) (L : List (Addr × κ)) : Prop where
  sub : ∀ p, p ∈ L → p ∈ ks.take i
  all : ∀ p, p ∈ ks.take i → p.2 ∈ L.map (·.2)
  len : L.length ≤ i
theorem Has.old {κ : Type} {ks L : List (Addr × κ)} {i : Nat} {x : Addr × κ} (g : Has ks i L) (h : ks[i]? = some x) (hm : x.2 ∈ L.map (·.2)) : Has ks (i + 1) L := by
  have e : ks.take (i + 1) = ks.take i ++ [x] := by rw [List.take_add_one, h]; rfl
  refine ⟨fun p hp => e ▸ List.mem_append_left _ (g.sub p hp), fun p hp => ?_, Nat.le_succ_of_le g.len⟩
  rw [e] at hp
  rcases List.mem_append.mp hp with z | z
  · exact g.all p z
  · exact List.mem_singleton.mp z ▸ hm
theorem Has.new {κ : Type} {ks L L' : List (Addr × κ)} {i : Nat} {x : Addr × κ} (g : Has ks i L) (h : ks[i]? = some x) (pm : L'.Perm (x :: L)) : Has ks (i + 1) L' := by
  have e : ks.take (i + 1) = ks.take i ++ [x] := by rw [List.take_add_one, h]; rfl
  refine ⟨fun p hp => ?_, fun p hp => ?_, ?_⟩
  · rw [e]
    rcases List.mem_cons.mp (pm.mem_iff.mp hp) with z | z
    · exact z ▸ List.mem_append_right _ List.mem_cons_self
    · exact List.mem_append_left _ (g.sub p z)
  · rw [(pm.map (·.2)).mem_iff, List.map_cons]
    rw [e] at hp
    rcases List.mem_append.mp hp with z | z
    · exact List.mem_cons_of_mem _ (g.all p z)
    · exact List.mem_singleton.mp z ▸ List.mem_cons_self
  · have := pm.length_eq
    have := g.len
    simp at *
    omega
/-! a set that can be walked: its members' values, in some order -/
def Walked (w : World) (h : Heap) (a : Addr) (xs : List V) : Prop := ∃ (es : Array (Int × Value)) (ep : Nat) (t : SetTable), SetAt h a es ep t ∧ t.fits es.size = true ∧ es.size < scanBound ∧ Ris t.place.toList ∧
  (w.params.followText "set-order" = true ∨ t.led = true) ∧ Vals xs (es.toList.map (·.2))
/-- the set at a of the tuples L -/
def SetP (P : Program) (w : World) (a : Addr) (L : List (Addr × List Key)) (h : Heap) : Prop := ∃ (es : Array (Int × Value)) (ep : Nat) (t : SetTable), (∃ o, h.get? a = some o ∧ o.ExactSet ∧ o.data = .set es ep t) ∧
  es.toList = (L.map fun p => ((TKK P w).hash p.2, Value.ref p.1)) ∧ TabM t (L.map fun p => (TKK P w).hash p.2) ∧ (L.map (·.2)).Nodup ∧ (w.params.followText "set-order" = true ∨ t.led = true) ∧ L.length * 5 < t.mask * 3
def SetT (P : Program) (w : World) (a : Addr) (L : List (Addr × List Key)) : HO := .ext (SetP P w a L)
theorem SetP.walked {P : Program} {w : World} {a : Addr} {L : List (Addr × List Key)} {h : Heap} (R : SetP P w a L h) : Walked w h a (L.map fun p => V.ref p.1) := by
  obtain ⟨es, ep, t, ⟨o, ho, hx, hd⟩, rows, T, _, ld, gap⟩ := R
  have z := rows_size rows
  have sm : L.length ≤ 306 := by rcases T.msk.cases with e | e | e | e <;> omega
  have sb : scanBound = 4096 := rfl
  refine ⟨es, ep, t, ⟨o, ho, hx.1, hd⟩, fits_of T (by rw [List.length_map, z]) (by omega), by omega, T.up, ld, ?_⟩
  rw [rows, List.map_map]
  have gen : ∀ M : List (Addr × List Key), Vals (M.map fun p => V.ref p.1) (M.map fun p => Value.ref p.1) := fun M => by
    induction M with
    | nil => exact .nil
    | cons p M ih => exact .cons rfl ih
  exact gen L
theorem setT_ok {P : Program} {w : World} {H : Hp} {h : Heap} {a : Addr} {L : List (Addr × List Key)} (R : SetP P w a L h) : ObjOk P w H h a (SetT P w a L) := by
  have ⟨es, ep, t, ⟨o, ho, r⟩, q⟩ := R
  refine ⟨R, ⟨o, ho⟩, fun h1 h2 p k => ?_⟩
  obtain ⟨es', ep', t', ⟨o', ho', r'⟩, q'⟩ := p
  exact ⟨es', ep', t', ⟨o', k o' ho', r'⟩, q'⟩
theorem items_vals {P : Program} {w : World} : ∀ {k : List Key} {us : List Value}, Vals (k.map kV) us → ItemsAre (mixKind P w) k us
  | [], _, .nil => .nil
  | n :: k, _, .cons r t => .cons (kV_is r) (items_vals t)
theorem refs_vals : ∀ {ks : List (Addr × List Key)} {us : List Value}, Vals (ks.map fun p => V.ref p.1) us → us = ks.map fun p => Value.ref p.1
  | [], _, .nil => rfl
  | p :: ks, _, .cons r t => by
    cases r
    rw [refs_vals t]
    rfl
section
variable {X : Cx}
theorem key_tup {pins : List (Addr × Obj)} {σ : L2.St} {H : Hp} {s : Shared} {b : Addr} {k : List Key} (I : Inv X pins σ H s) (h : SqT X.K H b (k.map kV)) : (TKK X.prog X.w).is s.heap k b := by
  obtain ⟨its, r, ⟨o, ho, hc, n, hd⟩, _⟩ := I.tuple h
  exact ⟨o, its.toArray, n, ho, hc, hd, items_vals r⟩
/-- set(xs), xs a list of tuples of keys -/
def rSetT (K : PySem.W.Frag) (P : Program) (w : World) : List V → Hp → VK → Prop := fun xs H Q => ∃ (l : Addr) (ks : List (Addr × List Key)), xs = [V.ref l] ∧ SqL K H l (ks.map fun p => V.ref p.1) ∧ (∀ p ∈ ks, SqT K H p.1 (p.2.map kV)) ∧ ks.length ≤ 300 ∧
  ∀ a L, H a = none → Has ks ks.length L → (L.map (·.2)).Nodup → Q (.ref a) (upd H a (SetT P w a L))
theorem cr_setT (hc : X.calm = true) (hu : X.A.units + 64 < cLine) : CallR X (.type "set") (rSetT X.K X.prog X.w) := by
  intro pins s σ H xs us Q I r h
  obtain ⟨l, ks, rfl, hl, hk, hf, q⟩ := h
  rw [Vals.ref1 r]
  obtain ⟨its, rv, pl, hz⟩ := I.list hl
  have hits : its = ks.map fun p => Value.ref p.1 := refs_vals rv
  have hn : H s.heap.objs.size = none := I.hok.fresh (Nat.le_refl _)
  have mem : ∀ p ∈ ks, (TKK X.prog X.w).is s.heap p.2 p.1 := fun p hp => key_tup I (hk p hp)
  have room : X.A.in1.in1.in1.units < cLine := by
    show X.A.units + 1 + 1 + 1 < cLine
    omega
  have none0 : s.heap.get? s.heap.objs.size = none := by
    cases e : s.heap.get? s.heap.objs.size with
    | none => rfl
    | some o => exact absurd (Heap.lt_size e) (Nat.lt_irrefl _)
  refine call_set_of (P := X.prog) (w := X.w) (I.ok.hd hc) pl.isList (fun i h => ∃ L es ep t, SetH (TKK X.prog X.w) h s.heap.objs.size L es ep t ∧ Has ks i L) (fun i h h' ⟨L, es, ep, t, R, g⟩ k1 k2 => ?_) (fun h e _ => ?_) (fun i v z hv old ⟨L, es, ep, t, R, g⟩ E' => ?_) fun h' tk ⟨L, es, ep, t, R, g⟩ old => ?_
  · obtain ⟨o, ho, rr⟩ := R.ob
    exact ⟨L, es, ep, t, ⟨⟨o, k1 o ho, rr⟩, R.rows, R.tab, R.nd, fun p hp => calm_keys.st.stays (fun b o vs n hb _ => k2 b o hb) (mem p (List.mem_of_mem_take (g.sub p hp))), R.ld, R.gap⟩, g⟩
  · refine ⟨[], #[], 0, _, ⟨⟨_, e, ⟨rfl, rfl, rfl⟩, rfl⟩, rfl, ⟨List.Pairwise.nil, rfl, rfl, .inl (.inl rfl), fun x hx => (by cases hx), fun i h j hi => (by simp at hi)⟩, List.nodup_nil, fun p hp => (by cases hp), ?_, by show 0 * 5 < 7 * 3; decide⟩, ⟨fun p h => (by cases h), fun p h => (by simp at h), Nat.le_refl _⟩⟩
    show _ ∨ (!X.w.params.followText "set-order") = true
    cases X.w.params.followText "set-order"
    · exact .inr rfl
    · exact .inl rfl
  · have hv2 : (ks.map fun p => Value.ref p.1)[i]? = some v := by
      rw [← hits, ← hv]
      simp
    rw [List.getElem?_map] at hv2
    cases hp : ks[i]? with
    | none =>
      rw [hp] at hv2
      cases hv2
    | some p =>
      rw [hp] at hv2
      cases hv2
      have hx : (TKK X.prog X.w).is z.heap p.2 p.1 := calm_keys.st.stays (fun b o vs n hb _ => old b o hb) (mem p (List.mem_of_getElem? hp))
      have il := (List.getElem?_eq_some_iff.mp hp).1
      unfold setAdd
      refine wpAny_holding (wpAny_bind ((TKK X.prog X.w).pyHash room hx ?_))
      refine add (s := { z with toks := z.toks + (TKK X.prog X.w).draws p.2 }) calm_keys R hx room (by have := g.len; omega) fun b h' L' es' ep' t' sb R' c1 c2 => ⟨h', _, Nat.le_add_right _ _, rfl, sb, L', es', ep', t', R', ?_⟩
      by_cases c : p.2 ∈ L.map (·.2)
      · rw [c1 c]
        exact g.old hp c
      · exact g.new hp (c2 c)
  · have e : its.toArray.size = ks.length := by
      rw [hits]
      simp
    rw [e] at g
    exact ⟨.ref s.heap.objs.size, upd H s.heap.objs.size (SetT X.prog X.w s.heap.objs.size L), I.laid (t' := tk) old (Nat.le_refl _) (setT_ok ⟨es, ep, t, R.ob, R.rows, R.tab, R.nd, R.ld, R.gap⟩), rfl, q _ L hn g R.nd⟩
/-! sorted(a set) -/
theorem each_perm {α β : Type} {R : α → β → Prop} {us vs : List α} (p : us.Perm vs) : ∀ {bs : List β}, EachIs R us bs → ∃ cs : List β, cs.Perm bs ∧ EachIs R vs cs := by
  induction p with
  | nil => exact fun {bs} h => ⟨bs, .refl _, h⟩
  | cons x _ ih =>
    intro bs h
    cases h with
    | cons h t =>
      obtain ⟨cs, c, e⟩ := ih t
      exact ⟨_ :: cs, c.cons _, .cons h e⟩
  | swap x y l =>
    intro bs h
    cases h with
    | cons h t =>
      cases t with
      | cons h2 t => exact ⟨_ :: _ :: _, .swap _ _ _, .cons h2 (.cons h t)⟩
  | trans _ _ ih1 ih2 =>
    intro bs h
    obtain ⟨cs, c, e⟩ := ih1 h
    obtain ⟨ds, d, f⟩ := ih2 e
    exact ⟨ds, d.trans c, f⟩
theorem each_of_vals : ∀ {bs : List (V × PyData)} {us : List Value}, Vals (bs.map Prod.fst) us → EachIs (fun (v : Value) (b : V × PyData) => RelV b.1 v) us bs
  | [], _, r => by cases r; exact .nil
  | b :: bs, _, r => by
    cases r with
    | cons r1 r2 => exact .cons r1 (each_of_vals r2)
theorem vals_of_each : ∀ {bs : List (V × PyData)} {us : List Value}, EachIs (fun (v : Value) (b : V × PyData) => RelV b.1 v) us bs → Vals (bs.map Prod.fst) us
  | [], _, r => by cases r; exact .nil
  | b :: bs, _, r => by
    cases r with
    | cons r1 r2 => exact .cons r1 (vals_of_each r2)
theorem each_and {α β : Type} {R S : α → β → Prop} : ∀ {as : List α} {bs : List β}, EachIs R as bs → (∀ a b, b ∈ bs → R a b → S a b) → EachIs S as bs
  | _, _, .nil, _ => .nil
  | _, _, .cons h t, k => .cons (k _ _ List.mem_cons_self h) (each_and t fun a b hb => k a b (List.mem_cons_of_mem _ hb))
def rSortSet (K : PySem.W.Frag) (w : World) : List V → Hp → VK → Prop := fun vs H Q => ∃ (a : Addr) (bs : List (V × PyData)) (U : Heap → Prop), vs = [V.ref a] ∧ H a = some (.ext U) ∧ (∀ h, U h → Walked w h a (bs.map Prod.fst)) ∧ (∀ b ∈ bs, Dp K H b.1 b.2) ∧
  AllAlike (bs.map Prod.snd) ∧ Sortable (bs.map Prod.snd) ∧ (∀ b ∈ bs, b.2.depth ≤ 10) ∧
  ∀ (cs : List (V × PyData)) (p : Addr), cs.Perm bs → cs.Pairwise (fun x y => dataLe false Prod.snd x y = true) → H p = none → Q (.ref p) (upd H p (.lst (cs.map Prod.fst)))
theorem cr_sortSet (hc : X.calm = true) (hu : X.A.units + 64 < cLine) : CallR X (.builtin "sorted") (rSortSet X.K X.w) := by
  intro pins s σ H vs us Q I r h
  obtain ⟨a, bs, U, rfl, ha, hw, hd, hal, hso, hdp, q⟩ := h
  rw [Vals.ref1 r]
  obtain ⟨es, ep, t, hat, hf, hsz, ris, ld, rv⟩ := hw _ (I.hok a _ ha).1
  have line : sizeLine = 16777216 := rfl
  have sbd : scanBound = 4096 := rfl
  refine Calls.call_function_entry kind_sorted plain_sorted entry_sorted (args_sorted1 _) ?_
  unfold Builtin.«sorted»
  refine wpAny_bind (m := checkCount "sorted" 1 1 _) (wpAny_pure ?_)
  refine wpAny_bind (collect_set (A := X.A.in1) (I.ok.hd hc) hat hf hsz ris ld fun s1 vs k1 hz g1 o1 pm => ?_)
  obtain ⟨cs, pc, ec⟩ := each_perm pm.symm (each_of_vals rv)
  have hl : vs.length = bs.length := ec.length.trans pc.length_eq
  have lb : bs.length = es.size := by
    have h1 := (each_of_vals rv).length
    simp at h1
    exact h1.symm
  refine wpAny_bind (wpAny_newList ?_ (by omega))
  have hoL : (s1.heap.push (seqObj "list" vs.toArray 0)).get? s1.heap.objs.size = some (seqObj "list" vs.toArray 0) := Heap.get?_push_size _ rfl
  show wpAny _ _ _ _ _ { s1 with heap := s1.heap.push (seqObj "list" vs.toArray 0) }
  have er : EachIs (fun (v : Value) (b : V × PyData) => ∃ as, Reads (s1.heap.push (seqObj "list" vs.toArray 0)) v b.2 as ∧ s1.heap.objs.size ∉ as) vs cs := each_and ec fun v b hb rb => by
    obtain ⟨as, hr⟩ := Dp.reads I b.2 b.1 v (hd b (pc.mem_iff.mp hb)) rb
    have hr1 : Reads s1.heap v b.2 as := Reads.keeps k1 hr
    refine ⟨as, Reads.keeps (fun b o e => Heap.get?_push_of_some _ e) hr1, fun hm => ?_⟩
    obtain ⟨o, ho⟩ := PyProof.On.reads_mem_get hr1 _ hm
    exact absurd (Heap.lt_size ho) (Nat.lt_irrefl _)
  have pd := pc.map Prod.snd
  have hal' : AllAlike (cs.map Prod.snd) := fun d h1 d' h2 => hal d (pd.mem_iff.mp h1) d' (pd.mem_iff.mp h2)
  have hso' : Sortable (cs.map Prod.snd) := by
    rcases hso with z | z
    · exact .inl fun d h1 => z d (pd.mem_iff.mp h1)
    · exact .inr fun d h1 => z d (pd.mem_iff.mp h1)
  refine wpAny_bind (wpAny_holding (PySem.W.list_sort_data (enc := Prod.snd) (s := { s1 with heap := s1.heap.push (seqObj "list" vs.toArray 0) }) hoL ec er hal' hso' (by have := pc.length_eq; omega) ?k4 fun out ho eo => ?_))
  case k4 =>
    intro b hb
    have h1 := hdp b (pc.mem_iff.mp hb)
    have h2 : X.A.in1.units = X.A.units + 1 := rfl
    omega
  obtain ⟨c, hcat⟩ := sortedHeap_at (vs := vs) (out := out.toArray) hoL
  have pw : (cs.mergeSort (dataLe false Prod.snd)).Pairwise (fun x y => dataLe false Prod.snd x y = true) := PySem.W.sort_pairwise (by unfold dataLe; exact PySem.W.sortLe_total _ _ _) cs
  have pm2 : (cs.mergeSort (dataLe false Prod.snd)).Perm bs := (List.mergeSort_perm cs _).trans pc
  generalize cs.mergeSort (dataLe false Prod.snd) = ds at eo pw pm2
  have ev := vals_of_each eo
  have hn : H s1.heap.objs.size = none := I.hok.fresh hz
  have hlen : (ds.map Prod.fst).length ≤ sizeLine := by
    rw [List.length_map, pm2.length_eq]
    omega
  have J : Inv X pins σ (upd H s1.heap.objs.size (.lst (ds.map Prod.fst))) { s with heap := sortedHeap (s1.heap.push (seqObj "list" vs.toArray 0)) s1.heap.objs.size vs out.toArray, gens := s1.gens, drawn := s1.drawn, toks := s1.toks } := by
    have old : ∀ b u, s.heap.get? b = some u → (sortedHeap (s1.heap.push (seqObj "list" vs.toArray 0)) s1.heap.objs.size vs out.toArray).get? b = some u := fun b u e => by
      have q2 := k1 b u e
      have hlt := Heap.lt_size q2
      rw [sortedHeap_old (Nat.ne_of_lt hlt) (by rw [size_push']; exact Nat.lt_succ_of_lt hlt)]
      exact Heap.get?_push_of_some _ q2
    exact I.call (ch := []) (Un.laid old hz hn) (I.hok.laid old hz ⟨hlen, out, c, ev, hcat⟩) (by rw [g1]; exact I.bare) (fun _ z => nomatch z)
  refine wpAny_pure ⟨_, rfl, ?_⟩
  have e : ({ s1 with heap := sortedHeap (s1.heap.push (seqObj "list" vs.toArray 0)) s1.heap.objs.size vs out.toArray } : Shared) = { s with heap := sortedHeap (s1.heap.push (seqObj "list" vs.toArray 0)) s1.heap.objs.size vs out.toArray, gens := s1.gens, drawn := s1.drawn, toks := s1.toks } := by
    cases s1
    cases s
    cases o1
    rfl
  rw [e]
  exact ⟨.ref s1.heap.objs.size, _, J, rfl, q ds _ pm2 pw hn⟩
end
end SH
/-! set(xs) of texts and ints: what it holds can be walked -/
namespace SH
open PySem PySem.Spec PyProof.Rows L2
open PySem.W (EachIs)
/-- the set at a of the keys L -/
def SetQ (P : Program) (w : World) (h : Heap) (a : Addr) (L : List Key) : Prop := ∃ (es : Array (Int × Value)) (ep : Nat) (t : SetTable), (∃ o, h.get? a = some o ∧ o.ExactSet ∧ o.data = .set es ep t) ∧ ElemsOf (mixKind P w) es.toList ∧
  EachIs (fun (e : Int × Value) (k : Key) => (mixKind P w).is k e.2 = true) es.toList L ∧ L.Nodup ∧ es.size < scanBound ∧ t.fits es.size = true ∧ Ris t.place.toList ∧ (w.params.followText "set-order" = true ∨ t.led = true)
theorem each_find {α β : Type} {R : α → β → Prop} : ∀ {as : List α} {bs : List β}, EachIs R as bs → ∀ a ∈ as, ∃ b ∈ bs, R a b
  | _, _, .nil, _, h => by cases h
  | _, _, .cons r t, a, h => by
    rcases List.mem_cons.mp h with rfl | h
    · exact ⟨_, List.mem_cons_self, r⟩
    · obtain ⟨b, hb, q⟩ := each_find t a h
      exact ⟨b, List.mem_cons_of_mem _ hb, q⟩
theorem each_back {α β : Type} {R : α → β → Prop} : ∀ {as : List α} {bs : List β}, EachIs R as bs → ∀ b ∈ bs, ∃ a ∈ as, R a b
  | _, _, .nil, _, h => by cases h
  | _, _, .cons r t, b, h => by
    rcases List.mem_cons.mp h with rfl | h
    · exact ⟨_, List.mem_cons_self, r⟩
    · obtain ⟨a, ha, q⟩ := each_back t b h
      exact ⟨a, List.mem_cons_of_mem _ ha, q⟩
section
variable {P : Program} {w : World} {A : Around} {E : Value → Shared → Prop} {s : Shared} {a : Addr} {L : List Key}
theorem key_scannable {k : Key} {v : Value} (h : (mixKind P w).is k v = true) : v.scannable = true := by
  rcases keyIs_shape h with ⟨i, t, _, rfl⟩ | ⟨x, t, _, rfl⟩ <;> rfl
/-- the last rows of adding by scan -/
theorem add_tail {g : Bool → Sem Unit} (hg : ∀ (b : Bool) (z : Shared) (Q' : Unit → Shared → Prop), Q' () z → wpAny (model P w) A (g b) Q' E z) {o : Obj} {es es1 : Array (Int × Value)} {ep : Nat} {t t2 : SetTable}
    (ho : s.heap.get? a = some o) (hex : o.ExactSet) (hd : o.data = .set es ep t) (el : ElemsOf (mixKind P w) es1.toList) (ei : EachIs (fun (e : Int × Value) (k : Key) => (mixKind P w).is k e.2 = true) es1.toList L) (nd : L.Nodup)
    (hb : es1.size < scanBound) (hf : t2.fits es1.size = true) (ris : Ris t2.place.toList) (ld : w.params.followText "set-order" = true ∨ t2.led = true) {dm : Bool} {R : Option Bool → Shared → Prop}
    (hR : ∀ h' L', Heap.SameBut a s.heap h' → SetQ P w h' a L' → L'.Perm L → R (some true) { s with heap := h' }) :
    wpAny (model P w) A (storeSet a es1 t2 >>= fun _ => if (!dm && t2.tooFull) = true then (g (relayAll t2 es1 (SetTable.grown es1.size)).2.2 >>= fun _ => storeSet a (relayAll t2 es1 (SetTable.grown es1.size)).1 (relayAll t2 es1 (SetTable.grown es1.size)).2.1 >>= fun _ => pure (some true)) else pure (some true)) R E s := by
  refine wpAny_bind (wpAny_storeSet_of ho hd ?_ (fits_of_scanBound hb))
  have ho1 := store_at (es' := es1) (t' := t2) ho hd
  have sb1 := Heap.SameBut.update s.heap a (Obj.putSet es1 t2)
  by_cases c : (!dm && t2.tooFull) = true
  · refine wp_if_pos c ?_
    have pm := relayAll_perm t2 es1 (SetTable.grown es1.size)
    have f3 := relayAll_fits t2 es1 (SetTable.grown es1.size)
    have r3 := relayAll_ris t2 es1 (SetTable.grown es1.size)
    have l3 := relayAll_led t2 es1 (SetTable.grown es1.size)
    generalize relayAll t2 es1 (SetTable.grown es1.size) = Z at pm f3 r3 l3 ⊢
    obtain ⟨es2, t3, gave⟩ := Z
    dsimp only at pm f3 r3 l3 ⊢
    have z2 : es2.size = es1.size := by rw [← Array.length_toList, pm.length_eq, Array.length_toList]
    obtain ⟨L2, p2, e2⟩ := each_perm pm.symm ei
    refine wpAny_bind (hg _ _ _ (wpAny_bind (wpAny_storeSet_of ho1 rfl (wpAny_pure (hR _ L2 (sb1.trans (Heap.SameBut.update _ a _)) ⟨es2, _, t3, ⟨_, store_at ho1 rfl, hex, rfl⟩, fun e he => el e (pm.mem_iff.mp he), e2, p2.nodup_iff.mpr nd, z2 ▸ hb, f3, r3, ld.imp id fun z => l3 ▸ z⟩ p2)) (fits_of_scanBound (z2 ▸ hb)))))
  · exact wp_if_neg c (wpAny_pure (hR _ L sb1 ⟨es1, _, t2, ⟨_, ho1, hex, rfl⟩, el, ei, nd, hb, hf, ris, ld⟩ (.refl _)))
theorem addQ (R : SetQ P w s.heap a L) {k : Key} {v : Value} (hk : (mixKind P w).is k v = true) (few : L.length + 1 < scanBound) {Q : Bool → Shared → Prop}
    (hQ : ∀ b h' L', Heap.SameBut a s.heap h' → SetQ P w h' a L' → (k ∈ L → L' = L) → (k ∉ L → L'.Perm (k :: L)) → Q b { s with heap := h' }) :
    wpAny (model P w) A (setAddHashed a v ((mixKind P w).hash k)) Q E s := by
  obtain ⟨es, ep, t, ⟨o, ho, hex, hd⟩, el, ei, nd, hb, hf, ris, ld⟩ := id R
  have sc := key_scannable hk
  have zL : es.size = L.length := by rw [← Array.length_toList]; exact ei.length
  unfold setAddHashed setAddHashedIn
  refine wpAny_holding (wpAny_bind (wpAny_setState_of ho hd hf ?_))
  dsimp only
  rw [byScan_of sc hb el, if_pos rfl]
  unfold setAddByScan
  refine wpAny_bind (wpAny_bind (wpAny_rule (wpAny_bind (wpAny_setScan_of hk ho hd hf el ?_))))
  cases hfi : List.findIdx? (fun e => (mixKind P w).is k e.2) es.toList with
  | some j =>
    dsimp only
    obtain ⟨hj, pj, _⟩ := List.findIdx?_eq_some_iff_getElem.mp hfi
    obtain ⟨k', hk', e'⟩ := each_find ei _ (List.getElem_mem hj)
    have ek : k' = k := (mixKind P w).inj _ _ _ e' pj
    exact wpAny_pure (wpAny_pure (hQ false s.heap L (Heap.SameBut.refl a s.heap) R (fun _ => rfl) fun z => absurd (ek ▸ hk') z))
  | none =>
    dsimp only
    have nk : k ∉ L := fun z => by
      obtain ⟨e, he, q⟩ := each_back ei k z
      have c := List.findIdx?_eq_none_iff.mp hfi e he
      rw [q] at c
      cases c
    have gw : ∀ (b : Bool) {z : Shared} {Q' : Unit → Shared → Prop}, Q' () z → wpAny (model P w) A (match b with | true => rule "set.scan.the-table-gave-way" | false => pure ()) Q' E z :=
      fun b z Q' q => by cases b <;> first | exact wpAny_pure q | exact wpAny_rule q
    have pm := layNew_perm t es ((mixKind P w).hash k) v
    have f1 := layNew_fits t es ((mixKind P w).hash k) v
    have r1 := layNew_ris t es ((mixKind P w).hash k) v ris
    have l1 := layNew_led t es ((mixKind P w).hash k) v
    generalize layNew t es ((mixKind P w).hash k) v = Z at pm f1 r1 l1 ⊢
    obtain ⟨es1, t1, dm, gave⟩ := Z
    dsimp only at pm f1 r1 l1 ⊢
    rw [Array.toList_push] at pm
    have pc : es1.toList.Perm (((mixKind P w).hash k, v) :: es.toList) := pm.trans (List.perm_append_singleton _ _)
    obtain ⟨L1, p1, e1⟩ := each_perm pc.symm (EachIs.cons (R := fun (e : Int × Value) (k : Key) => (mixKind P w).is k e.2 = true) (a := ((mixKind P w).hash k, v)) (b := k) hk ei)
    have el1 : ElemsOf (mixKind P w) es1.toList := fun e he => by
      rcases List.mem_cons.mp (pc.mem_iff.mp he) with z | z
      · exact z ▸ ⟨⟨k, hk, rfl⟩, sc⟩
      · exact el e z
    have nd1 : L1.Nodup := p1.nodup_iff.mpr (List.nodup_cons.mpr ⟨nk, nd⟩)
    have z1 : es1.size = L.length + 1 := by rw [← Array.length_toList, pc.length_eq, List.length_cons, Array.length_toList, zL]
    have ld1 : w.params.followText "set-order" = true ∨ t1.led = true := ld.imp id fun z => l1 ▸ z
    have fin : ∀ h' L', Heap.SameBut a s.heap h' → SetQ P w h' a L' → L'.Perm L1 → Q true { s with heap := h' } := fun h' L' sb r p => hQ true h' L' sb r (fun z => absurd z nk) fun _ => p.trans p1
    refine wpAny_bind (gw _ ?_)
    have hb1 : es1.size < scanBound := by rw [z1]; exact few
    split
    · refine wpAny_bind ?_
      rw [hashByValue_scannable 8 sc]
      refine wpAny_pure ?_
      refine add_tail (L := L1) (fun b z Q' q => by cases b <;> first | exact wpAny_pure q | exact wpAny_rule q) ho hex hd el1 e1 nd1 hb1 ?_ ?_ ?_ fun h' L' sb r p => ?_
      · first | (split <;> first | exact f1 | exact SetTable.fits_plain_off f1) | exact f1
      · first | (split <;> exact r1) | exact r1
      · first | (split <;> exact ld1) | exact ld1
      · exact wpAny_pure (fin h' L' sb r p)
    · refine wpAny_bind (wpAny_pure ?_)
      rw [if_pos rfl]
      exact add_tail (L := L1) (fun b z Q' q => by cases b <;> first | exact wpAny_pure q | exact wpAny_rule q) ho hex hd el1 e1 nd1 hb1 f1 r1 ld1 fun h' L' sb r p => wpAny_pure (fin h' L' sb r p)
end
def SetK2 (P : Program) (w : World) (a : Addr) (L : List Key) : HO := .ext fun h => SetQ P w h a L
theorem SetQ.kept {P : Program} {w : World} {h h' : Heap} {a : Addr} {L : List Key} (R : SetQ P w h a L) (k : ∀ o, h.get? a = some o → h'.get? a = some o) : SetQ P w h' a L := by
  obtain ⟨es, ep, t, ⟨o, ho, r⟩, q⟩ := R
  exact ⟨es, ep, t, ⟨o, k o ho, r⟩, q⟩
theorem setK2_ok {P : Program} {w : World} {H : Hp} {h : Heap} {a : Addr} {L : List Key} (R : SetQ P w h a L) : ObjOk P w H h a (SetK2 P w a L) := by
  have ⟨_, _, _, ⟨o, ho, _⟩, _⟩ := R
  exact ⟨R, ⟨o, ho⟩, fun h1 h2 p k => SetQ.kept p k⟩
theorem SetQ.walked {P : Program} {w : World} {a : Addr} {L : List Key} {h : Heap} (R : SetQ P w h a L) : Walked w h a (L.map kV) := by
  obtain ⟨es, ep, t, ⟨o, ho, hx, hd⟩, _, ei, _, hb, hf, ris, ld⟩ := R
  refine ⟨es, ep, t, ⟨o, ho, hx.1, hd⟩, hf, hb, ris, ld, ?_⟩
  have gen : ∀ {l : List (Int × Value)} {L : List Key}, EachIs (fun (e : Int × Value) (k : Key) => (mixKind P w).is k e.2 = true) l L → Vals (L.map kV) (l.map (·.2)) := fun h => by
    induction h with
    | nil => exact .nil
    | cons r t ih =>
      refine .cons ?_ ih
      rcases keyIs_shape r with ⟨i, t, rfl, e⟩ | ⟨x, t, rfl, e⟩
      · exact ⟨t, e⟩
      · exact ⟨t, e⟩
  exact gen ei
section
variable {X : Cx}
/-- set(xs), xs a list of texts or ints -/
def rSetQ (K : PySem.W.Frag) (P : Program) (w : World) : List V → Hp → VK → Prop := fun xs H Q => ∃ (l : Addr) (ks : List Key), xs = [V.ref l] ∧ SqL K H l (ks.map kV) ∧ ks.length ≤ 4000 ∧ ∀ a L, H a = none → L.Nodup → (∀ k, k ∈ L ↔ k ∈ ks) → L.length ≤ ks.length → Q (.ref a) (upd H a (SetK2 P w a L))
theorem cr_setQ (hc : X.calm = true) : CallR X (.type "set") (rSetQ X.K X.prog X.w) := by
  intro pins s σ H xs us Q I r h
  obtain ⟨l, ks, rfl, hl, hf, q⟩ := h
  rw [Vals.ref1 r]
  obtain ⟨its, rv, pl, hz⟩ := I.list hl
  have hn : H s.heap.objs.size = none := I.hok.fresh (Nat.le_refl _)
  have sbd : scanBound = 4096 := rfl
  refine call_set_of (P := X.prog) (w := X.w) (I.ok.hd hc) pl.isList (fun i h => ∃ L, SetQ X.prog X.w h s.heap.objs.size L ∧ L.Nodup ∧ (∀ k, k ∈ L ↔ k ∈ ks.take i) ∧ L.length ≤ i) (fun i h h' ⟨L, R, g⟩ k1 k2 => ⟨L, R.kept k1, g⟩) (fun h e _ => ?_) (fun i v z hv old ⟨L, R, g1, g2, g3⟩ E' => ?_) fun h' tk ⟨L, R, g1, g2, g3⟩ old => ?_
  · refine ⟨[], ⟨#[], 0, _, ⟨_, e, ⟨rfl, rfl, rfl⟩, rfl⟩, fun e he => (by simp at he), .nil, List.nodup_nil, by decide, by rfl, List.Pairwise.nil, ?_⟩, List.nodup_nil, fun k => by simp, Nat.le_refl _⟩
    show _ ∨ (!X.w.params.followText "set-order") = true
    cases X.w.params.followText "set-order"
    · exact .inr rfl
    · exact .inl rfl
  · have hv2 : its[i]? = some v := by simpa using hv
    have hil : i < ks.length := by
      have h1 := rv.length
      rw [List.length_map] at h1
      rw [h1]
      exact (List.getElem?_eq_some_iff.mp hv2).1
    obtain ⟨k, hk⟩ : ∃ k, ks[i]? = some k := ⟨_, List.getElem?_eq_getElem hil⟩
    obtain ⟨u, hu, ru⟩ := rv.get (i := i) (x := kV k) (by rw [List.getElem?_map, hk]; rfl)
    rw [hv2] at hu
    cases hu
    have ek : ks.take (i + 1) = ks.take i ++ [k] := by rw [List.take_add_one, hk]; rfl
    unfold setAdd
    refine wpAny_holding (wpAny_bind ((mixKind X.prog X.w).pyHash (kV_is ru) ?_))
    refine addQ (s := { z with toks := z.toks + 1 }) R (kV_is ru) (by have := (show ks.length ≤ 4000 from hf); omega) fun b h' L' sb R' c1 c2 => ⟨h', _, Nat.le_add_right _ _, rfl, sb, L', R', ?_⟩
    by_cases c : k ∈ L
    · rw [c1 c]
      refine ⟨g1, fun j => ?_, Nat.le_succ_of_le g3⟩
      rw [ek, List.mem_append, List.mem_singleton, g2]
      exact ⟨.inl, fun z => z.elim id fun e => e ▸ (g2 k).mp c⟩
    · have pm := c2 c
      refine ⟨pm.nodup_iff.mpr (List.nodup_cons.mpr ⟨c, g1⟩), fun j => ?_, by have := pm.length_eq; rw [List.length_cons] at this; omega⟩
      rw [pm.mem_iff, List.mem_cons, ek, List.mem_append, List.mem_singleton, g2]
      exact Or.comm
  · have e : its.toArray.size = ks.length := by
      have h1 := rv.length
      rw [List.length_map] at h1
      simp [h1]
    rw [e, List.take_length] at g2
    rw [e] at g3
    exact ⟨.ref s.heap.objs.size, upd H s.heap.objs.size (SetK2 X.prog X.w s.heap.objs.size L), I.laid (t' := tk) old (Nat.le_refl _) (setK2_ok R), rfl, q _ L hn g1 g2 g3⟩
end
end SH
namespace Tb
open PySem PySem.Spec PyProof.Rows L2
def topS (i : Nat) : Stmt := PySem.Challenge.pw_everyparcel_k07_whole_tests_and_ranks_te.main.body.getD i (.Pass ⟨0, 0, 0, 0⟩)
abbrev sMade : Stmt := topS 8
abbrev sSpells : Stmt := topS 9
abbrev sIsName : Stmt := topS 11
abbrev sIsAddr : Stmt := topS 14
abbrev sLong : Stmt := topS 15
abbrev sIsLane : Stmt := topS 17
abbrev sLane : Stmt := topS 18
/-- a def of the text: it stands, its arguments bind, its global is it -/
structure Dd (K : PySem.W.Frag) (mg : Str → Option Value) (x : Str) (st : Stmt) (ps : List Str) (f : Addr) (fd : FuncData) : Prop where
  F : Fun K x x st f fd
  b : Binds K fd ps []
  g : mg x = some (.ref f)
/-- the globals that are the built-ins, and the two texts -/
structure Blt (mg : Str → Option Value) : Prop where
  len : mg "len" = none
  int : mg "int" = none
  str : mg "str" = none
  list : mg "list" = none
  tuple : mg "tuple" = none
  dict : mg "dict" = none
  bool : mg "bool" = none
  range : mg "range" = none
  sorted : mg "sorted" = none
  all : mg "all" = none
  isi : mg "isinstance" = none
  dg : ∃ t, mg "DIGITS" = some (.str ("0123456789" : String) t)
  lt : ∃ t, mg "LETTERS" = some (.str ("abcdefghijklmnopqrstuvwxyz" : String) t)
  hr : ∃ t, mg "HERE" = some (.str ("" : String) t)
theorem sqOf {K : PySem.W.Frag} {H : Hp} {p : Addr} {xs : List V} (h : H p = some (.lst xs)) : SqL K H p xs := .inl (.inl h)
theorem same_upd {H : Hp} {p : Addr} {o : HO} (h : H p = none) : Same H (upd H p o) := fun b x e => by
  rw [upd_ne (ne_of_none e h)]
  exact e
def digits : Str := ("0123456789" : String)
def letters : Str := ("abcdefghijklmnopqrstuvwxyz" : String)
/-- a module's name that holds a text -/
theorem pe_txt {X : Cx} {x z : Str} {pos : Pos} (hg : Gl X x) (h : ∃ t, X.mg x = some (.str z t)) (hd : (x == ("__debug__" : Str)) = false := by decide) : PE X (.Name x pos) (tC (.str z)) := by
  obtain ⟨t, h⟩ := h
  exact pe_glob hg h (show RelV (.str z) (.str z t) from ⟨t, rfl⟩) hd
/-! ### the mirrors -/
def isIn (signs : Str) (c : Nat) : Bool := decide (c ∈ signs.cps.toList)
def made (t signs : Str) (most : Int) : Bool := decide (1 ≤ (t.length : Int)) && decide ((t.length : Int) ≤ most) && t.cps.toList.all (isIn signs)
def isAddr (t : Str) : Bool := made t digits 8
def isName (t : Str) : Bool := made t (letters ++ digits) 12 && (match t.cps[0]? with | some c => isIn letters c | none => false)
def isLane (t : Str) : Bool := decide (t = Str.ofString "") || isName t
section
variable {P : Program} {w : World} {K : PySem.W.Frag} {mg : Str → Option Value} {base : Heap}
theorem scMade : FnScope ["text", "signs", "most", "sign"] ["text", "signs", "most"] (defScope sMade) := ⟨rfl, rfl, rfl, by decide +kernel, rfl, by decide +kernel, by decide +kernel⟩
def spMade : Sp := fun vs H Q _ => ∃ (t signs : Str) (most : Int), vs = [.str t, .str signs, .int most] ∧ t.length ≤ 1000 ∧ ∀ H', Same H H' → Q (.bl (made t signs most)) H'
theorem ok_made {f : Addr} {fd : FuncData} {k : Nat} (F : Fun K "made_of" "made_of" sMade f fd) (B : Blt mg) : FnOk P w K mg base CX0 (k + 1) f fd ["text", "signs", "most"] spMade := by
  refine F.ok scMade (fun vs H Q E h => ?_) (fun cdv A outer s H vs Q E hr h => ?_)
  · obtain ⟨t, sg, m, rfl, _⟩ := h
    rfl
  · obtain ⟨t, sg, m, rfl, hl, q⟩ := h
    refine ⟨_, pss_one (ps_ret (pe_and (pe_chain op_le op_le pe_int (pe_callB call_len_str (by rfl) B.len PySem.boot_len (pa_cons (pv 0) pa_nil)) (pv 2))
      (pe_one (pe_callB (cr_all rfl) (by rfl) B.all (by decide +kernel) (pa_cons (pe_lc (own := [("sign", 3)]) (g := gName 3) (by rfl) scMade.nd (pi_str (pv 0)) (blkOk_by (N := ["text", "signs", "most", "sign"]) (sc := defScope sMade) (by decide +kernel)) (fun _ _ _ _ _ => pg_name (i := 3) scMade.nd rfl (Or.inl rfl)) (fun _ _ _ _ _ => pts_nil) (fun _ _ _ _ _ => pe_cmpR op_in_sign (pv 3) (pv 1) (by rfl))) pa_nil))))), ?_⟩
    refine ⟨.str t, rfl, t, rfl, Nat.le_trans hl (by decide), 1, (t.length : Int), rfl, rfl, _, rfl, ?_⟩
    have h0 : ∀ c : Bool, c = false → Q (.bl c) H → made t sg m = false → Q (.bl (made t sg m)) H := fun c e q e2 => by rw [e2, ← e]; exact q
    refine ite2 (fun e1 => ?_) (fun e1 => ?_)
    · refine ⟨.int m, rfl, (t.length : Int), m, rfl, rfl, _, rfl, ite2 (fun e2 => ?_) (fun e2 => ?_)⟩
      · refine ⟨.str t, rfl, t, rfl, fun D nD => lc_it (walk_str (z := t)) (fun i H' => Same H H' ∧ H' D = some (.lst (((t.cps.toList.take i).map (isIn sg)).map V.bl))) ⟨same_upd nD, upd_same⟩ (fun _ _ _ _ => trivial) (fun i x H1 H2 hi hP hy => ?_) (fun H1 hP => ?_)⟩
        · obtain ⟨hS, hD⟩ := hP
          obtain ⟨rfl, c, hc, rfl⟩ := hy
          refine ⟨rfl, ?_⟩
          have hi' : i < t.cps.toList.length := by rw [Array.length_toList]; exact hi
          have hc' : t.cps.toList[i]? = some c := by rw [Array.getElem?_toList]; exact hc
          refine ⟨_, rfl, .str sg, rfl, c, sg, rfl, rfl, _, hD, ?_, ?_, ?_⟩
          · rw [List.length_map, List.length_map, List.length_take, Array.length_toList]
            exact small1000 (Nat.le_trans (Nat.min_le_right _ _) hl)
          · intro b o hb
            rw [upd_ne (ne_of_none hb nD)]
            exact hS _ _ hb
          · rw [upd_same, List.take_add_one, hc', List.map_append, List.map_append]
            rfl
        · obtain ⟨hS, hD⟩ := hP
          refine ⟨D, (t.cps.toList.map (isIn sg)), rfl, sqOf (by rw [hD, ← Array.length_toList, List.take_length]), ?_⟩
          have e : (t.cps.toList.map (isIn sg)).all id = made t sg m := by
            unfold made
            rw [of_decide_eq_true e1 |> decide_eq_true, of_decide_eq_true e2 |> decide_eq_true, List.all_map]
            rfl
          rw [e]
          exact q _ hS
      · have e : made t sg m = false := by
          unfold made
          rw [Bool.eq_false_iff.mpr e2, Bool.and_false, Bool.false_and]
        have := q H (Same.refl _)
        rw [e] at this
        exact this
    · have e : made t sg m = false := by
        unfold made
        rw [Bool.eq_false_iff.mpr e1, Bool.false_and, Bool.false_and]
      have := q H (Same.refl _)
      rw [e] at this
      exact ⟨false, rfl, this⟩
theorem scSpells : FnScope ["text"] ["text"] (defScope sSpells) := ⟨rfl, rfl, rfl, by decide +kernel, rfl, by decide +kernel, by decide +kernel⟩
theorem scIsName : FnScope ["text"] ["text"] (defScope sIsName) := ⟨rfl, rfl, rfl, by decide +kernel, rfl, by decide +kernel, by decide +kernel⟩
theorem scIsAddr : FnScope ["text"] ["text"] (defScope sIsAddr) := ⟨rfl, rfl, rfl, by decide +kernel, rfl, by decide +kernel, by decide +kernel⟩
theorem scIsLane : FnScope ["text"] ["text"] (defScope sIsLane) := ⟨rfl, rfl, rfl, by decide +kernel, rfl, by decide +kernel, by decide +kernel⟩
/-- one text in, a bool out -/
def spT (g : Str → Bool) : Sp := fun vs H Q _ => ∃ (t : Str), vs = [.str t] ∧ t.length ≤ 1000 ∧ ∀ H', Same H H' → Q (.bl (g t)) H'
theorem ok_spells {f g : Addr} {fd gd : FuncData} (F : Fun K "spells_address" "spells_address" sSpells f fd) (D : Dd K mg "made_of" sMade ["text", "signs", "most"] g gd) (B : Blt mg) : FnOk P w K mg base CX0 2 f fd ["text"] (spT isAddr) := by
  have G : FnOk P w K mg base CX0 1 g gd ["text", "signs", "most"] spMade := ok_made D.F B
  refine F.ok scSpells (fun vs H Q E h => ?_) (fun cdv A outer s H vs Q E hr h => ?_)
  · obtain ⟨t, rfl, _⟩ := h
    rfl
  · obtain ⟨t, rfl, hl, q⟩ := h
    refine ⟨_, pss_one (ps_ret (pe_call G hr (by rfl) D.g D.F.kp D.b .nil pass0 (pa_cons (pv 0) (pa_cons (pe_txt (by rfl) B.dg) (pa_cons pe_int pa_nil))))), ?_⟩
    exact ⟨.str t, rfl, t, digits, 8, rfl, hl, q⟩
theorem ok_isAddr {f g g2 : Addr} {fd gd gd2 : FuncData} (F : Fun K "is_address" "is_address" sIsAddr f fd) (D : Dd K mg "spells_address" sSpells ["text"] g gd) (D2 : Dd K mg "made_of" sMade ["text", "signs", "most"] g2 gd2) (B : Blt mg) : FnOk P w K mg base CX0 3 f fd ["text"] (spT isAddr) := by
  have G : FnOk P w K mg base CX0 2 g gd ["text"] (spT isAddr) := ok_spells D.F D2 B
  refine F.ok scIsAddr (fun vs H Q E h => ?_) (fun cdv A outer s H vs Q E hr h => ?_)
  · obtain ⟨t, rfl, _⟩ := h
    rfl
  · obtain ⟨t, rfl, hl, q⟩ := h
    refine ⟨_, pss_one (ps_ret (pe_call G hr (by rfl) D.g D.F.kp D.b .nil pass0 (pa_cons (pv 0) pa_nil))), ?_⟩
    exact ⟨.str t, rfl, t, rfl, hl, q⟩
theorem ok_isName {f g : Addr} {fd gd : FuncData} (F : Fun K "is_name" "is_name" sIsName f fd) (D : Dd K mg "made_of" sMade ["text", "signs", "most"] g gd) (B : Blt mg) : FnOk P w K mg base CX0 2 f fd ["text"] (spT isName) := by
  have G : FnOk P w K mg base CX0 1 g gd ["text", "signs", "most"] spMade := ok_made D.F B
  refine F.ok scIsName (fun vs H Q E h => ?_) (fun cdv A outer s H vs Q E hr h => ?_)
  · obtain ⟨t, rfl, _⟩ := h
    rfl
  · obtain ⟨t, rfl, hl, q⟩ := h
    refine ⟨_, pss_one (ps_ret (pe_and (pe_call G hr (by rfl) D.g D.F.kp D.b .nil pass0 (pa_cons (pv 0) (pa_cons (pe_op op_add_str (pe_txt (by rfl) B.lt) (pe_txt (by rfl) B.dg)) (pa_cons pe_int pa_nil))))
      (pe_one (pe_cmpR op_in_sign (pe_item_str (pv 0) pe_int (fun _ _ => rfl)) (pe_txt (by rfl) B.lt) (by rfl))))), ?_⟩
    refine ⟨.str t, rfl, _, _, rfl, rfl, by decide +kernel, t, letters ++ digits, 12, rfl, hl, fun H1 S1 => ⟨_, rfl, ite2 (fun e => ?_) (fun e => ?_)⟩⟩
    · have e' : (decide (1 ≤ (t.length : Int)) && decide ((t.length : Int) ≤ 12) && t.cps.toList.all (isIn (letters ++ digits))) = true := e
      rw [Bool.and_eq_true, Bool.and_eq_true] at e'
      have h1 : 1 ≤ (t.length : Int) := of_decide_eq_true e'.1.1
      have h2 : 0 < t.cps.size := by
        show 0 < t.length
        omega
      have hc : t.cps[0]? = some t.cps[0] := Array.getElem?_eq_getElem h2
      refine ⟨.str t, rfl, t, 0, t.cps[0], rfl, rfl, by decide, by decide, by omega, hc, t.cps[0], letters, rfl, rfl, ?_⟩
      have en : isName t = decide (t.cps[0] ∈ letters.cps.toList) := by
        unfold isName
        rw [show made t (letters ++ digits) 12 = true from e, hc, Bool.true_and]
        rfl
      rw [← en]
      exact q _ S1
    · have en : isName t = false := by
        unfold isName
        rw [show made t (letters ++ digits) 12 = false from Bool.eq_false_iff.mpr e, Bool.false_and]
      have := q _ S1
      rw [en] at this
      exact this
theorem ok_isLane {f g g2 : Addr} {fd gd gd2 : FuncData} (F : Fun K "_is_lane" "_is_lane" sIsLane f fd) (D : Dd K mg "is_name" sIsName ["text"] g gd) (D2 : Dd K mg "made_of" sMade ["text", "signs", "most"] g2 gd2) (B : Blt mg) : FnOk P w K mg base CX0 3 f fd ["text"] (spT isLane) := by
  have G : FnOk P w K mg base CX0 2 g gd ["text"] (spT isName) := ok_isName D.F D2 B
  refine F.ok scIsLane (fun vs H Q E h => ?_) (fun cdv A outer s H vs Q E hr h => ?_)
  · obtain ⟨t, rfl, _⟩ := h
    rfl
  · obtain ⟨t, rfl, hl, q⟩ := h
    refine ⟨_, pss_one (ps_ret (pe_or (pe_cmpR op_eq (pv 0) (pe_txt (by rfl) B.hr) (nomark _)) (pe_one (pe_call G hr (by rfl) D.g D.F.kp D.b .nil pass0 (pa_cons (pv 0) pa_nil))))), ?_⟩
    refine ⟨.str t, rfl, rfl, _, rfl, ite2 (fun e => ?_) (fun e => ?_)⟩
    · have e1 : V.str t = V.str (Str.ofString "") := of_decide_eq_true e
      have e2 : t = Str.ofString "" := V.str.inj e1
      have el : isLane t = true := by
        unfold isLane
        rw [decide_eq_true e2, Bool.true_or]
      have := q H (Same.refl _)
      rw [el] at this
      exact this
    · have e2 : ¬ t = Str.ofString "" := fun z => e (decide_eq_true (congrArg V.str z))
      have el : isLane t = isName t := by
        unfold isLane
        rw [decide_eq_false e2, Bool.false_or]
      refine ⟨.str t, rfl, t, rfl, hl, fun H' S => ?_⟩
      rw [← el]
      exact q H' S
end
end Tb
namespace Tb
open PySem PySem.Spec PyProof.Rows L2
/-! ### prefixes and lanes: the mirrors -/
/-- the first n signs -/
def pre (a : Str) (n : Nat) : Str := cutS a none (some (n : Int))
abbrev Kvs := List (Key × V)
/-- the longest of the first n beginnings that is a key -/
def lp (kvs : Kvs) (a : Str) : Nat → Option Str
  | 0 => none
  | n + 1 => if (valV kvs (Sum.inr (pre a (n + 1)))).isSome = true then some (pre a (n + 1)) else lp kvs a n
def long (kvs : Kvs) (a : Str) : Option Str := lp kvs a a.length
def oStr : Option Str → V
  | none => .non
  | some z => .str z
/-- the lane of an address -/
def laneV (kvs : Kvs) (a : Str) : V := match long kvs a with
  | none => .non
  | some p => (valV kvs (Sum.inr p)).getD .non
theorem lp_some {kvs : Kvs} {a : Str} : ∀ {n : Nat} {p : Str}, lp kvs a n = some p → ∃ v, valV kvs (Sum.inr p) = some v
  | 0, _, h => by cases h
  | n + 1, p, h => by
    unfold lp at h
    by_cases c : (valV kvs (Sum.inr (pre a (n + 1)))).isSome = true
    · rw [if_pos c] at h
      cases h
      exact Option.isSome_iff_exists.mp c
    · rw [if_neg c] at h
      exact lp_some h
theorem lp_len {kvs : Kvs} {a : Str} : ∀ {n : Nat} {p : Str}, lp kvs a n = some p → p.length ≤ a.length
  | 0, _, h => by cases h
  | n + 1, p, h => by
    unfold lp at h
    by_cases c : (valV kvs (Sum.inr (pre a (n + 1)))).isSome = true
    · rw [if_pos c] at h
      cases h
      exact cutS_length a _ _
    · rw [if_neg c] at h
      exact lp_len h
section
variable {P : Program} {w : World} {K : PySem.W.Frag} {mg : Str → Option Value} {base : Heap}
theorem scLong : FnScope ["prefixes", "address", "end"] ["prefixes", "address"] (defScope sLong) := ⟨rfl, rfl, rfl, by decide +kernel, rfl, by decide +kernel, by decide +kernel⟩
theorem scLane : FnScope ["lanes", "address", "prefix"] ["lanes", "address"] (defScope sLane) := ⟨rfl, rfl, rfl, by decide +kernel, rfl, by decide +kernel, by decide +kernel⟩
/-- a dict and an address in; what g says out, the heap as it was -/
def spDA (g : Kvs → Str → V) : Sp := fun vs H Q _ => ∃ (d : Addr) (kvs : Kvs) (a : Str), vs = [.ref d, .str a] ∧ H d = some (.dK kvs) ∧ a.length ≤ 1000 ∧ Q (g kvs a) H
theorem ok_long {f : Addr} {fd : FuncData} {k : Nat} (F : Fun K "longest_prefix" "longest_prefix" sLong f fd) (B : Blt mg) : FnOk P w K mg base CX0 (k + 1) f fd ["prefixes", "address"] (spDA fun kvs a => oStr (long kvs a)) := by
  refine F.ok scLong (fun vs H Q E h => ?_) (fun cdv A outer s H vs Q E hr h => ?_)
  · obtain ⟨d, kvs, a, rfl, _⟩ := h
    rfl
  · obtain ⟨d, kvs, a, rfl, hd, hl, q⟩ := h
    have hu := hu_of hr
    refine ⟨_, pss_cons (ps_for PassesOwn.never rfl (pi_range3 (by rfl) B.range (pa_cons (pe_callB call_len_str (by rfl) B.len PySem.boot_len (pa_cons (pv 1) pa_nil)) (pa_cons pe_int (pa_cons (pe_un un_neg pe_int) pa_nil)))) (pg_name (i := 2) scLong.nd rfl (.inl rfl))
        (pss_one (ps_if (pt_cmp (pc_din hu (pe_slice sl_str (pv 1) po_none (po_some (pv 2))) (pv 0))) (pss_one (ps_ret (pe_slice sl_str (pv 1) po_none (po_some (pv 2))))) pss_nil)))
      (pss_one (ps_ret pe_non)), ?_⟩
    have hz : sizeLine = 16777216 := rfl
    refine ⟨.str a, rfl, a, rfl, by omega, 1, rfl, (a.length : Int), 0, -1, ((a.length : Int) - 0).toNat, rfl, RgC.neg (by omega) (by omega) (by omega) (by omega), ?_⟩
    refine for_rangeC (lo := (a.length : Int)) (c := -1) (n := ((a.length : Int) - 0).toNat) (fun i σ H' => ∃ y, σ = [some (.ref d), some (.str a), y] ∧ H' = H ∧ long kvs a = lp kvs a (a.length - i)) ⟨none, rfl, rfl, rfl⟩ ?_ ?_
    · rintro i σ H' hi ⟨y, rfl, rfl, e⟩
      have hi' : i < a.length := by omega
      have ei : (a.length : Int) + (i : Int) * -1 = ((a.length - i : Nat) : Int) := by omega
      rw [ei]
      refine ⟨.str a, rfl, .int ((a.length - i : Nat) : Int), rfl, ((a.length - i : Nat) : Int), rfl, a, rfl, by omega, .ref d, rfl, d, _, rfl, DGet.k (k := Sum.inr (pre a (a.length - i))) hd, ?_⟩
      obtain ⟨m, em⟩ : ∃ m, a.length - i = m + 1 := ⟨a.length - i - 1, by omega⟩
      by_cases c : (valV kvs (Sum.inr (pre a (a.length - i)))).isSome = true
      · refine ⟨_, rfl, ?_⟩
        rw [c]
        refine ⟨.str a, rfl, .int ((a.length - i : Nat) : Int), rfl, ((a.length - i : Nat) : Int), rfl, a, rfl, by omega, ?_⟩
        have : long kvs a = some (pre a (a.length - i)) := by
          rw [e, em]
          unfold lp
          rw [← em, if_pos c]
        have q : Q (oStr (long kvs a)) H' := q
        rw [this] at q
        exact q
      · refine ⟨_, rfl, ?_⟩
        rw [Bool.eq_false_iff.mpr c]
        refine ⟨_, rfl, rfl, ?_⟩
        rw [e, em]
        show (if (valV kvs (Sum.inr (pre a (m + 1)))).isSome = true then some (pre a (m + 1)) else lp kvs a m) = _
        rw [← em, if_neg c, show a.length - (i + 1) = m by omega]
    · rintro σ H' ⟨y, rfl, rfl, e⟩
      rw [show a.length - ((a.length : Int) - 0).toNat = 0 by omega] at e
      have q : Q (oStr (long kvs a)) H' := q
      rw [e] at q
      exact q
theorem ok_lane {f g : Addr} {fd gd : FuncData} (F : Fun K "_lane" "_lane" sLane f fd) (D : Dd K mg "longest_prefix" sLong ["prefixes", "address"] g gd) (B : Blt mg) : FnOk P w K mg base CX0 2 f fd ["lanes", "address"] (spDA laneV) := by
  have G : FnOk P w K mg base CX0 1 g gd ["prefixes", "address"] (spDA fun kvs a => oStr (long kvs a)) := ok_long D.F B
  refine F.ok scLane (fun vs H Q E h => ?_) (fun cdv A outer s H vs Q E hr h => ?_)
  · obtain ⟨d, kvs, a, rfl, _⟩ := h
    rfl
  · obtain ⟨d, kvs, a, rfl, hd, hl, q⟩ := h
    have hu := hu_of hr
    refine ⟨_, pss_cons (ps_set (i := 2) scLane.nd rfl (.inl rfl) (pe_call G hr (by rfl) D.g D.F.kp D.b .nil pass0 (pa_cons (pv 0) (pa_cons (pv 1) pa_nil))))
      (pss_cons (ps_if (pt_cmpR op_isN (pv 2) pe_non (nomark _)) (pss_one (ps_ret pe_non)) pss_nil)
      (pss_one (ps_ret (pe_dget hu (pv 0) (pv 2) (fun _ _ => rfl))))), ?_⟩
    refine ⟨.ref d, rfl, .str a, rfl, d, kvs, a, rfl, hd, hl, ?_⟩
    have q : Q (laneV kvs a) H := q
    show gName 2 (oStr (long kvs a)) _ _ _
    unfold laneV at q
    cases e : long kvs a with
    | none =>
      rw [e] at q
      exact ⟨.non, rfl, rfl, true, rfl, q⟩
    | some p =>
      rw [e] at q
      obtain ⟨v, ev⟩ := lp_some e
      have q : Q ((valV kvs (Sum.inr p)).getD .non) H := q
      rw [ev] at q
      refine ⟨.str p, rfl, rfl, false, rfl, .ref d, rfl, .str p, rfl, d, v, rfl, ?_, q⟩
      rw [← ev]
      exact DGet.k (k := Sum.inr p) hd
end
end Tb
namespace Tb
open PySem PySem.Spec PyProof.Rows L2
open PySem.W (EachIs AllAlike Sortable dataLe)
/-! ### sorted, any number of items -/
theorem vals_each : ∀ {bs : List (V × PyData)} {us : List Value}, Vals (bs.map Prod.fst) us → EachIs (fun (v : Value) (b : V × PyData) => RelV b.1 v) us bs
  | [], _, r => by cases r; exact .nil
  | b :: bs, _, r => by
    cases r with
    | cons r1 r2 => exact .cons r1 (vals_each r2)
theorem each_vals : ∀ {bs : List (V × PyData)} {us : List Value}, EachIs (fun (v : Value) (b : V × PyData) => RelV b.1 v) us bs → Vals (bs.map Prod.fst) us
  | [], _, r => by cases r; exact .nil
  | b :: bs, _, r => by
    cases r with
    | cons r1 r2 => exact .cons r1 (each_vals r2)
theorem each_imp {α β : Type} {R S : α → β → Prop} : ∀ {as : List α} {bs : List β}, EachIs R as bs → (∀ a b, b ∈ bs → R a b → S a b) → EachIs S as bs
  | _, _, .nil, _ => .nil
  | _, _, .cons h t, k => .cons (k _ _ (List.mem_cons_self ..) h) (each_imp t fun a b hb => k a b (List.mem_cons_of_mem _ hb))
def rSortDt (K : PySem.W.Frag) : List V → Hp → VK → Prop := fun vs H Q => ∃ (a : Addr) (bs : List (V × PyData)), vs = [.ref a] ∧ SqL K H a (bs.map Prod.fst) ∧ (∀ b ∈ bs, Dp K H b.1 b.2) ∧ AllAlike (bs.map Prod.snd) ∧ Sortable (bs.map Prod.snd) ∧ (∀ b ∈ bs, b.2.depth ≤ 10) ∧
  ∀ p, H p = none → Q (.ref p) (upd H p (.lst ((bs.mergeSort (dataLe false Prod.snd)).map Prod.fst)))
section
variable {X : Cx}
theorem cr_sortedDt (hu : X.A.units + 64 < cLine) : CallR X (.builtin "sorted") (rSortDt X.K) := by
  intro pins s σ H vs us Q I r h
  obtain ⟨a, bs, rfl, hs, hd, hal, hso, hdp, q⟩ := h
  obtain ⟨its, rv, hl, hz⟩ := I.list hs
  rw [Vals.ref1 r]
  have e := vals_each rv
  rw [List.length_map] at hz
  refine PySem.W.sorted_data (enc := Prod.snd) hl.isList e (each_imp e fun v b hb rb => Dp.reads I b.2 b.1 v (hd b hb) rb) hal hso hz (fun b hb => by have := hdp b hb; omega) fun out ho eo => ?_
  obtain ⟨ep, he'⟩ := PyProof.Rows.sortedAll_at s.heap its out.toArray
  have hlen : ((bs.mergeSort (dataLe false Prod.snd)).map Prod.fst).length ≤ sizeLine := by
    rw [List.length_map, List.length_mergeSort]
    exact hz
  exact ⟨.ref _, upd H (s.heap.objs.size + 1) (.lst ((bs.mergeSort (dataLe false Prod.snd)).map Prod.fst)), I.laid (t' := s.toks) (fun _ _ => PyProof.Rows.sortedAll_old) (Nat.le_succ _) ⟨hlen, out, ep, each_vals eo, he'⟩, rfl, q _ (I.hok.fresh (Nat.le_succ _))⟩
/-- sorted(d), the keys texts, any number of them -/
theorem cr_sortedDk (hcalm : X.calm = true) (hu : X.A.units + 64 < cLine) : CallR X (.builtin "sorted") (fun xs H Q => ∃ (a : Addr) (kvs : List (Key × V)) (ks : List Str), xs = [.ref a] ∧ Rd H a (.dK kvs) ∧ kvs.map (·.1) = ks.map Sum.inr ∧ ks.length ≤ 1000 ∧
    ∀ p, H p = none → Q (.ref p) (upd H p (.lst ((ks.mergeSort (dataLe false PyData.str)).map V.str)))) := by
  intro pins s σ H xs us Q I r q
  obtain ⟨a, kvs, ks, rfl, hd, hks, hln, q⟩ := q
  obtain ⟨u, rfl, rx⟩ := vals1 r
  cases rx
  obtain ⟨z, lo, vs, rel, dd⟩ := dk_rd I.hok hd
  obtain ⟨ep, hat⟩ := dd.dictAt
  have hkeys : vs.map (·.1) = ks.map Sum.inr := rel.keys.symm.trans hks
  have hl : vs.length = ks.length := by
    have e := congrArg List.length hkeys
    rwa [List.length_map, List.length_map] at e
  have hline : sizeLine = 16777216 := rfl
  refine Calls.call_function_entry PyProof.Rows.kind_sorted PyProof.Rows.plain_sorted PyProof.Rows.entry_sorted (PyProof.Rows.args_sorted1 _) ?_
  unfold Builtin.«sorted»
  refine wpAny_bind (m := checkCount "sorted" 1 1 _) (wpAny_pure ?_)
  refine wpAny_bind (PySem.W.kdu_collect (A := X.A.in1) (PySem.W.kdl_dict (knd := mixKind X.prog X.w) (kvs := vs) (ep := ep) lo) (I.ok.hd hcalm) hat (by omega) fun h' tk acc hk hacc => ?_)
  have hal : acc.toList.length = ks.length := by rw [Array.length_toList, hacc.1, hl]
  -- the values are the texts
  have each : EachIs (fun (v : Value) (x : Str) => ∃ t, v = .str x t) acc.toList ks := by
    have gen : ∀ (n : Nat) (us : List Value) (xs : List Str), us.length = xs.length → (∀ (j : Nat) (v : Value), us[j]? = some v → ∃ (x : Str) (t : Tok), xs[j]? = some x ∧ v = Value.str x t) →
      EachIs (fun (v : Value) (x : Str) => ∃ t, v = .str x t) us xs := by
      intro _ us
      induction us with
      | nil =>
        intro xs e _
        cases xs with
        | nil => exact .nil
        | cons _ _ => cases e
      | cons u us ih =>
        intro xs e k
        cases xs with
        | nil => cases e
        | cons x xs =>
          obtain ⟨x', t, e1, e2⟩ := k 0 u rfl
          cases e1
          exact .cons ⟨t, e2⟩ (ih xs (Nat.succ.inj e) fun j v hv => k (j + 1) v hv)
    refine gen 0 _ _ hal fun j v e => ?_
    obtain ⟨k, x, e1, e2⟩ := hacc.2 j v (by rw [← Array.getElem?_toList]; exact e)
    have e3 : (vs.map (·.1))[j]? = some k := by rw [List.getElem?_map, e1]; rfl
    rw [hkeys, List.getElem?_map] at e3
    cases e4 : ks[j]? with
    | none => rw [e4] at e3; cases e3
    | some y =>
      rw [e4] at e3
      cases (Option.some.inj e3 : Sum.inr y = k)
      obtain ⟨t, ev⟩ := Value.isStrOf_shape (x := y) (v := v) e2
      exact ⟨y, t, rfl, ev⟩
  have I1 : Inv X pins σ H { s with heap := h', toks := tk } := I.kept hk
  refine wpAny_bind (wpAny_newList ?_ (by rw [hal]; omega))
  have hoL : (h'.push (seqObj "list" acc.toList.toArray 0)).get? h'.objs.size = some (seqObj "list" acc.toList.toArray 0) := Heap.get?_push_size _ rfl
  show wpAny _ _ _ _ _ { s with heap := h'.push (seqObj "list" acc.toList.toArray 0), toks := tk }
  have alike1 : AllAlike (ks.map PyData.str) := fun d hd d' hd' => by
    obtain ⟨x, _, rfl⟩ := List.mem_map.mp hd
    obtain ⟨y, _, rfl⟩ := List.mem_map.mp hd'
    simp [PySem.W.alike]
  have srt1 : Sortable (ks.map PyData.str) := .inr fun d hd => by
    obtain ⟨x, _, rfl⟩ := List.mem_map.mp hd
    exact ⟨PyData.noConfusion, fun _ => PyData.noConfusion⟩
  refine wpAny_bind (wpAny_holding (PySem.W.list_sort_data (enc := PyData.str) (s := { s with heap := h'.push (seqObj "list" acc.toList.toArray 0), toks := tk }) hoL each (each_imp each fun v x _ ⟨t, e⟩ => ⟨[], by rw [e]; exact Reads.str x t, List.not_mem_nil⟩) alike1 srt1 (by omega) ?k4 fun out ho eo => ?_))
  case k4 =>
    intro b _
    have h1 : (PyData.str b).depth ≤ 1 := by simp [PyData.depth]
    have h2 : X.A.in1.units = X.A.units + 1 := rfl
    omega
  obtain ⟨ep', he'⟩ := PyProof.Rows.sortedHeap_at (vs := acc.toList) (out := out.toArray) hoL
  have hlen : ((ks.mergeSort (dataLe false PyData.str)).map V.str).length ≤ sizeLine := by
    rw [List.length_map, List.length_mergeSort]
    omega
  have ev : Vals ((ks.mergeSort (dataLe false PyData.str)).map V.str) out := by
    generalize ks.mergeSort (dataLe false PyData.str) = zs at eo
    clear ho he' hlen
    induction eo with
    | nil => exact .nil
    | cons h _ ih => exact .cons h ih
  have hnew : H h'.objs.size = none := I1.hok.fresh (Nat.le_refl _)
  refine wpAny_pure ⟨_, rfl, .ref h'.objs.size, upd H h'.objs.size (.lst ((ks.mergeSort (dataLe false PyData.str)).map V.str)), I1.laid (t' := tk) (fun b o e => ?_) (Nat.le_refl _) ⟨hlen, out, ep', ev, he'⟩, rfl, q _ hnew⟩
  have hb : b < h'.objs.size := Heap.lt_size e
  rw [PyProof.Rows.sortedHeap_old (Nat.ne_of_lt hb) (by rw [size_push']; exact Nat.lt_succ_of_lt hb)]
  exact Heap.get?_push_of_some _ e
end
end Tb
namespace Tb
open PySem PySem.Spec PyProof.Rows L2
open PySem.W (EachIs AllAlike Sortable dataLe)
/-! ### sorted(d.items()) -/
abbrev Pr := Str × Str
def enc2 (p : Pr) : PyData := .tuple [.str p.1, .str p.2]
def kvP (ps : List Pr) : Kvs := ps.map fun p => (Sum.inr p.1, V.str p.2)
section
variable {prog : Program} {w : World} {κ : Type} [DecidableEq κ] {knd : KeyKind prog w κ} {A : Around} {E : Value → Shared → Prop} {s : Shared} {r d : Addr} {kvs : List (κ × Value)} {ep : Nat}
theorem collect_items {R : List Value → Shared → Prop} (hh : A.handled = none) (hv : s.heap.IsItemsView r d) (hm : s.heap.DictAt knd d kvs ep) (hn : kvs.length ≤ sizeLine)
    (h : ∀ (h' : Heap) (tk : Nat) (acc : Array Value) (c : Nat) (as : List Addr), (∀ b o, s.heap.get? b = some o → h'.get? b = some o) → h'.get? s.heap.objs.size = some { cls := .type "list", dict := none, data := .seq acc c, slots := #[] } → as.length = kvs.length → PySem.W.KdxG knd kvs s.heap.objs.size h' as →
      acc.toList = as.map Value.ref → R (as.map Value.ref) { s with heap := h', toks := tk }) :
    wpAny (model prog w) A (collect (.ref r)) R E s := by
  obtain ⟨ov, hov, hvr⟩ := id hv
  have hr : r < s.heap.objs.size := Heap.lt_size hov
  have hd : d < s.heap.objs.size := by
    obtain ⟨od, _, hod, _⟩ := id hm
    exact Heap.lt_size hod
  unfold collect
  refine wpAny_bind (wpAny_runValue (codeAny_builtin entry_proto_collect' ?_))
  rw [Around.under_plainId PySem.F.plain_proto_collect _]
  show wpAny _ A.in1 (newList [] >>= fun l => again (.builtin "list.__iadd__" ⟨[l, .ref r], []⟩)) _ _ s
  refine wpAny_bind (wpAny_newObj_type ?_)
  refine wpAny_pure ⟨plainId_quiet PySem.F.plain_list_iadd _, codeAny_builtin entry_list_iadd' ?_⟩
  rw [Around.under_plainId PySem.F.plain_list_iadd _]
  have up : ∀ b o, s.heap.get? b = some o → (s.heap.push { cls := .type "list", data := .seq ([] : List Value).toArray }).get? b = some o := fun b o e => Heap.get?_push_of_some _ e
  have key := PySem.W.kdx_extend (A := A) (knd := knd) (kvs := kvs) (ep := ep) (s := { s with heap := s.heap.push { cls := .type "list", data := .seq ([] : List Value).toArray } })
    (R := fun (q : Result) (s' : Shared) => ∃ (h' : Heap) (tk : Nat) (acc : Array Value) (c : Nat) (as : List Addr), q = .ok (.ret (.ref s.heap.objs.size)) ∧ s' = { s with heap := h', toks := tk } ∧ (∀ b o, s.heap.get? b = some o → h'.get? b = some o) ∧
      h'.get? s.heap.objs.size = some { cls := .type "list", dict := none, data := .seq acc c, slots := #[] } ∧ as.length = kvs.length ∧ PySem.W.KdxG knd kvs s.heap.objs.size h' as ∧ acc.toList = as.map Value.ref)
    hh ⟨ov, up _ _ hov, hvr⟩ (hm.at' fun o e => up _ _ e) s.heap.objs.size (Nat.ne_of_gt hr) (Nat.ne_of_lt hd) (.ref s.heap.objs.size) 0 (Heap.get?_push_size _ rfl)
    (fun h' tk acc c as hk hS hl hG hacc => ⟨h', tk, acc, c, as, rfl, rfl, fun b o e => hk b o (Nat.ne_of_lt (Heap.lt_size e)) (up _ _ e), hS, hl, hG.low (by show s.heap.objs.size ≤ (s.heap.push _).objs.size; rw [Heap.size_push]; exact Nat.le_succ _), hacc⟩) hn
  refine wpAny_mono key (fun fin s' x => ?_) fun e s' x => ?_
  · cases fin with
    | done f =>
      obtain ⟨h', tk, acc, c, as, e, rfl, hk, hS, hl, hG, hacc⟩ := x
      cases e
      show wpAny _ A (load s.heap.objs.size >>= _) _ _ _
      refine wpAny_bind (wpAny_load hS ?_)
      refine wpAny_pure ?_
      show R acc.toList _
      rw [hacc]
      exact h h' tk acc c as hk hS hl hG hacc
    | again c₁ =>
      refine ⟨x.1, codeAny_mono x.2 fun q s₂ y => ?_⟩
      obtain ⟨h', tk, acc, c, as, rfl, rfl, hk, hS, hl, hG, hacc⟩ := y
      show wpAny _ A (load s.heap.objs.size >>= _) _ _ _
      refine wpAny_bind (wpAny_load hS ?_)
      refine wpAny_pure ?_
      show R acc.toList _
      rw [hacc]
      exact h h' tk acc c as hk hS hl hG hacc
  · obtain ⟨_, _, _, _, _, e', _⟩ := x
    cases e'
end
/-- the order of the pairs, and of the texts -/
def le2 : Pr → Pr → Bool := dataLe false enc2
def le1 : Str → Str → Bool := dataLe false PyData.str
theorem alike2 (ps : List Pr) : AllAlike (ps.map enc2) := fun d hd d' hd' => by
  obtain ⟨x, _, rfl⟩ := List.mem_map.mp hd
  obtain ⟨y, _, rfl⟩ := List.mem_map.mp hd'
  simp [enc2, PySem.W.alike, PySem.W.alikeAll]
theorem sortable2 (ps : List Pr) : Sortable (ps.map enc2) := .inl fun d hd => by
  obtain ⟨x, _, rfl⟩ := List.mem_map.mp hd
  exact ⟨_, _, rfl⟩
theorem depth2 (p : Pr) : (enc2 p).depth ≤ 2 := by simp [enc2, PyData.depth, PyData.depthAll]
/-- a list of refs to pairs of texts -/
structure PrsAt (K : PySem.W.Frag) (H : Hp) (l : Addr) (ts : List (Addr × Pr)) : Prop where
  l : SqL K H l (ts.map fun t => V.ref t.1)
  t : ∀ t ∈ ts, SqT K H t.1 [.str t.2.1, .str t.2.2]
theorem kvP_keys (ps : List Pr) : (kvP ps).map (·.1) = (ps.map (·.1)).map Sum.inr := by
  unfold kvP
  rw [List.map_map, List.map_map]
  rfl
/-- sorted(e.items()) -/
def tSortItems (te : TE) : TE := fun σ H Q => te σ H fun x H1 => ∃ (d : Addr) (ps : List Pr), x = .ref d ∧ H1 d = some (.dK (kvP ps)) ∧ ps.length ≤ 1000 ∧
  ∀ (H' : Hp) (p : Addr) (ts : List (Addr × Pr)), Same H1 H' → H1 p = none → H' p = some (.lst (ts.map fun t => V.ref t.1)) → (∀ t ∈ ts, H' t.1 = some (.tup [.str t.2.1, .str t.2.2])) → ts.map (·.2) = ps.mergeSort le2 → Q (.ref p) H'
section
variable {X : Cx} {e : Expr} {te : TE} {p apos cpos pos : Pos}
theorem pe_sortedItems (hc : X.calm = true) (hu : X.A.units + 64 < cLine) (he : PE X e te) (hg : Gl X "sorted") (hm : X.mg "sorted" = none) (hbase : attributeBase e "items" X.env (eval e X.env) = eval e X.env := by rfl) (hline : (apos.endLine == cpos.line) = true := by rfl)
    (hs : starEach [.Call (.Attribute e "items" apos) [] [] cpos] X.env = (false, eval (.Call (.Attribute e "items" apos) [] [] cpos) X.env) :: starEach [] X.env := by rfl) :
    PE X (.Call (.Name "sorted" p) [.Call (.Attribute e "items" apos) [] [] cpos] [] pos) (tSortItems te) := by
  refine ⟨fun pins s σ H Q I hq => ?_⟩
  refine wpAny_Call_Name_kw (ld_blt I hg hm PyProof.Rows.boot_sorted ?_)
  refine PyProof.Rows.callWith_builtin1 ?_ hs rfl
  rw [hs]
  show wpAny _ _ (spliced ((false, eval (.Call (.Attribute e "items" apos) [] [] cpos) X.env) :: backTo pos (starEach [] X.env))) _ _ s
  refine Calls.spliced_cons ?_
  refine wpAny_Call_method (T := "dict") (id := "dict.items") hbase rfl hline PySem.F.plainAttrs_dict PySem.F.slot_dict_items PySem.F.type_dict_items (thn (he.run pins s σ H _ I hq) fun u s1 ⟨x, H1, I1, rx, d, ps, ex, hd, hln, q⟩ => ?_)
  subst ex
  obtain rfl : u = Value.ref d := rx
  obtain ⟨hz, hs0, vs, kv, hdo⟩ := I1.hok d _ hd
  obtain ⟨ep, hat⟩ := hdo.dictAt
  have lk : (kvP ps).length = vs.length := Paired.length kv
  have lps : (kvP ps).length = ps.length := by unfold kvP; rw [List.length_map]
  have hline' : sizeLine = 16777216 := rfl
  have I2 : Inv X pins σ H1 { s1 with heap := s1.heap.push { cls := .type "dict_items", data := .fields #[.ref d] } } := I1.kept (t' := s1.toks) fun b ob q => Heap.get?_push_of_some _ q
  refine ⟨hdo.typeIs, hdo.mapOf.noDict, ?_⟩
  show wpAny _ _ (callWith cpos (.builtin "dict.items") [.ref d] [] []) _ X.xe s1
  refine method_meetsIn PySem.F.slot_dict_items PySem.F.entry_dict_items rfl (PySem.evalArgs_none ⟨rfl, hdo.typeIs, PySem.F.args_dict_items_1 _, _, meets_dict_items (mixKind X.prog X.w) d hs0, ⟨vs, hdo⟩, ?_⟩)
  refine Calls.spliced_nil ?_
  refine Calls.call_function_entry PyProof.Rows.kind_sorted PyProof.Rows.plain_sorted PyProof.Rows.entry_sorted (PyProof.Rows.args_sorted1 _) ?_
  unfold Builtin.«sorted»
  refine wpAny_bind (m := checkCount "sorted" 1 1 _) (wpAny_pure ?_)
  refine wpAny_bind (collect_items (A := X.A.in1) (knd := mixKind X.prog X.w) (kvs := vs) (ep := ep) (I1.ok.hd hc) ⟨_, Heap.get?_push_size _ rfl, rfl, rfl⟩ (hat.push _) (by omega) fun h' tk acc c as hk hS hl hG hacc => ?_)
  obtain ⟨H', k1, k2, k3, k4, k5, k6, J⟩ := LiI.items_laid (tk := tk) I2 hz kv hk hS hl hG hacc
  have las : as.length = ps.length := by omega
  -- the pairs with their places
  have pr : ∀ t ∈ as.zip ps, H' t.1 = some (.tup [.str t.2.1, .str t.2.2]) := by
    intro t ht
    obtain ⟨j, hj⟩ := List.mem_iff_getElem?.mp ht
    rw [List.getElem?_zip_eq_some] at hj
    obtain ⟨y, hy, hy2⟩ := LiI.paired_get k6 hj.1
    unfold kvP at hy
    rw [List.getElem?_map, hj.2] at hy
    cases (Option.some.inj hy)
    exact hy2
  have z1 : (as.zip ps).map Prod.fst = as := List.map_fst_zip (by omega)
  have z2 : (as.zip ps).map Prod.snd = ps := List.map_snd_zip (by omega)
  generalize as.zip ps = bs at pr z1 z2
  have lbs : bs.length = as.length := by rw [← z1, List.length_map]
  refine wpAny_bind (wpAny_newList ?_ (by rw [List.length_map]; omega))
  have hoL : (h'.push (seqObj "list" (as.map Value.ref).toArray 0)).get? h'.objs.size = some (seqObj "list" (as.map Value.ref).toArray 0) := Heap.get?_push_size _ rfl
  show wpAny _ _ _ _ _ { s1 with heap := h'.push (seqObj "list" (as.map Value.ref).toArray 0), toks := tk }
  have e2 : bs.map (fun t : Addr × Pr => enc2 t.2) = ps.map enc2 := by rw [← z2, List.map_map]; rfl
  have each : EachIs (fun (v : Value) (t : Addr × Pr) => v = .ref t.1) (as.map Value.ref) bs := by
    rw [← z1, List.map_map]
    clear pr z1 z2 lbs e2
    induction bs with
    | nil => exact .nil
    | cons b bs ih => exact .cons rfl ih
  have Jn := J
  have old : ∀ b o, h'.get? b = some o → (h'.push (seqObj "list" (as.map Value.ref).toArray 0)).get? b = some o := fun b o e => Heap.get?_push_of_some _ e
  have rd : EachIs (fun (v : Value) (t : Addr × Pr) => ∃ as', Reads (h'.push (seqObj "list" (as.map Value.ref).toArray 0)) v (enc2 t.2) as' ∧ h'.objs.size ∉ as') (as.map Value.ref) bs := by
    refine each_imp each fun v t ht hv => ?_
    subst hv
    obtain ⟨_, its, rv, o, h1, h2, n, h3⟩ := (show ObjOk X.prog X.w H' h' t.1 (.tup [.str t.2.1, .str t.2.2]) from J.hok t.1 _ (pr t ht))
    obtain ⟨u1, u2, rfl, r1, r2⟩ := vals2 rv
    obtain ⟨t1, rfl⟩ := r1
    obtain ⟨t2, rfl⟩ := r2
    exact ⟨[], Reads.tuple (old _ _ h1) h2 h3 (ReadsAll.cons (Reads.str _ _) (ReadsAll.cons (Reads.str _ _) ReadsAll.nil)), List.not_mem_nil⟩
  refine wpAny_bind (wpAny_holding (PySem.W.list_sort_data (enc := fun t : Addr × Pr => enc2 t.2) (s := { s1 with heap := h'.push (seqObj "list" (as.map Value.ref).toArray 0), toks := tk }) hoL each rd (by rw [e2]; exact alike2 ps) (by rw [e2]; exact sortable2 ps) (by omega) ?k4 fun out ho eo => ?_))
  case k4 =>
    intro b _
    have h1 := depth2 b.2
    have h2 : X.A.in1.units = X.A.units + 1 := rfl
    omega
  obtain ⟨ep', he'⟩ := PyProof.Rows.sortedHeap_at (vs := as.map Value.ref) (out := out.toArray) hoL
  have hsm : (bs.mergeSort (dataLe false fun t : Addr × Pr => enc2 t.2)).map (·.2) = ps.mergeSort le2 := by
    have h := PySem.W.sort_maps (r := dataLe false fun t : Addr × Pr => enc2 t.2) (s := le2) (l := bs) (fun t : Addr × Pr => t.2) (fun _ _ _ _ => rfl)
    rw [z2] at h
    exact h
  have hmem : ∀ t ∈ bs.mergeSort (dataLe false fun t : Addr × Pr => enc2 t.2), H' t.1 = some (.tup [.str t.2.1, .str t.2.2]) := fun t ht => pr t (List.mem_mergeSort.mp ht)
  have hlen : ((bs.mergeSort (dataLe false fun t : Addr × Pr => enc2 t.2)).map fun t => V.ref t.1).length ≤ sizeLine := by
    rw [List.length_map, List.length_mergeSort]
    omega
  generalize bs.mergeSort (dataLe false fun t : Addr × Pr => enc2 t.2) = ts at eo hsm hmem hlen
  have ev : Vals (ts.map fun t => V.ref t.1) out := by
    clear ho he' hlen hsm hmem
    induction eo with
    | nil => exact .nil
    | cons h _ ih => exact .cons h ih
  have hnew : H' h'.objs.size = none := J.hok.fresh (Nat.le_refl _)
  refine wpAny_pure ⟨_, rfl, .ref h'.objs.size, upd H' h'.objs.size (.lst (ts.map fun t => V.ref t.1)), J.laid (t' := tk) (fun b o e => ?_) (Nat.le_refl _) ⟨hlen, out, ep', ev, he'⟩, rfl, q _ _ ts ((show Same H1 H' from k1).trans (same_upd hnew)) ((show Same H1 H' from k1).free hnew) upd_same (fun t ht => by rw [upd_ne (ne_of_none (hmem t ht) hnew)]; exact hmem t ht) hsm⟩
  have hb : b < h'.objs.size := Heap.lt_size e
  rw [PyProof.Rows.sortedHeap_old (Nat.ne_of_lt hb) (by rw [size_push']; exact Nat.lt_succ_of_lt hb)]
  exact old b o e
end
end Tb
namespace Tb
open PySem PySem.Spec PyProof.Rows L2
/-! ### errors with one field (as in wip/k17 X17A, over this text) -/
structure ErrC (K : PySem.W.Frag) (C fI : Addr) (n : Str) : Prop where
  ox : OexC K C
  xf : XfC K C
  no : PySem.W.findIn K (.ref C) n = some none
  iC : PySem.W.findIn K (.ref C) "__init__" = some (some (.ref fI))
  tI : PySem.W.typeIn K (.ref fI) = some (.type "function")
  cl : (PySem.W.clsIn K C).isSome = true
  ha : PySem.W.findIn K (.ref C) "__class__" = some (some (.builtin "object.__class__"))
  hm : PySem.W.mroIn K C (.type "object") = some true
  hn : PySem.W.specialIn K (.builtin "object.__class__") "__get__" = some (some (.builtin "getset_descriptor.__get__"))
  tk : PySem.W.takesIn K (.builtin "object.__class__") = some true
def spErr (K : PySem.W.Frag) (n : Str) : Sp := fun vs H Q _ => ∃ (a C : Addr) (v : V), vs = [.ref a, v] ∧ OexC K C ∧ PySem.W.findIn K (.ref C) n = some none ∧ H a = some (exo a C none) ∧ ∀ dx, H dx = none → dx ≠ a → Q .non (upd (upd H dx (exd dx [(n, v)])) a (exo a C (some dx)))
theorem err_made {K : PySem.W.Frag} {C fI : Addr} {n : Str} (T : ErrC K C fI n) {v : V} {H : Hp} {Q : XK} (q : ∀ d H', Same H H' → H' d = some (.xd [(n, v)]) → Q (.ref C) (some d) H') :
    ∀ a, H a = none → spErr K n [.ref a, v] (upd H a (exo a C none)) (fun u H2 => u = .non ∧ ∃ (d : Addr) (fs : List (Str × V)), H2 a = some (exo a C (some d)) ∧ H2 d = some (exd d fs) ∧ H d = none ∧ Q (.ref C) (some d) (upd (del H2 a) d (.xd fs))) (fun _ _ _ => False) := by
  intro a na
  refine ⟨a, C, v, rfl, T.ox, T.no, upd_same, fun d nd da => ⟨rfl, d, [(n, v)], upd_same, ?_, ?_, ?_⟩⟩
  · rw [upd_ne da]
    exact upd_same
  · rw [upd_ne da] at nd
    exact nd
  · rw [upd_ne da] at nd
    refine q d _ (fun b o hb => ?_) upd_same
    have hba : b ≠ a := ne_of_none hb na
    have hbd : b ≠ d := ne_of_none hb nd
    rw [upd_ne hbd, del_ne hba, upd_ne hba, upd_ne hbd, upd_ne hba]
    exact hb
section
variable {X : Cx} {a D : Addr} {oe : Obj} {pn : List (Addr × Obj)} {d : Option Addr} {cls : Value}
def rIsX (K : PySem.W.Frag) (D a : Addr) (cls : Value) (d : Option Addr) : List V → Hp → VK → Prop := fun xs H Q => cls = .ref D ∧ ∃ (c : V) (cv : Value) (b : Bool) (dd : Addr) (fs : List (Str × V)), xs = [.ref a, c] ∧ ClsV c cv ∧ d = some dd ∧ H dd = some (.xd fs) ∧ PySem.W.kitOne K (.ref D) cv = some b ∧ Q (.bl b) H
theorem inst_at {pins : List (Addr × Obj)} {σ : L2.St} {H : Hp} {s : Shared} {dd : Addr} {fs : List (Str × V)} (hz : Zc (.ref D) (some dd) oe) (hf : ∃ vs, oe.data = .fields vs) (I : Inv (X.suite a ((a, oe) :: pn)) pins σ H s) (hd : H dd = some (.xd fs)) : ∃ od, PySem.W.InstAt s.heap a oe D (some od) := by
  obtain ⟨ha, _⟩ := I.pin (a, oe) (List.mem_append_left _ List.mem_cons_self)
  obtain ⟨vs, hv⟩ := hf
  have hx : ObjOk X.prog X.w H s.heap dd (.xd fs) := I.hok dd _ hd
  obtain ⟨mA, hns, _⟩ := hx
  obtain ⟨od, ho, _⟩ := lookIn_ns hns
  refine ⟨od, ha, hz.1, ?_, ?_⟩
  · unfold PySem.W.notCls
    rw [hv]
  · rw [hz.2]
    exact ho
theorem call_isX {fI : Addr} {n : Str} (T : ErrC X.K D fI n) (hz : Zc cls d oe) (hf : ∃ vs, oe.data = .fields vs) : CallR (X.suite a ((a, oe) :: pn)) (.builtin "isinstance") (rIsX X.K D a cls d) := by
  intro pins s σ H xs us Q I r h
  obtain ⟨rfl, c, cv, b, dd, fs, rfl, hc, rfl, hdd, e, q⟩ := h
  obtain ⟨u1, u2, rfl, r1, r2⟩ := vals2 r
  cases (show u1 = Value.ref a from r1)
  obtain rfl := hc.eq r2
  obtain ⟨od, J⟩ := inst_at hz hf I hdd
  exact PySem.W.kia_one (PySem.W.kitx_exc T.cl T.xf.ga T.xf.gg T.xf.exC T.ha T.hn T.tk T.hm) I.kIn J e (fun z => nomatch z) fun tk => ⟨.bl b, H, I.tok tk, rfl, q⟩
end
abbrev sInv : Stmt := inClass (topS 3) 0
abbrev sUnk : Stmt := inClass (topS 4) 0
theorem scInv : FnScope ["self", "what"] ["self", "what"] (defScope sInv) := ⟨rfl, rfl, rfl, by decide +kernel, rfl, by decide +kernel, by decide +kernel⟩
theorem scUnk : FnScope ["self", "name"] ["self", "name"] (defScope sUnk) := ⟨rfl, rfl, rfl, by decide +kernel, rfl, by decide +kernel, by decide +kernel⟩
abbrev wWhat : Str := ("what" : String)
abbrev wName : Str := ("name" : String)
abbrev wTable : Str := ("table" : String)
abbrev wLanes : Str := ("_lanes" : String)
/-- a method of the text -/
structure Mm (K : PySem.W.Frag) (x qual : Str) (st : Stmt) (ps : List Str) (f : Addr) (fd : FuncData) : Prop where
  F : Fun K x qual st f fd
  b : Binds K fd ps []
section
variable {P : Program} {w : World} {K : PySem.W.Frag} {mg : Str → Option Value} {base : Heap}
theorem ok_inv {f : Addr} {fd : FuncData} {k : Nat} (F : Fun K "__init__" "Invalid.__init__" sInv f fd) : FnOk P w K mg base CX0 (k + 1) f fd ["self", "what"] (spErr K wWhat) := by
  refine F.ok scInv (fun vs H Q E h => ?_) (fun cdv A outer s H vs Q E hr h => ?_)
  · obtain ⟨a, C, v, rfl, _⟩ := h
    rfl
  · obtain ⟨a, C, v, rfl, ox, no, ha, q⟩ := h
    refine ⟨_, pss_one (ps_ost (pv 0) (pv 1)), ?_⟩
    exact ⟨v, rfl, .ref a, rfl, a, C, rfl, ox, no, .inl ⟨ha, fun dx nd da => q dx nd da⟩⟩
theorem ok_unk {f : Addr} {fd : FuncData} {k : Nat} (F : Fun K "__init__" "Unknown.__init__" sUnk f fd) : FnOk P w K mg base CX0 (k + 1) f fd ["self", "name"] (spErr K wName) := by
  refine F.ok scUnk (fun vs H Q E h => ?_) (fun cdv A outer s H vs Q E hr h => ?_)
  · obtain ⟨a, C, v, rfl, _⟩ := h
    rfl
  · obtain ⟨a, C, v, rfl, ox, no, ha, q⟩ := h
    refine ⟨_, pss_one (ps_ost (pv 0) (pv 1)), ?_⟩
    exact ⟨v, rfl, .ref a, rfl, a, C, rfl, ox, no, .inl ⟨ha, fun dx nd da => q dx nd da⟩⟩
/-- the class Invalid and its __init__ -/
structure EInv (K : PySem.W.Frag) (mg : Str → Option Value) (C fI : Addr) (fdI : FuncData) : Prop where
  T : ErrC K C fI wWhat
  M : Mm K "__init__" "Invalid.__init__" sInv ["self", "what"] fI fdI
  g : mg "Invalid" = some (.ref C)
/-- the class Unknown and its __init__ -/
structure EUnk (K : PySem.W.Frag) (mg : Str → Option Value) (C fI : Addr) (fdI : FuncData) : Prop where
  T : ErrC K C fI wName
  M : Mm K "__init__" "Unknown.__init__" sUnk ["self", "name"] fI fdI
  g : mg "Unknown" = some (.ref C)
end
/-! ### heaps -/
def But (p : Addr) (H H' : Hp) : Prop := ∀ b o, H b = some o → b ≠ p → H' b = some o
theorem But.refl (p : Addr) (H : Hp) : But p H H := fun _ _ h _ => h
theorem But.trans {p : Addr} {H H1 H2 : Hp} (a : But p H H1) (b : But p H1 H2) : But p H H2 := fun c o h n => b c o (a c o h n) n
theorem But.upd {p : Addr} {H : Hp} {o : HO} : But p H (upd H p o) := fun b x e n => by rw [upd_ne n]; exact e
theorem Same.but {p : Addr} {H H' : Hp} (h : Same H H') : But p H H' := fun b o e _ => h b o e
/-! ### rows -/
def Good (ps : List Pr) : Prop := (∀ p ∈ ps, isAddr p.1 = true ∧ isLane p.2 = true) ∧ (ps.map Prod.fst).Nodup
def ok1 (kvs : Kvs) (p : Pr) : Bool := isAddr p.1 && isLane p.2 && (valV kvs (Sum.inr p.1)).isNone
theorem valV_kvP (k : Str) : ∀ ps : List Pr, (valV (kvP ps) (Sum.inr k)).isSome = true ↔ k ∈ ps.map Prod.fst
  | [] => by simp [kvP, valV]
  | p :: ps => by
    have ih := valV_kvP k ps
    by_cases c : p.1 = k
    · rw [show kvP (p :: ps) = (Sum.inr p.1, V.str p.2) :: kvP ps from rfl, valV_pos (by rw [c])]
      simp [c]
    · rw [show kvP (p :: ps) = (Sum.inr p.1, V.str p.2) :: kvP ps from rfl, valV_neg (by simpa using c), ih]
      simp [c, Ne.symm c, eq_comm]
theorem good_snoc {ps : List Pr} {p : Pr} (h : Good ps) (c : ok1 (kvP ps) p = true) : Good (ps ++ [p]) := by
  unfold ok1 at c
  rw [Bool.and_eq_true, Bool.and_eq_true] at c
  obtain ⟨⟨c1, c2⟩, c3⟩ := c
  refine ⟨fun q hq => ?_, ?_⟩
  · rcases List.mem_append.mp hq with hq | hq
    · exact h.1 q hq
    · cases List.mem_singleton.mp hq
      exact ⟨c1, c2⟩
  · rw [List.map_append, List.nodup_append]
    refine ⟨h.2, by simp, fun x hx y hy e => ?_⟩
    subst e
    rw [List.map_singleton, List.mem_singleton] at hy
    subst hy
    have := (valV_kvP p.1 ps).mpr hx
    rw [Option.isNone_iff_eq_none] at c3
    rw [c3] at this
    cases this
theorem good_ok {ps qs : List Pr} {p : Pr} (h : Good (ps ++ p :: qs)) : ok1 (kvP ps) p = true := by
  obtain ⟨h1, h2⟩ := h
  have a := h1 p (List.mem_append_right _ List.mem_cons_self)
  unfold ok1
  rw [a.1, a.2, Bool.true_and, Bool.true_and, Option.isNone_iff_eq_none]
  cases e : valV (kvP ps) (Sum.inr p.1) with
  | none => rfl
  | some v =>
    exfalso
    have m := (valV_kvP p.1 ps).mp (by rw [e]; rfl)
    rw [List.map_append, List.nodup_append] at h2
    exact h2.2.2 _ m _ (by simp) rfl
theorem put_snoc {ps : List Pr} {p : Pr} (c : ok1 (kvP ps) p = true) : putK (kvP ps) (Sum.inr p.1) (V.str p.2) = kvP (ps ++ [p]) := by
  unfold ok1 at c
  rw [Bool.and_eq_true] at c
  rw [putK_new _ (Option.isNone_iff_eq_none.mp c.2)]
  unfold kvP
  rw [List.map_append]
  rfl
end Tb
namespace Tb
open PySem PySem.Spec PyProof.Rows L2
open PySem.W (TotalLe dataLe)
/-! ### the order of the rows -/
def sLt (a b : Str) : Bool := decide (a.cps.toList < b.cps.toList)
theorem sLt_tri {a b : Str} (h1 : sLt a b = false) (h2 : sLt b a = false) : a = b := by
  have h1 : ¬ a.cps.toList < b.cps.toList := of_decide_eq_false h1
  have h2 : ¬ b.cps.toList < a.cps.toList := of_decide_eq_false h2
  have e : a.cps.toList = b.cps.toList := List.le_antisymm (List.not_lt.mp h2) (List.not_lt.mp h1)
  cases a; cases b
  simp only at e
  congr 1
  exact Array.ext' e
theorem lt2 (a b : Pr) : PySem.W.dataLt (enc2 a) (enc2 b) = if a.1 = b.1 then sLt a.2 b.2 else sLt a.1 b.1 := by
  have q : ∀ x y : Str, PyData.eqv (.str x) (.str y) = decide (x = y) := fun x y => by rw [PyData.eqv]; exact Bool.beq_eq_decide_eq x y
  unfold enc2
  rw [PySem.W.dataLt_pair (by simp [PySem.W.alike]) (by simp [PySem.W.alike]), q, q, PySem.W.dataLt_str, PySem.W.dataLt_str]
  by_cases c : a.1 = b.1
  · rw [if_pos (decide_eq_true c), if_pos c]
    by_cases c2 : a.2 = b.2
    · rw [if_pos (decide_eq_true c2), c2]
      exact (decide_eq_false (List.lt_irrefl _)).symm
    · rw [if_neg (by simpa using c2)]
      rfl
  · rw [if_neg (by simpa using c), if_neg c]
    rfl
theorem le2_eq (a b : Pr) : le2 a b = !(if b.1 = a.1 then sLt b.2 a.2 else sLt b.1 a.1) := by
  unfold le2
  rw [PySem.W.dataLe_eq]
  show (!PySem.W.dataLt (enc2 b) (enc2 a)) = _
  rw [lt2]
theorem le1_eq (a b : Str) : le1 a b = !sLt b a := by
  unfold le1
  rw [PySem.W.dataLe_eq]
  show (!PySem.W.dataLt (.str b) (.str a)) = _
  rw [PySem.W.dataLt_str]
  rfl
theorem le2_total : TotalLe le2 := by
  unfold le2 dataLe
  exact PySem.W.sortLe_total _ _ _
theorem le2_anti {a b : Pr} (h1 : le2 a b = true) (h2 : le2 b a = true) : a = b := by
  rw [le2_eq, Bool.not_eq_true'] at h1 h2
  by_cases c : a.1 = b.1
  · rw [if_pos c.symm] at h1
    rw [if_pos c] at h2
    exact Prod.ext c (sLt_tri h2 h1)
  · rw [if_neg (Ne.symm c)] at h1
    rw [if_neg c] at h2
    exact absurd (sLt_tri h2 h1) c
/-- the sorted list is one -/
theorem sort_perm {ps qs : List Pr} (h : ps.Perm qs) : ps.mergeSort le2 = qs.mergeSort le2 := by
  refine List.Perm.eq_of_pairwise (le := fun a b => le2 a b = true) (fun a b _ _ h1 h2 => le2_anti h1 h2) (PySem.W.sort_pairwise le2_total ps) (PySem.W.sort_pairwise le2_total qs) ?_
  exact ((List.mergeSort_perm ps le2).trans h).trans (List.mergeSort_perm qs le2).symm
/-- the first parts of the sorted rows are the sorted first parts -/
theorem sort_keys {ps : List Pr} (h : (ps.map Prod.fst).Nodup) : (ps.mergeSort le2).map Prod.fst = (ps.map Prod.fst).mergeSort le1 := by
  refine PySem.W.sort_maps (r := le2) (s := le1) Prod.fst fun a ha b hb => ?_
  rw [le2_eq, le1_eq]
  by_cases c : b.1 = a.1
  · have e : a = b := by
      have := List.pairwise_map.mp h
      exact Classical.byContradiction fun n => by
        have : ∀ (l : List Pr), l.Pairwise (fun x y => x.1 ≠ y.1) → ∀ x ∈ l, ∀ y ∈ l, x.1 = y.1 → x = y := by
          intro l hl
          induction hl with
          | nil => intro x hx; cases hx
          | cons h1 _ ih =>
            intro x hx y hy e
            rcases List.mem_cons.mp hx with rfl | hx
            · rcases List.mem_cons.mp hy with rfl | hy
              · rfl
              · exact absurd e (h1 y hy)
            · rcases List.mem_cons.mp hy with e2 | hy
              · rw [e2] at e; exact absurd e.symm (h1 x hx)
              · exact ih x hx y hy e
        exact n (this ps (List.pairwise_map.mp h) a ha b hb c.symm)
    rw [if_pos c, e]
    unfold sLt
    rw [decide_eq_false (List.lt_irrefl _), decide_eq_false (List.lt_irrefl _)]
  · rw [if_neg c]
theorem valV_mem {ps : List Pr} (h : (ps.map Prod.fst).Nodup) {p : Pr} (hp : p ∈ ps) : valV (kvP ps) (Sum.inr p.1) = some (.str p.2) := by
  induction ps with
  | nil => cases hp
  | cons q ps ih =>
    rw [List.map_cons, List.nodup_cons] at h
    show valV ((Sum.inr q.1, V.str q.2) :: kvP ps) _ = _
    rcases List.mem_cons.mp hp with rfl | hp
    · rw [valV_pos rfl]
    · rw [valV_neg, ih h.2 hp]
      intro e
      have e2 : q.1 = p.1 := Sum.inr.inj e
      exact h.1 (List.mem_map.mpr ⟨p, hp, e2.symm⟩)
theorem nodup_sort {ps : List Pr} (h : (ps.map Prod.fst).Nodup) : ((ps.mergeSort le2).map Prod.fst).Nodup := ((List.mergeSort_perm ps le2).map Prod.fst).nodup_iff.mpr h
theorem mem_sort {ps : List Pr} {p : Pr} : p ∈ ps.mergeSort le2 ↔ p ∈ ps := List.mem_mergeSort
theorem len_sort {ps : List Pr} : (ps.mergeSort le2).length = ps.length := List.length_mergeSort _
end Tb
namespace Tb
open PySem PySem.Spec PyProof.Rows L2
abbrev sTInit : Stmt := inClass (topS 19) 0
theorem scTInit : FnScope ["self", "rows", "lanes", "prefix", "lane"] ["self", "rows"] (defScope sTInit) := ⟨rfl, rfl, rfl, by decide +kernel, rfl, by decide +kernel, by decide +kernel⟩
/-- rows in a list (lst) or a tuple: pairs of texts -/
structure RowsAt (H : Hp) (r : Addr) (lst : Bool) (ts : List (Addr × Pr)) : Prop where
  l : H r = some (if lst = true then .lst (ts.map fun t => V.ref t.1) else .tup (ts.map fun t => V.ref t.1))
  t : ∀ t ∈ ts, H t.1 = some (.tup [.str t.2.1, .str t.2.2])
  n : ts.length ≤ 1000
  z : ∀ t ∈ ts, t.2.1.length ≤ 1000 ∧ t.2.2.length ≤ 1000
theorem RowsAt.same {H H' : Hp} {r : Addr} {l : Bool} {ts : List (Addr × Pr)} (R : RowsAt H r l ts) (h : Same H H') : RowsAt H' r l ts := ⟨h _ _ R.l, fun t ht => h _ _ (R.t t ht), R.n, R.z⟩
def spInit (C CI : Addr) : Sp := fun vs H Q E => ∃ (x dx r : Addr) (lst : Bool) (ts : List (Addr × Pr)), vs = [.ref x, .ref r] ∧ H x = some (.ins C dx []) ∧ RowsAt H r lst ts ∧
  (Good (ts.map (·.2)) → ∀ d H', But x H H' → H d = none → H' x = some (.ins C dx [(wLanes, .ref d)]) → H' d = some (.dK (kvP ((ts.map (·.2)).mergeSort le2))) → Q .non H') ∧
  (¬ Good (ts.map (·.2)) → ∀ e H', Same H H' → H' e = some (.xd [(wWhat, .str wTable)]) → E (.ref CI) (some e) H')
/-- of the class Table itself -/
structure TCls (K : PySem.W.Frag) (C : Addr) : Prop where
  c : Cls K C
  no : NoAttr K C wLanes
section
variable {P : Program} {w : World} {K : PySem.W.Frag} {mg : Str → Option Value} {base : Heap}
theorem kvP_take {ps : List Pr} {i : Nat} : (kvP ps).take i = kvP (ps.take i) := by
  unfold kvP
  rw [List.map_take]
theorem kvP_len {ps : List Pr} : (kvP ps).length = ps.length := by
  unfold kvP
  rw [List.length_map]
end
end Tb
namespace Tb
open PySem PySem.Spec PyProof.Rows L2
/-- a dict comprehension over a walk: Pv by the turn and the heap (the new dict at D within) -/
theorem dc_it {J : It} {n : Nat} {G : Hp → Prop} {Y : Nat → Hp → V → Hp → Prop} (w : Walk J n G Y) {g : TG} {tt : TT} {tk tv : TE} {vs : List Nat} {σ : L2.St} {H1 : Hp} {D : Addr} {Qd : Hp → Prop} (Pv : Nat → Hp → Prop) (h0 : Pv 0 (upd H1 D (.dK []))) (hG : ∀ i H, i ≤ n → Pv i H → G H)
    (hs : ∀ i x H H', i < n → Pv i H → Y i H x H' → g x (wipe σ vs) H' fun σ2 H2 => wipe σ2 vs = wipe σ vs ∧ tt σ2 H2 fun b H3 =>
      if b = true then tk σ2 H3 fun y H4 => tv σ2 H4 fun z H5 => ∃ kvs k, y = kV k ∧ H5 D = some (.dK kvs) ∧ kvs.length < sizeLine ∧ Pv (i + 1) (upd H5 D (.dK (putK kvs k z))) else Pv (i + 1) H3) (hd : ∀ H, Pv n H → Qd H) :
    ∃ W : Nat → Nat → Hp → Prop, (∃ m, W 0 m (upd H1 D (.dK []))) ∧ ∀ i m H, W i m H →
      (J.stop i H ∧ Qd H) ∨ (J.go i H ∧ ∃ Nx : Hp → Prop, (∀ H', Nx H' → ∃ m', m' < m ∧ W (i + 1) m' H') ∧ ∀ x H', J.yld i H x H' → g x (wipe σ vs) H' fun σ2 H2 => wipe σ2 vs = wipe σ vs ∧ tt σ2 H2 fun b H3 =>
        if b = true then tk σ2 H3 fun y H4 => tv σ2 H4 fun z H5 => ∃ kvs k, y = kV k ∧ H5 D = some (.dK kvs) ∧ kvs.length < sizeLine ∧ Nx (upd H5 D (.dK (putK kvs k z))) else Nx H3) := by
  refine ⟨fun i m H => m = n - i ∧ i ≤ n ∧ Pv i H, ⟨n, by simp, Nat.zero_le _, h0⟩, ?_⟩
  rintro i m H ⟨rfl, hi, p⟩
  have q := hG i H hi p
  by_cases hlt : i < n
  · exact .inr ⟨w.goes i H hlt q, Pv (i + 1), fun H' p' => ⟨n - (i + 1), by omega, rfl, hlt, p'⟩, fun x H' y => hs i x H H' hlt p (w.yields i H x H' hlt q y)⟩
  · have e : i = n := by omega
    subst e
    exact .inl ⟨w.stops H q, hd H p⟩
theorem good_nil : Good [] := ⟨fun p hp => (List.not_mem_nil hp).elim, List.nodup_nil⟩
/-- the sorted keys with their rows -/
theorem sorted_take {ps : List Pr} (h : (ps.map Prod.fst).Nodup) {i : Nat} {k : Str} (hk : ((ps.map Prod.fst).mergeSort le1)[i]? = some k) :
    ∃ p, (ps.mergeSort le2)[i]? = some p ∧ p.1 = k ∧ valV (kvP ps) (Sum.inr k) = some (.str p.2) ∧ valV (kvP ((ps.mergeSort le2).take i)) (Sum.inr k) = none := by
  rw [← sort_keys h, List.getElem?_map] at hk
  cases e : (ps.mergeSort le2)[i]? with
  | none => rw [e] at hk; cases hk
  | some p =>
    rw [e] at hk
    have ek : p.1 = k := Option.some.inj hk
    subst ek
    have m : p ∈ ps := mem_sort.mp (List.mem_of_getElem? e)
    refine ⟨p, rfl, rfl, valV_mem h m, ?_⟩
    cases e2 : valV (kvP ((ps.mergeSort le2).take i)) (Sum.inr p.1) with
    | none => rfl
    | some v =>
      exfalso
      have mm := (valV_kvP p.1 _).mp (by rw [e2]; rfl)
      have nd := nodup_sort h
      obtain ⟨q, hq, eq⟩ := List.mem_map.mp mm
      obtain ⟨j, hj⟩ := List.mem_iff_getElem?.mp hq
      rw [List.getElem?_take] at hj
      by_cases hji : j < i
      · rw [if_pos hji] at hj
        have a1 : ((ps.mergeSort le2).map Prod.fst)[j]? = some p.1 := by rw [List.getElem?_map, hj, ← eq]; rfl
        have a2 : ((ps.mergeSort le2).map Prod.fst)[i]? = some p.1 := by rw [List.getElem?_map, e]; rfl
        obtain ⟨l1, g1⟩ := List.getElem?_eq_some_iff.mp a1
        obtain ⟨l2, g2⟩ := List.getElem?_eq_some_iff.mp a2
        have np := List.pairwise_iff_getElem.mp nd j i l1 l2 hji
        exact np (g1.trans g2.symm)
      · rw [if_neg hji] at hj
        cases hj
section
variable {P : Program} {w : World} {K : PySem.W.Frag} {mg : Str → Option Value} {base : Heap}
theorem ok_init {f gA gL gI C CI : Addr} {fd gdA gdL gdI : FuncData} (F : Fun K "__init__" "Table.__init__" sTInit f fd) (B : Blt mg) (T : TCls K C) (R : EInv K mg CI gI gdI)
    (DA : Dd K mg "is_address" sIsAddr ["text"] gA gdA) (GA : FnOk P w K mg base CX0 3 gA gdA ["text"] (spT isAddr)) (DL : Dd K mg "_is_lane" sIsLane ["text"] gL gdL) (GL : FnOk P w K mg base CX0 3 gL gdL ["text"] (spT isLane)) :
    FnOk P w K mg base (L2.CX P w) 4 f fd ["self", "rows"] (spInit C CI) := by
  have GE : FnOk P w K mg base CX0 1 gI gdI ["self", "what"] (spErr K wWhat) := ok_inv R.M.F
  refine F.okX scTInit (fun vs H Q E h => ?_) (fun cdv A outer s H vs Q E hr h => ?_)
  · obtain ⟨x, dx, r, lst, ts, rfl, _⟩ := h
    rfl
  · obtain ⟨x, dx, r, lst, ts, rfl, hx, hR, qG, qB⟩ := h
    have hu := hu_of hr
    have hr2 : Room 2 _ := hr.mono (show 2 ≤ 3 by decide)
    have hz : sizeLine = 16777216 := rfl
    generalize eps : ts.map (·.2) = ps at qG qB
    have lps : ps.length = ts.length := by rw [← eps, List.length_map]
    cases lst with
    | true =>
      refine ⟨_, pss_cons (ps_set (i := 2) scTInit.nd rfl (.inr rfl) pe_dnewK)
        (pss_cons (ps_for (passes_of rfl) rfl (pi_list (pv 1)) (pg_tup rfl (pgs_cons (pg_name (i := 3) scTInit.nd rfl (.inl rfl)) (pgs_cons (pg_name (i := 4) scTInit.nd rfl (.inl rfl)) pgs_nil)))
          (pss_cons (ps_if (PW.pt (pw_or (pt_not (pt_val (pe_call GA hr (by rfl) DA.g DA.F.kp DA.b .nil pass0 (pa_cons (pv 3) pa_nil))))
            (pw_or (pt_not (pt_val (pe_call GL hr (by rfl) DL.g DL.F.kp DL.b .nil pass0 (pa_cons (pv 4) pa_nil)))) (pw_or1 (pt_cmp (pc_din hu (pv 3) (pv 2)))))))
            (pss_one (ps_raise rfl (takes_of rfl rfl rfl rfl) (pmk_oex R.T.ox R.T.iC R.T.tI GE hr2 R.M.b .nil pass0 (by rfl) R.g (pa_cons pe_str pa_nil)))) pss_nil)
          (pss_one (ps_dput hu (pv 2) (pv 3) (pv 4) (by rfl)))))
        (pss_one (ps_fld (pv 0) (pe_dc (own := [("prefix", 3)]) (g := gName 3) (by rfl) scTInit.nd (pi_list (pe_callB (cr_sortedDk rfl hr.units) (by rfl) B.sorted PyProof.Rows.boot_sorted (pa_cons (pv 2) pa_nil)))
          (blkOk_by (N := ["self", "rows", "lanes", "prefix", "lane"]) (sc := defScope sTInit) (by decide +kernel)) (fun _ _ _ _ _ => pg_name (i := 3) scTInit.nd rfl (Or.inl rfl)) (fun _ _ _ _ _ => pts_nil) (fun _ _ _ _ _ => pv 3)
          (fun _ _ _ _ _ => pe_dget hu (pv 2) (pv 3) (fun _ _ => rfl))) (by rfl)))), ?_⟩
      intro D nD
      have S0 : Same H (upd H D (.dK [])) := same_upd nD
      refine ⟨.ref r, rfl, r, rfl, ⟨_, sqOf (S0 _ _ hR.l)⟩, ?_⟩
      refine for_it (walk_list (a := r) (xs := ts.map fun t => V.ref t.1)) (fun i σ H' => ∃ y3 y4, σ = [some (.ref x), some (.ref r), some (.ref D), y3, y4] ∧ Same H H' ∧ H' D = some (.dK (kvP (ps.take i))) ∧ Good (ps.take i))
        ⟨none, none, rfl, S0, upd_same, good_nil⟩ (fun i σ H' _ hP => ?_) (fun i v σ H1 H2 hi hP hy => ?_) (fun σ H1 hP => ?_)
      · obtain ⟨_, _, _, S1, _⟩ := hP
        exact sqOf (S1 _ _ hR.l)
      · obtain ⟨y3, y4, rfl, S1, hD, hg⟩ := hP
        obtain ⟨rfl, ev⟩ := hy
        rw [List.getElem?_map] at ev
        cases et : ts[i]? with
        | none => rw [et] at ev; cases ev
        | some t =>
        rw [et] at ev
        cases (Option.some.inj ev)
        have mt : t ∈ ts := List.mem_of_getElem? et
        have ep : ps[i]? = some t.2 := by rw [← eps, List.getElem?_map, et]; rfl
        have li : i < ps.length := (List.getElem?_eq_some_iff.mp ep).1
        have spl : ps = ps.take i ++ t.2 :: ps.drop (i + 1) := by
          have e1 := (List.getElem?_eq_some_iff.mp ep).2
          rw [← e1, ← List.drop_eq_getElem_cons li, List.take_append_drop]
        have bad : ok1 (kvP (ps.take i)) t.2 = false → ¬ Good ps := fun e g => by
          rw [spl] at g
          rw [good_ok g] at e
          cases e
        refine ⟨t.1, _, rfl, .of (S1 _ _ (hR.t t mt)), rfl, .str t.2.1, _, rfl, .str t.2.2, _, rfl, rfl, ?_⟩
        have z := hR.z t mt
        refine ⟨.str t.2.1, rfl, t.2.1, rfl, z.1, fun H3 S3 => ⟨_, rfl, ?_⟩⟩
        have raise : ∀ H3, Same H2 H3 → ok1 (kvP (ps.take i)) t.2 = false → ∀ a, H3 a = none → spErr K wWhat [.ref a, .str wTable] (upd H3 a (exo a CI none)) (fun u H4 => u = .non ∧ ∃ (d : Addr) (fs : List (Str × V)), H4 a = some (exo a CI (some d)) ∧ H4 d = some (exd d fs) ∧ H3 d = none ∧ E (.ref CI) (some d) (upd (del H4 a) d (.xd fs))) (fun _ _ _ => False) :=
          fun H3 S3 e => err_made R.T (Q := E) fun d H4 S4 hd => qB (bad e) d H4 ((S1.trans S3).trans S4) hd
        cases eA : isAddr t.2.1 with
        | false => exact ⟨by decide, raise H3 S3 (by unfold ok1; rw [eA]; rfl)⟩
        | true =>
        refine ⟨.str t.2.2, rfl, t.2.2, rfl, z.2, fun H4 S4 => ⟨_, rfl, ?_⟩⟩
        cases eL : isLane t.2.2 with
        | false => exact ⟨by decide, raise H4 (S3.trans S4) (by unfold ok1; rw [eA, eL]; rfl)⟩
        | true =>
        have hD4 := S4 _ _ (S3 _ _ hD)
        refine ⟨.str t.2.1, rfl, .ref D, rfl, D, _, rfl, DGet.k (k := Sum.inr t.2.1) hD4, _, rfl, ?_⟩
        cases eV : (valV (kvP (ps.take i)) (Sum.inr t.2.1)).isSome with
        | true => exact ⟨by decide, raise H4 (S3.trans S4) (by unfold ok1; rw [eA, eL, Option.isNone_eq_false_iff.mpr eV]; rfl)⟩
        | false =>
        have ok : ok1 (kvP (ps.take i)) t.2 = true := by
          unfold ok1
          rw [eA, eL]
          exact Option.isNone_iff_eq_none.mpr (Option.isSome_eq_false_iff.mp eV |> Option.isNone_iff_eq_none.mp)
        refine ⟨.str t.2.2, rfl, .ref D, rfl, .str t.2.1, rfl, D, _, rfl, DPut.k (k := Sum.inr t.2.1) hD4 (by rw [kvP_len, List.length_take]; have := hR.n; omega), ?_⟩
        have tk : ps.take (i + 1) = ps.take i ++ [t.2] := by rw [List.take_add_one, ep]; rfl
        refine ⟨_, _, rfl, ?_, ?_, ?_⟩
        · exact fun b o hb => by rw [upd_ne (ne_of_none hb nD)]; exact S4 _ _ (S3 _ _ (S1 _ _ hb))
        · rw [upd_same, put_snoc ok, tk]
        · rw [tk]
          exact good_snoc hg ok
      · obtain ⟨y3, y4, rfl, S1, hD, hg⟩ := hP
        rw [List.length_map, ← lps, List.take_length] at hD hg
        refine ⟨.ref D, rfl, D, _, ps.map Prod.fst, rfl, .of hD, kvP_keys ps, by rw [List.length_map, lps]; exact hR.n, fun p np => ⟨p, rfl, ⟨_, sqOf upd_same⟩, fun D2 nD2 => ?_⟩⟩
        have nD2p : p ≠ D2 := fun e => by rw [e, upd_same] at nD2; cases nD2
        have nD2' : H1 D2 = none := by rw [upd_ne (Ne.symm nD2p)] at nD2; exact nD2
        have nDD : D ≠ D2 := fun e => by rw [e, nD2'] at hD; cases hD
        have nDp : D ≠ p := fun e => by rw [e, np] at hD; cases hD
        refine dc_it (walk_list (a := p) (xs := ((ps.map Prod.fst).mergeSort (PySem.W.dataLe false PyData.str)).map V.str)) (fun i H' => Same H1 H' ∧ H' p = some (.lst (((ps.map Prod.fst).mergeSort (PySem.W.dataLe false PyData.str)).map V.str)) ∧ H' D2 = some (.dK (kvP ((ps.mergeSort le2).take i))))
          ⟨(same_upd np).trans (same_upd nD2), by rw [upd_ne nD2p]; exact upd_same, upd_same⟩ (fun i H' _ hP => sqOf hP.2.1) (fun i v H2 H3 hi hP hy => ?_) (fun H2 hP => ?_)
        · obtain ⟨S2, hp, hD2⟩ := hP
          obtain ⟨rfl, ev⟩ := hy
          rw [List.getElem?_map] at ev
          cases ek : ((ps.map Prod.fst).mergeSort (PySem.W.dataLe false PyData.str))[i]? with
          | none => rw [ek] at ev; cases ev
          | some k =>
          rw [ek] at ev
          cases (Option.some.inj ev)
          obtain ⟨q, eq, rfl, evq, enq⟩ := sorted_take hg.2 ek
          refine ⟨rfl, .str q.1, rfl, .ref D, rfl, .str q.1, rfl, D, .str q.2, rfl, ?_, ?_⟩
          · rw [← evq]
            exact DGet.k (k := Sum.inr q.1) (S2 _ _ hD)
          · refine ⟨_, Sum.inr q.1, rfl, hD2, by rw [kvP_len, List.length_take]; have := hR.n; have := @len_sort ps; omega, ?_, ?_, ?_⟩
            · exact fun b o hb => by rw [upd_ne (ne_of_none hb nD2')]; exact S2 _ _ hb
            · rw [upd_ne nD2p]
              exact hp
            · rw [upd_same, putK_new _ enq, List.take_add_one, eq]
              unfold kvP
              rw [List.map_append]
              rfl
        · obtain ⟨S2, hp, hD2⟩ := hP
          have hl : (((ps.map Prod.fst).mergeSort (PySem.W.dataLe false PyData.str)).map V.str).length = (ps.mergeSort le2).length := by
            rw [List.length_map, List.length_mergeSort, List.length_map, len_sort]
          rw [hl, List.take_length] at hD2
          have hx2 := S2 _ _ (S1 _ _ hx)
          have nDx : x ≠ D2 := fun e => by rw [e] at hx; rw [S1 _ _ hx] at nD2'; cases nD2'
          have HD2 : H D2 = none := by
            cases e : H D2 with
            | none => rfl
            | some o => rw [S1 _ _ e] at nD2'; cases nD2'
          refine ⟨.ref x, rfl, x, C, dx, [], rfl, hx2, T.c, T.no, by decide, ?_⟩
          refine qG hg D2 _ (fun b o hb nb => by rw [upd_ne nb]; exact S2 _ _ (S1 _ _ hb)) HD2 upd_same ?_
          rw [upd_ne (Ne.symm nDx)]
          exact hD2
    | false =>
      refine ⟨_, pss_cons (ps_set (i := 2) scTInit.nd rfl (.inr rfl) pe_dnewK)
        (pss_cons (ps_for (passes_of rfl) rfl (pi_tup (pv 1)) (pg_tup rfl (pgs_cons (pg_name (i := 3) scTInit.nd rfl (.inl rfl)) (pgs_cons (pg_name (i := 4) scTInit.nd rfl (.inl rfl)) pgs_nil)))
          (pss_cons (ps_if (PW.pt (pw_or (pt_not (pt_val (pe_call GA hr (by rfl) DA.g DA.F.kp DA.b .nil pass0 (pa_cons (pv 3) pa_nil))))
            (pw_or (pt_not (pt_val (pe_call GL hr (by rfl) DL.g DL.F.kp DL.b .nil pass0 (pa_cons (pv 4) pa_nil)))) (pw_or1 (pt_cmp (pc_din hu (pv 3) (pv 2)))))))
            (pss_one (ps_raise rfl (takes_of rfl rfl rfl rfl) (pmk_oex R.T.ox R.T.iC R.T.tI GE hr2 R.M.b .nil pass0 (by rfl) R.g (pa_cons pe_str pa_nil)))) pss_nil)
          (pss_one (ps_dput hu (pv 2) (pv 3) (pv 4) (by rfl)))))
        (pss_one (ps_fld (pv 0) (pe_dc (own := [("prefix", 3)]) (g := gName 3) (by rfl) scTInit.nd (pi_list (pe_callB (cr_sortedDk rfl hr.units) (by rfl) B.sorted PyProof.Rows.boot_sorted (pa_cons (pv 2) pa_nil)))
          (blkOk_by (N := ["self", "rows", "lanes", "prefix", "lane"]) (sc := defScope sTInit) (by decide +kernel)) (fun _ _ _ _ _ => pg_name (i := 3) scTInit.nd rfl (Or.inl rfl)) (fun _ _ _ _ _ => pts_nil) (fun _ _ _ _ _ => pv 3)
          (fun _ _ _ _ _ => pe_dget hu (pv 2) (pv 3) (fun _ _ => rfl))) (by rfl)))), ?_⟩
      intro D nD
      have S0 : Same H (upd H D (.dK [])) := same_upd nD
      refine ⟨.ref r, rfl, r, rfl, ⟨_, .of (S0 _ _ hR.l)⟩, ?_⟩
      refine for_it (walk_tup (a := r) (xs := ts.map fun t => V.ref t.1)) (fun i σ H' => ∃ y3 y4, σ = [some (.ref x), some (.ref r), some (.ref D), y3, y4] ∧ Same H H' ∧ H' D = some (.dK (kvP (ps.take i))) ∧ Good (ps.take i))
        ⟨none, none, rfl, S0, upd_same, good_nil⟩ (fun i σ H' _ hP => ?_) (fun i v σ H1 H2 hi hP hy => ?_) (fun σ H1 hP => ?_)
      · obtain ⟨_, _, _, S1, _⟩ := hP
        exact .of (S1 _ _ hR.l)
      · obtain ⟨y3, y4, rfl, S1, hD, hg⟩ := hP
        obtain ⟨rfl, ev⟩ := hy
        rw [List.getElem?_map] at ev
        cases et : ts[i]? with
        | none => rw [et] at ev; cases ev
        | some t =>
        rw [et] at ev
        cases (Option.some.inj ev)
        have mt : t ∈ ts := List.mem_of_getElem? et
        have ep : ps[i]? = some t.2 := by rw [← eps, List.getElem?_map, et]; rfl
        have li : i < ps.length := (List.getElem?_eq_some_iff.mp ep).1
        have spl : ps = ps.take i ++ t.2 :: ps.drop (i + 1) := by
          have e1 := (List.getElem?_eq_some_iff.mp ep).2
          rw [← e1, ← List.drop_eq_getElem_cons li, List.take_append_drop]
        have bad : ok1 (kvP (ps.take i)) t.2 = false → ¬ Good ps := fun e g => by
          rw [spl] at g
          rw [good_ok g] at e
          cases e
        refine ⟨t.1, _, rfl, .of (S1 _ _ (hR.t t mt)), rfl, .str t.2.1, _, rfl, .str t.2.2, _, rfl, rfl, ?_⟩
        have z := hR.z t mt
        refine ⟨.str t.2.1, rfl, t.2.1, rfl, z.1, fun H3 S3 => ⟨_, rfl, ?_⟩⟩
        have raise : ∀ H3, Same H2 H3 → ok1 (kvP (ps.take i)) t.2 = false → ∀ a, H3 a = none → spErr K wWhat [.ref a, .str wTable] (upd H3 a (exo a CI none)) (fun u H4 => u = .non ∧ ∃ (d : Addr) (fs : List (Str × V)), H4 a = some (exo a CI (some d)) ∧ H4 d = some (exd d fs) ∧ H3 d = none ∧ E (.ref CI) (some d) (upd (del H4 a) d (.xd fs))) (fun _ _ _ => False) :=
          fun H3 S3 e => err_made R.T (Q := E) fun d H4 S4 hd => qB (bad e) d H4 ((S1.trans S3).trans S4) hd
        cases eA : isAddr t.2.1 with
        | false => exact ⟨by decide, raise H3 S3 (by unfold ok1; rw [eA]; rfl)⟩
        | true =>
        refine ⟨.str t.2.2, rfl, t.2.2, rfl, z.2, fun H4 S4 => ⟨_, rfl, ?_⟩⟩
        cases eL : isLane t.2.2 with
        | false => exact ⟨by decide, raise H4 (S3.trans S4) (by unfold ok1; rw [eA, eL]; rfl)⟩
        | true =>
        have hD4 := S4 _ _ (S3 _ _ hD)
        refine ⟨.str t.2.1, rfl, .ref D, rfl, D, _, rfl, DGet.k (k := Sum.inr t.2.1) hD4, _, rfl, ?_⟩
        cases eV : (valV (kvP (ps.take i)) (Sum.inr t.2.1)).isSome with
        | true => exact ⟨by decide, raise H4 (S3.trans S4) (by unfold ok1; rw [eA, eL, Option.isNone_eq_false_iff.mpr eV]; rfl)⟩
        | false =>
        have ok : ok1 (kvP (ps.take i)) t.2 = true := by
          unfold ok1
          rw [eA, eL]
          exact Option.isNone_iff_eq_none.mpr (Option.isSome_eq_false_iff.mp eV |> Option.isNone_iff_eq_none.mp)
        refine ⟨.str t.2.2, rfl, .ref D, rfl, .str t.2.1, rfl, D, _, rfl, DPut.k (k := Sum.inr t.2.1) hD4 (by rw [kvP_len, List.length_take]; have := hR.n; omega), ?_⟩
        have tk : ps.take (i + 1) = ps.take i ++ [t.2] := by rw [List.take_add_one, ep]; rfl
        refine ⟨_, _, rfl, ?_, ?_, ?_⟩
        · exact fun b o hb => by rw [upd_ne (ne_of_none hb nD)]; exact S4 _ _ (S3 _ _ (S1 _ _ hb))
        · rw [upd_same, put_snoc ok, tk]
        · rw [tk]
          exact good_snoc hg ok
      · obtain ⟨y3, y4, rfl, S1, hD, hg⟩ := hP
        rw [List.length_map, ← lps, List.take_length] at hD hg
        refine ⟨.ref D, rfl, D, _, ps.map Prod.fst, rfl, .of hD, kvP_keys ps, by rw [List.length_map, lps]; exact hR.n, fun p np => ⟨p, rfl, ⟨_, sqOf upd_same⟩, fun D2 nD2 => ?_⟩⟩
        have nD2p : p ≠ D2 := fun e => by rw [e, upd_same] at nD2; cases nD2
        have nD2' : H1 D2 = none := by rw [upd_ne (Ne.symm nD2p)] at nD2; exact nD2
        have nDD : D ≠ D2 := fun e => by rw [e, nD2'] at hD; cases hD
        have nDp : D ≠ p := fun e => by rw [e, np] at hD; cases hD
        refine dc_it (walk_list (a := p) (xs := ((ps.map Prod.fst).mergeSort (PySem.W.dataLe false PyData.str)).map V.str)) (fun i H' => Same H1 H' ∧ H' p = some (.lst (((ps.map Prod.fst).mergeSort (PySem.W.dataLe false PyData.str)).map V.str)) ∧ H' D2 = some (.dK (kvP ((ps.mergeSort le2).take i))))
          ⟨(same_upd np).trans (same_upd nD2), by rw [upd_ne nD2p]; exact upd_same, upd_same⟩ (fun i H' _ hP => sqOf hP.2.1) (fun i v H2 H3 hi hP hy => ?_) (fun H2 hP => ?_)
        · obtain ⟨S2, hp, hD2⟩ := hP
          obtain ⟨rfl, ev⟩ := hy
          rw [List.getElem?_map] at ev
          cases ek : ((ps.map Prod.fst).mergeSort (PySem.W.dataLe false PyData.str))[i]? with
          | none => rw [ek] at ev; cases ev
          | some k =>
          rw [ek] at ev
          cases (Option.some.inj ev)
          obtain ⟨q, eq, rfl, evq, enq⟩ := sorted_take hg.2 ek
          refine ⟨rfl, .str q.1, rfl, .ref D, rfl, .str q.1, rfl, D, .str q.2, rfl, ?_, ?_⟩
          · rw [← evq]
            exact DGet.k (k := Sum.inr q.1) (S2 _ _ hD)
          · refine ⟨_, Sum.inr q.1, rfl, hD2, by rw [kvP_len, List.length_take]; have := hR.n; have := @len_sort ps; omega, ?_, ?_, ?_⟩
            · exact fun b o hb => by rw [upd_ne (ne_of_none hb nD2')]; exact S2 _ _ hb
            · rw [upd_ne nD2p]
              exact hp
            · rw [upd_same, putK_new _ enq, List.take_add_one, eq]
              unfold kvP
              rw [List.map_append]
              rfl
        · obtain ⟨S2, hp, hD2⟩ := hP
          have hl : (((ps.map Prod.fst).mergeSort (PySem.W.dataLe false PyData.str)).map V.str).length = (ps.mergeSort le2).length := by
            rw [List.length_map, List.length_mergeSort, List.length_map, len_sort]
          rw [hl, List.take_length] at hD2
          have hx2 := S2 _ _ (S1 _ _ hx)
          have nDx : x ≠ D2 := fun e => by rw [e] at hx; rw [S1 _ _ hx] at nD2'; cases nD2'
          have HD2 : H D2 = none := by
            cases e : H D2 with
            | none => rfl
            | some o => rw [S1 _ _ e] at nD2'; cases nD2'
          refine ⟨.ref x, rfl, x, C, dx, [], rfl, hx2, T.c, T.no, by decide, ?_⟩
          refine qG hg D2 _ (fun b o hb nb => by rw [upd_ne nb]; exact S2 _ _ (S1 _ _ hb)) HD2 upd_same ?_
          rw [upd_ne (Ne.symm nDx)]
          exact hD2
end
end Tb
namespace Tb
open PySem PySem.Spec PyProof.Rows L2
/-! ### rows put and dropped: the mirrors -/
def putP (ps : List Pr) (p l : Str) : List Pr := if (ps.any fun q => decide (q.1 = p)) = true then ps.map (fun q => if q.1 = p then (q.1, l) else q) else ps ++ [(p, l)]
def dropP (ps : List Pr) (p : Str) : List Pr := ps.filter fun q => decide (q.1 ≠ p)
/-- after the change -/
def aft (ps : List Pr) (p : Str) : Option Str → List Pr
  | none => dropP ps p
  | some l => putP ps p l
theorem any_kvP (ps : List Pr) (p : Str) : ((kvP ps).any fun kv => decide (kv.1 = Sum.inr p)) = ps.any fun q => decide (q.1 = p) := by
  unfold kvP
  rw [List.any_map]
  congr 1
  funext q
  show decide ((Sum.inr q.1 : Key) = Sum.inr p) = decide (q.1 = p)
  exact decide_eq_decide.mpr ⟨Sum.inr.inj, fun e => by rw [e]⟩
theorem put_kvP (ps : List Pr) (p l : Str) : putK (kvP ps) (Sum.inr p) (V.str l) = kvP (putP ps p l) := by
  unfold putK putP
  rw [any_kvP]
  by_cases c : (ps.any fun q => decide (q.1 = p)) = true
  · rw [if_pos c, if_pos c]
    unfold kvP
    rw [List.map_map, List.map_map]
    refine List.map_congr_left fun q _ => ?_
    show (if (Sum.inr q.1 : Key) = Sum.inr p then ((Sum.inr q.1 : Key), V.str l) else (Sum.inr q.1, V.str q.2)) = (Sum.inr (if q.1 = p then (q.1, l) else q).1, V.str (if q.1 = p then (q.1, l) else q).2)
    by_cases e : q.1 = p
    · rw [if_pos (by rw [e]), if_pos e]
    · rw [if_neg (fun x => e (Sum.inr.inj x)), if_neg e]
  · rw [if_neg c, if_neg c]
    unfold kvP
    rw [List.map_append]
    rfl
theorem drop_kvP (ps : List Pr) (p : Str) : dropK (kvP ps) (Sum.inr p) = kvP (dropP ps p) := by
  unfold dropK dropP kvP
  rw [List.filter_map]
  congr 1
  refine List.filter_congr fun q _ => ?_
  show decide ((Sum.inr q.1 : Key) ≠ Sum.inr p) = decide (q.1 ≠ p)
  exact decide_eq_decide.mpr ⟨fun e x => e (by rw [x]), fun e x => e (Sum.inr.inj x)⟩
theorem any_perm {ps qs : List Pr} (h : ps.Perm qs) (f : Pr → Bool) : ps.any f = qs.any f := by
  rw [Bool.eq_iff_iff, List.any_eq_true, List.any_eq_true]
  exact ⟨fun ⟨x, hx, e⟩ => ⟨x, h.mem_iff.mp hx, e⟩, fun ⟨x, hx, e⟩ => ⟨x, h.mem_iff.mpr hx, e⟩⟩
theorem put_perm {ps qs : List Pr} (h : ps.Perm qs) (p l : Str) : (putP ps p l).Perm (putP qs p l) := by
  unfold putP
  rw [any_perm h]
  by_cases c : (qs.any fun q => decide (q.1 = p)) = true
  · rw [if_pos c, if_pos c]
    exact h.map _
  · rw [if_neg c, if_neg c]
    exact h.append_right _
theorem aft_perm {ps qs : List Pr} (h : ps.Perm qs) (p : Str) (o : Option Str) : (aft ps p o).Perm (aft qs p o) := by
  cases o with
  | none => exact h.filter _
  | some l => exact put_perm h p l
theorem put_keys {ps : List Pr} {p l : Str} (h : (ps.any fun q => decide (q.1 = p)) = true) : (putP ps p l).map Prod.fst = ps.map Prod.fst := by
  unfold putP
  rw [if_pos h, List.map_map]
  refine List.map_congr_left fun q _ => ?_
  show (if q.1 = p then (q.1, l) else q).1 = q.1
  by_cases e : q.1 = p
  · rw [if_pos e]
  · rw [if_neg e]
theorem any_mem {ps : List Pr} {p : Str} : (ps.any fun q => decide (q.1 = p)) = true ↔ p ∈ ps.map Prod.fst := by
  rw [List.any_eq_true, List.mem_map]
  exact ⟨fun ⟨x, hx, e⟩ => ⟨x, hx, of_decide_eq_true e⟩, fun ⟨x, hx, e⟩ => ⟨x, hx, decide_eq_true e⟩⟩
theorem put_nodup {ps : List Pr} {p l : Str} (h : (ps.map Prod.fst).Nodup) : ((putP ps p l).map Prod.fst).Nodup := by
  by_cases c : (ps.any fun q => decide (q.1 = p)) = true
  · rw [put_keys c]
    exact h
  · have c2 : p ∉ ps.map Prod.fst := fun z => c (any_mem.mpr z)
    unfold putP
    rw [if_neg c, List.map_append, List.nodup_append]
    refine ⟨h, by simp, fun x hx y hy e => ?_⟩
    subst e
    rw [List.map_singleton, List.mem_singleton] at hy
    exact c2 (by rw [show x = p from hy] at hx; exact hx)
theorem mem_put {ps : List Pr} {p l : Str} {q : Pr} (h : q ∈ putP ps p l) : q ∈ ps ∨ q = (p, l) := by
  unfold putP at h
  by_cases c : (ps.any fun q => decide (q.1 = p)) = true
  · rw [if_pos c] at h
    obtain ⟨x, hx, e⟩ := List.mem_map.mp h
    by_cases e2 : x.1 = p
    · rw [if_pos e2] at e
      exact .inr (by rw [← e, e2])
    · rw [if_neg e2] at e
      exact .inl (by rw [← e]; exact hx)
  · rw [if_neg c] at h
    rcases List.mem_append.mp h with h | h
    · exact .inl h
    · exact .inr (List.mem_singleton.mp h)
theorem put_mem (ps : List Pr) (p l : Str) : (p, l) ∈ putP ps p l := by
  unfold putP
  by_cases c : (ps.any fun q => decide (q.1 = p)) = true
  · rw [if_pos c]
    obtain ⟨x, hx, e⟩ := List.any_eq_true.mp c
    have e := of_decide_eq_true e
    exact List.mem_map.mpr ⟨x, hx, by rw [if_pos e, e]⟩
  · rw [if_neg c]
    exact List.mem_append_right _ (List.mem_singleton.mpr rfl)
theorem put_good {ps : List Pr} {p l : Str} (h : Good ps) (h1 : isAddr p = true) (h2 : isLane l = true) : Good (putP ps p l) :=
  ⟨fun q hq => by
    rcases mem_put hq with hq | rfl
    · exact h.1 q hq
    · exact ⟨h1, h2⟩, put_nodup h.2⟩
theorem put_bad {ps : List Pr} {p l : Str} (h2 : isLane l = false) : ¬ Good (putP ps p l) := fun g => by
  have := (g.1 _ (put_mem ps p l)).2
  rw [h2] at this
  cases this
theorem drop_good {ps : List Pr} {p : Str} (h : Good ps) : Good (dropP ps p) :=
  ⟨fun q hq => h.1 q (List.mem_filter.mp hq).1, List.Nodup.sublist (List.filter_sublist.map Prod.fst) h.2⟩
theorem drop_len (ps : List Pr) (p : Str) : (dropP ps p).length ≤ ps.length := List.length_filter_le _ _
theorem put_len (ps : List Pr) (p l : Str) : (putP ps p l).length ≤ ps.length + 1 := by
  unfold putP
  by_cases c : (ps.any fun q => decide (q.1 = p)) = true
  · rw [if_pos c, List.length_map]
    omega
  · rw [if_neg c, List.length_append]
    exact Nat.le_refl _
theorem good_perm {ps qs : List Pr} (h : ps.Perm qs) (g : Good ps) : Good qs := ⟨fun p hp => g.1 p (h.mem_iff.mpr hp), (h.map Prod.fst).nodup_iff.mp g.2⟩
theorem good_sort {ps : List Pr} : Good (ps.mergeSort le2) ↔ Good ps := ⟨good_perm (List.mergeSort_perm ps le2), good_perm (List.mergeSort_perm ps le2).symm⟩
theorem addr_len {t : Str} (h : isAddr t = true) : t.length ≤ 8 := by
  unfold isAddr made at h
  rw [Bool.and_eq_true, Bool.and_eq_true] at h
  have := of_decide_eq_true h.1.2
  omega
theorem lane_len {t : Str} (h : isLane t = true) : t.length ≤ 12 := by
  unfold isLane at h
  rw [Bool.or_eq_true] at h
  rcases h with h | h
  · have e := of_decide_eq_true h
    rw [e]
    decide
  · unfold isName made at h
    rw [Bool.and_eq_true, Bool.and_eq_true, Bool.and_eq_true] at h
    have := of_decide_eq_true h.1.1.2
    omega
theorem valV_kvP_eq {ps : List Pr} {k : Str} : valV (kvP ps) (Sum.inr k) = (ps.find? fun q => decide (q.1 = k)).map fun q => V.str q.2 := by
  induction ps with
  | nil => rfl
  | cons p ps ih =>
    show valV ((Sum.inr p.1, V.str p.2) :: kvP ps) _ = _
    by_cases c : p.1 = k
    · rw [valV_pos (by rw [c]), List.find?_cons_of_pos (by exact decide_eq_true c)]
      rfl
    · rw [valV_neg (by intro e; exact c (Sum.inr.inj e)), ih, List.find?_cons_of_neg (by simpa using c)]
/-- a dict's rows in another order say the same -/
theorem valV_perm {ps qs : List Pr} (h : ps.Perm qs) (n : (ps.map Prod.fst).Nodup) (k : Str) : valV (kvP ps) (Sum.inr k) = valV (kvP qs) (Sum.inr k) := by
  by_cases c : k ∈ ps.map Prod.fst
  · obtain ⟨p, hp, e⟩ := List.mem_map.mp c
    subst e
    rw [valV_mem n hp, valV_mem ((h.map Prod.fst).nodup_iff.mp n) (h.mem_iff.mp hp)]
  · have c2 : k ∉ qs.map Prod.fst := fun z => c ((h.map Prod.fst).mem_iff.mpr z)
    have a1 : valV (kvP ps) (Sum.inr k) = none := by
      cases e : valV (kvP ps) (Sum.inr k) with
      | none => rfl
      | some v => exact absurd ((valV_kvP k ps).mp (by rw [e]; rfl)) c
    have a2 : valV (kvP qs) (Sum.inr k) = none := by
      cases e : valV (kvP qs) (Sum.inr k) with
      | none => rfl
      | some v => exact absurd ((valV_kvP k qs).mp (by rw [e]; rfl)) c2
    rw [a1, a2]
theorem lp_congr {kvs kvs' : Kvs} (h : ∀ k : Str, valV kvs (Sum.inr k) = valV kvs' (Sum.inr k)) (a : Str) : ∀ n, lp kvs a n = lp kvs' a n
  | 0 => rfl
  | n + 1 => by
    unfold lp
    rw [h, lp_congr h a n]
theorem laneV_congr {kvs kvs' : Kvs} (h : ∀ k : Str, valV kvs (Sum.inr k) = valV kvs' (Sum.inr k)) (a : Str) : laneV kvs a = laneV kvs' a := by
  unfold laneV long
  rw [lp_congr h]
  cases lp kvs' a a.length with
  | none => rfl
  | some p =>
    show (valV kvs (Sum.inr p)).getD _ = (valV kvs' (Sum.inr p)).getD _
    rw [h]
/-- what the table says of an address -/
theorem laneV_sort {own : List Pr} (n : (own.map Prod.fst).Nodup) (a : Str) : laneV (kvP (own.mergeSort le2)) a = laneV (kvP own) a :=
  laneV_congr (fun k => (valV_perm (List.mergeSort_perm own le2).symm n k).symm) a
end Tb
namespace Tb
open PySem PySem.Spec PyProof.Rows L2
abbrev sTCall : Stmt := inClass (topS 19) 1
abbrev sTLen : Stmt := inClass (topS 19) 3
abbrev sTRows : Stmt := inClass (topS 19) 4
theorem scTCall : FnScope ["self", "address"] ["self", "address"] (defScope sTCall) := ⟨rfl, rfl, rfl, by decide +kernel, rfl, by decide +kernel, by decide +kernel⟩
theorem scTLen : FnScope ["self"] ["self"] (defScope sTLen) := ⟨rfl, rfl, rfl, by decide +kernel, rfl, by decide +kernel, by decide +kernel⟩
theorem scTRows : FnScope ["self"] ["self"] (defScope sTRows) := ⟨rfl, rfl, rfl, by decide +kernel, rfl, by decide +kernel, by decide +kernel⟩
/-- at b: a table of these rows -/
structure TabOf (C : Addr) (H : Hp) (b : Addr) (own : List Pr) : Prop where
  ex : ∃ dx d, H b = some (.ins C dx [(wLanes, .ref d)]) ∧ H d = some (.dK (kvP (own.mergeSort le2)))
  g : Good own
  n : own.length ≤ 900
theorem TabOf.same {C : Addr} {H H' : Hp} {b : Addr} {own : List Pr} (T : TabOf C H b own) (h : Same H H') : TabOf C H' b own := by
  obtain ⟨⟨dx, d, h1, h2⟩, g, n⟩ := T
  exact ⟨⟨dx, d, h _ _ h1, h _ _ h2⟩, g, n⟩
theorem TabOf.but {C : Addr} {H H' : Hp} {b p : Addr} {own : List Pr} {xs : List V} (T : TabOf C H b own) (hp : H p = some (.lst xs)) (h : But p H H') : TabOf C H' b own := by
  obtain ⟨⟨dx, d, h1, h2⟩, g, n⟩ := T
  exact ⟨⟨dx, d, h _ _ h1 (fun e => by rw [e, hp] at h1; cases h1), h _ _ h2 (fun e => by rw [e, hp] at h2; cases h2)⟩, g, n⟩
theorem TabOf.perm {C : Addr} {H : Hp} {b : Addr} {own own' : List Pr} (T : TabOf C H b own) (h : own.Perm own') : TabOf C H b own' := by
  obtain ⟨⟨dx, d, h1, h2⟩, g, n⟩ := T
  exact ⟨⟨dx, d, h1, by rw [← sort_perm h]; exact h2⟩, good_perm h g, by rw [← h.length_eq]; exact n⟩
theorem lk1 {f : Str} {v : V} : List.lookup f [(f, v)] = some v := by
  rw [List.lookup_cons, beq_self_eq_true]
/-- Table(rows): from what __init__ says -/
theorem tab_made {C CI : Addr} {H : Hp} {r : Addr} {lst : Bool} {ts : List (Addr × Pr)} {Q : VK} {E : XK} (R : RowsAt H r lst ts) (hn : ts.length ≤ 900)
    (qG : Good (ts.map (·.2)) → ∀ b H', Same H H' → H b = none → TabOf C H' b (ts.map (·.2)) → Q (.ref b) H')
    (qB : ¬ Good (ts.map (·.2)) → ∀ e H', Same H H' → H' e = some (.xd [(wWhat, .str wTable)]) → E (.ref CI) (some e) H') :
    ∀ x dx, H x = none → H dx = none → dx ≠ x → spInit C CI (V.ref x :: ([V.ref r] ++ [])) (upd (upd H dx (.own x)) x (.ins C dx [])) (fun v H2 => v = .non ∧ Q (.ref x) H2) E := by
  intro x dx nx ndx hne
  have S0 : Same H (upd (upd H dx (.own x)) x (.ins C dx [])) := (same_upd ndx).trans (same_upd (by rw [upd_ne (Ne.symm hne)]; exact nx))
  refine ⟨x, dx, r, lst, ts, rfl, upd_same, R.same S0, fun g d H' S nd hx hd => ⟨rfl, ?_⟩, fun g e H' S he => qB g e H' (S0.trans S) he⟩
  refine qG g x H' (fun b o hb => ?_) nx ⟨⟨dx, d, hx, hd⟩, g, by rw [List.length_map]; exact hn⟩
  exact S b o (S0 _ _ hb) (fun e => by rw [e, nx] at hb; cases hb)
section
variable {P : Program} {w : World} {K : PySem.W.Frag} {mg : Str → Option Value} {base : Heap}
/-- __call__ -/
def spTCall (C : Addr) : Sp := fun vs H Q _ => ∃ (b : Addr) (own : List Pr) (a : Str), vs = [.ref b, .str a] ∧ TabOf C H b own ∧ a.length ≤ 1000 ∧ Q (laneV (kvP own) a) H
theorem ok_tcall {f g C : Addr} {fd gd : FuncData} (F : Fun K "__call__" "Table.__call__" sTCall f fd) (D : Dd K mg "_lane" sLane ["lanes", "address"] g gd) (G : FnOk P w K mg base CX0 2 g gd ["lanes", "address"] (spDA laneV)) (T : TCls K C) : FnOk P w K mg base CX0 3 f fd ["self", "address"] (spTCall C) := by
  refine F.ok scTCall (fun vs H Q E h => ?_) (fun cdv A outer s H vs Q E hr h => ?_)
  · obtain ⟨b, own, a, rfl, _⟩ := h
    rfl
  · obtain ⟨b, own, a, rfl, hT, hl, q⟩ := h
    obtain ⟨dx, d, h1, h2⟩ := hT.ex
    refine ⟨_, pss_one (ps_ret (pe_call G hr (by rfl) D.g D.F.kp D.b .nil pass0 (pa_cons (pe_fld (pv 0) (by rfl)) (pa_cons (pv 1) pa_nil)))), ?_⟩
    refine ⟨.ref b, rfl, b, C, dx, _, .ref d, rfl, h1, T.c, T.no, lk1, .str a, rfl, d, _, a, rfl, h2, hl, ?_⟩
    rw [laneV_sort hT.g.2]
    exact q
/-- __len__ -/
def spTLen (C : Addr) : Sp := fun vs H Q _ => ∃ (b : Addr) (own : List Pr), vs = [.ref b] ∧ TabOf C H b own ∧ Q (.int (own.length : Int)) H
theorem ok_tlen {f C : Addr} {fd : FuncData} {k : Nat} (F : Fun K "__len__" "Table.__len__" sTLen f fd) (B : Blt mg) (T : TCls K C) : FnOk P w K mg base CX0 (k + 1) f fd ["self"] (spTLen C) := by
  refine F.ok scTLen (fun vs H Q E h => ?_) (fun cdv A outer s H vs Q E hr h => ?_)
  · obtain ⟨b, own, rfl, _⟩ := h
    rfl
  · obtain ⟨b, own, rfl, hT, q⟩ := h
    obtain ⟨dx, d, h1, h2⟩ := hT.ex
    refine ⟨_, pss_one (ps_ret (pe_callB call_lenD (by rfl) B.len PySem.boot_len (pa_cons (pe_fld (pv 0) (by rfl)) pa_nil))), ?_⟩
    refine ⟨.ref b, rfl, b, C, dx, _, .ref d, rfl, h1, T.c, T.no, lk1, d, _, rfl, h2, ?_⟩
    rw [kvP_len, len_sort]
    exact q
/-- rows -/
def spTRows (C : Addr) : Sp := fun vs H Q _ => ∃ (b : Addr) (own : List Pr), vs = [.ref b] ∧ TabOf C H b own ∧ ∀ (p : Addr) (ts : List (Addr × Pr)) (H' : Hp), Same H H' → H p = none → H' p = some (.lst (ts.map fun t => V.ref t.1)) → (∀ t ∈ ts, H' t.1 = some (.tup [.str t.2.1, .str t.2.2])) → ts.map (·.2) = own.mergeSort le2 → Q (.ref p) H'
/-- the items of a dict of texts -/
theorem items_rows {H' : Hp} : ∀ {as : List Addr} {ps : List Pr}, Paired (fun (t : Addr) (q : Key × V) => H' t = some (.tup [kV q.1, q.2])) as (kvP ps) → ∃ ts : List (Addr × Pr), ts.map Prod.fst = as ∧ ts.map Prod.snd = ps ∧ ∀ t ∈ ts, H' t.1 = some (.tup [.str t.2.1, .str t.2.2])
  | _, [], .nil => ⟨[], rfl, rfl, fun t ht => (List.not_mem_nil ht).elim⟩
  | _, p :: ps, .cons (a := a) h t => by
    obtain ⟨ts, e1, e2, e3⟩ := items_rows t
    exact ⟨(a, p) :: ts, by rw [List.map_cons, e1], by rw [List.map_cons, e2], fun x hx => by
      rcases List.mem_cons.mp hx with rfl | hx
      · exact h
      · exact e3 x hx⟩
theorem ok_trows {f C : Addr} {fd : FuncData} {k : Nat} (F : Fun K "rows" "Table.rows" sTRows f fd) (B : Blt mg) (T : TCls K C) : FnOk P w K mg base CX0 (k + 1) f fd ["self"] (spTRows C) := by
  refine F.ok scTRows (fun vs H Q E h => ?_) (fun cdv A outer s H vs Q E hr h => ?_)
  · obtain ⟨b, own, rfl, _⟩ := h
    rfl
  · obtain ⟨b, own, rfl, hT, q⟩ := h
    obtain ⟨dx, d, h1, h2⟩ := hT.ex
    refine ⟨_, pss_one (ps_ret (LiI.pe_listItems rfl (pe_fld (pv 0) (by rfl)) (by rfl) B.list PyProof.Rows.boot_list)), ?_⟩
    refine ⟨.ref b, rfl, b, C, dx, _, .ref d, rfl, h1, T.c, T.no, lk1, d, _, rfl, h2, fun H' p as S np _ _ hp hpr => ?_⟩
    obtain ⟨ts, e1, e2, e3⟩ := items_rows hpr
    refine q p ts H' S np ?_ e3 e2
    rw [hp, ← e1, List.map_map]
    rfl
end
end Tb
namespace Tb
open PySem PySem.Spec PyProof.Rows L2
theorem aft_len {own : List Pr} {p : Str} {o : Option Str} : (aft own p o).length ≤ own.length + 1 := by
  cases o with
  | none => exact Nat.le_trans (drop_len own p) (Nat.le_succ _)
  | some l => exact put_len own p l
theorem aft_good {own : List Pr} {p : Str} {o : Option Str} (g : Good own) (hp : isAddr p = true) : Good (aft own p o) ↔ ∀ l, o = some l → isLane l = true := by
  cases o with
  | none => exact ⟨fun _ l e => by (cases e), fun _ => drop_good g⟩
  | some l =>
    refine ⟨fun h l' e => ?_, fun h => put_good g hp (h l rfl)⟩
    cases e
    cases e2 : isLane l with
    | true => rfl
    | false => exact absurd h (put_bad e2)
section
variable {P : Program} {w : World} {K : PySem.W.Frag} {mg : Str → Option Value} {base : Heap}
end
end Tb
namespace Tb
open PySem PySem.Spec PyProof.Rows L2
theorem cut_hi (xs : List V) (k : Nat) : cutV xs none (some (k : Int)) = xs.take k := by
  unfold cutV
  rw [HT.sIx_nat, HT.sIx_none, List.drop_zero, Nat.sub_zero]
  by_cases h : k ≤ xs.length
  · rw [Nat.min_eq_left h]
  · rw [Nat.min_eq_right (by omega), List.take_length, List.take_of_length_le (by omega)]
abbrev sBag : Stmt := topS 27
abbrev sDraw : Stmt := topS 28
theorem scBag : FnScope ["script", "cell"] ["script"] (defScope sBag) := ⟨rfl, rfl, rfl, by decide +kernel, rfl, by decide +kernel, by decide +kernel⟩
theorem scDraw : FnScope ["bag", "size", "cell", "digit", "mixed"] ["bag", "size"] (defScope sDraw) := ⟨rfl, rfl, rfl, by decide +kernel, rfl, by decide +kernel, by decide +kernel⟩
abbrev MM : Int := 2147483647
/-- the bag of the draws -/
def bagL (n c m : Int) (ns : List Int) : HO := .lst (.int n :: .int c :: .int m :: ns.map V.int)
def Bag (H : Hp) (p : Addr) : Prop := ∃ (n c m : Int) (ns : List Int), H p = some (bagL n c m ns) ∧ 0 ≤ c ∧ 0 ≤ m ∧ m < MM ∧ ns.length ≤ 63
theorem Bag.same {H H' : Hp} {p : Addr} (B : Bag H p) (h : Same H H') : Bag H' p := by
  obtain ⟨n, c, m, ns, hp, rest⟩ := B
  exact ⟨n, c, m, ns, h _ _ hp, rest⟩
section
variable {P : Program} {w : World} {K : PySem.W.Frag} {mg : Str → Option Value} {base : Heap}
def spBag (K : PySem.W.Frag) : Sp := fun vs H Q _ => ∃ (a : Addr) (ns : List Int), vs = [.ref a] ∧ SqL K H a (ns.map V.int) ∧ ∀ (p : Addr) (H' : Hp), Same H H' → H p = none → Bag H' p → Q (.ref p) H'
theorem ok_bag {f : Addr} {fd : FuncData} {k : Nat} (F : Fun K "_law_bag" "_law_bag" sBag f fd) (B : Blt mg) : FnOk P w K mg base CX0 (k + 1) f fd ["script"] (spBag K) := by
  refine F.ok scBag (fun vs H Q E h => ?_) (fun cdv A outer s H vs Q E hr h => ?_)
  · obtain ⟨a, ns, rfl, _⟩ := h
    rfl
  · obtain ⟨a, ns, rfl, hS, q⟩ := h
    refine ⟨_, pss_one (ps_ret (pe_op op_cat (pe_lst (pa_cons pe_int (pa_cons pe_int (pa_cons pe_int pa_nil))))
      (pe_lc (own := [("cell", 1)]) (g := gName 1) (by rfl) scBag.nd (pi_list (pe_slice sl_list (pv 0) po_none (po_some pe_int))) (blkOk_by (N := ["script", "cell"]) (sc := defScope sBag) (by decide +kernel)) (fun _ _ _ _ _ => pg_name (i := 1) scBag.nd rfl (Or.inl rfl)) (fun _ _ _ _ _ => pts_nil)
        (fun _ _ _ _ _ => pe_callTy call_int1 (by rfl) B.int PyProof.Rows.boot_int (pa_cons (pv 1) pa_nil))))), ?_⟩
    refine ⟨by show 3 ≤ sizeLine; decide, fun l nl => ?_⟩
    have S1 : Same H (upd H l (.lst [V.int 0, V.int 0, V.int 0])) := same_upd nl
    refine ⟨.ref a, rfl, 63, rfl, a, ns.map V.int, rfl, S1.seq hS, fun p np => ?_⟩
    refine ⟨p, rfl, ⟨_, sqOf upd_same⟩, fun D nD => ?_⟩
    have hl : (upd (upd H l (.lst [V.int 0, V.int 0, V.int 0])) p (.lst (cutV (ns.map V.int) none (some 63)))) l = some (.lst [V.int 0, V.int 0, V.int 0]) := by
      rw [upd_ne (ne_of_none upd_same np)]
      exact upd_same
    have e63 : cutV (ns.map V.int) none (some 63) = (ns.take 63).map V.int := (cut_hi (ns.map V.int) 63).trans List.map_take.symm
    have hp : (upd (upd H l (.lst [V.int 0, V.int 0, V.int 0])) p (.lst (cutV (ns.map V.int) none (some 63)))) p = some (.lst ((ns.take 63).map V.int)) := by rw [upd_same, e63]
    have S2 : Same H (upd (upd H l (.lst [V.int 0, V.int 0, V.int 0])) p (.lst (cutV (ns.map V.int) none (some 63)))) := S1.trans (same_upd np)
    have l63 : (ns.take 63).length ≤ 63 := by rw [List.length_take]; exact Nat.min_le_left _ _
    generalize ns.take 63 = ks at *
    generalize eH : upd (upd H l (.lst [V.int 0, V.int 0, V.int 0])) p (.lst (cutV (ns.map V.int) none (some 63))) = H2 at *
    refine lc_it (walk_list (a := p) (xs := cutV (ns.map V.int) none (some 63))) (fun i H' => Same H2 H' ∧ H' D = some (.lst ((ks.take i).map V.int))) ⟨same_upd nD, upd_same⟩ (fun i H' _ hP => sqOf (by rw [e63]; exact hP.1 _ _ hp)) (fun i v H3 H4 hi hP hy => ?_) (fun H3 hP => ?_)
    · obtain ⟨S3, hD⟩ := hP
      obtain ⟨rfl, ev⟩ := hy
      rw [e63, List.getElem?_map] at ev
      cases ek : ks[i]? with
      | none => rw [ek] at ev; cases ev
      | some k =>
      rw [ek] at ev
      cases (Option.some.inj ev)
      refine ⟨rfl, .int k, rfl, .inl ⟨k, rfl, _, hD, ?_, fun b o hb => by rw [upd_ne (ne_of_none hb nD)]; exact S3 _ _ hb, ?_⟩⟩
      · rw [List.length_map, List.length_take]
        have hz : sizeLine = 16777216 := rfl
        omega
      · rw [upd_same, List.take_add_one, ek, List.map_append]
        rfl
    · obtain ⟨S3, hD⟩ := hP
      rw [e63, List.length_map, List.take_length] at hD
      refine ⟨l, D, _, _, rfl, rfl, S3 _ _ hl, hD, ?_, fun r nr => ?_⟩
      · rw [List.length_map]
        show 3 + ks.length ≤ sizeLine
        have hz : sizeLine = 16777216 := rfl
        omega
      · refine q r _ ((S2.trans S3).trans (same_upd nr)) ((S2.trans S3).free nr) ⟨0, 0, 0, ks, ?_, by decide, by decide, by decide, l63⟩
        rw [upd_same]
        rfl
theorem ixN_nat' {n j : Nat} (hj : j < n) : ixN n (j : Int) = some j := by
  unfold ixN
  rw [if_pos (by omega), if_pos (by omega)]
  rfl
theorem ix0 {a b c : V} {xs : List V} : ixN (a :: b :: c :: xs).length 0 = some 0 := ixN_nat' (n := (a :: b :: c :: xs).length) (j := 0) (by simp)
theorem ix1 {a b c : V} {xs : List V} : ixN (a :: b :: c :: xs).length 1 = some 1 := ixN_nat' (n := (a :: b :: c :: xs).length) (j := 1) (by simp)
theorem ix2 {a b c : V} {xs : List V} : ixN (a :: b :: c :: xs).length 2 = some 2 := ixN_nat' (n := (a :: b :: c :: xs).length) (j := 2) (by simp)
theorem six3 {a b c d : V} {xs : List V} : seqIndex? 3 (a :: b :: c :: d :: xs).length = some 3 := (ixN_seq (ixN_nat' (n := (a :: b :: c :: d :: xs).length) (j := 3) (by simp))).1
/-- `size` at least 1 -/
def spDraw : Sp := fun vs H Q _ => ∃ (p : Addr) (n : Int), vs = [.ref p, .int n] ∧ Bag H p ∧ 0 < n ∧ n < 2 ^ 60 ∧ ∀ (z : Int) (H' : Hp), 0 ≤ z → z < n → Bag H' p → But p H H' → Q (.int z) H'
theorem ok_draw {f : Addr} {fd : FuncData} {k : Nat} (F : Fun K "_law_draw" "_law_draw" sDraw f fd) (B : Blt mg) : FnOk P w K mg base CX0 (k + 1) f fd ["bag", "size"] spDraw := by
  refine F.ok scDraw (fun vs H Q E h => ?_) (fun cdv A outer s H vs Q E hr h => ?_)
  · obtain ⟨p, n, rfl, _⟩ := h
    rfl
  · obtain ⟨p, sz, rfl, hB, hn0, hn, q⟩ := h
    obtain ⟨n, c, m, ns, hp, c0, m0, m1, l63⟩ := hB
    have hz : sizeLine = 16777216 := rfl
    refine ⟨_, pss_cons (ps_asg (pe_op op_add (pe_ix ix_list (pv 0) pe_int (fun _ _ => rfl)) pe_int) (pg_sub (pv 0) pe_int set_list))
      (C8.pss_cut (ps_if (PW.pt (pw_and (pt_cmp (pc_eqI (pe_ix ix_list (pv 0) pe_int (fun _ _ => rfl)) pe_int)) (pw_and1 (pt_cmpR op_gt (pe_callB call_len_seq (by rfl) B.len PySem.boot_len (pa_cons (pv 0) pa_nil)) pe_int (nomark _)))))
        (pss_cons (ps_set (i := 2) scDraw.nd rfl (.inl rfl) (pe_bm PySem.F.plainAttrs_list PySem.F.slot_list_pop PySem.F.type_list_pop mt_popAt (pv 0) (pa_cons pe_int pa_nil)))
        (pss_cons (ps_asg (pe_op op_mod (pe_callTy call_int1 (by rfl) B.int PyProof.Rows.boot_int (pa_cons (pe_op op_add (pe_op op_add (pe_op op_mul (pe_ix ix_list (pv 0) pe_int (fun _ _ => rfl)) pe_int) (pv 2)) pe_int) pa_nil)) pe_int) (pg_sub (pv 0) pe_int set_list))
        (pss_one (ps_if (pt_cmpR op_ge (pv 2) (pe_op op_pow pe_int pe_int) (nomark _)) (pss_one (ps_asg (pv 2) (pg_sub (pv 0) pe_int set_list))) pss_nil)))) pss_nil)
      (pss_cons (ps_if (pt_cmpR op_gt (pe_ix ix_list (pv 0) pe_int (fun _ _ => rfl)) pe_int (nomark _))
        (pss_cons (ps_set (i := 3) scDraw.nd rfl (.inl rfl) (pe_op op_mod (pe_callTy call_int1 (by rfl) B.int PyProof.Rows.boot_int (pa_cons (pe_ix ix_list (pv 0) pe_int (fun _ _ => rfl)) pa_nil)) (pv 1)))
        (pss_cons (ps_asg (pe_op op_fdivW (pe_ix ix_list (pv 0) pe_int (fun _ _ => rfl)) (pv 1)) (pg_sub (pv 0) pe_int set_list))
        (pss_one (ps_ret (pv 3))))) pss_nil)
      (pss_cons (ps_set (i := 4) scDraw.nd rfl (.inl rfl) (pe_op op_mod (pe_callTy call_int1 (by rfl) B.int PyProof.Rows.boot_int (pa_cons (pe_op op_add (pe_op op_add (pe_op op_mul (pe_ix ix_list (pv 0) pe_int (fun _ _ => rfl)) pe_int) (pe_op op_mul (pe_ix ix_list (pv 0) pe_int (fun _ _ => rfl)) pe_int)) pe_int) pa_nil)) pe_int))
      (pss_cons (ps_set (i := 4) scDraw.nd rfl (.inl rfl) (pe_op op_mod (pe_callTy call_int1 (by rfl) B.int PyProof.Rows.boot_int (pa_cons (pe_op op_add (pe_op op_fdiv (pe_op op_mul (pv 4) (pv 4)) pe_int) (pe_op op_mul (pv 4) pe_int)) pa_nil)) pe_int))
      (pss_one (ps_ret (pe_op op_mod (pe_callTy call_int1 (by rfl) B.int PyProof.Rows.boot_int (pa_cons (pe_op op_fdiv (pv 4) pe_int) pa_nil)) (pv 1)))))))), ?_⟩
    -- bag[0] = bag[0] + 1
    refine ⟨.ref p, rfl, p, _, 0, .int n, rfl, rfl, sqOf hp, atI_nat (j := 0) rfl, n, 1, rfl, rfl, .ref p, rfl, p, _, 0, 0, rfl, rfl, hp, ix0, ?_⟩
    have B1 : But p H (upd H p (bagL (n + 1) c m ns)) := But.upd
    have hp1 : (upd H p (bagL (n + 1) c m ns)) p = some (bagL (n + 1) c m ns) := upd_same
    show ∃ Mid : L2.St → Hp → Prop, _ ∧ _
    refine ⟨fun σ' H' => ∃ (y : Option V) (n c m : Int) (ns : List Int), σ' = [some (.ref p), some (.int sz), y, none, none] ∧ H' p = some (bagL n c m ns) ∧ 0 ≤ c ∧ 0 ≤ m ∧ m < MM ∧ ns.length ≤ 63 ∧ But p H H', ?_, ?_⟩
    · change tIfS _ _ _ _ _ (upd H p (bagL (n + 1) c m ns))
      generalize upd H p (bagL (n + 1) c m ns) = H1 at B1 hp1
      refine ⟨.ref p, rfl, p, _, 1, .int c, rfl, rfl, sqOf hp1, atI_nat (j := 1) rfl, c, 0, rfl, rfl, _, rfl, ite2 (fun e1 => ?_) (fun e1 => ?_)⟩
      · refine ⟨.ref p, rfl, p, _, rfl, .inl (sqOf hp1), _, 3, rfl, rfl, _, rfl, ite2 (fun e2 => ?_) (fun e2 => ?_)⟩
        · cases ns with
          | nil => exact absurd (of_decide_eq_true e2) (by simp)
          | cons k ks =>
          have lk : ks.length ≤ 63 := Nat.le_of_succ_le l63
          refine ⟨.ref p, rfl, .inl ⟨rfl, _, sqOf hp1⟩, p, _, 3, 3, .int k, rfl, rfl, hp1, by decide, by decide, six3, rfl, ?_⟩
          refine ⟨.ref p, rfl, p, V.int (n + 1) :: V.int c :: V.int m :: ks.map V.int, 2, .int m, rfl, rfl, sqOf upd_same, atI_nat (j := 2) rfl, m, 48271, rfl, rfl, .inr ⟨by decide, by decide⟩, .int k, rfl, _, _, rfl, rfl, _, _, rfl, rfl, .inl ⟨_, rfl, _, MM, rfl, rfl, (by show (0 : Int) < MM; decide), .ref p, rfl, p, V.int (n + 1) :: V.int c :: V.int m :: ks.map V.int, 2, 2, rfl, rfl, upd_same, ix2, ?_⟩⟩
          have z0 : 0 ≤ (m * 48271 + k + 11) % MM := Int.emod_nonneg _ (by decide)
          have z1 : (m * 48271 + k + 11) % MM < MM := Int.emod_lt_of_pos _ (by decide)
          refine ⟨.int k, rfl, 10, 18, rfl, rfl, ⟨by decide, by decide, by decide⟩, k, _, rfl, rfl, _, rfl, ite2 (fun e3 => ?_) (fun e3 => ?_)⟩
          · have h1 : (10 : Int) ^ (18 : Int).toNat ≤ k := of_decide_eq_true e3
            have h0 : (0 : Int) ≤ (10 : Int) ^ (18 : Int).toNat := by decide
            refine ⟨.int k, rfl, .ref p, rfl, p, V.int (n + 1) :: V.int c :: V.int ((m * 48271 + k + 11) % MM) :: ks.map V.int, 1, 1, rfl, rfl, upd_same, ix1, ?_⟩
            exact ⟨some (.int k), n + 1, k, _, ks, rfl, upd_same, by omega, z0, z1, lk, ((B1.trans But.upd).trans But.upd).trans But.upd⟩
          · exact ⟨some (.int k), n + 1, c, _, ks, rfl, upd_same, c0, z0, z1, lk, (B1.trans But.upd).trans But.upd⟩
        · exact ⟨none, n + 1, c, m, ns, rfl, hp1, c0, m0, m1, l63, B1⟩
      · exact ⟨none, n + 1, c, m, ns, rfl, hp1, c0, m0, m1, l63, B1⟩
    · rintro σ' H2 ⟨y, n, c, m, ns, rfl, hp, c0, m0, m1, l63, B2⟩
      have hn9 : sz.natAbs < 2 ^ 61 := by omega
      refine ⟨.ref p, rfl, p, _, 1, .int c, rfl, rfl, sqOf hp, atI_nat (j := 1) rfl, c, 0, rfl, rfl, _, rfl, ite2 (fun e2 => ?_) (fun e2 => ?_)⟩
      · refine ⟨.ref p, rfl, p, _, 1, .int c, rfl, rfl, sqOf hp, atI_nat (j := 1) rfl, .inl ⟨_, rfl, .int sz, rfl, _, _, rfl, rfl, (by show (0 : Int) < sz; omega), ?_⟩⟩
        refine ⟨.ref p, rfl, p, _, 1, .int c, rfl, rfl, sqOf hp, atI_nat (j := 1) rfl, .int sz, rfl, c, sz, rfl, rfl, wide_div (by omega) hn9 (by decide) (by decide), .ref p, rfl, p, _, 1, 1, rfl, rfl, hp, ix1, ?_⟩
        exact ⟨_, rfl, q _ _ (Int.emod_nonneg _ (by omega)) (Int.emod_lt_of_pos _ (by omega)) ⟨n, c / sz, m, ns, upd_same, Int.ediv_nonneg c0 (by omega), m0, m1, l63⟩ (B2.trans But.upd)⟩
      · refine ⟨.ref p, rfl, p, _, 2, .int m, rfl, rfl, sqOf hp, atI_nat (j := 2) rfl, m, 69621, rfl, rfl, .inr ⟨by decide, by decide⟩, .ref p, rfl, p, _, 0, .int n, rfl, rfl, sqOf hp, atI_nat (j := 0) rfl, n, 40692, rfl, rfl, .inr ⟨by decide, by decide⟩, _, _, rfl, rfl, _, 7, rfl, rfl, .inl ⟨_, rfl, _, 2147483399, rfl, rfl, (by show (0 : Int) < 2147483399; decide), ?_⟩⟩
        have x0 : 0 ≤ (m * 69621 + n * 40692 + 7) % 2147483399 := Int.emod_nonneg _ (by decide)
        have x1 : (m * 69621 + n * 40692 + 7) % 2147483399 < 2147483399 := Int.emod_lt_of_pos _ (by decide)
        show tSeq _ _ _ ([some (.ref p), some (.int sz), y, none, some (.int ((m * 69621 + n * 40692 + 7) % 2147483399))] : L2.St) _
        generalize (m * 69621 + n * 40692 + 7) % 2147483399 = x at x0 x1
        refine ⟨.int x, rfl, .int x, rfl, x, x, rfl, rfl, .inl ⟨by omega, by omega⟩, _, 65537, rfl, rfl, ⟨by decide, by decide⟩, .int x, rfl, x, 48271, rfl, rfl, .inr ⟨by decide, by decide⟩, _, _, rfl, rfl, .inl ⟨_, rfl, _, MM, rfl, rfl, (by show (0 : Int) < MM; decide), ?_⟩⟩
        exact ⟨.int ((x * x / 65537 + x * 48271) % MM), rfl, _, 32, rfl, rfl, ⟨by decide, by decide⟩, .inl ⟨_, rfl, .int sz, rfl, _, _, rfl, rfl, (by show (0 : Int) < sz; omega), q _ _ (Int.emod_nonneg _ (by omega)) (Int.emod_lt_of_pos _ (by omega)) ⟨n, c, m, ns, hp, c0, m0, m1, l63⟩ B2⟩⟩
end
end Tb
namespace Tb
open PySem PySem.Spec PyProof.Rows L2
/-! ### texts by their signs -/
abbrev tl (z : Str) : List Nat := z.cps.toList
theorem len_tl (z : Str) : z.length = (tl z).length := (Array.length_toList).symm
theorem tl_one (c : Nat) : tl ⟨#[c]⟩ = [c] := rfl
theorem tl_app (a b : Str) : tl (a ++ b) = tl a ++ tl b := by
  show (a.cps ++ b.cps).toList = _
  rw [Array.toList_append]
theorem tl_hi (z : Str) (k : Nat) : tl (cutS z none (some (k : Int))) = (tl z).take k := by
  show ((z.cps.toList.drop (HT.sIx z.length 0 none)).take (HT.sIx z.length z.length (some (k : Int)) - HT.sIx z.length 0 none)).toArray.toList = _
  rw [List.toList_toArray, HT.sIx_nat, HT.sIx_none, List.drop_zero, Nat.sub_zero]
  by_cases h : k ≤ z.length
  · rw [Nat.min_eq_left h]
  · have : z.cps.toList.length = z.length := Array.length_toList
    rw [Nat.min_eq_right (by omega), ← this, List.take_length, List.take_of_length_le (by show z.cps.toList.length ≤ k; omega)]
theorem tl_lo (z : Str) (k : Nat) : tl (cutS z (some (k : Int)) none) = (tl z).drop k := by
  show ((z.cps.toList.drop (HT.sIx z.length 0 (some (k : Int)))).take (HT.sIx z.length z.length none - HT.sIx z.length 0 (some (k : Int)))).toArray.toList = _
  have e0 : z.cps.toList.length = z.length := Array.length_toList
  have e1 : HT.sIx z.length 0 (some (k : Int)) = min k z.length := HT.sIx_nat _ _ _
  rw [List.toList_toArray, e1, HT.sIx_none]
  have e2 : z.cps.toList.drop (min k z.length) = z.cps.toList.drop k := by
    by_cases h : k ≤ z.length
    · rw [Nat.min_eq_left h]
    · rw [Nat.min_eq_right (by omega), List.drop_eq_nil_of_le (by omega), List.drop_eq_nil_of_le (by omega)]
  rw [e2, List.take_of_length_le (by rw [List.length_drop]; omega)]
theorem tl_inj {a b : Str} (h : tl a = tl b) : a = b := by
  cases a; cases b
  congr 1
  exact Array.ext' h
def Sg (z : Str) : Prop := ∀ c ∈ tl z, c < 1114112
structure Tx (z : Str) : Prop where
  len : z.length ≤ 100
  sg : Sg z
def Nm (l : List Nat) : Prop := l.length ≤ 12 ∧ (∀ d ∈ l, isIn (letters ++ digits) d = true) ∧ ∃ c, l[0]? = some c ∧ isIn letters c = true
def Ad (l : List Nat) : Prop := 1 ≤ l.length ∧ l.length ≤ 8 ∧ ∀ d ∈ l, isIn digits d = true
theorem isName_iff (t : Str) : isName t = true ↔ Nm (tl t) := by
  have e0 : t.cps.toList.length = t.length := Array.length_toList
  unfold isName made Nm
  rw [Bool.and_eq_true, Bool.and_eq_true, Bool.and_eq_true, List.all_eq_true, decide_eq_true_eq, decide_eq_true_eq, ← Array.getElem?_toList]
  constructor
  · rintro ⟨⟨⟨h1, h2⟩, h3⟩, h4⟩
    refine ⟨by show t.cps.toList.length ≤ 12; omega, h3, ?_⟩
    cases e : t.cps.toList[0]? with
    | none => rw [e] at h4; cases h4
    | some c => rw [e] at h4; exact ⟨c, rfl, h4⟩
  · rintro ⟨h1, h2, c, h3, h4⟩
    have h1 : t.cps.toList.length ≤ 12 := h1
    have h3 : t.cps.toList[0]? = some c := h3
    have := (List.getElem?_eq_some_iff.mp h3).1
    rw [h3]
    exact ⟨⟨⟨by omega, by omega⟩, h2⟩, h4⟩
theorem isAddr_iff (t : Str) : isAddr t = true ↔ Ad (tl t) := by
  have e0 : t.cps.toList.length = t.length := Array.length_toList
  unfold isAddr made Ad
  rw [Bool.and_eq_true, Bool.and_eq_true, List.all_eq_true, decide_eq_true_eq, decide_eq_true_eq]
  constructor
  · rintro ⟨⟨h1, h2⟩, h3⟩
    exact ⟨by show 1 ≤ t.cps.toList.length; omega, by show t.cps.toList.length ≤ 8; omega, h3⟩
  · rintro ⟨h1, h2, h3⟩
    have h1 : 1 ≤ t.cps.toList.length := h1
    have h2 : t.cps.toList.length ≤ 8 := h2
    exact ⟨⟨by omega, by omega⟩, h3⟩
theorem in_lt {s : Str} (hs : (tl s).all (fun c => decide (c < 1114112)) = true) {c : Nat} (h : isIn s c = true) : c < 1114112 :=
  of_decide_eq_true (List.all_eq_true.mp hs c (of_decide_eq_true h))
theorem nm_tx {t : Str} (h : Nm (tl t)) : Tx t :=
  ⟨by rw [len_tl]; have := h.1; omega, fun c hc => in_lt (by decide +kernel) (h.2.1 c hc)⟩
theorem ad_tx {t : Str} (h : Ad (tl t)) : Tx t :=
  ⟨by rw [len_tl]; have := h.2.1; omega, fun c hc => in_lt (by decide +kernel) (h.2.2 c hc)⟩
/-- a sign put in the place -/
def rep (l : List Nat) (s d : Nat) : List Nat := l.take s ++ [d] ++ l.drop (s + 1)
theorem rep_len {l : List Nat} {s d : Nat} (h : s < l.length) : (rep l s d).length = l.length := by
  unfold rep
  rw [List.length_append, List.length_append, List.length_take, List.length_drop, List.length_singleton]
  omega
theorem rep_mem {l : List Nat} {s d e : Nat} (h : e ∈ rep l s d) : e ∈ l ∨ e = d := by
  unfold rep at h
  rcases List.mem_append.mp h with h | h
  · rcases List.mem_append.mp h with h | h
    · exact .inl (List.mem_of_mem_take h)
    · exact .inr (List.mem_singleton.mp h)
  · exact .inl (List.mem_of_mem_drop h)
theorem rep_head {l : List Nat} {s d : Nat} (h : s < l.length) : (rep l s d)[0]? = if s = 0 then some d else l[0]? := by
  unfold rep
  cases s with
  | zero => rfl
  | succ s =>
    cases l with
    | nil => cases h
    | cons a l => rfl
theorem rep_tl (t : Str) (s d : Nat) : tl ((cutS t none (some (s : Int)) ++ ⟨#[d]⟩) ++ cutS t (some ((s : Int) + 1)) none) = rep (tl t) s d := by
  rw [tl_app, tl_app, tl_hi, show ((s : Int) + 1) = ((s + 1 : Nat) : Int) from rfl, tl_lo]
  rfl
theorem nm_rep {l : List Nat} {s d : Nat} (h : Nm l) (hs : s < l.length) (hd : isIn (letters ++ digits) d = true) (h0 : s = 0 → isIn letters d = true) : Nm (rep l s d) := by
  obtain ⟨h1, h2, c, h3, h4⟩ := h
  refine ⟨by rw [rep_len hs]; exact h1, fun e he => ?_, ?_⟩
  · rcases rep_mem he with he | rfl
    · exact h2 e he
    · exact hd
  · rw [rep_head hs]
    by_cases e : s = 0
    · exact ⟨d, by rw [if_pos e], h0 e⟩
    · exact ⟨c, by rw [if_neg e]; exact h3, h4⟩
theorem ad_rep {l : List Nat} {s d : Nat} (h : Ad l) (hs : s < l.length) (hd : isIn digits d = true) : Ad (rep l s d) := by
  obtain ⟨h1, h2, h3⟩ := h
  refine ⟨by rw [rep_len hs]; exact h1, by rw [rep_len hs]; exact h2, fun e he => ?_⟩
  rcases rep_mem he with he | rfl
  · exact h3 e he
  · exact hd
abbrev LD : Str := (("abcdefghijklmnopqrstuvwxyz0123456789" : String) : Str)
theorem ld_len : (LD.length : Int) = 36 := by decide +kernel
theorem ld_any {n c : Nat} (h : LD.cps[n]? = some c) : isIn (letters ++ digits) c = true := by
  have k : ∀ m : Fin 36, isIn (letters ++ digits) (LD.cps[m.val]?.getD 0) = true := by decide +kernel
  have hl : n < 36 := by
    have := (Array.getElem?_eq_some_iff.mp h).1
    have e : LD.cps.size = 36 := by decide +kernel
    omega
  have := k ⟨n, hl⟩
  rw [h] at this
  exact this
theorem ld_lo {n c : Nat} (h : LD.cps[n]? = some c) (hn : n < 26) : isIn letters c = true := by
  have k : ∀ m : Fin 26, isIn letters (LD.cps[m.val]?.getD 0) = true := by decide +kernel
  have := k ⟨n, hn⟩
  rw [h] at this
  exact this
theorem dg_any {n c : Nat} (h : digits.cps[n]? = some c) : isIn digits c = true := decide_eq_true (by
  rw [Array.mem_toList_iff]
  exact Array.mem_of_getElem? h)
theorem dg_len : (digits.length : Int) = 10 := by decide +kernel
theorem at_sign {z : Str} {i : Int} (h : i < z.length) (h0 : 0 ≤ i) : ∃ c, z.cps[i.toNat]? = some c := by
  have : i.toNat < z.cps.size := by
    show i.toNat < z.length
    omega
  exact ⟨_, Array.getElem?_eq_getElem this⟩
theorem nm_app {l m : List Nat} (h : Nm l) (hm : ∀ d ∈ m, isIn (letters ++ digits) d = true) (hl : l.length + m.length ≤ 12) : Nm (l ++ m) := by
  obtain ⟨h1, h2, c, h3, h4⟩ := h
  refine ⟨by rw [List.length_append]; exact hl, fun e he => ?_, c, ?_, h4⟩
  · rcases List.mem_append.mp he with he | he
    · exact h2 e he
    · exact hm e he
  · rw [List.getElem?_append_left (List.getElem?_eq_some_iff.mp h3).1]
    exact h3
theorem nm_take {l : List Nat} (h : Nm l) {k : Nat} (hk : 0 < k) : Nm (l.take k) := by
  obtain ⟨h1, h2, c, h3, h4⟩ := h
  refine ⟨by rw [List.length_take]; omega, fun e he => h2 e (List.mem_of_mem_take he), c, ?_, h4⟩
  rw [List.getElem?_take, if_pos hk]
  exact h3
theorem nm_pos {l : List Nat} (h : Nm l) : 0 < l.length := by
  obtain ⟨_, _, c, h3, _⟩ := h
  exact (List.getElem?_eq_some_iff.mp h3).1
theorem num100 {k : Nat} (h : k < 100) : (tl (Str.ofString (toString (k : Int)))).length ≤ 2 ∧ ∀ d ∈ tl (Str.ofString (toString (k : Int))), isIn (letters ++ digits) d = true := by
  have k1 : ∀ m : Fin 100, (decide ((tl (Str.ofString (toString (m.val : Int)))).length ≤ 2) && (tl (Str.ofString (toString (m.val : Int)))).all (isIn (letters ++ digits))) = true := by decide +kernel
  have := k1 ⟨k, h⟩
  rw [Bool.and_eq_true, List.all_eq_true] at this
  exact ⟨of_decide_eq_true this.1, this.2⟩
end Tb
namespace Tb
open PySem PySem.Spec PyProof.Rows L2
abbrev sFresh : Stmt := topS 29
abbrev NF8 : List Str := ["bag", "known", "letters", "text", "spot", "sign", "size", "k", "base"]
theorem scFresh : FnScope NF8 ["bag", "known"] (defScope sFresh) := ⟨rfl, rfl, rfl, by decide +kernel, rfl, by decide +kernel, by decide +kernel⟩
/-- a list of texts -/
structure Txs (H : Hp) (l : Addr) (ks : List Str) : Prop where
  l : H l = some (.lst (ks.map V.str))
  n : ks.length ≤ 400
  t : ∀ x ∈ ks, Tx x
theorem Txs.off {H : Hp} {l p : Addr} {ks : List Str} (T : Txs H l ks) (B : Bag H p) : l ≠ p := fun e => by
  obtain ⟨n, c, m, ns, hp, _⟩ := B
  have h := T.l
  rw [e, hp] at h
  have e2 : V.int n :: V.int c :: V.int m :: ns.map V.int = ks.map V.str := HO.lst.inj (Option.some.inj h)
  cases ks with
  | nil => cases e2
  | cons k ks => cases e2
theorem Txs.but {H H' : Hp} {l p : Addr} {ks : List Str} (T : Txs H l ks) (B : Bag H p) (h : But p H H') : Txs H' l ks := ⟨h _ _ T.l (T.off B), T.n, T.t⟩
theorem Txs.same {H H' : Hp} {l : Addr} {ks : List Str} (T : Txs H l ks) (h : Same H H') : Txs H' l ks := ⟨h _ _ T.l, T.n, T.t⟩
theorem dp_strs {K : PySem.W.Frag} {H : Hp} : ∀ ks : List Str, DpAll K H (ks.map V.str) (ks.map PyData.str)
  | [] => .nil
  | k :: ks => .cons (.str k) (dp_strs ks)
theorem strOk_sg {z : Str} (h : Sg z) : PySem.PyData.strOk z = true := by
  unfold PySem.PyData.strOk
  rw [Array.all_eq_true']
  intro c hc
  exact decide_eq_true (h c (Array.mem_toList_iff.mpr hc))
theorem lay_strs : ∀ {ks : List Str}, (∀ x ∈ ks, Tx x) → PyData.canLayAll0 (ks.map PyData.str) = true ∧ PyData.depthAll (ks.map PyData.str) ≤ 1
  | [], _ => by simp [PyData.canLayAll0, PyData.depthAll]
  | k :: ks, h => by
    obtain ⟨b1, b2⟩ := lay_strs (ks := ks) fun q hq => h q (List.mem_cons_of_mem _ hq)
    have a1 := strOk_sg (h k List.mem_cons_self).sg
    refine ⟨?_, ?_⟩
    · simp only [List.map_cons, PyData.canLayAll0, PyData.canLay0, a1, b1, Bool.and_true]
    · simp only [List.map_cons, PyData.depthAll, PyData.depth]
      omega
theorem shaped_strs {ks : List Str} (h : ∀ x ∈ ks, Tx x) : SeqAt.shaped (.list (ks.map PyData.str)) = true := by
  obtain ⟨h1, h2⟩ := lay_strs h
  show (PyData.canLay0 (.list (ks.map PyData.str)) && decide (PyData.depth (.list (ks.map PyData.str)) ≤ 64)) = true
  rw [Bool.and_eq_true]
  refine ⟨by simp only [PyData.canLay0]; exact h1, decide_eq_true ?_⟩
  simp only [PyData.depth]
  omega
theorem eqv_nil {ds : List PyData} : PyData.eqv (.list ds) (.list []) = ds.isEmpty := by
  cases ds <;> simp [PyData.eqv, PyData.eqvAll]
theorem flat_strs (ks : List Str) : (ks.map V.str).all flatV = true := by
  rw [List.all_map, List.all_eq_true]
  exact fun _ _ => rfl
/-- draws that leave the rest -/
abbrev Drawn (p : Addr) (H H' : Hp) : Prop := Bag H' p ∧ But p H H'
theorem ifS_via {tc : TT} {t u : TS} {D : Ends} {σ : L2.St} {H : Hp} (R : Bool → Hp → Prop) (h : ∀ Q : Bool → Hp → Prop, (∀ b H1, R b H1 → Q b H1) → tc σ H Q) (k : ∀ b H1, R b H1 → (if b = true then t D σ H1 else u D σ H1)) : tIfS tc t u D σ H := h _ k
theorem at_nat {α : Type} {xs : List α} {i : Int} {v : α} (h0 : 0 ≤ i) (h : xs[i.toNat]? = some v) : atI xs i = some v := by
  have e : i = (i.toNat : Int) := by omega
  rw [e]
  exact atI_nat h
theorem pick {ks : List Str} {i : Int} (h0 : 0 ≤ i) (h1 : i < ((ks.map V.str).length : Int)) : ∃ x ∈ ks, atI (ks.map V.str) i = some (V.str x) := by
  rw [List.length_map] at h1
  have hl : i.toNat < ks.length := by omega
  refine ⟨ks[i.toNat], List.getElem_mem hl, at_nat h0 ?_⟩
  rw [List.getElem?_map, List.getElem?_eq_getElem hl]
  rfl
theorem app_len (a b : Str) : (a ++ b).length = a.length + b.length := by
  rw [len_tl, tl_app, List.length_append, ← len_tl, ← len_tl]
theorem one_len (c : Nat) : (⟨#[c]⟩ : Str).length = 1 := rfl
theorem cut_le (z : Str) (lo hi : Option Int) : (cutS z lo hi).length ≤ z.length := cutS_length z lo hi
def numT (k : Nat) : Str := Str.ofString (toString (k : Int))
theorem num_inj : ((List.range 99).map numT).Nodup := by decide +kernel
theorem sub_len {α : Type} [DecidableEq α] : ∀ (l D : List α), l.Nodup → (∀ x ∈ l, x ∈ D) → l.length ≤ D.length
  | [], _, _, _ => Nat.zero_le _
  | x :: l, D, hn, hs => by
    obtain ⟨h1, h2⟩ := List.nodup_cons.mp hn
    have hx := hs x List.mem_cons_self
    have ih := sub_len l (D.erase x) h2 fun y hy => (List.mem_erase_of_ne fun e => h1 (by rw [← e]; exact hy)).mpr (hs y (List.mem_cons_of_mem _ hy))
    have e := List.length_erase_of_mem hx
    have hp := List.length_pos_of_mem hx
    simp only [List.length_cons]
    omega
theorem app_inj {a b c : Str} (h : a ++ b = a ++ c) : b = c := by
  have e : tl (a ++ b) = tl (a ++ c) := by rw [h]
  rw [tl_app, tl_app] at e
  exact tl_inj (List.append_cancel_left e)
/-- ninety-nine texts on one base -/
theorem pigeon (bs : Str) (ks : List Str) (h : ∀ j, j < 99 → bs ++ numT j ∈ ks) : 99 ≤ ks.length := by
  have nd : (((List.range 99).map numT).map fun x => bs ++ x).Nodup := List.pairwise_map.mpr (List.Pairwise.imp (fun hne e => hne (app_inj e)) num_inj)
  have q := sub_len _ ks nd fun x hx => by
    rw [List.map_map] at hx
    obtain ⟨j, hj, rfl⟩ := List.mem_map.mp hx
    exact h j (List.mem_range.mp hj)
  rw [List.length_map, List.length_map, List.length_range] at q
  exact q
theorem inV_str {z : Str} {ks : List Str} (h : z ∈ ks) : inV (.str z) (ks.map V.str) = true := by
  unfold inV
  rw [List.any_map, List.any_eq_true]
  exact ⟨z, h, by show (z == z) = true; exact beq_self_eq_true z⟩
theorem str_inV {z : Str} {ks : List Str} (h : inV (.str z) (ks.map V.str) = true) : z ∈ ks := by
  unfold inV at h
  rw [List.any_map, List.any_eq_true] at h
  obtain ⟨x, hx, e⟩ := h
  have e2 : (z == x) = true ∨ (x == z) = true := by first | exact .inl e | exact .inr e
  rcases e2 with e2 | e2
  · rw [eq_of_beq e2]; exact hx
  · rw [← eq_of_beq e2]; exact hx
section
variable {P : Program} {w : World} {K : PySem.W.Frag} {mg : Str → Option Value} {base : Heap}
def spFresh : Sp := fun vs H Q _ => ∃ (p l : Addr) (ks : List Str), vs = [.ref p, .ref l] ∧ Bag H p ∧ Txs H l ks ∧ (∀ x ∈ ks, Nm (tl x)) ∧ ∀ (z : Str) (H' : Hp), Nm (tl z) → (ks.length ≤ 90 → z ∉ ks) → Bag H' p → But p H H' → Q (.str z) H'
theorem ok_fresh {f g : Addr} {fd gd : FuncData} (F : Fun K "_law_fresh_name" "_law_fresh_name" sFresh f fd) (D : Dd K mg "_law_draw" sDraw ["bag", "size"] g gd) (B : Blt mg) : FnOk P w K mg base CX0 2 f fd ["bag", "known"] spFresh := by
  have GD : FnOk P w K mg base CX0 1 g gd ["bag", "size"] spDraw := ok_draw D.F B
  refine F.ok scFresh (fun vs H Q E h => ?_) (fun cdv A outer s H vs Q E hr h => ?_)
  · obtain ⟨p, l, ks, rfl, _⟩ := h
    rfl
  · obtain ⟨p, l, ks, rfl, hB, hT, hN, q⟩ := h
    have hz : sizeLine = 16777216 := rfl
    refine ⟨_, pss_cons (ps_set (i := 2) scFresh.nd rfl (.inl rfl) pe_str)
      (C8.pss_cut (ps_if (PW.pt (pw_and (pt_cmpR (op_neD hr.units) (pv 1) (pe_lst pa_nil) (nomark _)) (pw_and1 (pt_cmpR op_eq (pe_call GD hr (by rfl) D.g D.F.kp D.b .nil pass0 (pa_cons (pv 0) (pa_cons pe_int pa_nil))) pe_int (nomark _)))))
        (pss_cons (ps_set (i := 3) scFresh.nd rfl (.inl rfl) (pe_ix ix_list (pv 1) (pe_call GD hr (by rfl) D.g D.F.kp D.b .nil pass0 (pa_cons (pv 0) (pa_cons (pe_callB call_len_seq (by rfl) B.len PySem.boot_len (pa_cons (pv 1) pa_nil)) pa_nil))) (fun _ _ => rfl)))
        (pss_cons (ps_set (i := 4) scFresh.nd rfl (.inl rfl) (pe_call GD hr (by rfl) D.g D.F.kp D.b .nil pass0 (pa_cons (pv 0) (pa_cons (pe_callB call_len_str (by rfl) B.len PySem.boot_len (pa_cons (pv 3) pa_nil)) pa_nil))))
        (pss_cons (ps_set (i := 5) scFresh.nd rfl (.inl rfl) (pe_item_str (pv 2) (pe_call GD hr (by rfl) D.g D.F.kp D.b .nil pass0 (pa_cons (pv 0) (pa_cons (pe_op op_add pe_int (pe_op op_mul pe_int (pe_callTy call_int1 (by rfl) B.int PyProof.Rows.boot_int (pa_cons (pe_cmpR op_gt (pv 4) pe_int (nomark _)) pa_nil)))) pa_nil))) (fun _ _ => rfl)))
        (pss_one (ps_set (i := 3) scFresh.nd rfl (.inl rfl) (pe_op op_add_str (pe_op op_add_str (pe_slice sl_str (pv 3) po_none (po_some (pv 4))) (pv 5)) (pe_slice sl_str (pv 3) (po_some (pe_op op_add (pv 4) pe_int)) po_none)))))))
        (pss_cons (ps_set (i := 6) scFresh.nd rfl (.inl rfl) (pe_op op_add pe_int (pe_call GD hr (by rfl) D.g D.F.kp D.b .nil pass0 (pa_cons (pv 0) (pa_cons pe_int pa_nil)))))
        (C8.pss_cut (ps_if (pt_cmpR op_eq (pe_call GD hr (by rfl) D.g D.F.kp D.b .nil pass0 (pa_cons (pv 0) (pa_cons pe_int pa_nil))) pe_int (nomark _)) (pss_one (ps_set (i := 6) scFresh.nd rfl (.inl rfl) (pe_op op_add pe_int (pe_call GD hr (by rfl) D.g D.F.kp D.b .nil pass0 (pa_cons (pv 0) (pa_cons pe_int pa_nil)))))) pss_nil)
        (pss_cons (ps_set (i := 3) scFresh.nd rfl (.inl rfl) (pe_item_str (pv 2) (pe_call GD hr (by rfl) D.g D.F.kp D.b .nil pass0 (pa_cons (pv 0) (pa_cons pe_int pa_nil))) (fun _ _ => rfl)))
        (pss_one (ps_for PassesOwn.never rfl (pi_range1 (by rfl) B.range (pa_cons (pe_op op_sub (pv 6) pe_int) pa_nil)) (pg_name (i := 7) scFresh.nd rfl (.inl rfl)) (pss_one (ps_set (i := 3) scFresh.nd rfl (.inl rfl) (pe_op op_add_str (pv 3) (pe_item_str (pv 2) (pe_call GD hr (by rfl) D.g D.F.kp D.b .nil pass0 (pa_cons (pv 0) (pa_cons pe_int pa_nil))) (fun _ _ => rfl)))))))))))
      (pss_cons (ps_set (i := 8) scFresh.nd rfl (.inl rfl) (pe_slice sl_str (pv 3) po_none (po_some pe_int)))
      (pss_cons (ps_for PassesOwn.never rfl (pi_range1 (by rfl) B.range (pa_cons pe_int pa_nil)) (pg_name (i := 7) scFresh.nd rfl (.inl rfl))
        (pss_cons (ps_if (pt_cmpR op_notIn_seq (pv 3) (pv 1) (by rfl)) (pss_one ps_break) pss_nil)
        (pss_one (ps_set (i := 3) scFresh.nd rfl (.inl rfl) (pe_op op_add_str (pv 8) (pe_callTy call_str_int (by rfl) B.str PyProof.Rows.boot_str (pa_cons (pv 7) pa_nil)))))))
      (pss_one (ps_ret (pv 3)))))), ?_⟩
    refine ⟨fun σ' H' => ∃ (t : Str) (y4 y5 y6 y7 : Option V), σ' = [some (.ref p), some (.ref l), some (.str LD), some (.str t), y4, y5, y6, y7, none] ∧ Nm (tl t) ∧ Bag H' p ∧ But p H H', ?_, ?_⟩
    · refine ifS_via (fun b H1 => Bag H1 p ∧ But p H H1 ∧ (b = true → ks ≠ [])) (fun Q hQ => ?_) (fun b H1 hR => ?_)
      · refine ⟨.ref l, rfl, by decide, fun e ne => ⟨_, _, .lst (sqOf (same_upd ne _ _ hT.l)) (dp_strs ks), .lst (sqOf upd_same) .nil, shaped_strs hT.t, by decide, _, rfl, ?_⟩⟩
        rw [eqv_nil]
        cases ks with
        | nil => exact hQ _ _ ⟨hB.same (same_upd ne), Same.but (same_upd ne), fun z => by cases z⟩
        | cons x xs =>
          refine ⟨.ref p, rfl, p, 2, rfl, hB.same (same_upd ne), by decide, by decide, fun i H2 i0 i1 B2 b2 => ⟨rfl, _, rfl, ?_⟩⟩
          exact hQ _ _ ⟨B2, (Same.but (same_upd ne)).trans b2, fun _ => by simp⟩
      · obtain ⟨B1, b1, hne⟩ := hR
        have T1 := hT.but hB b1
        cases b with
        | true =>
          have kpos : 0 < ks.length := List.length_pos_iff.mpr (hne rfl)
          refine ⟨.ref l, rfl, .ref p, rfl, .ref l, rfl, l, _, rfl, .inl (sqOf T1.l), p, _, rfl, B1, by rw [List.length_map]; omega, by rw [List.length_map]; have := hT.n; omega, fun i H2 i0 i1 B2 b2 => ?_⟩
          obtain ⟨t, ht, et⟩ := pick i0 i1
          have N := hN t ht
          have tpos := nm_pos N
          have tmax := N.1
          have el : t.length = (tl t).length := len_tl t
          refine ⟨l, _, i, .str t, rfl, rfl, sqOf (T1.but B1 b2).l, et, ?_⟩
          refine ⟨.ref p, rfl, .str t, rfl, t, rfl, by omega, p, _, rfl, B2, by omega, by omega, fun s H3 s0 s1 B3 b3 => ?_⟩
          obtain ⟨s, rfl⟩ : ∃ k : Nat, s = (k : Int) := ⟨s.toNat, by omega⟩
          refine ⟨_, rfl, .ref p, rfl, .int (s : Int), rfl, (s : Int), 0, rfl, rfl, .inr ⟨_, rfl, 10, _, rfl, rfl, .inl ⟨by decide, by decide⟩, 26, _, rfl, rfl, ?_⟩⟩
          have lim : ∀ b : Bool, b = decide ((0 : Int) < (s : Int)) → (26 : Int) + 10 * (if b = true then 1 else 0) ≤ 36 ∧ 26 ≤ (26 : Int) + 10 * (if b = true then 1 else 0) ∧ (s = 0 → (26 : Int) + 10 * (if b = true then 1 else 0) = 26) := by
            intro b hb
            cases b with
            | true =>
              have := of_decide_eq_true hb.symm
              rw [if_pos rfl]
              omega
            | false => rw [if_neg Bool.false_ne_true]; omega
          obtain ⟨lm, h36, lim⟩ : ∃ lm, (26 : Int) + 10 * (if decide ((0 : Int) < (s : Int)) = true then 1 else 0) = lm ∧ lm ≤ 36 ∧ 26 ≤ lm ∧ (s = 0 → lm = 26) := ⟨_, rfl, lim _ rfl⟩
          refine ⟨p, lm, congrArg (fun z => [V.ref p, V.int z]) h36, B3, by omega, by omega, fun j H4 j0 j1 B4 b4 => ?_⟩
          have hz36 := ld_len
          obtain ⟨c, ec⟩ := at_sign (z := LD) (i := j) (by omega) j0
          refine ⟨LD, j, c, rfl, rfl, j0, by omega, by omega, ec, ?_⟩
          have l1 := cut_le t none (some (s : Int))
          have l2 := cut_le t (some ((s : Int) + 1)) none
          refine ⟨.str t, rfl, .int (s : Int), rfl, (s : Int), rfl, t, rfl, by omega, .str ⟨#[c]⟩, rfl, _, _, rfl, rfl, by rw [one_len]; omega, .str t, rfl, .int (s : Int), rfl, (s : Int), 1, rfl, rfl, (s : Int) + 1, rfl, t, rfl, by omega, _, _, rfl, rfl, by rw [app_len, one_len]; omega, ?_⟩
          refine ⟨_, _, _, _, _, rfl, ?_, B4, ((b1.trans b2).trans b3).trans b4⟩
          rw [rep_tl]
          exact nm_rep N (by omega) (ld_any ec) (fun z => ld_lo ec (by have := lim.2.2 z; omega))
        | false =>
          refine ⟨.ref p, rfl, p, 3, rfl, B1, by decide, by decide, fun i H2 i0 i1 B2 b2 => ⟨1, i, rfl, rfl, ?_⟩⟩
          refine ⟨fun σ' H' => ∃ (n : Int), σ' = [some (.ref p), some (.ref l), some (.str LD), none, none, none, some (.int n), none, none] ∧ 1 ≤ n ∧ n ≤ 12 ∧ Bag H' p ∧ But p H H', ?_, ?_⟩
          · refine ⟨.ref p, rfl, p, 4, rfl, B2, by decide, by decide, fun j H3 j0 j1 B3 b3 => ⟨rfl, _, rfl, ite2 (fun e => ?_) (fun e => ?_)⟩⟩
            · refine ⟨.ref p, rfl, p, 12, rfl, B3, by decide, by decide, fun k H4 k0 k1 B4 b4 => ⟨1, k, rfl, rfl, ?_⟩⟩
              exact ⟨1 + k, rfl, by omega, by omega, B4, ((b1.trans b2).trans b3).trans b4⟩
            · exact ⟨1 + i, rfl, by omega, by omega, B3, (b1.trans b2).trans b3⟩
          · rintro σ' H3 ⟨n, rfl, n1, n2, B3, b3⟩
            have hz36 := ld_len
            refine ⟨_, rfl, .ref p, rfl, p, 26, rfl, B3, by decide, by decide, fun j H4 j0 j1 B4 b4 => ?_⟩
            obtain ⟨c, ec⟩ := at_sign (z := LD) (i := j) (by omega) j0
            refine ⟨LD, j, c, rfl, rfl, j0, by omega, by omega, ec, ?_⟩
            refine ⟨.int n, rfl, n, 1, rfl, rfl, n - 1, rfl, by omega, by omega, ?_⟩
            refine for_it (walk_range (lo := 0) (n := (n - 1).toNat)) (fun i σ H' => ∃ (t : Str) (y7 : Option V), σ = [some (.ref p), some (.ref l), some (.str LD), some (.str t), none, none, some (.int n), y7, none] ∧ Nm (tl t) ∧ (tl t).length = i + 1 ∧ Bag H' p ∧ But p H H')
              ⟨_, none, rfl, ⟨by show 1 ≤ 12; decide, fun d hd => ?_, c, rfl, ld_lo ec (by omega)⟩, rfl, B4, b3.trans b4⟩ (fun _ _ _ _ _ => trivial) (fun i x σ H5 H6 hi hP hy => ?_) (fun σ H5 hP => ?_)
            · rw [show d = c from List.mem_singleton.mp hd]
              exact ld_any ec
            · obtain ⟨t, y7, rfl, N, tn, B5, b5⟩ := hP
              obtain ⟨rfl, rfl⟩ := hy
              refine ⟨.str t, rfl, _, rfl, .ref p, rfl, p, 36, rfl, B5, by decide, by decide, fun j H7 j0 j1 B7 b7 => ?_⟩
              obtain ⟨c2, ec2⟩ := at_sign (z := LD) (i := j) (by omega) j0
              have el : t.length = (tl t).length := len_tl t
              refine ⟨LD, j, c2, rfl, rfl, j0, by omega, by omega, ec2, t, _, rfl, rfl, by rw [one_len]; omega, ?_⟩
              refine ⟨t ++ ⟨#[c2]⟩, _, rfl, ?_, ?_, B7, b5.trans b7⟩
              · rw [tl_app]
                refine nm_app N (fun d hd => ?_) (by rw [tl_one, List.length_singleton]; omega)
                rw [show d = c2 from List.mem_singleton.mp hd]
                exact ld_any ec2
              · rw [tl_app, List.length_append, tn]
                rfl
            · obtain ⟨t, y7, rfl, N, tn, B5, b5⟩ := hP
              exact ⟨t, _, _, _, _, rfl, N, B5, b5⟩
    · rintro σ' H1 ⟨t, y4, y5, y6, y7, rfl, N, B1, b1⟩
      have el : t.length = (tl t).length := len_tl t
      have tmax := N.1
      have T1 := hT.but hB b1
      refine ⟨.str t, rfl, 10, rfl, t, rfl, by omega, ?_⟩
      have Nb : Nm (tl (cutS t none (some 10))) := by
        rw [show (10 : Int) = ((10 : Nat) : Int) from rfl, tl_hi]
        exact nm_take N (by decide)
      have Lb : (tl (cutS t none (some 10))).length ≤ 10 := by
        rw [show (10 : Int) = ((10 : Nat) : Int) from rfl, tl_hi, List.length_take]
        omega
      have elb : (cutS t none (some 10)).length = (tl (cutS t none (some 10))).length := len_tl _
      generalize cutS t none (some 10) = bs at Nb Lb elb
      refine ⟨100, rfl, by decide, by decide, ?_⟩
      refine for_it (walk_range (lo := 0) (n := (100 : Int).toNat)) (fun i σ H' => ∃ (t : Str) (y7 : Option V), σ = [some (.ref p), some (.ref l), some (.str LD), some (.str t), y4, y5, y6, y7, some (.str bs)] ∧ Nm (tl t) ∧ H' = H1 ∧ (0 < i → t = bs ++ numT (i - 1)) ∧ ∀ j, j + 1 < i → bs ++ numT j ∈ ks)
        ⟨t, y7, rfl, N, rfl, fun h => absurd h (Nat.lt_irrefl 0), fun j h => absurd h (Nat.not_lt_zero _)⟩ (fun _ _ _ _ _ => trivial) (fun i x σ H5 H6 hi hP hy => ?_) (fun σ H5 hP => ?_)
      · obtain ⟨t, y7, rfl, N, rfl, et, al⟩ := hP
        obtain ⟨rfl, ex⟩ := hy
        have ex2 : x = .int (i : Int) := by
          rw [ex]
          show V.int (0 + (i : Int)) = _
          rw [Int.zero_add]
        subst ex2
        refine ⟨.str t, rfl, .ref l, rfl, l, _, rfl, .inl (sqOf T1.l), rfl, flat_strs ks, _, rfl, ite2 (fun e => ?_) (fun e => ?_)⟩
        · have e : inV (.str t) (ks.map V.str) = false := by simpa using e
          refine ⟨.str t, rfl, q t _ N (fun _ => fun m => ?_) B1 b1⟩
          rw [inV_str m] at e
          cases e
        · have hi : i < 100 := hi
          have n100 := num100 hi
          have tin : t ∈ ks := str_inV (by simpa using e)
          refine ⟨.str bs, rfl, .int (i : Int), rfl, (i : Int), rfl, ?_, _, _, rfl, rfl, ?_, ?_⟩
          · show (i : Int).natAbs.log2 < 1920
            exact Nat.lt_of_le_of_lt (Nat.log2_le_self _) (by omega)
          · rw [len_tl (Str.ofString (toString (i : Int)))]
            omega
          · refine ⟨bs ++ Str.ofString (toString (i : Int)), _, rfl, ?_, rfl, fun _ => rfl, fun j hj => ?_⟩
            · rw [tl_app]
              exact nm_app Nb n100.2 (by omega)
            · by_cases c : j + 1 < i
              · exact al j c
              · have e2 : j = i - 1 := by omega
                rw [e2, ← et (by omega)]
                exact tin
      · obtain ⟨t, y7, rfl, N, rfl, et, al⟩ := hP
        refine ⟨.str t, rfl, q t _ N (fun h90 => absurd (pigeon bs ks fun j hj => al j (by show j + 1 < 100; omega)) (by omega)) B1 b1⟩
end
end Tb
namespace Tb
open PySem PySem.Spec PyProof.Rows L2
abbrev sPrefix : Stmt := topS 30
abbrev NPf : List Str := ["bag", "known", "digits", "kind", "text", "spot", "sign", "size", "k"]
theorem scPrefix : FnScope NPf ["bag", "known"] (defScope sPrefix) := ⟨rfl, rfl, rfl, by decide +kernel, rfl, by decide +kernel, by decide +kernel⟩
theorem ad_take {l : List Nat} (h : Ad l) {k : Nat} (hk : 0 < k) : Ad (l.take k) := by
  obtain ⟨h1, h2, h3⟩ := h
  exact ⟨by rw [List.length_take]; omega, by rw [List.length_take]; omega, fun e he => h3 e (List.mem_of_mem_take he)⟩
theorem seqIf_via {tc : TT} {t u v : TS} {D : Ends} {σ : L2.St} {H : Hp} (R : Bool → Hp → Prop) (h : ∀ Q : Bool → Hp → Prop, (∀ b H1, R b H1 → Q b H1) → tc σ H Q) (k : ∀ b H1, R b H1 → (if b = true then t { D with nx := v D } σ H1 else u { D with nx := v D } σ H1)) : tSeq (tIfS tc t u) v D σ H := h _ k
section
variable {P : Program} {w : World} {K : PySem.W.Frag} {mg : Str → Option Value} {base : Heap}
def spPrefix : Sp := fun vs H Q _ => ∃ (p l : Addr) (ks : List Str), vs = [.ref p, .ref l] ∧ Bag H p ∧ Txs H l ks ∧ (∀ x ∈ ks, Ad (tl x)) ∧ ∀ (z : Str) (H' : Hp), Ad (tl z) → Bag H' p → But p H H' → Q (.str z) H'
theorem ok_prefix {f g : Addr} {fd gd : FuncData} (F : Fun K "_law_prefix" "_law_prefix" sPrefix f fd) (D : Dd K mg "_law_draw" sDraw ["bag", "size"] g gd) (B : Blt mg) : FnOk P w K mg base CX0 2 f fd ["bag", "known"] spPrefix := by
  have GD : FnOk P w K mg base CX0 1 g gd ["bag", "size"] spDraw := ok_draw D.F B
  refine F.ok scPrefix (fun vs H Q E h => ?_) (fun cdv A outer s H vs Q E hr h => ?_)
  · obtain ⟨p, l, ks, rfl, _⟩ := h
    rfl
  · obtain ⟨p, l, ks, rfl, hB, hT, hN, q⟩ := h
    have hz : sizeLine = 16777216 := rfl
    refine ⟨_, pss_cons (ps_set (i := 2) scPrefix.nd rfl (.inl rfl) pe_str)
      (C8.pss_cut (ps_set (i := 3) scPrefix.nd rfl (.inl rfl) (pe_call GD hr (by rfl) D.g D.F.kp D.b .nil pass0 (pa_cons (pv 0) (pa_cons pe_int pa_nil))))
      (pss_cons (ps_if (PW.pt (pw_and (pt_cmpR (op_neD hr.units) (pv 1) (pe_lst pa_nil) (nomark _)) (pw_and1 (pt_cmpR op_lt (pv 3) pe_int (nomark _)))))
        (pss_cons (ps_set (i := 4) scPrefix.nd rfl (.inl rfl) (pe_ix ix_list (pv 1) (pe_call GD hr (by rfl) D.g D.F.kp D.b .nil pass0 (pa_cons (pv 0) (pa_cons (pe_callB call_len_seq (by rfl) B.len PySem.boot_len (pa_cons (pv 1) pa_nil)) pa_nil))) (fun _ _ => rfl)))
        (pss_cons (ps_set (i := 5) scPrefix.nd rfl (.inl rfl) (pe_call GD hr (by rfl) D.g D.F.kp D.b .nil pass0 (pa_cons (pv 0) (pa_cons (pe_callB call_len_str (by rfl) B.len PySem.boot_len (pa_cons (pv 4) pa_nil)) pa_nil))))
        (pss_cons (ps_set (i := 6) scPrefix.nd rfl (.inl rfl) (pe_item_str (pv 2) (pe_call GD hr (by rfl) D.g D.F.kp D.b .nil pass0 (pa_cons (pv 0) (pa_cons pe_int pa_nil))) (fun _ _ => rfl)))
        (pss_cons (ps_if (pt_cmpR op_eq (pv 3) pe_int (nomark _)) (pss_one (ps_ret (pe_slice sl_str (pv 4) po_none (po_some (pe_op op_add (pv 5) pe_int))))) pss_nil)
        (pss_cons (ps_if (pt_cmpR op_eq (pv 3) pe_int (nomark _)) (pss_one (ps_ret (pe_op op_add_str (pe_op op_add_str (pe_slice sl_str (pv 4) po_none (po_some (pv 5))) (pv 6)) (pe_slice sl_str (pv 4) (po_some (pe_op op_add (pv 5) pe_int)) po_none)))) pss_nil)
        (pss_one (ps_ret (pe_op op_add_str (pe_slice sl_str (pv 4) po_none (po_some pe_int)) (pv 6))))))))) pss_nil)
      (pss_cons (ps_set (i := 7) scPrefix.nd rfl (.inl rfl) (pe_op op_add pe_int (pe_call GD hr (by rfl) D.g D.F.kp D.b .nil pass0 (pa_cons (pv 0) (pa_cons pe_int pa_nil)))))
      (C8.pss_cut (ps_if (pt_cmpR op_eq (pe_call GD hr (by rfl) D.g D.F.kp D.b .nil pass0 (pa_cons (pv 0) (pa_cons pe_int pa_nil))) pe_int (nomark _)) (pss_one (ps_set (i := 7) scPrefix.nd rfl (.inl rfl) (pe_op op_add pe_int (pe_call GD hr (by rfl) D.g D.F.kp D.b .nil pass0 (pa_cons (pv 0) (pa_cons pe_int pa_nil)))))) pss_nil)
      (pss_cons (ps_set (i := 4) scPrefix.nd rfl (.inl rfl) pe_str)
      (pss_cons (ps_for PassesOwn.never rfl (pi_range1 (by rfl) B.range (pa_cons (pv 7) pa_nil)) (pg_name (i := 8) scPrefix.nd rfl (.inl rfl)) (pss_one (ps_set (i := 4) scPrefix.nd rfl (.inl rfl) (pe_op op_add_str (pv 4) (pe_item_str (pv 2) (pe_call GD hr (by rfl) D.g D.F.kp D.b .nil pass0 (pa_cons (pv 0) (pa_cons pe_int pa_nil))) (fun _ _ => rfl))))))
      (pss_one (ps_ret (pv 4))))))))), ?_⟩
    refine ⟨fun σ' H' => ∃ kd : Int, σ' = [some (.ref p), some (.ref l), some (.str digits), some (.int kd), none, none, none, none, none] ∧ Bag H' p ∧ But p H H', ?_, ?_⟩
    · exact ⟨.ref p, rfl, p, 5, rfl, hB, by decide, by decide, fun kd H1 kd0 kd1 B1 b1 => ⟨kd, rfl, B1, b1⟩⟩
    rintro σ' H1 ⟨kd, rfl, B1, b1⟩
    have T1 := hT.but hB b1
    have hz10 := dg_len
    refine seqIf_via (fun b H2 => Bag H2 p ∧ But p H H2 ∧ (b = true → ks ≠ [])) (fun Q hQ => ?_) (fun b H2 hR => ?_)
    · refine ⟨.ref l, rfl, by decide, fun e ne => ⟨_, _, .lst (sqOf (same_upd ne _ _ T1.l)) (dp_strs ks), .lst (sqOf upd_same) .nil, shaped_strs hT.t, by decide, _, rfl, ?_⟩⟩
      rw [eqv_nil]
      cases ks with
      | nil => exact hQ _ _ ⟨B1.same (same_upd ne), b1.trans (Same.but (same_upd ne)), fun z => by cases z⟩
      | cons x xs =>
        refine ⟨.int kd, rfl, kd, 4, rfl, rfl, _, rfl, ?_⟩
        exact hQ _ _ ⟨B1.same (same_upd ne), b1.trans (Same.but (same_upd ne)), fun _ => by simp⟩
    · obtain ⟨B2, b2, hne⟩ := hR
      have T2 := hT.but hB b2
      cases b with
      | true =>
        have kpos : 0 < ks.length := List.length_pos_iff.mpr (hne rfl)
        refine ⟨.ref l, rfl, .ref p, rfl, .ref l, rfl, l, _, rfl, .inl (sqOf T2.l), p, _, rfl, B2, by rw [List.length_map]; omega, by rw [List.length_map]; have := hT.n; omega, fun i H3 i0 i1 B3 b3 => ?_⟩
        obtain ⟨t, ht, et⟩ := pick i0 i1
        have N := hN t ht
        obtain ⟨tpos, tmax, _⟩ := id N
        have el : t.length = (tl t).length := len_tl t
        refine ⟨l, _, i, .str t, rfl, rfl, sqOf (T2.but B2 b3).l, et, ?_⟩
        refine ⟨.ref p, rfl, .str t, rfl, t, rfl, by omega, p, _, rfl, B3, by omega, by omega, fun s H4 s0 s1 B4 b4 => ?_⟩
        obtain ⟨s, rfl⟩ : ∃ k : Nat, s = (k : Int) := ⟨s.toNat, by omega⟩
        refine ⟨_, rfl, .ref p, rfl, p, 10, rfl, B4, by decide, by decide, fun j H5 j0 j1 B5 b5 => ?_⟩
        obtain ⟨c, ec⟩ := at_sign (z := digits) (i := j) (by omega) j0
        have b5' := ((b2.trans b3).trans b4).trans b5
        refine ⟨digits, j, c, rfl, rfl, j0, by omega, by omega, ec, ?_⟩
        have l1 := cut_le t none (some (s : Int))
        have l2 := cut_le t (some ((s : Int) + 1)) none
        have l3 := cut_le t none (some 7)
        refine ⟨.int kd, rfl, rfl, _, rfl, ite2 (fun e1 => ?_) (fun e1 => ?_)⟩
        · refine ⟨.str t, rfl, .int (s : Int), rfl, (s : Int), 1, rfl, rfl, (s : Int) + 1, rfl, t, rfl, by omega, q _ _ ?_ B5 b5'⟩
          rw [show ((s : Int) + 1) = ((s + 1 : Nat) : Int) from rfl, tl_hi]
          exact ad_take N (Nat.succ_pos _)
        · refine ⟨.int kd, rfl, rfl, _, rfl, ite2 (fun e2 => ?_) (fun e2 => ?_)⟩
          · refine ⟨.str t, rfl, .int (s : Int), rfl, (s : Int), rfl, t, rfl, by omega, .str ⟨#[c]⟩, rfl, _, _, rfl, rfl, by rw [one_len]; omega, .str t, rfl, .int (s : Int), rfl, (s : Int), 1, rfl, rfl, (s : Int) + 1, rfl, t, rfl, by omega, _, _, rfl, rfl, by rw [app_len, one_len]; omega, q _ _ ?_ B5 b5'⟩
            rw [rep_tl]
            exact ad_rep N (by omega) (dg_any ec)
          · refine ⟨.str t, rfl, 7, rfl, t, rfl, by omega, .str ⟨#[c]⟩, rfl, _, _, rfl, rfl, by rw [one_len]; omega, q _ _ ?_ B5 b5'⟩
            rw [tl_app, show (7 : Int) = ((7 : Nat) : Int) from rfl, tl_hi, tl_one]
            obtain ⟨n1, n2, n3⟩ := N
            refine ⟨by rw [List.length_append, List.length_singleton]; omega, by rw [List.length_append, List.length_take, List.length_singleton]; omega, fun d hd => ?_⟩
            rcases List.mem_append.mp hd with hd | hd
            · exact n3 d (List.mem_of_mem_take hd)
            · rw [List.mem_singleton.mp hd]
              exact dg_any ec
      | false =>
        refine ⟨.ref p, rfl, p, 2, rfl, B2, by decide, by decide, fun i H3 i0 i1 B3 b3 => ⟨1, i, rfl, rfl, ?_⟩⟩
        refine ⟨fun σ' H' => ∃ (n : Int), σ' = [some (.ref p), some (.ref l), some (.str digits), some (.int kd), none, none, none, some (.int n), none] ∧ 1 ≤ n ∧ n ≤ 8 ∧ Bag H' p ∧ But p H H', ?_, ?_⟩
        · refine ⟨.ref p, rfl, p, 4, rfl, B3, by decide, by decide, fun j H4 j0 j1 B4 b4 => ⟨rfl, _, rfl, ite2 (fun e => ?_) (fun e => ?_)⟩⟩
          · refine ⟨.ref p, rfl, p, 8, rfl, B4, by decide, by decide, fun k H5 k0 k1 B5 b5 => ⟨1, k, rfl, rfl, ?_⟩⟩
            exact ⟨1 + k, rfl, by omega, by omega, B5, ((b2.trans b3).trans b4).trans b5⟩
          · exact ⟨1 + i, rfl, by omega, by omega, B4, (b2.trans b3).trans b4⟩
        · rintro σ' H4 ⟨n, rfl, n1, n2, B4, b4⟩
          refine ⟨.int n, rfl, n, rfl, by omega, by omega, ?_⟩
          refine for_it (walk_range (lo := 0) (n := n.toNat)) (fun i σ H' => ∃ (t : Str) (y8 : Option V), σ = [some (.ref p), some (.ref l), some (.str digits), some (.int kd), some (.str t), none, none, some (.int n), y8] ∧ (∀ d ∈ tl t, isIn digits d = true) ∧ (tl t).length = i ∧ Bag H' p ∧ But p H H')
            ⟨_, none, rfl, (fun d hd => by cases hd), rfl, B4, b4⟩ (fun _ _ _ _ _ => trivial) (fun i x σ H5 H6 hi hP hy => ?_) (fun σ H5 hP => ?_)
          · obtain ⟨t, y8, rfl, N, tn, B5, b5⟩ := hP
            obtain ⟨rfl, rfl⟩ := hy
            refine ⟨.str t, rfl, _, rfl, .ref p, rfl, p, 10, rfl, B5, by decide, by decide, fun j H7 j0 j1 B7 b7 => ?_⟩
            obtain ⟨c2, ec2⟩ := at_sign (z := digits) (i := j) (by omega) j0
            have el : t.length = (tl t).length := len_tl t
            refine ⟨digits, j, c2, rfl, rfl, j0, by omega, by omega, ec2, t, _, rfl, rfl, by rw [one_len]; omega, ?_⟩
            refine ⟨t ++ ⟨#[c2]⟩, _, rfl, fun d hd => ?_, ?_, B7, b5.trans b7⟩
            · rw [tl_app] at hd
              rcases List.mem_append.mp hd with hd | hd
              · exact N d hd
              · rw [show d = c2 from List.mem_singleton.mp hd]
                exact dg_any ec2
            · rw [tl_app, List.length_append, tn]
              rfl
          · obtain ⟨t, y8, rfl, N, tn, B5, b5⟩ := hP
            exact ⟨.str t, rfl, q t _ ⟨by omega, by omega, N⟩ B5 b5⟩
end
end Tb
namespace Tb
open PySem PySem.Spec PyProof.Rows L2
abbrev sLLane : Stmt := topS 31
abbrev sLAfter : Stmt := topS 32
theorem scLLane : FnScope ["own", "address", "size"] ["own", "address"] (defScope sLLane) := ⟨rfl, rfl, rfl, by decide +kernel, rfl, by decide +kernel, by decide +kernel⟩
theorem scLAfter : FnScope ["own", "prefix", "way", "found", "one"] ["own", "prefix", "way"] (defScope sLAfter) := ⟨rfl, rfl, rfl, by decide +kernel, rfl, by decide +kernel, by decide +kernel⟩
/-- a text in, a bool out, the heap as it was -/
def spT0 (g : Str → Bool) : Sp := fun vs H Q _ => ∃ (t : Str), vs = [.str t] ∧ t.length ≤ 1000 ∧ Q (.bl (g t)) H
theorem isAddr_no {t : Str} (h : ¬ Ad (tl t)) : isAddr t = false := by
  cases e : isAddr t with
  | false => rfl
  | true => exact absurd ((isAddr_iff t).mp e) h
theorem isName_no {t : Str} (h : ¬ Nm (tl t)) : isName t = false := by
  cases e : isName t with
  | false => rfl
  | true => exact absurd ((isName_iff t).mp e) h
theorem ld_eq : LD = letters ++ digits := tl_inj (by decide +kernel)
theorem let_dig {c : Nat} (h : isIn (letters ++ digits) c = true) : isIn letters c = !isIn digits c := by
  have hm : c ∈ tl (letters ++ digits) := of_decide_eq_true h
  have k : (tl (letters ++ digits)).all (fun c => isIn letters c == !isIn digits c) = true := by decide +kernel
  exact eq_of_beq (List.all_eq_true.mp k c hm)
section
variable {P : Program} {w : World} {K : PySem.W.Frag} {mg : Str → Option Value} {base : Heap}
/-- the law's own lane -/
theorem ok_llane {f : Addr} {fd : FuncData} {k : Nat} (F : Fun K "_law_lane" "_law_lane" sLLane f fd) (B : Blt mg) : FnOk P w K mg base CX0 (k + 1) f fd ["own", "address"] (spDA laneV) := by
  refine F.ok scLLane (fun vs H Q E h => ?_) (fun cdv A outer s H vs Q E hr h => ?_)
  · obtain ⟨d, kvs, a, rfl, _⟩ := h
    rfl
  · obtain ⟨d, kvs, a, rfl, hd, hl, q⟩ := h
    have hu := hu_of hr
    refine ⟨_, pss_cons (ps_for PassesOwn.never rfl (pi_range3 (by rfl) B.range (pa_cons (pe_callB call_len_str (by rfl) B.len PySem.boot_len (pa_cons (pv 1) pa_nil)) (pa_cons pe_int (pa_cons (pe_un un_neg pe_int) pa_nil)))) (pg_name (i := 2) scLLane.nd rfl (.inl rfl))
        (pss_one (ps_if (pt_cmp (pc_din hu (pe_slice sl_str (pv 1) po_none (po_some (pv 2))) (pv 0))) (pss_one (ps_ret (pe_dget hu (pv 0) (pe_slice sl_str (pv 1) po_none (po_some (pv 2))) (fun _ _ => rfl)))) pss_nil)))
      (pss_one (ps_ret pe_non)), ?_⟩
    have hz : sizeLine = 16777216 := rfl
    refine ⟨.str a, rfl, a, rfl, by omega, 1, rfl, (a.length : Int), 0, -1, ((a.length : Int) - 0).toNat, rfl, RgC.neg (by omega) (by omega) (by omega) (by omega), ?_⟩
    refine for_rangeC (lo := (a.length : Int)) (c := -1) (n := ((a.length : Int) - 0).toNat) (fun i σ H' => ∃ y, σ = [some (.ref d), some (.str a), y] ∧ H' = H ∧ long kvs a = lp kvs a (a.length - i)) ⟨none, rfl, rfl, rfl⟩ ?_ ?_
    · rintro i σ H' hi ⟨y, rfl, rfl, e⟩
      have hi' : i < a.length := by omega
      have ei : (a.length : Int) + (i : Int) * -1 = ((a.length - i : Nat) : Int) := by omega
      rw [ei]
      refine ⟨.str a, rfl, .int ((a.length - i : Nat) : Int), rfl, ((a.length - i : Nat) : Int), rfl, a, rfl, by omega, .ref d, rfl, d, _, rfl, DGet.k (k := Sum.inr (pre a (a.length - i))) hd, ?_⟩
      obtain ⟨m, em⟩ : ∃ m, a.length - i = m + 1 := ⟨a.length - i - 1, by omega⟩
      by_cases c : (valV kvs (Sum.inr (pre a (a.length - i)))).isSome = true
      · refine ⟨_, rfl, ?_⟩
        rw [c]
        obtain ⟨v, ev⟩ := Option.isSome_iff_exists.mp c
        refine ⟨.ref d, rfl, .str a, rfl, .int ((a.length - i : Nat) : Int), rfl, ((a.length - i : Nat) : Int), rfl, a, rfl, by omega, d, v, rfl, ?_, ?_⟩
        · rw [← ev]
          exact DGet.k (k := Sum.inr (pre a (a.length - i))) hd
        · have : long kvs a = some (pre a (a.length - i)) := by
            rw [e, em]
            unfold lp
            rw [← em, if_pos c]
          have q : Q (laneV kvs a) H' := q
          unfold laneV at q
          rw [this] at q
          have q : Q ((valV kvs (Sum.inr (pre a (a.length - i)))).getD .non) H' := q
          rw [ev] at q
          exact q
      · refine ⟨_, rfl, ?_⟩
        rw [Bool.eq_false_iff.mpr c]
        refine ⟨_, rfl, rfl, ?_⟩
        rw [e, em]
        show (if (valV kvs (Sum.inr (pre a (m + 1)))).isSome = true then some (pre a (m + 1)) else lp kvs a m) = _
        rw [← em, if_neg c, show a.length - (i + 1) = m by omega]
    · rintro σ H' ⟨y, rfl, rfl, e⟩
      rw [show a.length - ((a.length : Int) - 0).toNat = 0 by omega] at e
      have q : Q (laneV kvs a) H' := q
      unfold laneV at q
      rw [e] at q
      exact q
end
end Tb
namespace Tb
open PySem PySem.Spec PyProof.Rows L2
/-- what the loop keeps -/
def flt (p : Str) (o : Option Str) (q : Pr) : Bool := decide (q.1 ≠ p) || o.isSome
theorem nodup_take {own : List Pr} (h : (own.map Prod.fst).Nodup) {i : Nat} {q : Pr} (e : own[i]? = some q) (f : Pr → Bool) : valV (kvP ((own.take i).filter f)) (Sum.inr q.1) = none := by
  cases e2 : valV (kvP ((own.take i).filter f)) (Sum.inr q.1) with
  | none => rfl
  | some v =>
    exfalso
    have mm := (valV_kvP q.1 _).mp (by rw [e2]; rfl)
    obtain ⟨x, hx, ex⟩ := List.mem_map.mp mm
    have hx := (List.mem_filter.mp hx).1
    obtain ⟨j, hj⟩ := List.mem_iff_getElem?.mp hx
    rw [List.getElem?_take] at hj
    by_cases hji : j < i
    · rw [if_pos hji] at hj
      have a1 : (own.map Prod.fst)[j]? = some q.1 := by rw [List.getElem?_map, hj, ← ex]; rfl
      have a2 : (own.map Prod.fst)[i]? = some q.1 := by rw [List.getElem?_map, e]; rfl
      obtain ⟨l1, g1⟩ := List.getElem?_eq_some_iff.mp a1
      obtain ⟨l2, g2⟩ := List.getElem?_eq_some_iff.mp a2
      exact List.pairwise_iff_getElem.mp h j i l1 l2 hji (g1.trans g2.symm)
    · rw [if_neg hji] at hj
      cases hj
section
variable {P : Program} {w : World} {K : PySem.W.Frag} {mg : Str → Option Value} {base : Heap}
def spAfter : Sp := fun vs H Q _ => ∃ (d : Addr) (own : List Pr) (p : Str) (o : Option Str), vs = [.ref d, .str p, oStr o] ∧ H d = some (.dK (kvP own)) ∧ (own.map Prod.fst).Nodup ∧ own.length ≤ 1000 ∧
  ∀ (e : Addr) (H' : Hp), Same H H' → H e = none → H' e = some (.dK (kvP (aft own p o))) → Q (.ref e) H'
theorem ok_lafter {f : Addr} {fd : FuncData} {k : Nat} (F : Fun K "_law_after" "_law_after" sLAfter f fd) (B : Blt mg) : FnOk P w K mg base CX0 (k + 1) f fd ["own", "prefix", "way"] spAfter := by
  refine F.ok scLAfter (fun vs H Q E h => ?_) (fun cdv A outer s H vs Q E hr h => ?_)
  · obtain ⟨d, own, p, o, rfl, _⟩ := h
    rfl
  · obtain ⟨d, own, p, o, rfl, hd, hn, hl, q⟩ := h
    have hu := hu_of hr
    have hz : sizeLine = 16777216 := rfl
    refine ⟨_, pss_cons (ps_set (i := 3) scLAfter.nd rfl (.inl rfl) pe_dnewK)
      (pss_cons (ps_lock (ps_for PassesOwn.never rfl (pi_keys (pv 0)) (pg_name (i := 4) scLAfter.nd rfl (.inl rfl))
        (pss_one (ps_if (PW.pt (pw_or (pt_cmpR op_ne (pv 4) (pv 1) (nomark _)) (pw_or1 (pt_cmp (pc_notN (pv 2)))))) (pss_one (ps_dput hu (pv 3) (pv 4) (pe_dget hu (pv 0) (pv 4) (fun _ _ => rfl)) (by rfl))) pss_nil))))
      (pss_cons (ps_if (pt_cmp (pc_notN (pv 2))) (pss_one (ps_dput hu (pv 3) (pv 1) (pv 2) (by rfl))) pss_nil)
      (pss_one (ps_ret (pv 3))))), ?_⟩
    intro D nD
    have dD : d ≠ D := fun e => by rw [e, nD] at hd; cases hd
    refine ⟨d, .dK (kvP own), by rw [upd_ne dD]; exact hd, trivial, fun od => ?_⟩
    refine ⟨.ref d, rfl, d, od, rfl, .inl ⟨kvP own, upd_same, ?_⟩⟩
    refine for_it (walk_keys (d := d) (o := od) (kvs := kvP own)) (fun i σ H' => ∃ y, σ = [some (.ref d), some (.str p), some (oStr o), some (.ref D), y] ∧ But d H H' ∧ H' d = some (.frz od (.dK (kvP own))) ∧ H' D = some (.dK (kvP ((own.take i).filter (flt p o)))))
      ⟨none, rfl, ?_, upd_same, ?_⟩ (fun i σ H' _ hP => hP.choose_spec.2.2.1) (fun i x σ H5 H6 hi hP hy => ?_) (fun σ H5 hP => ?_)
    · exact fun b u hb nb => by rw [upd_ne nb, upd_ne (ne_of_none hb nD)]; exact hb
    · rw [upd_ne (Ne.symm dD)]
      exact upd_same
    · obtain ⟨y, rfl, b1, h1, h2⟩ := hP
      obtain ⟨rfl, k, v, ek, rfl⟩ := hy
      unfold kvP at ek
      rw [List.getElem?_map] at ek
      cases eq : own[i]? with
      | none => rw [eq] at ek; cases ek
      | some r =>
      rw [eq] at ek
      obtain ⟨rfl, rfl⟩ := Prod.mk.inj (Option.some.inj ek)
      have hm : valV (kvP own) (Sum.inr r.1) = some (.str r.2) := valV_mem hn (List.mem_of_getElem? eq)
      have tk : own.take (i + 1) = own.take i ++ [r] := by rw [List.take_add_one, eq]; rfl
      have li : i < own.length := (List.getElem?_eq_some_iff.mp eq).1
      have good : flt p o r = true → ∃ v, (DGet H6 d (.str r.1) (some v)) ∧ ∃ H7, DPut H6 D (.str r.1) v H7 ∧ (∃ y, ([some (.ref d), some (.str p), some (oStr o), some (.ref D), some (.str r.1)] : L2.St) = [some (.ref d), some (.str p), some (oStr o), some (.ref D), y] ∧ But d H H7 ∧ H7 d = some (.frz od (.dK (kvP own))) ∧ H7 D = some (.dK (kvP ((own.take (i + 1)).filter (flt p o))))) := fun hf => by
        refine ⟨.str r.2, ?_, _, DPut.k (k := Sum.inr r.1) h2 ?_, _, rfl, ?_, ?_, ?_⟩
        · exact .inl ⟨kvP own, Sum.inr r.1, .inr ⟨od, h1⟩, rfl, hm.symm⟩
        · rw [kvP_len]
          have := List.length_filter_le (flt p o) (own.take i)
          rw [List.length_take] at this
          omega
        · exact fun b u hb nb => by rw [upd_ne (ne_of_none hb nD)]; exact b1 b u hb nb
        · rw [upd_ne dD]
          exact h1
        · rw [upd_same, putK_new _ (nodup_take hn eq _), tk, List.filter_append, List.filter_cons, if_pos hf]
          unfold kvP
          rw [List.map_append]
          rfl
      refine ⟨.str r.1, rfl, .str p, rfl, rfl, _, rfl, ite2 (fun e1 => ?_) (fun e1 => ?_)⟩
      · have hf : flt p o r = true := by
          unfold flt
          rw [Bool.or_eq_true]
          refine .inl (decide_eq_true fun z => ?_)
          rw [z] at e1
          simp at e1
        obtain ⟨v, g1, H7, g2, g3⟩ := good hf
        exact ⟨.ref d, rfl, .str r.1, rfl, d, v, rfl, g1, .ref D, rfl, .str r.1, rfl, D, H7, rfl, g2, g3⟩
      · have hp : r.1 = p := by
          refine Classical.byContradiction fun z => e1 ?_
          rw [decide_eq_false (fun y => z (V.str.inj y))]
          rfl
        cases o with
        | some l =>
          obtain ⟨v, g1, H7, g2, g3⟩ := good (by unfold flt; rw [Bool.or_eq_true]; exact .inr rfl)
          exact ⟨.str l, rfl, true, rfl, .ref d, rfl, .str r.1, rfl, d, v, rfl, g1, .ref D, rfl, .str r.1, rfl, D, H7, rfl, g2, g3⟩
        | none =>
          refine ⟨.non, rfl, false, rfl, _, rfl, b1, h1, ?_⟩
          rw [tk, List.filter_append, List.filter_cons, if_neg (by unfold flt; rw [decide_eq_false (fun z => z hp)]; decide), List.filter_nil, List.append_nil]
          exact h2
    · obtain ⟨y, rfl, b1, h1, h2⟩ := hP
      rw [kvP_len, List.take_length] at h2
      have S5 : Same H (upd H5 d (.dK (kvP own))) := fun b u hb => by
        by_cases e : b = d
        · rw [e] at hb ⊢
          rw [upd_same]
          rw [hd] at hb
          exact hb
        · rw [upd_ne e]
          exact b1 b u hb e
      have hD5 : (upd H5 d (.dK (kvP own))) D = some (.dK (kvP (own.filter (flt p o)))) := by
        rw [upd_ne (Ne.symm dD)]
        exact h2
      refine ⟨h1, ?_⟩
      generalize upd H5 d (.dK (kvP own)) = H6 at S5 hD5
      cases o with
      | none =>
        refine ⟨.non, rfl, false, rfl, .ref D, rfl, q D H6 S5 nD ?_⟩
        rw [hD5]
        show some (HO.dK (kvP (own.filter (flt p none)))) = some (HO.dK (kvP (dropP own p)))
        unfold dropP
        have e : (flt p none) = fun q : Pr => decide (q.1 ≠ p) := funext fun q => by unfold flt; exact Bool.or_false _
        rw [e]
      | some l =>
        have e : own.filter (flt p (some l)) = own := List.filter_eq_self.mpr fun q _ => by unfold flt; exact Bool.or_true _
        rw [e] at hD5
        refine ⟨.str l, rfl, true, rfl, .str l, rfl, .ref D, rfl, .str p, rfl, D, _, rfl, DPut.k (k := Sum.inr p) hD5 (by rw [kvP_len]; omega), .ref D, rfl, q D _ (fun b u hb => ?_) nD ?_⟩
        · rw [upd_ne (ne_of_none hb nD)]
          exact S5 b u hb
        · rw [upd_same, put_kvP]
          rfl
end
end Tb
namespace Tb
open PySem PySem.Spec PyProof.Rows L2
section
variable {X : Cx} {C g : Addr} {k : Nat} {sp : Sp}
/-- len(x), x an instance whose class has its own __len__ -/
theorem call_lenO (hs : PySem.W.findIn X.K (.ref C) "__len__" = some (some (.ref g))) (hf : PySem.W.isFn X.K (.ref g) = true) (F : FnR X.prog X.w X.K X.mg X.base CX0 k g sp) (hr : Room (k + 1) X.A) :
    CallR X (.builtin "len") (fun xs H Q => ∃ (a dx : Addr) (fs : List (Str × V)), xs = [.ref a] ∧ H a = some (.ins C dx fs) ∧ sp [.ref a] H (fun v H' => ∃ n : Nat, v = .int (n : Int) ∧ n ≤ 1000 ∧ Q v H') E0) := by
  intro pins s σ H xs us Q I r h
  obtain ⟨a, dx, fs, rfl, ea, q⟩ := h
  obtain ⟨u, rfl, rx⟩ := vals1 r
  cases rx
  obtain ⟨mA, O, _⟩ := ins_get I.hok ea
  obtain ⟨od, J, _⟩ := O.look
  refine Calls.call_function_entry PySem.kind_len PySem.plain_len PySem.entry_len (PySem.args_len1 _) ?_
  unfold Builtin.«len»
  refine wpAny_bind (m := oneArg "len" _) (wpAny_pure ?_)
  refine wpAny_bind (m := callSpecial? (.ref a) (Str.ofString "__len__")) (PySem.W.special_fn I.kIn J hs (beq_iff_eq.mp hf) (wpAny_call (codeAny_mono (F X.A.in1 X.stack s H [.ref a] [.ref a] _ E0 hr.in1 I.env0.in1 (.cons rfl .nil) q) fun r s' hq => ?_)))
  cases r with
  | error er => exact hq.elim
  | ok fl =>
    cases fl with
    | ret u =>
      obtain ⟨v, H', I3, rv, n, rfl, hn, q3⟩ := I.after hq
      obtain ⟨t, rfl⟩ := rv
      refine wpAny_bind (wpAny_holding (wpAny_pure ?_))
      refine wpAny_bind (wpAny_letGo ?_)
      show wpAny _ _ (if (n : Int) < 0 then _ else _) _ _ _
      rw [if_neg (by omega)]
      show wpAny _ _ (if (n : Int) ≥ 2 ^ 63 then _ else _) _ _ _
      rw [if_neg (by omega)]
      exact wpAny_bind (wpAny_mkInt (wpAny_pure ⟨_, rfl, .int (n : Int), H', I3.tok _, ⟨_, rfl⟩, q3⟩))
    | next => exact hq.elim
    | brk => exact hq.elim
    | cont => exact hq.elim
end
end Tb
namespace Tb
open PySem PySem.Spec PyProof.Rows L2
/-- the class Table, its methods and what they keep -/
structure TabK (P : Program) (w : World) (K : PySem.W.Frag) (mg : Str → Option Value) (base : Heap) (C CI CU : Addr) : Prop where
  T : TCls K C
  g : mg "Table" = some (.ref C)
  ins : C8.InsC K C
  make : ∃ f fd, Mk K C f ∧ Binds K fd ["self", "rows"] [] ∧ FnOk P w K mg base (L2.CX P w) 4 f fd ["self", "rows"] (spInit C CI)
  rows : ∃ p f fd, PropOf K C "rows" p f ∧ Binds K fd ["self"] [] ∧ FnOk P w K mg base CX0 1 f fd ["self"] (spTRows C)
  len : ∃ f fd, PySem.W.findIn K (.ref C) "__len__" = some (some (.ref f)) ∧ PySem.W.isFn K (.ref f) = true ∧ Binds K fd ["self"] [] ∧ FnOk P w K mg base CX0 1 f fd ["self"] (spTLen C)
  call : ∃ f fd, StX.CallO K C f ∧ Binds K fd ["self", "address"] [] ∧ FnOk P w K mg base CX0 3 f fd ["self", "address"] (spTCall C)
theorem lane_sg {t : Str} (h : isLane t = true) : Sg t := by
  unfold isLane at h
  rw [Bool.or_eq_true] at h
  rcases h with h | h
  · rw [of_decide_eq_true h]
    unfold Sg
    decide +kernel
  · exact (nm_tx ((isName_iff t).mp h)).sg
theorem addr_sg {t : Str} (h : isAddr t = true) : Sg t := (ad_tx ((isAddr_iff t).mp h)).sg
def SgP (p : Pr) : Prop := Sg p.1 ∧ Sg p.2
theorem good_sg {ps : List Pr} (g : Good ps) : ∀ p ∈ ps, SgP p := fun p hp => ⟨addr_sg (g.1 p hp).1, lane_sg (g.1 p hp).2⟩
theorem lay_2 {p : Pr} (h : SgP p) : (enc2 p).canLay0 = true ∧ (enc2 p).depth ≤ 2 := by
  refine ⟨?_, depth2 p⟩
  simp only [enc2, PyData.canLay0, PyData.canLayAll0, strOk_sg h.1, strOk_sg h.2, Bool.and_true]
theorem shaped_2 {p : Pr} (h : SgP p) : SeqAt.shaped (enc2 p) = true := by
  obtain ⟨h1, h2⟩ := lay_2 h
  show (PyData.canLay0 (enc2 p) && decide (PyData.depth (enc2 p) ≤ 64)) = true
  rw [Bool.and_eq_true]
  exact ⟨h1, decide_eq_true (by omega)⟩
theorem lay_2s : ∀ {ps : List Pr}, (∀ p ∈ ps, SgP p) → PyData.canLayAll0 (ps.map enc2) = true ∧ PyData.depthAll (ps.map enc2) ≤ 2
  | [], _ => by simp [PyData.canLayAll0, PyData.depthAll]
  | p :: ps, h => by
    obtain ⟨a1, a2⟩ := lay_2 (h p (List.mem_cons_self ..))
    obtain ⟨b1, b2⟩ := lay_2s (ps := ps) fun q hq => h q (List.mem_cons_of_mem _ hq)
    refine ⟨?_, ?_⟩
    · simp only [List.map_cons, PyData.canLayAll0, a1, b1, Bool.and_true]
    · simp only [List.map_cons, PyData.depthAll]
      omega
theorem shaped_2s {ps : List Pr} (h : ∀ p ∈ ps, SgP p) : SeqAt.shaped (.list (ps.map enc2)) = true := by
  obtain ⟨h1, h2⟩ := lay_2s h
  show (PyData.canLay0 (.list (ps.map enc2)) && decide (PyData.depth (.list (ps.map enc2)) ≤ 64)) = true
  rw [Bool.and_eq_true]
  refine ⟨by simp only [PyData.canLay0]; exact h1, decide_eq_true ?_⟩
  simp only [PyData.depth]
  omega
theorem dp_2 {K : PySem.W.Frag} {H : Hp} {a : Addr} {p : Pr} (h : H a = some (.tup [.str p.1, .str p.2])) : Dp K H (.ref a) (enc2 p) := .tup (.of h) (.cons (.str _) (.cons (.str _) .nil))
theorem dp_2s {K : PySem.W.Frag} {H : Hp} : ∀ {ts : List (Addr × Pr)}, (∀ t ∈ ts, H t.1 = some (.tup [.str t.2.1, .str t.2.2])) → DpAll K H (ts.map fun t => V.ref t.1) ((ts.map (·.2)).map enc2)
  | [], _ => .nil
  | t :: ts, h => .cons (dp_2 (h t (List.mem_cons_self ..))) (dp_2s fun q hq => h q (List.mem_cons_of_mem _ hq))
theorem eqv_self {d : PyData} (h : SeqAt.shaped d = true) : PyData.eqv d d = true := SeqAt.eqv_refl _ (SeqAt.canLay_of_shaped h)
/-- the list of these rows -/
structure Prs (H : Hp) (r : Addr) (ts : List (Addr × Pr)) : Prop where
  l : H r = some (.lst (ts.map fun t => V.ref t.1))
  t : ∀ t ∈ ts, H t.1 = some (.tup [.str t.2.1, .str t.2.2])
theorem Prs.same {H H' : Hp} {r : Addr} {ts : List (Addr × Pr)} (R : Prs H r ts) (h : Same H H') : Prs H' r ts := ⟨h _ _ R.l, fun t ht => h _ _ (R.t t ht)⟩
theorem row_at {H : Hp} {ts : List (Addr × Pr)} {ps : List Pr} (e : ts.map (·.2) = ps) {i : Nat} (hi : i < ps.length) (ht : ∀ t ∈ ts, H t.1 = some (.tup [.str t.2.1, .str t.2.2])) :
    ∃ a p, (ts.map fun t => V.ref t.1)[i]? = some (.ref a) ∧ ps[i]? = some p ∧ H a = some (.tup [.str p.1, .str p.2]) := by
  have hl : i < ts.length := by rw [← e, List.length_map] at hi; exact hi
  refine ⟨ts[i].1, ts[i].2, ?_, ?_, ht _ (List.getElem_mem hl)⟩
  · rw [List.getElem?_map, List.getElem?_eq_getElem hl]
    rfl
  · rw [← e, List.getElem?_map, List.getElem?_eq_getElem hl]
    rfl
section
variable {P : Program} {w : World} {K : PySem.W.Frag} {mg : Str → Option Value} {base : Heap}
end
end Tb
namespace Tb
open PySem PySem.Spec PyProof.Rows L2
/-- two addresses that hold unlike things -/
theorem ne_of {H : Hp} {a b : Addr} {x y : HO} (h1 : H a = some x) (h2 : H b = some y) (n : x ≠ y) : a ≠ b := fun e => by
  rw [e, h2] at h1
  cases h1
  exact n rfl
/-- the drawn lanes -/
structure Ways (H : Hp) (l : Addr) (ws : List Str) : Prop where
  l : H l = some (.lst (ws.map V.str))
  n : 1 ≤ ws.length ∧ ws.length ≤ 6
  g : ∀ x ∈ ws, isLane x = true
theorem lane_tx {x : Str} (h : isLane x = true) : Tx x := ⟨by have := lane_len h; omega, lane_sg h⟩
theorem Ways.txs {H : Hp} {l : Addr} {ws : List Str} (W : Ways H l ws) : Txs H l ws := ⟨W.l, by have := W.n; omega, fun x hx => lane_tx (W.g x hx)⟩
theorem Ways.but {H H' : Hp} {l p : Addr} {ws : List Str} (W : Ways H l ws) (B : Bag H p) (h : But p H H') : Ways H' l ws := ⟨h _ _ W.l (W.txs.off B), W.n, W.g⟩
theorem Ways.same {H H' : Hp} {l : Addr} {ws : List Str} (W : Ways H l ws) (h : Same H H') : Ways H' l ws := ⟨h _ _ W.l, W.n, W.g⟩
theorem lane_of_name {t : Str} (h : Nm (tl t)) : isLane t = true := by
  unfold isLane
  rw [Bool.or_eq_true]
  exact .inr ((isName_iff t).mpr h)
section
variable {P : Program} {w : World} {K : PySem.W.Frag} {mg : Str → Option Value} {base : Heap}
/-- the lane of a dict of texts is a text or None -/
theorem laneV_kvP (own : List Pr) (a : Str) : laneV (kvP own) a = .non ∨ ∃ z, laneV (kvP own) a = .str z ∧ ∃ q ∈ own, q.2 = z := by
  unfold laneV
  cases long (kvP own) a with
  | none => exact .inl rfl
  | some p =>
    show (valV (kvP own) (Sum.inr p)).getD .non = .non ∨ ∃ z, (valV (kvP own) (Sum.inr p)).getD .non = .str z ∧ _
    rw [valV_kvP_eq]
    cases e : own.find? fun q => decide (q.1 = p) with
    | none => exact .inl rfl
    | some q => exact .inr ⟨q.2, rfl, q, List.mem_of_find?_eq_some e, rfl⟩
end
end Tb
namespace Tb
open PySem PySem.Spec PyProof.Rows L2
theorem Bag.off {H : Hp} {p a : Addr} {o : HO} (B : Bag H p) (h : H a = none) : a ≠ p := fun e => by
  obtain ⟨_, _, _, _, hp, _⟩ := B
  rw [e, hp] at h
  cases h
theorem Bag.put {H : Hp} {p a : Addr} {o : HO} (B : Bag H p) (h : a ≠ p) : Bag (L2.upd H a o) p := by
  obtain ⟨n, c, m, ns, hp, rest⟩ := B
  exact ⟨n, c, m, ns, by rw [upd_ne (Ne.symm h)]; exact hp, rest⟩
theorem But.put {p a : Addr} {H H' : Hp} {o : HO} (b : But p H H') (h : H a = none) : But p H (L2.upd H' a o) := fun c u hc nc => by
  rw [upd_ne (ne_of_none hc h)]
  exact b c u hc nc
theorem bag_free {H H' : Hp} {p a : Addr} (B : Bag H p) (b : But p H H') (B' : Bag H' p) (h : H' a = none) : H a = none := by
  cases e : H a with
  | none => rfl
  | some o =>
    by_cases c : a = p
    · obtain ⟨_, _, _, _, hp, _⟩ := B'
      rw [c, hp] at h
      cases h
    · rw [b _ _ e c] at h
      cases h
theorem bag_no {H : Hp} {p a : Addr} (B : Bag H p) (h : H a = none) : a ≠ p := fun e => by
  obtain ⟨_, _, _, _, hp, _⟩ := B
  rw [e, hp] at h
  cases h
theorem bag_tup {H : Hp} {p a : Addr} {xs : List V} (B : Bag H p) (h : H a = some (.tup xs)) : a ≠ p := fun e => by
  obtain ⟨_, _, _, _, hp, _⟩ := B
  rw [e, hp] at h
  cases h
theorem eqV_str (x z : Str) : eqV (.str x) (.str z) = (x == z) := rfl
theorem inV_strs {z : Str} {ks : List Str} (h : inV (.str z) (ks.map V.str) = false) : z ∉ ks := fun hm => by
  unfold inV at h
  rw [List.any_map, List.any_eq_false] at h
  exact h z hm (by show eqV (.str z) (.str z) = true; rw [eqV_str]; exact beq_self_eq_true z)
section
variable {P : Program} {w : World} {K : PySem.W.Frag} {mg : Str → Option Value} {base : Heap}
end
end Tb
namespace Tb
open PySem PySem.Spec PyProof.Rows L2
section
variable {P : Program} {w : World} {K : PySem.W.Frag} {mg : Str → Option Value} {base : Heap}
/-- while the addresses are gathered -/
structure Gat (H0 H : Hp) (p d F : Addr) (u : HO) (ks : List Str) : Prop where
  fn : H F = some (.lst (ks.map V.str))
  dn : H d = some u
  bn : Bag H p
  rn : ∀ b o, H0 b = some o → b ≠ p → b ≠ d → H b = some o
  zn : ∀ x ∈ ks, x.length ≤ 1000
theorem Gat.put {H0 H : Hp} {p d F : Addr} {u : HO} {ks : List Str} (G : Gat H0 H p d F u ks) (nF : H0 F = none) (Fp : F ≠ p) (Fd : F ≠ d) {z : Str} (hz : z.length ≤ 1000) : Gat H0 (L2.upd H F (.lst (ks.map V.str ++ [V.str z]))) p d F u (ks ++ [z]) where
  fn := by rw [upd_same, List.map_append]; rfl
  dn := by rw [upd_ne (Ne.symm Fd)]; exact G.dn
  bn := G.bn.put Fp
  rn := fun c o hc n1 n2 => by rw [upd_ne (ne_of_none hc nF)]; exact G.rn c o hc n1 n2
  zn := fun x hx => by
    rcases List.mem_append.mp hx with hx | hx
    · exact G.zn x hx
    · rw [List.mem_singleton.mp hx]
      exact hz
theorem Gat.draw {H0 H H' : Hp} {p d F : Addr} {u : HO} {ks : List Str} (G : Gat H0 H p d F u ks) (Fp : F ≠ p) (dp : d ≠ p) (B : Bag H' p) (b : But p H H') : Gat H0 H' p d F u ks where
  fn := b _ _ G.fn Fp
  dn := b _ _ G.dn dp
  bn := B
  rn := fun c o hc n1 n2 => b _ _ (G.rn c o hc n1 n2) n1
  zn := G.zn
theorem keys_txs {own : List Pr} (g : Good own) (hn : own.length ≤ 100) {H : Hp} {l : Addr} (h : H l = some (.lst ((kvP own).map fun kv => kV kv.1))) : Txs H l (own.map Prod.fst) ∧ ∀ x ∈ own.map Prod.fst, Ad (tl x) := by
  have e : ((kvP own).map fun kv => kV kv.1) = (own.map Prod.fst).map V.str := by
    unfold kvP
    rw [List.map_map, List.map_map]
    rfl
  have hA : ∀ x ∈ own.map Prod.fst, Ad (tl x) := fun x hx => by
    obtain ⟨q, hq, rfl⟩ := List.mem_map.mp hx
    exact (isAddr_iff _).mp (g.1 q hq).1
  exact ⟨⟨by rw [h, e], by rw [List.length_map]; omega, fun x hx => ad_tx (hA x hx)⟩, hA⟩
end
end Tb
namespace Tb
open PySem PySem.Spec PyProof.Rows L2
/-! ### making and calling where the errors that may come depend on the slots (in a try) -/
section
variable {X : Cx} {CX : CXT} {k : Nat} {f C : Addr} {fd : FuncData} {ps : List Str} {sp : Sp} {E : L2.St → XK} {x m : Str} {p pos apos : Pos} {e o : Expr} {es : List Expr} {ta : TE} {t : TA}
theorem run_makeS {pins : List (Addr × Obj)} {σ : L2.St} {H : Hp} {s : Shared} {Q : VK} {us : List Value} {vs : List V} (M : Mk X.K C f) (F : FnR X.prog X.w X.K X.mg X.base CX k f sp) (hr : Room (k + 1) X.A) (hx : PassesAt CX X σ (E σ)) (I : Inv X pins σ H s) (r : Vals vs us)
    (h : ∀ x dx, H x = Option.none → H dx = Option.none → dx ≠ x → sp (V.ref x :: vs) (L2.upd (L2.upd H dx (.own x)) x (.ins C dx [])) (fun v H2 => v = .non ∧ Q (.ref x) H2) (E σ)) :
    wpAny (model X.prog X.w) X.A (call (.ref C) us) (EP X pins σ Q) X.xe s := by
  have hq := h (s.heap.objs.size + 1) s.heap.objs.size (I.hok.fresh (Nat.le_succ _)) (I.hok.fresh (Nat.le_refl _)) (Nat.ne_of_lt (Nat.lt_succ_self _))
  have I2 := Inv.made (C := C) I
  have r2 : Vals (V.ref (s.heap.objs.size + 1) :: vs) (Value.ref (s.heap.objs.size + 1) :: us) := .cons rfl r
  refine wpAny_call (make_map (f := f) I.kIn M.makes M.init (beq_iff_eq.mp M.fn) (codeAny_mono (F _ X.stack _ _ (Value.ref (s.heap.objs.size + 1) :: us) _ _ (E σ) (hr.make C us []) (I2.env0.make C us []) r2 hq) fun r s' hq' => ?_))
  cases r with
  | error e => exact hx pins _ _ e s' I2 hq'
  | ok fl =>
    cases fl with
    | ret u =>
      obtain ⟨v, H', I3, rv, ev, q3⟩ := I2.after hq'
      subst ev
      exact ⟨rv, ⟨V.ref (s.heap.objs.size + 1), H', I3, rfl, q3⟩⟩
    | next => exact False.elim hq'
    | brk => exact False.elim hq'
    | cont => exact False.elim hq'
def tMakeS (C : Addr) (sp : Sp) (E : L2.St → XK) (t : TA) : TE := fun σ H Q => t σ H fun vs H1 => ∀ x dx, H1 x = Option.none → H1 dx = Option.none → dx ≠ x →
  sp (V.ref x :: vs) (L2.upd (L2.upd H1 dx (.own x)) x (.ins C dx [])) (fun v H2 => v = .non ∧ Q (.ref x) H2) (E σ)
theorem pe_makeS (M : Mk X.K C f) (F : FnR X.prog X.w X.K X.mg X.base CX k f sp) (hr : Room (k + 1) X.A) (hg : Gl X x) (hm : X.mg x = some (.ref C)) (hx : ∀ σ, PassesAt CX X σ (E σ)) (ha : PA X (e :: es) t) (hdb : (x == ("__debug__" : Str)) = false := by decide)
    (he : starEach (e :: es) X.env = (false, eval e X.env) :: starEach es X.env := by rfl) (hpl : (backTo pos (starEach es X.env)).any (·.1) = false := by rfl) : PE X (.Call (.Name x p) (e :: es) [] pos) (tMakeS C sp E t) := by
  refine ⟨fun pins s σ H Q I h => ?_⟩
  refine wpAny_Call_Name_kw (ld_glob I hg hm ?_ hdb)
  refine PySem.W.callWith_K (h₀ := X.base) I.ok.mod.kin M.kp (thn (ha.run pos pins s σ H _ I h) fun us s1 ⟨vs, H1, I1, r, q⟩ => ⟨I1.kIn, ?_⟩) he hpl
  exact run_makeS M F hr (hx σ) I1 r q
def tMethS (C : Addr) (m : Str) (sp : Sp) (E : L2.St → XK) (ta : TE) (t : TA) : TE := fun σ H Q => ta σ H fun x H1 => ∃ a dx fs, x = .ref a ∧ H1 a = some (.ins C dx fs) ∧ fs.lookup m = none ∧
  t σ H1 fun vs H2 => sp (x :: vs) H2 Q (E σ)
theorem pe_methS {pl : Sem Bool} (he : PE X o ta) (c : Cls X.K C) (hm : Meth X.K C m f) (F : FnOk X.prog X.w X.K X.mg X.base CX k f fd ps sp) (hr : Room k X.A) (hb : Binds X.K fd ps []) (hx : ∀ σ, PassesAt CX X σ (E σ)) (ha : PA X (e :: es) t)
    (hst : starEach (e :: es) X.env = (false, eval e X.env) :: starEach es X.env := by rfl) (hpl : (backTo pos (starEach es X.env)).any (·.1) = false := by rfl)
    (ht : eval (.Call (.Attribute o m apos) (e :: es) [] pos) X.env = (do
      let ov ← eval o X.env
      standAt apos.atName
      let (f, first) ← holding [ov] (getMethod ov m pl)
      callWith pos f first (backTo pos (starEach (e :: es) X.env)) (backToKw pos (keywordEach [] X.env))) := by rfl) :
    PE X (.Call (.Attribute o m apos) (e :: es) [] pos) (tMethS C m sp E ta t) := by
  refine ⟨fun pins s σ H Q I h => ?_⟩
  refine PySem.W.methodCall_KW (pl := pl) (thn (he.run pins s σ H _ I h) fun u s1 ⟨x, H1, I1, rx, a, dx, fs, ex, ea, l, q⟩ => ?_) ht
  subst ex
  obtain rfl : u = Value.ref a := rx
  refine getmeth_ok I1 ea c hm l ?_
  refine PySem.W.callWith_K (first := [.ref a]) (h₀ := X.base) I.ok.mod.kin hm.kp (thn (ha.run pos pins s1 σ H1 _ I1 q) fun us s2 ⟨vs, H2, I2, r, q2⟩ => ⟨I2.kIn, ?_⟩) hst hpl
  exact run_fnS (us := .ref a :: us) (vs := .ref a :: vs) F hr hb (hx σ) I2 (.cons rfl r) q2
end
theorem tab_made2 {C CI : Addr} {H : Hp} {r x dx : Addr} {lst : Bool} {ts : List (Addr × Pr)} {R : VK} {E : XK} (RA : RowsAt H r lst ts) (hn : ts.length ≤ 900) (nx : H x = none) (ndx : H dx = none) (hne : dx ≠ x)
    (qG : Good (ts.map (·.2)) → ∀ H', Same H H' → TabOf C H' x (ts.map (·.2)) → R .non H')
    (qB : ¬ Good (ts.map (·.2)) → ∀ e H', Same H H' → H' e = some (.xd [(wWhat, .str wTable)]) → E (.ref CI) (some e) H') :
    spInit C CI [V.ref x, V.ref r] (L2.upd (L2.upd H dx (.own x)) x (.ins C dx [])) R E := by
  have S0 : Same H (L2.upd (L2.upd H dx (.own x)) x (.ins C dx [])) := (same_upd ndx).trans (same_upd (by rw [upd_ne (Ne.symm hne)]; exact nx))
  refine ⟨x, dx, r, lst, ts, rfl, upd_same, RA.same S0, fun g d H' S nd hx hd => ?_, fun g e H' S he => qB g e H' (S0.trans S) he⟩
  refine qG g H' (fun b o hb => ?_) ⟨⟨dx, d, hx, hd⟩, g, by rw [List.length_map]; exact hn⟩
  exact S b o (S0 _ _ hb) (fun e => by rw [e, nx] at hb; cases hb)
/-- the errors' classes, as the module has them -/
structure Errs (K : PySem.W.Frag) (mg : Str → Option Value) (CI gI : Addr) (gdI : FuncData) (CU gU : Addr) (gdU : FuncData) (CP : Addr) : Prop where
  I : EInv K mg CI gI gdI
  U : EUnk K mg CU gU gdU
  gP : mg "ParcelError" = some (.ref CP)
  ve : mg "ValueError" = none
  kP : PySem.W.kitOne K (.ref CI) (.ref CP) = some true
  kV : PySem.W.kitOne K (.ref CI) (.type "ValueError") = some true
  kU : PySem.W.kitOne K (.ref CI) (.ref CU) = some false
  exI : PySem.W.exmOne K (.ref CI) (.ref CI) = some true
  exU : PySem.W.exmOne K (.ref CU) (.ref CU) = some true
  exN : PySem.W.exmOne K (.ref CU) (.ref CI) = some false
section
variable {P : Program} {w : World} {K : PySem.W.Frag} {mg : Str → Option Value} {base : Heap}
end
end Tb
namespace Tb
open PySem PySem.Spec PyProof.Rows L2
open PySem.W (TotalLe dataLe)
/-! ### addresses by length, then as texts -/
def encA (a : Str) : PyData := .tuple [.int (a.length : Int), .str a]
def leA (a b : Str) : Bool := dataLe false encA a b
theorem ltA (a b : Str) : PySem.W.dataLt (encA a) (encA b) = if a.length = b.length then sLt a b else decide (a.length < b.length) := by
  have q : ∀ x y : Str, PyData.eqv (.str x) (.str y) = decide (x = y) := fun x y => by rw [PyData.eqv]; exact Bool.beq_eq_decide_eq x y
  have qi : ∀ x y : Int, PyData.eqv (.int x) (.int y) = decide (x = y) := fun x y => by rw [PyData.eqv]; exact Bool.beq_eq_decide_eq x y
  unfold encA
  rw [PySem.W.dataLt_pair (by simp [PySem.W.alike]) (by simp [PySem.W.alike]), q, qi, PySem.W.dataLt_str, PySem.W.dataLt_int]
  by_cases c : a.length = b.length
  · rw [if_pos (decide_eq_true (by rw [c])), if_pos c]
    by_cases c2 : a = b
    · rw [if_pos (decide_eq_true c2), c2]
      exact (decide_eq_false (List.lt_irrefl _)).symm
    · rw [if_neg (by simpa using c2)]
      rfl
  · rw [if_neg (by rw [decide_eq_true_eq]; omega), if_neg c]
    exact decide_eq_decide.mpr Int.ofNat_lt
theorem leA_eq (a b : Str) : leA a b = !(if b.length = a.length then sLt b a else decide (b.length < a.length)) := by
  unfold leA
  rw [PySem.W.dataLe_eq]
  show (!PySem.W.dataLt (encA b) (encA a)) = _
  rw [ltA]
theorem leA_anti {a b : Str} (h1 : leA a b = true) (h2 : leA b a = true) : a = b := by
  rw [leA_eq, Bool.not_eq_true'] at h1 h2
  by_cases c : a.length = b.length
  · rw [if_pos c.symm] at h1
    rw [if_pos c] at h2
    exact sLt_tri h2 h1
  · rw [if_neg (Ne.symm c)] at h1
    rw [if_neg c] at h2
    have := of_decide_eq_false h1
    have := of_decide_eq_false h2
    omega
theorem leA_refl (a : Str) : leA a a = true := by
  rw [leA_eq, if_pos rfl]
  unfold sLt
  rw [decide_eq_false (List.lt_irrefl _)]
  rfl
theorem leA_len {a b : Str} (h : a.length < b.length) : leA a b = true := by
  rw [leA_eq, if_neg (by omega), decide_eq_false (by omega)]
  rfl
/-! ### lanes by the first n digits -/
def laneN (kvs : Kvs) (a : Str) (n : Nat) : V := match lp kvs a n with
  | none => .non
  | some p => (valV kvs (Sum.inr p)).getD .non
theorem laneV_N (kvs : Kvs) (a : Str) : laneV kvs a = laneN kvs a a.length := rfl
theorem laneN_yes {kvs : Kvs} {a : Str} {n : Nat} {v : V} (h : valV kvs (Sum.inr (pre a (n + 1))) = some v) : laneN kvs a (n + 1) = v := by
  unfold laneN lp
  rw [h]
  show (valV kvs (Sum.inr (pre a (n + 1)))).getD V.non = v
  rw [h]
  rfl
theorem laneN_no {kvs : Kvs} {a : Str} {n : Nat} (h : valV kvs (Sum.inr (pre a (n + 1))) = none) : laneN kvs a (n + 1) = laneN kvs a n := by
  unfold laneN
  conv => lhs; unfold lp
  rw [h]
  rfl
theorem pre_tl (a : Str) (n : Nat) : tl (pre a n) = (tl a).take n := tl_hi a n
theorem pre_len {a : Str} {n : Nat} (h : n ≤ a.length) : (pre a n).length = n := by
  rw [len_tl, pre_tl, List.length_take, ← len_tl]
  omega
theorem pre_pre {a : Str} {n k : Nat} (h : k ≤ n) : pre (pre a n) k = pre a k := tl_inj (by rw [pre_tl, pre_tl, pre_tl, List.take_take, Nat.min_eq_left h])
theorem pre_all (a : Str) : pre a a.length = a := tl_inj (by rw [pre_tl, len_tl, List.take_length])
theorem lp_pre {kvs : Kvs} {a : Str} {m : Nat} : ∀ n, n ≤ m → lp kvs (pre a m) n = lp kvs a n
  | 0, _ => rfl
  | n + 1, h => by
    unfold lp
    rw [pre_pre h, lp_pre n (by omega)]
theorem laneN_pre {kvs : Kvs} {a : Str} {m n : Nat} (h : n ≤ m) : laneN kvs (pre a m) n = laneN kvs a n := by
  unfold laneN
  rw [lp_pre n h]
theorem laneV_pre {kvs : Kvs} {a : Str} {n : Nat} (h : n ≤ a.length) : laneV kvs (pre a n) = laneN kvs a n := by
  rw [laneV_N, pre_len h, laneN_pre (Nat.le_refl _)]
/-- without the last sign -/
abbrev bl (a : Str) : Str := cutS a none (some (-1))
theorem bl_tl (z : Str) (h : 1 ≤ z.length) : tl (bl z) = (tl z).take ((tl z).length - 1) := by
  show ((z.cps.toList.drop (HT.sIx z.length 0 none)).take (HT.sIx z.length z.length (some (-1)) - HT.sIx z.length 0 none)).toArray.toList = _
  have e : HT.sIx z.length z.length (some (-1)) = z.length - 1 := by
    unfold HT.sIx
    first
      | omega
      | (simp; omega)
      | (split <;> omega)
  rw [List.toList_toArray, e, HT.sIx_none, List.drop_zero, Nat.sub_zero, len_tl]
theorem bl_pre {a : Str} (h : 1 ≤ a.length) : bl a = pre a (a.length - 1) := tl_inj (by rw [bl_tl a h, pre_tl, len_tl])
theorem bl_step {a : Str} {n : Nat} (h : n + 1 ≤ a.length) : bl (pre a (n + 1)) = pre a n := by
  rw [bl_pre (by rw [pre_len h]; omega), pre_len h, pre_pre (by omega)]
  rfl
/-- the lane of the address less its last digit -/
theorem laneV_bl {kvs : Kvs} {a : Str} {n : Nat} (h : n + 1 ≤ a.length) : laneV kvs (bl (pre a (n + 1))) = laneN kvs a n := by
  rw [bl_step h, laneV_pre (by omega)]
theorem val_none {ps : List Pr} {k : Str} (h : k ∉ ps.map Prod.fst) : valV (kvP ps) (Sum.inr k) = none := by
  cases e : valV (kvP ps) (Sum.inr k) with
  | none => rfl
  | some v => exact absurd ((valV_kvP k ps).mp (by rw [e]; rfl)) h
theorem laneV_key {ps : List Pr} (g : Good ps) {p : Pr} (h : p ∈ ps) : laneV (kvP ps) p.1 = .str p.2 := by
  have hl := (g.1 p h).1
  have h1 : 1 ≤ p.1.length := by
    have := ((isAddr_iff _).mp hl).1
    rw [len_tl]
    exact this
  obtain ⟨n, hn⟩ : ∃ n, p.1.length = n + 1 := ⟨p.1.length - 1, by omega⟩
  rw [laneV_N, hn]
  refine laneN_yes ?_
  rw [← hn, pre_all]
  exact valV_mem g.2 h
theorem key_len {ps : List Pr} (g : Good ps) {x : Str} (h : x ∈ ps.map Prod.fst) : 1 ≤ x.length := by
  obtain ⟨p, hp, rfl⟩ := List.mem_map.mp h
  have := ((isAddr_iff _).mp (g.1 p hp).1).1
  rw [len_tl]
  exact this
theorem laneV_nokey {ps : List Pr} {x : Str} (h1 : 1 ≤ x.length) (h : x ∉ ps.map Prod.fst) : laneV (kvP ps) x = laneV (kvP ps) (bl x) := by
  obtain ⟨n, hn⟩ : ∃ n, x.length = n + 1 := ⟨x.length - 1, by omega⟩
  rw [laneV_N, hn, laneN_no (by rw [← hn, pre_all]; exact val_none h), bl_pre h1, laneV_pre (by omega), hn]
  rfl
/-! ### the least table -/
def isRow (own : List Pr) (p : Pr) : Bool := !decide (V.str p.2 = laneV (kvP own) (bl p.1))
def leastR (own : List Pr) : List Pr := (own.mergeSort le2).filter (isRow own)
theorem mem_least {own : List Pr} {p : Pr} : p ∈ leastR own ↔ p ∈ own ∧ V.str p.2 ≠ laneV (kvP own) (bl p.1) := by
  unfold leastR isRow
  rw [List.mem_filter, mem_sort, Bool.not_eq_true', decide_eq_false_iff_not]
theorem least_pw (own : List Pr) : (leastR own).Pairwise fun a b => le2 a b = true := List.Pairwise.filter _ (PySem.W.sort_pairwise le2_total own)
theorem nodup_of_keys {ps : List Pr} (h : (ps.map Prod.fst).Nodup) : ps.Nodup := List.Pairwise.of_map Prod.fst (fun _ _ hne e => hne (congrArg Prod.fst e)) h
theorem good_filter {ps : List Pr} (g : Good ps) (f : Pr → Bool) : Good (ps.filter f) := ⟨fun p hp => g.1 p (List.mem_filter.mp hp).1, (List.Sublist.map Prod.fst List.filter_sublist).nodup g.2⟩
theorem least_good {own : List Pr} (g : Good own) : Good (leastR own) := good_filter (good_sort.mpr g) _
theorem least_len (own : List Pr) : (leastR own).length ≤ own.length := by
  have := List.length_filter_le (isRow own) (own.mergeSort le2)
  rw [len_sort] at this
  exact this
theorem least_sort (own : List Pr) : (leastR own).mergeSort le2 = leastR own :=
  List.Perm.eq_of_pairwise (le := fun a b => le2 a b = true) (fun a b _ _ h1 h2 => le2_anti h1 h2) (PySem.W.sort_pairwise le2_total _) (least_pw own) (List.mergeSort_perm _ le2)
theorem least_N {own : List Pr} (g : Good own) (a : Str) : ∀ n, n ≤ a.length → laneN (kvP (leastR own)) a n = laneN (kvP own) a n
  | 0, _ => rfl
  | n + 1, h => by
    have ih := least_N g a n (by omega)
    by_cases c : pre a (n + 1) ∈ own.map Prod.fst
    · obtain ⟨p, hp, e⟩ := List.mem_map.mp c
      have e1 : laneN (kvP own) a (n + 1) = .str p.2 := laneN_yes (by rw [← e]; exact valV_mem g.2 hp)
      by_cases d : V.str p.2 = laneN (kvP own) a n
      · rw [laneN_no (val_none fun m => ?_), ih, e1, d]
        obtain ⟨q, hq, e2⟩ := List.mem_map.mp m
        obtain ⟨hq1, hq2⟩ := mem_least.mp hq
        have v1 := valV_mem g.2 hp
        have v2 := valV_mem g.2 hq1
        rw [e] at v1
        rw [e2, v1] at v2
        have e3 : V.str p.2 = V.str q.2 := Option.some.inj v2
        refine hq2 ?_
        rw [← e3, e2, laneV_bl h]
        exact d
      · have m : p ∈ leastR own := mem_least.mpr ⟨hp, by rw [e, laneV_bl h]; exact d⟩
        rw [e1]
        exact laneN_yes (by rw [← e]; exact valV_mem (least_good g).2 m)
    · rw [laneN_no (val_none c), laneN_no (val_none fun m => c ?_), ih]
      obtain ⟨q, hq, e2⟩ := List.mem_map.mp m
      exact List.mem_map.mpr ⟨q, (mem_least.mp hq).1, e2⟩
theorem least_lane {own : List Pr} (g : Good own) (a : Str) : laneV (kvP (leastR own)) a = laneV (kvP own) a := least_N g a _ (Nat.le_refl _)
theorem least_least {own : List Pr} (g : Good own) : leastR (leastR own) = leastR own := by
  unfold leastR
  rw [show ((own.mergeSort le2).filter (isRow own)) = leastR own from rfl, least_sort, List.filter_eq_self]
  intro p hp
  have h := (mem_least.mp hp).2
  unfold isRow
  rw [least_lane g, decide_eq_false h]
  rfl
/-! ### parting -/
def keys2 (one two : List Pr) : List Str := one.map Prod.fst ++ two.map Prod.fst
def unl (one two : List Pr) (x : Str) : Prop := laneV (kvP one) x ≠ laneV (kvP two) x
structure IsPart (one two : List Pr) (r : Option Str) : Prop where
  no : r = none → ∀ x ∈ keys2 one two, ¬ unl one two x
  yes : ∀ z, r = some z → z ∈ keys2 one two ∧ unl one two z ∧ ∀ y ∈ keys2 one two, unl one two y → leA z y = true
theorem IsPart.uniq {one two : List Pr} {r r' : Option Str} (h : IsPart one two r) (h' : IsPart one two r') : r = r' := by
  cases r with
  | none =>
    cases r' with
    | none => rfl
    | some z => exact absurd (h'.yes z rfl).2.1 (h.no rfl z (h'.yes z rfl).1)
  | some z =>
    obtain ⟨a1, a2, a3⟩ := h.yes z rfl
    cases r' with
    | none => exact absurd a2 (h'.no rfl z a1)
    | some z' =>
      obtain ⟨b1, b2, b3⟩ := h'.yes z' rfl
      rw [leA_anti (a3 z' b1 b2) (b3 z a1 a2)]
theorem keys2_symm {one two : List Pr} {x : Str} : x ∈ keys2 one two ↔ x ∈ keys2 two one := by
  unfold keys2
  rw [List.mem_append, List.mem_append]
  exact Or.comm
theorem IsPart.symm {one two : List Pr} {r : Option Str} (h : IsPart one two r) : IsPart two one r :=
  ⟨fun e x hx u => h.no e x (keys2_symm.mpr hx) (Ne.symm u), fun z e => let ⟨a, b, c⟩ := h.yes z e; ⟨keys2_symm.mp a, Ne.symm b, fun y hy u => c y (keys2_symm.mpr hy) (Ne.symm u)⟩⟩
theorem IsPart.congr {one one' two two' : List Pr} {r : Option Str} (p1 : one.Perm one') (p2 : two.Perm two') (n1 : (one.map Prod.fst).Nodup) (n2 : (two.map Prod.fst).Nodup) (h : IsPart one two r) : IsPart one' two' r := by
  have k : ∀ x, x ∈ keys2 one' two' ↔ x ∈ keys2 one two := fun x => by
    unfold keys2
    rw [List.mem_append, List.mem_append, (p1.map Prod.fst).mem_iff, (p2.map Prod.fst).mem_iff]
  have l1 : ∀ x, laneV (kvP one) x = laneV (kvP one') x := fun x => laneV_congr (fun k => valV_perm p1 n1 k) x
  have l2 : ∀ x, laneV (kvP two) x = laneV (kvP two') x := fun x => laneV_congr (fun k => valV_perm p2 n2 k) x
  have u : ∀ x, unl one' two' x ↔ unl one two x := fun x => by
    unfold unl
    rw [l1, l2]
  exact ⟨fun e x hx z => h.no e x ((k x).mp hx) ((u x).mp z), fun z e => let ⟨a, b, c⟩ := h.yes z e; ⟨(k z).mpr a, (u z).mpr b, fun y hy w => c y ((k y).mp hy) ((u y).mp w)⟩⟩
/-- found in a walk in that order -/
theorem part_at {one two : List Pr} {zs : List Str} (pw : zs.Pairwise fun a b => leA a b = true) (mem : ∀ x, x ∈ zs ↔ x ∈ keys2 one two) {i : Nat} {z : Str} (hz : zs[i]? = some z) (before : ∀ j x, j < i → zs[j]? = some x → ¬ unl one two x) (u : unl one two z) : IsPart one two (some z) := by
  refine ⟨fun e => (by cases e), fun z' e => ?_⟩
  cases e
  refine ⟨(mem z).mp (List.mem_of_getElem? hz), u, fun y hy w => ?_⟩
  obtain ⟨j, hj⟩ := List.mem_iff_getElem?.mp ((mem y).mpr hy)
  obtain ⟨li, ei⟩ := List.getElem?_eq_some_iff.mp hz
  obtain ⟨lj, ej⟩ := List.getElem?_eq_some_iff.mp hj
  rcases Nat.lt_trichotomy i j with c | c | c
  · have q := List.pairwise_iff_getElem.mp pw i j li lj c
    rw [ei, ej] at q
    exact q
  · subst c
    rw [ei] at ej
    rw [ej]
    exact leA_refl y
  · exact absurd w (before j y c hj)
theorem part_end {one two : List Pr} {zs : List Str} (mem : ∀ x, x ∈ zs ↔ x ∈ keys2 one two) (before : ∀ j x, j < zs.length → zs[j]? = some x → ¬ unl one two x) : IsPart one two none :=
  ⟨fun _ x hx => by
    obtain ⟨j, hj⟩ := List.mem_iff_getElem?.mp ((mem x).mpr hx)
    exact before j x (List.getElem?_eq_some_iff.mp hj).1 hj, fun z e => by cases e⟩
/-- alike at all keys: alike everywhere -/
theorem alike_N {one two : List Pr} (h : ∀ x ∈ keys2 one two, ¬ unl one two x) (a : Str) : ∀ n, n ≤ a.length → laneN (kvP one) a n = laneN (kvP two) a n
  | 0, _ => rfl
  | n + 1, hn => by
    by_cases c : pre a (n + 1) ∈ keys2 one two
    · rw [← laneV_pre hn, ← laneV_pre hn]
      exact Classical.not_not.mp (h _ c)
    · have c1 : pre a (n + 1) ∉ one.map Prod.fst := fun z => c (List.mem_append_left _ z)
      have c2 : pre a (n + 1) ∉ two.map Prod.fst := fun z => c (List.mem_append_right _ z)
      rw [laneN_no (val_none c1), laneN_no (val_none c2)]
      exact alike_N h a n (by omega)
theorem alike_all {one two : List Pr} (h : ∀ x ∈ keys2 one two, ¬ unl one two x) (a : Str) : laneV (kvP one) a = laneV (kvP two) a := alike_N h a _ (Nat.le_refl _)
theorem least_sub {one two : List Pr} (g : Good one) (g2 : Good two) (h : ∀ a, laneV (kvP one) a = laneV (kvP two) a) {p : Pr} (hp : p ∈ leastR one) : p ∈ leastR two := by
  obtain ⟨m, u⟩ := mem_least.mp hp
  have k := laneV_key g m
  rw [h] at k
  have l1 := key_len g (List.mem_map.mpr ⟨p, m, rfl⟩)
  by_cases c : p.1 ∈ two.map Prod.fst
  · obtain ⟨q, hq, e⟩ := List.mem_map.mp c
    have k2 := laneV_key g2 hq
    rw [e, k] at k2
    have e2 : p.2 = q.2 := V.str.inj k2
    have : p = q := Prod.ext e.symm e2
    rw [this] at u ⊢
    exact mem_least.mpr ⟨hq, by rw [← h]; exact u⟩
  · rw [laneV_nokey l1 c, ← h] at k
    exact absurd k.symm u
theorem least_same {one two : List Pr} (g : Good one) (g2 : Good two) (h : ∀ a, laneV (kvP one) a = laneV (kvP two) a) : leastR one = leastR two := by
  refine List.Perm.eq_of_pairwise (le := fun a b => le2 a b = true) (fun a b _ _ h1 h2 => le2_anti h1 h2) (least_pw one) (least_pw two) ?_
  exact (List.perm_ext_iff_of_nodup (nodup_of_keys (least_good g).2) (nodup_of_keys (least_good g2).2)).mpr fun p => ⟨least_sub g g2 h, least_sub g2 g fun a => (h a).symm⟩
/-- the least tables are the same exactly if nothing parts -/
theorem least_iff {one two : List Pr} (g : Good one) (g2 : Good two) {r : Option Str} (P : IsPart one two r) : leastR one = leastR two ↔ r = none := by
  constructor
  · intro e
    cases r with
    | none => rfl
    | some z =>
      refine absurd ?_ (P.yes z rfl).2.1
      rw [← least_lane g, e, least_lane g2]
  · intro e
    exact least_same g g2 (alike_all (P.no e))
theorem part_least {own : List Pr} (g : Good own) : IsPart (leastR own) own none := ⟨fun _ x _ u => u (least_lane g x), fun z e => by cases e⟩
/-! ### without one row -/
theorem drop_mem {ps : List Pr} {k x : Str} : x ∈ (dropP ps k).map Prod.fst ↔ x ∈ ps.map Prod.fst ∧ x ≠ k := by
  unfold dropP
  simp only [List.mem_map, List.mem_filter, decide_eq_true_eq]
  constructor
  · rintro ⟨q, ⟨h1, h2⟩, rfl⟩
    exact ⟨⟨q, h1, rfl⟩, h2⟩
  · rintro ⟨⟨q, h1, rfl⟩, h2⟩
    exact ⟨q, ⟨h1, h2⟩, rfl⟩
theorem drop_val {ps : List Pr} (g : Good ps) {k x : Str} (n : x ≠ k) : valV (kvP (dropP ps k)) (Sum.inr x) = valV (kvP ps) (Sum.inr x) := by
  by_cases c : x ∈ ps.map Prod.fst
  · obtain ⟨q, hq, rfl⟩ := List.mem_map.mp c
    rw [valV_mem g.2 hq, valV_mem (drop_good g).2 (List.mem_filter.mpr ⟨hq, decide_eq_true n⟩)]
  · rw [val_none c, val_none fun z => c (drop_mem.mp z).1]
theorem drop_N {ps : List Pr} (g : Good ps) {k y : Str} : ∀ n, (∀ m, m ≤ n → pre y m ≠ k) → laneN (kvP (dropP ps k)) y n = laneN (kvP ps) y n
  | 0, _ => rfl
  | n + 1, h => by
    have ih := drop_N g (k := k) (y := y) n fun m hm => h m (by omega)
    have e := drop_val g (h (n + 1) (Nat.le_refl _))
    cases c : valV (kvP ps) (Sum.inr (pre y (n + 1))) with
    | none => rw [laneN_no c, laneN_no (e.trans c), ih]
    | some v => rw [laneN_yes c, laneN_yes (e.trans c)]
theorem part_drop {own : List Pr} (g : Good own) {p : Pr} (hp : p ∈ leastR own) : IsPart (dropP (leastR own) p.1) own (some p.1) := by
  obtain ⟨m, u⟩ := mem_least.mp hp
  have l1 := key_len g (List.mem_map.mpr ⟨p, m, rfl⟩)
  obtain ⟨n, hn⟩ : ∃ n, p.1.length = n + 1 := ⟨p.1.length - 1, by omega⟩
  have gl := least_good g
  refine ⟨fun e => (by cases e), fun z e => ?_⟩
  cases e
  refine ⟨List.mem_append_right _ (List.mem_map.mpr ⟨p, m, rfl⟩), ?_, fun y _ w => ?_⟩
  · show laneV _ p.1 ≠ laneV _ p.1
    rw [laneV_key g m, laneV_N, hn, laneN_no (by rw [← hn, pre_all]; exact val_none fun z => (drop_mem.mp z).2 rfl), drop_N gl n fun k hk e => ?_, least_N g _ _ (by omega)]
    · refine Ne.symm ?_
      rw [bl_pre l1, laneV_pre (by omega), hn] at u
      exact u
    · have h2 := pre_len (a := p.1) (n := k) (by omega)
      rw [e] at h2
      omega
  · by_cases c : p.1.length < y.length
    · exact leA_len c
    · by_cases d : y = p.1
      · rw [d]
        exact leA_refl _
      · refine absurd ?_ w
        rw [laneV_N, laneV_N, drop_N gl _ fun k hk e => ?_, least_N g _ _ (Nat.le_refl _)]
        have h2 := pre_len hk
        rw [e] at h2
        have : k = y.length := by omega
        rw [this, pre_all] at e
        exact d e
end Tb
namespace Tb
open PySem PySem.Spec PyProof.Rows L2
open PySem.W (EachIs AllAlike Sortable dataLe)
/-- a def of the text and what it promises -/
structure C1 (P : Program) (w : World) (K : PySem.W.Frag) (mg : Str → Option Value) (base : Heap) (x : Str) (st : Stmt) (ps : List Str) (l : Nat) (sp : Sp) (g : Addr) (gd : FuncData) : Prop where
  D : Dd K mg x st ps g gd
  G : FnOk P w K mg base CX0 l g gd ps sp
abbrev sByLen : Stmt := topS 16
abbrev NByLen : List Str := ["addresses", "pairs", "address", "pair"]
theorem scByLen : FnScope NByLen ["addresses"] (defScope sByLen) := ⟨rfl, rfl, rfl, by decide +kernel, rfl, by decide +kernel, by decide +kernel⟩
/-- a pair (length, text) at its place -/
abbrev pT (H : Hp) (u : Addr × Str) : Prop := H u.1 = some (.tup [.int (u.2.length : Int), .str u.2])
def kT (u : Addr × Str) : Addr × List Key := (u.1, [Sum.inl (u.2.length : Int), Sum.inr u.2])
theorem sub_map {α β : Type} {f : α → β} {us : List α} : ∀ {L : List β}, (∀ p ∈ L, ∃ u ∈ us, p = f u) → ∃ M : List α, L = M.map f ∧ ∀ u ∈ M, u ∈ us
  | [], _ => ⟨[], rfl, fun u h => by cases h⟩
  | p :: L, h => by
    obtain ⟨u, hu, e⟩ := h p List.mem_cons_self
    obtain ⟨M, eM, hM⟩ := sub_map fun q hq => h q (List.mem_cons_of_mem _ hq)
    refine ⟨u :: M, by rw [List.map_cons, ← e, ← eM], fun v hv => ?_⟩
    rcases List.mem_cons.mp hv with rfl | hv
    · exact hu
    · exact hM v hv
theorem each_map_eq {α β : Type} {g : α → β} : ∀ {bs : List β} {M : List α}, EachIs (fun b u => b = g u) bs M → bs = M.map g
  | _, _, .nil => rfl
  | _, _, .cons h t => by rw [h, each_map_eq t]; rfl
theorem each_map_of {α β : Type} (g : α → β) : ∀ M : List α, EachIs (fun b u => b = g u) (M.map g) M
  | [] => .nil
  | _ :: M => .cons rfl (each_map_of g M)
theorem perm_map {α β : Type} {g : α → β} {cs : List β} {M : List α} (p : cs.Perm (M.map g)) : ∃ N : List α, N.Perm M ∧ cs = N.map g := by
  obtain ⟨N, h1, h2⟩ := SH.each_perm p.symm (each_map_of g M)
  exact ⟨N, h1, each_map_eq h2⟩
theorem alike_A (L : List Str) : AllAlike (L.map encA) := fun d hd d' hd' => by
  obtain ⟨x, _, rfl⟩ := List.mem_map.mp hd
  obtain ⟨y, _, rfl⟩ := List.mem_map.mp hd'
  simp [encA, PySem.W.alike, PySem.W.alikeAll]
theorem sortable_A (L : List Str) : Sortable (L.map encA) := .inl fun d hd => by
  obtain ⟨x, _, rfl⟩ := List.mem_map.mp hd
  exact ⟨_, _, rfl⟩
theorem depth_A (x : Str) : (encA x).depth ≤ 10 := by simp [encA, PyData.depth, PyData.depthAll]
theorem dp_A {K : PySem.W.Frag} {H : Hp} {u : Addr × Str} (h : pT H u) : Dp K H (.ref u.1) (encA u.2) := .tup (.of h) (.cons (.int _) (.cons (.str _) .nil))
/-- a text list by length -/
def spByLen (K : PySem.W.Frag) : Sp := fun vs H Q _ => ∃ (l : Addr) (ks : List Str), vs = [.ref l] ∧ SqL K H l (ks.map V.str) ∧ ks.length ≤ 300 ∧ (∀ x ∈ ks, x.length ≤ 1000) ∧
  ∀ (F : Addr) (zs : List Str) (H' : Hp), Same H H' → H F = none → H' F = some (.lst (zs.map V.str)) → zs.Pairwise (fun a b => leA a b = true) → (∀ x, x ∈ zs ↔ x ∈ ks) → zs.length ≤ 300 → Q (.ref F) H'
section
variable {P : Program} {w : World} {K : PySem.W.Frag} {mg : Str → Option Value} {base : Heap}
/-- a dict and an address in; what g says out, the heap as it was -/
def spDR (g : Kvs → Str → V) : Sp := fun vs H Q _ => ∃ (d : Addr) (kvs : Kvs) (a : Str), vs = [.ref d, .str a] ∧ Rd H d (.dK kvs) ∧ a.length ≤ 1000 ∧ Q (g kvs a) H
theorem ok_longR {f : Addr} {fd : FuncData} {k : Nat} (F : Fun K "longest_prefix" "longest_prefix" sLong f fd) (B : Blt mg) : FnOk P w K mg base CX0 (k + 1) f fd ["prefixes", "address"] (spDR fun kvs a => oStr (long kvs a)) := by
  refine F.ok scLong (fun vs H Q E h => ?_) (fun cdv A outer s H vs Q E hr h => ?_)
  · obtain ⟨d, kvs, a, rfl, _⟩ := h
    rfl
  · obtain ⟨d, kvs, a, rfl, hd, hl, q⟩ := h
    have hu := hu_of hr
    refine ⟨_, pss_cons (ps_for PassesOwn.never rfl (pi_range3 (by rfl) B.range (pa_cons (pe_callB call_len_str (by rfl) B.len PySem.boot_len (pa_cons (pv 1) pa_nil)) (pa_cons pe_int (pa_cons (pe_un un_neg pe_int) pa_nil)))) (pg_name (i := 2) scLong.nd rfl (.inl rfl))
        (pss_one (ps_if (pt_cmp (pc_din hu (pe_slice sl_str (pv 1) po_none (po_some (pv 2))) (pv 0))) (pss_one (ps_ret (pe_slice sl_str (pv 1) po_none (po_some (pv 2))))) pss_nil)))
      (pss_one (ps_ret pe_non)), ?_⟩
    have hz : sizeLine = 16777216 := rfl
    refine ⟨.str a, rfl, a, rfl, by omega, 1, rfl, (a.length : Int), 0, -1, ((a.length : Int) - 0).toNat, rfl, RgC.neg (by omega) (by omega) (by omega) (by omega), ?_⟩
    refine for_rangeC (lo := (a.length : Int)) (c := -1) (n := ((a.length : Int) - 0).toNat) (fun i σ H' => ∃ y, σ = [some (.ref d), some (.str a), y] ∧ H' = H ∧ long kvs a = lp kvs a (a.length - i)) ⟨none, rfl, rfl, rfl⟩ ?_ ?_
    · rintro i σ H' hi ⟨y, rfl, rfl, e⟩
      have hi' : i < a.length := by omega
      have ei : (a.length : Int) + (i : Int) * -1 = ((a.length - i : Nat) : Int) := by omega
      rw [ei]
      refine ⟨.str a, rfl, .int ((a.length - i : Nat) : Int), rfl, ((a.length - i : Nat) : Int), rfl, a, rfl, by omega, .ref d, rfl, d, _, rfl, (.inl ⟨_, Sum.inr (pre a (a.length - i)), hd, rfl, rfl⟩ : DGet _ _ _ _), ?_⟩
      obtain ⟨m, em⟩ : ∃ m, a.length - i = m + 1 := ⟨a.length - i - 1, by omega⟩
      by_cases c : (valV kvs (Sum.inr (pre a (a.length - i)))).isSome = true
      · refine ⟨_, rfl, ?_⟩
        rw [c]
        refine ⟨.str a, rfl, .int ((a.length - i : Nat) : Int), rfl, ((a.length - i : Nat) : Int), rfl, a, rfl, by omega, ?_⟩
        have : long kvs a = some (pre a (a.length - i)) := by
          rw [e, em]
          unfold lp
          rw [← em, if_pos c]
        have q : Q (oStr (long kvs a)) H' := q
        rw [this] at q
        exact q
      · refine ⟨_, rfl, ?_⟩
        rw [Bool.eq_false_iff.mpr c]
        refine ⟨_, rfl, rfl, ?_⟩
        rw [e, em]
        show (if (valV kvs (Sum.inr (pre a (m + 1)))).isSome = true then some (pre a (m + 1)) else lp kvs a m) = _
        rw [← em, if_neg c, show a.length - (i + 1) = m by omega]
    · rintro σ H' ⟨y, rfl, rfl, e⟩
      rw [show a.length - ((a.length : Int) - 0).toNat = 0 by omega] at e
      have q : Q (oStr (long kvs a)) H' := q
      rw [e] at q
      exact q
theorem ok_laneR {f g : Addr} {fd gd : FuncData} (F : Fun K "_lane" "_lane" sLane f fd) (D : Dd K mg "longest_prefix" sLong ["prefixes", "address"] g gd) (B : Blt mg) : FnOk P w K mg base CX0 2 f fd ["lanes", "address"] (spDR laneV) := by
  have G : FnOk P w K mg base CX0 1 g gd ["prefixes", "address"] (spDR fun kvs a => oStr (long kvs a)) := ok_longR D.F B
  refine F.ok scLane (fun vs H Q E h => ?_) (fun cdv A outer s H vs Q E hr h => ?_)
  · obtain ⟨d, kvs, a, rfl, _⟩ := h
    rfl
  · obtain ⟨d, kvs, a, rfl, hd, hl, q⟩ := h
    have hu := hu_of hr
    refine ⟨_, pss_cons (ps_set (i := 2) scLane.nd rfl (.inl rfl) (pe_call G hr (by rfl) D.g D.F.kp D.b .nil pass0 (pa_cons (pv 0) (pa_cons (pv 1) pa_nil))))
      (pss_cons (ps_if (pt_cmpR op_isN (pv 2) pe_non (nomark _)) (pss_one (ps_ret pe_non)) pss_nil)
      (pss_one (ps_ret (pe_dget hu (pv 0) (pv 2) (fun _ _ => rfl))))), ?_⟩
    refine ⟨.ref d, rfl, .str a, rfl, d, kvs, a, rfl, hd, hl, ?_⟩
    have q : Q (laneV kvs a) H := q
    show gName 2 (oStr (long kvs a)) _ _ _
    unfold laneV at q
    cases e : long kvs a with
    | none =>
      rw [e] at q
      exact ⟨.non, rfl, rfl, true, rfl, q⟩
    | some p =>
      rw [e] at q
      obtain ⟨v, ev⟩ := lp_some e
      have q : Q ((valV kvs (Sum.inr p)).getD .non) H := q
      rw [ev] at q
      refine ⟨.str p, rfl, rfl, false, rfl, .ref d, rfl, .str p, rfl, d, v, rfl, ?_, q⟩
      rw [← ev]
      exact .inl ⟨_, Sum.inr p, hd, rfl, rfl⟩
theorem ok_bylen {f : Addr} {fd : FuncData} {k : Nat} (F : Fun K "by_length" "by_length" sByLen f fd) (B : Blt mg) (zset : mg "set" = none) : FnOk P w K mg base CX0 (k + 1) f fd ["addresses"] (spByLen K) := by
  refine F.ok scByLen (fun vs H Q E h => ?_) (fun cdv A outer s H vs Q E hr h => ?_)
  · obtain ⟨l, ks, rfl, _⟩ := h
    rfl
  · obtain ⟨l, ks, rfl, hl, hn, hx, q⟩ := h
    have hz : sizeLine = 16777216 := rfl
    refine ⟨_, (pss_cons (ps_set (i := 1) scByLen.nd rfl (.inl rfl) (pe_callB (r := SH.rSortSet K w) (SH.cr_sortSet rfl hr.units) (by rfl) B.sorted PyProof.Rows.boot_sorted (pa_cons (pe_callTy (r := SH.rSetT K P w) (SH.cr_setT rfl hr.units) (by rfl) zset boot_set (pa_cons (pe_lc (own := [("address", 2)]) (g := gName 2) (by rfl) scByLen.nd (pi_list (pv 0)) (blkOk_by (N := NByLen) (sc := defScope sByLen) (by decide +kernel)) (fun _ _ _ _ _ => pg_name (i := 2) scByLen.nd rfl (Or.inl rfl)) (fun _ _ _ _ _ => pts_nil) (fun _ _ _ _ _ => pe_tup (pa_cons (pe_callB call_len_str (by rfl) B.len PySem.boot_len (pa_cons (pv 2) pa_nil)) (pa_cons (pv 2) pa_nil)))) pa_nil)) pa_nil)))
      (pss_one (ps_ret (pe_lc (own := [("pair", 3)]) (g := gName 3) (by rfl) scByLen.nd (pi_list (pv 1)) (blkOk_by (N := NByLen) (sc := defScope sByLen) (by decide +kernel)) (fun _ _ _ _ _ => pg_name (i := 3) scByLen.nd rfl (Or.inl rfl)) (fun _ _ _ _ _ => pts_nil) (fun _ _ _ _ _ => pe_ix (r := rIxT K) ix_tup (pv 3) pe_int (fun _ _ => rfl)))))), ?_⟩
    refine ⟨.ref l, rfl, l, rfl, ⟨_, hl⟩, fun D nD => ?_⟩
    refine lc_it (walk_list (a := l) (xs := ks.map V.str)) (fun i H1 => Same H H1 ∧ ∃ us : List (Addr × Str), H1 D = some (.lst (us.map fun u => V.ref u.1)) ∧ us.map (·.2) = ks.take i ∧ ∀ u ∈ us, pT H1 u) ⟨same_upd nD, [], upd_same, rfl, fun u h => by cases h⟩ (fun i H1 _ hP => hP.1.seq hl) (fun i v H1 H2 hi hP hy => ?_) (fun H1 hP => ?_)
    · obtain ⟨S1, us, hD, eu, hu⟩ := hP
      obtain ⟨rfl, ev⟩ := hy
      rw [List.getElem?_map] at ev
      cases ek : ks[i]? with
      | none => rw [ek] at ev; cases ev
      | some x =>
      rw [ek] at ev
      cases (Option.some.inj ev)
      have xl := hx x (List.mem_of_getElem? ek)
      refine ⟨rfl, .str x, rfl, x, rfl, by omega, .str x, rfl, by show 2 ≤ sizeLine; omega, fun T nT => ?_⟩
      have lu : us.length ≤ 300 := by
        have := congrArg List.length eu
        rw [List.length_map, List.length_take] at this
        omega
      have DT : D ≠ T := ne_of_none hD nT
      refine ⟨_, by rw [upd_ne DT]; exact hD, by rw [List.length_map]; omega, fun b o hb => ?_, us ++ [(T, x)], ?_, ?_, fun u hu' => ?_⟩
      · rw [upd_ne (ne_of_none hb nD)]
        exact (S1.trans (same_upd nT)) _ _ hb
      · rw [upd_same, List.map_append]
        rfl
      · rw [List.map_append, eu, List.take_add_one, ek]
        rfl
      · rcases List.mem_append.mp hu' with hm | hm
        · show L2.upd _ D _ u.1 = _
          rw [upd_ne (ne_of (hu u hm) hD (fun z => by cases z)), upd_ne (ne_of_none (hu u hm) nT)]
          exact hu u hm
        · rw [List.mem_singleton.mp hm]
          show L2.upd _ D _ T = _
          rw [upd_ne (Ne.symm DT)]
          exact upd_same
    · obtain ⟨S1, us, hD, eu, hu⟩ := hP
      have ew : us.map (·.2) = ks := by
        rw [eu, List.length_map, List.take_length]
      clear eu
      have lu : us.length = ks.length := by rw [← ew, List.length_map]
      -- the set of the pairs
      refine ⟨D, us.map kT, rfl, sqOf (by rw [List.map_map]; exact hD), fun p hp => ?_, by rw [List.length_map]; omega, fun a L na g nd => ?_⟩
      · obtain ⟨u, hm, rfl⟩ := List.mem_map.mp hp
        exact .of (hu u hm)
      obtain ⟨M, rfl, hM⟩ := sub_map (f := kT) (us := us) fun p hp => by
        have := g.sub p hp
        rw [List.take_length] at this
        obtain ⟨u, hm, e⟩ := List.mem_map.mp this
        exact ⟨u, hm, e.symm⟩
      have all : ∀ x, x ∈ M.map (·.2) ↔ x ∈ ks := fun x => by
        rw [← ew]
        constructor
        · intro hm
          obtain ⟨u, h1, e⟩ := List.mem_map.mp hm
          exact List.mem_map.mpr ⟨u, hM u h1, e⟩
        · intro hm
          obtain ⟨u, h1, rfl⟩ := List.mem_map.mp hm
          have := g.all (kT u) (by rw [List.take_length]; exact List.mem_map.mpr ⟨u, h1, rfl⟩)
          rw [List.map_map] at this
          obtain ⟨v, h2, e⟩ := List.mem_map.mp this
          have e2 : ([Sum.inl (v.2.length : Int), Sum.inr v.2] : List Key) = [Sum.inl (u.2.length : Int), Sum.inr u.2] := e
          have e3 : v.2 = u.2 := by
            simp only [List.cons.injEq, Sum.inr.injEq] at e2
            exact e2.2.1
          exact List.mem_map.mpr ⟨v, h2, e3⟩
      have lM : M.length ≤ 300 := by
        have := g.len
        rw [List.length_map, List.length_map] at this
        omega
      have Sa : Same H (L2.upd H1 a (SH.SetT P w a (M.map kT))) := S1.trans (same_upd na)
      have hu2 : ∀ u ∈ us, pT (L2.upd H1 a (SH.SetT P w a (M.map kT))) u := fun u hm => (same_upd na) _ _ (hu u hm)
      -- sorted
      refine ⟨a, M.map fun u => (V.ref u.1, encA u.2), _, rfl, upd_same, fun h hU => ?_, fun b hb => ?_, ?_, ?_, fun b hb => ?_, fun cs p pc pw np => ?_⟩
      · have := SH.SetP.walked hU
        rw [List.map_map] at this
        rw [List.map_map]
        exact this
      · obtain ⟨u, hm, rfl⟩ := List.mem_map.mp hb
        exact dp_A (hu2 u (hM u hm))
      · rw [List.map_map, show (Prod.snd ∘ fun u : Addr × Str => (V.ref u.1, encA u.2)) = encA ∘ Prod.snd from rfl, ← List.map_map]
        exact alike_A _
      · rw [List.map_map, show (Prod.snd ∘ fun u : Addr × Str => (V.ref u.1, encA u.2)) = encA ∘ Prod.snd from rfl, ← List.map_map]
        exact sortable_A _
      · obtain ⟨u, hm, rfl⟩ := List.mem_map.mp hb
        exact depth_A _
      obtain ⟨N, pN, rfl⟩ := perm_map pc
      have lN : N.length ≤ 300 := by rw [pN.length_eq]; exact lM
      have pw2 : (N.map (·.2)).Pairwise (fun a b => leA a b = true) := List.pairwise_map.mpr (List.pairwise_map.mp pw)
      have mem2 : ∀ x, x ∈ N.map (·.2) ↔ x ∈ ks := fun x => ((pN.map (·.2)).mem_iff).trans (all x)
      rw [List.map_map]
      generalize L2.upd H1 a (SH.SetT P w a (M.map kT)) = H3 at Sa hu2 np
      have Sp : Same H (L2.upd H3 p (.lst (N.map (Prod.fst ∘ fun u : Addr × Str => (V.ref u.1, encA u.2))))) := Sa.trans (same_upd np)
      have hN : ∀ u ∈ N, pT (L2.upd H3 p (.lst (N.map (Prod.fst ∘ fun u : Addr × Str => (V.ref u.1, encA u.2))))) u := fun u hm => (same_upd np) _ _ (hu2 u (hM u (pN.mem_iff.mp hm)))
      have hp : (L2.upd H3 p (.lst (N.map (Prod.fst ∘ fun u : Addr × Str => (V.ref u.1, encA u.2))))) p = some (.lst (N.map fun u => V.ref u.1)) := upd_same
      generalize L2.upd H3 p (.lst (N.map (Prod.fst ∘ fun u : Addr × Str => (V.ref u.1, encA u.2)))) = H4 at Sp hN hp
      refine ⟨.ref p, rfl, p, rfl, ⟨_, sqOf hp⟩, fun F nF => ?_⟩
      refine lc_it (walk_list (a := p) (xs := N.map fun u => V.ref u.1)) (fun i H5 => Same H4 H5 ∧ H5 F = some (.lst (((N.map (·.2)).take i).map V.str))) ⟨same_upd nF, upd_same⟩ (fun i H5 _ hP => sqOf (hP.1 _ _ hp)) (fun i v H5 H6 hi hP hy => ?_) (fun H5 hP => ?_)
      · obtain ⟨S5, hF⟩ := hP
        obtain ⟨rfl, ev⟩ := hy
        rw [List.getElem?_map] at ev
        cases ek : N[i]? with
        | none => rw [ek] at ev; cases ev
        | some u =>
        rw [ek] at ev
        cases (Option.some.inj ev)
        have hm := List.mem_of_getElem? ek
        refine ⟨rfl, .ref u.1, rfl, u.1, _, 1, .str u.2, rfl, rfl, .of (S5 _ _ (hN u hm)), atI_nat (j := 1) rfl, _, hF, ?_, fun b o hb => ?_, ?_⟩
        · rw [List.length_map, List.length_take, List.length_map]
          omega
        · rw [upd_ne (ne_of_none hb nF)]
          exact S5 _ _ hb
        · rw [upd_same, List.take_add_one, List.getElem?_map, ek, List.map_append]
          rfl
      · obtain ⟨S5, hF⟩ := hP
        rw [List.length_map, ← List.length_map (f := fun u : Addr × Str => u.2), List.take_length] at hF
        exact q F _ H5 (Sp.trans S5) (Sp.free nF) hF pw2 mem2 (by rw [List.length_map]; exact lN)
end
end Tb
namespace Tb
open PySem PySem.Spec PyProof.Rows L2
section
variable {X : Cx}
/-- a dict and an empty one -/
def rNeD0 : R2 := fun x y H Q => ∃ (a b : Addr) (ks : Kvs), x = .ref a ∧ y = .ref b ∧ H a = some (.dK ks) ∧ H b = some (.dK []) ∧ Q (.bl (!ks.isEmpty)) H
theorem op_ne_dict0 (hu : X.A.units < cLine) : OpR X (compareOp .NotEq) rNeD0 := by
  intro pins s σ H x y v u Q I rx ry h
  obtain ⟨a, b, ks, rfl, rfl, ea, eb, q⟩ := h
  obtain rfl : v = Value.ref a := rx
  obtain rfl : u = Value.ref b := ry
  obtain ⟨_, ya, va, ra, da⟩ := (show ObjOk X.prog X.w H s.heap a (.dK ks) from I.hok a _ ea)
  obtain ⟨_, yb, vb, rb, db⟩ := (show ObjOk X.prog X.w H s.heap b (.dK []) from I.hok b _ eb)
  have la : ks.length = va.length := ra.length
  have lb : 0 = vb.length := rb.length
  cases ks with
  | nil =>
    have hl : va.length = vb.length := by rw [← la, ← lb]; rfl
    exact PySem.W.keq_ne (knd := mixKind X.prog X.w) (r := true) ya yb da db hu (fun _ => hits_all rb ra (fun p hp => by cases hp)) (fin_bl I q (by simp [hl]))
  | cons k ks =>
    have hl : ¬ va.length = vb.length := by rw [← la, ← lb]; simp
    exact PySem.W.keq_ne (knd := mixKind X.prog X.w) (r := true) ya yb da db hu (fun e => absurd e hl) (fin_bl I q (by simp [hl]))
end
theorem Bag.lst {H : Hp} {p : Addr} (B : Bag H p) : ∃ xs, H p = some (.lst xs) := by
  obtain ⟨n, c, m, ns, hp, _⟩ := B
  exact ⟨_, hp⟩
theorem paired_rows {K : PySem.W.Frag} {H : Hp} : ∀ {ts : List (Addr × Pr)}, (∀ t ∈ ts, H t.1 = some (.tup [.str t.2.1, .str t.2.2])) → Paired (fun (p : Addr) (kv : Key × V) => SqT K H p [kV kv.1, kv.2]) (ts.map Prod.fst) (kvP (ts.map (·.2)))
  | [], _ => .nil
  | t :: ts, h => .cons (.of (h t List.mem_cons_self)) (paired_rows fun x hx => h x (List.mem_cons_of_mem _ hx))
theorem merge_from (qs : List Pr) : ∀ ps : List Pr, ((ps ++ qs).map Prod.fst).Nodup → mergeK (kvP ps) (kvP qs) = kvP (ps ++ qs) := by
  induction qs with
  | nil => intro ps _; rw [List.append_nil]; rfl
  | cons r qs ih =>
    intro ps h
    show mergeK (putK (kvP ps) (Sum.inr r.1) (V.str r.2)) (kvP qs) = _
    have hn : valV (kvP ps) (Sum.inr r.1) = none := by
      cases e : valV (kvP ps) (Sum.inr r.1) with
      | none => rfl
      | some v =>
        exfalso
        have m := (valV_kvP r.1 ps).mp (by rw [e]; rfl)
        rw [List.map_append, List.nodup_append] at h
        exact h.2.2 _ m _ (by simp) rfl
    have e : putK (kvP ps) (Sum.inr r.1) (V.str r.2) = kvP (ps ++ [r]) := by
      rw [putK_new _ hn]
      unfold kvP
      rw [List.map_append]
      rfl
    rw [e, ih (ps ++ [r]) (by rw [List.append_assoc]; exact h), List.append_assoc]
    rfl
theorem merge_kvP {ps : List Pr} (h : (ps.map Prod.fst).Nodup) : mergeK [] (kvP ps) = kvP ps := merge_from ps [] h

/-- a dict of good rows at d -/
structure Dc (H : Hp) (d : Addr) (own : List Pr) : Prop where
  d : H d = some (.dK (kvP own))
  g : Good own
theorem Dc.same {H H' : Hp} {d : Addr} {own : List Pr} (D : Dc H d own) (h : Same H H') : Dc H' d own := ⟨h _ _ D.d, D.g⟩
theorem Dc.but {H H' : Hp} {d p : Addr} {own : List Pr} (D : Dc H d own) (B : Bag H p) (h : But p H H') : Dc H' d own := by
  obtain ⟨xs, hp⟩ := B.lst
  exact ⟨h _ _ D.d (ne_of D.d hp (fun z => by cases z)), D.g⟩
theorem lane_is {own : List Pr} (g : Good own) {a : Str} {w : Str} (h : laneV (kvP own) a = .str w) : isLane w = true := by
  rcases laneV_kvP own a with e | ⟨z, e, q, hq, rfl⟩
  · rw [e] at h
    cases h
  · rw [e] at h
    cases h
    exact (g.1 q hq).2
section
variable {P : Program} {w : World} {K : PySem.W.Frag} {mg : Str → Option Value} {base : Heap}
abbrev CPrefix (P : Program) (w : World) (K : PySem.W.Frag) (mg : Str → Option Value) (base : Heap) (g : Addr) (gd : FuncData) := C1 P w K mg base "_law_prefix" sPrefix ["bag", "known"] 2 spPrefix g gd
abbrev CDraw (P : Program) (w : World) (K : PySem.W.Frag) (mg : Str → Option Value) (base : Heap) (g : Addr) (gd : FuncData) := C1 P w K mg base "_law_draw" sDraw ["bag", "size"] 1 spDraw g gd
abbrev CAfter (P : Program) (w : World) (K : PySem.W.Frag) (mg : Str → Option Value) (base : Heap) (g : Addr) (gd : FuncData) := C1 P w K mg base "_law_after" sLAfter ["own", "prefix", "way"] 1 spAfter g gd
end
end Tb
namespace Tb
open PySem PySem.Spec PyProof.Rows L2
open PySem.W (TotalLe dataLe)
/-! ### plans -/
abbrev Pl := List (Str × List Pr)
def rowsOf (pl : Pl) (t : Str) : List Pr := match pl.find? fun e => decide (e.1 = t) with
  | some e => e.2
  | none => []
def laneAt (pl : Pl) (a t : Str) : V := laneV (kvP (rowsOf pl t)) a
structure GoodPl (pl : Pl) : Prop where
  e : ∀ x ∈ pl, isName x.1 = true ∧ Good x.2 ∧ x.1 ∉ x.2.map Prod.snd
  n : (pl.map Prod.fst).Nodup
def tot (pl : Pl) : Nat := (pl.map fun x => x.2.length).sum
def isStem (pl : Pl) (x : Str) : Prop := ∃ e ∈ pl, x ∈ e.2.map Prod.fst
theorem find_mem {pl : Pl} (n : (pl.map Prod.fst).Nodup) {e : Str × List Pr} (h : e ∈ pl) : pl.find? (fun x => decide (x.1 = e.1)) = some e := by
  induction pl with
  | nil => cases h
  | cons x pl ih =>
    rw [List.map_cons, List.nodup_cons] at n
    by_cases c : x.1 = e.1
    · rw [List.find?_cons_of_pos (by simpa using c)]
      rcases List.mem_cons.mp h with rfl | h
      · rfl
      · exact absurd (List.mem_map.mpr ⟨e, h, c.symm⟩) n.1
    · rw [List.find?_cons_of_neg (by simpa using c)]
      rcases List.mem_cons.mp h with rfl | h
      · exact absurd rfl c
      · exact ih n.2 h
theorem rows_mem {pl : Pl} (n : (pl.map Prod.fst).Nodup) {e : Str × List Pr} (h : e ∈ pl) : rowsOf pl e.1 = e.2 := by
  unfold rowsOf
  rw [find_mem n h]
theorem rows_not {pl : Pl} {t : Str} (h : t ∉ pl.map Prod.fst) : rowsOf pl t = [] := by
  unfold rowsOf
  rw [List.find?_eq_none.mpr fun x hx => by
    rw [decide_eq_true_eq]
    exact fun e => h (List.mem_map.mpr ⟨x, hx, e⟩)]
theorem rows_case (pl : Pl) (t : Str) : (∃ e ∈ pl, e.1 = t ∧ rowsOf pl t = e.2) ∨ (t ∉ pl.map Prod.fst ∧ rowsOf pl t = []) := by
  unfold rowsOf
  cases c : pl.find? fun e => decide (e.1 = t) with
  | some e => exact .inl ⟨e, List.mem_of_find?_eq_some c, by simpa using List.find?_some c, rfl⟩
  | none =>
    refine .inr ⟨fun m => ?_, rfl⟩
    obtain ⟨x, hx, e⟩ := List.mem_map.mp m
    have := List.find?_eq_none.mp c x hx
    exact this (decide_eq_true e)
theorem lane_nil (a : Str) : laneV (kvP []) a = .non := by
  rcases laneV_kvP [] a with e | ⟨z, e, q, hq, _⟩
  · exact e
  · cases hq
theorem lane_key {pl : Pl} {a t : Str} (h : laneAt pl a t ≠ .non) : t ∈ pl.map Prod.fst := by
  rcases rows_case pl t with ⟨e, he, rfl, _⟩ | ⟨_, e⟩
  · exact List.mem_map.mpr ⟨e, he, rfl⟩
  · exact absurd (by unfold laneAt; rw [e, lane_nil]) h
theorem lane_str (pl : Pl) (a t : Str) : laneAt pl a t = .non ∨ ∃ w, laneAt pl a t = .str w := by
  rcases laneV_kvP (rowsOf pl t) a with e | ⟨z, e, _⟩
  · exact .inl e
  · exact .inr ⟨z, e⟩
theorem lane_row {pl : Pl} (g : GoodPl pl) {a t w : Str} (h : laneAt pl a t = .str w) : isLane w = true ∧ w ≠ t := by
  rcases rows_case pl t with ⟨e, he, rfl, er⟩ | ⟨_, er⟩
  · have ge := g.e e he
    rcases laneV_kvP (rowsOf pl e.1) a with e0 | ⟨z, e1, q, hq, rfl⟩
    · rw [show laneAt pl a e.1 = _ from e0] at h
      cases h
    · rw [show laneAt pl a e.1 = _ from e1] at h
      cases h
      rw [er] at hq
      exact ⟨(ge.2.1.1 q hq).2, fun z => ge.2.2 (List.mem_map.mpr ⟨q, hq, z⟩)⟩
  · rw [laneAt, er, lane_nil] at h
    cases h
/-! ### paths -/
def wHere : Str := Str.ofString "here"
def wNone : Str := Str.ofString "none"
def wLoop : Str := Str.ofString "loop"
def wE : Str := Str.ofString ""
def pathF (nx : Str → V) : Nat → List Str → Str → List Str × Str
  | 0, p, l => (p ++ [l], wLoop)
  | n + 1, p, l => match nx l with
    | .str w => if w = wE then (p ++ [l], wHere) else if w ∈ p ++ [l] then (p ++ [l] ++ [w], wLoop) else pathF nx n (p ++ [l]) w
    | _ => (p ++ [l], wNone)
def pth (pl : Pl) (a t : Str) : List Str × Str := pathF (laneAt pl a) (pl.length + 1) [] t
theorem pth_congr {one two : Pl} {a b : Str} (h : ∀ t, laneAt one a t = laneAt two b t) (hl : one.length = two.length) (t : Str) : pth one a t = pth two b t := by
  unfold pth
  rw [show laneAt one a = laneAt two b from funext h, hl]
theorem pth_none {pl : Pl} {a t : Str} (h : laneAt pl a t = .non) : pth pl a t = ([t], wNone) := by
  unfold pth pathF
  rw [h]
  rfl
/-- the signs of all that a path holds -/
theorem path_mem {pl : Pl} {a : Str} : ∀ (n : Nat) (p : List Str) (l : Str), ∀ x ∈ (pathF (laneAt pl a) n p l).1, x ∈ p ∨ x = l ∨ ∃ t, laneAt pl a t = .str x
  | 0, p, l, x, h => by
    rcases List.mem_append.mp h with h | h
    · exact .inl h
    · exact .inr (.inl (List.mem_singleton.mp h))
  | n + 1, p, l, x, h => by
    unfold pathF at h
    have base : x ∈ p ++ [l] → x ∈ p ∨ x = l ∨ ∃ t, laneAt pl a t = .str x := fun h => by
      rcases List.mem_append.mp h with h | h
      · exact .inl h
      · exact .inr (.inl (List.mem_singleton.mp h))
    rcases lane_str pl a l with e | ⟨w, e⟩
    · rw [e] at h
      exact base h
    · rw [e] at h
      dsimp only at h
      by_cases c : w = wE
      · rw [if_pos c] at h
        exact base h
      · rw [if_neg c] at h
        by_cases d : w ∈ p ++ [l]
        · rw [if_pos d] at h
          rcases List.mem_append.mp h with h | h
          · exact base h
          · rw [List.mem_singleton.mp h]
            exact .inr (.inr ⟨l, e⟩)
        · rw [if_neg d] at h
          rcases path_mem n (p ++ [l]) w x h with h | rfl | h
          · exact base h
          · exact .inr (.inr ⟨l, e⟩)
          · exact .inr (.inr h)
theorem path_len {nx : Str → V} : ∀ (n : Nat) (p : List Str) (l : Str), (pathF nx n p l).1.length ≤ p.length + n + 1
  | 0, p, l => by
    show (p ++ [l]).length ≤ _
    rw [List.length_append]
    exact Nat.le_refl _
  | n + 1, p, l => by
    unfold pathF
    have e : (p ++ [l]).length = p.length + 1 := by rw [List.length_append]; rfl
    cases nx l with
    | str w =>
      dsimp only
      by_cases c : w = wE
      · rw [if_pos c]
        show (p ++ [l]).length ≤ _
        omega
      · rw [if_neg c]
        by_cases d : w ∈ p ++ [l]
        · rw [if_pos d]
          show (p ++ [l] ++ [w]).length ≤ _
          rw [List.length_append, e]
          show p.length + 1 + 1 ≤ _
          omega
        · rw [if_neg d]
          have := path_len (nx := nx) n (p ++ [l]) w
          omega
    | _ =>
      show (p ++ [l]).length ≤ _
      omega
theorem path_word {nx : Str → V} : ∀ (n : Nat) (p : List Str) (l : Str), (pathF nx n p l).2 = wHere ∨ (pathF nx n p l).2 = wNone ∨ (pathF nx n p l).2 = wLoop
  | 0, p, l => .inr (.inr rfl)
  | n + 1, p, l => by
    unfold pathF
    cases nx l with
    | str w =>
      dsimp only
      by_cases c : w = wE
      · rw [if_pos c]
        exact .inl rfl
      · rw [if_neg c]
        by_cases d : w ∈ p ++ [l]
        · rw [if_pos d]
          exact .inr (.inr rfl)
        · rw [if_neg d]
          exact path_word n _ _
    | _ => exact .inr (.inl rfl)
/-! ### where two plans part -/
def same (one two : Pl) (t x : Str) : Prop := pth one x t = pth two x t
structure FP (one two : Pl) (starts : List Str) (r : Option (Str × Str)) : Prop where
  no : r = none → ∀ t ∈ starts, ∀ x, (isStem one x ∨ isStem two x) → same one two t x
  yes : ∀ (t x : Str), r = some (t, x) → ∃ i : Nat, starts[i]? = some t ∧ (∀ (j : Nat) (u : Str), j < i → starts[j]? = some u → ∀ y, (isStem one y ∨ isStem two y) → same one two u y) ∧ (isStem one x ∨ isStem two x) ∧ ¬ same one two t x ∧ ∀ y, (isStem one y ∨ isStem two y) → ¬ same one two t y → leA x y = true
theorem FP.uniq {one two : Pl} {starts : List Str} {r r' : Option (Str × Str)} (h : FP one two starts r) (h' : FP one two starts r') : r = r' := by
  cases r with
  | none =>
    cases r' with
    | none => rfl
    | some z =>
      obtain ⟨i, a1, _, a3, a4, _⟩ := h'.yes z.1 z.2 rfl
      exact absurd (h.no rfl _ (List.mem_of_getElem? a1) _ a3) a4
  | some z =>
    obtain ⟨i, a1, a2, a3, a4, a5⟩ := h.yes z.1 z.2 rfl
    cases r' with
    | none => exact absurd (h'.no rfl _ (List.mem_of_getElem? a1) _ a3) a4
    | some z' =>
      obtain ⟨i', b1, b2, b3, b4, b5⟩ := h'.yes z'.1 z'.2 rfl
      rcases Nat.lt_trichotomy i i' with c | c | c
      · exact absurd (b2 i z.1 c a1 _ a3) a4
      · subst c
        rw [a1] at b1
        have et : z.1 = z'.1 := Option.some.inj b1
        rw [← et] at b4 b5
        have ex := leA_anti (a5 _ b3 b4) (b5 _ a3 a4)
        rw [Prod.ext et ex]
      · exact absurd (a2 i' z'.1 c b1 _ b3) b4
theorem FP.symm {one two : Pl} {starts : List Str} {r : Option (Str × Str)} (h : FP one two starts r) : FP two one starts r :=
  ⟨fun e t ht x hx => (h.no e t ht x hx.symm).symm, fun t x e => let ⟨i, a1, a2, a3, a4, a5⟩ := h.yes t x e; ⟨i, a1, fun j u hj hu y hy => (a2 j u hj hu y hy.symm).symm, a3.symm, fun s => a4 s.symm, fun y hy ns => a5 y hy.symm fun s => ns s.symm⟩⟩
/-- a plan as good as another -/
structure Sim (one two : Pl) : Prop where
  l : ∀ a t, laneAt one a t = laneAt two a t
  n : one.length = two.length
theorem Sim.pth {one two : Pl} (h : Sim one two) (a t : Str) : pth one a t = pth two a t := pth_congr (h.l a) h.n t
theorem Sim.refl (pl : Pl) : Sim pl pl := ⟨fun _ _ => rfl, rfl⟩
theorem Sim.trans {a b c : Pl} (h : Sim a b) (k : Sim b c) : Sim a c := ⟨fun x t => (h.l x t).trans (k.l x t), h.n.trans k.n⟩
theorem Sim.symm {a b : Pl} (h : Sim a b) : Sim b a := ⟨fun x t => (h.l x t).symm, h.n.symm⟩
/-- an address behaves as its longest beginning that is a stem of the two plans -/
theorem near (one two : Pl) (a : Str) : (∃ x, (isStem one x ∨ isStem two x) ∧ leA x a = true ∧ (∀ t, laneAt one a t = laneAt one x t) ∧ ∀ t, laneAt two a t = laneAt two x t) ∨ ((∀ t, laneAt one a t = .non) ∧ ∀ t, laneAt two a t = .non) := by
  have gen : ∀ n, n ≤ a.length → (∃ m, 1 ≤ m ∧ m ≤ n ∧ (isStem one (pre a m) ∨ isStem two (pre a m)) ∧ (∀ t, laneN (kvP (rowsOf one t)) a n = laneN (kvP (rowsOf one t)) a m) ∧ ∀ t, laneN (kvP (rowsOf two t)) a n = laneN (kvP (rowsOf two t)) a m) ∨ ((∀ t, laneN (kvP (rowsOf one t)) a n = .non) ∧ ∀ t, laneN (kvP (rowsOf two t)) a n = .non) := by
    intro n
    induction n with
    | zero => exact fun _ => .inr ⟨fun t => rfl, fun t => rfl⟩
    | succ n ih =>
      intro hn
      by_cases c : isStem one (pre a (n + 1)) ∨ isStem two (pre a (n + 1))
      · exact .inl ⟨n + 1, by omega, Nat.le_refl _, c, fun t => rfl, fun t => rfl⟩
      · have no : ∀ pl : Pl, (pl = one ∨ pl = two) → ∀ t, laneN (kvP (rowsOf pl t)) a (n + 1) = laneN (kvP (rowsOf pl t)) a n := fun pl hp t => laneN_no (val_none fun m => by
          rcases rows_case pl t with ⟨e, he, _, er⟩ | ⟨_, er⟩
          · rw [er] at m
            rcases hp with rfl | rfl
            · exact c (.inl ⟨e, he, m⟩)
            · exact c (.inr ⟨e, he, m⟩)
          · rw [er] at m
            cases m)
        rcases ih (by omega) with ⟨m, h1, h2, h3, h4, h5⟩ | ⟨h1, h2⟩
        · exact .inl ⟨m, h1, by omega, h3, fun t => (no one (.inl rfl) t).trans (h4 t), fun t => (no two (.inr rfl) t).trans (h5 t)⟩
        · exact .inr ⟨fun t => (no one (.inl rfl) t).trans (h1 t), fun t => (no two (.inr rfl) t).trans (h2 t)⟩
  rcases gen a.length (Nat.le_refl _) with ⟨m, h1, h2, h3, h4, h5⟩ | h
  · refine .inl ⟨pre a m, h3, ?_, fun t => ?_, fun t => ?_⟩
    · by_cases c : m = a.length
      · rw [c, pre_all]
        exact leA_refl a
      · exact leA_len (by rw [pre_len h2]; omega)
    · show laneV _ a = laneV _ (pre a m)
      rw [laneV_pre h2]
      exact h4 t
    · show laneV _ a = laneV _ (pre a m)
      rw [laneV_pre h2]
      exact h5 t
  · exact .inr h
theorem same_near {one two : Pl} {t a : Str} (h : ∀ x, (isStem one x ∨ isStem two x) → leA x a = true → same one two t x) : same one two t a := by
  rcases near one two a with ⟨x, hx, le, e1, e2⟩ | ⟨h1, h2⟩
  · have s := h x hx le
    unfold same at *
    rw [pth_congr e1 rfl, pth_congr e2 rfl]
    exact s
  · unfold same
    rw [pth_none (h1 t), pth_none (h2 t)]
theorem leA_total : TotalLe leA := by
  unfold leA dataLe
  exact PySem.W.sortLe_total _ _ _
end Tb
namespace L2
open PySem PySem.Spec PyProof.Rows
theorem kv_vals {kvs : List (Key × V)} {vs : List (Key × Value)} (h : KV kvs vs) : Vals (kvs.map (·.2)) (vs.map (·.2)) := by
  induction h with
  | nil => exact .nil
  | cons r _ ih => exact .cons r.2 ih
/-- list(e.values()) -/
def tListVals (te : TE) : TE := fun σ H Q => te σ H fun x H1 => ∃ (d : Addr) (kvs : List (Key × V)), x = .ref d ∧ H1 d = some (.dK kvs) ∧ ∀ p, H1 p = none → Q (.ref p) (upd H1 p (.lst (kvs.map (·.2))))
section
variable {X : Cx} {e : Expr} {te : TE} {p pos apos cpos : Pos}
theorem pe_listValues (hc : X.calm = true) (he : PE X e te) (hg : Gl X "list") (hm : X.mg "list" = none) (hv : bootBuiltins "list" = some (.type "list")) (hbase : attributeBase e "values" X.env (eval e X.env) = eval e X.env := by rfl) (hline : (apos.endLine == cpos.line) = true := by rfl)
    (hs : starEach [.Call (.Attribute e "values" apos) [] [] cpos] X.env = (false, eval (.Call (.Attribute e "values" apos) [] [] cpos) X.env) :: starEach [] X.env := by rfl) :
    PE X (.Call (.Name "list" p) [.Call (.Attribute e "values" apos) [] [] cpos] [] pos) (tListVals te) := by
  refine ⟨fun pins s σ H Q I hq => ?_⟩
  refine wpAny_Call_Name_kw (ld_blt I hg hm hv ?_)
  refine PyProof.Rows.callWith_type1 ?_ hs rfl
  rw [hs]
  show wpAny _ _ (spliced ((false, eval (.Call (.Attribute e "values" apos) [] [] cpos) X.env) :: backTo pos (starEach [] X.env))) _ _ s
  refine Calls.spliced_cons ?_
  refine wpAny_Call_method (T := "dict") (id := "dict.values") hbase rfl hline F.plainAttrs_dict F.slot_dict_values F.type_dict_values (thn (he.run pins s σ H _ I hq) fun u s1 ⟨x, H1, I1, rx, d, kvs, ex, hd, q⟩ => ?_)
  subst ex
  obtain rfl : u = Value.ref d := rx
  obtain ⟨hz, hs0, vs, kv, hdo⟩ := I1.hok d _ hd
  obtain ⟨ep, hat⟩ := hdo.dictAt
  have lk : kvs.length = vs.length := Paired.length kv
  have I2 : Inv X pins σ H1 { s1 with heap := s1.heap.push { cls := .type "dict_values", data := .fields #[.ref d] } } := I1.kept (t' := s1.toks) fun b ob q => Heap.get?_push_of_some _ q
  refine ⟨hdo.typeIs, hdo.mapOf.noDict, ?_⟩
  show wpAny _ _ (callWith cpos (.builtin "dict.values") [.ref d] [] []) _ X.xe s1
  refine method_meetsIn F.slot_dict_values F.entry_dict_values rfl (PySem.evalArgs_none ⟨rfl, hdo.typeIs, F.args_dict_values_1 _, _, meets_dict_values (mixKind X.prog X.w) d hs0, ⟨vs, hdo⟩, ?_⟩)
  refine Calls.spliced_nil ?_
  refine PySem.W.kdl_call (PySem.W.kdl_values (knd := mixKind X.prog X.w) (kvs := vs) (ep := ep) (d := d)) (I1.ok.hd hc) ⟨⟨_, Heap.get?_push_size _ rfl, rfl, rfl⟩, hat.push _⟩ (by omega) fun h' tk acc c hk hS hacc => ?_
  have ea : acc.toList = vs.map (·.2) := PySem.W.kdl_vals_eq _ (by rw [Array.length_toList]; exact hacc.1) fun j v e => hacc.2 j v (by rw [← Array.getElem?_toList]; exact e)
  have I3 := I2.laid (a := (s1.heap.push { cls := .type "dict_values", data := .fields #[.ref d] }).objs.size) (o := .lst (kvs.map (·.2))) (t' := tk) hk (Nat.le_refl _)
    (show ObjOk X.prog X.w _ _ _ (.lst (kvs.map (·.2))) from ⟨by rw [List.length_map]; exact hz, acc.toList, c, by rw [ea]; exact kv_vals kv, by rw [Array.toArray_toList]; exact hS⟩)
  exact ⟨.ref _, _, I3, rfl, q _ (I2.hok.fresh (Nat.le_refl _))⟩
end
end L2
namespace Tb
open PySem PySem.Spec PyProof.Rows L2
/-- towns with their rows, each at an address -/
abbrev En := Addr × (Str × List Pr)
def kvE (es : List En) : Kvs := es.map fun e => (Sum.inr e.2.1, V.ref e.1)
def plOf (es : List En) : Pl := es.map (·.2)
structure PlanAt (H : Hp) (d : Addr) (es : List En) : Prop where
  d : H d = some (.dK (kvE es))
  t : ∀ e ∈ es, H e.1 = some (.dK (kvP e.2.2))
  g : GoodPl (plOf es)
structure TabsAt (C : Addr) (H : Hp) (d : Addr) (es : List En) : Prop where
  d : H d = some (.dK (kvE es))
  t : ∀ e ∈ es, TabOf C H e.1 e.2.2
theorem kvE_len (es : List En) : (kvE es).length = es.length := List.length_map _
theorem plOf_len (es : List En) : (plOf es).length = es.length := List.length_map _
theorem kvE_keys (es : List En) : (kvE es).map (fun kv => kV kv.1) = ((plOf es).map Prod.fst).map V.str := by
  unfold kvE plOf
  rw [List.map_map, List.map_map, List.map_map]
  rfl
theorem val_cons {k k' : Key} {v : V} {kvs : Kvs} : valV ((k, v) :: kvs) k' = if k = k' then some v else valV kvs k' := by
  unfold valV
  by_cases c : k = k'
  · rw [if_pos c]
    simp [c]
  · rw [if_neg c]
    simp [c]
theorem inr_eq {a b : Str} : ((Sum.inr a : Key) = Sum.inr b) ↔ a = b := ⟨fun e => Sum.inr.inj e, fun e => by rw [e]⟩
theorem kvE_val {es : List En} (n : ((plOf es).map Prod.fst).Nodup) {e : En} (h : e ∈ es) : valV (kvE es) (Sum.inr e.2.1) = some (V.ref e.1) := by
  induction es with
  | nil => cases h
  | cons x es ih =>
    have n' : x.2.1 ∉ (plOf es).map Prod.fst ∧ ((plOf es).map Prod.fst).Nodup := List.nodup_cons.mp n
    refine (val_cons (k := Sum.inr x.2.1) (v := V.ref x.1) (kvs := kvE es)).trans ?_
    by_cases c : x.2.1 = e.2.1
    · rw [if_pos (inr_eq.mpr c)]
      rcases List.mem_cons.mp h with rfl | h
      · rfl
      · refine absurd ?_ n'.1
        rw [c]
        exact List.mem_map.mpr ⟨e.2, List.mem_map.mpr ⟨e, h, rfl⟩, rfl⟩
    · rw [if_neg fun z => c (inr_eq.mp z)]
      rcases List.mem_cons.mp h with rfl | h
      · exact absurd rfl c
      · exact ih n'.2 h
theorem kvE_none {es : List En} {t : Str} (h : t ∉ (plOf es).map Prod.fst) : valV (kvE es) (Sum.inr t) = none := by
  induction es with
  | nil => rfl
  | cons x es ih =>
    have h1 : ¬ (x.2.1 = t) := fun e => h (e ▸ List.mem_cons_self)
    have h2 : t ∉ (plOf es).map Prod.fst := fun m => h (List.mem_cons_of_mem _ m)
    refine (val_cons (k := Sum.inr x.2.1) (v := V.ref x.1) (kvs := kvE es)).trans ?_
    rw [if_neg fun z => h1 (inr_eq.mp z)]
    exact ih h2
theorem es_case (es : List En) (t : Str) : (∃ e ∈ es, e.2.1 = t) ∨ t ∉ (plOf es).map Prod.fst := by
  by_cases c : t ∈ (plOf es).map Prod.fst
  · obtain ⟨p, hp, rfl⟩ := List.mem_map.mp c
    obtain ⟨e, he, rfl⟩ := List.mem_map.mp hp
    exact .inl ⟨e, he, rfl⟩
  · exact .inr c
theorem rows_of_mem {es : List En} (n : ((plOf es).map Prod.fst).Nodup) {e : En} (h : e ∈ es) : rowsOf (plOf es) e.2.1 = e.2.2 := rows_mem n (List.mem_map.mpr ⟨e, h, rfl⟩)
theorem PlanAt.same {H H' : Hp} {d : Addr} {es : List En} (T : PlanAt H d es) (h : Same H H') : PlanAt H' d es := ⟨h _ _ T.d, fun e he => h _ _ (T.t e he), T.g⟩
theorem PlanAt.but {H H' : Hp} {d p : Addr} {es : List En} (T : PlanAt H d es) (B : Bag H p) (h : But p H H') : PlanAt H' d es := by
  obtain ⟨xs, hp⟩ := B.lst
  exact ⟨h _ _ T.d (ne_of T.d hp (fun z => by cases z)), fun e he => h _ _ (T.t e he) (ne_of (T.t e he) hp (fun z => by cases z)), T.g⟩
theorem TabsAt.same {C : Addr} {H H' : Hp} {d : Addr} {es : List En} (T : TabsAt C H d es) (h : Same H H') : TabsAt C H' d es := ⟨h _ _ T.d, fun e he => (T.t e he).same h⟩
theorem TabsAt.but {C : Addr} {H H' : Hp} {d p : Addr} {es : List En} (T : TabsAt C H d es) (B : Bag H p) (h : But p H H') : TabsAt C H' d es := by
  obtain ⟨xs, hp⟩ := B.lst
  exact ⟨h _ _ T.d (ne_of T.d hp (fun z => by cases z)), fun e he => (T.t e he).but hp h⟩
abbrev wTables : Str := ("_tables" : String)
abbrev wMarks : Str := ("_marks" : String)
def kvM (ms : List Str) : Kvs := ms.map fun m => (Sum.inr m, V.bl true)
/-- without duplicates, ascending -/
def Srt (ms : List Str) : Prop := ms.Nodup ∧ ms.Pairwise fun a b => le1 a b = true
/-- at j: a sorting of this plan -/
structure SortOf (C CS : Addr) (H : Hp) (j : Addr) (pl : Pl) : Prop where
  ex : ∃ dx dt dm es ms, H j = some (.ins CS dx [(wTables, .ref dt), (wMarks, .ref dm)]) ∧ TabsAt C H dt es ∧ (plOf es).Perm pl ∧ H dm = some (.dK (kvM ms)) ∧ (∀ x, x ∈ ms ↔ isStem pl x) ∧ ms.length ≤ tot pl ∧ Srt ms
  g : GoodPl pl
theorem SortOf.same {C CS : Addr} {H H' : Hp} {j : Addr} {pl : Pl} (T : SortOf C CS H j pl) (h : Same H H') : SortOf C CS H' j pl := by
  obtain ⟨⟨dx, dt, dm, es, ms, h1, h2, h3, h4, h5⟩, g⟩ := T
  exact ⟨⟨dx, dt, dm, es, ms, h _ _ h1, h2.same h, h3, h _ _ h4, h5⟩, g⟩
theorem SortOf.but {C CS : Addr} {H H' : Hp} {j p : Addr} {pl : Pl} (T : SortOf C CS H j pl) (B : Bag H p) (h : But p H H') : SortOf C CS H' j pl := by
  obtain ⟨⟨dx, dt, dm, es, ms, h1, h2, h3, h4, h5⟩, g⟩ := T
  obtain ⟨xs, hp⟩ := B.lst
  exact ⟨⟨dx, dt, dm, es, ms, h _ _ h1 (ne_of h1 hp (fun z => by cases z)), h2.but B h, h3, h _ _ h4 (ne_of h4 hp (fun z => by cases z)), h5⟩, g⟩
/-! ### plans whose towns or rows stand otherwise -/
theorem isStem_perm {one two : Pl} (h : one.Perm two) (x : Str) : isStem one x ↔ isStem two x := ⟨fun ⟨e, he, m⟩ => ⟨e, h.mem_iff.mp he, m⟩, fun ⟨e, he, m⟩ => ⟨e, h.mem_iff.mpr he, m⟩⟩
theorem rows_perm {one two : Pl} (h : one.Perm two) (n : (one.map Prod.fst).Nodup) (t : Str) : rowsOf one t = rowsOf two t := by
  have n2 : (two.map Prod.fst).Nodup := (h.map Prod.fst).nodup_iff.mp n
  rcases rows_case one t with ⟨e, he, rfl, er⟩ | ⟨ht, er⟩
  · rw [er, rows_mem n2 (h.mem_iff.mp he)]
  · rw [er, rows_not fun m => ht ((h.map Prod.fst).mem_iff.mpr m)]
theorem sim_perm {one two : Pl} (h : one.Perm two) (n : (one.map Prod.fst).Nodup) : Sim one two := ⟨fun a t => by unfold laneAt; rw [rows_perm h n], h.length_eq⟩
theorem good_plan_perm {one two : Pl} (h : one.Perm two) (g : GoodPl one) : GoodPl two := ⟨fun x hx => g.e x (h.mem_iff.mpr hx), (h.map Prod.fst).nodup_iff.mp g.n⟩
end Tb
namespace Tb
open PySem PySem.Spec PyProof.Rows L2
open PySem.W (AllAlike Sortable dataLe)
abbrev sLanesOf : Stmt := topS 21
abbrev NLanesOf : List Str := ["table", "prefix", "lane"]
theorem scLanesOf : FnScope NLanesOf ["table"] (defScope sLanesOf) := ⟨rfl, rfl, rfl, by decide +kernel, rfl, by decide +kernel, by decide +kernel⟩
abbrev sMarksOf : Stmt := topS 22
abbrev NMarksOf : List Str := ["tables", "prefixes", "table", "prefix", "lane"]
theorem scMarksOf : FnScope NMarksOf ["tables"] (defScope sMarksOf) := ⟨rfl, rfl, rfl, by decide +kernel, rfl, by decide +kernel, by decide +kernel⟩
def spLanesOf (C : Addr) : Sp := fun vs H Q _ => ∃ (b : Addr) (own : List Pr), vs = [.ref b] ∧ TabOf C H b own ∧ ∀ (p : Addr) (H' : Hp), Same H H' → H' p = some (.lst (((own.mergeSort le2).map Prod.snd).map V.str)) → Q (.ref p) H'
def spMarksOf (C : Addr) : Sp := fun vs H Q _ => ∃ (l : Addr) (es : List En), vs = [.ref l] ∧ H l = some (.lst (es.map fun e => V.ref e.1)) ∧ (∀ e ∈ es, TabOf C H e.1 e.2.2) ∧ tot (plOf es) ≤ 300 ∧
  ∀ (p : Addr) (ms : List Str) (H' : Hp), Same H H' → H' p = some (.dK (kvM ms)) → (∀ x, x ∈ ms ↔ isStem (plOf es) x) → ms.length ≤ tot (plOf es) → Srt ms → Q (.ref p) H'
theorem tot_take {es : List En} {i : Nat} {e : En} (h : es[i]? = some e) : tot (plOf (es.take (i + 1))) = tot (plOf (es.take i)) + e.2.2.length := by
  rw [List.take_add_one, h]
  unfold tot plOf
  rw [List.map_append, List.map_append, List.sum_append]
  rfl
theorem tot_le (es : List En) (i : Nat) : tot (plOf (es.take i)) ≤ tot (plOf es) := by
  have e : tot (plOf es) = tot (plOf (es.take i)) + tot (plOf (es.drop i)) := by
    conv => lhs; rw [← List.take_append_drop i es]
    unfold tot plOf
    rw [List.map_append, List.map_append, List.sum_append]
  omega
theorem stem_take {es : List En} {i : Nat} {e : En} (h : es[i]? = some e) (x : Str) : isStem (plOf (es.take (i + 1))) x ↔ isStem (plOf (es.take i)) x ∨ x ∈ e.2.2.map Prod.fst := by
  rw [List.take_add_one, h]
  unfold isStem plOf
  constructor
  · rintro ⟨y, hy, hx⟩
    rw [List.map_append] at hy
    rcases List.mem_append.mp hy with m | m
    · exact .inl ⟨y, m, hx⟩
    · rw [List.mem_singleton.mp m] at hx
      exact .inr hx
  · rintro (⟨y, hy, hx⟩ | hx)
    · exact ⟨y, by rw [List.map_append]; exact List.mem_append_left _ hy, hx⟩
    · exact ⟨e.2, by rw [List.map_append]; exact List.mem_append_right _ List.mem_cons_self, hx⟩
theorem alike1 (L : List Str) : AllAlike (L.map PyData.str) := fun d hd d' hd' => by
  obtain ⟨x, _, rfl⟩ := List.mem_map.mp hd
  obtain ⟨y, _, rfl⟩ := List.mem_map.mp hd'
  rfl
theorem sortable1 (L : List Str) : Sortable (L.map PyData.str) := .inr fun d hd => by
  obtain ⟨x, _, rfl⟩ := List.mem_map.mp hd
  exact ⟨fun e => (by cases e), fun xs e => (by cases e)⟩
theorem kvM_snoc {N : List Str} (n : N.Nodup) {i : Nat} {x : Str} (h : N[i]? = some x) : putK (kvM (N.take i)) (Sum.inr x) (V.bl true) = kvM (N.take (i + 1)) := by
  have nx : x ∉ N.take i := fun m => by
    obtain ⟨j, hj, e⟩ := List.mem_take_iff_getElem.mp m
    obtain ⟨hi, ei⟩ := List.getElem?_eq_some_iff.mp h
    have := (List.getElem_inj n).mp (e.trans ei.symm)
    omega
  unfold putK
  rw [if_neg fun h => by
    obtain ⟨kv, hk, e⟩ := List.any_eq_true.mp h
    obtain ⟨y, hy, rfl⟩ := List.mem_map.mp hk
    exact nx (Sum.inr.inj (of_decide_eq_true e) ▸ hy)]
  rw [List.take_add_one, h]
  unfold kvM
  rw [List.map_append]
  rfl
section
variable {P : Program} {w : World} {K : PySem.W.Frag} {mg : Str → Option Value} {base : Heap}
theorem ok_lanesOf {f C CI CU : Addr} {fd : FuncData} (F : Fun K "_lanes_of" "_lanes_of" sLanesOf f fd) (B : Blt mg) (TK : TabK P w K mg base C CI CU) : FnOk P w K mg base CX0 3 f fd ["table"] (spLanesOf C) := by
  obtain ⟨pR, fR, fdR, hpR, bR, FR⟩ := TK.rows
  refine F.ok scLanesOf (fun vs H Q E h => ?_) (fun cdv A outer s H vs Q E hr h => ?_)
  · obtain ⟨b, own, rfl, _⟩ := h
    rfl
  · obtain ⟨b, own, rfl, hT, q⟩ := h
    have hz : sizeLine = 16777216 := rfl
    refine ⟨_, (pss_one (ps_ret (pe_lc (own := [("prefix", 1), ("lane", 2)]) (g := gTup K 2 (gCons (gName 1) (gCons (gName 2) gNil))) (by rfl) scLanesOf.nd (pi_list (pe_prop (pv 0) TK.T.c hpR FR (hr.mono (by first | decide | omega)) bR .nil pass0 (by rfl))) (blkOk_by (N := NLanesOf) (sc := defScope sLanesOf) (by decide +kernel)) (fun _ _ _ _ _ => pg_tup (by rfl) (pgs_cons (pg_name (i := 1) scLanesOf.nd rfl (Or.inl rfl)) (pgs_cons (pg_name (i := 2) scLanesOf.nd rfl (Or.inl rfl)) pgs_nil))) (fun _ _ _ _ _ => pts_nil) (fun _ _ _ _ _ => pv 2)))), ?_⟩
    have hn := hT.n
    obtain ⟨dx, d, h1, h2⟩ := hT.ex
    refine ⟨.ref b, rfl, b, dx, _, rfl, h1, b, own, rfl, hT, fun p us H1 S1 np hp hus eus => ⟨p, rfl, ⟨_, sqOf hp⟩, fun D nD => ?_⟩⟩
    have lu : us.length = own.length := by rw [← len_sort (ps := own), ← eus, List.length_map]
    refine lc_it (walk_list (a := p) (xs := us.map fun t => V.ref t.1)) (fun i H' => Same H1 H' ∧ H' D = some (.lst (((us.take i).map (·.2.2)).map V.str))) ⟨same_upd nD, upd_same⟩ (fun i H' _ hP => sqOf (hP.1 _ _ hp)) (fun i v H2 H3 hi hP hy => ?_) (fun H' hP => ?_)
    · obtain ⟨S2, hD⟩ := hP
      obtain ⟨rfl, ev⟩ := hy
      rw [List.getElem?_map] at ev
      cases et : us[i]? with
      | none => rw [et] at ev; cases ev
      | some t =>
      rw [et] at ev
      cases (Option.some.inj ev)
      refine ⟨t.1, _, rfl, .of (S2 _ _ (hus t (List.mem_of_getElem? et))), rfl, .str t.2.1, _, rfl, .str t.2.2, _, rfl, rfl, rfl, .str t.2.2, rfl, _, hD, by rw [List.length_map, List.length_map, List.length_take]; omega, fun c o hc => ?_, ?_⟩
      · rw [upd_ne (ne_of_none hc nD)]
        exact S2 _ _ hc
      · rw [upd_same, List.take_add_one, et, List.map_append, List.map_append]
        rfl
    · obtain ⟨S2, hD⟩ := hP
      rw [List.length_map, List.take_length] at hD
      refine q D H' (S1.trans S2) ?_
      rw [hD, ← eus]
      exact congrArg (fun z => some (HO.lst (List.map V.str z))) (by rw [List.map_map]; rfl)
theorem ok_marksOf {f C CI CU : Addr} {fd : FuncData} (F : Fun K "_marks_of" "_marks_of" sMarksOf f fd) (B : Blt mg) (zset : mg "set" = none) (TK : TabK P w K mg base C CI CU) : FnOk P w K mg base CX0 3 f fd ["tables"] (spMarksOf C) := by
  obtain ⟨pR, fR, fdR, hpR, bR, FR⟩ := TK.rows
  refine F.ok scMarksOf (fun vs H Q E h => ?_) (fun cdv A outer s H vs Q E hr h => ?_)
  · obtain ⟨l, es, rfl, _⟩ := h
    rfl
  · obtain ⟨l, es, rfl, hl, ht, hn, q⟩ := h
    have hz : sizeLine = 16777216 := rfl
    refine ⟨_, (pss_cons (ps_set (i := 1) scMarksOf.nd rfl (.inl rfl) (pe_lst pa_nil))
      (pss_cons (ps_for PassesOwn.never rfl (pi_list (pv 0)) (pg_name (i := 2) scMarksOf.nd rfl (.inl rfl))
        (pss_one (ps_expr (pe_bm PySem.F.plainAttrs_list PySem.F.slot_list_extend PySem.F.type_list_extend mt_extend (pv 1) (pa_cons (pe_lc (own := [("prefix", 3), ("lane", 4)]) (g := gTup K 2 (gCons (gName 3) (gCons (gName 4) gNil))) (by rfl) scMarksOf.nd (pi_list (pe_prop (pv 2) TK.T.c hpR FR (hr.mono (by first | decide | omega)) bR .nil pass0 (by rfl))) (blkOk_by (N := NMarksOf) (sc := defScope sMarksOf) (by decide +kernel)) (fun _ _ _ _ _ => pg_tup (by rfl) (pgs_cons (pg_name (i := 3) scMarksOf.nd rfl (Or.inl rfl)) (pgs_cons (pg_name (i := 4) scMarksOf.nd rfl (Or.inl rfl)) pgs_nil))) (fun _ _ _ _ _ => pts_nil) (fun _ _ _ _ _ => pv 3)) pa_nil)))))
      (pss_one (ps_ret (pe_dc (own := [("prefix", 3)]) (g := gName 3) (by rfl) scMarksOf.nd (pi_list (pe_callB (r := SH.rSortSet K w) (SH.cr_sortSet rfl hr.units) (by rfl) B.sorted PyProof.Rows.boot_sorted (pa_cons (pe_callTy (r := SH.rSetQ K P w) (SH.cr_setQ rfl) (by rfl) zset boot_set (pa_cons (pv 1) pa_nil)) pa_nil))) (blkOk_by (N := NMarksOf) (sc := defScope sMarksOf) (by decide +kernel)) (fun _ _ _ _ _ => pg_name (i := 3) scMarksOf.nd rfl (Or.inl rfl)) (fun _ _ _ _ _ => pts_nil) (fun _ _ _ _ _ => pv 3) (fun _ _ _ _ _ => pe_bl)))))), ?_⟩
    refine ⟨Nat.zero_le _, fun D nD => ?_⟩
    refine ⟨.ref l, rfl, l, rfl, ⟨_, sqOf ((same_upd nD) _ _ hl)⟩, ?_⟩
    refine for_it (walk_list (a := l) (xs := es.map fun e => V.ref e.1)) (fun i σ H' => ∃ y2 y3 y4, σ = [some (.ref l), some (.ref D), y2, y3, y4] ∧ Same H H' ∧ ∃ ks : List Str, H' D = some (.lst (ks.map V.str)) ∧ ks.length = tot (plOf (es.take i)) ∧ ∀ x, x ∈ ks ↔ isStem (plOf (es.take i)) x)
      ⟨none, none, none, rfl, same_upd nD, [], upd_same, rfl, fun x => ⟨fun h => (by cases h), fun ⟨e, he, _⟩ => (by cases he)⟩⟩ (fun i σ H' _ hP => ?_) (fun i v σ H1 H2 hi hP hy => ?_) (fun σ H1 hP => ?_)
    · obtain ⟨_, _, _, _, S1, _⟩ := hP
      exact sqOf (S1 _ _ hl)
    · obtain ⟨y2, y3, y4, rfl, S1, ks, hD, lk, mk⟩ := hP
      obtain ⟨rfl, ev⟩ := hy
      rw [List.getElem?_map] at ev
      cases ee : es[i]? with
      | none => rw [ee] at ev; cases ev
      | some e =>
      rw [ee] at ev
      cases (Option.some.inj ev)
      have hT := (ht e (List.mem_of_getElem? ee)).same S1
      obtain ⟨dx, d, h1, h2⟩ := hT.ex
      have hown := hT.n
      have l1 := tot_take ee
      have l2 := tot_le es (i + 1)
      refine ⟨.ref D, rfl, .inl ⟨rfl, _, sqOf hD⟩, .ref e.1, rfl, e.1, dx, _, rfl, h1, e.1, e.2.2, rfl, hT, fun p us H3 S3 np hp hus eus => ⟨p, rfl, ⟨_, sqOf hp⟩, fun G nG => ?_⟩⟩
      have lu : us.length = e.2.2.length := by rw [← len_sort (ps := e.2.2), ← eus, List.length_map]
      refine lc_it (walk_list (a := p) (xs := us.map fun t => V.ref t.1)) (fun i H' => Same H3 H' ∧ H' G = some (.lst (((us.take i).map (·.2.1)).map V.str))) ⟨same_upd nG, upd_same⟩ (fun i H' _ hP => sqOf (hP.1 _ _ hp)) (fun i v H4 H5 hi hP hy => ?_) (fun H' hP => ?_)
      · obtain ⟨S4, hG⟩ := hP
        obtain ⟨rfl, ev⟩ := hy
        rw [List.getElem?_map] at ev
        cases et : us[i]? with
        | none => rw [et] at ev; cases ev
        | some t =>
        rw [et] at ev
        cases (Option.some.inj ev)
        refine ⟨t.1, _, rfl, .of (S4 _ _ (hus t (List.mem_of_getElem? et))), rfl, .str t.2.1, _, rfl, .str t.2.2, _, rfl, rfl, rfl, .str t.2.1, rfl, _, hG, by rw [List.length_map, List.length_map, List.length_take]; omega, fun c o hc => ?_, ?_⟩
        · rw [upd_ne (ne_of_none hc nG)]
          exact S4 _ _ hc
        · rw [upd_same, List.take_add_one, et, List.map_append, List.map_append]
          rfl
      · obtain ⟨S4, hG⟩ := hP
        rw [List.length_map, List.take_length] at hG
        have hD' := (S3.trans S4) _ _ hD
        refine ⟨D, G, _, _, rfl, rfl, hD', hG, by rw [List.length_map, List.length_map, List.length_map]; omega, _, _, _, rfl, fun c o hc => ?_, ks ++ us.map (·.2.1), by rw [upd_same, List.map_append], by rw [List.length_append, List.length_map]; omega, fun x => ?_⟩
        · rw [upd_ne (ne_of_none hc nD)]
          exact (S1.trans (S3.trans S4)) _ _ hc
        · rw [List.mem_append, mk x, stem_take ee x]
          have e1 : us.map (·.2.1) = (e.2.2.mergeSort le2).map Prod.fst := by rw [← eus, List.map_map]; rfl
          rw [e1, ((List.mergeSort_perm e.2.2 le2).map Prod.fst).mem_iff]
    · obtain ⟨y2, y3, y4, rfl, S1, ks, hD, lk, mk⟩ := hP
      rw [List.length_map, List.take_length] at lk mk
      refine ⟨.ref D, rfl, D, ks.map Sum.inr, rfl, sqOf (by rw [List.map_map]; exact hD), by rw [List.length_map]; omega, fun a L na ndL mL lL => ?_⟩
      obtain ⟨M, rfl⟩ : ∃ M : List Str, L = M.map Sum.inr := by
        have : ∀ L : List Key, (∀ k ∈ L, ∃ x : Str, k = Sum.inr x) → ∃ M : List Str, L = M.map Sum.inr := fun L => by
          induction L with
          | nil => exact fun _ => ⟨[], rfl⟩
          | cons k L ih =>
            intro h
            obtain ⟨x, rfl⟩ := h k List.mem_cons_self
            obtain ⟨M, rfl⟩ := ih fun k hk => h k (List.mem_cons_of_mem _ hk)
            exact ⟨x :: M, rfl⟩
        refine this L fun k hk => ?_
        obtain ⟨x, _, rfl⟩ := List.mem_map.mp ((mL k).mp hk)
        exact ⟨x, rfl⟩
      have lM : M.length ≤ ks.length := by rw [List.length_map, List.length_map] at lL; exact lL
      have ndM : M.Nodup := List.Pairwise.of_map _ (fun a b hne e => hne (congrArg Sum.inr e)) ndL
      have mM : ∀ x, x ∈ M ↔ x ∈ ks := fun x => by
        have := mL (Sum.inr x)
        rw [List.mem_map, List.mem_map] at this
        constructor
        · intro h
          obtain ⟨y, hy, e⟩ := this.mp ⟨x, h, rfl⟩
          cases e
          exact hy
        · intro h
          obtain ⟨y, hy, e⟩ := this.mpr ⟨x, h, rfl⟩
          cases e
          exact hy
      refine ⟨a, M.map fun x => (V.str x, PyData.str x), _, rfl, upd_same, fun h hU => ?_, fun b hb => ?_, ?_, ?_, fun b hb => ?_, fun cs p pc pw np => ⟨p, rfl, ⟨_, sqOf upd_same⟩, fun G nG => ?_⟩⟩
      · have := SH.SetQ.walked hU
        rw [List.map_map] at this
        rw [List.map_map]
        exact this
      · obtain ⟨x, _, rfl⟩ := List.mem_map.mp hb
        exact .str x
      · rw [List.map_map]
        exact alike1 M
      · rw [List.map_map]
        exact sortable1 M
      · obtain ⟨x, _, rfl⟩ := List.mem_map.mp hb
        show (PyData.str x).depth ≤ 10
        simp [PyData.depth]
      obtain ⟨N, pN, rfl⟩ := perm_map (g := fun x : Str => (V.str x, PyData.str x)) pc
      have pwN : N.Pairwise (fun a b => le1 a b = true) := List.pairwise_map.mp pw
      have e0 : (N.map fun x : Str => (V.str x, PyData.str x)).map Prod.fst = N.map V.str := by rw [List.map_map]; rfl
      rw [e0] at nG ⊢
      generalize hHp : L2.upd (L2.upd H1 a _) p (.lst (N.map V.str)) = Hp at nG ⊢
      have Sp : Same H1 Hp := by
        rw [← hHp]
        exact (same_upd na).trans (same_upd np)
      have hp : Hp p = some (.lst (N.map V.str)) := by rw [← hHp]; exact upd_same
      have nN : N.Nodup := pN.nodup_iff.mpr ndM
      refine dc_it (walk_list (a := p) (xs := N.map V.str)) (fun i H' => Same Hp H' ∧ H' G = some (.dK (kvM (N.take i)))) ⟨same_upd nG, upd_same⟩ (fun i H' _ hP => sqOf (hP.1 _ _ hp)) (fun i v H4 H5 hi hP hy => ?_) (fun H' hP => ?_)
      · obtain ⟨S4, hG⟩ := hP
        obtain ⟨rfl, ev⟩ := hy
        rw [List.getElem?_map] at ev
        cases et : N[i]? with
        | none => rw [et] at ev; cases ev
        | some x =>
        rw [et] at ev
        cases (Option.some.inj ev)
        refine ⟨rfl, .str x, rfl, _, Sum.inr x, rfl, hG, by unfold kvM; rw [List.length_map, List.length_take]; have := pN.length_eq; omega, fun c o hc => ?_, ?_⟩
        · rw [upd_ne (ne_of_none hc nG)]
          exact S4 _ _ hc
        · rw [upd_same, kvM_snoc nN et]
      · obtain ⟨S4, hG⟩ := hP
        rw [List.length_map, List.take_length] at hG
        refine q G N H' (S1.trans (Sp.trans S4)) hG (fun x => ?_) ?_ ⟨nN, pwN⟩
        · rw [pN.mem_iff, mM, mk]
        · have := pN.length_eq
          omega
end
end Tb
namespace Tb
open PySem PySem.Spec PyProof.Rows L2
open PySem.W (AllAlike Sortable dataLe)
abbrev sSInit : Stmt := inClass (topS 23) 0
abbrev NSInit : List Str := ["self", "tables", "site", "table"]
theorem scSInit : FnScope NSInit ["self", "tables"] (defScope sSInit) := ⟨rfl, rfl, rfl, by decide +kernel, rfl, by decide +kernel, by decide +kernel⟩
abbrev sSLane : Stmt := inClass (topS 23) 5
abbrev NSLane : List Str := ["self", "site", "address", "table"]
theorem scSLane : FnScope NSLane ["self", "site", "address"] (defScope sSLane) := ⟨rfl, rfl, rfl, by decide +kernel, rfl, by decide +kernel, by decide +kernel⟩
abbrev sSPath : Stmt := inClass (topS 23) 6
abbrev NSPath : List Str := ["self", "site", "address", "sites", "seen", "lane"]
theorem scSPath : FnScope NSPath ["self", "site", "address"] (defScope sSPath) := ⟨rfl, rfl, rfl, by decide +kernel, rfl, by decide +kernel, by decide +kernel⟩
abbrev sSMarks : Stmt := inClass (topS 23) 8
abbrev NSMarks : List Str := ["self"]
theorem scSMarks : FnScope NSMarks ["self"] (defScope sSMarks) := ⟨rfl, rfl, rfl, by decide +kernel, rfl, by decide +kernel, by decide +kernel⟩
structure SCls (K : PySem.W.Frag) (C : Addr) : Prop where
  c : Cls K C
  no1 : NoAttr K C wTables
  no2 : NoAttr K C wMarks
def spSInit (C CS : Addr) : Sp := fun vs H Q _ => ∃ (x dx d : Addr) (es : List En), vs = [.ref x, .ref d] ∧ H x = some (.ins CS dx []) ∧ TabsAt C H d es ∧ GoodPl (plOf es) ∧ tot (plOf es) ≤ 300 ∧ es.length ≤ 100 ∧ ∀ H', But x H H' → SortOf C CS H' x (plOf es) → Q .non H'
def spSLane (C CS : Addr) : Sp := fun vs H Q _ => ∃ (j : Addr) (t a : Str) (pl : Pl), vs = [.ref j, .str t, .str a] ∧ SortOf C CS H j pl ∧ a.length ≤ 1000 ∧ Q (laneAt pl a t) H
def PthAt (H : Hp) (T : Addr) (r : List Str × Str) : Prop := ∃ S, H T = some (.tup [.ref S, .str r.2]) ∧ H S = some (.lst (r.1.map V.str))
def spSPath (C CS : Addr) : Sp := fun vs H Q _ => ∃ (j : Addr) (t a : Str) (pl : Pl), vs = [.ref j, .str t, .str a] ∧ SortOf C CS H j pl ∧ a.length ≤ 1000 ∧ pl.length ≤ 100 ∧ ∀ (T : Addr) (H' : Hp), Same H H' → PthAt H' T (pth pl a t) → Q (.ref T) H'
def spSMarks (C CS : Addr) : Sp := fun vs H Q _ => ∃ (j : Addr) (pl : Pl), vs = [.ref j] ∧ SortOf C CS H j pl ∧ ∀ (p : Addr) (ms : List Str) (H' : Hp), Same H H' → H p = none → H' p = some (.lst (ms.map V.str)) → (∀ x, x ∈ ms ↔ isStem pl x) → ms.length ≤ tot pl → Srt ms → Q (.ref p) H'
theorem kvE_snoc {N : List En} (n : ((plOf N).map Prod.fst).Nodup) {i : Nat} {e : En} (h : N[i]? = some e) : putK (kvE (N.take i)) (Sum.inr e.2.1) (V.ref e.1) = kvE (N.take (i + 1)) := by
  have ne : e.2.1 ∉ (plOf (N.take i)).map Prod.fst := fun m => by
    have h0 : ((plOf N).map Prod.fst)[i]? = some e.2.1 := by
      unfold plOf
      rw [List.getElem?_map, List.getElem?_map, h]
      rfl
    have m2 : e.2.1 ∈ ((plOf N).map Prod.fst).take i := by
      have : (plOf (N.take i)).map Prod.fst = ((plOf N).map Prod.fst).take i := by
        unfold plOf
        rw [List.map_take, List.map_take]
      rwa [this] at m
    obtain ⟨j, hj, ej⟩ := List.mem_take_iff_getElem.mp m2
    obtain ⟨hi, ei⟩ := List.getElem?_eq_some_iff.mp h0
    have := (List.getElem_inj n).mp (ej.trans ei.symm)
    omega
  rw [putK_new _ (kvE_none ne), List.take_add_one, h]
  unfold kvE
  rw [List.map_append]
  rfl
theorem kvP_kvE {ps : List Pr} {es : List En} {e : En} (m : e ∈ es) (h : kvP ps = kvE es) : False := by
  cases es with
  | nil => cases m
  | cons x es =>
    cases ps with
    | nil => cases h
    | cons p ps =>
      have := congrArg (fun l => l.head?.map Prod.snd) h
      cases this
theorem tot_perm {one two : Pl} (h : one.Perm two) : tot one = tot two := by
  unfold tot
  induction h with
  | nil => rfl
  | cons x _ ih => rw [List.map_cons, List.map_cons, List.sum_cons, List.sum_cons, ih]
  | swap x y l =>
    rw [List.map_cons, List.map_cons, List.map_cons, List.map_cons, List.sum_cons, List.sum_cons, List.sum_cons, List.sum_cons]
    omega
  | trans _ _ a b => exact a.trans b
theorem tab_off {H : Hp} {a x C CS dx dy : Addr} {v : V} (h1 : H a = some (.ins C dx [(wLanes, v)])) (h2 : H x = some (.ins CS dy [])) : a ≠ x := ne_of h1 h2 (fun z => by cases z)
theorem name_len {t : Str} (h : isName t = true) : t.length ≤ 12 := by
  rw [len_tl]
  exact ((isName_iff t).mp h).1
theorem inr_sorted {ks : List Str} : (ks.map (Sum.inr : Str → Key)).length = ks.length := List.length_map _
section
variable {P : Program} {w : World} {K : PySem.W.Frag} {mg : Str → Option Value} {base : Heap}
abbrev CIsName (P : Program) (w : World) (K : PySem.W.Frag) (mg : Str → Option Value) (base : Heap) (g : Addr) (gd : FuncData) := C1 P w K mg base "is_name" sIsName ["text"] 2 (spT isName) g gd
abbrev CLanesOf (P : Program) (w : World) (K : PySem.W.Frag) (mg : Str → Option Value) (base : Heap) (C : Addr) (g : Addr) (gd : FuncData) := C1 P w K mg base "_lanes_of" sLanesOf ["table"] 3 (spLanesOf C) g gd
abbrev CMarksOf (P : Program) (w : World) (K : PySem.W.Frag) (mg : Str → Option Value) (base : Heap) (C : Addr) (g : Addr) (gd : FuncData) := C1 P w K mg base "_marks_of" sMarksOf ["tables"] 3 (spMarksOf C) g gd
theorem ok_sinit {f g1 g2 g3 C CS : Addr} {fd gd1 gd2 gd3 : FuncData} (F : Fun K "__init__" "Sorting.__init__" sSInit f fd) (B : Blt mg) (SC : SCls K CS) (cIsName : CIsName P w K mg base g1 gd1) (cLanesOf : CLanesOf P w K mg base C g2 gd2) (cMarksOf : CMarksOf P w K mg base C g3 gd3) : FnOk P w K mg base CX0 5 f fd ["self", "tables"] (spSInit C CS) := by
  refine F.ok scSInit (fun vs H Q E h => ?_) (fun cdv A outer s H vs Q E hr h => ?_)
  · obtain ⟨x, dx, d, es, rfl, _⟩ := h
    rfl
  · obtain ⟨x, dx, d, es, rfl, hx, hd, hg, ht, hn, q⟩ := h
    have hu := hu_of hr
    have hz : sizeLine = 16777216 := rfl
    have xd : x ≠ d := ne_of hx hd.d (fun z => by cases z)
    refine ⟨_, (pss_cons (ps_lock (ps_for PassesOwn.never rfl (pi_items (pv 1)) (pg_tup (by rfl) (pgs_cons (pg_name (i := 2) scSInit.nd rfl (.inl rfl)) (pgs_cons (pg_name (i := 3) scSInit.nd rfl (.inl rfl)) pgs_nil)))
        (pss_one (ps_if (PW.pt (pw_or (pt_not (pt_val (pe_call cIsName.G (hr.mono (by first | decide | omega)) (by rfl) cIsName.D.g cIsName.D.F.kp cIsName.D.b .nil pass0 (pa_cons (pv 2) pa_nil)))) (pw_or1 (pt_cmpR op_in_seq (pv 2) (pe_call cLanesOf.G (hr.mono (by first | decide | omega)) (by rfl) cLanesOf.D.g cLanesOf.D.F.kp cLanesOf.D.b .nil pass0 (pa_cons (pv 3) pa_nil)) (by rfl)))))
          (pss_one ps_never)
          pss_nil))))
      (pss_cons (ps_fld (pv 0) (pe_dc (own := [("site", 2)]) (g := gName 2) (by rfl) scSInit.nd (pi_list (pe_callB (cr_sortedDk rfl hr.units) (by rfl) B.sorted PyProof.Rows.boot_sorted (pa_cons (pv 1) pa_nil))) (blkOk_by (N := NSInit) (sc := defScope sSInit) (by decide +kernel)) (fun _ _ _ _ _ => pg_name (i := 2) scSInit.nd rfl (Or.inl rfl)) (fun _ _ _ _ _ => pts_nil) (fun _ _ _ _ _ => pv 2) (fun _ _ _ _ _ => pe_dget hu (pv 1) (pv 2) (fun _ _ => rfl))) rfl)
      (pss_one (ps_fld (pv 0) (pe_call cMarksOf.G (hr.mono (by first | decide | omega)) (by rfl) cMarksOf.D.g cMarksOf.D.F.kp cMarksOf.D.b .nil pass0 (pa_cons (pe_listValues rfl (pe_fld (pv 0) rfl) (by rfl) B.list PyProof.Rows.boot_list) pa_nil)) rfl)))), ?_⟩
    refine ⟨d, .dK (kvE es), hd.d, trivial, fun od => ?_⟩
    refine ⟨.ref d, rfl, d, od, kvE es, rfl, upd_same, ?_⟩
    refine for_it (walk_items (d := d) (o := od) (kvs := kvE es)) (fun i σ H' => (∃ y2 y3, σ = [some (.ref x), some (.ref d), y2, y3]) ∧ But d H H' ∧ H' d = some (.frz od (.dK (kvE es))))
      ⟨⟨none, none, rfl⟩, fun c o hc nc => by rw [upd_ne nc]; exact hc, upd_same⟩ (fun i σ H' _ hP => hP.2.2) (fun i v σ H5 H6 hi hP hy => ?_) (fun σ H5 hP => ?_)
    · obtain ⟨⟨y2, y3, rfl⟩, b5, d5⟩ := hP
      obtain ⟨T, kx, vx, rfl, nT, rfl, ek, ev⟩ := hy
      dsimp only at ek ev
      rw [show (kvE es)[i]? = (es[i]?).map (fun e => (Sum.inr e.2.1, V.ref e.1)) by unfold kvE; rw [List.getElem?_map]] at ek ev
      cases ee : es[i]? with
      | none => rw [ee] at ek; cases ek
      | some e =>
      rw [ee] at ek ev
      obtain rfl : V.str e.2.1 = kx := Option.some.inj ek
      obtain rfl : V.ref e.1 = vx := Option.some.inj ev
      have m := List.mem_of_getElem? ee
      have ge := hg.e e.2 (List.mem_map.mpr ⟨e, m, rfl⟩)
      obtain ⟨dy, dd, h1, h2⟩ := (hd.t e m).ex
      have hT5 : TabOf C H5 e.1 e.2.2 := ⟨⟨dy, dd, b5 _ _ h1 (ne_of h1 hd.d (fun z => by cases z)), b5 _ _ h2 (ne_of h2 hd.d (fun z => kvP_kvE m (HO.dK.inj z)))⟩, (hd.t e m).g, (hd.t e m).n⟩
      · have S6 : Same H5 (L2.upd H5 T (.tup [.str e.2.1, .ref e.1])) := same_upd nT
        refine ⟨T, _, rfl, .of upd_same, rfl, .str e.2.1, _, rfl, .ref e.1, _, rfl, rfl, ?_⟩
        have hT6 := hT5.same S6
        have hd6 := S6 _ _ d5
        have b6 : But d H (L2.upd H5 T (.tup [.str e.2.1, .ref e.1])) := b5.trans (Same.but S6)
        generalize L2.upd H5 T (.tup [V.str e.2.1, V.ref e.1]) = H7 at hT6 hd6 b6
        have nl := name_len ge.1
        refine ⟨.str e.2.1, rfl, e.2.1, rfl, by omega, fun H8 S8 => ⟨_, rfl, ?_⟩⟩
        rw [ge.1]
        refine ⟨.str e.2.1, rfl, .ref e.1, rfl, e.1, e.2.2, rfl, hT6.same S8, fun p H9 S9 hp => ⟨p, _, rfl, .inl (sqOf hp), rfl, flat_strs _, ?_⟩⟩
        have nin : inV (.str e.2.1) (((e.2.2.mergeSort le2).map Prod.snd).map V.str) = false := by
          cases c : inV (.str e.2.1) (((e.2.2.mergeSort le2).map Prod.snd).map V.str) with
          | false => rfl
          | true => exact absurd (((List.mergeSort_perm e.2.2 le2).map Prod.snd).mem_iff.mp (str_inV c)) ge.2.2
        rw [nin]
        exact ⟨_, rfl, ⟨_, _, rfl⟩, (b6.trans (Same.but S8)).trans (Same.but S9), S9 _ _ (S8 _ _ hd6)⟩
    · obtain ⟨⟨y2, y3, rfl⟩, b5, d5⟩ := hP
      refine ⟨d5, ?_⟩
      have S0 : Same H (L2.upd H5 d (.dK (kvE es))) := fun c o hc => by
        by_cases e : c = d
        · subst e
          rw [upd_same, ← hd.d]
          exact hc
        · rw [upd_ne e]
          exact b5 _ _ hc e
      generalize L2.upd H5 d (.dK (kvE es)) = H6 at S0
      have eks : (kvE es).map (·.1) = ((plOf es).map Prod.fst).map Sum.inr := by
        unfold kvE plOf
        rw [List.map_map, List.map_map, List.map_map]
        rfl
      refine ⟨.ref d, rfl, d, _, (plOf es).map Prod.fst, rfl, .of (S0 _ _ hd.d), eks, by rw [List.length_map, plOf_len]; omega, fun p np => ⟨p, rfl, ⟨_, sqOf upd_same⟩, fun G nG => ?_⟩⟩
      obtain ⟨N, pN, eN⟩ := perm_map (g := fun e : En => e.2.1) (cs := ((plOf es).map Prod.fst).mergeSort (PySem.W.dataLe false PyData.str)) (M := es) (by
        have := List.mergeSort_perm ((plOf es).map Prod.fst) (PySem.W.dataLe false PyData.str)
        rw [show es.map (fun e : En => e.2.1) = (plOf es).map Prod.fst by unfold plOf; rw [List.map_map]; rfl]
        exact this)
      rw [eN] at nG ⊢
      have pP : (plOf N).Perm (plOf es) := pN.map _
      have nN : ((plOf N).map Prod.fst).Nodup := (pP.map Prod.fst).nodup_iff.mpr hg.n
      have S7 : Same H (L2.upd H6 p (.lst ((N.map fun e : En => e.2.1).map V.str))) := S0.trans (same_upd np)
      have hp : (L2.upd H6 p (.lst ((N.map fun e : En => e.2.1).map V.str))) p = some (.lst ((N.map fun e : En => e.2.1).map V.str)) := upd_same
      generalize L2.upd H6 p (.lst ((N.map fun e : En => e.2.1).map V.str)) = H7 at S7 hp nG
      refine dc_it (walk_list (a := p) (xs := (N.map fun e : En => e.2.1).map V.str)) (fun i H' => Same H7 H' ∧ H' G = some (.dK (kvE (N.take i)))) ⟨same_upd nG, upd_same⟩ (fun i H' _ hP => sqOf (hP.1 _ _ hp)) (fun i v H4 H5 hi hP hy => ?_) (fun H' hP => ?_)
      · obtain ⟨S4, hG⟩ := hP
        obtain ⟨rfl, ev⟩ := hy
        rw [List.getElem?_map, List.getElem?_map] at ev
        cases et : N[i]? with
        | none => rw [et] at ev; cases ev
        | some e =>
        rw [et] at ev
        cases (Option.some.inj ev)
        have m := pN.mem_iff.mp (List.mem_of_getElem? et)
        refine ⟨rfl, .str e.2.1, rfl, .ref d, rfl, .str e.2.1, rfl, d, .ref e.1, rfl, ?_, _, Sum.inr e.2.1, rfl, hG, by rw [kvE_len, List.length_take]; have := pN.length_eq; omega, fun c o hc => ?_, ?_⟩
        · rw [← kvE_val hg.n m]
          exact DGet.k (k := Sum.inr e.2.1) (S4 _ _ (S7 _ _ hd.d))
        · rw [upd_ne (ne_of_none hc nG)]
          exact S4 _ _ hc
        · rw [upd_same, kvE_snoc nN et]
      · obtain ⟨S4, hG⟩ := hP
        rw [List.length_map, List.length_map, List.take_length] at hG
        have S8 := S7.trans S4
        have hx8 := S8 _ _ hx
        have Gx : G ≠ x := ne_of hG hx8 (fun z => by cases z)
        refine ⟨.ref x, rfl, x, CS, dx, [], rfl, hx8, SC.c, SC.no1, by decide, ?_⟩
        have b9 : But x H (L2.upd H' x (.ins CS dx (putF wTables (.ref G) []))) := (Same.but S8).trans But.upd
        have hG9 : (L2.upd H' x (.ins CS dx (putF wTables (.ref G) []))) G = some (.dK (kvE N)) := by rw [upd_ne Gx]; exact hG
        have hx9 : (L2.upd H' x (.ins CS dx (putF wTables (.ref G) []))) x = some (.ins CS dx [(wTables, .ref G)]) := upd_same
        have ht9 : ∀ e ∈ N, TabOf C (L2.upd H' x (.ins CS dx (putF wTables (.ref G) []))) e.1 e.2.2 := fun e he => by
          obtain ⟨⟨dy, dd, h1, h2⟩, g, n⟩ := hd.t e (pN.mem_iff.mp he)
          exact ⟨⟨dy, dd, b9 _ _ h1 (tab_off h1 hx), b9 _ _ h2 (ne_of h2 hx (fun z => by cases z))⟩, g, n⟩
        generalize L2.upd H' x (.ins CS dx (putF wTables (.ref G) [])) = H9 at b9 hG9 hx9 ht9
        refine ⟨.ref x, rfl, x, CS, dx, _, .ref G, rfl, hx9, SC.c, SC.no1, lk1, G, kvE N, rfl, hG9, fun l nl => ?_⟩
        have Sl : Same H9 (L2.upd H9 l (.lst ((kvE N).map (·.2)))) := same_upd nl
        have tN := tot_perm pP
        refine ⟨l, N, rfl, by rw [upd_same]; unfold kvE; rw [List.map_map]; rfl, fun e he => (ht9 e he).same Sl, by omega, fun p2 ms H10 S10 hp2 hms lms srt => ?_⟩
        have S9 := Sl.trans S10
        have hx10 := S9 _ _ hx9
        refine ⟨.ref x, rfl, x, CS, dx, _, rfl, hx10, SC.c, SC.no2, by show 1 < 1000; omega, ?_⟩
        have b11 : But x H (L2.upd H10 x (.ins CS dx (putF wMarks (.ref p2) [(wTables, .ref G)]))) := (b9.trans (Same.but S9)).trans But.upd
        refine q _ b11 ⟨⟨dx, G, p2, N, ms, upd_same, ⟨?_, fun e he => ?_⟩, pP, ?_, fun z => (hms z).trans (isStem_perm pP z), by omega, srt⟩, hg⟩
        · rw [upd_ne Gx]
          exact S9 _ _ hG9
        · obtain ⟨⟨dy, dd, h1, h2⟩, g, n⟩ := hd.t e (pN.mem_iff.mp he)
          exact ⟨⟨dy, dd, b11 _ _ h1 (tab_off h1 hx), b11 _ _ h2 (ne_of h2 hx (fun z => by cases z))⟩, g, n⟩
        · rw [upd_ne (ne_of hp2 hx10 (fun z => by cases z))]
          exact hp2
end
end Tb
namespace Tb
open PySem PySem.Spec PyProof.Rows L2
open PySem.W (AllAlike Sortable dataLe)
theorem lk2 {f g : Str} {u v : V} (h : (g == f) = false) : List.lookup g [(f, u), (g, v)] = some v := by
  rw [List.lookup_cons, h]
  exact lk1
theorem lkT {u v : V} : List.lookup wTables [(wTables, u), (wMarks, v)] = some u := by
  rw [List.lookup_cons, beq_self_eq_true]
theorem lkM {u v : V} : List.lookup wMarks [(wTables, u), (wMarks, v)] = some v := lk2 (by decide)
theorem lane_of_case {es : List En} {pl : Pl} (p : (plOf es).Perm pl) (g : GoodPl pl) (a t : Str) : (∃ e ∈ es, e.2.1 = t ∧ laneAt pl a t = laneV (kvP e.2.2) a) ∨ (t ∉ (plOf es).map Prod.fst ∧ laneAt pl a t = .non) := by
  have n : ((plOf es).map Prod.fst).Nodup := (p.map Prod.fst).nodup_iff.mpr g.n
  rcases es_case es t with ⟨e, he, rfl⟩ | h
  · refine .inl ⟨e, he, rfl, ?_⟩
    unfold laneAt
    rw [← rows_perm p n, rows_of_mem n he]
  · refine .inr ⟨h, ?_⟩
    unfold laneAt
    rw [← rows_perm p n, rows_not h, lane_nil]
section
variable {P : Program} {w : World} {K : PySem.W.Frag} {mg : Str → Option Value} {base : Heap}
theorem ok_slane {f C CS CI CU : Addr} {fd : FuncData} (F : Fun K "lane" "Sorting.lane" sSLane f fd) (B : Blt mg) (SC : SCls K CS) (TK : TabK P w K mg base C CI CU) : FnOk P w K mg base CX0 4 f fd ["self", "site", "address"] (spSLane C CS) := by
  obtain ⟨fC, fdC, hC, bC, FC⟩ := TK.call
  have FCr : FnR P w K mg base CX0 3 fC (spTCall C) := (FC.raw bC .nil).imp fun vs H Q E h => by rw [List.append_nil]; exact h
  refine F.ok scSLane (fun vs H Q E h => ?_) (fun cdv A outer s H vs Q E hr h => ?_)
  · obtain ⟨j, t, a, pl, rfl, _⟩ := h
    rfl
  · obtain ⟨j, t, a, pl, rfl, hS, la, q⟩ := h
    obtain ⟨⟨dx, dt, dm, es, ms, h1, h2, h3, h4, h5⟩, g⟩ := hS
    have hu := hu_of hr
    have n : ((plOf es).map Prod.fst).Nodup := (h3.map Prod.fst).nodup_iff.mpr g.n
    refine ⟨_, (pss_cons (ps_if (pt_cmp (pc_dnotin hu (pv 1) (pe_fld (pv 0) rfl)))
        (pss_one (ps_ret pe_non))
        pss_nil)
      (pss_cons (ps_set (i := 3) scSLane.nd rfl (.inl rfl) (pe_dget hu (pe_fld (pv 0) rfl) (pv 1) (fun _ _ => rfl)))
      (pss_one (ps_ret (StX.pe_callO (pv 3) hC FCr (hr.mono (by first | decide | omega)) pass0 (pa_cons (pv 2) pa_nil)))))), ?_⟩
    refine ⟨.str t, rfl, .ref j, rfl, j, CS, dx, _, .ref dt, rfl, h1, SC.c, SC.no1, lkT, dt, _, rfl, DGet.k (k := Sum.inr t) h2.d, ?_⟩
    rcases lane_of_case h3 g a t with ⟨e, he, rfl, el⟩ | ⟨ht, el⟩
    · rw [kvE_val n he]
      refine ⟨_, rfl, ?_⟩
      refine ⟨.ref j, rfl, j, CS, dx, _, .ref dt, rfl, h1, SC.c, SC.no1, lkT, .str e.2.1, rfl, dt, .ref e.1, rfl, ?_, ?_⟩
      · rw [← kvE_val n he]
        exact DGet.k (k := Sum.inr e.2.1) h2.d
      have hT := h2.t e he
      obtain ⟨dy, dd, hi, _⟩ := hT.ex
      rw [el] at q
      exact ⟨.ref e.1, rfl, e.1, rfl, .str a, rfl, .inr ⟨dy, _, hi⟩, e.1, e.2.2, a, rfl, hT, la, q⟩
    · rw [kvE_none ht]
      refine ⟨_, rfl, ?_⟩
      rw [el] at q
      exact q
theorem ok_smarks {f C CS : Addr} {fd : FuncData} {k : Nat} (F : Fun K "marks" "Sorting.marks" sSMarks f fd) (B : Blt mg) (SC : SCls K CS) : FnOk P w K mg base CX0 (k + 1) f fd ["self"] (spSMarks C CS) := by
  refine F.ok scSMarks (fun vs H Q E h => ?_) (fun cdv A outer s H vs Q E hr h => ?_)
  · obtain ⟨j, pl, rfl, _⟩ := h
    rfl
  · obtain ⟨j, pl, rfl, hS, q⟩ := h
    obtain ⟨⟨dx, dt, dm, es, ms, h1, h2, h3, h4, h5, h6⟩, g⟩ := hS
    refine ⟨_, (pss_one (ps_ret (pe_callTy (call_listD rfl) (by rfl) B.list PyProof.Rows.boot_list (pa_cons (pe_fld (pv 0) rfl) pa_nil)))), ?_⟩
    refine ⟨.ref j, rfl, j, CS, dx, _, .ref dm, rfl, h1, SC.c, SC.no2, lkM, dm, _, rfl, .of h4, fun p np => q p ms _ (same_upd np) np ?_ h5 h6.1 h6.2⟩
    rw [upd_same]
    unfold kvM
    rw [List.map_map]
    rfl
/-- what stands while the path is followed -/
structure Way (pl : Pl) (a t : Str) (p : List Str) (l : Str) (n : Nat) : Prop where
  e : pth pl a t = pathF (laneAt pl a) (n + 1) p l
  nd : (p ++ [l]).Nodup
  k : ∀ x ∈ p, x ∈ pl.map Prod.fst
  n : n + p.length = pl.length
theorem Way.next {pl : Pl} {a t : Str} {p : List Str} {l x : Str} {n : Nat} (W : Way pl a t p l n) (h : laneAt pl a l = .str x) (h0 : x ≠ wE) (nx : x ∉ p ++ [l]) : ∃ m, n = m + 1 ∧ Way pl a t (p ++ [l]) x m := by
  have kl : l ∈ pl.map Prod.fst := lane_key (a := a) (by rw [h]; exact fun e => by cases e)
  have ks : ∀ y ∈ p ++ [l], y ∈ pl.map Prod.fst := fun y hy => by
    rcases List.mem_append.mp hy with m | m
    · exact W.k y m
    · rw [List.mem_singleton.mp m]
      exact kl
  have hl := sub_len (p ++ [l]) (pl.map Prod.fst) W.nd ks
  rw [List.length_append, List.length_map] at hl
  have hn := W.n
  have h1 : ([l] : List Str).length = 1 := rfl
  obtain ⟨m, rfl⟩ : ∃ m, n = m + 1 := ⟨n - 1, by omega⟩
  refine ⟨m, rfl, ?_, ?_, ks, by rw [List.length_append]; omega⟩
  · rw [W.e]
    conv => lhs; unfold pathF
    rw [h]
    dsimp only
    rw [if_neg h0, if_neg nx]
  · exact List.nodup_append.mpr ⟨W.nd, List.nodup_cons.mpr ⟨List.not_mem_nil, List.nodup_nil⟩, fun y hy z hz e => nx (by rw [← List.mem_singleton.mp hz, ← e]; exact hy)⟩
theorem Way.loop {pl : Pl} {a t : Str} {p : List Str} {l x : Str} {n : Nat} (W : Way pl a t p l n) (h : laneAt pl a l = .str x) (h0 : x ≠ wE) (nx : x ∈ p ++ [l]) : pth pl a t = (p ++ [l] ++ [x], wLoop) := by
  rw [W.e]
  conv => lhs; unfold pathF
  rw [h]
  dsimp only
  rw [if_neg h0, if_pos nx]
theorem Way.here {pl : Pl} {a t : Str} {p : List Str} {l : Str} {n : Nat} (W : Way pl a t p l n) (h : laneAt pl a l = .str wE) : pth pl a t = (p ++ [l], wHere) := by
  rw [W.e]
  conv => lhs; unfold pathF
  rw [h]
  dsimp only
  rw [if_pos rfl]
theorem Way.none {pl : Pl} {a t : Str} {p : List Str} {l : Str} {n : Nat} (W : Way pl a t p l n) (h : laneAt pl a l = .non) : pth pl a t = (p ++ [l], wNone) := by
  rw [W.e]
  conv => lhs; unfold pathF
  rw [h]
theorem Way.zero (pl : Pl) (a t : Str) : Way pl a t [] t pl.length := ⟨rfl, List.nodup_cons.mpr ⟨List.not_mem_nil, List.nodup_nil⟩, fun x h => (by cases h), Nat.add_zero _⟩
theorem ok_spath {f gL C CS : Addr} {fd gdL : FuncData} (F : Fun K "path" "Sorting.path" sSPath f fd) (B : Blt mg) (zset : mg "set" = none) (SC : SCls K CS) (SLm : Meth K CS "lane" gL) (bLa : Binds K gdL ["self", "site", "address"] []) (FLa : FnOk P w K mg base CX0 4 gL gdL ["self", "site", "address"] (spSLane C CS)) : FnOk P w K mg base CX0 5 f fd ["self", "site", "address"] (spSPath C CS) := by
  refine F.ok scSPath (fun vs H Q E h => ?_) (fun cdv A outer s H vs Q E hr h => ?_)
  · obtain ⟨j, t, a, pl, rfl, _⟩ := h
    rfl
  · obtain ⟨j, t, a, pl, rfl, hS, la, lp, q⟩ := h
    have hz : sizeLine = 16777216 := rfl
    have sb : scanBound = 4096 := rfl
    refine ⟨_, (pss_cons (ps_set (i := 3) scSPath.nd rfl (.inl rfl) (pe_lst (pa_cons (pv 1) pa_nil)))
      (pss_cons (ps_set (i := 4) scSPath.nd rfl (.inl rfl) (pe_callTy0 (r := rSet0K P w) cr_set0K (by rfl) zset boot_set))
      (pss_cons (ps_expr (pe_saddK (pv 4) (pa_cons (pv 1) pa_nil)))
      (pss_cons (ps_set (i := 5) scSPath.nd rfl (.inl rfl) (pe_meth (pv 0) SC.c SLm FLa (hr.mono (by first | decide | omega)) bLa .nil pass0 (pa_cons (pv 1) (pa_cons (pv 2) pa_nil))))
      (pss_cons (ps_while PassesOwn.never (PW.pt (pw_and (pt_cmpR op_notN (pv 5) pe_non (nomark _)) (pw_and1 (pt_cmpR op_ne (pv 5) ((pe_txt (by rfl) B.hr)) (nomark _)))))
        (pss_cons (ps_expr (pe_bm PySem.F.plainAttrs_list PySem.F.slot_list_append PySem.F.type_list_append mt_append (pv 3) (pa_cons (pv 5) pa_nil)))
        (pss_cons (ps_if (pt_cmpR or_sinK (pv 5) (pv 4) (by rfl))
          (pss_one (ps_ret (pe_tup (pa_cons (pv 3) (pa_cons pe_str pa_nil)))))
          pss_nil)
        (pss_cons (ps_expr (pe_saddK (pv 4) (pa_cons (pv 5) pa_nil)))
        (pss_one (ps_set (i := 5) scSPath.nd rfl (.inl rfl) (pe_meth (pv 0) SC.c SLm FLa (hr.mono (by first | decide | omega)) bLa .nil pass0 (pa_cons (pv 5) (pa_cons (pv 2) pa_nil)))))))))
      (pss_one (ps_ret (pe_tup (pa_cons (pv 3) (pa_cons (pe_ifExp (pt_cmpR op_isN (pv 5) pe_non (nomark _)) pe_str pe_str) pa_nil)))))))))), ?_⟩
    refine ⟨.str t, rfl, by show 1 ≤ sizeLine; omega, fun S nS => ?_⟩
    refine ⟨rfl, fun U nU => ?_⟩
    have SU : S ≠ U := ne_of_none upd_same nU
    have nUH : H U = none := by rwa [upd_ne (Ne.symm SU)] at nU
    refine ⟨.ref U, rfl, ⟨U, _, _, rfl, upd_same⟩, .str t, rfl, U, Sum.inr t, _, _, rfl, rfl, upd_same, by omega, ?_⟩
    have S0 : ∀ o : HO, Same H (L2.upd (L2.upd (L2.upd H S (.lst [V.str t])) U (SetK P w U (fun _ => false) 0)) U o) := fun o c x hc => by
      have n1 : c ≠ S := ne_of_none hc nS
      have n2 : c ≠ U := ne_of_none hc nUH
      rw [upd_ne n2, upd_ne n2, upd_ne n1]
      exact hc
    have hS0 : ∀ o : HO, (L2.upd (L2.upd (L2.upd H S (.lst [V.str t])) U (SetK P w U (fun _ => false) 0)) U o) S = some (.lst (([] ++ [t] : List Str).map V.str)) := fun o => by
      rw [upd_ne SU, upd_ne SU, upd_same]
      rfl
    have hU0 : ∀ o : HO, (L2.upd (L2.upd (L2.upd H S (.lst [V.str t])) U (SetK P w U (fun _ => false) 0)) U o) U = some o := fun o => upd_same
    obtain ⟨dx, dt, dm, hj⟩ : ∃ dx dt dm, H j = some (.ins CS dx [(wTables, .ref dt), (wMarks, .ref dm)]) := let ⟨⟨dx, dt, dm, _, _, h, _⟩, _⟩ := hS; ⟨dx, dt, dm, h⟩
    generalize hH3 : L2.upd (L2.upd (L2.upd H S _) U _) U _ = H3
    have S3 : Same H H3 := by rw [← hH3]; exact S0 _
    have hS3 : H3 S = some (.lst (([] ++ [t] : List Str).map V.str)) := by rw [← hH3]; exact hS0 _
    have hU3 : H3 U = some (SetK P w U (fun k => false || decide (k = Sum.inr t)) (if false = true then 0 else 0 + 1)) := by rw [← hH3]; exact hU0 _
    clear hH3 S0 hS0 hU0
    refine ⟨.ref j, rfl, j, dx, _, rfl, S3 _ _ hj, rfl, .str t, rfl, .str a, rfl, j, t, a, pl, rfl, hS.same S3, la, ?_⟩
    refine ⟨fun m σ H' => ∃ p l Sx cnt, σ = [some (.ref j), some (.str t), some (.str a), some (.ref S), some (.ref U), some (laneAt pl a l)] ∧ Way pl a t p l m ∧ Same H H' ∧ H' S = some (.lst ((p ++ [l]).map V.str)) ∧ H' U = some (SetK P w U Sx cnt) ∧ (∀ x : Str, Sx (Sum.inr x) = decide (x ∈ p ++ [l])) ∧ cnt ≤ p.length + 1,
      ⟨pl.length, [], t, _, _, rfl, Way.zero pl a t, S3, hS3, hU3, fun x => ?_, by decide⟩, ?_⟩
    · rw [Bool.false_or]
      exact decide_eq_decide.mpr (by rw [List.nil_append, List.mem_singleton]; exact inr_eq)
    rintro m σ H4 ⟨p, l, Sx, cnt, rfl, W, S4, hS4, hU4, hx, hc⟩
    have lm := W.n
    rcases lane_str pl a l with el | ⟨x, el⟩
    · rw [el]
      refine ⟨.non, rfl, rfl, false, rfl, ?_⟩
      refine ⟨.ref S, rfl, .non, rfl, rfl, true, rfl, by show 2 ≤ sizeLine; omega, fun T nT => q T _ (S4.trans (same_upd nT)) ⟨S, ?_, ?_⟩⟩
      · rw [upd_same, W.none el]
        rfl
      · rw [upd_ne (ne_of_none hS4 nT), W.none el]
        exact hS4
    · rw [el]
      refine ⟨.str x, rfl, rfl, true, rfl, ?_⟩
      refine ⟨.str x, rfl, rfl, _, rfl, ?_⟩
      refine ite2 (fun u => ?_) (fun u => ?_)
      · rw [Bool.not_eq_true', decide_eq_false_iff_not] at u
        have c0 : x ≠ wE := fun e => u (by rw [e]; rfl)
        refine ⟨fun σ' H' => ∃ k, k < m ∧ ∃ p l Sx cnt, σ' = [some (.ref j), some (.str t), some (.str a), some (.ref S), some (.ref U), some (laneAt pl a l)] ∧ Way pl a t p l k ∧ Same H H' ∧ H' S = some (.lst ((p ++ [l]).map V.str)) ∧ H' U = some (SetK P w U Sx cnt) ∧ (∀ x : Str, Sx (Sum.inr x) = decide (x ∈ p ++ [l])) ∧ cnt ≤ p.length + 1, fun σ' H' h => h, ?_⟩
        have S5 : Same H (L2.upd H4 S (.lst ((p ++ [l]).map V.str ++ [V.str x]))) := fun b o hb => by
          rw [upd_ne (ne_of_none hb nS)]
          exact S4 _ _ hb
        have hU5 : (L2.upd H4 S (.lst ((p ++ [l]).map V.str ++ [V.str x]))) U = some (SetK P w U Sx cnt) := by rw [upd_ne (Ne.symm SU)]; exact hU4
        have hS5 : (L2.upd H4 S (.lst ((p ++ [l]).map V.str ++ [V.str x]))) S = some (.lst ((p ++ [l] ++ [x]).map V.str)) := by
          rw [upd_same, List.map_append (l₂ := [x])]
          rfl
        refine ⟨.ref S, rfl, .inl ⟨rfl, _, sqOf hS4⟩, .str x, rfl, S, _, .str x, rfl, rfl, hS4, by rw [List.length_map, List.length_append]; show p.length + 1 < sizeLine; omega, ?_⟩
        generalize L2.upd H4 S (.lst ((p ++ [l]).map V.str ++ [V.str x])) = H5 at S5 hU5 hS5
        refine ⟨.str x, rfl, .ref U, rfl, Sum.inr x, U, _, _, rfl, rfl, hU5, _, rfl, ?_⟩
        show if (Sx (Sum.inr x)) = true then _ else _
        rw [hx x]
        by_cases c2 : x ∈ p ++ [l]
        · rw [decide_eq_true c2]
          refine ⟨.ref S, rfl, by show 2 ≤ sizeLine; omega, fun T nT => q T _ (S5.trans (same_upd nT)) ⟨S, ?_, ?_⟩⟩
          · rw [upd_same, W.loop el c0 c2]
            rfl
          · rw [upd_ne (ne_of_none hS5 nT), W.loop el c0 c2]
            exact hS5
        · rw [decide_eq_false c2]
          obtain ⟨m', rfl, W'⟩ := W.next el c0 c2
          refine ⟨.ref U, rfl, ⟨U, _, _, rfl, hU5⟩, .str x, rfl, U, Sum.inr x, _, _, rfl, rfl, hU5, by omega, ?_⟩
          have e6 : Sx (Sum.inr x) = false := by rw [hx x]; exact decide_eq_false c2
          have S6 : ∀ o : HO, Same H (L2.upd H5 U o) := fun o b y hb => by
            rw [upd_ne (ne_of_none hb nUH)]
            exact S5 _ _ hb
          have hS6 : ∀ o : HO, (L2.upd H5 U o) S = some (.lst ((p ++ [l] ++ [x]).map V.str)) := fun o => by rw [upd_ne SU]; exact hS5
          refine ⟨.ref j, rfl, j, dx, _, rfl, S6 _ _ _ hj, rfl, .str x, rfl, .str a, rfl, j, x, a, pl, rfl, hS.same (S6 _), la, ?_⟩
          refine ⟨m', Nat.lt_succ_self _, p ++ [l], x, _, _, rfl, W', S6 _, hS6 _, upd_same, fun y => ?_, ?_⟩
          · show (Sx (Sum.inr y) || decide ((Sum.inr y : Key) = Sum.inr x)) = _
            rw [hx y]
            by_cases c3 : y = x
            · subst c3
              rw [decide_eq_true (rfl : (Sum.inr y : Key) = Sum.inr y), decide_eq_true (List.mem_append_right _ List.mem_cons_self), Bool.or_true]
            · rw [decide_eq_false fun e => c3 (inr_eq.mp e), Bool.or_false]
              exact decide_eq_decide.mpr ⟨fun h => List.mem_append_left _ h, fun h => (List.mem_append.mp h).resolve_right fun h => c3 (List.mem_singleton.mp h)⟩
          · rw [e6, List.length_append]
            show cnt + 1 ≤ p.length + 1 + 1
            omega
      · rw [Bool.not_eq_true', decide_eq_false_iff_not, Decidable.not_not] at u
        obtain rfl : x = wE := V.str.inj u
        refine ⟨.ref S, rfl, .str wE, rfl, rfl, false, rfl, by show 2 ≤ sizeLine; omega, fun T nT => q T _ (S4.trans (same_upd nT)) ⟨S, ?_, ?_⟩⟩
        · rw [upd_same, W.here el]
          rfl
        · rw [upd_ne (ne_of_none hS4 nT), W.here el]
          exact hS4
end
end Tb
namespace L2
open PySem PySem.Spec PyProof.Rows
section
variable {X : Cx} {tg : Expr}
/-- a list or a tuple -/
def iSeq (K : PySem.W.Frag) (tl : TE) : TI := fun σ H R => tl σ H fun x H1 => ∃ a, x = .ref a ∧ (((∃ xs, SqL K H1 a xs) ∧ R (Itl K a) H1) ∨ ((∃ xs, SqT K H1 a xs) ∧ R (Itt K a) H1))
theorem pi_seq {l : Expr} {tl : TE} (hl : PE X l tl) : PI X tg l (iSeq X.K tl) := by
  refine ⟨fun pins s σ H R I h => ?_⟩
  refine thn (hl.run pins s σ H _ I h) fun v s1 ⟨x, H1, I1, r1, q1⟩ => ?_
  obtain ⟨a, e, q⟩ := q1
  subst e
  cases r1
  rcases q with ⟨⟨xs, hq⟩, q⟩ | ⟨⟨xs, hq⟩, q⟩
  · obtain ⟨its, rv, p, hz⟩ := I1.list hq
    refine wpAny_pyIter_list p.isList ?_
    refine ⟨s1.heap.objs.size, [s1.heap.objs.size], _, _, H1, rfl, I1.kept (t' := s1.toks) fun b o e => Heap.get?_push_of_some _ e, turn_list a _, ⟨_, Heap.get?_push_size _ rfl, rfl, rfl⟩, fun b hb => ?_, q⟩
    have e : b = s1.heap.objs.size := by simpa using hb
    subst e
    exact I1.fpOk (Nat.le_refl _) (I1.hok.fresh (Nat.le_refl _))
  · obtain ⟨its, rv, p, hz⟩ := I1.tuple hq
    refine wpAny_pyIter_tuple (show s1.heap.IsTuple a its.toArray from p) ?_
    refine ⟨s1.heap.objs.size, [s1.heap.objs.size], _, _, H1, rfl, I1.kept (t' := s1.toks) fun b o e => Heap.get?_push_of_some _ e, turn_tuple a _, ⟨_, Heap.get?_push_size _ rfl, rfl, rfl⟩, fun b hb => ?_, q⟩
    have e : b = s1.heap.objs.size := by simpa using hb
    subst e
    exact I1.fpOk (Nat.le_refl _) (I1.hok.fresh (Nat.le_refl _))
end
end L2
namespace Tb
open PySem PySem.Spec PyProof.Rows L2
open PySem.W (AllAlike Sortable dataLe)
/-! ### a row of one town changed -/
def plAft (pl : Pl) (t p : Str) (o : Option Str) : Pl := if t ∈ pl.map Prod.fst then pl.map (fun e => if e.1 = t then (t, aft e.2 p o) else e) else pl ++ [(t, aft [] p o)]
theorem aft_mem {own : List Pr} {p : Str} {o : Option Str} {q : Pr} (h : q ∈ aft own p o) : q ∈ own ∨ ∃ l, o = some l ∧ q = (p, l) := by
  cases o with
  | none => exact .inl (List.mem_filter.mp h).1
  | some l => exact (mem_put h).imp id fun e => ⟨l, rfl, e⟩
theorem plAft_keys_in {pl : Pl} {t p : Str} {o : Option Str} (h : t ∈ pl.map Prod.fst) : (plAft pl t p o).map Prod.fst = pl.map Prod.fst := by
  unfold plAft
  rw [if_pos h, List.map_map]
  refine List.map_congr_left fun e _ => ?_
  show (if e.1 = t then (t, aft e.2 p o) else e).1 = e.1
  split
  · rename_i c
    exact c.symm
  · rfl
theorem plAft_len {pl : Pl} {t p : Str} {o : Option Str} : (plAft pl t p o).length ≤ pl.length + 1 := by
  unfold plAft
  split
  · rw [List.length_map]
    omega
  · rw [List.length_append]
    exact Nat.le_refl _
theorem tot_cons (e : Str × List Pr) (pl : Pl) : tot (e :: pl) = e.2.length + tot pl := by
  unfold tot
  rw [List.map_cons, List.sum_cons]
theorem map_other {pl : Pl} {t p : Str} {o : Option Str} (h : t ∉ pl.map Prod.fst) : pl.map (fun e => if e.1 = t then (t, aft e.2 p o) else e) = pl := by
  induction pl with
  | nil => rfl
  | cons e pl ih =>
    rw [List.map_cons, ih fun m => h (List.mem_cons_of_mem _ m), if_neg fun c => h (by rw [← c]; exact List.mem_cons_self)]
theorem tot_aft {pl : Pl} {t p : Str} {o : Option Str} (n : (pl.map Prod.fst).Nodup) : tot (plAft pl t p o) ≤ tot pl + 1 := by
  unfold plAft
  split
  · rename_i c
    clear c
    induction pl with
    | nil => exact Nat.zero_le _
    | cons e pl ih =>
      rw [List.map_cons, tot_cons, tot_cons]
      have n' := List.nodup_cons.mp n
      by_cases c : e.1 = t
      · rw [if_pos c, map_other (c ▸ n'.1)]
        have := @aft_len e.2 p o
        show (aft e.2 p o).length + _ ≤ _
        omega
      · rw [if_neg c]
        have := ih n'.2
        omega
  · have := @aft_len [] p o
    unfold tot
    rw [List.map_append, List.sum_append]
    show _ + (aft [] p o).length ≤ _
    simp only [List.length_nil] at this
    omega
theorem good_aft {pl : Pl} (g : GoodPl pl) {t p : Str} {o : Option Str} (ht : isName t = true) (hp : isAddr p = true) (ho : ∀ l, o = some l → isLane l = true ∧ l ≠ t) : GoodPl (plAft pl t p o) := by
  have one : ∀ own : List Pr, Good own → t ∉ own.map Prod.snd → Good (aft own p o) ∧ t ∉ (aft own p o).map Prod.snd := fun own go hn => by
    refine ⟨(aft_good go hp).mpr fun l e => (ho l e).1, fun m => ?_⟩
    obtain ⟨q, hq, e⟩ := List.mem_map.mp m
    rcases aft_mem hq with hq | ⟨l, el, rfl⟩
    · exact hn (List.mem_map.mpr ⟨q, hq, e⟩)
    · exact (ho l el).2 e
  by_cases c : t ∈ pl.map Prod.fst
  · refine ⟨fun x hx => ?_, by rw [plAft_keys_in c]; exact g.n⟩
    unfold plAft at hx
    rw [if_pos c] at hx
    obtain ⟨e, he, rfl⟩ := List.mem_map.mp hx
    have ge := g.e e he
    by_cases c : e.1 = t
    · rw [if_pos c]
      obtain ⟨a, b⟩ := one e.2 ge.2.1 (c ▸ ge.2.2)
      exact ⟨ht, a, b⟩
    · rw [if_neg c]
      exact ge
  · unfold plAft
    rw [if_neg c]
    refine ⟨fun x hx => ?_, ?_⟩
    · rcases List.mem_append.mp hx with m | m
      · exact g.e x m
      · rw [List.mem_singleton.mp m]
        obtain ⟨a, b⟩ := one [] good_nil List.not_mem_nil
        exact ⟨ht, a, b⟩
    · rw [List.map_append]
      exact List.nodup_append.mpr ⟨g.n, List.nodup_cons.mpr ⟨List.not_mem_nil, List.nodup_nil⟩, fun y hy z hz e => c (by have e2 : y = t := e.trans (List.mem_singleton.mp hz); rw [← e2]; exact hy)⟩
theorem plAft_perm {one two : Pl} (h : one.Perm two) (t p : Str) (o : Option Str) : (plAft one t p o).Perm (plAft two t p o) := by
  unfold plAft
  by_cases c : t ∈ one.map Prod.fst
  · rw [if_pos c, if_pos ((h.map Prod.fst).mem_iff.mp c)]
    exact h.map _
  · rw [if_neg c, if_neg fun m => c ((h.map Prod.fst).mem_iff.mpr m)]
    exact h.append (List.Perm.refl _)
theorem rows_aft {pl : Pl} (n : (pl.map Prod.fst).Nodup) {t p : Str} {o : Option Str} (u : Str) : rowsOf (plAft pl t p o) u = if u = t then aft (rowsOf pl t) p o else rowsOf pl u := by
  have gen : ∀ (one : Pl), rowsOf (one.map (fun e => if e.1 = t then (t, aft e.2 p o) else e)) u = if u = t ∧ t ∈ one.map Prod.fst then aft (rowsOf one t) p o else rowsOf one u := fun one => by
    induction one with
    | nil => rw [if_neg fun z => by cases z.2]; rfl
    | cons e one ih =>
      by_cases c : e.1 = t
      · rw [List.map_cons, if_pos c]
        by_cases d : u = t
        · subst d
          rw [if_pos ⟨rfl, by rw [← c]; exact List.mem_cons_self⟩]
          unfold rowsOf
          rw [List.find?_cons_of_pos (by simp), List.find?_cons_of_pos (by simpa using c)]
        · rw [if_neg fun z => d z.1]
          have d2 : ¬ (e.1 = u) := fun z => d (by rw [← z, c])
          have d3 : ¬ (t = u) := fun z => d z.symm
          have e1 : rowsOf ((t, aft e.2 p o) :: one.map (fun e => if e.1 = t then (t, aft e.2 p o) else e)) u = rowsOf (one.map (fun e => if e.1 = t then (t, aft e.2 p o) else e)) u := by
            unfold rowsOf
            rw [List.find?_cons_of_neg (by simpa using d3)]
          have e2 : rowsOf (e :: one) u = rowsOf one u := by
            unfold rowsOf
            rw [List.find?_cons_of_neg (by simpa using d2)]
          rw [e1, e2, ih, if_neg fun z => d z.1]
      · rw [List.map_cons, if_neg c]
        by_cases d : e.1 = u
        · have d2 : ¬ (u = t) := fun z => c (d.trans z)
          rw [if_neg fun z => d2 z.1]
          unfold rowsOf
          rw [List.find?_cons_of_pos (by simpa using d), List.find?_cons_of_pos (by simpa using d)]
        · have e1 : ∀ l : Pl, rowsOf (e :: l) u = rowsOf l u := fun l => by
            unfold rowsOf
            rw [List.find?_cons_of_neg (by simpa using d)]
          have e2 : rowsOf (e :: one) t = rowsOf one t := by
            unfold rowsOf
            rw [List.find?_cons_of_neg (by simpa using c)]
          rw [e1, e1, ih, e2]
          by_cases z : u = t ∧ t ∈ one.map Prod.fst
          · rw [if_pos z, if_pos ⟨z.1, List.mem_cons_of_mem _ z.2⟩]
          · rw [if_neg z, if_neg fun y => z ⟨y.1, (List.mem_cons.mp y.2).resolve_left fun w => c w.symm⟩]
  unfold plAft
  by_cases c : t ∈ pl.map Prod.fst
  · rw [if_pos c, gen]
    by_cases d : u = t
    · rw [if_pos ⟨d, c⟩, if_pos d]
    · rw [if_neg fun z => d z.1, if_neg d]
  · rw [if_neg c]
    have e0 : rowsOf (pl ++ [(t, aft [] p o)]) u = match pl.find? (fun e => decide (e.1 = u)) with | some e => e.2 | none => if t = u then aft [] p o else [] := by
      unfold rowsOf
      rw [List.find?_append]
      cases pl.find? (fun e => decide (e.1 = u)) with
      | some e => rfl
      | none =>
        by_cases z : t = u
        · simp [z]
        · simp [z]
    rw [e0]
    by_cases d : u = t
    · subst d
      rw [if_pos rfl, rows_not c]
      have : pl.find? (fun e => decide (e.1 = u)) = none := List.find?_eq_none.mpr fun x hx => by
        rw [decide_eq_true_eq]
        exact fun e => c (List.mem_map.mpr ⟨x, hx, e⟩)
      rw [this]
      dsimp only
      rw [if_pos rfl]
    · rw [if_neg d]
      unfold rowsOf
      cases pl.find? (fun e => decide (e.1 = u)) with
      | some e => rfl
      | none =>
        dsimp only
        rw [if_neg fun z => d z.symm]
theorem SortOf.perm {C CS : Addr} {H : Hp} {j : Addr} {one two : Pl} (S : SortOf C CS H j one) (h : one.Perm two) : SortOf C CS H j two := by
  obtain ⟨⟨dx, dt, dm, es, ms, h1, h2, h3, h4, h5, h6⟩, g⟩ := S
  exact ⟨⟨dx, dt, dm, es, ms, h1, h2, h3.trans h, h4, fun x => (h5 x).trans (isStem_perm h x), by rw [← tot_perm h]; exact h6.1, h6.2⟩, good_plan_perm h g⟩
/-! ### pairs of a list of texts and a text -/
def encP (r : List Str × Str) : PyData := .tuple [.list (r.1.map PyData.str), .str r.2]
theorem eqvAll_strs : ∀ A D : List Str, PyData.eqvAll (A.map PyData.str) (D.map PyData.str) = decide (A = D)
  | [], [] => rfl
  | [], d :: D => by simp [PyData.eqvAll]
  | a :: A, [] => by simp [PyData.eqvAll]
  | a :: A, d :: D => by
    rw [List.map_cons, List.map_cons, PyData.eqvAll, eqvAll_strs A D, PyData.eqv]
    by_cases h1 : a = d <;> by_cases h2 : A = D <;> simp [h1, h2]
theorem eqv_P (r s : List Str × Str) : PyData.eqv (encP r) (encP s) = decide (r = s) := by
  unfold encP
  rw [PyData.eqv, PyData.eqvAll, PyData.eqvAll, PyData.eqvAll, PyData.eqv, PyData.eqv, eqvAll_strs]
  by_cases h1 : r.1 = s.1 <;> by_cases h2 : r.2 = s.2
  · simp [h1, h2, Prod.ext h1 h2]
  · simp [h1, h2, show ¬ (r = s) from fun e => h2 (by rw [e])]
  · simp [h1, h2, show ¬ (r = s) from fun e => h1 (by rw [e])]
  · simp [h1, h2, show ¬ (r = s) from fun e => h1 (by rw [e])]
theorem shaped_P {r : List Str × Str} (h1 : ∀ x ∈ r.1, Tx x) (h2 : Sg r.2) : SeqAt.shaped (encP r) = true := by
  obtain ⟨a, b⟩ := lay_strs h1
  show (PyData.canLay0 (encP r) && decide (PyData.depth (encP r) ≤ 64)) = true
  rw [Bool.and_eq_true]
  refine ⟨by simp only [encP, PyData.canLay0, PyData.canLayAll0, a, strOk_sg h2, Bool.and_true], decide_eq_true ?_⟩
  simp only [encP, PyData.depth, PyData.depthAll]
  omega
theorem dp_P {K : PySem.W.Frag} {H : Hp} {T : Addr} {r : List Str × Str} (h : PthAt H T r) : Dp K H (.ref T) (encP r) := by
  obtain ⟨S, h1, h2⟩ := h
  exact .tup (.of h1) (.cons (.lst (sqOf h2) (dp_strs _)) (.cons (.str _) .nil))
theorem sg_word {z : Str} (h : z = wHere ∨ z = wNone ∨ z = wLoop) : Sg z := by
  have all : ∀ s : Str, (tl s).all (fun c => decide (c < 1114112)) = true → Sg s := fun s hs c hc => of_decide_eq_true (List.all_eq_true.mp hs c hc)
  rcases h with rfl | rfl | rfl <;> exact all _ (by decide +kernel)
theorem name_tx {t : Str} (h : isName t = true) : Tx t := nm_tx ((isName_iff t).mp h)
theorem shaped_pth {pl : Pl} (g : GoodPl pl) {a t : Str} (ht : isName t = true) : SeqAt.shaped (encP (pth pl a t)) = true := by
  refine shaped_P (fun x hx => ?_) (sg_word (path_word _ _ _))
  rcases path_mem _ _ _ x hx with h | rfl | ⟨u, h⟩
  · cases h
  · exact name_tx ht
  · exact lane_tx (lane_row g h).1
theorem PthAt.same {H H' : Hp} {T : Addr} {r : List Str × Str} (h : PthAt H T r) (s : Same H H') : PthAt H' T r := let ⟨S, h1, h2⟩ := h; ⟨S, s _ _ h1, s _ _ h2⟩
def ResAt (H : Hp) (v : V) : Option (Str × Str) → Prop
  | none => v = .non
  | some z => ∃ T, v = .ref T ∧ H T = some (.tup [.str z.1, .str z.2])
theorem ResAt.same {H H' : Hp} {v : V} {r : Option (Str × Str)} (h : ResAt H v r) (s : Same H H') : ResAt H' v r := by
  cases r with
  | none => exact h
  | some z => obtain ⟨T, e, h⟩ := h; exact ⟨T, e, s _ _ h⟩
theorem stem_addr {pl : Pl} (g : GoodPl pl) {x : Str} (h : isStem pl x) : isAddr x = true := by
  obtain ⟨e, he, hx⟩ := h
  obtain ⟨q, hq, rfl⟩ := List.mem_map.mp hx
  exact ((g.e e he).2.1.1 q hq).1
end Tb
namespace Tb
open PySem PySem.Spec PyProof.Rows L2
open PySem.W (AllAlike Sortable dataLe)
def esAft (es : List En) (t : Str) (a : Addr) (own : List Pr) : List En := if t ∈ (plOf es).map Prod.fst then es.map (fun e => if e.2.1 = t then (a, (t, own)) else e) else es ++ [(a, (t, own))]
theorem mem_esAft {es : List En} {t : Str} {a : Addr} {own : List Pr} {e : En} (h : e ∈ esAft es t a own) : e ∈ es ∨ e = (a, (t, own)) := by
  unfold esAft at h
  split at h
  · obtain ⟨x, hx, rfl⟩ := List.mem_map.mp h
    split
    · exact .inr rfl
    · exact .inl hx
  · exact (List.mem_append.mp h).imp id List.mem_singleton.mp
theorem any_kvE (es : List En) (t : Str) : ((kvE es).any fun kv => decide (kv.1 = Sum.inr t)) = true ↔ t ∈ (plOf es).map Prod.fst := by
  rw [List.any_eq_true]
  constructor
  · rintro ⟨kv, hk, e⟩
    obtain ⟨x, hx, rfl⟩ := List.mem_map.mp hk
    have := inr_eq.mp (of_decide_eq_true e)
    exact this ▸ List.mem_map.mpr ⟨x.2, List.mem_map.mpr ⟨x, hx, rfl⟩, rfl⟩
  · intro h
    obtain ⟨p, hp, rfl⟩ := List.mem_map.mp h
    obtain ⟨x, hx, rfl⟩ := List.mem_map.mp hp
    exact ⟨_, List.mem_map.mpr ⟨x, hx, rfl⟩, decide_eq_true rfl⟩
theorem put_esAft (es : List En) (t : Str) (a : Addr) (own : List Pr) : putK (kvE es) (Sum.inr t) (V.ref a) = kvE (esAft es t a own) := by
  unfold putK esAft
  by_cases c : t ∈ (plOf es).map Prod.fst
  · rw [if_pos ((any_kvE es t).mpr c), if_pos c]
    unfold kvE
    rw [List.map_map, List.map_map]
    refine List.map_congr_left fun e _ => ?_
    show (if (Sum.inr e.2.1 : Key) = Sum.inr t then ((Sum.inr e.2.1 : Key), V.ref a) else (Sum.inr e.2.1, V.ref e.1)) = _
    by_cases d : e.2.1 = t
    · rw [if_pos (inr_eq.mpr d)]
      show _ = (Sum.inr (if e.2.1 = t then ((a, (t, own)) : En) else e).2.1, V.ref (if e.2.1 = t then ((a, (t, own)) : En) else e).1)
      rw [if_pos d, d]
    · rw [if_neg fun z => d (inr_eq.mp z)]
      show _ = (Sum.inr (if e.2.1 = t then ((a, (t, own)) : En) else e).2.1, V.ref (if e.2.1 = t then ((a, (t, own)) : En) else e).1)
      rw [if_neg d]
  · rw [if_neg fun z => c ((any_kvE es t).mp z), if_neg c]
    unfold kvE
    rw [List.map_append]
    rfl
theorem plOf_esAft {es : List En} (n : ((plOf es).map Prod.fst).Nodup) (t : Str) (a : Addr) (p : Str) (o : Option Str) : plOf (esAft es t a (aft (rowsOf (plOf es) t) p o)) = plAft (plOf es) t p o := by
  unfold esAft plAft
  by_cases c : t ∈ (plOf es).map Prod.fst
  · rw [if_pos c, if_pos c]
    have gen : ∀ l : List En, (∀ e ∈ l, e ∈ es) → plOf (l.map fun e => if e.2.1 = t then (a, (t, aft (rowsOf (plOf es) t) p o)) else e) = (plOf l).map fun e => if e.1 = t then (t, aft e.2 p o) else e := fun l => by
      induction l with
      | nil => exact fun _ => rfl
      | cons e l ih =>
        intro h
        have i := ih fun e he => h e (List.mem_cons_of_mem _ he)
        unfold plOf at i ⊢
        rw [List.map_cons, List.map_cons, List.map_cons, List.map_cons, i]
        by_cases d : e.2.1 = t
        · rw [if_pos d, if_pos d, ← d, show rowsOf (List.map (fun x => x.snd) es) e.2.1 = e.2.2 from rows_of_mem n (h e List.mem_cons_self)]
        · rw [if_neg d, if_neg d]
    exact gen es fun e he => he
  · rw [if_neg c, if_neg c, rows_not c]
    unfold plOf
    rw [List.map_append]
    rfl
theorem sort_made {C CS : Addr} {H : Hp} {d : Addr} {es : List En} {Q : VK} {E : XK} (T : TabsAt C H d es) (g : GoodPl (plOf es)) (h1 : tot (plOf es) ≤ 300) (h2 : es.length ≤ 100) (q : ∀ x H', Same H H' → SortOf C CS H' x (plOf es) → Q (.ref x) H') :
    ∀ x dx, H x = none → H dx = none → dx ≠ x → spSInit C CS (V.ref x :: ([V.ref d] ++ [])) (upd (upd H dx (.own x)) x (.ins CS dx [])) (fun v H2 => v = .non ∧ Q (.ref x) H2) E := by
  intro x dx nx ndx hne
  have S0 : Same H (upd (upd H dx (.own x)) x (.ins CS dx [])) := (same_upd ndx).trans (same_upd (by rw [upd_ne (Ne.symm hne)]; exact nx))
  exact ⟨x, dx, d, es, rfl, upd_same, T.same S0, g, h1, h2, fun H' b S => ⟨rfl, q x H' (fun c o hc => b c o (S0 _ _ hc) (ne_of_none hc nx)) S⟩⟩
theorem rows_tot (pl : Pl) (t : Str) : (rowsOf pl t).length ≤ tot pl := by
  rcases rows_case pl t with ⟨e, he, _, e2⟩ | ⟨_, e2⟩
  · rw [e2]
    clear e2
    induction pl with
    | nil => cases he
    | cons x l ih =>
      rw [tot_cons]
      rcases List.mem_cons.mp he with rfl | he
      · omega
      · have := ih he
        omega
  · rw [e2]
    exact Nat.zero_le _
theorem aft_kvE {es : List En} {t p : Str} {o : Option Str} (hon : o = none → p ∈ (rowsOf (plOf es) t).map Prod.fst) : kvP ((aft (rowsOf (plOf es) t) p o).mergeSort le2) ≠ kvE es := fun z => by
  cases es with
  | cons e es => exact kvP_kvE List.mem_cons_self z
  | nil =>
    have h0 : (aft (rowsOf (plOf []) t) p o).length = 0 := by
      rw [← len_sort, ← kvP_len, z]
      rfl
    cases o with
    | none => cases hon rfl
    | some l =>
      have := put_mem (rowsOf (plOf []) t) p l
      rw [List.eq_nil_of_length_eq_zero (show (putP (rowsOf (plOf []) t) p l).length = 0 from h0)] at this
      cases this
structure SortK (P : Program) (w : World) (K : PySem.W.Frag) (mg : Str → Option Value) (base : Heap) (C CS : Addr) : Prop where
  S : SCls K CS
  g : mg "Sorting" = some (.ref CS)
  make : ∃ f fd, Mk K CS f ∧ Binds K fd ["self", "tables"] [] ∧ FnOk P w K mg base CX0 5 f fd ["self", "tables"] (spSInit C CS)
  path : ∃ f fd, Meth K CS "path" f ∧ Binds K fd ["self", "site", "address"] [] ∧ FnOk P w K mg base CX0 5 f fd ["self", "site", "address"] (spSPath C CS)
  marks : ∃ f fd, Meth K CS "marks" f ∧ Binds K fd ["self"] [] ∧ FnOk P w K mg base CX0 1 f fd ["self"] (spSMarks C CS)
section
variable {P : Program} {w : World} {K : PySem.W.Frag} {mg : Str → Option Value} {base : Heap}
end
end Tb
namespace L2
open PySem PySem.Spec PyProof.Rows
section
variable {X : Cx}
def rGeA (K : PySem.W.Frag) : R2 := fun x y H Q => ∃ d e, Dp K H x d ∧ Dp K H y e ∧ PySem.W.alike d e = true ∧ d ≠ .none ∧ d.depth ≤ 10 ∧ Q (.bl (!PySem.W.dataLt d e)) H
theorem op_geIS (hu : X.A.units + 64 < cLine) : OpR X (compareOp .GtE) (rGeA X.K) := by
  intro pins s σ H x y v u Q I rx ry h
  obtain ⟨d, e, hd, he, hl, hn, hdp, q⟩ := h
  obtain ⟨as, r1⟩ := Dp.reads I d x v hd rx
  obtain ⟨bs, r2⟩ := Dp.reads I e y u he ry
  exact PySem.W.ge_data r1 r2 hl hn (by have := Nat.min_le_left d.depth e.depth; omega) ⟨.bl _, H, I, rfl, q⟩
end
end L2
namespace Tb
open PySem PySem.Spec PyProof.Rows L2
open PySem.W (AllAlike Sortable dataLe)
section
variable {X : Cx}
def rEqD0 : R2 := fun x y H Q => ∃ (a b : Addr) (ks : Kvs), x = .ref a ∧ y = .ref b ∧ H a = some (.dK ks) ∧ H b = some (.dK []) ∧ Q (.bl ks.isEmpty) H
theorem op_eq_dict0 (hu : X.A.units < cLine) : OpR X (compareOp .Eq) rEqD0 := by
  intro pins s σ H x y v u Q I rx ry h
  obtain ⟨a, b, ks, rfl, rfl, ea, eb, q⟩ := h
  obtain rfl : v = Value.ref a := rx
  obtain rfl : u = Value.ref b := ry
  obtain ⟨_, ya, va, ra, da⟩ := (show ObjOk X.prog X.w H s.heap a (.dK ks) from I.hok a _ ea)
  obtain ⟨_, yb, vb, rb, db⟩ := (show ObjOk X.prog X.w H s.heap b (.dK []) from I.hok b _ eb)
  have la : ks.length = va.length := ra.length
  have lb : 0 = vb.length := rb.length
  cases ks with
  | nil =>
    have hl : va.length = vb.length := by rw [← la, ← lb]; rfl
    exact PySem.W.keq_eq (knd := mixKind X.prog X.w) (r := true) ya yb da db hu (fun _ => hits_all rb ra (fun p hp => by cases hp)) (fin_bl I q (by simp [hl]))
  | cons k ks =>
    have hl : ¬ va.length = vb.length := by rw [← la, ← lb]; simp
    exact PySem.W.keq_eq (knd := mixKind X.prog X.w) (r := true) ya yb da db hu (fun e => absurd e hl) (fin_bl I q (by simp [hl]))
end
theorem unlock_same {H H5 : Hp} {d : Addr} {u : HO} (hd : H d = some u) (b : But d H H5) : Same H (L2.upd H5 d u) := fun c o hc => by
  by_cases e : c = d
  · subst e
    rw [upd_same, ← hd]
    exact hc
  · rw [upd_ne e]
    exact b _ _ hc e
theorem lock_but {H : Hp} {d : Addr} {o : HO} : But d H (L2.upd H d o) := But.upd
theorem kvE_at (es : List En) (i : Nat) : (kvE es)[i]? = (es[i]?).map (fun e => (Sum.inr e.2.1, V.ref e.1)) := by
  unfold kvE
  rw [List.getElem?_map]
theorem kvP_at (ps : List Pr) (i : Nat) : (kvP ps)[i]? = (ps[i]?).map (fun p => (Sum.inr p.1, V.str p.2)) := by
  unfold kvP
  rw [List.getElem?_map]
theorem good_filter_pl {pl : Pl} (g : GoodPl pl) (f : Str × List Pr → Bool) : GoodPl (pl.filter f) := ⟨fun x hx => g.e x (List.mem_filter.mp hx).1, (List.Sublist.map Prod.fst List.filter_sublist).nodup g.n⟩
theorem tot_filter (pl : Pl) (f : Str × List Pr → Bool) : tot (pl.filter f) ≤ tot pl := by
  induction pl with
  | nil => exact Nat.le_refl _
  | cons e pl ih =>
    rw [tot_cons]
    cases c : f e with
    | true => rw [List.filter_cons_of_pos c, tot_cons]; omega
    | false => rw [List.filter_cons_of_neg (by rw [c]; exact fun z => by cases z)]; omega
def turnR (e : Str × List Pr) : Str × List Pr := (e.1, e.2.reverse)
def turnP (pl : Pl) : Pl := pl.reverse.map turnR
theorem good_turn {pl : Pl} (g : GoodPl pl) : GoodPl (turnP pl) := by
  refine ⟨fun x hx => ?_, ?_⟩
  · obtain ⟨e, he, rfl⟩ := List.mem_map.mp hx
    obtain ⟨a, b, c⟩ := g.e e (List.mem_reverse.mp he)
    exact ⟨a, good_perm (List.reverse_perm _).symm b, fun m => c (((List.reverse_perm e.2).map Prod.snd).mem_iff.mp m)⟩
  · have : (turnP pl).map Prod.fst = (pl.map Prod.fst).reverse := by
      unfold turnP
      rw [List.map_map, ← List.map_reverse]
      rfl
    rw [this]
    exact (List.reverse_perm _).nodup_iff.mpr g.n
def turnE (e : En) : En := (e.1, turnR e.2)
theorem rev_rev (e : Str × List Pr) : turnR (turnR e) = e := by
  unfold turnR
  rw [List.reverse_reverse]
theorem turn_perm (pl : Pl) : ((turnP pl).map turnR).Perm pl := by
  have : (turnP pl).map turnR = pl.reverse := by
    unfold turnP
    rw [List.map_map]
    conv => rhs; rw [← List.map_id pl.reverse]
    exact List.map_congr_left fun e _ => rev_rev e
  rw [this]
  exact List.reverse_perm pl
theorem stem_map (pl : Pl) (x : Str) : isStem (pl.map turnR) x ↔ isStem pl x := by
  constructor
  · rintro ⟨e, he, hx⟩
    obtain ⟨y, hy, rfl⟩ := List.mem_map.mp he
    exact ⟨y, hy, ((List.reverse_perm y.2).map Prod.fst).mem_iff.mp hx⟩
  · rintro ⟨e, he, hx⟩
    exact ⟨turnR e, List.mem_map.mpr ⟨e, he, rfl⟩, ((List.reverse_perm e.2).map Prod.fst).mem_iff.mpr hx⟩
theorem tot_map (pl : Pl) : tot (pl.map turnR) = tot pl := by
  induction pl with
  | nil => rfl
  | cons e pl ih =>
    rw [List.map_cons, tot_cons, tot_cons, ih]
    show e.2.reverse.length + _ = _
    rw [List.length_reverse]
theorem tot_turn (pl : Pl) : tot (turnP pl) = tot pl := (tot_map _).trans (tot_perm (List.reverse_perm pl))
theorem len_turn (pl : Pl) : (turnP pl).length = pl.length := by
  unfold turnP
  rw [List.length_map, List.length_reverse]
theorem SortOf.turn {C CS : Addr} {H : Hp} {j : Addr} {pl : Pl} (S : SortOf C CS H j (turnP pl)) (g : GoodPl pl) : SortOf C CS H j pl := by
  obtain ⟨⟨dx, dt, dm, es, ms, h1, h2, h3, h4, h5, h6⟩, _⟩ := S
  have e1 : plOf (es.map turnE) = (plOf es).map turnR := by
    unfold plOf
    rw [List.map_map, List.map_map]
    rfl
  refine ⟨⟨dx, dt, dm, es.map turnE, ms, h1, ⟨?_, fun e he => ?_⟩, ?_, h4, fun x => (h5 x).trans ?_, by rw [tot_turn] at h6; exact h6.1, h6.2⟩, g⟩
  · rw [h2.d]
    unfold kvE
    rw [List.map_map]
    rfl
  · obtain ⟨y, hy, rfl⟩ := List.mem_map.mp he
    exact (h2.t y hy).perm (List.reverse_perm _).symm
  · rw [e1]
    exact (h3.map turnR).trans (turn_perm pl)
  · exact (stem_map _ x).trans (isStem_perm (List.reverse_perm pl) x)
theorem kvM_put (ks : List Str) (x : Str) : putK (kvM ks) (Sum.inr x) (V.bl true) = kvM (if x ∈ ks then ks else ks ++ [x]) := by
  unfold putK
  have an : ((kvM ks).any fun kv => decide (kv.1 = Sum.inr x)) = true ↔ x ∈ ks := by
    rw [List.any_eq_true]
    constructor
    · rintro ⟨kv, hk, e⟩
      obtain ⟨y, hy, rfl⟩ := List.mem_map.mp hk
      exact inr_eq.mp (of_decide_eq_true e) ▸ hy
    · exact fun h => ⟨_, List.mem_map.mpr ⟨x, h, rfl⟩, decide_eq_true rfl⟩
  by_cases c : x ∈ ks
  · rw [if_pos (an.mpr c), if_pos c]
    unfold kvM
    rw [List.map_map]
    refine List.map_congr_left fun y _ => ?_
    show (if (Sum.inr y : Key) = Sum.inr x then ((Sum.inr y : Key), V.bl true) else (Sum.inr y, V.bl true)) = _
    split <;> rfl
  · rw [if_neg fun z => c (an.mp z), if_neg c]
    unfold kvM
    rw [List.map_append]
    rfl
abbrev sPlanAft : Stmt := topS 40
abbrev NPlanAft : List Str := ["plan", "town", "prefix", "way", "found", "one"]
theorem scPlanAft : FnScope NPlanAft ["plan", "town", "prefix", "way"] (defScope sPlanAft) := ⟨rfl, rfl, rfl, by decide +kernel, rfl, by decide +kernel, by decide +kernel⟩
abbrev sTables : Stmt := topS 38
abbrev NTables : List Str := ["plan", "found", "town", "prefix"]
theorem scTables : FnScope NTables ["plan"] (defScope sTables) := ⟨rfl, rfl, rfl, by decide +kernel, rfl, by decide +kernel, by decide +kernel⟩
abbrev sStems : Stmt := topS 39
abbrev NStems : List Str := ["plan", "found", "town", "prefix"]
theorem scStems : FnScope NStems ["plan"] (defScope sStems) := ⟨rfl, rfl, rfl, by decide +kernel, rfl, by decide +kernel, by decide +kernel⟩
def spPlanAft : Sp := fun vs H Q _ => ∃ (d : Addr) (t p : Str) (o : Option Str) (es : List En), vs = [.ref d, .str t, .str p, oStr o] ∧ PlanAt H d es ∧ isName t = true ∧ isAddr p = true ∧ (∀ l, o = some l → isLane l = true ∧ l ≠ t) ∧ tot (plOf es) ≤ 900 ∧ es.length ≤ 900 ∧
  ∀ (F : Addr) (es' : List En) (H' : Hp), Same H H' → PlanAt H' F es' → plOf es' = plAft (plOf es) t p o → Q (.ref F) H'
def spTables (C : Addr) : Sp := fun vs H Q _ => ∃ (d : Addr) (es : List En), vs = [.ref d] ∧ PlanAt H d es ∧ es.length ≤ 900 ∧ tot (plOf es) ≤ 900 ∧ ∀ (F : Addr) (es' : List En) (H' : Hp), Same H H' → TabsAt C H' F es' → plOf es' = plOf es → Q (.ref F) H'
def spStems : Sp := fun vs H Q _ => ∃ (d : Addr) (es : List En), vs = [.ref d] ∧ PlanAt H d es ∧ tot (plOf es) ≤ 900 ∧ ∀ (p : Addr) (xs : List Str) (H' : Hp), Same H H' → H p = none → H' p = some (.lst (xs.map V.str)) → (∀ x, x ∈ xs ↔ isStem (plOf es) x) → xs.length ≤ tot (plOf es) → Srt xs → Q (.ref p) H'
section
variable {P : Program} {w : World} {K : PySem.W.Frag} {mg : Str → Option Value} {base : Heap}
theorem ok_planaft {f g1 : Addr} {fd gd1 : FuncData} (F : Fun K "_law_plan_after" "_law_plan_after" sPlanAft f fd) (B : Blt mg) (cAfter : CAfter P w K mg base g1 gd1) : FnOk P w K mg base CX0 2 f fd ["plan", "town", "prefix", "way"] spPlanAft := by
  refine F.ok scPlanAft (fun vs H Q E h => ?_) (fun cdv A outer s H vs Q E hr h => ?_)
  · obtain ⟨d, t, p, o, es, rfl, _⟩ := h
    rfl
  · obtain ⟨d, t, p, o, es, rfl, hP0, tn, pa, ho, ht, hn, q⟩ := h
    have hu := hu_of hr
    have hz : sizeLine = 16777216 := rfl
    have g := hP0.g
    refine ⟨_, (pss_cons (ps_set (i := 4) scPlanAft.nd rfl (.inl rfl) pe_dnewK)
      (pss_cons (ps_lock (ps_for PassesOwn.never rfl (pi_keys (pv 0)) (pg_name (i := 5) scPlanAft.nd rfl (.inl rfl))
        (pss_one (ps_dput hu (pv 4) (pv 5) (pe_dget hu (pv 0) (pv 5) (fun _ _ => rfl)) (by rfl)))))
      (pss_cons (ps_dput hu (pv 4) (pv 1) (pe_call cAfter.G (hr.mono (by first | decide | omega)) (by rfl) cAfter.D.g cAfter.D.F.kp cAfter.D.b .nil pass0 (pa_cons (pe_dget2 hu (pv 0) (pv 1) pe_dnewK ⟨rfl, by rfl, rfl, rfl⟩) (pa_cons (pv 2) (pa_cons (pv 3) pa_nil)))) (by rfl))
      (pss_one (ps_ret (pv 4)))))), ?_⟩
    intro G nG
    have S1 : Same H (L2.upd H G (.dK [])) := same_upd nG
    have Gd : G ≠ d := fun e => by rw [e, hP0.d] at nG; cases nG
    refine ⟨d, .dK (kvE es), S1 _ _ hP0.d, trivial, fun od => ?_⟩
    refine ⟨.ref d, rfl, d, od, rfl, .inl ⟨kvE es, upd_same, ?_⟩⟩
    refine for_it (walk_keys (d := d) (o := od) (kvs := kvE es)) (fun i σ H' => (∃ y5, σ = [some (.ref d), some (.str t), some (.str p), some (oStr o), some (.ref G), y5]) ∧ But d H H' ∧ H' d = some (.frz od (.dK (kvE es))) ∧ H' G = some (.dK (kvE (es.take i))))
      ⟨⟨none, rfl⟩, (Same.but S1).trans But.upd, upd_same, by rw [upd_ne Gd]; exact upd_same⟩ (fun i σ H' _ hP => hP.2.2.1) (fun i x σ H5 H6 hi hP hy => ?_) (fun σ H5 hP => ?_)
    · obtain ⟨⟨y5, rfl⟩, b5, d5, g5⟩ := hP
      obtain ⟨rfl, k, v, ek, rfl⟩ := hy
      rw [kvE_at] at ek
      cases ee : es[i]? with
      | none => rw [ee] at ek; cases ek
      | some e =>
      rw [ee] at ek
      cases (Option.some.inj ek)
      have m := List.mem_of_getElem? ee
      have dg : DGet H6 d (.str e.2.1) (some (.ref e.1)) := by
        rw [← kvE_val g.n m]
        exact .inl ⟨_, Sum.inr e.2.1, .inr ⟨od, d5⟩, rfl, rfl⟩
      refine ⟨.ref d, rfl, .str e.2.1, rfl, d, .ref e.1, rfl, dg, .ref G, rfl, .str e.2.1, rfl, G, _, rfl, DPut.k (k := Sum.inr e.2.1) g5 (by rw [kvE_len, List.length_take]; omega), ⟨_, rfl⟩, fun c u hc nc => ?_, ?_, ?_⟩
      · rw [upd_ne (ne_of_none hc nG)]
        exact b5 _ _ hc nc
      · rw [upd_ne (Ne.symm Gd)]
        exact d5
      · rw [upd_same, kvE_snoc g.n ee]
    · obtain ⟨⟨y5, rfl⟩, b5, d5, g5⟩ := hP
      refine ⟨d5, ?_⟩
      rw [kvE_len, List.take_length] at g5
      have S6 := unlock_same hP0.d b5
      have g6 : (L2.upd H5 d (.dK (kvE es))) G = some (.dK (kvE es)) := by rw [upd_ne Gd]; exact g5
      generalize L2.upd H5 d (.dK (kvE es)) = H6 at S6 g6
      refine ⟨.ref d, rfl, d, rfl, .inl ⟨_, .of (S6 _ _ hP0.d)⟩, .str t, rfl, fun D nD => ?_⟩
      have S7 : Same H6 (L2.upd H6 D (.dK [])) := same_upd nD
      have hD7 : (L2.upd H6 D (.dK [])) D = some (.dK (kvP [])) := upd_same
      have DG : D ≠ G := fun e => by rw [e, g6] at nD; cases nD
      generalize L2.upd H6 D (.dK []) = H7 at S7 hD7
      have S8 := S6.trans S7
      have pick : ∃ (b : Addr) (o' : Option V), DGet H7 d (.str t) o' ∧ o'.getD (.ref D) = .ref b ∧ H7 b = some (.dK (kvP (rowsOf (plOf es) t))) := by
        rcases es_case es t with ⟨e, he, rfl⟩ | hn
        · refine ⟨e.1, some (.ref e.1), ?_, rfl, ?_⟩
          · rw [← kvE_val g.n he]
            exact DGet.k (k := Sum.inr e.2.1) (S8 _ _ hP0.d)
          · rw [rows_of_mem g.n he]
            exact S8 _ _ (hP0.t e he)
        · refine ⟨D, none, ?_, rfl, ?_⟩
          · rw [← kvE_none hn]
            exact DGet.k (k := Sum.inr t) (S8 _ _ hP0.d)
          · rw [rows_not hn]
            exact hD7
      obtain ⟨b, o', dg, eo, hb⟩ := pick
      have low := rows_tot (plOf es) t
      have gr : ((rowsOf (plOf es) t).map Prod.fst).Nodup := by
        rcases rows_case (plOf es) t with ⟨e, he, _, e2⟩ | ⟨_, e2⟩
        · rw [e2]
          exact (g.e e he).2.1.2
        · rw [e2]
          exact List.nodup_nil
      refine ⟨o', dg, .str p, rfl, oStr o, rfl, ?_⟩
      rw [eo]
      refine ⟨b, rowsOf (plOf es) t, p, o, rfl, hb, gr, by omega, fun e H9 S9 nE he => ?_⟩
      have g9 := S9 _ _ (S7 _ _ g6)
      have SA := S8.trans S9
      have eG : e ≠ G := fun z => by rw [z, S7 _ _ g6] at nE; cases nE
      refine ⟨.ref G, rfl, .str t, rfl, G, _, rfl, DPut.k (k := Sum.inr t) g9 (by rw [kvE_len]; omega), .ref G, rfl, ?_⟩
      rw [put_esAft es t e (aft (rowsOf (plOf es) t) p o)]
      refine q G _ _ (fun c u hc => ?_) ⟨upd_same, fun x hx => ?_, ?_⟩ (plOf_esAft g.n t e p o)
      · rw [upd_ne (ne_of_none hc nG)]
        exact SA _ _ hc
      · rcases mem_esAft hx with m | rfl
        · have := SA _ _ (hP0.t x m)
          rw [upd_ne fun z => by rw [z] at this; have z2 := hP0.t x m; rw [z, nG] at z2; cases z2]
          exact this
        · rw [upd_ne eG]
          exact he
      · rw [plOf_esAft g.n t e p o]
        exact good_aft g tn pa ho
end
end Tb
namespace Tb
open PySem PySem.Spec PyProof.Rows L2
open PySem.W (AllAlike Sortable dataLe TotalLe)
theorem le1_total : TotalLe le1 := by
  unfold le1 dataLe
  exact PySem.W.sortLe_total _ _ _
theorem le1_anti {a b : Str} (h1 : le1 a b = true) (h2 : le1 b a = true) : a = b := by
  rw [le1_eq, Bool.not_eq_true'] at h1 h2
  exact sLt_tri h2 h1
section
variable {P : Program} {w : World} {K : PySem.W.Frag} {mg : Str → Option Value} {base : Heap}
theorem ok_stems {f : Addr} {fd : FuncData} {k : Nat} (F : Fun K "_law_stems" "_law_stems" sStems f fd) (B : Blt mg) : FnOk P w K mg base CX0 (k + 1) f fd ["plan"] spStems := by
  refine F.ok scStems (fun vs H Q E h => ?_) (fun cdv A outer s H vs Q E hr h => ?_)
  · obtain ⟨d, es, rfl, _⟩ := h
    rfl
  · obtain ⟨d, es, rfl, hP0, ht, q⟩ := h
    have hu := hu_of hr
    have hz : sizeLine = 16777216 := rfl
    have g := hP0.g
    refine ⟨_, (pss_cons (ps_set (i := 1) scStems.nd rfl (.inl rfl) pe_dnewK)
      (pss_cons (ps_lock (ps_for PassesOwn.never rfl (pi_keys (pv 0)) (pg_name (i := 2) scStems.nd rfl (.inl rfl))
        (pss_one (ps_lock (ps_for PassesOwn.never rfl (pi_keys (pe_dget hu (pv 0) (pv 2) (fun _ _ => rfl))) (pg_name (i := 3) scStems.nd rfl (.inl rfl))
          (pss_one (ps_dput hu (pv 1) (pv 3) pe_bl (by rfl))))))))
      (pss_one (ps_ret (pe_callB (cr_sortedDk rfl hr.units) (by rfl) B.sorted PyProof.Rows.boot_sorted (pa_cons (pv 1) pa_nil)))))), ?_⟩
    intro G nG
    have S1 : Same H (L2.upd H G (.dK [])) := same_upd nG
    have Gd : G ≠ d := fun e => by rw [e, hP0.d] at nG; cases nG
    refine ⟨d, .dK (kvE es), S1 _ _ hP0.d, trivial, fun od => ?_⟩
    refine ⟨.ref d, rfl, d, od, rfl, .inl ⟨kvE es, upd_same, ?_⟩⟩
    refine for_it (walk_keys (d := d) (o := od) (kvs := kvE es)) (fun i σ H' => (∃ y2 y3, σ = [some (.ref d), some (.ref G), y2, y3]) ∧ But d H H' ∧ H' d = some (.frz od (.dK (kvE es))) ∧ ∃ ks : List Str, H' G = some (.dK (kvM ks)) ∧ (∀ x, x ∈ ks ↔ isStem (plOf (es.take i)) x) ∧ ks.length ≤ tot (plOf (es.take i)) ∧ ks.Nodup)
      ⟨⟨none, none, rfl⟩, (Same.but S1).trans But.upd, upd_same, [], by rw [upd_ne Gd]; exact upd_same, fun x => ⟨fun h => (by cases h), fun ⟨e, he, _⟩ => (by cases he)⟩, Nat.zero_le _, List.nodup_nil⟩ (fun i σ H' _ hP => hP.2.2.1) (fun i x σ H5 H6 hi hP hy => ?_) (fun σ H5 hP => ?_)
    · obtain ⟨⟨y2, y3, rfl⟩, b5, d5, ks, g5, mk, lk, nk⟩ := hP
      obtain ⟨rfl, k, v, ek, rfl⟩ := hy
      rw [kvE_at] at ek
      cases ee : es[i]? with
      | none => rw [ee] at ek; cases ek
      | some e =>
      rw [ee] at ek
      cases (Option.some.inj ek)
      have m := List.mem_of_getElem? ee
      have he := hP0.t e m
      have ed : e.1 ≠ d := fun z => by
        rw [z, hP0.d] at he
        exact kvP_kvE m (HO.dK.inj (Option.some.inj he)).symm
      have eG : e.1 ≠ G := fun z => by rw [z, nG] at he; cases he
      have he5 := b5 _ _ he ed
      have dg : ∀ H7 : Hp, H7 d = some (.frz od (.dK (kvE es))) → DGet H7 d (.str e.2.1) (some (.ref e.1)) := fun H7 d7 => by
        rw [← kvE_val g.n m]
        exact .inl ⟨_, Sum.inr e.2.1, .inr ⟨od, d7⟩, rfl, rfl⟩
      have l1 := tot_take ee
      have l2 := tot_le es (i + 1)
      refine ⟨e.1, .dK (kvP e.2.2), he5, trivial, fun oe => ?_⟩
      have d7 : (L2.upd H6 e.1 (.frz oe (.dK (kvP e.2.2)))) d = some (.frz od (.dK (kvE es))) := by rw [upd_ne (Ne.symm ed)]; exact d5
      refine ⟨.ref d, rfl, .str e.2.1, rfl, d, .ref e.1, rfl, dg _ d7, e.1, oe, rfl, .inl ⟨kvP e.2.2, upd_same, ?_⟩⟩
      refine for_it (walk_keys (d := e.1) (o := oe) (kvs := kvP e.2.2)) (fun j σ H' => (∃ y3, σ = [some (.ref d), some (.ref G), some (.str e.2.1), y3]) ∧ (∀ c o, H c = some o → c ≠ d → c ≠ e.1 → H' c = some o) ∧ H' d = some (.frz od (.dK (kvE es))) ∧ H' e.1 = some (.frz oe (.dK (kvP e.2.2))) ∧ ∃ ks : List Str, H' G = some (.dK (kvM ks)) ∧ (∀ x, x ∈ ks ↔ isStem (plOf (es.take i)) x ∨ x ∈ (e.2.2.take j).map Prod.fst) ∧ ks.length ≤ tot (plOf (es.take i)) + j ∧ ks.Nodup)
        ⟨⟨_, rfl⟩, fun c o hc n1 n2 => by rw [upd_ne n2]; exact b5 _ _ hc n1, d7, upd_same, ks, by rw [upd_ne (Ne.symm eG)]; exact g5, fun x => (mk x).trans ⟨.inl, fun h => h.resolve_right fun z => (by cases z)⟩, lk, nk⟩ (fun j σ H' _ hP => hP.2.2.2.1) (fun j x σ H7 H8 hj hP hy => ?_) (fun σ H7 hP => ?_)
      · obtain ⟨⟨y3, rfl⟩, b7, d7, e7, ks, g7, mk, lk, nk⟩ := hP
        obtain ⟨rfl, k, v, ek, rfl⟩ := hy
        rw [kvP_at] at ek
        cases er : e.2.2[j]? with
        | none => rw [er] at ek; cases ek
        | some r =>
        rw [er] at ek
        cases (Option.some.inj ek)
        have hj2 : j < e.2.2.length := (List.getElem?_eq_some_iff.mp er).1
        refine ⟨.ref G, rfl, .str r.1, rfl, G, _, rfl, DPut.k (k := Sum.inr r.1) g7 (by unfold kvM; rw [List.length_map]; omega), ⟨_, rfl⟩, fun c o hc n1 n2 => ?_, ?_, ?_, _, by rw [upd_same, kvM_put], fun x => ?_, ?_, ?_⟩
        · rw [upd_ne (ne_of_none hc nG)]
          exact b7 _ _ hc n1 n2
        · rw [upd_ne (Ne.symm Gd)]
          exact d7
        · rw [upd_ne eG]
          exact e7
        · have tk : e.2.2.take (j + 1) = e.2.2.take j ++ [r] := by rw [List.take_add_one, er]; rfl
          rw [tk, List.map_append, List.mem_append, ← or_assoc, ← mk x]
          by_cases c : r.1 ∈ ks
          · rw [if_pos c]
            exact ⟨.inl, fun h => h.elim id fun z => by rw [List.mem_singleton.mp z]; exact c⟩
          · rw [if_neg c, List.mem_append]
            exact Iff.rfl
        · by_cases c : r.1 ∈ ks
          · rw [if_pos c]
            omega
          · rw [if_neg c, List.length_append]
            show ks.length + 1 ≤ _
            omega
        · by_cases c : r.1 ∈ ks
          · rw [if_pos c]
            exact nk
          · rw [if_neg c]
            exact List.nodup_append.mpr ⟨nk, List.nodup_cons.mpr ⟨List.not_mem_nil, List.nodup_nil⟩, fun y hy z hz e => c (by rw [← List.mem_singleton.mp hz, ← e]; exact hy)⟩
      · obtain ⟨⟨y3, rfl⟩, b7, d7, e7, ks, g7, mk, lk, nk⟩ := hP
        rw [kvP_len] at lk mk
        rw [List.take_length] at mk
        refine ⟨e7, ⟨_, _, rfl⟩, fun c o hc nc => ?_, by rw [upd_ne (Ne.symm ed)]; exact d7, ks, by rw [upd_ne (Ne.symm eG)]; exact g7, fun x => (mk x).trans (stem_take ee x).symm, by omega, nk⟩
        by_cases z : c = e.1
        · subst z
          rw [upd_same, ← he]
          exact hc
        · rw [upd_ne z]
          exact b7 _ _ hc nc z
    · obtain ⟨⟨y2, y3, rfl⟩, b5, d5, ks, g5, mk, lk, nk⟩ := hP
      refine ⟨d5, ?_⟩
      rw [kvE_len, List.take_length] at mk lk
      have S6 := unlock_same hP0.d b5
      have g6 : (L2.upd H5 d (.dK (kvE es))) G = some (.dK (kvM ks)) := by rw [upd_ne Gd]; exact g5
      generalize L2.upd H5 d (.dK (kvE es)) = H6 at S6 g6
      refine ⟨.ref G, rfl, G, _, ks, rfl, .of g6, by unfold kvM; rw [List.map_map]; rfl, by omega, fun p np => ?_⟩
      refine q p _ _ (S6.trans (same_upd np)) ?_ upd_same (fun x => ?_) (by rw [List.length_mergeSort]; exact lk) ⟨(List.mergeSort_perm ks _).nodup_iff.mpr nk, PySem.W.sort_pairwise le1_total ks⟩
      · cases c : H p with
        | none => rfl
        | some o => rw [S6 _ _ c] at np; cases np
      · rw [(List.mergeSort_perm ks _).mem_iff]
        exact mk x
end
end Tb
namespace Tb
open PySem PySem.Spec PyProof.Rows L2
open PySem.W (AllAlike Sortable dataLe)
abbrev sLPath : Stmt := topS 37
abbrev NLPath : List Str := ["plan", "town", "address", "trail", "k", "way"]
theorem scLPath : FnScope NLPath ["plan", "town", "address"] (defScope sLPath) := ⟨rfl, rfl, rfl, by decide +kernel, rfl, by decide +kernel, by decide +kernel⟩
theorem cut_last (xs : List V) (v : V) : cutV (xs ++ [v]) none (some (-1)) = xs := by
  have h : HT.sIx (xs ++ [v]).length (xs ++ [v]).length (some (-1)) = xs.length := by
    rw [List.length_append]
    show (if ((-1 : Int) < 0) then ((-1 : Int) + ((xs.length + 1 : Nat) : Int)).toNat else min (-1 : Int).toNat (xs.length + 1)) = _
    rw [if_pos (by decide)]
    omega
  unfold cutV
  rw [h]
  show (List.drop 0 _).take (xs.length - 0) = _
  rw [List.drop_zero, Nat.sub_zero, List.take_left']
  rfl
/-- __init__ of Table, with what it makes anew -/
theorem tab_made3 {C CI : Addr} {H : Hp} {r x dx : Addr} {lst : Bool} {ts : List (Addr × Pr)} {R : VK} {E : XK} (RA : RowsAt H r lst ts) (nx : H x = none) (ndx : H dx = none) (hne : dx ≠ x) (g : Good (ts.map (·.2)))
    (q : ∀ (H' : Hp) (d : Addr), Same H H' → H d = none → H' x = some (.ins C dx [(wLanes, .ref d)]) → H' d = some (.dK (kvP ((ts.map (·.2)).mergeSort le2))) → R .non H') :
    spInit C CI [V.ref x, V.ref r] (L2.upd (L2.upd H dx (.own x)) x (.ins C dx [])) R E := by
  have S0 : Same H (L2.upd (L2.upd H dx (.own x)) x (.ins C dx [])) := (same_upd ndx).trans (same_upd (by rw [upd_ne (Ne.symm hne)]; exact nx))
  refine ⟨x, dx, r, lst, ts, rfl, upd_same, RA.same S0, fun _ d H' S nd hx hd => ?_, fun g' => absurd g g'⟩
  refine q H' d (fun b o hb => ?_) ?_ hx hd
  · exact S b o (S0 _ _ hb) (fun e => by rw [e, nx] at hb; cases hb)
  · cases c : H d with
    | none => rfl
    | some o => rw [S0 _ _ c] at nd; cases nd
theorem rows_zl {ps : List Pr} (g : Good ps) {p : Pr} (h : p ∈ ps) : p.1.length ≤ 1000 ∧ p.2.length ≤ 1000 := by
  have := g.1 p h
  have h1 := addr_len this.1
  have h2 := lane_len this.2
  omega
theorem prs_snoc {H1 : Hp} {R T : Addr} {ts : List (Addr × Pr)} {z l : Str} (hR : H1 R = some (.lst (ts.map fun t => V.ref t.1))) (ht : ∀ t ∈ ts, H1 t.1 = some (.tup [.str t.2.1, .str t.2.2])) (nT : H1 T = none) :
    Prs (L2.upd (L2.upd H1 T (.tup [.str z, .str l])) R (.lst (ts.map (fun t => V.ref t.1) ++ [V.ref T]))) R (ts ++ [(T, (z, l))]) := by
  have RT : R ≠ T := ne_of_none hR nT
  refine ⟨by rw [upd_same, List.map_append]; rfl, fun t hm => ?_⟩
  rcases List.mem_append.mp hm with hm | hm
  · rw [upd_ne (ne_of (ht t hm) hR (fun z => by cases z)), upd_ne (ne_of_none (ht t hm) nT)]
    exact ht t hm
  · rw [List.mem_singleton.mp hm]
    show L2.upd _ R _ T = _
    rw [upd_ne (Ne.symm RT)]
    exact upd_same
def TabX (C : Addr) (H0 : Hp) (G : Addr) (H : Hp) (b : Addr) (own : List Pr) : Prop := ∃ dx d, H b = some (.ins C dx [(wLanes, .ref d)]) ∧ H d = some (.dK (kvP (own.mergeSort le2))) ∧ H0 d = none ∧ d ≠ G ∧ H0 b = none ∧ b ≠ G
theorem TabX.keep {C : Addr} {H0 H H' : Hp} {G b : Addr} {own : List Pr} (T : TabX C H0 G H b own) (k : ∀ c o, H c = some o → H0 c = none → c ≠ G → H' c = some o) : TabX C H0 G H' b own := by
  obtain ⟨dx, d, h1, h2, h3, h4, h5, h6⟩ := T
  exact ⟨dx, d, k _ _ h1 h5 h6, k _ _ h2 h3 h4, h3, h4, h5, h6⟩
def spLPath : Sp := fun vs H Q _ => ∃ (d : Addr) (t a : Str) (es : List En), vs = [.ref d, .str t, .str a] ∧ PlanAt H d es ∧ es.length ≤ 900 ∧ a.length ≤ 1000 ∧ ∀ (T : Addr) (H' : Hp), Same H H' → PthAt H' T (pth (plOf es) a t) → Q (.ref T) H'
section
variable {P : Program} {w : World} {K : PySem.W.Frag} {mg : Str → Option Value} {base : Heap}
abbrev CLLane (P : Program) (w : World) (K : PySem.W.Frag) (mg : Str → Option Value) (base : Heap) (g : Addr) (gd : FuncData) := C1 P w K mg base "_law_lane" sLLane ["own", "address"] 1 (spDA laneV) g gd
theorem ok_tables {f C CI CU : Addr} {fd : FuncData} (F : Fun K "_law_tables" "_law_tables" sTables f fd) (B : Blt mg) (TK : TabK P w K mg base C CI CU) : FnOk P w K mg base CX0 6 f fd ["plan"] (spTables C) := by
  obtain ⟨fI, fdI, MK, bT, GT⟩ := TK.make
  refine F.ok scTables (fun vs H Q E h => ?_) (fun cdv A outer s H vs Q E hr h => ?_)
  · obtain ⟨d, es, rfl, _⟩ := h
    rfl
  · obtain ⟨d, es, rfl, hP0, hn, ht, q⟩ := h
    have hu := hu_of hr
    have hz : sizeLine = 16777216 := rfl
    have g := hP0.g
    refine ⟨_, (pss_cons (ps_set (i := 1) scTables.nd rfl (.inl rfl) pe_dnewK)
      (pss_cons (ps_lock (ps_for PassesOwn.never rfl (pi_keys (pv 0)) (pg_name (i := 2) scTables.nd rfl (.inr rfl))
        (pss_one (ps_lock (ps_dput hu (pv 1) (pv 2) (pe_make MK GT (hr.mono (by first | decide | omega)) (by rfl) TK.g bT .nil passL (pa_cons (pe_lc (own := [("prefix", 3)]) (g := gName 3) (by rfl) scTables.nd (pi_keys (pe_dget hu (pv 0) (pv 2) (fun _ _ => rfl))) (blkOk_by (N := NTables) (sc := defScope sTables) (by decide +kernel)) (fun _ _ _ _ _ => pg_name (i := 3) scTables.nd rfl (Or.inl rfl)) (fun _ _ _ _ _ => pts_nil) (fun _ _ _ _ _ => pe_tup (pa_cons (pv 3) (pa_cons (pe_dget hu (pe_dget hu (pv 0) (pv 2) (fun _ _ => rfl)) (pv 3) (fun _ _ => rfl)) pa_nil)))) pa_nil)) (by rfl))))))
      (pss_one (ps_ret (pv 1))))), ?_⟩
    intro G nG
    have S1 : Same H (L2.upd H G (.dK [])) := same_upd nG
    have Gd : G ≠ d := fun e => by rw [e, hP0.d] at nG; cases nG
    refine ⟨d, .dK (kvE es), S1 _ _ hP0.d, trivial, fun od => ?_⟩
    refine ⟨.ref d, rfl, d, od, rfl, .inl ⟨kvE es, upd_same, ?_⟩⟩
    refine for_it (walk_keys (d := d) (o := od) (kvs := kvE es)) (fun i σ H' => (∃ y2 y3, σ = [some (.ref d), some (.ref G), y2, y3]) ∧ But d H H' ∧ H' d = some (.frz od (.dK (kvE es))) ∧ ∃ es' : List En, H' G = some (.dK (kvE es')) ∧ (∀ e ∈ es', TabX C H G H' e.1 e.2.2) ∧ plOf es' = (plOf es).take i)
      ⟨⟨none, none, rfl⟩, (Same.but S1).trans But.upd, upd_same, [], by rw [upd_ne Gd]; exact upd_same, fun e h => (by cases h), rfl⟩ (fun i σ H' _ hP => hP.2.2.1) (fun i x σ H5 H6 hi hP hy => ?_) (fun σ H5 hP => ?_)
    · obtain ⟨⟨y2, y3, rfl⟩, b5, d5, es', g5, t5, epl⟩ := hP
      obtain ⟨rfl, k, v, ek, rfl⟩ := hy
      rw [kvE_at] at ek
      cases ee : es[i]? with
      | none => rw [ee] at ek; cases ek
      | some e =>
      rw [ee] at ek
      cases (Option.some.inj ek)
      have m := List.mem_of_getElem? ee
      have he := hP0.t e m
      have ed : e.1 ≠ d := fun z => by
        rw [z, hP0.d] at he
        exact kvP_kvE m (HO.dK.inj (Option.some.inj he)).symm
      have eG : e.1 ≠ G := fun z => by rw [z, nG] at he; cases he
      have he5 := b5 _ _ he ed
      have gd := (g.e e.2 (List.mem_map.mpr ⟨e, m, rfl⟩)).2.1
      have le : e.2.2.length ≤ 900 := by
        have := rows_tot (plOf es) e.2.1
        rw [rows_of_mem g.n m] at this
        omega
      have les : es'.length ≤ 900 := by
        have := congrArg List.length epl
        rw [plOf_len, List.length_take, plOf_len] at this
        omega
      have dg : ∀ H7 : Hp, H7 d = some (.frz od (.dK (kvE es))) → DGet H7 d (.str e.2.1) (some (.ref e.1)) := fun H7 d7 => by
        rw [← kvE_val g.n m]
        exact .inl ⟨_, Sum.inr e.2.1, .inr ⟨od, d7⟩, rfl, rfl⟩
      refine ⟨e.1, .dK (kvP e.2.2), he5, trivial, fun oe => ?_⟩
      have d7 : (L2.upd H6 e.1 (.frz oe (.dK (kvP e.2.2)))) d = some (.frz od (.dK (kvE es))) := by rw [upd_ne (Ne.symm ed)]; exact d5
      have e7 : (L2.upd H6 e.1 (.frz oe (.dK (kvP e.2.2)))) e.1 = some (.frz oe (.dK (kvP e.2.2))) := upd_same
      have b7 : ∀ c o, H6 c = some o → c ≠ e.1 → (L2.upd H6 e.1 (.frz oe (.dK (kvP e.2.2)))) c = some o := fun c o hc nc => by rw [upd_ne nc]; exact hc
      generalize L2.upd H6 e.1 (.frz oe (.dK (kvP e.2.2))) = H7 at d7 e7 b7
      refine ⟨.ref d, rfl, .str e.2.1, rfl, d, .ref e.1, rfl, dg _ d7, e.1, oe, rfl, .inl ⟨kvP e.2.2, e7, fun D nD => ?_⟩⟩
      refine lc_it (walk_keys (d := e.1) (o := oe) (kvs := kvP e.2.2)) (fun j H' => Same H7 H' ∧ ∃ ts : List (Addr × Pr), Prs H' D ts ∧ ts.map (·.2) = e.2.2.take j)
        ⟨same_upd nD, [], ⟨upd_same, fun t h => (by cases h)⟩, rfl⟩ (fun j H' _ hP => hP.1 _ _ e7) (fun j x H8 H9 hj hP hy => ?_) (fun H8 hP => ?_)
      · obtain ⟨S8, ts, pr, et⟩ := hP
        obtain ⟨rfl, k, v, ek, rfl⟩ := hy
        rw [kvP_at] at ek
        cases er : e.2.2[j]? with
        | none => rw [er] at ek; cases ek
        | some r =>
        rw [er] at ek
        cases (Option.some.inj ek)
        have mr := List.mem_of_getElem? er
        have lt : ts.length ≤ 900 := by
          have := congrArg List.length et
          rw [List.length_map, List.length_take] at this
          omega
        have dr : DGet H9 e.1 (.str r.1) (some (.str r.2)) := by
          rw [← valV_mem gd.2 mr]
          exact .inl ⟨_, Sum.inr r.1, .inr ⟨oe, S8 _ _ e7⟩, rfl, rfl⟩
        refine ⟨rfl, .str r.1, rfl, .ref d, rfl, .str e.2.1, rfl, d, .ref e.1, rfl, dg _ (S8 _ _ d7), .str r.1, rfl, e.1, .str r.2, rfl, dr, by show 2 ≤ sizeLine; omega, fun T nT => ⟨_, by rw [upd_ne (ne_of_none pr.l nT)]; exact pr.l, by rw [List.length_map]; omega, fun c o hc => ?_, ts ++ [(T, r)], prs_snoc pr.l pr.t nT, ?_⟩⟩
        · rw [upd_ne (ne_of_none hc nD), upd_ne (ne_of_none (S8 _ _ hc) nT)]
          exact S8 _ _ hc
        · rw [List.map_append, et, List.take_add_one, er]
          rfl
      · obtain ⟨S8, ts, pr, et⟩ := hP
        have et : ts.map (·.2) = e.2.2 := by rw [et, kvP_len, List.take_length]
        have lt : ts.length = e.2.2.length := by rw [← et, List.length_map]
        refine fun x dx nx ndx hne => ?_
        refine tab_made3 (H := H8) (lst := true) (ts := ts) ⟨pr.l, pr.t, by omega, fun t ht => rows_zl gd (et ▸ List.mem_map.mpr ⟨t, ht, rfl⟩)⟩ nx ndx hne (by rw [et]; exact gd) (fun HA dd SA ndd hx hd => ⟨rfl, ?_⟩)
        rw [et] at hd
        have SB := S8.trans SA
        have gA := SB _ _ (b7 _ _ g5 (Ne.symm eG))
        have eA := SB _ _ e7
        have dA := SB _ _ d7
        have xG : x ≠ G := ne_of hx gA (fun z => by cases z)
        have dG : dd ≠ G := fun z => by rw [z, S8 _ _ (b7 _ _ g5 (Ne.symm eG))] at ndd; cases ndd
        have old : ∀ c, H8 c = none → H c = none := fun c hc => by
          cases z : H c with
          | none => rfl
          | some o =>
            by_cases y : c = d
            · rw [y, S8 _ _ d7] at hc
              cases hc
            · by_cases y2 : c = e.1
              · rw [y2, S8 _ _ e7] at hc
                cases hc
              · rw [S8 _ _ (b7 _ _ (b5 _ _ z y) y2)] at hc
                cases hc
        refine ⟨.ref G, rfl, .str e.2.1, rfl, G, _, rfl, DPut.k (k := Sum.inr e.2.1) gA (by rw [kvE_len]; omega), by rw [upd_ne eG]; exact eA, ⟨_, _, rfl⟩, fun c o hc nc => ?_, ?_, es' ++ [(x, e.2)], ?_, fun y hy => ?_, ?_⟩
        · by_cases z : c = e.1
          · subst z
            rw [upd_same, ← he]
            exact hc
          · rw [upd_ne z, upd_ne (ne_of_none hc nG)]
            exact SB _ _ (b7 _ _ (b5 _ _ hc nc) z)
        · rw [upd_ne (Ne.symm ed), upd_ne (Ne.symm Gd)]
          exact dA
        · have no : e.2.1 ∉ (plOf es').map Prod.fst := fun mm => by
            have n2 := g.n
            have tk : (plOf es)[i]? = some e.2 := by
              unfold plOf
              rw [List.getElem?_map, ee]
              rfl
            have e3 : plOf es = (plOf es).take i ++ e.2 :: (plOf es).drop (i + 1) := by
              obtain ⟨h1, h2⟩ := List.getElem?_eq_some_iff.mp tk
              rw [← h2, ← List.drop_eq_getElem_cons h1, List.take_append_drop]
            rw [e3, ← epl, List.map_append] at n2
            exact (List.nodup_append.mp n2).2.2 e.2.1 mm e.2.1 List.mem_cons_self rfl
          rw [upd_ne (Ne.symm eG), upd_same, putK_new _ (kvE_none no)]
          unfold kvE
          rw [List.map_append]
          rfl
        · have off : ∀ c o, H c = none → c ≠ G → HA c = some o → (L2.upd (L2.upd HA G (.dK (putK (kvE es') (Sum.inr e.2.1) (.ref x)))) e.1 (.dK (kvP e.2.2))) c = some o := fun c o hc nc h => by
            rw [upd_ne (fun z => by rw [z, he] at hc; cases hc), upd_ne nc]
            exact h
          rcases List.mem_append.mp hy with my | my
          · exact (t5 y my).keep fun c o hc h0 nc => off c o h0 nc (SB _ _ (b7 _ _ hc (fun z => by rw [z, he] at h0; cases h0)))
          · rw [List.mem_singleton.mp my]
            exact ⟨dx, dd, off _ _ (old _ nx) xG hx, off _ _ (old _ ndd) dG hd, old _ ndd, dG, old _ nx, xG⟩
        · have tk : (plOf es)[i]? = some e.2 := by
            unfold plOf
            rw [List.getElem?_map, ee]
            rfl
          rw [List.take_add_one, tk, ← epl]
          unfold plOf
          rw [List.map_append]
          rfl
    · obtain ⟨⟨y2, y3, rfl⟩, b5, d5, es', g5, t5, epl⟩ := hP
      refine ⟨d5, ?_⟩
      have epl : plOf es' = plOf es := by rw [epl, kvE_len, ← plOf_len, List.take_length]
      refine ⟨.ref G, rfl, q G es' _ (unlock_same hP0.d b5) ⟨by rw [upd_ne Gd]; exact g5, fun e he => ?_⟩ epl⟩
      obtain ⟨dx, dd, h1, h2, h3, h4, h5, h6⟩ := t5 e he
      have ge := g.e e.2 (epl ▸ List.mem_map.mpr ⟨e, he, rfl⟩)
      refine ⟨⟨dx, dd, ?_, ?_⟩, ge.2.1, ?_⟩
      · rw [upd_ne (fun z => by rw [z, hP0.d] at h5; cases h5)]
        exact h1
      · rw [upd_ne (fun z => by rw [z, hP0.d] at h3; cases h3)]
        exact h2
      · have := rows_tot (plOf es) e.2.1
        rw [rows_mem g.n (epl ▸ List.mem_map.mpr ⟨e, he, rfl⟩)] at this
        omega
theorem ok_lpath {f g1 : Addr} {fd gd1 : FuncData} (F : Fun K "_law_path" "_law_path" sLPath f fd) (B : Blt mg) (cLLane : CLLane P w K mg base g1 gd1) : FnOk P w K mg base CX0 2 f fd ["plan", "town", "address"] spLPath := by
  refine F.ok scLPath (fun vs H Q E h => ?_) (fun cdv A outer s H vs Q E hr h => ?_)
  · obtain ⟨d, t, a, es, rfl, _⟩ := h
    rfl
  · obtain ⟨d, t, a, es, rfl, hP0, hn, la, q⟩ := h
    have hu := hu_of hr
    have hz : sizeLine = 16777216 := rfl
    have g := hP0.g
    refine ⟨_, (pss_cons (ps_set (i := 3) scLPath.nd rfl (.inl rfl) (pe_lst (pa_cons (pv 1) pa_nil)))
      (pss_cons (ps_for PassesOwn.never rfl (pi_range1 (by rfl) B.range (pa_cons (pe_op op_add (pe_callB call_lenD (by rfl) B.len PySem.boot_len (pa_cons (pv 0) pa_nil)) pe_int) pa_nil)) (pg_name (i := 4) scLPath.nd rfl (.inl rfl))
        (pss_cons (ps_set (i := 5) scLPath.nd rfl (.inl rfl) (pe_call cLLane.G (hr.mono (by first | decide | omega)) (by rfl) cLLane.D.g cLLane.D.F.kp cLLane.D.b .nil pass0 (pa_cons (pe_dget2 hu (pv 0) (pe_ix ix_list (pv 3) (pe_un un_neg pe_int) (fun _ _ => rfl)) pe_dnewK ⟨rfl, by rfl, rfl, rfl⟩) (pa_cons (pv 2) pa_nil))))
        (pss_cons (ps_if (pt_cmpR op_isN (pv 5) pe_non (nomark _))
          (pss_one (ps_ret (pe_tup (pa_cons (pv 3) (pa_cons pe_str pa_nil)))))
          pss_nil)
        (pss_cons (ps_if (pt_cmpR op_eq (pv 5) pe_str (nomark _))
          (pss_one (ps_ret (pe_tup (pa_cons (pv 3) (pa_cons pe_str pa_nil)))))
          pss_nil)
        (pss_cons (ps_set (i := 3) scLPath.nd rfl (.inl rfl) (pe_op op_cat (pv 3) (pe_lst (pa_cons (pv 5) pa_nil))))
        (pss_one (ps_if (pt_cmpR op_in_seq (pv 5) (pe_slice sl_list (pv 3) po_none (po_some (pe_un un_neg pe_int))) (by rfl))
          (pss_one (ps_ret (pe_tup (pa_cons (pv 3) (pa_cons pe_str pa_nil)))))
          pss_nil)))))))
      (pss_one (ps_ret (pe_tup (pa_cons (pv 3) (pa_cons pe_str pa_nil))))))), ?_⟩
    refine ⟨.str t, rfl, by show 1 ≤ sizeLine; omega, fun S nS => ?_⟩
    have S1 : Same H (L2.upd H S (.lst [.str t])) := same_upd nS
    have hS1 : (L2.upd H S (.lst [V.str t])) S = some (.lst (([] ++ [t] : List Str).map V.str)) := upd_same
    generalize L2.upd H S (.lst [V.str t]) = H1 at S1 hS1
    refine ⟨.ref d, rfl, d, _, rfl, S1 _ _ hP0.d, (kvE es).length, 1, rfl, rfl, (kvE es).length + 1, rfl, by rw [kvE_len]; omega, by rw [kvE_len]; omega, ?_⟩
    refine for_it (walk_range (lo := 0) (n := (((kvE es).length : Int) + 1).toNat)) (fun i σ H' => Same H H' ∧ ∃ S p l y4 y5, σ = [some (.ref d), some (.str t), some (.str a), some (.ref S), y4, y5] ∧ H' S = some (.lst ((p ++ [l]).map V.str)) ∧ p.length = i ∧ pth (plOf es) a t = pathF (laneAt (plOf es) a) (es.length + 1 - i) p l)
      ⟨S1, S, [], t, none, none, rfl, hS1, rfl, by unfold pth; rw [plOf_len]; rfl⟩ (fun _ _ _ _ _ => trivial) (fun i x σ H5 H6 hi hP hy => ?_) (fun σ H5 hP => ?_)
    · obtain ⟨S5, S, p, l, y4, y5, rfl, hS, lp, ep⟩ := hP
      obtain ⟨rfl, rfl⟩ := hy
      have hi2 : i < es.length + 1 := by rw [kvE_len] at hi; omega
      obtain ⟨n, hn2⟩ : ∃ n, es.length + 1 - i = n + 1 := ⟨es.length - i, by omega⟩
      rw [hn2] at ep
      refine ⟨.ref d, rfl, d, rfl, .inl ⟨_, .of (S5 _ _ hP0.d)⟩, .ref S, rfl, 1, rfl, S, _, _, .str l, rfl, rfl, sqOf hS, by rw [List.map_append]; exact atI_last _ _, fun D nD => ?_⟩
      have S7 : Same H6 (L2.upd H6 D (.dK [])) := same_upd nD
      have hD7 : (L2.upd H6 D (.dK [])) D = some (.dK (kvP [])) := upd_same
      generalize L2.upd H6 D (.dK []) = H7 at S7 hD7
      have S8 := S5.trans S7
      have hS7 := S7 _ _ hS
      have pick : ∃ (b : Addr) (o' : Option V), DGet H7 d (.str l) o' ∧ o'.getD (.ref D) = .ref b ∧ H7 b = some (.dK (kvP (rowsOf (plOf es) l))) := by
        rcases es_case es l with ⟨e, he, rfl⟩ | hn
        · refine ⟨e.1, some (.ref e.1), ?_, rfl, ?_⟩
          · rw [← kvE_val g.n he]
            exact DGet.k (k := Sum.inr e.2.1) (S8 _ _ hP0.d)
          · rw [rows_of_mem g.n he]
            exact S8 _ _ (hP0.t e he)
        · refine ⟨D, none, ?_, rfl, ?_⟩
          · rw [← kvE_none hn]
            exact DGet.k (k := Sum.inr l) (S8 _ _ hP0.d)
          · rw [rows_not hn]
            exact hD7
      obtain ⟨b, o', dg, eo, hb⟩ := pick
      refine ⟨o', dg, .str a, rfl, ?_⟩
      rw [eo]
      refine ⟨b, _, a, rfl, hb, la, ?_⟩
      show gName 5 (laneAt (plOf es) a l) _ _ _
      have lpl : p.length < 900 + 1 := by omega
      conv at ep => rhs; unfold pathF
      rcases lane_str (plOf es) a l with el | ⟨x, el⟩
      · rw [el] at ep ⊢
        refine ⟨.non, rfl, rfl, true, rfl, ?_⟩
        refine ⟨.ref S, rfl, by show 2 ≤ sizeLine; omega, fun T nT => q T _ (S8.trans (same_upd nT)) ⟨S, ?_, ?_⟩⟩
        · rw [upd_same, ep]
          rfl
        · rw [upd_ne (ne_of_none hS7 nT), ep]
          exact hS7
      · rw [el] at ep ⊢
        dsimp only at ep
        refine ⟨.str x, rfl, rfl, false, rfl, ?_⟩
        refine ⟨.str x, rfl, rfl, _, rfl, ite2 (fun c => ?_) (fun c => ?_)⟩
        · have c0 : x = wE := V.str.inj (of_decide_eq_true c)
          rw [if_pos c0] at ep
          refine ⟨.ref S, rfl, by show 2 ≤ sizeLine; omega, fun T nT => q T _ (S8.trans (same_upd nT)) ⟨S, ?_, ?_⟩⟩
          · rw [upd_same, ep]
            rfl
          · rw [upd_ne (ne_of_none hS7 nT), ep]
            exact hS7
        · have c0 : ¬ (x = wE) := fun z => c (decide_eq_true (by rw [z]; rfl))
          rw [if_neg c0] at ep
          refine ⟨.ref S, rfl, .str x, rfl, by show 1 ≤ sizeLine; omega, fun L nL => ⟨S, L, _, _, rfl, rfl, (same_upd nL) _ _ hS7, upd_same, by rw [List.length_map, List.length_append]; show p.length + 1 + 1 ≤ sizeLine; omega, fun S2 nS2 => ?_⟩⟩
          have S9 : Same H (L2.upd (L2.upd H7 L (.lst [.str x])) S2 (.lst ((p ++ [l]).map V.str ++ [.str x]))) := (S8.trans (same_upd nL)).trans (same_upd nS2)
          have hS9 : (L2.upd (L2.upd H7 L (.lst [V.str x])) S2 (.lst ((p ++ [l]).map V.str ++ [V.str x]))) S2 = some (.lst ((p ++ [l]).map V.str ++ [V.str x])) := upd_same
          generalize L2.upd (L2.upd H7 L (.lst [V.str x])) S2 (.lst ((p ++ [l]).map V.str ++ [V.str x])) = H9 at S9 hS9
          refine ⟨.str x, rfl, .ref S2, rfl, 1, rfl, _, rfl, S2, _, rfl, sqOf hS9, fun Z nZ => ⟨Z, _, rfl, .inl (sqOf upd_same), rfl, by rw [show cutV ((p ++ [l]).map V.str ++ [V.str x]) none (some (-1)) = (p ++ [l]).map V.str from cut_last _ _]; exact flat_strs _, _, rfl, ?_⟩⟩
          have SZ := S9.trans (same_upd nZ (o := .lst (cutV ((p ++ [l]).map V.str ++ [V.str x]) none (some (-1)))))
          have hSZ := (same_upd nZ (o := .lst (cutV ((p ++ [l]).map V.str ++ [V.str x]) none (some (-1))))) _ _ hS9
          generalize L2.upd H9 Z (.lst (cutV ((p ++ [l]).map V.str ++ [V.str x]) none (some (-1)))) = HZ at SZ hSZ
          rw [show cutV ((p ++ [l]).map V.str ++ [V.str x]) none (some (-1)) = (p ++ [l]).map V.str from cut_last _ _]
          have em : (p ++ [l]).map V.str ++ [V.str x] = (p ++ [l] ++ [x]).map V.str := by rw [List.map_append (l₂ := [x])]; rfl
          rw [em] at hSZ
          show if (inV (.str x) ((p ++ [l]).map V.str)) = true then _ else _
          by_cases c2 : x ∈ p ++ [l]
          · rw [inV_str c2]
            rw [if_pos c2] at ep
            refine ⟨.ref S2, rfl, by show 2 ≤ sizeLine; omega, fun T nT => q T _ (SZ.trans (same_upd nT)) ⟨S2, ?_, ?_⟩⟩
            · rw [upd_same, ep]
              rfl
            · rw [upd_ne (ne_of_none hSZ nT), ep]
              exact hSZ
          · rw [if_neg c2] at ep
            rw [show inV (.str x) ((p ++ [l]).map V.str) = false by
              cases z : inV (.str x) ((p ++ [l]).map V.str) with
              | false => rfl
              | true => exact absurd (str_inV z) c2]
            refine ⟨SZ, S2, p ++ [l], x, _, _, rfl, hSZ, by rw [List.length_append, lp]; rfl, ?_⟩
            rw [ep, show es.length + 1 - (i + 1) = n by omega]
    · obtain ⟨S5, S, p, l, y4, y5, rfl, hS, lp, ep⟩ := hP
      rw [show es.length + 1 - (((kvE es).length : Int) + 1).toNat = 0 by rw [kvE_len]; omega] at ep
      refine ⟨.ref S, rfl, by show 2 ≤ sizeLine; omega, fun T nT => q T _ (S5.trans (same_upd nT)) ⟨S, ?_, ?_⟩⟩
      · rw [upd_same, ep]
        rfl
      · rw [upd_ne (ne_of_none hS nT), ep]
        exact hS
end
end Tb
namespace Tb
open PySem PySem.Spec PyProof.Rows L2
open PySem.W (AllAlike Sortable dataLe TotalLe)
abbrev sTowns : Stmt := topS 33
abbrev NTowns : List Str := ["bag", "many", "found", "k"]
theorem scTowns : FnScope NTowns ["bag", "many"] (defScope sTowns) := ⟨rfl, rfl, rfl, by decide +kernel, rfl, by decide +kernel, by decide +kernel⟩
abbrev sOneCh : Stmt := topS 36
abbrev NOneCh : List Str := ["bag", "plan", "towns", "town", "stems", "prefix", "kind", "ways", "one"]
theorem scOneCh : FnScope NOneCh ["bag", "plan", "towns"] (defScope sOneCh) := ⟨rfl, rfl, rfl, by decide +kernel, rfl, by decide +kernel, by decide +kernel⟩
theorem put_lane {own : List Pr} {p w : Str} (h : laneV (kvP own) p = .str w) (a : Str) : laneV (kvP (putP own p w)) a = laneV (kvP own) a := by
  have gen : ∀ n, n ≤ a.length → laneN (kvP (putP own p w)) a n = laneN (kvP own) a n := by
    intro n
    induction n with
    | zero => exact fun _ => rfl
    | succ n ih =>
      intro hn
      have hv : valV (kvP (putP own p w)) (Sum.inr (pre a (n + 1))) = if pre a (n + 1) = p then some (.str w) else valV (kvP own) (Sum.inr (pre a (n + 1))) := by
        rw [← put_kvP, valV_put]
        by_cases c : pre a (n + 1) = p
        · rw [if_pos c, if_pos (inr_eq.mpr c)]
        · rw [if_neg c, if_neg fun z => c (inr_eq.mp z)]
      by_cases c : pre a (n + 1) = p
      · rw [if_pos c] at hv
        rw [laneN_yes hv, ← laneV_pre hn, c, h]
      · rw [if_neg c] at hv
        cases e : valV (kvP own) (Sum.inr (pre a (n + 1))) with
        | some v => rw [laneN_yes (hv.trans e), laneN_yes e]
        | none => rw [laneN_no (hv.trans e), laneN_no e, ih (by omega)]
  exact gen _ (Nat.le_refl _)
theorem sim_aft {pl : Pl} (g : GoodPl pl) {t p w : Str} (h : laneAt pl p t = .str w) : Sim (plAft pl t p (some w)) pl := by
  refine ⟨fun a u => ?_, ?_⟩
  · unfold laneAt
    rw [rows_aft g.n]
    by_cases c : u = t
    · rw [if_pos c, c]
      exact put_lane h a
    · rw [if_neg c]
  · have k : t ∈ pl.map Prod.fst := lane_key (a := p) (by rw [h]; exact fun e => by cases e)
    unfold plAft
    rw [if_pos k, List.length_map]
structure Tw (H : Hp) (l : Addr) (ts : List Str) : Prop where
  l : H l = some (.lst (ts.map V.str))
  n : ts.Nodup
  g : ∀ x ∈ ts, isName x = true
  z : ts.length ≤ 60
theorem Tw.same {H H' : Hp} {l : Addr} {ts : List Str} (T : Tw H l ts) (h : Same H H') : Tw H' l ts := ⟨h _ _ T.l, T.n, T.g, T.z⟩
theorem Tw.txs {H : Hp} {l : Addr} {ts : List Str} (T : Tw H l ts) : Txs H l ts := ⟨T.l, by have := T.z; omega, fun x hx => name_tx (T.g x hx)⟩
theorem Tw.but {H H' : Hp} {l p : Addr} {ts : List Str} (T : Tw H l ts) (B : Bag H p) (h : But p H H') : Tw H' l ts := ⟨h _ _ T.l (T.txs.off B), T.n, T.g, T.z⟩
theorem name_lane {t : Str} (h : isName t = true) : isLane t = true := lane_of_name ((isName_iff t).mp h)
theorem wE_lane : isLane wE = true := by decide +kernel
theorem wE_name {t : Str} (h : isName t = true) : wE ≠ t := fun e => by
  rw [← e] at h
  revert h
  decide +kernel
def spTowns : Sp := fun vs H Q _ => ∃ (p : Addr) (n : Int), vs = [.ref p, .int n] ∧ Bag H p ∧ 0 ≤ n ∧ n ≤ 50 ∧ ∀ (l : Addr) (ts : List Str) (H' : Hp), Bag H' p → But p H H' → Tw H' l ts → ts.length = n.toNat + 2 → Q (.ref l) H'
def spOneCh : Sp := fun vs H Q _ => ∃ (p d l : Addr) (es : List En) (ts : List Str), vs = [.ref p, .ref d, .ref l] ∧ Bag H p ∧ PlanAt H d es ∧ Tw H l ts ∧ 1 ≤ ts.length ∧ tot (plOf es) ≤ 99 ∧
  ∀ (T : Addr) (t z : Str) (o : Option Str) (H' : Hp), H' T = some (.tup [.str t, .str z, oStr o]) → isName t = true → isAddr z = true → (∀ w, o = some w → isLane w = true ∧ w ≠ t) → (o = none → z ∈ (rowsOf (plOf es) t).map Prod.fst) → Bag H' p → But p H H' → Q (.ref T) H'
section
variable {P : Program} {w : World} {K : PySem.W.Frag} {mg : Str → Option Value} {base : Heap}
theorem ok_towns {f g1 : Addr} {fd gd1 : FuncData} (F : Fun K "_law_towns" "_law_towns" sTowns f fd) (B : Blt mg) (cFresh : C1 P w K mg base "_law_fresh_name" sFresh ["bag", "known"] 2 spFresh g1 gd1) : FnOk P w K mg base CX0 3 f fd ["bag", "many"] spTowns := by
  refine F.ok scTowns (fun vs H Q E h => ?_) (fun cdv A outer s H vs Q E hr h => ?_)
  · obtain ⟨p, n, rfl, _⟩ := h
    rfl
  · obtain ⟨p, n, rfl, hB, n0, n1, q⟩ := h
    have hz : sizeLine = 16777216 := rfl
    refine ⟨_, (pss_cons (ps_set (i := 2) scTowns.nd rfl (.inl rfl) (pe_lst pa_nil))
      (pss_cons (ps_for PassesOwn.never rfl (pi_range1 (by rfl) B.range (pa_cons (pe_op op_add (pv 1) pe_int) pa_nil)) (pg_name (i := 3) scTowns.nd rfl (.inl rfl))
        (pss_one (ps_expr (pe_bm PySem.F.plainAttrs_list PySem.F.slot_list_append PySem.F.type_list_append mt_append (pv 2) (pa_cons (pe_call cFresh.G (hr.mono (by first | decide | omega)) (by rfl) cFresh.D.g cFresh.D.F.kp cFresh.D.b .nil pass0 (pa_cons (pv 0) (pa_cons (pv 2) pa_nil))) pa_nil)))))
      (pss_one (ps_ret (pv 2))))), ?_⟩
    refine ⟨Nat.zero_le _, fun L nL => ?_⟩
    have S1 : Same H (L2.upd H L (.lst [])) := same_upd nL
    have Lp := bag_no hB nL
    refine ⟨.int n, rfl, n, 2, rfl, rfl, n + 2, rfl, by omega, by omega, ?_⟩
    refine for_it (walk_range (lo := 0) (n := (n + 2).toNat)) (fun i σ H' => ∃ ks y3, σ = [some (.ref p), some (.int n), some (.ref L), y3] ∧ Txs H' L ks ∧ (∀ x ∈ ks, Nm (tl x)) ∧ ks.Nodup ∧ ks.length = i ∧ Bag H' p ∧ But p H H')
      ⟨[], none, rfl, ⟨upd_same, Nat.zero_le _, fun x h => (by cases h)⟩, fun x h => (by cases h), List.nodup_nil, rfl, hB.same S1, Same.but S1⟩ (fun _ _ _ _ _ => trivial) (fun i x σ H5 H6 hi hP hy => ?_) (fun σ H5 hP => ?_)
    · obtain ⟨ks, y3, rfl, T5, nm, nd, lk, B5, b5⟩ := hP
      obtain ⟨rfl, rfl⟩ := hy
      refine ⟨.ref L, rfl, .inl ⟨rfl, _, sqOf T5.l⟩, .ref p, rfl, .ref L, rfl, p, L, ks, rfl, B5, T5, nm, fun z H7 nz new B7 b7 => ?_⟩
      have T7 := T5.but B5 b7
      refine ⟨L, _, .str z, rfl, rfl, T7.l, by rw [List.length_map]; omega, ks ++ [z], _, rfl, ⟨by rw [upd_same, List.map_append]; rfl, by rw [List.length_append]; show ks.length + 1 ≤ 400; omega, fun x hx => ?_⟩, fun x hx => ?_, ?_, by rw [List.length_append, lk]; rfl, B7.put Lp, (b5.trans b7).put nL⟩
      · rcases List.mem_append.mp hx with h | h
        · exact T7.t x h
        · rw [List.mem_singleton.mp h]
          exact nm_tx nz
      · rcases List.mem_append.mp hx with h | h
        · exact nm x h
        · rw [List.mem_singleton.mp h]
          exact nz
      · exact List.nodup_append.mpr ⟨nd, List.nodup_cons.mpr ⟨List.not_mem_nil, List.nodup_nil⟩, fun y hy z' hz' e => new (by omega) (by rw [← List.mem_singleton.mp hz', ← e]; exact hy)⟩
    · obtain ⟨ks, y3, rfl, T5, nm, nd, lk, B5, b5⟩ := hP
      exact ⟨.ref L, rfl, q L ks H5 B5 b5 ⟨T5.l, nd, fun x hx => (isName_iff x).mpr (nm x hx), by omega⟩ (by omega)⟩
theorem ok_onech {f g1 g2 : Addr} {fd gd1 gd2 : FuncData} (F : Fun K "_law_one_change" "_law_one_change" sOneCh f fd) (B : Blt mg) (cDraw : CDraw P w K mg base g1 gd1) (cPrefix : CPrefix P w K mg base g2 gd2) : FnOk P w K mg base CX0 3 f fd ["bag", "plan", "towns"] spOneCh := by
  refine F.ok scOneCh (fun vs H Q E h => ?_) (fun cdv A outer s H vs Q E hr h => ?_)
  · obtain ⟨p, d, l, es, ts, rfl, _⟩ := h
    rfl
  · obtain ⟨p, d, l, es, ts, rfl, hB, hP0, hT, tpos, ht, q⟩ := h
    have hu := hu_of hr
    have hz : sizeLine = 16777216 := rfl
    have g := hP0.g
    have hn : ts.length ≤ 60 := hT.z
    refine ⟨_, (pss_cons (ps_set (i := 3) scOneCh.nd rfl (.inr rfl) (pe_ix ix_list (pv 2) (pe_call cDraw.G (hr.mono (by first | decide | omega)) (by rfl) cDraw.D.g cDraw.D.F.kp cDraw.D.b .nil pass0 (pa_cons (pv 0) (pa_cons (pe_callB call_len_seq (by rfl) B.len PySem.boot_len (pa_cons (pv 2) pa_nil)) pa_nil))) (fun _ _ => rfl)))
      (pss_cons (ps_set (i := 4) scOneCh.nd rfl (.inl rfl) (pe_callTy (call_listD rfl) (by rfl) B.list PyProof.Rows.boot_list (pa_cons (pe_dget2 hu (pv 1) (pv 3) pe_dnewK ⟨rfl, by rfl, rfl, rfl⟩) pa_nil)))
      (pss_cons (ps_set (i := 5) scOneCh.nd rfl (.inl rfl) (pe_call cPrefix.G (hr.mono (by first | decide | omega)) (by rfl) cPrefix.D.g cPrefix.D.F.kp cPrefix.D.b .nil pass0 (pa_cons (pv 0) (pa_cons (pv 4) pa_nil))))
      (pss_cons (ps_set (i := 6) scOneCh.nd rfl (.inl rfl) (pe_call cDraw.G (hr.mono (by first | decide | omega)) (by rfl) cDraw.D.g cDraw.D.F.kp cDraw.D.b .nil pass0 (pa_cons (pv 0) (pa_cons pe_int pa_nil))))
      (C8.pss_cut (ps_if (PW.pt (pw_and (pt_cmpR (op_neD hr.units) (pv 4) (pe_lst pa_nil) (nomark _)) (pw_and1 (pt_cmpR op_gt (pv 6) pe_int (nomark _)))))
        (pss_one (ps_set (i := 5) scOneCh.nd rfl (.inl rfl) (pe_ix ix_list (pv 4) (pe_call cDraw.G (hr.mono (by first | decide | omega)) (by rfl) cDraw.D.g cDraw.D.F.kp cDraw.D.b .nil pass0 (pa_cons (pv 0) (pa_cons (pe_callB call_len_seq (by rfl) B.len PySem.boot_len (pa_cons (pv 4) pa_nil)) pa_nil))) (fun _ _ => rfl))))
        pss_nil)
      (pss_cons (ps_if (PW.pt (pw_and (pt_cmpR op_eq (pv 6) pe_int (nomark _)) (pw_and1 (pt_cmpR op_in_seq (pv 5) (pv 4) (by rfl)))))
        (pss_one (ps_ret (pe_tup (pa_cons (pv 3) (pa_cons (pv 5) (pa_cons pe_non pa_nil))))))
        pss_nil)
      (pss_cons (ps_set (i := 7) scOneCh.nd rfl (.inl rfl) (pe_op op_cat (pe_lst (pa_cons pe_str pa_nil)) (pe_lc (own := [("one", 8)]) (g := gName 8) (by rfl) scOneCh.nd (pi_list (pv 2)) (blkOk_by (N := NOneCh) (sc := defScope sOneCh) (by decide +kernel)) (fun _ _ _ _ _ => pg_name (i := 8) scOneCh.nd rfl (Or.inl rfl)) (fun _ _ _ _ _ => pts_one (pt_cmpR op_ne (pv 8) (pv 3) (nomark _))) (fun _ _ _ _ _ => pv 8))))
      (pss_one (ps_ret (pe_tup (pa_cons (pv 3) (pa_cons (pv 5) (pa_cons (pe_ix ix_list (pv 7) (pe_call cDraw.G (hr.mono (by first | decide | omega)) (by rfl) cDraw.D.g cDraw.D.F.kp cDraw.D.b .nil pass0 (pa_cons (pv 0) (pa_cons (pe_callB call_len_seq (by rfl) B.len PySem.boot_len (pa_cons (pv 7) pa_nil)) pa_nil))) (fun _ _ => rfl)) pa_nil))))))))))))), ?_⟩
    refine ⟨.ref l, rfl, .ref p, rfl, .ref l, rfl, l, _, rfl, .inl (sqOf hT.l), p, _, rfl, hB, by rw [List.length_map]; omega, by rw [List.length_map]; omega, fun j H1 j0 j1 B1 b1 => ?_⟩
    have T1 := hT.but hB b1
    have P1 := hP0.but hB b1
    obtain ⟨t, htt, et⟩ := pick j0 j1
    have tn := hT.g t htt
    refine ⟨l, _, j, .str t, rfl, rfl, sqOf T1.l, et, ?_⟩
    refine ⟨.ref d, rfl, d, rfl, .inl ⟨_, .of P1.d⟩, .str t, rfl, fun D nD => ?_⟩
    have S2 : Same H1 (L2.upd H1 D (.dK [])) := same_upd nD
    have hD2 : (L2.upd H1 D (.dK [])) D = some (.dK (kvP [])) := upd_same
    generalize L2.upd H1 D (.dK []) = H2 at S2 hD2
    have P2 := P1.same S2
    have B2 := B1.same S2
    have b2 := b1.trans (Same.but S2)
    have T2 := T1.same S2
    have pick2 : ∃ (b : Addr) (o' : Option V), DGet H2 d (.str t) o' ∧ o'.getD (.ref D) = .ref b ∧ H2 b = some (.dK (kvP (rowsOf (plOf es) t))) := by
      rcases es_case es t with ⟨e, he, rfl⟩ | hn
      · refine ⟨e.1, some (.ref e.1), ?_, rfl, ?_⟩
        · rw [← kvE_val g.n he]
          exact DGet.k (k := Sum.inr e.2.1) P2.d
        · rw [rows_of_mem g.n he]
          exact P2.t e he
      · refine ⟨D, none, ?_, rfl, ?_⟩
        · rw [← kvE_none hn]
          exact DGet.k (k := Sum.inr t) P2.d
        · rw [rows_not hn]
          exact hD2
    obtain ⟨b, o', dg, eo, hb⟩ := pick2
    have gr : Good (rowsOf (plOf es) t) := by
      rcases rows_case (plOf es) t with ⟨e, he, _, e2⟩ | ⟨_, e2⟩
      · rw [e2]
        exact (g.e e he).2.1
      · rw [e2]
        exact good_nil
    have low := rows_tot (plOf es) t
    refine ⟨o', dg, ?_⟩
    rw [eo]
    generalize eown : rowsOf (plOf es) t = own at gr low hb
    refine ⟨b, _, rfl, .of hb, fun L nL => ?_⟩
    have Lp := bag_no B2 nL
    have S3 := same_upd (o := HO.lst ((kvP own).map fun kv => kV kv.1)) nL
    obtain ⟨TA, hAd⟩ := keys_txs gr (by omega) (H := L2.upd H2 L (.lst ((kvP own).map fun kv => kV kv.1))) (l := L) upd_same
    refine ⟨.ref p, rfl, .ref L, rfl, p, L, _, rfl, B2.same S3, TA, hAd, fun z H4 Az B4 b4 => ?_⟩
    have TL4 := TA.but (B2.same S3) b4
    have T4 := (T2.same S3).but (B2.same S3) b4
    have b4 := (b2.trans (Same.but S3)).trans b4
    have az := (isAddr_iff z).mpr Az
    refine ⟨.ref p, rfl, p, 4, rfl, B4, by decide, by decide, fun kd H5 k0 k1 B5 b5 => ?_⟩
    have TL5 := TL4.but B4 b5
    have T5 := T4.but B4 b5
    have b5 := b4.trans b5
    clear TA hAd S3 TL4 T4 Az dg hb hD2 P1 P2 T1 T2 B1 b1 b2 b4
    refine ⟨fun σ' H' => ∃ z, σ' = [some (.ref p), some (.ref d), some (.ref l), some (.str t), some (.ref L), some (.str z), some (.int kd), none, none] ∧ isAddr z = true ∧ Txs H' L (own.map Prod.fst) ∧ Tw H' l ts ∧ Bag H' p ∧ But p H H', ?_, ?_⟩
    · refine ifS_via (fun c H' => (Txs H' L (own.map Prod.fst) ∧ Tw H' l ts ∧ Bag H' p ∧ But p H H') ∧ (c = true → own ≠ [])) (fun Q hQ => ?_) (fun c H6 hR => ?_)
      · refine ⟨.ref L, rfl, by decide, fun e ne => ⟨_, _, .lst (sqOf (same_upd ne _ _ TL5.l)) (dp_strs _), .lst (sqOf upd_same) .nil, shaped_strs TL5.t, by decide, _, rfl, ?_⟩⟩
        rw [eqv_nil]
        have S6 := same_upd (o := HO.lst []) ne
        have all6 := And.intro (TL5.same S6) (And.intro (T5.same S6) (And.intro (B5.same S6) (b5.trans (Same.but S6))))
        cases own with
        | nil => exact hQ _ _ ⟨all6, fun z => by cases z⟩
        | cons o1 os => exact ⟨.int kd, rfl, kd, 0, rfl, rfl, _, rfl, hQ _ _ ⟨all6, fun _ => by simp⟩⟩
      · obtain ⟨⟨TL6, T6, B6, b6⟩, hne⟩ := hR
        cases c with
        | false => exact ⟨z, rfl, az, TL6, T6, B6, b6⟩
        | true =>
          have kpos : 0 < own.length := List.length_pos_iff.mpr (hne rfl)
          refine ⟨.ref L, rfl, .ref p, rfl, .ref L, rfl, L, _, rfl, .inl (sqOf TL6.l), p, _, rfl, B6, by rw [List.length_map, List.length_map]; omega, by rw [List.length_map, List.length_map]; omega, fun i H7 i0 i1 B7 b7 => ?_⟩
          obtain ⟨x, hx, ex⟩ := pick i0 i1
          obtain ⟨r, hr', rfl⟩ := List.mem_map.mp hx
          have TL7 := TL6.but B6 b7
          exact ⟨L, _, i, .str r.1, rfl, rfl, sqOf TL7.l, ex, r.1, rfl, (gr.1 r hr').1, TL7, T6.but B6 b7, B7, b6.trans b7⟩
    clear TL5 T5 B5 b5 az z
    rintro σ1 H6 ⟨z, rfl, az, TL6, T6, B6, b6⟩
    refine seqIf_via (fun c H' => H' = H6 ∧ (c = true → z ∈ own.map Prod.fst)) (fun Q hQ => ?_) (fun c H7 hR => ?_)
    · refine ⟨.int kd, rfl, rfl, _, rfl, ite2 (fun c1 => ?_) (fun c1 => ?_)⟩
      · refine ⟨.str z, rfl, .ref L, rfl, L, _, rfl, .inl (sqOf TL6.l), rfl, flat_strs _, _, rfl, hQ _ _ ⟨rfl, fun e => str_inV e⟩⟩
      · exact hQ _ _ ⟨rfl, fun e => by cases e⟩
    · obtain ⟨rfl, hm⟩ := hR
      cases c with
      | true => exact ⟨.str t, rfl, .str z, rfl, by show 3 ≤ sizeLine; omega, fun T nT => q T t z none _ upd_same tn az (fun w e => by cases e) (fun _ => by rw [eown]; exact hm rfl) (B6.same (same_upd nT)) (b6.trans (Same.but (same_upd nT)))⟩
      | false =>
        refine ⟨by show 1 ≤ sizeLine; omega, fun W nW => ?_⟩
        have S8 := same_upd (o := HO.lst [V.str (Str.ofString "")]) nW
        have T8 := T6.same S8
        have B8 := B6.same S8
        have b8 := b6.trans (Same.but S8)
        have hW8 : (L2.upd H7 W (.lst [V.str (Str.ofString "")])) W = some (.lst [V.str (Str.ofString "")]) := upd_same
        generalize L2.upd H7 W (.lst [V.str (Str.ofString "")]) = H8 at T8 B8 b8 hW8
        refine ⟨.ref l, rfl, l, rfl, ⟨_, sqOf T8.l⟩, fun G nG => ?_⟩
        refine lc_it (walk_list (a := l) (xs := ts.map V.str)) (fun i H' => Same H8 H' ∧ ∃ ms : List Str, H' G = some (.lst (ms.map V.str)) ∧ (∀ x ∈ ms, isLane x = true ∧ x ≠ t) ∧ ms.length ≤ i)
          ⟨same_upd nG, [], upd_same, fun x h => (by cases h), Nat.le_refl _⟩ (fun i H' _ hP => sqOf (hP.1 _ _ T8.l)) (fun i v H9 HA hi hP hy => ?_) (fun H9 hP => ?_)
        · obtain ⟨S9, ms, hG, gm, lm⟩ := hP
          obtain ⟨rfl, ev⟩ := hy
          rw [List.getElem?_map] at ev
          cases ex : ts[i]? with
          | none => rw [ex] at ev; cases ev
          | some x =>
          rw [ex] at ev
          cases (Option.some.inj ev)
          have i2 : i < ts.length := (List.getElem?_eq_some_iff.mp ex).1
          refine ⟨rfl, .str x, rfl, .str t, rfl, rfl, _, rfl, ite2 (fun c => ?_) (fun c => ?_)⟩
          · rw [Bool.not_eq_true', decide_eq_false_iff_not] at c
            refine ⟨.str x, rfl, _, hG, by rw [List.length_map]; omega, fun c o hc => ?_, ms ++ [x], by rw [upd_same, List.map_append]; rfl, fun y hy => ?_, by rw [List.length_append]; show ms.length + 1 ≤ i + 1; omega⟩
            · rw [upd_ne (ne_of_none hc nG)]
              exact S9 _ _ hc
            · rcases List.mem_append.mp hy with h | h
              · exact gm y h
              · rw [List.mem_singleton.mp h]
                exact ⟨name_lane (hT.g x (List.mem_of_getElem? ex)), fun e => c (by rw [e])⟩
          · exact ⟨S9, ms, hG, gm, by omega⟩
        · obtain ⟨S9, ms, hG, gm, lm⟩ := hP
          rw [List.length_map] at lm
          refine ⟨W, G, _, _, rfl, rfl, S9 _ _ hW8, hG, by rw [List.length_map]; show 1 + ms.length ≤ sizeLine; omega, fun U nU => ?_⟩
          have SU := S9.trans (same_upd nU (o := .lst ([V.str (Str.ofString "")] ++ ms.map V.str)))
          have hU : (L2.upd H9 U (.lst ([V.str (Str.ofString "")] ++ ms.map V.str))) U = some (.lst ((wE :: ms).map V.str)) := upd_same
          generalize L2.upd H9 U (.lst ([V.str (Str.ofString "")] ++ ms.map V.str)) = HB at SU hU
          have BB := B8.same SU
          have Up : U ≠ p := fun z => by
            rw [z] at nU
            exact bag_no (B8.same S9) nU rfl
          refine ⟨.str t, rfl, .str z, rfl, .ref U, rfl, .ref p, rfl, .ref U, rfl, U, _, rfl, .inl (sqOf hU), p, _, rfl, BB, by rw [List.length_map]; show (0 : Int) < ((ms.length + 1 : Nat) : Int); omega, by rw [List.length_map]; show ((ms.length + 1 : Nat) : Int) < 2 ^ 60; omega, fun j H9 j0 j1 B9 b9 => ?_⟩
          obtain ⟨x, hx, ex⟩ := pick j0 j1
          have xg : isLane x = true ∧ x ≠ t := by
            rcases List.mem_cons.mp hx with rfl | h
            · exact ⟨wE_lane, wE_name tn⟩
            · exact gm x h
          exact ⟨U, _, j, .str x, rfl, rfl, sqOf (b9 _ _ hU Up), ex, by show 3 ≤ sizeLine; omega, fun T nT => q T t z (some x) _ upd_same tn az (fun w e => by cases e; exact xg) (fun e => by cases e) (B9.same (same_upd nT)) (((b8.trans (Same.but SU)).trans b9).trans (Same.but (same_upd nT)))⟩
end
end Tb
namespace Tb
open PySem PySem.Spec PyProof.Rows L2
open PySem.W (AllAlike Sortable dataLe TotalLe)
abbrev sPlan : Stmt := topS 34
abbrev NPlan : List Str := ["bag", "towns", "many", "most", "plan", "known", "k", "ways", "own", "j", "prefix", "stem", "last", "one"]
theorem scPlan : FnScope NPlan ["bag", "towns", "many", "most"] (defScope sPlan) := ⟨rfl, rfl, rfl, by decide +kernel, rfl, by decide +kernel, by decide +kernel⟩
/-- a plan while it is built -/
structure Bp (H0 H : Hp) (p D : Addr) (es : List En) : Prop where
  d : H D = some (.dK (kvE es))
  t : ∀ e ∈ es, H e.1 = some (.dK (kvP e.2.2))
  f : ∀ e ∈ es, H0 e.1 = none ∧ e.1 ≠ D
  a : (es.map (·.1)).Nodup
  g : ∀ e ∈ es, isName e.2.1 = true ∧ Good e.2.2 ∧ e.2.1 ∉ e.2.2.map Prod.snd
  B : Bag H p
  b : But p H0 H
theorem Bp.keep {H0 H H' : Hp} {p D : Addr} {es : List En} (T : Bp H0 H p D es) (k : ∀ c kvs, H c = some (.dK kvs) → c = D ∨ (∃ e ∈ es, c = e.1) → H' c = some (.dK kvs)) (B' : Bag H' p) (b' : But p H0 H') : Bp H0 H' p D es :=
  ⟨k _ _ T.d (.inl rfl), fun e he => k _ _ (T.t e he) (.inr ⟨e, he, rfl⟩), T.f, T.a, T.g, B', b'⟩
theorem Bp.draw {H0 H H' : Hp} {p D : Addr} {es : List En} (T : Bp H0 H p D es) (B' : Bag H' p) (b' : But p H H') : Bp H0 H' p D es := by
  obtain ⟨xs, hp⟩ := T.B.lst
  exact T.keep (fun c kvs hc _ => b' _ _ hc (ne_of hc hp (fun z => by cases z))) B' (T.b.trans b')
theorem Bp.same {H0 H H' : Hp} {p D : Addr} {es : List En} (T : Bp H0 H p D es) (S : Same H H') : Bp H0 H' p D es := T.keep (fun c kvs hc _ => S _ _ hc) (T.B.same S) (T.b.trans (Same.but S))
theorem Bp.plan {H0 H : Hp} {p D : Addr} {es : List En} (T : Bp H0 H p D es) (n : ((plOf es).map Prod.fst).Nodup) : PlanAt H D es := ⟨T.d, T.t, fun x hx => by
  obtain ⟨e, he, rfl⟩ := List.mem_map.mp hx
  exact T.g e he, n⟩
/-- a list other than the bag is written -/
theorem put_off {H0 H : Hp} {p L : Addr} {o : HO} (b : But p H0 H) (n : H0 L = none) : But p H0 (L2.upd H L o) := fun c u hc nc => by
  rw [upd_ne (ne_of_none hc n)]
  exact b _ _ hc nc
theorem Bp.snoc {H0 H : Hp} {p D O : Addr} {es : List En} {t : Str} {own : List Pr} (T : Bp H0 H p D es) (hO : H O = some (.dK (kvP own))) (n1 : H0 O = none) (n2 : O ≠ D) (n3 : ∀ e ∈ es, e.1 ≠ O) (nt : t ∉ (plOf es).map Prod.fst) (nD : H0 D = none) (g : isName t = true ∧ Good own ∧ t ∉ own.map Prod.snd) :
    Bp H0 (L2.upd H D (.dK (putK (kvE es) (Sum.inr t) (.ref O)))) p D (es ++ [(O, (t, own))]) := by
  obtain ⟨xs, hp⟩ := T.B.lst
  refine ⟨?_, fun e he => ?_, fun e he => ?_, ?_, fun e he => ?_, T.B.put (ne_of T.d hp (fun z => by cases z)), put_off T.b nD⟩
  · rw [upd_same, putK_new _ (kvE_none nt)]
    unfold kvE
    rw [List.map_append]
    rfl
  · rcases List.mem_append.mp he with m | m
    · rw [upd_ne (T.f e m).2]
      exact T.t e m
    · rw [List.mem_singleton.mp m, upd_ne n2]
      exact hO
  · rcases List.mem_append.mp he with m | m
    · exact T.f e m
    · rw [List.mem_singleton.mp m]
      exact ⟨n1, n2⟩
  · rw [List.map_append]
    exact List.nodup_append.mpr ⟨T.a, List.nodup_cons.mpr ⟨List.not_mem_nil, List.nodup_nil⟩, fun y hy z hz e => by
      obtain ⟨x, hx, rfl⟩ := List.mem_map.mp hy
      have e2 : x.1 = O := e.trans (List.mem_singleton.mp hz)
      exact n3 x hx e2⟩
  · rcases List.mem_append.mp he with m | m
    · exact T.g e m
    · rw [List.mem_singleton.mp m]
      exact g
theorem tot_bound {pl : Pl} {m : Nat} (h : ∀ e ∈ pl, e.2.length ≤ m) : tot pl ≤ pl.length * m := by
  induction pl with
  | nil => exact Nat.zero_le _
  | cons e pl ih =>
    rw [tot_cons, List.length_cons, Nat.succ_mul]
    have := h e List.mem_cons_self
    have := ih fun x hx => h x (List.mem_cons_of_mem _ hx)
    omega
/-- a row put into one town -/
def setR (es : List En) (i : Nat) (z w : Str) : List En := match es[i]? with
  | some e => es.set i (e.1, (e.2.1, putP e.2.2 z w))
  | none => es
theorem setR_at {es : List En} {i : Nat} {e : En} (h : es[i]? = some e) (z w : Str) : setR es i z w = es.set i (e.1, (e.2.1, putP e.2.2 z w)) := by
  unfold setR
  rw [h]
theorem setR_kvE {es : List En} {i : Nat} {e : En} (h : es[i]? = some e) (z w : Str) : kvE (setR es i z w) = kvE es ∧ (setR es i z w).map (·.1) = es.map (·.1) ∧ (plOf (setR es i z w)).map Prod.fst = (plOf es).map Prod.fst ∧ (setR es i z w).length = es.length := by
  obtain ⟨hi, hx⟩ := List.getElem?_eq_some_iff.mp h
  rw [setR_at h]
  have gen : ∀ {β : Type} (f : En → β), f (e.1, (e.2.1, putP e.2.2 z w)) = f e → (es.set i (e.1, (e.2.1, putP e.2.2 z w))).map f = es.map f := fun f hf => by
    rw [List.map_set, hf, ← hx, ← List.getElem_map f (h := by rw [List.length_map]; exact hi), List.set_getElem_self]
  refine ⟨gen _ rfl, gen _ rfl, ?_, List.length_set⟩
  unfold plOf
  rw [List.map_map, List.map_map]
  exact gen _ rfl
theorem mem_setR {es : List En} {i : Nat} {e x : En} (h : es[i]? = some e) {z w : Str} (m : x ∈ setR es i z w) : (∃ j, j ≠ i ∧ es[j]? = some x) ∨ x = (e.1, (e.2.1, putP e.2.2 z w)) := by
  rw [setR_at h] at m
  obtain ⟨j, hj⟩ := List.getElem?_of_mem m
  rw [List.getElem?_set] at hj
  by_cases c : i = j
  · subst c
    rw [if_pos rfl] at hj
    split at hj
    · exact .inr (Option.some.inj hj).symm
    · cases hj
  · rw [if_neg c] at hj
    exact .inl ⟨j, fun z => c z.symm, hj⟩
theorem Bp.set {H0 H : Hp} {p D : Addr} {es : List En} (T : Bp H0 H p D es) {i : Nat} {e : En} (h : es[i]? = some e) {z w : Str} (az : isAddr z = true) (lw : isLane w = true) (nw : w ≠ e.2.1) :
    Bp H0 (L2.upd H e.1 (.dK (putK (kvP e.2.2) (Sum.inr z) (.str w)))) p D (setR es i z w) := by
  have m := List.mem_of_getElem? h
  obtain ⟨k1, k2, k3, k4⟩ := setR_kvE h z w
  obtain ⟨xs, hp⟩ := T.B.lst
  have ge := T.g e m
  have inj : ∀ x j, j ≠ i → es[j]? = some x → x.1 ≠ e.1 := fun x j nj hx ee => by
    have n := T.a
    obtain ⟨a1, a2⟩ := List.getElem?_eq_some_iff.mp hx
    obtain ⟨b1, b2⟩ := List.getElem?_eq_some_iff.mp h
    have l1 : j < (es.map (·.1)).length := by rw [List.length_map]; exact a1
    have l2 : i < (es.map (·.1)).length := by rw [List.length_map]; exact b1
    refine nj ((List.getElem_inj (i := j) (j := i) (h₀ := l1) (h₁ := l2) n).mp ?_)
    rw [List.getElem_map, List.getElem_map, a2, b2]
    exact ee
  refine ⟨?_, fun x hx => ?_, fun x hx => ?_, by rw [k2]; exact T.a, fun x hx => ?_, T.B.put (ne_of (T.t e m) hp (fun z => by cases z)), put_off T.b (T.f e m).1⟩
  · rw [upd_ne (Ne.symm (T.f e m).2), k1]
    exact T.d
  · rcases mem_setR h hx with ⟨j, nj, hj⟩ | rfl
    · rw [upd_ne (inj x j nj hj)]
      exact T.t x (List.mem_of_getElem? hj)
    · rw [upd_same, put_kvP]
  · rcases mem_setR h hx with ⟨j, nj, hj⟩ | rfl
    · exact T.f x (List.mem_of_getElem? hj)
    · exact T.f e m
  · rcases mem_setR h hx with ⟨j, nj, hj⟩ | rfl
    · exact T.g x (List.mem_of_getElem? hj)
    · refine ⟨ge.1, put_good ge.2.1 az lw, fun mm => ?_⟩
      obtain ⟨q, hq, eq⟩ := List.mem_map.mp mm
      rcases mem_put hq with hq | rfl
      · exact ge.2.2 (List.mem_map.mpr ⟨q, hq, eq⟩)
      · exact nw eq
def spPlan : Sp := fun vs H Q _ => ∃ (p l : Addr) (many most : Int) (ts : List Str), vs = [.ref p, .ref l, .int many, .int most] ∧ Bag H p ∧ Tw H l ts ∧ 0 ≤ many ∧ many.toNat + 2 = ts.length ∧ 0 ≤ most ∧ most ≤ 30 ∧ many.toNat * (most.toNat + 1) ≤ 100 ∧
  ∀ (d : Addr) (es : List En) (H' : Hp), Bag H' p → But p H H' → PlanAt H' d es → es.length = many.toNat → tot (plOf es) ≤ 100 → Q (.ref d) H'
end Tb
namespace Tb
open PySem PySem.Spec PyProof.Rows L2
open PySem.W (AllAlike Sortable dataLe TotalLe)
structure Pz (H0 H : Hp) (p l D Kn U O : Addr) (ts ws ks : List Str) (es : List En) (own : List Pr) : Prop where
  P : Bp H0 H p D es
  o : H O = some (.dK (kvP own))
  u : H U = some (.lst (ws.map V.str))
  up : U ≠ p
  T : Tw H l ts
  k : Txs H Kn ks
theorem Pz.draw {H0 H H' : Hp} {p l D Kn U O : Addr} {ts ws ks : List Str} {es : List En} {own : List Pr} (Z : Pz H0 H p l D Kn U O ts ws ks es own) (B' : Bag H' p) (b' : But p H H') : Pz H0 H' p l D Kn U O ts ws ks es own := by
  obtain ⟨xs, hp⟩ := Z.P.B.lst
  exact ⟨Z.P.draw B' b', b' _ _ Z.o (ne_of Z.o hp (fun z => by cases z)), b' _ _ Z.u Z.up, Z.up, Z.T.but Z.P.B b', Z.k.but Z.P.B b'⟩
theorem Pz.same {H0 H H' : Hp} {p l D Kn U O : Addr} {ts ws ks : List Str} {es : List En} {own : List Pr} (Z : Pz H0 H p l D Kn U O ts ws ks es own) (S : Same H H') : Pz H0 H' p l D Kn U O ts ws ks es own :=
  ⟨Z.P.same S, S _ _ Z.o, S _ _ Z.u, Z.up, Z.T.same S, Z.k.same S⟩
section
variable {P : Program} {w : World} {K : PySem.W.Frag} {mg : Str → Option Value} {base : Heap}
theorem ok_plan {f g1 g2 : Addr} {fd gd1 gd2 : FuncData} (F : Fun K "_law_plan" "_law_plan" sPlan f fd) (B : Blt mg) (cDraw : CDraw P w K mg base g1 gd1) (cPrefix : CPrefix P w K mg base g2 gd2) : FnOk P w K mg base CX0 3 f fd ["bag", "towns", "many", "most"] spPlan := by
  refine F.ok scPlan (fun vs H Q E h => ?_) (fun cdv A outer s H vs Q E hr h => ?_)
  · obtain ⟨p, l, many, most, ts, rfl, _⟩ := h
    rfl
  · obtain ⟨p, l, many, most, ts, rfl, hB, hT, m0, lts, o0, o1, bnd, q⟩ := h
    have hu := hu_of hr
    have hz : sizeLine = 16777216 := rfl
    have tz : ts.length ≤ 60 := hT.z
    refine ⟨_, (pss_cons (ps_set (i := 4) scPlan.nd rfl (.inl rfl) pe_dnewK)
      (pss_cons (ps_set (i := 5) scPlan.nd rfl (.inl rfl) (pe_lst pa_nil))
      (pss_cons (ps_for PassesOwn.never rfl (pi_range1 (by rfl) B.range (pa_cons (pv 2) pa_nil)) (pg_name (i := 6) scPlan.nd rfl (.inr rfl))
        (pss_cons (ps_set (i := 7) scPlan.nd rfl (.inl rfl) (pe_op op_cat (pe_lst (pa_cons pe_str pa_nil)) (pe_lc (own := [("one", 13)]) (g := gName 13) (by rfl) scPlan.nd (pi_list (pv 1)) (blkOk_by (N := NPlan) (sc := defScope sPlan) (by decide +kernel)) (fun _ _ _ _ _ => pg_name (i := 13) scPlan.nd rfl (Or.inl rfl)) (fun _ _ _ _ _ => pts_one (pt_cmpR op_ne (pv 13) (pe_ix (r := rIxL K) ix_list (pv 1) (pv 6) (fun _ _ => rfl)) (nomark _))) (fun _ _ _ _ _ => pv 13))))
        (pss_cons (ps_set (i := 8) scPlan.nd rfl (.inl rfl) pe_dnewK)
        (pss_cons (ps_for PassesOwn.never rfl (pi_range1 (by rfl) B.range (pa_cons (pe_call cDraw.G (hr.mono (by first | decide | omega)) (by rfl) cDraw.D.g cDraw.D.F.kp cDraw.D.b .nil pass0 (pa_cons (pv 0) (pa_cons (pe_op op_add (pv 3) pe_int) pa_nil))) pa_nil)) (pg_name (i := 9) scPlan.nd rfl (.inl rfl))
          (pss_cons (ps_set (i := 10) scPlan.nd rfl (.inl rfl) (pe_call cPrefix.G (hr.mono (by first | decide | omega)) (by rfl) cPrefix.D.g cPrefix.D.F.kp cPrefix.D.b .nil pass0 (pa_cons (pv 0) (pa_cons (pv 5) pa_nil))))
          (C8.pss_cut (ps_if (PW.pt (pw_and (pt_cmpR (op_neD hr.units) (pv 5) (pe_lst pa_nil) (nomark _)) (pw_and1 (pt_cmpR op_eq (pe_call cDraw.G (hr.mono (by first | decide | omega)) (by rfl) cDraw.D.g cDraw.D.F.kp cDraw.D.b .nil pass0 (pa_cons (pv 0) (pa_cons pe_int pa_nil))) pe_int (nomark _)))))
            (pss_one (ps_set (i := 10) scPlan.nd rfl (.inl rfl) (pe_ix ix_list (pv 5) (pe_call cDraw.G (hr.mono (by first | decide | omega)) (by rfl) cDraw.D.g cDraw.D.F.kp cDraw.D.b .nil pass0 (pa_cons (pv 0) (pa_cons (pe_callB call_len_seq (by rfl) B.len PySem.boot_len (pa_cons (pv 5) pa_nil)) pa_nil))) (fun _ _ => rfl))))
            pss_nil)
          (C8.pss_cut (ps_if (pt_cmpR op_notIn_seq (pv 10) (pv 5) (by rfl))
            (pss_one (ps_expr (pe_bm PySem.F.plainAttrs_list PySem.F.slot_list_append PySem.F.type_list_append mt_append (pv 5) (pa_cons (pv 10) pa_nil))))
            pss_nil)
          (pss_one (ps_dput hu (pv 8) (pv 10) (pe_ix ix_list (pv 7) (pe_call cDraw.G (hr.mono (by first | decide | omega)) (by rfl) cDraw.D.g cDraw.D.F.kp cDraw.D.b .nil pass0 (pa_cons (pv 0) (pa_cons (pe_callB call_len_seq (by rfl) B.len PySem.boot_len (pa_cons (pv 7) pa_nil)) pa_nil))) (fun _ _ => rfl)) (by rfl)))))))
        (pss_one (ps_dput hu (pv 4) (pe_ix ix_list (pv 1) (pv 6) (fun _ _ => rfl)) (pv 8) (by rfl)))))))
      (C8.pss_cut (ps_if (PW.pt (pw_and (pt_cmpR op_gt (pv 2) pe_int (nomark _)) (pw_and1 (pt_cmpR op_eq (pe_call cDraw.G (hr.mono (by first | decide | omega)) (by rfl) cDraw.D.g cDraw.D.F.kp cDraw.D.b .nil pass0 (pa_cons (pv 0) (pa_cons pe_int pa_nil))) pe_int (nomark _)))))
        (pss_cons (ps_set (i := 11) scPlan.nd rfl (.inl rfl) (pe_call cPrefix.G (hr.mono (by first | decide | omega)) (by rfl) cPrefix.D.g cPrefix.D.F.kp cPrefix.D.b .nil pass0 (pa_cons (pv 0) (pa_cons (pv 5) pa_nil))))
        (pss_cons (ps_for PassesOwn.never rfl (pi_range1 (by rfl) B.range (pa_cons (pe_op op_sub (pv 2) pe_int) pa_nil)) (pg_name (i := 6) scPlan.nd rfl (.inr rfl))
          (pss_one (ps_dput hu (pe_dget hu (pv 4) (pe_ix ix_list (pv 1) (pv 6) (fun _ _ => rfl)) (fun _ _ => rfl)) (pv 11) (pe_ix ix_list (pv 1) (pe_op op_add (pv 6) pe_int) (fun _ _ => rfl)) (by rfl))))
        (pss_cons (ps_set (i := 12) scPlan.nd rfl (.inl rfl) (pe_ix ix_list (pe_lst (pa_cons pe_str (pa_cons (pe_ix ix_list (pv 1) (pv 2) (fun _ _ => rfl)) (pa_cons (pe_ix ix_list (pv 1) (pe_call cDraw.G (hr.mono (by first | decide | omega)) (by rfl) cDraw.D.g cDraw.D.F.kp cDraw.D.b .nil pass0 (pa_cons (pv 0) (pa_cons (pe_op op_sub (pv 2) pe_int) pa_nil))) (fun _ _ => rfl)) pa_nil)))) (pe_call cDraw.G (hr.mono (by first | decide | omega)) (by rfl) cDraw.D.g cDraw.D.F.kp cDraw.D.b .nil pass0 (pa_cons (pv 0) (pa_cons pe_int pa_nil))) (fun _ _ => rfl)))
        (pss_one (ps_dput hu (pe_dget hu (pv 4) (pe_ix ix_list (pv 1) (pe_op op_sub (pv 2) pe_int) (fun _ _ => rfl)) (fun _ _ => rfl)) (pv 11) (pv 12) (by rfl))))))
        pss_nil)
      (pss_one (ps_ret (pv 4))))))), ?_⟩
    intro D nD
    have S1 : Same H (L2.upd H D (.dK [])) := same_upd nD
    have hD1 : (L2.upd H D (.dK [])) D = some (.dK (kvE [])) := upd_same
    have Dp := bag_no hB nD
    generalize L2.upd H D (.dK []) = H1 at S1 hD1
    refine ⟨Nat.zero_le _, fun Kn nK => ?_⟩
    have S2 : Same H (L2.upd H1 Kn (.lst [])) := S1.trans (same_upd nK)
    have Knp := bag_no (hB.same S1) nK
    have nKH : H Kn = none := by
      cases c : H Kn with
      | none => rfl
      | some o => rw [S1 _ _ c] at nK; cases nK
    have hD2 := (same_upd nK (o := .lst [])) _ _ hD1
    have DK : D ≠ Kn := ne_of_none hD1 nK
    have hK2 : (L2.upd H1 Kn (.lst [])) Kn = some (.lst (([] : List Str).map V.str)) := upd_same
    generalize L2.upd H1 Kn (.lst []) = H2 at S2 hD2 hK2
    refine ⟨.int many, rfl, many, rfl, by omega, by omega, ?_⟩
    refine for_it (walk_range (lo := 0) (n := many.toNat)) (fun i σ H' => ∃ (es : List En) (ks : List Str) (y6 y7 y8 y9 y10 y13 : Option V), σ = [some (.ref p), some (.ref l), some (.int many), some (.int most), some (.ref D), some (.ref Kn), y6, y7, y8, y9, y10, none, none, y13] ∧ Bp H H' p D es ∧ Tw H' l ts ∧ Txs H' Kn ks ∧ (∀ x ∈ ks, Ad (tl x)) ∧ ks.length ≤ i * most.toNat ∧ (plOf es).map Prod.fst = ts.take i ∧ ∀ e ∈ es, e.2.2.length ≤ most.toNat)
      ⟨[], [], none, none, none, none, none, none, rfl, ⟨hD2, fun e h => (by cases h), fun e h => (by cases h), List.nodup_nil, fun e h => (by cases h), hB.same S2, Same.but S2⟩, hT.same S2, ⟨hK2, Nat.zero_le _, fun x h => (by cases h)⟩, fun x h => (by cases h), Nat.zero_le _, rfl, fun e h => (by cases h)⟩ (fun _ _ _ _ _ => trivial) (fun i x σ H5 H6 hi hP hy => ?_) (fun σ H5 hP => ?_)
    · obtain ⟨es, ks0, y6, y7, y8, y9, y10, y13, rfl, P5, T5, K5, ka0, lk0, ek, lo⟩ := hP
      obtain ⟨rfl, rfl⟩ := hy
      have i2 : i < ts.length := by omega
      obtain ⟨t, et⟩ : ∃ t, ts[i]? = some t := ⟨_, List.getElem?_eq_getElem i2⟩
      have tn := hT.g t (List.mem_of_getElem? et)
      have lim : i * most.toNat + most.toNat ≤ 100 := by
        have h1 : (i + 1) * most.toNat ≤ many.toNat * (most.toNat + 1) := Nat.mul_le_mul (by omega) (by omega)
        rw [Nat.succ_mul] at h1
        omega
      -- the lanes
      refine ⟨by show 1 ≤ sizeLine; omega, fun W nW => ?_⟩
      have S7 := same_upd (o := HO.lst [V.str (Str.ofString "")]) nW
      have T7 := T5.same S7
      have P7 := P5.same S7
      have K7 := K5.same S7
      have hW7 : (L2.upd H6 W (.lst [V.str (Str.ofString "")])) W = some (.lst [V.str (Str.ofString "")]) := upd_same
      generalize L2.upd H6 W (.lst [V.str (Str.ofString "")]) = H7 at T7 P7 K7 hW7
      refine ⟨.ref l, rfl, l, rfl, ⟨_, sqOf T7.l⟩, fun G nG => ?_⟩
      refine lc_it (walk_list (a := l) (xs := ts.map V.str)) (fun i H' => Same H7 H' ∧ ∃ ms : List Str, H' G = some (.lst (ms.map V.str)) ∧ (∀ x ∈ ms, isLane x = true ∧ x ≠ t) ∧ ms.length ≤ i)
        ⟨same_upd nG, [], upd_same, fun x h => (by cases h), Nat.le_refl _⟩ (fun i H' _ hP => sqOf (hP.1 _ _ T7.l)) (fun n v H9 HA hn hP hy => ?_) (fun H9 hP => ?_)
      · obtain ⟨S9, ms, hG, gm, lm⟩ := hP
        obtain ⟨rfl, ev⟩ := hy
        rw [List.getElem?_map] at ev
        cases ex : ts[n]? with
        | none => rw [ex] at ev; cases ev
        | some x =>
        rw [ex] at ev
        cases (Option.some.inj ev)
        have n2 : n < ts.length := (List.getElem?_eq_some_iff.mp ex).1
        refine ⟨rfl, .str x, rfl, .ref l, rfl, .int (0 + (i : Int)), rfl, l, _, 0 + (i : Int), .str t, rfl, rfl, sqOf (S9 _ _ T7.l), ?_, rfl, _, rfl, ite2 (fun c => ?_) (fun c => ?_)⟩
        · rw [Int.zero_add]
          exact atI_nat (by rw [List.getElem?_map, et]; rfl)
        · rw [Bool.not_eq_true', decide_eq_false_iff_not] at c
          refine ⟨.str x, rfl, _, hG, by rw [List.length_map]; omega, fun c o hc => ?_, ms ++ [x], by rw [upd_same, List.map_append]; rfl, fun y hy => ?_, by rw [List.length_append]; show ms.length + 1 ≤ n + 1; omega⟩
          · rw [upd_ne (ne_of_none hc nG)]
            exact S9 _ _ hc
          · rcases List.mem_append.mp hy with h | h
            · exact gm y h
            · rw [List.mem_singleton.mp h]
              exact ⟨name_lane (hT.g x (List.mem_of_getElem? ex)), fun e => c (by rw [e])⟩
        · exact ⟨S9, ms, hG, gm, by omega⟩
      · obtain ⟨S9, ms, hG, gm, lm⟩ := hP
        rw [List.length_map] at lm
        refine ⟨W, G, _, _, rfl, rfl, S9 _ _ hW7, hG, by rw [List.length_map]; show 1 + ms.length ≤ sizeLine; omega, fun U nU => ?_⟩
        have SU := S9.trans (same_upd nU (o := .lst ([V.str (Str.ofString "")] ++ ms.map V.str)))
        have hU : (L2.upd H9 U (.lst ([V.str (Str.ofString "")] ++ ms.map V.str))) U = some (.lst ((wE :: ms).map V.str)) := upd_same
        have Up := bag_no ((P7.same S9).B) nU
        have gw : ∀ x ∈ wE :: ms, isLane x = true ∧ x ≠ t := fun x hx => by
          rcases List.mem_cons.mp hx with rfl | h
          · exact ⟨wE_lane, wE_name tn⟩
          · exact gm x h
        have lw : 1 ≤ (wE :: ms).length ∧ (wE :: ms).length ≤ 100 := ⟨Nat.succ_le_succ (Nat.zero_le _), by rw [List.length_cons]; omega⟩
        generalize L2.upd H9 U (.lst ([V.str (Str.ofString "")] ++ ms.map V.str)) = HB at SU hU
        generalize wE :: ms = ws at hU gw lw
        have TB := T7.same SU
        have PB := P7.same SU
        have KB := K7.same SU
        -- the rows
        intro O nO
        have SO := same_upd (o := HO.dK []) nO
        have OD : O ≠ D := fun z => by rw [z, PB.d] at nO; cases nO
        have Oe : ∀ e ∈ es, e.1 ≠ O := fun e he => ne_of_none (PB.t e he) nO
        have Op := bag_no PB.B nO
        have nOH : H O = none := bag_free hB PB.b PB.B nO
        have Z0 : Pz H (L2.upd HB O (.dK [])) p l D Kn U O ts ws ks0 es [] := ⟨PB.same SO, upd_same, SO _ _ hU, Up, TB.same SO, KB.same SO⟩
        generalize L2.upd HB O (.dK []) = HC at Z0
        refine ⟨.ref p, rfl, .int most, rfl, most, 1, rfl, rfl, p, most + 1, rfl, Z0.P.B, by omega, by omega, fun cnt HD c0 c1 BD bD => ⟨cnt, rfl, by omega, by omega, ?_⟩⟩
        have ZD := Z0.draw BD bD
        refine for_it (walk_range (lo := 0) (n := cnt.toNat)) (fun j σ H' => ∃ (own : List Pr) (ks : List Str) (y9 y10 : Option V), σ = [some (.ref p), some (.ref l), some (.int many), some (.int most), some (.ref D), some (.ref Kn), some (.int (0 + (i : Int))), some (.ref U), some (.ref O), y9, y10, none, none, y13] ∧ Pz H H' p l D Kn U O ts ws ks es own ∧ (∀ x ∈ ks, Ad (tl x)) ∧ ks.length ≤ i * most.toNat + j ∧ Good own ∧ t ∉ own.map Prod.snd ∧ own.length ≤ j)
          ⟨[], ks0, _, _, rfl, ZD, ka0, lk0, good_nil, List.not_mem_nil, Nat.le_refl _⟩ (fun _ _ _ _ _ => trivial) (fun j x σ HE HE' hj hP hy => ?_) (fun σ HE hP => ?_)
        · obtain ⟨own, ks, y9, y10, rfl, Z, ka, lk, go, to, lown⟩ := hP
          obtain ⟨rfl, rfl⟩ := hy
          refine ⟨.ref p, rfl, .ref Kn, rfl, p, Kn, ks, rfl, Z.P.B, Z.k, ka, fun z HF Az BF bF => ?_⟩
          have ZF := Z.draw BF bF
          have az := (isAddr_iff z).mpr Az
          refine ⟨fun σ' H' => ∃ z, σ' = [some (.ref p), some (.ref l), some (.int many), some (.int most), some (.ref D), some (.ref Kn), some (.int (0 + (i : Int))), some (.ref U), some (.ref O), some (.int (0 + (j : Int))), some (.str z), none, none, y13] ∧ isAddr z = true ∧ Pz H H' p l D Kn U O ts ws ks es own, ?_, ?_⟩
          · refine ifS_via (fun c H' => Pz H H' p l D Kn U O ts ws ks es own ∧ (c = true → ks ≠ [])) (fun Q hQ => ?_) (fun c H6 hR => ?_)
            · refine ⟨.ref Kn, rfl, by decide, fun e ne => ⟨_, _, .lst (sqOf (same_upd ne _ _ ZF.k.l)) (dp_strs _), .lst (sqOf upd_same) .nil, shaped_strs ZF.k.t, by decide, _, rfl, ?_⟩⟩
              rw [eqv_nil]
              have ZG := ZF.same (same_upd (o := HO.lst []) ne)
              cases ks with
              | nil => exact hQ _ _ ⟨ZG, fun z => by cases z⟩
              | cons o1 os => exact ⟨.ref p, rfl, p, 2, rfl, ZG.P.B, by decide, by decide, fun r H1 r0 r1 B1 b1 => ⟨rfl, _, rfl, hQ _ _ ⟨ZG.draw B1 b1, fun _ => by simp⟩⟩⟩
            · obtain ⟨Z6, hne⟩ := hR
              cases c with
              | false => exact ⟨z, rfl, az, Z6⟩
              | true =>
                have kpos : 0 < ks.length := List.length_pos_iff.mpr (hne rfl)
                have kn := Z6.k.n
                refine ⟨.ref Kn, rfl, .ref p, rfl, .ref Kn, rfl, Kn, _, rfl, .inl (sqOf Z6.k.l), p, _, rfl, Z6.P.B, by rw [List.length_map]; omega, by rw [List.length_map]; omega, fun r H7 r0 r1 B7 b7 => ?_⟩
                obtain ⟨x, hx, ex⟩ := pick r0 r1
                have Z7 := Z6.draw B7 b7
                exact ⟨Kn, _, r, .str x, rfl, rfl, sqOf Z7.k.l, ex, x, rfl, (isAddr_iff x).mpr (ka x hx), Z7⟩
          clear ZF Az az bF BF z
          rintro σ1 HG ⟨z, rfl, az, ZG⟩
          refine ⟨fun σ' H' => ∃ ks', σ' = [some (.ref p), some (.ref l), some (.int many), some (.int most), some (.ref D), some (.ref Kn), some (.int (0 + (i : Int))), some (.ref U), some (.ref O), some (.int (0 + (j : Int))), some (.str z), none, none, y13] ∧ Pz H H' p l D Kn U O ts ws ks' es own ∧ (∀ x ∈ ks', Ad (tl x)) ∧ ks'.length ≤ i * most.toNat + (j + 1), ?_, ?_⟩
          · refine ⟨.str z, rfl, .ref Kn, rfl, Kn, _, rfl, .inl (sqOf ZG.k.l), rfl, flat_strs _, _, rfl, ite2 (fun c => ?_) (fun c => ?_)⟩
            · refine ⟨.ref Kn, rfl, .inl ⟨rfl, _, sqOf ZG.k.l⟩, .str z, rfl, Kn, _, .str z, rfl, rfl, ZG.k.l, by rw [List.length_map]; omega, ks ++ [z], rfl, ?_, fun x hx => ?_, by rw [List.length_append]; show ks.length + 1 ≤ _; omega⟩
              · have off : ∀ c o, HG c = some o → c ≠ Kn → (L2.upd HG Kn (.lst (ks.map V.str ++ [V.str z]))) c = some o := fun c o hc nc => by rw [upd_ne nc]; exact hc
                have KU : U ≠ Kn := fun e => by
                  have a1 := KB.l
                  rw [← e] at a1
                  rw [hU] at a1
                  have a2 : ws.map V.str = ks0.map V.str := HO.lst.inj (Option.some.inj a1)
                  exact absurd a2 (fun a2 => by
                    have := SU
                    exact (ne_of_none K7.l (show H7 U = none from by
                      cases c : H7 U with
                      | none => rfl
                      | some o => rw [S9 _ _ c] at nU; cases nU)) e.symm)
                refine ⟨ZG.P.keep (fun c kvs hc _ => off _ _ hc (ne_of hc ZG.k.l (fun z => by cases z))) (ZG.P.B.put Knp) (put_off ZG.P.b nKH), off _ _ ZG.o (ne_of ZG.o ZG.k.l (fun z => by cases z)), off _ _ ZG.u KU, Up, ⟨off _ _ ZG.T.l (fun e => by rw [e] at hT; rw [hT.l] at nKH; cases nKH), ZG.T.n, ZG.T.g, ZG.T.z⟩, ⟨by rw [upd_same, List.map_append]; rfl, by rw [List.length_append]; show ks.length + 1 ≤ 400; omega, fun x hx => ?_⟩⟩
                rcases List.mem_append.mp hx with h | h
                · exact ZG.k.t x h
                · rw [List.mem_singleton.mp h]
                  exact ad_tx ((isAddr_iff z).mp az)
              · rcases List.mem_append.mp hx with h | h
                · exact ka x h
                · rw [List.mem_singleton.mp h]
                  exact (isAddr_iff z).mp az
            · exact ⟨ks, rfl, ZG, ka, by omega⟩
          clear ZG
          rintro σ1 HG ⟨ks', rfl, ZG, ka', lk'⟩
          refine ⟨.ref U, rfl, .ref p, rfl, .ref U, rfl, U, _, rfl, .inl (sqOf ZG.u), p, _, rfl, ZG.P.B, by rw [List.length_map]; omega, by rw [List.length_map]; omega, fun r H7 r0 r1 B7 b7 => ?_⟩
          obtain ⟨x, hx, ex⟩ := pick r0 r1
          have Z7 := ZG.draw B7 b7
          obtain ⟨xl, xt⟩ := gw x hx
          have lpu := put_len own z x
          refine ⟨U, _, r, .str x, rfl, rfl, sqOf Z7.u, ex, .ref O, rfl, .str z, rfl, O, _, rfl, DPut.k (k := Sum.inr z) Z7.o (by rw [kvP_len]; omega), putP own z x, ks', _, _, rfl, ?_, ka', lk', put_good go az xl, fun mm => ?_, by omega⟩
          · have off : ∀ c o, H7 c = some o → c ≠ O → (L2.upd H7 O (.dK (putK (kvP own) (Sum.inr z) (.str x)))) c = some o := fun c o hc nc => by rw [upd_ne nc]; exact hc
            exact ⟨Z7.P.keep (fun c kvs hc hcc => off _ _ hc (by rcases hcc with rfl | ⟨e, he, rfl⟩; exact Ne.symm OD; exact Oe e he)) (Z7.P.B.put Op) (put_off Z7.P.b nOH), by rw [upd_same, put_kvP], off _ _ Z7.u (ne_of Z7.u Z7.o (fun z => by cases z)), Up, ⟨off _ _ Z7.T.l (ne_of Z7.T.l Z7.o (fun z => by cases z)), Z7.T.n, Z7.T.g, Z7.T.z⟩, ⟨off _ _ Z7.k.l (ne_of Z7.k.l Z7.o (fun z => by cases z)), Z7.k.n, Z7.k.t⟩⟩
          · obtain ⟨r, hr', er⟩ := List.mem_map.mp mm
            rcases mem_put hr' with h | rfl
            · exact to (List.mem_map.mpr ⟨r, h, er⟩)
            · exact xt er
        · obtain ⟨own, ks, y9, y10, rfl, Z, ka, lk, go, to, lown⟩ := hP
          have c2 : cnt.toNat ≤ most.toNat := by omega
          have nt : t ∉ (plOf es).map Prod.fst := by
            rw [ek]
            intro m
            obtain ⟨n, hn, en⟩ := List.mem_take_iff_getElem.mp m
            obtain ⟨a1, a2⟩ := List.getElem?_eq_some_iff.mp et
            have := (List.getElem_inj hT.n).mp (en.trans a2.symm)
            omega
          have les : es.length = i := by
            have := congrArg List.length ek
            rw [List.length_map, plOf_len, List.length_take] at this
            omega
          refine ⟨.ref O, rfl, .ref D, rfl, .ref l, rfl, .int (0 + (i : Int)), rfl, l, _, 0 + (i : Int), .str t, rfl, rfl, sqOf Z.T.l, ?_, D, _, rfl, DPut.k (k := Sum.inr t) Z.P.d (by rw [kvE_len]; omega), es ++ [(O, (t, own))], ks, _, _, _, _, _, _, rfl, Z.P.snoc Z.o nOH OD Oe nt nD ⟨tn, go, to⟩, ?_, ?_, ka, by rw [Nat.succ_mul]; omega, ?_, fun e he => ?_⟩
          · rw [Int.zero_add]
            exact atI_nat (by rw [List.getElem?_map, et]; rfl)
          · exact ⟨by rw [upd_ne (ne_of Z.T.l Z.P.d (fun z => by cases z))]; exact Z.T.l, Z.T.n, Z.T.g, Z.T.z⟩
          · exact ⟨by rw [upd_ne (ne_of Z.k.l Z.P.d (fun z => by cases z))]; exact Z.k.l, Z.k.n, Z.k.t⟩
          · unfold plOf at ek ⊢
            rw [List.map_append, List.map_append, ek, List.take_add_one, et]
            rfl
          · rcases List.mem_append.mp he with m | m
            · exact lo e m
            · rw [List.mem_singleton.mp m]
              show own.length ≤ _
              omega
    · obtain ⟨es, ks, y6, y7, y8, y9, y10, y13, rfl, P5, T5, K5, ka, lk, ek, lo⟩ := hP
      have km : many.toNat < ts.length := by omega
      have nk : ∀ es' : List En, (plOf es').map Prod.fst = ts.take many.toNat → ((plOf es').map Prod.fst).Nodup := fun es' e => by
        rw [e]
        exact List.Nodup.sublist (List.take_sublist _ _) hT.n
      have le : ∀ es' : List En, (plOf es').map Prod.fst = ts.take many.toNat → es'.length = many.toNat := fun es' e => by
        have := congrArg List.length e
        rw [List.length_map, plOf_len, List.length_take] at this
        omega
      have at' : ∀ (H' : Hp), Tw H' l ts → ∀ (j : Nat) (t : Str), ts[j]? = some t → ∀ i : Int, i = (j : Int) → atI (ts.map V.str) i = some (.str t) := fun H' _ j t h i e => by
        rw [e]
        exact atI_nat (by rw [List.getElem?_map, h]; rfl)
      have dif : ∀ (a b : Nat) (x y : Str), ts[a]? = some x → ts[b]? = some y → a ≠ b → x ≠ y := fun a b x y h1 h2 nab e => by
        obtain ⟨a1, a2⟩ := List.getElem?_eq_some_iff.mp h1
        obtain ⟨b1, b2⟩ := List.getElem?_eq_some_iff.mp h2
        exact nab ((List.getElem_inj hT.n).mp (by rw [a2, b2]; exact e))
      have key : ∀ (es' : List En), (plOf es').map Prod.fst = ts.take many.toNat → ∀ (j : Nat) (t : Str), j < many.toNat → ts[j]? = some t → ∃ e, es'[j]? = some e ∧ e.2.1 = t := fun es' e j t hj ht => by
        have h1 : ((plOf es').map Prod.fst)[j]? = some t := by
          rw [e, List.getElem?_take, if_pos hj]
          exact ht
        unfold plOf at h1
        rw [List.getElem?_map, List.getElem?_map] at h1
        cases ee : es'[j]? with
        | none => rw [ee] at h1; cases h1
        | some x => rw [ee] at h1; exact ⟨x, rfl, Option.some.inj h1⟩
      refine ⟨fun σ' H' => ∃ (es' : List En) (y6 y7 y8 y9 y10 y11 y12 y13 : Option V), σ' = [some (.ref p), some (.ref l), some (.int many), some (.int most), some (.ref D), some (.ref Kn), y6, y7, y8, y9, y10, y11, y12, y13] ∧ Bag H' p ∧ But p H H' ∧ PlanAt H' D es' ∧ es'.length = many.toNat ∧ tot (plOf es') ≤ 100, ?_, ?_⟩
      · refine ifS_via (fun c H' => (Bp H H' p D es ∧ Tw H' l ts ∧ Txs H' Kn ks) ∧ (c = true → 1 < many)) (fun Q hQ => ?_) (fun c H6 hR => ?_)
        · refine ⟨.int many, rfl, many, 1, rfl, rfl, _, rfl, ite2 (fun c => ?_) (fun c => ?_)⟩
          · exact ⟨.ref p, rfl, p, 2, rfl, P5.B, by decide, by decide, fun r H1 r0 r1 B1 b1 => ⟨rfl, _, rfl, hQ _ _ ⟨⟨P5.draw B1 b1, T5.but P5.B b1, K5.but P5.B b1⟩, fun _ => of_decide_eq_true c⟩⟩⟩
          · exact hQ _ _ ⟨⟨P5, T5, K5⟩, fun e => by cases e⟩
        obtain ⟨⟨P6, T6, K6⟩, hm⟩ := hR
        cases c with
        | false =>
          have b1 := tot_bound (pl := plOf es) (m := most.toNat) (fun x hx => by obtain ⟨e, he, rfl⟩ := List.mem_map.mp hx; exact lo e he)
          rw [plOf_len, le es ek] at b1
          have b2 : many.toNat * most.toNat ≤ many.toNat * (most.toNat + 1) := Nat.mul_le_mul_left _ (Nat.le_succ _)
          exact ⟨es, _, _, _, _, _, _, _, _, rfl, P6.B, P6.b, P6.plan (nk es ek), le es ek, by omega⟩
        | true =>
        have hm := hm rfl
        refine ⟨.ref p, rfl, .ref Kn, rfl, p, Kn, ks, rfl, P6.B, K6, ka, fun z H7 Az B7 b7 => ?_⟩
        have az := (isAddr_iff z).mpr Az
        have P7 := P6.draw B7 b7
        have T7 := T6.but P6.B b7
        refine ⟨.int many, rfl, many, 1, rfl, rfl, many - 1, rfl, by omega, by omega, ?_⟩
        refine for_it (walk_range (lo := 0) (n := (many - 1).toNat)) (fun i σ H' => ∃ (es' : List En) (y6 : Option V), σ = [some (.ref p), some (.ref l), some (.int many), some (.int most), some (.ref D), some (.ref Kn), y6, y7, y8, y9, y10, some (.str z), none, y13] ∧ Bp H H' p D es' ∧ Tw H' l ts ∧ (plOf es').map Prod.fst = ts.take many.toNat ∧ ∀ (j : Nat) (e : En), es'[j]? = some e → e.2.2.length ≤ most.toNat + (if j < i then 1 else 0))
          ⟨es, _, rfl, P7, T7, ek, fun j e h => by have := lo e (List.mem_of_getElem? h); omega⟩ (fun _ _ _ _ _ => trivial) (fun i x σ H8 H8' hi hP hy => ?_) (fun σ H8 hP => ?_)
        · obtain ⟨es', y6, rfl, P8, T8, ek8, lo8⟩ := hP
          obtain ⟨rfl, rfl⟩ := hy
          obtain ⟨t, et⟩ : ∃ t, ts[i]? = some t := ⟨_, List.getElem?_eq_getElem (by omega)⟩
          obtain ⟨t', et'⟩ : ∃ t, ts[i + 1]? = some t := ⟨_, List.getElem?_eq_getElem (by omega)⟩
          obtain ⟨e, ee, rfl⟩ := key es' ek8 i t (by omega) et
          have m := List.mem_of_getElem? ee
          have dg : DGet H8' D (.str e.2.1) (some (.ref e.1)) := by
            rw [← kvE_val (nk es' ek8) m]
            exact DGet.k (k := Sum.inr e.2.1) P8.d
          have lw : isLane t' = true := name_lane (hT.g t' (List.mem_of_getElem? et'))
          have nw : t' ≠ e.2.1 := dif (i + 1) i _ _ et' et (by omega)
          have l8 := lo8 i e ee
          rw [if_neg (Nat.lt_irrefl i)] at l8
          refine ⟨.ref l, rfl, .int (0 + (i : Int)), rfl, 0 + (i : Int), 1, rfl, rfl, l, _, 0 + (i : Int) + 1, .str t', rfl, rfl, sqOf T8.l, at' _ T8 (i + 1) t' et' _ (by omega), .ref D, rfl, .ref l, rfl, .int (0 + (i : Int)), rfl, l, _, 0 + (i : Int), .str e.2.1, rfl, rfl, sqOf T8.l, at' _ T8 i _ et _ (by omega), D, .ref e.1, rfl, dg, .str z, rfl, e.1, _, rfl, DPut.k (k := Sum.inr z) (P8.t e m) (by rw [kvP_len]; omega), setR es' i z t', _, rfl, P8.set ee az lw nw, ?_, ?_, fun j x hx => ?_⟩
          · exact ⟨by rw [upd_ne (ne_of T8.l (P8.t e m) (fun z => by cases z))]; exact T8.l, T8.n, T8.g, T8.z⟩
          · rw [(setR_kvE ee z t').2.2.1]
            exact ek8
          · rw [setR_at ee, List.getElem?_set] at hx
            by_cases c : i = j
            · subst c
              rw [if_pos rfl] at hx
              split at hx
              · rw [← Option.some.inj hx, if_pos (Nat.lt_succ_self _)]
                have := put_len e.2.2 z t'
                show (putP e.2.2 z t').length ≤ _
                omega
              · cases hx
            · rw [if_neg c] at hx
              have := lo8 j x hx
              by_cases d : j < i
              · rw [if_pos d] at this
                rw [if_pos (by omega)]
                exact this
              · rw [if_neg d] at this
                rw [if_neg (by omega)]
                exact this
        · obtain ⟨es', y6, rfl, P8, T8, ek8, lo8⟩ := hP
          obtain ⟨n, hn⟩ : ∃ n : Nat, many = (n : Int) + 1 := ⟨(many - 1).toNat, by omega⟩
          have hn1 : (many - 1).toNat = n := by omega
          have hn2 : many.toNat = n + 1 := by omega
          rw [hn1] at lo8
          obtain ⟨t, et⟩ : ∃ t, ts[n]? = some t := ⟨_, List.getElem?_eq_getElem (by omega)⟩
          obtain ⟨a, ea⟩ : ∃ t, ts[n + 1]? = some t := ⟨_, List.getElem?_eq_getElem (by omega)⟩
          have tn := hT.g t (List.mem_of_getElem? et)
          refine ⟨.ref l, rfl, .int many, rfl, l, _, many, .str a, rfl, rfl, sqOf T8.l, at' _ T8 (n + 1) a ea _ (by omega), .ref l, rfl, .ref p, rfl, .int many, rfl, many, 1, rfl, rfl, p, many - 1, rfl, P8.B, by omega, by omega, fun r H9 r0 r1 B9 b9 => ?_⟩
          have P9 := P8.draw B9 b9
          have T9 := T8.but P8.B b9
          obtain ⟨b, eb⟩ : ∃ t, ts[r.toNat]? = some t := ⟨_, List.getElem?_eq_getElem (by omega)⟩
          refine ⟨l, _, r, .str b, rfl, rfl, sqOf T9.l, at' _ T9 r.toNat b eb _ (by omega), by show 3 ≤ sizeLine; omega, fun L nL => ?_⟩
          have SL := same_upd (o := HO.lst [V.str (Str.ofString ""), .str a, .str b]) nL
          have P10 := P9.same SL
          have T10 := T9.same SL
          have Lp := bag_no P9.B nL
          have hL : (L2.upd H9 L (.lst [V.str (Str.ofString ""), .str a, .str b])) L = some (.lst (([wE, a, b] : List Str).map V.str)) := upd_same
          generalize L2.upd H9 L (.lst [V.str (Str.ofString ""), .str a, .str b]) = HL at P10 T10 hL
          refine ⟨.ref p, rfl, p, 3, rfl, P10.B, by decide, by decide, fun r2 HM r20 r21 BM bM => ?_⟩
          have P11 := P10.draw BM bM
          have T11 := T10.but P10.B bM
          obtain ⟨x, hx, ex⟩ := pick (ks := [wE, a, b]) r20 r21
          have gx : isLane x = true ∧ x ≠ t := by
            rcases List.mem_cons.mp hx with rfl | hx
            · exact ⟨wE_lane, wE_name tn⟩
            · rcases List.mem_cons.mp hx with rfl | hx
              · exact ⟨name_lane (hT.g x (List.mem_of_getElem? ea)), dif (n + 1) n _ _ ea et (by omega)⟩
              · rw [List.mem_singleton.mp hx]
                exact ⟨name_lane (hT.g b (List.mem_of_getElem? eb)), dif r.toNat n _ _ eb et (by omega)⟩
          obtain ⟨e, ee, rfl⟩ := key es' ek8 n t (by omega) et
          have m := List.mem_of_getElem? ee
          have l8 := lo8 n e ee
          rw [if_neg (Nat.lt_irrefl n)] at l8
          have dg : DGet HM D (.str e.2.1) (some (.ref e.1)) := by
            rw [← kvE_val (nk es' ek8) m]
            exact DGet.k (k := Sum.inr e.2.1) P11.d
          obtain ⟨k1, k2, k3, k4⟩ := setR_kvE ee z x
          have PS := P11.set ee az gx.1 gx.2
          refine ⟨L, _, r2, .str x, rfl, rfl, sqOf (bM _ _ hL Lp), ex, .str x, rfl, .ref D, rfl, .ref l, rfl, .int many, rfl, many, 1, rfl, rfl, l, _, many - 1, .str e.2.1, rfl, rfl, sqOf T11.l, at' _ T11 n _ et _ (by omega), D, .ref e.1, rfl, dg, .str z, rfl, e.1, _, rfl, DPut.k (k := Sum.inr z) (P11.t e m) (by rw [kvP_len]; omega), setR es' n z x, _, _, _, _, _, _, _, _, rfl, PS.B, PS.b, PS.plan (by rw [k3]; exact nk es' ek8), by rw [k4]; exact le es' ek8, ?_⟩
          have b1 := tot_bound (pl := plOf (setR es' n z x)) (m := most.toNat + 1) (fun y hy => by
            obtain ⟨y', hy', rfl⟩ := List.mem_map.mp hy
            rcases mem_setR ee hy' with ⟨j, _, hj⟩ | rfl
            · have := lo8 j y' hj
              split at this <;> omega
            · have := put_len e.2.2 z x
              show (putP e.2.2 z x).length ≤ _
              omega)
          rw [plOf_len, k4, le es' ek8] at b1
          omega
      · rintro σ1 H6 ⟨es', y6, y7, y8, y9, y10, y11, y12, y13, rfl, B6, b6, P6, l6, t6⟩
        exact ⟨.ref D, rfl, q D es' H6 B6 b6 P6 l6 t6⟩
end
end Tb
namespace Tb
open PySem PySem.Spec PyProof.Rows L2
open PySem.W (AllAlike Sortable dataLe TotalLe)
abbrev sFullPlan : Stmt := topS 35
abbrev NFullPlan : List Str := ["bag", "towns", "many", "plan", "k", "ways", "own", "digit", "j"]
theorem scFullPlan : FnScope NFullPlan ["bag", "towns", "many"] (defScope sFullPlan) := ⟨rfl, rfl, rfl, by decide +kernel, rfl, by decide +kernel, by decide +kernel⟩
def spFullPlan : Sp := fun vs H Q _ => ∃ (p l : Addr) (many : Int) (ts : List Str), vs = [.ref p, .ref l, .int many] ∧ Bag H p ∧ Tw H l ts ∧ 0 ≤ many ∧ many.toNat + 2 = ts.length ∧ many ≤ 5 ∧
  ∀ (d : Addr) (es : List En) (H' : Hp), Bag H' p → But p H H' → PlanAt H' d es → es.length = many.toNat → tot (plOf es) ≤ 70 → Q (.ref d) H'
theorem one_addr {c : Nat} (h : isIn digits c = true) : isAddr ⟨#[c]⟩ = true := (isAddr_iff _).mpr (by
  rw [tl_one]
  exact ⟨Nat.le_refl 1, by show 1 ≤ 8; decide, fun d hd => by rw [List.mem_singleton.mp hd]; exact h⟩)
section
variable {P : Program} {w : World} {K : PySem.W.Frag} {mg : Str → Option Value} {base : Heap}
theorem ok_fullplan {f g1 g2 : Addr} {fd gd1 gd2 : FuncData} (F : Fun K "_law_full_plan" "_law_full_plan" sFullPlan f fd) (B : Blt mg) (cDraw : CDraw P w K mg base g1 gd1) (cPrefix : CPrefix P w K mg base g2 gd2) : FnOk P w K mg base CX0 3 f fd ["bag", "towns", "many"] spFullPlan := by
  refine F.ok scFullPlan (fun vs H Q E h => ?_) (fun cdv A outer s H vs Q E hr h => ?_)
  · obtain ⟨p, l, many, ts, rfl, _⟩ := h
    rfl
  · obtain ⟨p, l, many, ts, rfl, hB, hT, m0, lts, m5, q⟩ := h
    have hu := hu_of hr
    have hz : sizeLine = 16777216 := rfl
    have tz : ts.length ≤ 60 := hT.z
    refine ⟨_, (pss_cons (ps_set (i := 3) scFullPlan.nd rfl (.inl rfl) pe_dnewK)
      (pss_cons (ps_for PassesOwn.never rfl (pi_range1 (by rfl) B.range (pa_cons (pv 2) pa_nil)) (pg_name (i := 4) scFullPlan.nd rfl (.inl rfl))
        (pss_cons (ps_set (i := 5) scFullPlan.nd rfl (.inl rfl) (pe_op op_cat (pe_lst (pa_cons pe_str pa_nil)) (pe_slice sl_list (pv 1) po_none (po_some (pv 4)))))
        (pss_cons (ps_set (i := 6) scFullPlan.nd rfl (.inl rfl) pe_dnewK)
        (pss_cons (ps_for PassesOwn.never rfl (pi_str pe_str) (pg_name (i := 7) scFullPlan.nd rfl (.inl rfl))
          (pss_one (ps_dput hu (pv 6) (pv 7) (pe_ix ix_list (pv 5) (pe_call cDraw.G (hr.mono (by first | decide | omega)) (by rfl) cDraw.D.g cDraw.D.F.kp cDraw.D.b .nil pass0 (pa_cons (pv 0) (pa_cons (pe_callB call_len_seq (by rfl) B.len PySem.boot_len (pa_cons (pv 5) pa_nil)) pa_nil))) (fun _ _ => rfl)) (by rfl))))
        (pss_cons (ps_for PassesOwn.never rfl (pi_range1 (by rfl) B.range (pa_cons (pe_call cDraw.G (hr.mono (by first | decide | omega)) (by rfl) cDraw.D.g cDraw.D.F.kp cDraw.D.b .nil pass0 (pa_cons (pv 0) (pa_cons pe_int pa_nil))) pa_nil)) (pg_name (i := 8) scFullPlan.nd rfl (.inl rfl))
          (pss_one (ps_dput hu (pv 6) (pe_call cPrefix.G (hr.mono (by first | decide | omega)) (by rfl) cPrefix.D.g cPrefix.D.F.kp cPrefix.D.b .nil pass0 (pa_cons (pv 0) (pa_cons (pe_callTy (call_listD rfl) (by rfl) B.list PyProof.Rows.boot_list (pa_cons (pv 6) pa_nil)) pa_nil))) (pe_ix ix_list (pv 5) (pe_call cDraw.G (hr.mono (by first | decide | omega)) (by rfl) cDraw.D.g cDraw.D.F.kp cDraw.D.b .nil pass0 (pa_cons (pv 0) (pa_cons (pe_callB call_len_seq (by rfl) B.len PySem.boot_len (pa_cons (pv 5) pa_nil)) pa_nil))) (fun _ _ => rfl)) (by rfl))))
        (pss_one (ps_dput hu (pv 3) (pe_ix ix_list (pv 1) (pv 4) (fun _ _ => rfl)) (pv 6) (by rfl))))))))
      (pss_one (ps_ret (pv 3))))), ?_⟩
    intro D nD
    have S1 : Same H (L2.upd H D (.dK [])) := same_upd nD
    have hD1 : (L2.upd H D (.dK [])) D = some (.dK (kvE [])) := upd_same
    generalize L2.upd H D (.dK []) = H1 at S1 hD1
    refine ⟨.int many, rfl, many, rfl, by omega, by omega, ?_⟩
    refine for_it (walk_range (lo := 0) (n := many.toNat)) (fun i σ H' => ∃ (es : List En) (y4 y5 y6 y7 y8 : Option V), σ = [some (.ref p), some (.ref l), some (.int many), some (.ref D), y4, y5, y6, y7, y8] ∧ Bp H H' p D es ∧ Tw H' l ts ∧ (plOf es).map Prod.fst = ts.take i ∧ ∀ e ∈ es, e.2.2.length ≤ 13)
      ⟨[], none, none, none, none, none, rfl, ⟨hD1, fun e h => (by cases h), fun e h => (by cases h), List.nodup_nil, fun e h => (by cases h), hB.same S1, Same.but S1⟩, hT.same S1, rfl, fun e h => (by cases h)⟩ (fun _ _ _ _ _ => trivial) (fun i x σ H5 H6 hi hP hy => ?_) (fun σ H5 hP => ?_)
    · obtain ⟨es, y4, y5, y6, y7, y8, rfl, P5, T5, ek, lo⟩ := hP
      obtain ⟨rfl, rfl⟩ := hy
      have i2 : i < ts.length := by omega
      obtain ⟨t, et⟩ : ∃ t, ts[i]? = some t := ⟨_, List.getElem?_eq_getElem i2⟩
      have tn := hT.g t (List.mem_of_getElem? et)
      refine ⟨by show 1 ≤ sizeLine; omega, fun W nW => ?_⟩
      have S7 := same_upd (o := HO.lst [V.str (Str.ofString "")]) nW
      have T7 := T5.same S7
      have P7 := P5.same S7
      have hW7 : (L2.upd H6 W (.lst [V.str (Str.ofString "")])) W = some (.lst [V.str (Str.ofString "")]) := upd_same
      generalize L2.upd H6 W (.lst [V.str (Str.ofString "")]) = H7 at T7 P7 hW7
      have ecut : cutV (ts.map V.str) none (some (0 + (i : Int))) = (ts.take i).map V.str := by rw [Int.zero_add, cut_hi, List.map_take]
      refine ⟨.ref l, rfl, .int (0 + (i : Int)), rfl, 0 + (i : Int), rfl, l, _, rfl, sqOf T7.l, fun G nG => ?_⟩
      rw [ecut]
      have S8 := same_upd (o := HO.lst ((ts.take i).map V.str)) nG
      refine ⟨W, G, _, _, rfl, rfl, S8 _ _ hW7, upd_same, by rw [List.length_map, List.length_take]; show 1 + min i ts.length ≤ sizeLine; omega, fun U nU => ?_⟩
      have SU := S8.trans (same_upd nU (o := .lst ([V.str (Str.ofString "")] ++ (ts.take i).map V.str)))
      have hU : (L2.upd (L2.upd H7 G (.lst ((ts.take i).map V.str))) U (.lst ([V.str (Str.ofString "")] ++ (ts.take i).map V.str))) U = some (.lst ((wE :: ts.take i).map V.str)) := upd_same
      have Up := bag_no ((P7.same S8).B) nU
      have gw : ∀ x ∈ wE :: ts.take i, isLane x = true ∧ x ≠ t := fun x hx => by
        rcases List.mem_cons.mp hx with rfl | h
        · exact ⟨wE_lane, wE_name tn⟩
        · obtain ⟨n, hn, en⟩ := List.mem_take_iff_getElem.mp h
          obtain ⟨a1, a2⟩ := List.getElem?_eq_some_iff.mp et
          refine ⟨name_lane (hT.g x (List.mem_of_mem_take h)), fun e => ?_⟩
          have := (List.getElem_inj hT.n).mp (en.trans (e.trans a2.symm))
          omega
      have lw : 1 ≤ (wE :: ts.take i).length ∧ (wE :: ts.take i).length ≤ 100 := ⟨Nat.succ_le_succ (Nat.zero_le _), by rw [List.length_cons, List.length_take]; omega⟩
      generalize L2.upd (L2.upd H7 G (.lst ((ts.take i).map V.str))) U (.lst ([V.str (Str.ofString "")] ++ (ts.take i).map V.str)) = HB at SU hU
      generalize wE :: ts.take i = ws at hU gw lw
      have TB := T7.same SU
      have PB := P7.same SU
      intro O nO
      have SO := same_upd (o := HO.dK []) nO
      have OD : O ≠ D := fun z => by rw [z, PB.d] at nO; cases nO
      have Oe : ∀ e ∈ es, e.1 ≠ O := fun e he => ne_of_none (PB.t e he) nO
      have Op := bag_no PB.B nO
      have nOH : H O = none := bag_free hB PB.b PB.B nO
      have Z0 : Pz H (L2.upd HB O (.dK [])) p l D l U O ts ws ts es [] := ⟨PB.same SO, upd_same, SO _ _ hU, Up, TB.same SO, (TB.same SO).txs⟩
      generalize L2.upd HB O (.dK []) = HC at Z0
      -- a row is set
      have put : ∀ (H7 : Hp) (own : List Pr) (z x : Str), Pz H H7 p l D l U O ts ws ts es own → Pz H (L2.upd H7 O (.dK (putK (kvP own) (Sum.inr z) (.str x)))) p l D l U O ts ws ts es (putP own z x) := fun H7 own z x Z7 => by
        have off : ∀ c o, H7 c = some o → c ≠ O → (L2.upd H7 O (.dK (putK (kvP own) (Sum.inr z) (.str x)))) c = some o := fun c o hc nc => by rw [upd_ne nc]; exact hc
        have T8 : Tw (L2.upd H7 O (.dK (putK (kvP own) (Sum.inr z) (.str x)))) l ts := ⟨off _ _ Z7.T.l (ne_of Z7.T.l Z7.o (fun z => by cases z)), Z7.T.n, Z7.T.g, Z7.T.z⟩
        exact ⟨Z7.P.keep (fun c kvs hc hcc => off _ _ hc (by rcases hcc with rfl | ⟨e, he, rfl⟩; exact Ne.symm OD; exact Oe e he)) (Z7.P.B.put Op) (put_off Z7.P.b nOH), by rw [upd_same, put_kvP], off _ _ Z7.u (ne_of Z7.u Z7.o (fun z => by cases z)), Up, T8, T8.txs⟩
      have lanes : ∀ (own : List Pr) (z x : Str), t ∉ own.map Prod.snd → x ≠ t → t ∉ (putP own z x).map Prod.snd := fun own z x to xt mm => by
        obtain ⟨r, hr', er⟩ := List.mem_map.mp mm
        rcases mem_put hr' with h | rfl
        · exact to (List.mem_map.mpr ⟨r, h, er⟩)
        · exact xt er
      refine ⟨digits, rfl, ?_⟩
      refine for_it (walk_str (z := digits)) (fun j σ H' => ∃ (own : List Pr) (y7 : Option V), σ = [some (.ref p), some (.ref l), some (.int many), some (.ref D), some (.int (0 + (i : Int))), some (.ref U), some (.ref O), y7, y8] ∧ Pz H H' p l D l U O ts ws ts es own ∧ Good own ∧ t ∉ own.map Prod.snd ∧ own.length ≤ j)
        ⟨[], _, rfl, Z0, good_nil, List.not_mem_nil, Nat.le_refl _⟩ (fun _ _ _ _ _ => trivial) (fun j x σ HE HE' hj hP hy => ?_) (fun σ HE hP => ?_)
      · obtain ⟨own, y7, rfl, Z, go, to, lown⟩ := hP
        obtain ⟨rfl, c, ec, rfl⟩ := hy
        have az := one_addr (dg_any ec)
        have hj2 : j < 10 := hj
        refine ⟨.ref U, rfl, .ref p, rfl, .ref U, rfl, U, _, rfl, .inl (sqOf Z.u), p, _, rfl, Z.P.B, by rw [List.length_map]; omega, by rw [List.length_map]; omega, fun r H7 r0 r1 B7 b7 => ?_⟩
        obtain ⟨x, hx, ex⟩ := pick r0 r1
        have Z7 := Z.draw B7 b7
        obtain ⟨xl, xt⟩ := gw x hx
        have lpu := put_len own ⟨#[c]⟩ x
        exact ⟨U, _, r, .str x, rfl, rfl, sqOf Z7.u, ex, .ref O, rfl, .str ⟨#[c]⟩, rfl, O, _, rfl, DPut.k (k := Sum.inr ⟨#[c]⟩) Z7.o (by rw [kvP_len]; omega), putP own ⟨#[c]⟩ x, _, rfl, put _ _ _ _ Z7, put_good go az xl, lanes _ _ _ to xt, by omega⟩
      · obtain ⟨own, y7, rfl, Z, go, to, lown⟩ := hP
        have lown : own.length ≤ 10 := lown
        refine ⟨.ref p, rfl, p, 4, rfl, Z.P.B, by decide, by decide, fun cnt HD c0 c1 BD bD => ⟨cnt, rfl, by omega, by omega, ?_⟩⟩
        have ZD := Z.draw BD bD
        refine for_it (walk_range (lo := 0) (n := cnt.toNat)) (fun j σ H' => ∃ (own : List Pr) (y8 : Option V), σ = [some (.ref p), some (.ref l), some (.int many), some (.ref D), some (.int (0 + (i : Int))), some (.ref U), some (.ref O), y7, y8] ∧ Pz H H' p l D l U O ts ws ts es own ∧ Good own ∧ t ∉ own.map Prod.snd ∧ own.length ≤ 10 + j)
          ⟨own, _, rfl, ZD, go, to, lown⟩ (fun _ _ _ _ _ => trivial) (fun j x σ HE HE' hj hP hy => ?_) (fun σ HE hP => ?_)
        · obtain ⟨own, y8, rfl, Z, go, to, lown⟩ := hP
          obtain ⟨rfl, rfl⟩ := hy
          refine ⟨.ref U, rfl, .ref p, rfl, .ref U, rfl, U, _, rfl, .inl (sqOf Z.u), p, _, rfl, Z.P.B, by rw [List.length_map]; omega, by rw [List.length_map]; omega, fun r H7 r0 r1 B7 b7 => ?_⟩
          obtain ⟨x, hx, ex⟩ := pick r0 r1
          have Z7 := Z.draw B7 b7
          obtain ⟨xl, xt⟩ := gw x hx
          refine ⟨U, _, r, .str x, rfl, rfl, sqOf Z7.u, ex, .ref O, rfl, .ref p, rfl, .ref O, rfl, O, _, rfl, .of Z7.o, fun L nL => ?_⟩
          obtain ⟨TA, hAd⟩ := keys_txs go (by omega) (H := L2.upd H7 L (.lst ((kvP own).map fun kv => kV kv.1))) (l := L) upd_same
          have Z8 := Z7.same (same_upd (o := HO.lst ((kvP own).map fun kv => kV kv.1)) nL)
          refine ⟨p, L, _, rfl, Z8.P.B, TA, hAd, fun z H9 Az B9 b9 => ?_⟩
          have Z9 := Z8.draw B9 b9
          have lpu := put_len own z x
          exact ⟨O, _, rfl, DPut.k (k := Sum.inr z) Z9.o (by rw [kvP_len]; omega), putP own z x, _, rfl, put _ _ _ _ Z9, put_good go ((isAddr_iff z).mpr Az) xl, lanes _ _ _ to xt, by omega⟩
        · obtain ⟨own, y8, rfl, Z, go, to, lown⟩ := hP
          have nt : t ∉ (plOf es).map Prod.fst := by
            rw [ek]
            intro m
            obtain ⟨n, hn, en⟩ := List.mem_take_iff_getElem.mp m
            obtain ⟨a1, a2⟩ := List.getElem?_eq_some_iff.mp et
            have := (List.getElem_inj hT.n).mp (en.trans a2.symm)
            omega
          have les : es.length = i := by
            have := congrArg List.length ek
            rw [List.length_map, plOf_len, List.length_take] at this
            omega
          refine ⟨.ref O, rfl, .ref D, rfl, .ref l, rfl, .int (0 + (i : Int)), rfl, l, _, 0 + (i : Int), .str t, rfl, rfl, sqOf Z.T.l, ?_, D, _, rfl, DPut.k (k := Sum.inr t) Z.P.d (by rw [kvE_len]; omega), es ++ [(O, (t, own))], _, _, _, _, _, rfl, Z.P.snoc Z.o nOH OD Oe nt nD ⟨tn, go, to⟩, ?_, ?_, fun e he => ?_⟩
          · rw [Int.zero_add]
            exact atI_nat (by rw [List.getElem?_map, et]; rfl)
          · exact ⟨by rw [upd_ne (ne_of Z.T.l Z.P.d (fun z => by cases z))]; exact Z.T.l, Z.T.n, Z.T.g, Z.T.z⟩
          · unfold plOf at ek ⊢
            rw [List.map_append, List.map_append, ek, List.take_add_one, et]
            rfl
          · rcases List.mem_append.mp he with m | m
            · exact lo e m
            · rw [List.mem_singleton.mp m]
              show own.length ≤ _
              omega
    · obtain ⟨es, y4, y5, y6, y7, y8, rfl, P5, T5, ek, lo⟩ := hP
      have les : es.length = many.toNat := by
        have := congrArg List.length ek
        rw [List.length_map, plOf_len, List.length_take] at this
        omega
      have b1 := tot_bound (pl := plOf es) (m := 13) (fun x hx => by obtain ⟨e, he, rfl⟩ := List.mem_map.mp hx; exact lo e he)
      rw [plOf_len, les] at b1
      exact ⟨.ref D, rfl, q D es H5 P5.B P5.b (P5.plan (by rw [ek]; exact List.Nodup.sublist (List.take_sublist _ _) hT.n)) les (by omega)⟩
end
end Tb
namespace Tb
open PySem PySem.Spec PyProof.Rows L2
open PySem.W (AllAlike Sortable dataLe TotalLe)
abbrev sSMark : Stmt := inClass (topS 23) 9
abbrev NSMark : List Str := ["self", "address"]
theorem scSMark : FnScope NSMark ["self", "address"] (defScope sSMark) := ⟨rfl, rfl, rfl, by decide +kernel, rfl, by decide +kernel, by decide +kernel⟩
abbrev sSUnm : Stmt := inClass (topS 23) 10
abbrev NSUnm : List Str := ["self", "digit"]
theorem scSUnm : FnScope NSUnm ["self"] (defScope sSUnm) := ⟨rfl, rfl, rfl, by decide +kernel, rfl, by decide +kernel, by decide +kernel⟩
abbrev sSTests : Stmt := inClass (topS 23) 11
abbrev NSTests : List Str := ["self", "digit"]
theorem scSTests : FnScope NSTests ["self"] (defScope sSTests) := ⟨rfl, rfl, rfl, by decide +kernel, rfl, by decide +kernel, by decide +kernel⟩
abbrev sLUnm : Stmt := topS 41
abbrev NLUnm : List Str := ["stems", "digit"]
theorem scLUnm : FnScope NLUnm ["stems"] (defScope sLUnm) := ⟨rfl, rfl, rfl, by decide +kernel, rfl, by decide +kernel, by decide +kernel⟩
abbrev sLMark : Stmt := topS 42
abbrev NLMark : List Str := ["stems", "address", "size"]
theorem scLMark : FnScope NLMark ["stems", "address"] (defScope sLMark) := ⟨rfl, rfl, rfl, by decide +kernel, rfl, by decide +kernel, by decide +kernel⟩
theorem srt_uniq {xs ys : List Str} (h : Srt xs) (k : Srt ys) (m : ∀ x, x ∈ xs ↔ x ∈ ys) : xs = ys := by
  induction xs generalizing ys with
  | nil =>
    cases ys with
    | nil => rfl
    | cons y ys => exact absurd ((m y).mpr List.mem_cons_self) List.not_mem_nil
  | cons x xs ih =>
    cases ys with
    | nil => exact absurd ((m x).mp List.mem_cons_self) List.not_mem_nil
    | cons y ys =>
      obtain ⟨n1, p1⟩ := h
      obtain ⟨n2, p2⟩ := k
      have n1 := List.nodup_cons.mp n1
      have n2 := List.nodup_cons.mp n2
      have p1 := List.pairwise_cons.mp p1
      have p2 := List.pairwise_cons.mp p2
      have exy : x = y := by
        rcases List.mem_cons.mp ((m x).mp List.mem_cons_self) with e | hx
        · exact e
        · rcases List.mem_cons.mp ((m y).mpr List.mem_cons_self) with e | hy
          · exact e.symm
          · exact le1_anti (p1.1 y hy) (p2.1 x hx)
      subst exy
      rw [ih ⟨n1.2, p1.2⟩ ⟨n2.2, p2.2⟩ fun z => ⟨fun hz => ?_, fun hz => ?_⟩]
      · rcases List.mem_cons.mp ((m z).mp (List.mem_cons_of_mem _ hz)) with e | h
        · rw [e] at hz
          exact absurd hz n1.1
        · exact h
      · rcases List.mem_cons.mp ((m z).mpr (List.mem_cons_of_mem _ hz)) with e | h
        · rw [e] at hz
          exact absurd hz n2.1
        · exact h
/-- the least digit that is no mark -/
def unmO (ms : List Str) : Option Str := (digits.cps.toList.find? fun c => decide ((⟨#[c]⟩ : Str) ∉ ms)).map fun c => ⟨#[c]⟩
def testsL (ms : List Str) : List Str := ms ++ (unmO ms).toList
def spSMark (C CS : Addr) : Sp := fun vs H Q _ => ∃ (j : Addr) (a : Str) (pl : Pl), vs = [.ref j, .str a] ∧ SortOf C CS H j pl ∧ a.length ≤ 1000 ∧ ∀ ms, Srt ms → (∀ x, x ∈ ms ↔ isStem pl x) → Q (oStr (long (kvM ms) a)) H
def spSUnm (C CS : Addr) : Sp := fun vs H Q _ => ∃ (j : Addr) (pl : Pl), vs = [.ref j] ∧ SortOf C CS H j pl ∧ ∀ ms, Srt ms → (∀ x, x ∈ ms ↔ isStem pl x) → Q (oStr (unmO ms)) H
def spSTests (C CS : Addr) : Sp := fun vs H Q _ => ∃ (j : Addr) (pl : Pl), vs = [.ref j] ∧ SortOf C CS H j pl ∧ tot pl ≤ 900 ∧ ∀ (p : Addr) (ms : List Str) (H' : Hp), Same H H' → H p = none → H' p = some (.lst ((testsL ms).map V.str)) → Srt ms → (∀ x, x ∈ ms ↔ isStem pl x) → ms.length ≤ tot pl → Q (.ref p) H'
def spLUnm : Sp := fun vs H Q _ => ∃ (l : Addr) (ms : List Str), vs = [.ref l] ∧ H l = some (.lst (ms.map V.str)) ∧ Q (oStr (unmO ms)) H
def spLMark : Sp := fun vs H Q _ => ∃ (l : Addr) (ms : List Str) (a : Str), vs = [.ref l, .str a] ∧ H l = some (.lst (ms.map V.str)) ∧ a.length ≤ 1000 ∧ Q (oStr (long (kvM ms) a)) H
theorem unm_step {ms : List Str} {i c : Nat} (h : digits.cps.toList[i]? = some c) (before : ∀ d ∈ digits.cps.toList.take i, (⟨#[d]⟩ : Str) ∈ ms) (n : (⟨#[c]⟩ : Str) ∉ ms) : unmO ms = some ⟨#[c]⟩ := by
  obtain ⟨hi, hx⟩ := List.getElem?_eq_some_iff.mp h
  have e : digits.cps.toList = digits.cps.toList.take i ++ c :: digits.cps.toList.drop (i + 1) := by
    rw [← hx, ← List.drop_eq_getElem_cons hi, List.take_append_drop]
  unfold unmO
  rw [e, List.find?_append, List.find?_eq_none.mpr fun d hd => by
    have := before d hd
    simpa using this, List.find?_cons_of_pos (by simpa using n)]
  rfl
theorem unm_end {ms : List Str} (h : ∀ d ∈ digits.cps.toList, (⟨#[d]⟩ : Str) ∈ ms) : unmO ms = none := by
  unfold unmO
  rw [List.find?_eq_none.mpr fun d hd => by
    have := h d hd
    simpa using this]
  rfl
theorem kvM_val (ms : List Str) (x : Str) : (valV (kvM ms) (Sum.inr x)).isSome = decide (x ∈ ms) := by
  induction ms with
  | nil => rfl
  | cons m ms ih =>
    rw [show kvM (m :: ms) = (Sum.inr m, V.bl true) :: kvM ms from rfl, val_cons]
    by_cases c : m = x
    · rw [if_pos (inr_eq.mpr c), decide_eq_true (by rw [c]; exact List.mem_cons_self)]
      rfl
    · rw [if_neg fun z => c (inr_eq.mp z), ih]
      exact decide_eq_decide.mpr ⟨List.mem_cons_of_mem _, fun h => (List.mem_cons.mp h).resolve_left fun e => c e.symm⟩
section
variable {P : Program} {w : World} {K : PySem.W.Frag} {mg : Str → Option Value} {base : Heap}
abbrev CLongP (P : Program) (w : World) (K : PySem.W.Frag) (mg : Str → Option Value) (base : Heap) (g : Addr) (gd : FuncData) := C1 P w K mg base "longest_prefix" sLong ["prefixes", "address"] 1 (spDR fun kvs a => oStr (long kvs a)) g gd
theorem ok_smark {f g1 C CS : Addr} {fd gd1 : FuncData} (F : Fun K "mark" "Sorting.mark" sSMark f fd) (SC : SCls K CS) (cLongP : CLongP P w K mg base g1 gd1) : FnOk P w K mg base CX0 2 f fd ["self", "address"] (spSMark C CS) := by
  refine F.ok scSMark (fun vs H Q E h => ?_) (fun cdv A outer s H vs Q E hr h => ?_)
  · obtain ⟨j, a, pl, rfl, _⟩ := h
    rfl
  · obtain ⟨j, a, pl, rfl, hS, la, q⟩ := h
    obtain ⟨⟨dx, dt, dm, es, ms, h1, h2, h3, h4, h5, h6⟩, g⟩ := hS
    refine ⟨_, (pss_one (ps_ret (pe_call cLongP.G (hr.mono (by first | decide | omega)) (by rfl) cLongP.D.g cLongP.D.F.kp cLongP.D.b .nil pass0 (pa_cons (pe_fld (pv 0) rfl) (pa_cons (pv 1) pa_nil))))), ?_⟩
    exact ⟨.ref j, rfl, j, CS, dx, _, .ref dm, rfl, h1, SC.c, SC.no2, lkM, .str a, rfl, dm, _, a, rfl, .of h4, la, q ms h6.2 h5⟩
theorem ok_sunm {f C CS : Addr} {fd : FuncData} {k : Nat} (F : Fun K "unmarked" "Sorting.unmarked" sSUnm f fd) (B : Blt mg) (SC : SCls K CS) : FnOk P w K mg base CX0 (k + 1) f fd ["self"] (spSUnm C CS) := by
  refine F.ok scSUnm (fun vs H Q E h => ?_) (fun cdv A outer s H vs Q E hr h => ?_)
  · obtain ⟨j, pl, rfl, _⟩ := h
    rfl
  · obtain ⟨j, pl, rfl, hS, q⟩ := h
    have hu := hu_of hr
    obtain ⟨⟨dx, dt, dm, es, ms, h1, h2, h3, h4, h5, h6⟩, g⟩ := hS
    have q := q ms h6.2 h5
    refine ⟨_, (pss_cons (ps_for PassesOwn.never rfl (pi_str ((pe_txt (by rfl) B.dg))) (pg_name (i := 1) scSUnm.nd rfl (.inl rfl))
        (pss_one (ps_if (pt_cmp (pc_dnotin hu (pv 1) (pe_fld (pv 0) rfl)))
          (pss_one (ps_ret (pv 1)))
          pss_nil)))
      (pss_one (ps_ret pe_non))), ?_⟩
    refine ⟨digits, rfl, ?_⟩
    refine for_it (walk_str (z := digits)) (fun i σ H' => (∃ y, σ = [some (.ref j), y]) ∧ H' = H ∧ ∀ d ∈ digits.cps.toList.take i, (⟨#[d]⟩ : Str) ∈ ms) ⟨⟨none, rfl⟩, rfl, fun d h => (by cases h)⟩ (fun _ _ _ _ _ => trivial) (fun i x σ H1 H2 hi hP hy => ?_) (fun σ H1 hP => ?_)
    · obtain ⟨⟨y, rfl⟩, rfl, bef⟩ := hP
      obtain ⟨rfl, c, ec, rfl⟩ := hy
      have ec : digits.cps.toList[i]? = some c := by rw [Array.getElem?_toList]; exact ec
      refine ⟨.str ⟨#[c]⟩, rfl, .ref j, rfl, j, CS, dx, _, .ref dm, rfl, h1, SC.c, SC.no2, lkM, dm, _, rfl, DGet.k (k := Sum.inr ⟨#[c]⟩) h4, ?_⟩
      cases e : (valV (kvM ms) (Sum.inr ⟨#[c]⟩)).isSome with
      | true =>
        rw [kvM_val] at e
        refine ⟨_, rfl, ⟨_, rfl⟩, rfl, fun d hd => ?_⟩
        rw [List.take_add_one, ec] at hd
        rcases List.mem_append.mp hd with h | h
        · exact bef d h
        · rw [show d = c from List.mem_singleton.mp h]
          exact of_decide_eq_true e
      | false =>
        rw [kvM_val] at e
        refine ⟨_, rfl, .str ⟨#[c]⟩, rfl, ?_⟩
        rw [unm_step ec bef (of_decide_eq_false e)] at q
        exact q
    · obtain ⟨⟨y, rfl⟩, rfl, bef⟩ := hP
      rw [unm_end (fun d hd => bef d (by rw [show digits.cps.size = digits.cps.toList.length from rfl, List.take_length]; exact hd))] at q
      exact q
theorem ok_stests {f gU gM C CS : Addr} {fd gdU gdM : FuncData} (F : Fun K "tests" "Sorting.tests" sSTests f fd) (SC : SCls K CS) (SUm : Meth K CS "unmarked" gU) (bUm : Binds K gdU ["self"] []) (FUm : FnOk P w K mg base CX0 1 gU gdU ["self"] (spSUnm C CS)) (SMm : Meth K CS "marks" gM) (bMa : Binds K gdM ["self"] []) (FMa : FnOk P w K mg base CX0 1 gM gdM ["self"] (spSMarks C CS)) : FnOk P w K mg base CX0 2 f fd ["self"] (spSTests C CS) := by
  refine F.ok scSTests (fun vs H Q E h => ?_) (fun cdv A outer s H vs Q E hr h => ?_)
  · obtain ⟨j, pl, rfl, _⟩ := h
    rfl
  · obtain ⟨j, pl, rfl, hS, ht, q⟩ := h
    have hz : sizeLine = 16777216 := rfl
    obtain ⟨⟨dx, dt, dm, es, ms0, h1, _⟩, _⟩ := id hS
    obtain ⟨⟨_, _, _, _, ms0, _, _, _, _, m5, m6, srt⟩, _⟩ := id hS
    refine ⟨_, (pss_cons (ps_set (i := 1) scSTests.nd rfl (.inl rfl) (pe_meth0 (pv 0) SC.c SUm FUm (hr.mono (by first | decide | omega)) bUm .nil pass0))
      (pss_one (ps_ret (pe_op op_cat (pe_meth0 (pv 0) SC.c SMm FMa (hr.mono (by first | decide | omega)) bMa .nil pass0) (pe_ifExp (pt_cmpR op_isN (pv 1) pe_non (nomark _)) (pe_lst pa_nil) (pe_lst (pa_cons (pv 1) pa_nil))))))), ?_⟩
    refine ⟨.ref j, rfl, j, dx, _, rfl, h1, rfl, j, pl, rfl, hS, fun ms sm mm => ?_⟩
    refine ⟨.ref j, rfl, j, dx, _, rfl, h1, rfl, j, pl, rfl, hS, fun p ms' H1 S1 np hp mm' lm sm' => ?_⟩
    obtain rfl := srt_uniq sm sm' fun x => (mm x).trans (mm' x).symm
    cases e : unmO ms with
    | none =>
      refine ⟨.non, rfl, rfl, true, rfl, Nat.zero_le _, fun L nL => ⟨p, L, _, _, rfl, rfl, (same_upd nL) _ _ hp, upd_same, by rw [List.length_map]; show ms.length + 0 ≤ sizeLine; omega, fun R nR => ?_⟩⟩
      have S2 := (S1.trans (same_upd nL)).trans (same_upd nR (o := .lst (ms.map V.str ++ [])))
      refine q R ms _ S2 (S1.free ((same_upd nL (o := .lst [])).free nR)) ?_ sm mm lm
      rw [upd_same]
      unfold testsL
      rw [e, List.map_append]
      rfl
    | some d =>
      refine ⟨.str d, rfl, rfl, false, rfl, .str d, rfl, by show 1 ≤ sizeLine; omega, fun L nL => ⟨p, L, _, _, rfl, rfl, (same_upd nL) _ _ hp, upd_same, by rw [List.length_map]; show ms.length + 1 ≤ sizeLine; omega, fun R nR => ?_⟩⟩
      have S2 := (S1.trans (same_upd nL)).trans (same_upd nR (o := .lst (ms.map V.str ++ [.str d])))
      refine q R ms _ S2 (S1.free ((same_upd nL (o := .lst [.str d])).free nR)) ?_ sm mm lm
      rw [upd_same]
      unfold testsL
      rw [e, List.map_append]
      rfl
end
end Tb
namespace Tb
open PySem PySem.Spec PyProof.Rows L2
open PySem.W (AllAlike Sortable dataLe TotalLe)
abbrev sSStat : Stmt := inClass (topS 23) 2
abbrev NSStat : List Str := ["self", "sites", "table", "lane"]
theorem scSStat : FnScope NSStat ["self"] (defScope sSStat) := ⟨rfl, rfl, rfl, by decide +kernel, rfl, by decide +kernel, by decide +kernel⟩
abbrev sLSites : Stmt := topS 46
abbrev NLSites : List Str := ["plan", "found", "town", "prefix"]
theorem scLSites : FnScope NLSites ["plan"] (defScope sLSites) := ⟨rfl, rfl, rfl, by decide +kernel, rfl, by decide +kernel, by decide +kernel⟩
/-- a site with a table or a lane of some row -/
def isSta (pl : Pl) (x : Str) : Prop := x ∈ pl.map Prod.fst ∨ ∃ e ∈ pl, ∃ r ∈ e.2, r.2 = x ∧ x ≠ wE
theorem sta_perm {one two : Pl} (h : one.Perm two) (x : Str) : isSta one x ↔ isSta two x := by
  unfold isSta
  rw [(h.map Prod.fst).mem_iff]
  exact or_congr Iff.rfl ⟨fun ⟨e, he, k⟩ => ⟨e, h.mem_iff.mp he, k⟩, fun ⟨e, he, k⟩ => ⟨e, h.mem_iff.mpr he, k⟩⟩
def staL (es : List En) (i : Nat) (x : Str) : Prop := x ∈ (plOf es).map Prod.fst ∨ ∃ e ∈ es.take i, ∃ r ∈ e.2.2, r.2 = x ∧ x ≠ wE
theorem staL_zero (es : List En) (x : Str) : staL es 0 x ↔ x ∈ (plOf es).map Prod.fst := ⟨fun h => h.elim id fun ⟨e, he, _⟩ => (by cases he), .inl⟩
theorem staL_end (es : List En) (x : Str) : staL es es.length x ↔ isSta (plOf es) x := by
  unfold staL isSta plOf
  rw [List.take_length]
  exact or_congr Iff.rfl ⟨fun ⟨e, he, k⟩ => ⟨e.2, List.mem_map.mpr ⟨e, he, rfl⟩, k⟩, fun ⟨e, he, k⟩ => by
    obtain ⟨y, hy, rfl⟩ := List.mem_map.mp he
    exact ⟨y, hy, k⟩⟩
theorem staL_step {es : List En} {i : Nat} {e : En} (h : es[i]? = some e) (x : Str) : staL es (i + 1) x ↔ staL es i x ∨ ∃ r ∈ e.2.2, r.2 = x ∧ x ≠ wE := by
  unfold staL
  rw [List.take_add_one, h]
  constructor
  · rintro (h | ⟨y, hy, k⟩)
    · exact .inl (.inl h)
    · rcases List.mem_append.mp hy with m | m
      · exact .inl (.inr ⟨y, m, k⟩)
      · rw [show y = e from List.mem_singleton.mp m] at k
        exact .inr k
  · rintro ((h | ⟨y, hy, k⟩) | k)
    · exact .inl h
    · exact .inr ⟨y, List.mem_append_left _ hy, k⟩
    · exact .inr ⟨e, List.mem_append_right _ List.mem_cons_self, k⟩
def spSStat (C CS : Addr) : Sp := fun vs H Q _ => ∃ (j : Addr) (pl : Pl), vs = [.ref j] ∧ SortOf C CS H j pl ∧ pl.length + tot pl ≤ 900 ∧ ∀ (p : Addr) (xs : List Str) (H' : Hp), Same H H' → H p = none → H' p = some (.lst (xs.map V.str)) → Srt xs → (∀ x, x ∈ xs ↔ isSta pl x) → xs.length ≤ pl.length + tot pl → Q (.ref p) H'
def spLSites : Sp := fun vs H Q _ => ∃ (d : Addr) (es : List En), vs = [.ref d] ∧ PlanAt H d es ∧ es.length + tot (plOf es) ≤ 900 ∧ ∀ (p : Addr) (xs : List Str) (H' : Hp), Same H H' → H p = none → H' p = some (.lst (xs.map V.str)) → Srt xs → (∀ x, x ∈ xs ↔ isSta (plOf es) x) → xs.length ≤ es.length + tot (plOf es) → Q (.ref p) H'
section
variable {P : Program} {w : World} {K : PySem.W.Frag} {mg : Str → Option Value} {base : Heap}
theorem ok_lunm {f : Addr} {fd : FuncData} {k : Nat} (F : Fun K "_law_unmarked" "_law_unmarked" sLUnm f fd) (B : Blt mg) : FnOk P w K mg base CX0 (k + 1) f fd ["stems"] spLUnm := by
  refine F.ok scLUnm (fun vs H Q E h => ?_) (fun cdv A outer s H vs Q E hr h => ?_)
  · obtain ⟨l, ms, rfl, _⟩ := h
    rfl
  · obtain ⟨l, ms, rfl, hl, q⟩ := h
    refine ⟨_, (pss_cons (ps_for PassesOwn.never rfl (pi_str pe_str) (pg_name (i := 1) scLUnm.nd rfl (.inl rfl))
        (pss_one (ps_if (pt_cmpR op_notIn_seq (pv 1) (pv 0) (by rfl))
          (pss_one (ps_ret (pv 1)))
          pss_nil)))
      (pss_one (ps_ret pe_non))), ?_⟩
    refine ⟨digits, rfl, ?_⟩
    refine for_it (walk_str (z := digits)) (fun i σ H' => (∃ y, σ = [some (.ref l), y]) ∧ H' = H ∧ ∀ d ∈ digits.cps.toList.take i, (⟨#[d]⟩ : Str) ∈ ms) ⟨⟨none, rfl⟩, rfl, fun d h => (by cases h)⟩ (fun _ _ _ _ _ => trivial) (fun i x σ H1 H2 hi hP hy => ?_) (fun σ H1 hP => ?_)
    · obtain ⟨⟨y, rfl⟩, rfl, bef⟩ := hP
      obtain ⟨rfl, c, ec, rfl⟩ := hy
      have ec : digits.cps.toList[i]? = some c := by rw [Array.getElem?_toList]; exact ec
      refine ⟨.str ⟨#[c]⟩, rfl, .ref l, rfl, l, _, rfl, .inl (sqOf hl), rfl, flat_strs _, _, rfl, ite2 (fun c1 => ?_) (fun c1 => ?_)⟩
      · have n : (⟨#[c]⟩ : Str) ∉ ms := fun m => by
          rw [inV_str m] at c1
          cases c1
        refine ⟨.str ⟨#[c]⟩, rfl, ?_⟩
        rw [unm_step ec bef n] at q
        exact q
      · have m : (⟨#[c]⟩ : Str) ∈ ms := str_inV (by
          cases z : inV (.str ⟨#[c]⟩) (ms.map V.str) with
          | true => rfl
          | false => rw [z] at c1; exact absurd rfl c1)
        refine ⟨⟨_, rfl⟩, rfl, fun d hd => ?_⟩
        rw [List.take_add_one, ec] at hd
        rcases List.mem_append.mp hd with h | h
        · exact bef d h
        · rw [show d = c from List.mem_singleton.mp h]
          exact m
    · obtain ⟨⟨y, rfl⟩, rfl, bef⟩ := hP
      rw [unm_end (fun d hd => bef d (by rw [show digits.cps.size = digits.cps.toList.length from rfl, List.take_length]; exact hd))] at q
      exact q
theorem ok_lmark {f : Addr} {fd : FuncData} {k : Nat} (F : Fun K "_law_mark" "_law_mark" sLMark f fd) (B : Blt mg) : FnOk P w K mg base CX0 (k + 1) f fd ["stems", "address"] spLMark := by
  refine F.ok scLMark (fun vs H Q E h => ?_) (fun cdv A outer s H vs Q E hr h => ?_)
  · obtain ⟨l, ms, a, rfl, _⟩ := h
    rfl
  · obtain ⟨l, ms, a, rfl, hl0, hl, q⟩ := h
    have hz : sizeLine = 16777216 := rfl
    refine ⟨_, (pss_cons (ps_for PassesOwn.never rfl (pi_range3 (by rfl) B.range (pa_cons (pe_callB call_len_str (by rfl) B.len PySem.boot_len (pa_cons (pv 1) pa_nil)) (pa_cons pe_int (pa_cons (pe_un un_neg pe_int) pa_nil)))) (pg_name (i := 2) scLMark.nd rfl (.inl rfl))
        (pss_one (ps_if (pt_cmpR op_in_seq (pe_slice sl_str (pv 1) po_none (po_some (pv 2))) (pv 0) (by rfl))
          (pss_one (ps_ret (pe_slice sl_str (pv 1) po_none (po_some (pv 2)))))
          pss_nil)))
      (pss_one (ps_ret pe_non))), ?_⟩
    refine ⟨.str a, rfl, a, rfl, by omega, 1, rfl, (a.length : Int), 0, -1, ((a.length : Int) - 0).toNat, rfl, RgC.neg (by omega) (by omega) (by omega) (by omega), ?_⟩
    refine for_rangeC (lo := (a.length : Int)) (c := -1) (n := ((a.length : Int) - 0).toNat) (fun i σ H' => ∃ y, σ = [some (.ref l), some (.str a), y] ∧ H' = H ∧ long (kvM ms) a = lp (kvM ms) a (a.length - i)) ⟨none, rfl, rfl, rfl⟩ ?_ ?_
    · rintro i σ H' hi ⟨y, rfl, rfl, e⟩
      have hi' : i < a.length := by omega
      have ei : (a.length : Int) + (i : Int) * -1 = ((a.length - i : Nat) : Int) := by omega
      rw [ei]
      refine ⟨.str a, rfl, .int ((a.length - i : Nat) : Int), rfl, ((a.length - i : Nat) : Int), rfl, a, rfl, by omega, .ref l, rfl, l, _, rfl, .inl (sqOf hl0), rfl, flat_strs _, _, rfl, ite2 (fun c1 => ?_) (fun c1 => ?_)⟩
      · obtain ⟨m, em⟩ : ∃ m, a.length - i = m + 1 := ⟨a.length - i - 1, by omega⟩
        have c : (valV (kvM ms) (Sum.inr (pre a (a.length - i)))).isSome = true := by
          rw [kvM_val]
          exact decide_eq_true (str_inV c1)
        refine ⟨.str a, rfl, .int ((a.length - i : Nat) : Int), rfl, ((a.length - i : Nat) : Int), rfl, a, rfl, by omega, ?_⟩
        have : long (kvM ms) a = some (pre a (a.length - i)) := by
          rw [e, em]
          unfold lp
          rw [← em, if_pos c]
        rw [this] at q
        exact q
      · obtain ⟨m, em⟩ : ∃ m, a.length - i = m + 1 := ⟨a.length - i - 1, by omega⟩
        have c : ¬ (valV (kvM ms) (Sum.inr (pre a (a.length - i)))).isSome = true := by
          rw [kvM_val]
          exact fun z => c1 (inV_str (of_decide_eq_true z))
        refine ⟨_, rfl, rfl, ?_⟩
        rw [e, em]
        show (if (valV (kvM ms) (Sum.inr (pre a (m + 1)))).isSome = true then some (pre a (m + 1)) else lp (kvM ms) a m) = _
        rw [← em, if_neg c, show a.length - (i + 1) = m by omega]
    · rintro σ H' ⟨y, rfl, rfl, e⟩
      rw [show a.length - ((a.length : Int) - 0).toNat = 0 by omega] at e
      rw [e] at q
      exact q
theorem ok_lsites {f : Addr} {fd : FuncData} {k : Nat} (F : Fun K "_law_sites" "_law_sites" sLSites f fd) (B : Blt mg) : FnOk P w K mg base CX0 (k + 1) f fd ["plan"] spLSites := by
  refine F.ok scLSites (fun vs H Q E h => ?_) (fun cdv A outer s H vs Q E hr h => ?_)
  · obtain ⟨d, es, rfl, _⟩ := h
    rfl
  · obtain ⟨d, es, rfl, hP0, ht, q⟩ := h
    have hu := hu_of hr
    have hz : sizeLine = 16777216 := rfl
    have g := hP0.g
    refine ⟨_, (pss_cons (ps_set (i := 1) scLSites.nd rfl (.inl rfl) pe_dnewK)
      (pss_cons (ps_lock (ps_for PassesOwn.never rfl (pi_keys (pv 0)) (pg_name (i := 2) scLSites.nd rfl (.inl rfl))
        (pss_cons (ps_dput hu (pv 1) (pv 2) pe_bl (by rfl))
        (pss_one (ps_lock (ps_for PassesOwn.never rfl (pi_keys (pe_dget hu (pv 0) (pv 2) (fun _ _ => rfl))) (pg_name (i := 3) scLSites.nd rfl (.inl rfl))
          (pss_one (ps_if (pt_cmpR op_ne (pe_dget hu (pe_dget hu (pv 0) (pv 2) (fun _ _ => rfl)) (pv 3) (fun _ _ => rfl)) pe_str (nomark _))
            (pss_one (ps_dput hu (pv 1) (pe_dget hu (pe_dget hu (pv 0) (pv 2) (fun _ _ => rfl)) (pv 3) (fun _ _ => rfl)) pe_bl (by rfl)))
            pss_nil))))))))
      (pss_one (ps_ret (pe_callB (cr_sortedDk rfl hr.units) (by rfl) B.sorted PyProof.Rows.boot_sorted (pa_cons (pv 1) pa_nil)))))), ?_⟩
    intro G nG
    have S1 : Same H (L2.upd H G (.dK [])) := same_upd nG
    have Gd : G ≠ d := fun e => by rw [e, hP0.d] at nG; cases nG
    have snoc : ∀ (ks : List Str) (x : Str), ks.Nodup → (if x ∈ ks then ks else ks ++ [x]).Nodup ∧ (if x ∈ ks then ks else ks ++ [x]).length ≤ ks.length + 1 ∧ ∀ y, y ∈ (if x ∈ ks then ks else ks ++ [x]) ↔ y ∈ ks ∨ y = x := fun ks x nk => by
      by_cases c : x ∈ ks
      · rw [if_pos c]
        exact ⟨nk, by omega, fun y => ⟨.inl, fun h => h.elim id fun e => by rw [e]; exact c⟩⟩
      · rw [if_neg c]
        refine ⟨List.nodup_append.mpr ⟨nk, List.nodup_cons.mpr ⟨List.not_mem_nil, List.nodup_nil⟩, fun y hy z hz e => c (by rw [← List.mem_singleton.mp hz, ← e]; exact hy)⟩, by rw [List.length_append]; exact Nat.le_refl _, fun y => ?_⟩
        rw [List.mem_append, List.mem_singleton]
    let R : Nat → Str → Prop := fun i x => x ∈ (plOf (es.take i)).map Prod.fst ∨ ∃ e ∈ es.take i, ∃ r ∈ e.2.2, r.2 = x ∧ x ≠ wE
    refine ⟨d, .dK (kvE es), S1 _ _ hP0.d, trivial, fun od => ?_⟩
    refine ⟨.ref d, rfl, d, od, rfl, .inl ⟨kvE es, upd_same, ?_⟩⟩
    refine for_it (walk_keys (d := d) (o := od) (kvs := kvE es)) (fun i σ H' => (∃ y2 y3, σ = [some (.ref d), some (.ref G), y2, y3]) ∧ But d H H' ∧ H' d = some (.frz od (.dK (kvE es))) ∧ ∃ ks : List Str, H' G = some (.dK (kvM ks)) ∧ (∀ x, x ∈ ks ↔ R i x) ∧ ks.length ≤ i + tot (plOf (es.take i)) ∧ ks.Nodup)
      ⟨⟨none, none, rfl⟩, (Same.but S1).trans But.upd, upd_same, [], by rw [upd_ne Gd]; exact upd_same, fun x => ⟨fun h => (by cases h), fun h => h.elim (fun h => (by cases h)) fun ⟨e, he, _⟩ => (by cases he)⟩, Nat.zero_le _, List.nodup_nil⟩ (fun i σ H' _ hP => hP.2.2.1) (fun i x σ H5 H6 hi hP hy => ?_) (fun σ H5 hP => ?_)
    · obtain ⟨⟨y2, y3, rfl⟩, b5, d5, ks, g5, mk, lk, nk⟩ := hP
      obtain ⟨rfl, k, v, ek, rfl⟩ := hy
      rw [kvE_at] at ek
      cases ee : es[i]? with
      | none => rw [ee] at ek; cases ek
      | some e =>
      rw [ee] at ek
      cases (Option.some.inj ek)
      have i2 : i < es.length := (List.getElem?_eq_some_iff.mp ee).1
      have m := List.mem_of_getElem? ee
      have he := hP0.t e m
      have gd := (g.e e.2 (List.mem_map.mpr ⟨e, m, rfl⟩)).2.1
      have ed : e.1 ≠ d := fun z => by
        rw [z, hP0.d] at he
        exact kvP_kvE m (HO.dK.inj (Option.some.inj he)).symm
      have eG : e.1 ≠ G := fun z => by rw [z, nG] at he; cases he
      have he5 := b5 _ _ he ed
      have dg : ∀ H7 : Hp, H7 d = some (.frz od (.dK (kvE es))) → DGet H7 d (.str e.2.1) (some (.ref e.1)) := fun H7 d7 => by
        rw [← kvE_val g.n m]
        exact .inl ⟨_, Sum.inr e.2.1, .inr ⟨od, d7⟩, rfl, rfl⟩
      have l1 := tot_take ee
      have l2 := tot_le es (i + 1)
      have tk : es.take (i + 1) = es.take i ++ [e] := by rw [List.take_add_one, ee]; rfl
      obtain ⟨n0, le0, m0⟩ := snoc ks e.2.1 nk
      refine ⟨.ref G, rfl, .str e.2.1, rfl, G, _, rfl, DPut.k (k := Sum.inr e.2.1) g5 (by unfold kvM; rw [List.length_map]; omega), ?_⟩
      rw [kvM_put]
      generalize (if e.2.1 ∈ ks then ks else ks ++ [e.2.1]) = ks' at n0 le0 m0
      have bU : But d H (L2.upd H6 G (.dK (kvM ks'))) := fun c u hc nc => by
        rw [upd_ne (ne_of_none hc nG)]
        exact b5 _ _ hc nc
      have dU : (L2.upd H6 G (.dK (kvM ks'))) d = some (.frz od (.dK (kvE es))) := by rw [upd_ne (Ne.symm Gd)]; exact d5
      have gU : (L2.upd H6 G (.dK (kvM ks'))) G = some (.dK (kvM ks')) := upd_same
      generalize L2.upd H6 G (.dK (kvM ks')) = HU at bU dU gU
      refine ⟨e.1, .dK (kvP e.2.2), bU _ _ he ed, trivial, fun oe => ?_⟩
      have d7 : (L2.upd HU e.1 (.frz oe (.dK (kvP e.2.2)))) d = some (.frz od (.dK (kvE es))) := by rw [upd_ne (Ne.symm ed)]; exact dU
      refine ⟨.ref d, rfl, .str e.2.1, rfl, d, .ref e.1, rfl, dg _ d7, e.1, oe, rfl, .inl ⟨kvP e.2.2, upd_same, ?_⟩⟩
      refine for_it (walk_keys (d := e.1) (o := oe) (kvs := kvP e.2.2)) (fun j σ H' => (∃ y3, σ = [some (.ref d), some (.ref G), some (.str e.2.1), y3]) ∧ (∀ c o, H c = some o → c ≠ d → c ≠ e.1 → H' c = some o) ∧ H' d = some (.frz od (.dK (kvE es))) ∧ H' e.1 = some (.frz oe (.dK (kvP e.2.2))) ∧ ∃ ks : List Str, H' G = some (.dK (kvM ks)) ∧ (∀ x, x ∈ ks ↔ (R i x ∨ x = e.2.1) ∨ ∃ r ∈ e.2.2.take j, r.2 = x ∧ x ≠ wE) ∧ ks.length ≤ i + 1 + tot (plOf (es.take i)) + j ∧ ks.Nodup)
        ⟨⟨_, rfl⟩, fun c o hc n1 n2 => by rw [upd_ne n2]; exact bU _ _ hc n1, d7, upd_same, ks', by rw [upd_ne (Ne.symm eG)]; exact gU, fun x => (m0 x).trans ⟨fun h => .inl (h.imp (mk x).mp id), fun h => (h.resolve_right fun ⟨r, hr', _⟩ => (by cases hr')).imp (mk x).mpr id⟩, by omega, n0⟩ (fun j σ H' _ hP => hP.2.2.2.1) (fun j x σ H7 H8 hj hP hy => ?_) (fun σ H7 hP => ?_)
      · obtain ⟨⟨y3, rfl⟩, b7, d7, e7, ks, g7, mk, lk, nk⟩ := hP
        obtain ⟨rfl, k, v, ek, rfl⟩ := hy
        rw [kvP_at] at ek
        cases er : e.2.2[j]? with
        | none => rw [er] at ek; cases ek
        | some r =>
        rw [er] at ek
        cases (Option.some.inj ek)
        have hj2 : j < e.2.2.length := (List.getElem?_eq_some_iff.mp er).1
        have mr := List.mem_of_getElem? er
        have tkr : e.2.2.take (j + 1) = e.2.2.take j ++ [r] := by rw [List.take_add_one, er]; rfl
        have dr : ∀ H9 : Hp, H9 e.1 = some (.frz oe (.dK (kvP e.2.2))) → DGet H9 e.1 (.str r.1) (some (.str r.2)) := fun H9 e9 => by
          rw [← valV_mem gd.2 mr]
          exact .inl ⟨_, Sum.inr r.1, .inr ⟨oe, e9⟩, rfl, rfl⟩
        refine ⟨.ref d, rfl, .str e.2.1, rfl, d, .ref e.1, rfl, dg _ d7, .str r.1, rfl, e.1, .str r.2, rfl, dr _ e7, rfl, _, rfl, ite2 (fun c => ?_) (fun c => ?_)⟩
        · rw [Bool.not_eq_true', decide_eq_false_iff_not] at c
          have c0 : r.2 ≠ wE := fun z => c (by rw [z]; rfl)
          obtain ⟨n1, le1', m1⟩ := snoc ks r.2 nk
          refine ⟨.ref G, rfl, .ref d, rfl, .str e.2.1, rfl, d, .ref e.1, rfl, dg _ d7, .str r.1, rfl, e.1, .str r.2, rfl, dr _ e7, G, _, rfl, DPut.k (k := Sum.inr r.2) g7 (by unfold kvM; rw [List.length_map]; omega), ⟨_, rfl⟩, fun c o hc n1 n2 => ?_, ?_, ?_, _, by rw [upd_same, kvM_put], fun x => ?_, by omega, n1⟩
          · rw [upd_ne (ne_of_none hc nG)]
            exact b7 _ _ hc n1 n2
          · rw [upd_ne (Ne.symm Gd)]
            exact d7
          · rw [upd_ne eG]
            exact e7
          · rw [m1 x, mk x, tkr]
            constructor
            · rintro ((h | ⟨r', h1, h2⟩) | h)
              · exact .inl h
              · exact .inr ⟨r', List.mem_append_left _ h1, h2⟩
              · exact .inr ⟨r, List.mem_append_right _ List.mem_cons_self, h.symm, by rw [h]; exact c0⟩
            · rintro (h | ⟨r', h1, h2, h3⟩)
              · exact .inl (.inl h)
              · rcases List.mem_append.mp h1 with h1 | h1
                · exact .inl (.inr ⟨r', h1, h2, h3⟩)
                · rw [List.mem_singleton.mp h1] at h2
                  exact .inr h2.symm
        · rw [Bool.not_eq_true', decide_eq_false_iff_not, Decidable.not_not] at c
          have c0 : r.2 = wE := V.str.inj c
          refine ⟨⟨_, rfl⟩, b7, d7, e7, ks, g7, fun x => ?_, by omega, nk⟩
          rw [mk x, tkr]
          constructor
          · rintro (h | ⟨r', h1, h2⟩)
            · exact .inl h
            · exact .inr ⟨r', List.mem_append_left _ h1, h2⟩
          · rintro (h | ⟨r', h1, h2, h3⟩)
            · exact .inl h
            · rcases List.mem_append.mp h1 with h1 | h1
              · exact .inr ⟨r', h1, h2, h3⟩
              · rw [List.mem_singleton.mp h1, c0] at h2
                exact absurd h2.symm h3
      · obtain ⟨⟨y3, rfl⟩, b7, d7, e7, ks, g7, mk, lk, nk⟩ := hP
        rw [kvP_len] at lk mk
        rw [List.take_length] at mk
        refine ⟨e7, ⟨_, _, rfl⟩, fun c o hc nc => ?_, by rw [upd_ne (Ne.symm ed)]; exact d7, ks, by rw [upd_ne (Ne.symm eG)]; exact g7, fun x => ?_, by omega, nk⟩
        · by_cases z : c = e.1
          · subst z
            rw [upd_same, ← he]
            exact hc
          · rw [upd_ne z]
            exact b7 _ _ hc nc z
        · rw [mk x]
          show _ ↔ (x ∈ (plOf (es.take (i + 1))).map Prod.fst ∨ ∃ e ∈ es.take (i + 1), ∃ r ∈ e.2.2, r.2 = x ∧ x ≠ wE)
          rw [tk]
          unfold plOf
          rw [List.map_append, List.map_append, List.mem_append]
          constructor
          · rintro (((h | ⟨y, h1, h2⟩) | h) | h)
            · exact .inl (.inl h)
            · exact .inr ⟨y, List.mem_append_left _ h1, h2⟩
            · exact .inl (.inr (List.mem_singleton.mpr h))
            · exact .inr ⟨e, List.mem_append_right _ List.mem_cons_self, h⟩
          · rintro ((h | h) | ⟨y, h1, h2⟩)
            · exact .inl (.inl (.inl h))
            · exact .inl (.inr (List.mem_singleton.mp h))
            · rcases List.mem_append.mp h1 with h1 | h1
              · exact .inl (.inl (.inr ⟨y, h1, h2⟩))
              · rw [List.mem_singleton.mp h1] at h2
                exact .inr h2
    · obtain ⟨⟨y2, y3, rfl⟩, b5, d5, ks, g5, mk, lk, nk⟩ := hP
      refine ⟨d5, ?_⟩
      rw [kvE_len] at mk lk
      have S6 := unlock_same hP0.d b5
      have g6 : (L2.upd H5 d (.dK (kvE es))) G = some (.dK (kvM ks)) := by rw [upd_ne Gd]; exact g5
      generalize L2.upd H5 d (.dK (kvE es)) = H6 at S6 g6
      rw [List.take_length] at lk
      refine ⟨.ref G, rfl, G, _, ks, rfl, .of g6, by unfold kvM; rw [List.map_map]; rfl, by omega, fun p np => ?_⟩
      refine q p _ _ (S6.trans (same_upd np)) (S6.free np) upd_same ⟨(List.mergeSort_perm ks _).nodup_iff.mpr nk, PySem.W.sort_pairwise le1_total ks⟩ (fun x => ?_) (by rw [List.length_mergeSort]; exact lk)
      rw [(List.mergeSort_perm ks _).mem_iff, mk x, ← staL_end es x]
      show (x ∈ (plOf (es.take es.length)).map Prod.fst ∨ _) ↔ _
      unfold staL
      rw [List.take_length]
end
end Tb
namespace Tb
open PySem PySem.Spec PyProof.Rows L2
open PySem.W (AllAlike Sortable dataLe TotalLe)
abbrev sSFaults : Stmt := inClass (topS 23) 12
abbrev NSFaults : List Str := ["self", "sites", "found", "site", "address", "word"]
theorem scSFaults : FnScope NSFaults ["self", "sites"] (defScope sSFaults) := ⟨rfl, rfl, rfl, by decide +kernel, rfl, by decide +kernel, by decide +kernel⟩
theorem SortOf.ins {C CS : Addr} {H : Hp} {j : Addr} {pl : Pl} (T : SortOf C CS H j pl) : ∃ dx dt dm, H j = some (.ins CS dx [(wTables, .ref dt), (wMarks, .ref dm)]) := let ⟨⟨dx, dt, dm, _, _, h, _⟩, _⟩ := T; ⟨dx, dt, dm, h⟩
theorem seqT {K : PySem.W.Frag} {H H' : Hp} {a : Addr} {xs : List V} (e : Same H H') (h : SqT K H a xs) : SqT K H' a xs := by
  rcases h with (h | ⟨o, h⟩) | h
  · exact .inl (.inl (e _ _ h))
  · exact .inl (.inr ⟨o, e _ _ h⟩)
  · exact .inr h
/-- the paths of a site that do not end well -/
def fltT (pl : Pl) (as : List Str) (t : Str) : List (Str × Str × Str) := as.flatMap fun a => if (pth pl a t).2 = wHere then [] else [(t, a, (pth pl a t).2)]
def fltL (pl : Pl) (as ts : List Str) : List (Str × Str × Str) := ts.flatMap (fltT pl as)
structure FltAt (H : Hp) (p : Addr) (us : List (Addr × (Str × Str × Str))) : Prop where
  l : H p = some (.lst (us.map fun u => V.ref u.1))
  t : ∀ u ∈ us, H u.1 = some (.tup [.str u.2.1, .str u.2.2.1, .str u.2.2.2])
theorem FltAt.same {H H' : Hp} {p : Addr} {us : List (Addr × (Str × Str × Str))} (T : FltAt H p us) (S : Same H H') : FltAt H' p us := ⟨S _ _ T.l, fun u hu => S _ _ (T.t u hu)⟩
theorem FltAt.snoc {H : Hp} {p T : Addr} {us : List (Addr × (Str × Str × Str))} {x y z : Str} (h : FltAt H p us) (n : H T = none) :
    FltAt (L2.upd (L2.upd H T (.tup [.str x, .str y, .str z])) p (.lst ((us.map fun u => V.ref u.1) ++ [V.ref T]))) p (us ++ [(T, (x, y, z))]) := by
  have pT := ne_of_none h.l n
  refine ⟨by rw [upd_same, List.map_append]; rfl, fun u hu => ?_⟩
  rcases List.mem_append.mp hu with m | m
  · rw [upd_ne (ne_of (h.t u m) h.l (fun z => by cases z)), upd_ne (ne_of_none (h.t u m) n)]
    exact h.t u m
  · rw [List.mem_singleton.mp m]
    show L2.upd _ p _ T = _
    rw [upd_ne (Ne.symm pT)]
    exact upd_same
theorem tests_len (ms : List Str) : (testsL ms).length ≤ ms.length + 1 := by
  unfold testsL
  rw [List.length_append]
  cases unmO ms <;> simp
theorem digit_addr {ms : List Str} {d : Str} (h : unmO ms = some d) : isAddr d = true := by
  unfold unmO at h
  cases e : digits.cps.toList.find? fun c => decide ((⟨#[c]⟩ : Str) ∉ ms) with
  | none => rw [e] at h; cases h
  | some c =>
    rw [e] at h
    cases h
    exact one_addr (decide_eq_true (List.mem_of_find?_eq_some e))
theorem tests_addr {ms : List Str} (h : ∀ x ∈ ms, isAddr x = true) : ∀ x ∈ testsL ms, isAddr x = true := fun x hx => by
  rcases List.mem_append.mp hx with m | m
  · exact h x m
  · cases e : unmO ms with
    | none => rw [e] at m; cases m
    | some d =>
      rw [e] at m
      rw [show x = d by simpa using m]
      exact digit_addr e
def spSFaults (K : PySem.W.Frag) (C CS : Addr) : Sp := fun vs H Q _ => ∃ (j l : Addr) (pl : Pl) (ts : List Str), vs = [.ref j, .ref l] ∧ SortOf C CS H j pl ∧ (SqL K H l (ts.map V.str) ∨ SqT K H l (ts.map V.str)) ∧ ts.length ≤ 60 ∧ tot pl ≤ 900 ∧ pl.length ≤ 100 ∧
  ∀ (p : Addr) (us : List (Addr × (Str × Str × Str))) (ms : List Str) (H' : Hp), Same H H' → H p = none → FltAt H' p us → Srt ms → (∀ x, x ∈ ms ↔ isStem pl x) → us.map (·.2) = fltL pl (testsL ms) ts → us.length ≤ 70000 → Q (.ref p) H'
section
variable {P : Program} {w : World} {K : PySem.W.Frag} {mg : Str → Option Value} {base : Heap}
theorem ok_sfaults {f gT gP C CS : Addr} {fd gdT gdP : FuncData} (F : Fun K "faults" "Sorting.faults" sSFaults f fd) (SC : SCls K CS) (STm : Meth K CS "tests" gT) (bTs : Binds K gdT ["self"] []) (FTs : FnOk P w K mg base CX0 2 gT gdT ["self"] (spSTests C CS)) (SPm : Meth K CS "path" gP) (bPa : Binds K gdP ["self", "site", "address"] []) (FPa : FnOk P w K mg base CX0 5 gP gdP ["self", "site", "address"] (spSPath C CS)) : FnOk P w K mg base CX0 6 f fd ["self", "sites"] (spSFaults K C CS) := by
  refine F.ok scSFaults (fun vs H Q E h => ?_) (fun cdv A outer s H vs Q E hr h => ?_)
  · obtain ⟨j, l, pl, ts, rfl, _⟩ := h
    rfl
  · obtain ⟨j, l, pl, ts, rfl, hS, hl, lts, ht, hn, q⟩ := h
    have hz : sizeLine = 16777216 := rfl
    obtain ⟨⟨dx, dt, dm, es0, ms, hj, _, _, _, m5, m6, srt⟩, g⟩ := id hS
    have tl := tests_len ms
    have ta := tests_addr (ms := ms) fun x hx => stem_addr g ((m5 x).mp hx)
    refine ⟨_, (pss_cons (ps_set (i := 2) scSFaults.nd rfl (.inl rfl) (pe_lst pa_nil))
      (pss_cons (ps_for PassesOwn.never rfl (pi_seq (pv 1)) (pg_name (i := 3) scSFaults.nd rfl (.inl rfl))
        (pss_one (ps_for PassesOwn.never rfl (pi_list (pe_meth0 (pv 0) SC.c STm FTs (hr.mono (by first | decide | omega)) bTs .nil pass0)) (pg_name (i := 4) scSFaults.nd rfl (.inl rfl))
          (pss_cons (ps_set (i := 5) scSFaults.nd rfl (.inl rfl) (pe_ix ix_tup (pe_meth (pv 0) SC.c SPm FPa (hr.mono (by first | decide | omega)) bPa .nil pass0 (pa_cons (pv 3) (pa_cons (pv 4) pa_nil))) pe_int (fun _ _ => rfl)))
          (pss_one (ps_if (pt_cmpR op_ne (pv 5) pe_str (nomark _))
            (pss_one (ps_expr (pe_bm PySem.F.plainAttrs_list PySem.F.slot_list_append PySem.F.type_list_append mt_append (pv 2) (pa_cons (pe_tup (pa_cons (pv 3) (pa_cons (pv 4) (pa_cons (pv 5) pa_nil)))) pa_nil))))
            pss_nil))))))
      (pss_one (ps_ret (pv 2))))), ?_⟩
    refine ⟨Nat.zero_le _, fun R nR => ?_⟩
    have S1 : Same H (L2.upd H R (.lst [])) := same_upd nR
    have body : ∀ (J : It) (G : Hp → Prop) (wk : Walk J (ts.map V.str).length G (YAt (ts.map V.str))) (hG : ∀ H', Same H H' → G H'), True := fun _ _ _ _ => trivial
    refine ⟨.ref l, rfl, l, rfl, ?_⟩
    rcases hl with hl | hl
    · refine .inl ⟨⟨_, S1.seq hl⟩, ?_⟩
      refine for_it (walk_list (a := l) (xs := ts.map V.str)) (fun i σ H' => ∃ y3 y4 y5, σ = [some (.ref j), some (.ref l), some (.ref R), y3, y4, y5] ∧ Same H H' ∧ ∃ us, FltAt H' R us ∧ us.map (·.2) = fltL pl (testsL ms) (ts.take i) ∧ us.length ≤ i * 1000)
        ⟨none, none, none, rfl, S1, [], ⟨upd_same, fun u h => (by cases h)⟩, rfl, Nat.zero_le _⟩ (fun i σ H' _ hP => let ⟨_, _, _, _, S, _⟩ := hP; S.seq hl) (fun i v σ H3 H4 hi hP hy => ?_) (fun σ H3 hP => ?_)
      · obtain ⟨y3, y4, y5, rfl, S3, us, fa, ue, ul⟩ := hP
        obtain ⟨rfl, ev⟩ := hy
        rw [List.getElem?_map] at ev
        cases et : ts[i]? with
        | none => rw [et] at ev; cases ev
        | some t =>
        rw [et] at ev
        cases (Option.some.inj ev)
        have i60 : i < 60 := by have := (List.getElem?_eq_some_iff.mp et).1; omega
        refine ⟨.ref j, rfl, j, dx, _, rfl, S3 _ _ hj, rfl, j, pl, rfl, hS.same S3, ht, fun p ms' H5 S5 np hp sm mm lm => ?_⟩
        obtain rfl := srt_uniq srt sm fun x => (m5 x).trans (mm x).symm
        have hR3 : H4 R ≠ none := fun n => by rw [fa.l] at n; cases n
        refine ⟨p, rfl, ⟨_, sqOf hp⟩, ?_⟩
        refine for_it (walk_list (a := p) (xs := (testsL ms).map V.str)) (fun k σ H' => ∃ y4 y5, σ = [some (.ref j), some (.ref l), some (.ref R), some (.str t), y4, y5] ∧ Same H H' ∧ H' p = some (.lst ((testsL ms).map V.str)) ∧ ∃ us, FltAt H' R us ∧ us.map (·.2) = fltL pl (testsL ms) (ts.take i) ++ fltT pl ((testsL ms).take k) t ∧ us.length ≤ i * 1000 + k)
          ⟨_, _, rfl, S3.trans S5, hp, us, fa.same S5, by rw [ue]; exact (List.append_nil _).symm, ul⟩ (fun k σ H' _ hP => let ⟨_, _, _, _, h, _⟩ := hP; sqOf h) (fun k v σ H6 H7 hk hP hy => ?_) (fun σ H6 hP => ?_)
        · obtain ⟨y4, y5, rfl, S6, hp6, us, fa, ue, ul⟩ := hP
          obtain ⟨rfl, ev⟩ := hy
          rw [List.getElem?_map] at ev
          cases ea : (testsL ms)[k]? with
          | none => rw [ea] at ev; cases ev
          | some a =>
          rw [ea] at ev
          cases (Option.some.inj ev)
          have k2 : k < (testsL ms).length := (List.getElem?_eq_some_iff.mp ea).1
          have al := addr_len (ta a (List.mem_of_getElem? ea))
          have tk : (testsL ms).take (k + 1) = (testsL ms).take k ++ [a] := by rw [List.take_add_one, ea]; rfl
          have fstep : fltT pl ((testsL ms).take (k + 1)) t = fltT pl ((testsL ms).take k) t ++ (if (pth pl a t).2 = wHere then [] else [(t, a, (pth pl a t).2)]) := by
            rw [tk]
            unfold fltT
            rw [List.flatMap_append, List.flatMap_singleton]
          refine ⟨.ref j, rfl, j, dx, _, rfl, S6 _ _ hj, rfl, .str t, rfl, .str a, rfl, j, t, a, pl, rfl, hS.same S6, by omega, hn, fun T H8 S8 P1 => ?_⟩
          obtain ⟨U, hT, hU⟩ := P1
          refine ⟨T, _, 1, .str (pth pl a t).2, rfl, rfl, .of hT, atI_nat (j := 1) rfl, .str (pth pl a t).2, rfl, rfl, _, rfl, ite2 (fun c => ?_) (fun c => ?_)⟩
          · rw [Bool.not_eq_true', decide_eq_false_iff_not] at c
            have c0 : (pth pl a t).2 ≠ wHere := fun z => c (by rw [z]; rfl)
            have fa8 := fa.same S8
            refine ⟨.ref R, rfl, .inl ⟨rfl, _, sqOf fa8.l⟩, .str t, rfl, .str a, rfl, .str (pth pl a t).2, rfl, by show 3 ≤ sizeLine; omega, fun X nX => ⟨R, _, .ref X, rfl, rfl, by rw [upd_ne (ne_of_none fa8.l nX)]; exact fa8.l, by rw [List.length_map]; omega, _, _, rfl, fun c o hc => ?_, ?_, us ++ [(X, (t, a, (pth pl a t).2))], fa8.snoc nX, ?_, by rw [List.length_append]; show us.length + 1 ≤ _; omega⟩⟩
            · rw [upd_ne (ne_of_none hc nR), upd_ne (ne_of_none (S8 _ _ (S6 _ _ hc)) nX)]
              exact S8 _ _ (S6 _ _ hc)
            · have h8 := S8 _ _ hp6
              have pR : p ≠ R := fun z => hR3 (by rw [← z]; exact np)
              rw [upd_ne pR, upd_ne (ne_of_none h8 nX)]
              exact h8
            · rw [List.map_append, ue, fstep, if_neg c0, List.append_assoc]
              rfl
          · rw [Bool.not_eq_true', decide_eq_false_iff_not, Decidable.not_not] at c
            have c0 : (pth pl a t).2 = wHere := V.str.inj c
            refine ⟨_, _, rfl, S6.trans S8, S8 _ _ hp6, us, fa.same S8, ?_, by omega⟩
            rw [fstep, if_pos c0, List.append_nil]
            exact ue
        · obtain ⟨y4, y5, rfl, S6, hp6, us, fa, ue, ul⟩ := hP
          rw [List.length_map] at ul ue
          rw [List.take_length] at ue
          refine ⟨_, _, _, rfl, S6, us, fa, ?_, by rw [Nat.succ_mul]; omega⟩
          rw [ue, List.take_add_one, et]
          unfold fltL
          rw [List.flatMap_append]
          show _ = _ ++ List.flatMap (fltT pl (testsL ms)) [t]
          rw [List.flatMap_singleton]
      · obtain ⟨y3, y4, y5, rfl, S3, us, fa, ue, ul⟩ := hP
        rw [List.length_map] at ul ue
        rw [List.take_length] at ue
        exact ⟨.ref R, rfl, q R us ms H3 S3 nR fa srt m5 ue (by have := Nat.mul_le_mul_right 1000 lts; omega)⟩
    · refine .inr ⟨⟨_, seqT S1 hl⟩, ?_⟩
      refine for_it (walk_tup (a := l) (xs := ts.map V.str)) (fun i σ H' => ∃ y3 y4 y5, σ = [some (.ref j), some (.ref l), some (.ref R), y3, y4, y5] ∧ Same H H' ∧ ∃ us, FltAt H' R us ∧ us.map (·.2) = fltL pl (testsL ms) (ts.take i) ∧ us.length ≤ i * 1000)
        ⟨none, none, none, rfl, S1, [], ⟨upd_same, fun u h => (by cases h)⟩, rfl, Nat.zero_le _⟩ (fun i σ H' _ hP => let ⟨_, _, _, _, S, _⟩ := hP; seqT S hl) (fun i v σ H3 H4 hi hP hy => ?_) (fun σ H3 hP => ?_)
      · obtain ⟨y3, y4, y5, rfl, S3, us, fa, ue, ul⟩ := hP
        obtain ⟨rfl, ev⟩ := hy
        rw [List.getElem?_map] at ev
        cases et : ts[i]? with
        | none => rw [et] at ev; cases ev
        | some t =>
        rw [et] at ev
        cases (Option.some.inj ev)
        have i60 : i < 60 := by have := (List.getElem?_eq_some_iff.mp et).1; omega
        refine ⟨.ref j, rfl, j, dx, _, rfl, S3 _ _ hj, rfl, j, pl, rfl, hS.same S3, ht, fun p ms' H5 S5 np hp sm mm lm => ?_⟩
        obtain rfl := srt_uniq srt sm fun x => (m5 x).trans (mm x).symm
        have hR3 : H4 R ≠ none := fun n => by rw [fa.l] at n; cases n
        refine ⟨p, rfl, ⟨_, sqOf hp⟩, ?_⟩
        refine for_it (walk_list (a := p) (xs := (testsL ms).map V.str)) (fun k σ H' => ∃ y4 y5, σ = [some (.ref j), some (.ref l), some (.ref R), some (.str t), y4, y5] ∧ Same H H' ∧ H' p = some (.lst ((testsL ms).map V.str)) ∧ ∃ us, FltAt H' R us ∧ us.map (·.2) = fltL pl (testsL ms) (ts.take i) ++ fltT pl ((testsL ms).take k) t ∧ us.length ≤ i * 1000 + k)
          ⟨_, _, rfl, S3.trans S5, hp, us, fa.same S5, by rw [ue]; exact (List.append_nil _).symm, ul⟩ (fun k σ H' _ hP => let ⟨_, _, _, _, h, _⟩ := hP; sqOf h) (fun k v σ H6 H7 hk hP hy => ?_) (fun σ H6 hP => ?_)
        · obtain ⟨y4, y5, rfl, S6, hp6, us, fa, ue, ul⟩ := hP
          obtain ⟨rfl, ev⟩ := hy
          rw [List.getElem?_map] at ev
          cases ea : (testsL ms)[k]? with
          | none => rw [ea] at ev; cases ev
          | some a =>
          rw [ea] at ev
          cases (Option.some.inj ev)
          have k2 : k < (testsL ms).length := (List.getElem?_eq_some_iff.mp ea).1
          have al := addr_len (ta a (List.mem_of_getElem? ea))
          have tk : (testsL ms).take (k + 1) = (testsL ms).take k ++ [a] := by rw [List.take_add_one, ea]; rfl
          have fstep : fltT pl ((testsL ms).take (k + 1)) t = fltT pl ((testsL ms).take k) t ++ (if (pth pl a t).2 = wHere then [] else [(t, a, (pth pl a t).2)]) := by
            rw [tk]
            unfold fltT
            rw [List.flatMap_append, List.flatMap_singleton]
          refine ⟨.ref j, rfl, j, dx, _, rfl, S6 _ _ hj, rfl, .str t, rfl, .str a, rfl, j, t, a, pl, rfl, hS.same S6, by omega, hn, fun T H8 S8 P1 => ?_⟩
          obtain ⟨U, hT, hU⟩ := P1
          refine ⟨T, _, 1, .str (pth pl a t).2, rfl, rfl, .of hT, atI_nat (j := 1) rfl, .str (pth pl a t).2, rfl, rfl, _, rfl, ite2 (fun c => ?_) (fun c => ?_)⟩
          · rw [Bool.not_eq_true', decide_eq_false_iff_not] at c
            have c0 : (pth pl a t).2 ≠ wHere := fun z => c (by rw [z]; rfl)
            have fa8 := fa.same S8
            refine ⟨.ref R, rfl, .inl ⟨rfl, _, sqOf fa8.l⟩, .str t, rfl, .str a, rfl, .str (pth pl a t).2, rfl, by show 3 ≤ sizeLine; omega, fun X nX => ⟨R, _, .ref X, rfl, rfl, by rw [upd_ne (ne_of_none fa8.l nX)]; exact fa8.l, by rw [List.length_map]; omega, _, _, rfl, fun c o hc => ?_, ?_, us ++ [(X, (t, a, (pth pl a t).2))], fa8.snoc nX, ?_, by rw [List.length_append]; show us.length + 1 ≤ _; omega⟩⟩
            · rw [upd_ne (ne_of_none hc nR), upd_ne (ne_of_none (S8 _ _ (S6 _ _ hc)) nX)]
              exact S8 _ _ (S6 _ _ hc)
            · have h8 := S8 _ _ hp6
              have pR : p ≠ R := fun z => hR3 (by rw [← z]; exact np)
              rw [upd_ne pR, upd_ne (ne_of_none h8 nX)]
              exact h8
            · rw [List.map_append, ue, fstep, if_neg c0, List.append_assoc]
              rfl
          · rw [Bool.not_eq_true', decide_eq_false_iff_not, Decidable.not_not] at c
            have c0 : (pth pl a t).2 = wHere := V.str.inj c
            refine ⟨_, _, rfl, S6.trans S8, S8 _ _ hp6, us, fa.same S8, ?_, by omega⟩
            rw [fstep, if_pos c0, List.append_nil]
            exact ue
        · obtain ⟨y4, y5, rfl, S6, hp6, us, fa, ue, ul⟩ := hP
          rw [List.length_map] at ul ue
          rw [List.take_length] at ue
          refine ⟨_, _, _, rfl, S6, us, fa, ?_, by rw [Nat.succ_mul]; omega⟩
          rw [ue, List.take_add_one, et]
          unfold fltL
          rw [List.flatMap_append]
          show _ = _ ++ List.flatMap (fltT pl (testsL ms)) [t]
          rw [List.flatMap_singleton]
      · obtain ⟨y3, y4, y5, rfl, S3, us, fa, ue, ul⟩ := hP
        rw [List.length_map] at ul ue
        rw [List.take_length] at ue
        exact ⟨.ref R, rfl, q R us ms H3 S3 nR fa srt m5 ue (by have := Nat.mul_le_mul_right 1000 lts; omega)⟩
end
end Tb
namespace Tb
open PySem PySem.Spec PyProof.Rows L2
open PySem.W (AllAlike Sortable dataLe TotalLe)
theorem lanes_upd {es : List En} {i : Nat} {e : En} (h : es[i]? = some e) (ks : List Str) (mk : ∀ x, x ∈ ks ↔ staL es i x) : ∀ x, x ∈ ks ++ ((e.2.2.mergeSort le2).map Prod.snd).filter (fun z => decide (z ≠ wE)) ↔ staL es (i + 1) x := fun x => by
  rw [List.mem_append, mk x, staL_step h, List.mem_filter, List.mem_map]
  refine or_congr Iff.rfl ⟨fun ⟨⟨r, hr, er⟩, n⟩ => ⟨r, mem_sort.mp hr, er, of_decide_eq_true n⟩, fun ⟨r, hr, er, n⟩ => ⟨⟨r, mem_sort.mpr hr, er⟩, decide_eq_true n⟩⟩
section
variable {P : Program} {w : World} {K : PySem.W.Frag} {mg : Str → Option Value} {base : Heap}
theorem ok_sstat {f g1 C CS : Addr} {fd gd1 : FuncData} (F : Fun K "stations" "Sorting.stations" sSStat f fd) (B : Blt mg) (zset : mg "set" = none) (SC : SCls K CS) (cLanesOf : CLanesOf P w K mg base C g1 gd1) : FnOk P w K mg base CX0 4 f fd ["self"] (spSStat C CS) := by
  refine F.ok scSStat (fun vs H Q E h => ?_) (fun cdv A outer s H vs Q E hr h => ?_)
  · obtain ⟨j, pl, rfl, _⟩ := h
    rfl
  · obtain ⟨j, pl, rfl, hS, ht, q⟩ := h
    have hz : sizeLine = 16777216 := rfl
    obtain ⟨⟨dx, dt, dm, es, ms, hj, h2, h3, h4, m5, m6, srt⟩, g⟩ := id hS
    have les : es.length = pl.length := by rw [← plOf_len, h3.length_eq]
    have tp := tot_perm h3
    refine ⟨_, (pss_cons (ps_set (i := 1) scSStat.nd rfl (.inl rfl) (pe_callTy (call_listD rfl) (by rfl) B.list PyProof.Rows.boot_list (pa_cons (pe_fld (pv 0) rfl) pa_nil)))
      (pss_cons (ps_lock (ps_for PassesOwn.never rfl (pi_values (pe_fld (pv 0) rfl)) (pg_name (i := 2) scSStat.nd rfl (.inl rfl))
        (pss_one (ps_expr (pe_bm PySem.F.plainAttrs_list PySem.F.slot_list_extend PySem.F.type_list_extend mt_extend (pv 1) (pa_cons (pe_lc (own := [("lane", 3)]) (g := gName 3) (by rfl) scSStat.nd (pi_list (pe_call cLanesOf.G (hr.mono (by first | decide | omega)) (by rfl) cLanesOf.D.g cLanesOf.D.F.kp cLanesOf.D.b .nil pass0 (pa_cons (pv 2) pa_nil))) (blkOk_by (N := NSStat) (sc := defScope sSStat) (by decide +kernel)) (fun _ _ _ _ _ => pg_name (i := 3) scSStat.nd rfl (Or.inl rfl)) (fun _ _ _ _ _ => pts_one (pt_cmpR op_ne (pv 3) ((pe_txt (by rfl) B.hr)) (nomark _))) (fun _ _ _ _ _ => pv 3)) pa_nil))))))
      (pss_one (ps_ret (pe_callB (r := SH.rSortSet K w) (SH.cr_sortSet rfl hr.units) (by rfl) B.sorted PyProof.Rows.boot_sorted (pa_cons (pe_callTy (r := SH.rSetQ K P w) (SH.cr_setQ rfl) (by rfl) zset boot_set (pa_cons (pv 1) pa_nil)) pa_nil)))))), ?_⟩
    refine ⟨.ref j, rfl, j, CS, dx, _, .ref dt, rfl, hj, SC.c, SC.no1, lkT, dt, _, rfl, .of h2.d, fun R nR => ?_⟩
    have S1 : Same H (L2.upd H R (.lst ((kvE es).map fun kv => kV kv.1))) := same_upd nR
    have hR1 : (L2.upd H R (.lst ((kvE es).map fun kv => kV kv.1))) R = some (.lst (((plOf es).map Prod.fst).map V.str)) := by rw [upd_same, kvE_keys]
    have Rd0 : R ≠ dt := fun e => by rw [e, h2.d] at nR; cases nR
    generalize L2.upd H R (.lst ((kvE es).map fun kv => kV kv.1)) = H1 at S1 hR1
    have jd : j ≠ dt := ne_of hj h2.d (fun z => by cases z)
    refine ⟨dt, .dK (kvE es), S1 _ _ h2.d, trivial, fun od => ?_⟩
    refine ⟨.ref j, rfl, j, CS, dx, _, .ref dt, rfl, by rw [upd_ne jd]; exact S1 _ _ hj, SC.c, SC.no1, lkT, dt, od, kvE es, rfl, upd_same, ?_⟩
    refine for_it (walk_values (d := dt) (o := od) (kvs := kvE es)) (fun i σ H' => (∃ y2 y3, σ = [some (.ref j), some (.ref R), y2, y3]) ∧ But dt H H' ∧ H' dt = some (.frz od (.dK (kvE es))) ∧ ∃ ks : List Str, H' R = some (.lst (ks.map V.str)) ∧ (∀ x, x ∈ ks ↔ staL es i x) ∧ ks.length ≤ es.length + tot (plOf (es.take i)))
      ⟨⟨none, none, rfl⟩, (Same.but S1).trans But.upd, upd_same, _, by rw [upd_ne Rd0]; exact hR1, fun x => (staL_zero es x).symm, by rw [List.length_map, plOf_len]; exact Nat.le_add_right _ _⟩ (fun i σ H' _ hP => hP.2.2.1) (fun i x σ H5 H6 hi hP hy => ?_) (fun σ H5 hP => ?_)
    · obtain ⟨⟨y2, y3, rfl⟩, b5, d5, ks, hR, mk, lk⟩ := hP
      obtain ⟨rfl, k, ek⟩ := hy
      rw [kvE_at] at ek
      cases ee : es[i]? with
      | none => rw [ee] at ek; cases ek
      | some e =>
      rw [ee] at ek
      cases (Option.some.inj ek)
      have m := List.mem_of_getElem? ee
      have l1 := tot_take ee
      have l2 := tot_le es (i + 1)
      obtain ⟨dy, dd, t1, t2⟩ := (h2.t e m).ex
      have hT : TabOf C H6 e.1 e.2.2 := ⟨⟨dy, dd, b5 _ _ t1 (ne_of t1 h2.d (fun z => by cases z)), b5 _ _ t2 (ne_of t2 h2.d (fun z => kvP_kvE m (HO.dK.inj z)))⟩, (h2.t e m).g, (h2.t e m).n⟩
      refine ⟨.ref R, rfl, .inl ⟨rfl, _, sqOf hR⟩, .ref e.1, rfl, e.1, e.2.2, rfl, hT, fun p H7 S7 hp => ⟨p, rfl, ⟨_, sqOf hp⟩, fun G nG => ?_⟩⟩
      refine lc_it (walk_list (a := p) (xs := ((e.2.2.mergeSort le2).map Prod.snd).map V.str)) (fun k H' => Same H7 H' ∧ H' G = some (.lst (((((e.2.2.mergeSort le2).map Prod.snd).take k).filter (fun z => decide (z ≠ wE))).map V.str))) ⟨same_upd nG, upd_same⟩ (fun k H' _ hP => sqOf (hP.1 _ _ hp)) (fun k v H8 H9 hk hP hy => ?_) (fun H8 hP => ?_)
      · obtain ⟨S8, hG⟩ := hP
        obtain ⟨rfl, ev⟩ := hy
        rw [List.getElem?_map] at ev
        cases et : ((e.2.2.mergeSort le2).map Prod.snd)[k]? with
        | none => rw [et] at ev; cases ev
        | some x =>
        rw [et] at ev
        cases (Option.some.inj ev)
        have lt : ((((e.2.2.mergeSort le2).map Prod.snd).take k).filter (fun z => decide (z ≠ wE))).length ≤ 900 := by
          have a1 := List.length_filter_le (fun z => decide (z ≠ wE)) (((e.2.2.mergeSort le2).map Prod.snd).take k)
          have a2 := (h2.t e m).n
          rw [List.length_take, List.length_map, len_sort] at a1
          omega
        refine ⟨rfl, .str x, rfl, rfl, _, rfl, ite2 (fun c => ?_) (fun c => ?_)⟩
        · rw [Bool.not_eq_true', decide_eq_false_iff_not] at c
          have c0 : x ≠ wE := fun z => c (by rw [z]; rfl)
          refine ⟨.str x, rfl, _, hG, by rw [List.length_map]; omega, fun c o hc => ?_, ?_⟩
          · rw [upd_ne (ne_of_none hc nG)]
            exact S8 _ _ hc
          · rw [upd_same, List.take_add_one, et, List.filter_append, show List.filter (fun z => decide (z ≠ wE)) (some x).toList = [x] by simp [c0], List.map_append]
            rfl
        · rw [Bool.not_eq_true', decide_eq_false_iff_not, Decidable.not_not] at c
          have c0 : x = wE := V.str.inj c
          refine ⟨S8, ?_⟩
          rw [List.take_add_one, et, List.filter_append, show List.filter (fun z => decide (z ≠ wE)) (some x).toList = [] by simp [c0], List.append_nil]
          exact hG
      · obtain ⟨S8, hG⟩ := hP
        rw [List.length_map, List.take_length] at hG
        have hR8 := S8 _ _ (S7 _ _ hR)
        have lf : (((e.2.2.mergeSort le2).map Prod.snd).filter (fun z => decide (z ≠ wE))).length ≤ e.2.2.length := by
          have a1 := List.length_filter_le (fun z => decide (z ≠ wE)) ((e.2.2.mergeSort le2).map Prod.snd)
          rw [List.length_map, len_sort] at a1
          exact a1
        refine ⟨R, G, _, _, rfl, rfl, hR8, hG, by rw [List.length_map, List.length_map]; omega, ⟨_, _, rfl⟩, fun c o hc nc => ?_, ?_, ks ++ ((e.2.2.mergeSort le2).map Prod.snd).filter (fun z => decide (z ≠ wE)), by rw [upd_same, List.map_append], lanes_upd ee ks mk, by rw [List.length_append]; omega⟩
        · rw [upd_ne (ne_of_none hc nR)]
          exact S8 _ _ (S7 _ _ (b5 _ _ hc nc))
        · rw [upd_ne (Ne.symm Rd0)]
          exact S8 _ _ (S7 _ _ d5)
    · obtain ⟨⟨y2, y3, rfl⟩, b5, d5, ks, hR, mk, lk⟩ := hP
      refine ⟨d5, ?_⟩
      rw [kvE_len] at mk lk
      rw [List.take_length] at lk
      have S6 := unlock_same h2.d b5
      have hR6 : (L2.upd H5 dt (.dK (kvE es))) R = some (.lst (ks.map V.str)) := by rw [upd_ne Rd0]; exact hR
      generalize L2.upd H5 dt (.dK (kvE es)) = H6 at S6 hR6
      refine ⟨.ref R, rfl, R, ks.map Sum.inr, rfl, sqOf (by rw [List.map_map]; exact hR6), by rw [List.length_map]; omega, fun a L na ndL mL lL => ?_⟩
      obtain ⟨M, rfl⟩ : ∃ M : List Str, L = M.map Sum.inr := by
        have : ∀ L : List Key, (∀ k ∈ L, ∃ x : Str, k = Sum.inr x) → ∃ M : List Str, L = M.map Sum.inr := fun L => by
          induction L with
          | nil => exact fun _ => ⟨[], rfl⟩
          | cons k L ih =>
            intro h
            obtain ⟨x, rfl⟩ := h k List.mem_cons_self
            obtain ⟨M, rfl⟩ := ih fun k hk => h k (List.mem_cons_of_mem _ hk)
            exact ⟨x :: M, rfl⟩
        refine this L fun k hk => ?_
        obtain ⟨x, _, rfl⟩ := List.mem_map.mp ((mL k).mp hk)
        exact ⟨x, rfl⟩
      have lM : M.length ≤ ks.length := by rw [List.length_map, List.length_map] at lL; exact lL
      have ndM : M.Nodup := List.Pairwise.of_map _ (fun a b hne e => hne (congrArg Sum.inr e)) ndL
      have mM : ∀ x, x ∈ M ↔ x ∈ ks := fun x => by
        have := mL (Sum.inr x)
        rw [List.mem_map, List.mem_map] at this
        constructor
        · intro h
          obtain ⟨y, hy, e⟩ := this.mp ⟨x, h, rfl⟩
          cases e
          exact hy
        · intro h
          obtain ⟨y, hy, e⟩ := this.mpr ⟨x, h, rfl⟩
          cases e
          exact hy
      refine ⟨a, M.map fun x => (V.str x, PyData.str x), _, rfl, upd_same, fun h hU => ?_, fun b hb => ?_, ?_, ?_, fun b hb => ?_, fun cs p pc pw np => ?_⟩
      · have := SH.SetQ.walked hU
        rw [List.map_map] at this
        rw [List.map_map]
        exact this
      · obtain ⟨x, _, rfl⟩ := List.mem_map.mp hb
        exact .str x
      · rw [List.map_map]
        exact alike1 M
      · rw [List.map_map]
        exact sortable1 M
      · obtain ⟨x, _, rfl⟩ := List.mem_map.mp hb
        show (PyData.str x).depth ≤ 10
        simp [PyData.depth]
      obtain ⟨N, pN, rfl⟩ := perm_map (g := fun x : Str => (V.str x, PyData.str x)) pc
      have pwN : N.Pairwise (fun a b => le1 a b = true) := List.pairwise_map.mp pw
      have e0 : (N.map fun x : Str => (V.str x, PyData.str x)).map Prod.fst = N.map V.str := by rw [List.map_map]; rfl
      rw [e0]
      have Sp := (S6.trans (same_upd na (o := SH.SetK2 P w a (M.map Sum.inr)))).trans (same_upd np (o := .lst (N.map V.str)))
      refine q p N _ Sp ((S6.trans (same_upd na (o := SH.SetK2 P w a (M.map Sum.inr)))).free np) upd_same ⟨pN.nodup_iff.mpr ndM, pwN⟩ (fun x => ?_) ?_
      · rw [pN.mem_iff, mM, mk, staL_end, sta_perm h3]
      · have := pN.length_eq
        omega
end
end Tb
namespace Tb
open PySem PySem.Spec PyProof.Rows L2
open PySem.W (AllAlike Sortable dataLe TotalLe)
abbrev sSRanks : Stmt := inClass (topS 23) 13
abbrev NSRanks : List Str := ["self", "address", "found", "site", "sites", "word"]
theorem scSRanks : FnScope NSRanks ["self", "address"] (defScope sSRanks) := ⟨rfl, rfl, rfl, by decide +kernel, rfl, by decide +kernel, by decide +kernel⟩
abbrev sRankBy : Stmt := topS 24
abbrev NRankBy : List Str := ["lane", "ranks"]
theorem scRankBy : FnScope NRankBy ["lane", "ranks"] (defScope sRankBy) := ⟨rfl, rfl, rfl, by decide +kernel, rfl, by decide +kernel, by decide +kernel⟩
abbrev sCheckR : Stmt := topS 25
abbrev NCheckR : List Str := ["sorting", "address", "ranks", "site", "rank"]
theorem scCheckR : FnScope NCheckR ["sorting", "address", "ranks"] (defScope sCheckR) := ⟨rfl, rfl, rfl, by decide +kernel, rfl, by decide +kernel, by decide +kernel⟩
def oInt : Option Int → V
  | none => .non
  | some i => .int i
abbrev Rk := List (Str × Option Int)
def kvR (rs : Rk) : Kvs := rs.map fun r => (Sum.inr r.1, oInt r.2)
def rkAt (rs : Rk) (x : Str) : Option (Option Int) := (rs.find? fun r => decide (r.1 = x)).map (·.2)
def rankO (pl : Pl) (a t : Str) : Option Int := if (pth pl a t).2 = wHere then some (((pth pl a t).1.length : Int) - 1) else none
def ranksL (pl : Pl) (a : Str) (xs : List Str) : Rk := xs.map fun x => (x, rankO pl a x)
def rankBy (v : V) (rs : Rk) : Option Int := match v with
  | .str w => if w = wE then some 0 else match rkAt rs w with
    | some (some n) => some (n + 1)
    | _ => none
  | _ => none
def chk (pl : Pl) (a : Str) (rs : Rk) (xs : List Str) : Bool := decide ((rs.map Prod.fst).mergeSort le1 = xs) && rs.all fun r => decide (r.2 = rankBy (laneAt pl a r.1) rs)
theorem kvR_len (rs : Rk) : (kvR rs).length = rs.length := List.length_map _
theorem kvR_keys (rs : Rk) : (kvR rs).map (·.1) = (rs.map Prod.fst).map Sum.inr := by
  unfold kvR
  rw [List.map_map, List.map_map]
  rfl
theorem kvR_at (rs : Rk) (i : Nat) : (kvR rs)[i]? = (rs[i]?).map fun r => (Sum.inr r.1, oInt r.2) := by
  unfold kvR
  rw [List.getElem?_map]
theorem kvR_val (rs : Rk) (x : Str) : valV (kvR rs) (Sum.inr x) = (rkAt rs x).map oInt := by
  induction rs with
  | nil => rfl
  | cons r rs ih =>
    rw [show kvR (r :: rs) = (Sum.inr r.1, oInt r.2) :: kvR rs from rfl, val_cons]
    unfold rkAt at ih ⊢
    by_cases c : r.1 = x
    · rw [if_pos (inr_eq.mpr c), List.find?_cons_of_pos (by simpa using c)]
      rfl
    · rw [if_neg fun z => c (inr_eq.mp z), List.find?_cons_of_neg (by simpa using c)]
      exact ih
theorem rkAt_none {rs : Rk} {x : Str} (h : x ∉ rs.map Prod.fst) : rkAt rs x = none := by
  unfold rkAt
  rw [List.find?_eq_none.mpr fun r hr => by
    rw [decide_eq_true_eq]
    exact fun e => h (List.mem_map.mpr ⟨r, hr, e⟩)]
  rfl
theorem rkAt_some {rs : Rk} {x : Str} (h : x ∈ rs.map Prod.fst) : (rkAt rs x).isSome = true := by
  obtain ⟨r, hr, e⟩ := List.mem_map.mp h
  unfold rkAt
  rw [Option.isSome_map, List.find?_isSome]
  exact ⟨r, hr, decide_eq_true e⟩
theorem kvR_snoc {rs : Rk} {x : Str} {o : Option Int} (h : x ∉ rs.map Prod.fst) : putK (kvR rs) (Sum.inr x) (oInt o) = kvR (rs ++ [(x, o)]) := by
  rw [putK_new _ (by rw [kvR_val, rkAt_none h]; rfl)]
  unfold kvR
  rw [List.map_append]
  rfl
theorem oInt_inj {a b : Option Int} (h : oInt a = oInt b) : a = b := by
  cases a <;> cases b <;> cases h <;> rfl
theorem oInt_scal (a b : Option Int) : scal (oInt a) (oInt b) = true := by cases a <;> cases b <;> rfl
def spSRanks (C CS : Addr) : Sp := fun vs H Q _ => ∃ (j : Addr) (a : Str) (pl : Pl), vs = [.ref j, .str a] ∧ SortOf C CS H j pl ∧ a.length ≤ 1000 ∧ pl.length ≤ 100 ∧ pl.length + tot pl ≤ 900 ∧ ∀ (d : Addr) (xs : List Str) (H' : Hp), Same H H' → H d = none → H' d = some (.dK (kvR (ranksL pl a xs))) → Srt xs → (∀ x, x ∈ xs ↔ isSta pl x) → xs.length ≤ 900 → Q (.ref d) H'
def spRankBy : Sp := fun vs H Q _ => ∃ (d : Addr) (v : V) (rs : Rk), vs = [v, .ref d] ∧ (v = .non ∨ ∃ w, v = .str w ∧ (w ≠ wE → w ∈ rs.map Prod.fst)) ∧ Rd H d (.dK (kvR rs)) ∧ Q (oInt (rankBy v rs)) H
def spCheckR (C CS : Addr) : Sp := fun vs H Q _ => ∃ (j d : Addr) (a : Str) (pl : Pl) (rs : Rk), vs = [.ref j, .str a, .ref d] ∧ (∀ H', But d H H' → SortOf C CS H' j pl) ∧ a.length ≤ 1000 ∧ pl.length + tot pl ≤ 900 ∧ H d = some (.dK (kvR rs)) ∧ rs.length ≤ 900 ∧ (∀ r ∈ rs, Tx r.1) ∧
  ∀ (xs : List Str) (H' : Hp), Same H H' → Srt xs → (∀ x, x ∈ xs ↔ isSta pl x) → Q (.bl (chk pl a rs xs)) H'
theorem sta_tx {pl : Pl} (g : GoodPl pl) {x : Str} (h : isSta pl x) : Tx x := by
  rcases h with h | ⟨e, he, r, hr, rfl, _⟩
  · obtain ⟨e, he, rfl⟩ := List.mem_map.mp h
    exact name_tx (g.e e he).1
  · exact lane_tx ((g.e e he).2.1.1 r hr).2
theorem lane_sta {pl : Pl} {a t w : Str} (h : laneAt pl a t = .str w) (n : w ≠ wE) : isSta pl w := by
  rcases rows_case pl t with ⟨e, he, rfl, er⟩ | ⟨_, er⟩
  · rcases laneV_kvP (rowsOf pl e.1) a with e0 | ⟨z, e1, r, hr, rfl⟩
    · rw [show laneAt pl a e.1 = _ from e0] at h
      cases h
    · rw [show laneAt pl a e.1 = _ from e1] at h
      cases h
      rw [er] at hr
      exact .inr ⟨e, he, r, hr, rfl, n⟩
  · rw [laneAt, er, lane_nil] at h
    cases h
section
variable {P : Program} {w : World} {K : PySem.W.Frag} {mg : Str → Option Value} {base : Heap}
theorem ok_rankby {f : Addr} {fd : FuncData} {k : Nat} (F : Fun K "_rank_by" "_rank_by" sRankBy f fd) (B : Blt mg) : FnOk P w K mg base CX0 (k + 1) f fd ["lane", "ranks"] spRankBy := by
  refine F.ok scRankBy (fun vs H Q E h => ?_) (fun cdv A outer s H vs Q E hr h => ?_)
  · obtain ⟨d, v, rs, rfl, _⟩ := h
    rfl
  · obtain ⟨d, v, rs, rfl, hv, hd, q⟩ := h
    have hu := hu_of hr
    refine ⟨_, (pss_cons (ps_if (pt_cmpR op_eq (pv 0) ((pe_txt (by rfl) B.hr)) (nomark _))
        (pss_one (ps_ret pe_int))
        pss_nil)
      (pss_cons (ps_if (PW.pt (pw_or (pt_cmpR op_isN (pv 0) pe_non (nomark _)) (pw_or1 (pt_cmpR op_isN (pe_dget hu (pv 1) (pv 0) (fun _ _ => rfl)) pe_non (nomark _)))))
        (pss_one (ps_ret pe_non))
        pss_nil)
      (pss_one (ps_ret (pe_op op_add (pe_dget hu (pv 1) (pv 0) (fun _ _ => rfl)) pe_int))))), ?_⟩
    rcases hv with rfl | ⟨w, rfl, hw⟩
    · exact ⟨.non, rfl, rfl, false, rfl, .non, rfl, rfl, true, rfl, q⟩
    · refine ⟨.str w, rfl, rfl, _, rfl, ite2 (fun c => ?_) (fun c => ?_)⟩
      · have c0 : w = wE := V.str.inj (of_decide_eq_true c)
        have q : Q (oInt (rankBy (.str w) rs)) H := q
        rw [show rankBy (.str w) rs = some 0 from if_pos c0] at q
        exact q
      · have c0 : w ≠ wE := fun z => c (decide_eq_true (by rw [z]; rfl))
        have hs := rkAt_some (hw c0)
        have q : Q (oInt (rankBy (.str w) rs)) H := q
        rw [show rankBy (.str w) rs = (match rkAt rs w with | some (some n) => some (n + 1) | _ => none) from if_neg c0] at q
        cases e : rkAt rs w with
        | none => rw [e] at hs; cases hs
        | some o =>
          have dg : DGet H d (.str w) (some (oInt o)) := by
            have := kvR_val rs w
            rw [e] at this
            rw [show some (oInt o) = valV (kvR rs) (Sum.inr w) from this.symm]
            exact .inl ⟨_, Sum.inr w, hd, rfl, rfl⟩
          rw [e] at q
          cases o with
          | none => exact ⟨.str w, rfl, rfl, false, rfl, .ref d, rfl, .str w, rfl, d, .non, rfl, dg, rfl, true, rfl, q⟩
          | some n => exact ⟨.str w, rfl, rfl, false, rfl, .ref d, rfl, .str w, rfl, d, .int n, rfl, dg, rfl, false, rfl, .ref d, rfl, .str w, rfl, d, .int n, rfl, dg, n, 1, rfl, rfl, q⟩
theorem ok_sranks {f gT gP C CS : Addr} {fd gdT gdP : FuncData} (F : Fun K "ranks" "Sorting.ranks" sSRanks f fd) (B : Blt mg) (SC : SCls K CS) (SSm : Meth K CS "stations" gT) (bSs : Binds K gdT ["self"] []) (FSs : FnOk P w K mg base CX0 4 gT gdT ["self"] (spSStat C CS)) (SPm : Meth K CS "path" gP) (bPa : Binds K gdP ["self", "site", "address"] []) (FPa : FnOk P w K mg base CX0 5 gP gdP ["self", "site", "address"] (spSPath C CS)) : FnOk P w K mg base CX0 6 f fd ["self", "address"] (spSRanks C CS) := by
  refine F.ok scSRanks (fun vs H Q E h => ?_) (fun cdv A outer s H vs Q E hr h => ?_)
  · obtain ⟨j, a, pl, rfl, _⟩ := h
    rfl
  · obtain ⟨j, a, pl, rfl, hS, al, hn, ht, q⟩ := h
    have hu := hu_of hr
    have hz : sizeLine = 16777216 := rfl
    obtain ⟨dx, dt, dm, hj⟩ := hS.ins
    refine ⟨_, (pss_cons (ps_set (i := 2) scSRanks.nd rfl (.inl rfl) pe_dnewK)
      (pss_cons (ps_for PassesOwn.never rfl (pi_list (pe_meth0 (pv 0) SC.c SSm FSs (hr.mono (by first | decide | omega)) bSs .nil pass0)) (pg_name (i := 3) scSRanks.nd rfl (.inl rfl))
        (pss_cons (ps_asg (pe_meth (pv 0) SC.c SPm FPa (hr.mono (by first | decide | omega)) bPa .nil pass0 (pa_cons (pv 3) (pa_cons (pv 1) pa_nil))) (pg_tup (by rfl) (pgs_cons (pg_name (i := 4) scSRanks.nd rfl (.inl rfl)) (pgs_cons (pg_name (i := 5) scSRanks.nd rfl (.inl rfl)) pgs_nil))))
        (pss_one (ps_dput hu (pv 2) (pv 3) (pe_ifExp (pt_cmpR op_eq (pv 5) pe_str (nomark _)) (pe_op op_sub (pe_callB call_len_seq (by rfl) B.len PySem.boot_len (pa_cons (pv 4) pa_nil)) pe_int) pe_non) (by rfl)))))
      (pss_one (ps_ret (pv 2))))), ?_⟩
    intro R nR
    have S1 : Same H (L2.upd H R (.dK [])) := same_upd nR
    have hR1 : (L2.upd H R (.dK [])) R = some (.dK (kvR [])) := upd_same
    generalize L2.upd H R (.dK []) = H1 at S1 hR1
    refine ⟨.ref j, rfl, j, dx, _, rfl, S1 _ _ hj, rfl, j, pl, rfl, hS.same S1, ht, fun p xs H2 S2 np hp sx mx lx => ⟨p, rfl, ⟨_, sqOf hp⟩, ?_⟩⟩
    have pR : p ≠ R := fun z => by rw [z, hR1] at np; cases np
    refine for_it (walk_list (a := p) (xs := xs.map V.str)) (fun i σ H' => (∃ y3 y4 y5, σ = [some (.ref j), some (.str a), some (.ref R), y3, y4, y5]) ∧ Same H H' ∧ H' p = some (.lst (xs.map V.str)) ∧ H' R = some (.dK (kvR (ranksL pl a (xs.take i)))))
      ⟨⟨none, none, none, rfl⟩, S1.trans S2, hp, S2 _ _ hR1⟩ (fun i σ H' _ hP => sqOf hP.2.2.1) (fun i v σ H3 H4 hi hP hy => ?_) (fun σ H3 hP => ?_)
    · obtain ⟨⟨y3, y4, y5, rfl⟩, S3, p3, r3⟩ := hP
      obtain ⟨rfl, ev⟩ := hy
      rw [List.getElem?_map] at ev
      cases et : xs[i]? with
      | none => rw [et] at ev; cases ev
      | some t =>
      rw [et] at ev
      cases (Option.some.inj ev)
      have i2 : i < xs.length := (List.getElem?_eq_some_iff.mp et).1
      have tk : xs.take (i + 1) = xs.take i ++ [t] := by rw [List.take_add_one, et]; rfl
      have nt : t ∉ (ranksL pl a (xs.take i)).map Prod.fst := by
        unfold ranksL
        rw [List.map_map, show (Prod.fst ∘ fun x => (x, rankO pl a x)) = id from rfl, List.map_id]
        intro m
        obtain ⟨n, hn', en⟩ := List.mem_take_iff_getElem.mp m
        obtain ⟨a1, a2⟩ := List.getElem?_eq_some_iff.mp et
        have := (List.getElem_inj sx.1).mp (en.trans a2.symm)
        omega
      refine ⟨.ref j, rfl, j, dx, _, rfl, S3 _ _ hj, rfl, .str t, rfl, .str a, rfl, j, t, a, pl, rfl, hS.same S3, al, hn, fun T H5 S5 P1 => ?_⟩
      obtain ⟨U, hT, hU⟩ := P1
      have r5 := S5 _ _ r3
      refine ⟨T, _, rfl, .of hT, rfl, .ref U, _, rfl, .str (pth pl a t).2, _, rfl, rfl, .str (pth pl a t).2, rfl, rfl, _, rfl, ite2 (fun c => ?_) (fun c => ?_)⟩
      · have c0 : (pth pl a t).2 = wHere := V.str.inj (of_decide_eq_true c)
        have eo : rankO pl a t = some (((pth pl a t).1.length : Int) - 1) := if_pos c0
        refine ⟨.ref U, rfl, U, _, rfl, .inl (sqOf hU), _, 1, rfl, rfl, .ref R, rfl, .str t, rfl, R, _, rfl, DPut.k (k := Sum.inr t) r5 (by rw [kvR_len]; unfold ranksL; rw [List.length_map, List.length_take]; omega), ⟨_, _, _, rfl⟩, fun c o hc => ?_, ?_, ?_⟩
        · rw [upd_ne (ne_of_none hc nR)]
          exact S5 _ _ (S3 _ _ hc)
        · rw [upd_ne pR]
          exact S5 _ _ p3
        · rw [upd_same, List.length_map]
          have := kvR_snoc (o := rankO pl a t) nt
          rw [eo] at this
          show some (HO.dK (putK _ _ (oInt (some (((pth pl a t).1.length : Int) - 1))))) = _
          rw [this, tk]
          unfold ranksL
          rw [List.map_append, ← eo]
          rfl
      · have c0 : (pth pl a t).2 ≠ wHere := fun z => c (decide_eq_true (by rw [z]; rfl))
        have eo : rankO pl a t = none := if_neg c0
        refine ⟨.ref R, rfl, .str t, rfl, R, _, rfl, DPut.k (k := Sum.inr t) r5 (by rw [kvR_len]; unfold ranksL; rw [List.length_map, List.length_take]; omega), ⟨_, _, _, rfl⟩, fun c o hc => ?_, ?_, ?_⟩
        · rw [upd_ne (ne_of_none hc nR)]
          exact S5 _ _ (S3 _ _ hc)
        · rw [upd_ne pR]
          exact S5 _ _ p3
        · rw [upd_same]
          have := kvR_snoc (o := rankO pl a t) nt
          rw [eo] at this
          rw [show V.non = oInt none from rfl, this, tk]
          unfold ranksL
          rw [List.map_append, ← eo]
          rfl
    · obtain ⟨⟨y3, y4, y5, rfl⟩, S3, p3, r3⟩ := hP
      rw [List.length_map, List.take_length] at r3
      exact ⟨.ref R, rfl, q R xs H3 S3 nR r3 sx mx (by omega)⟩
theorem ok_checkr {f gT gL g1 C CS : Addr} {fd gdT gdL gd1 : FuncData} (F : Fun K "check_ranks" "check_ranks" sCheckR f fd) (B : Blt mg) (SC : SCls K CS) (SSm : Meth K CS "stations" gT) (bSs : Binds K gdT ["self"] []) (FSs : FnOk P w K mg base CX0 4 gT gdT ["self"] (spSStat C CS)) (SLm : Meth K CS "lane" gL) (bLa : Binds K gdL ["self", "site", "address"] []) (FLa : FnOk P w K mg base CX0 4 gL gdL ["self", "site", "address"] (spSLane C CS)) (cRankBy : C1 P w K mg base "_rank_by" sRankBy ["lane", "ranks"] 1 spRankBy g1 gd1) : FnOk P w K mg base CX0 5 f fd ["sorting", "address", "ranks"] (spCheckR C CS) := by
  refine F.ok scCheckR (fun vs H Q E h => ?_) (fun cdv A outer s H vs Q E hr h => ?_)
  · obtain ⟨j, d, a, pl, rs, rfl, _⟩ := h
    rfl
  · obtain ⟨j, d, a, pl, rs, rfl, hSS, al, ht, hd, lrs, tx, q⟩ := h
    have hS := hSS H (But.refl d H)
    have hz : sizeLine = 16777216 := rfl
    obtain ⟨dx, dt, dm, hj⟩ := hS.ins
    have g := hS.g
    refine ⟨_, (pss_cons (ps_if (pt_cmpR (op_neD hr.units) (pe_callB (cr_sortedDk rfl hr.units) (by rfl) B.sorted PyProof.Rows.boot_sorted (pa_cons (pv 2) pa_nil)) (pe_meth0 (pv 0) SC.c SSm FSs (hr.mono (by first | decide | omega)) bSs .nil pass0) (nomark _))
        (pss_one (ps_ret pe_bl))
        pss_nil)
      (pss_cons (ps_lock (ps_for PassesOwn.never rfl (pi_items (pv 2)) (pg_tup (by rfl) (pgs_cons (pg_name (i := 3) scCheckR.nd rfl (.inl rfl)) (pgs_cons (pg_name (i := 4) scCheckR.nd rfl (.inl rfl)) pgs_nil)))
        (pss_one (ps_if (pt_cmpR op_ne (pv 4) (pe_call cRankBy.G (hr.mono (by first | decide | omega)) (by rfl) cRankBy.D.g cRankBy.D.F.kp cRankBy.D.b .nil pass0 (pa_cons (pe_meth (pv 0) SC.c SLm FLa (hr.mono (by first | decide | omega)) bLa .nil pass0 (pa_cons (pv 3) (pa_cons (pv 1) pa_nil))) (pa_cons (pv 2) pa_nil))) (nomark _))
          (pss_one (ps_ret pe_bl))
          pss_nil))))
      (pss_one (ps_ret pe_bl)))), ?_⟩
    refine ⟨.ref d, rfl, d, _, rs.map Prod.fst, rfl, .of hd, kvR_keys rs, by rw [List.length_map]; omega, fun p np => ?_⟩
    have S1 : Same H (L2.upd H p (.lst (((rs.map Prod.fst).mergeSort (PySem.W.dataLe false PyData.str)).map V.str))) := same_upd np
    have hp1 : (L2.upd H p (.lst (((rs.map Prod.fst).mergeSort (PySem.W.dataLe false PyData.str)).map V.str))) p = some (.lst (((rs.map Prod.fst).mergeSort le1).map V.str)) := upd_same
    generalize L2.upd H p (.lst (((rs.map Prod.fst).mergeSort (PySem.W.dataLe false PyData.str)).map V.str)) = H1 at S1 hp1
    refine ⟨.ref j, rfl, j, dx, _, rfl, S1 _ _ hj, rfl, j, pl, rfl, hS.same S1, ht, fun p2 xs H2 S2 np2 hp2 sx mx lx => ?_⟩
    have tk : ∀ x ∈ (rs.map Prod.fst).mergeSort le1, Tx x := fun x hx => by
      obtain ⟨r, hr, rfl⟩ := List.mem_map.mp (List.mem_mergeSort.mp hx)
      exact tx r hr
    have txs : ∀ x ∈ xs, Tx x := fun x hx => sta_tx g ((mx x).mp hx)
    have q := fun H' S => q xs H' S sx mx
    refine ⟨_, _, .lst (sqOf (S2 _ _ hp1)) (dp_strs _), .lst (sqOf hp2) (dp_strs _), shaped_strs tk, shaped_strs txs, _, rfl, ?_⟩
    rw [show PyData.eqv (.list (((rs.map Prod.fst).mergeSort le1).map PyData.str)) (.list (xs.map PyData.str)) = decide ((rs.map Prod.fst).mergeSort le1 = xs) by rw [PyData.eqv, eqvAll_strs]]
    have S02 := S1.trans S2
    refine ite2 (fun c => ?_) (fun c => ?_)
    · rw [Bool.not_eq_true', decide_eq_false_iff_not] at c
      have := q H2 S02
      unfold chk at this
      rw [decide_eq_false c] at this
      exact this
    · rw [Bool.not_eq_true', decide_eq_false_iff_not, Decidable.not_not] at c
      have jd : j ≠ d := ne_of hj hd (fun z => by cases z)
      have keys : ∀ x, isSta pl x → x ∈ rs.map Prod.fst := fun x hx => by
        have := (mx x).mpr hx
        rw [← c] at this
        exact List.mem_mergeSort.mp this
      refine ⟨d, .dK (kvR rs), S02 _ _ hd, trivial, fun od => ?_⟩
      refine ⟨.ref d, rfl, d, od, kvR rs, rfl, upd_same, ?_⟩
      have b0 : But d H (L2.upd H2 d (.frz od (.dK (kvR rs)))) := (Same.but S02).trans But.upd
      refine for_it (walk_items (d := d) (o := od) (kvs := kvR rs)) (fun i σ H' => (∃ y3 y4, σ = [some (.ref j), some (.str a), some (.ref d), y3, y4]) ∧ But d H H' ∧ H' d = some (.frz od (.dK (kvR rs))) ∧ ∀ r ∈ rs.take i, r.2 = rankBy (laneAt pl a r.1) rs)
        ⟨⟨none, none, rfl⟩, b0, upd_same, fun r h => (by cases h)⟩ (fun i σ H' _ hP => hP.2.2.1) (fun i v σ H5 H6 hi hP hy => ?_) (fun σ H5 hP => ?_)
      · obtain ⟨⟨y3, y4, rfl⟩, b5, d5, ok⟩ := hP
        obtain ⟨T, kx, vx, rfl, nT, rfl, ek, ev⟩ := hy
        dsimp only at ek ev
        rw [kvR_at] at ek ev
        cases er : rs[i]? with
        | none => rw [er] at ek; cases ek
        | some r =>
        rw [er] at ek ev
        obtain rfl : V.str r.1 = kx := Option.some.inj ek
        obtain rfl : oInt r.2 = vx := Option.some.inj ev
        have mr := List.mem_of_getElem? er
        refine ⟨T, _, rfl, .of upd_same, rfl, .str r.1, _, rfl, oInt r.2, _, rfl, rfl, ?_⟩
        have b6 : But d H (L2.upd H5 T (.tup [.str r.1, oInt r.2])) := b5.trans (Same.but (same_upd nT))
        have d6 := (same_upd nT (o := .tup [.str r.1, oInt r.2])) _ _ d5
        generalize L2.upd H5 T (.tup [.str r.1, oInt r.2]) = H7 at b6 d6
        have hS7 := hSS H7 b6
        refine ⟨oInt r.2, rfl, .ref j, rfl, j, dx, _, rfl, b6 _ _ hj jd, rfl, .str r.1, rfl, .str a, rfl, j, r.1, a, pl, rfl, hS7, al, .ref d, rfl, d, laneAt pl a r.1, rs, rfl, ?_, .inr ⟨od, d6⟩, oInt_scal _ _, _, rfl, ite2 (fun c => ?_) (fun c => ?_)⟩
        · rcases lane_str pl a r.1 with e | ⟨w, e⟩
          · exact .inl e
          · exact .inr ⟨w, e, fun n => keys w (lane_sta e n)⟩
        · rw [Bool.not_eq_true', decide_eq_false_iff_not] at c
          refine ⟨d6, ?_⟩
          have := q _ (unlock_same hd b6)
          unfold chk at this
          rw [show (rs.all fun r => decide (r.2 = rankBy (laneAt pl a r.1) rs)) = false from List.all_eq_false.mpr ⟨r, mr, by rw [decide_eq_false fun z => c (by rw [z])]; exact fun z => by cases z⟩, Bool.and_false] at this
          exact this
        · rw [Bool.not_eq_true', decide_eq_false_iff_not, Decidable.not_not] at c
          refine ⟨⟨_, _, rfl⟩, b6, d6, fun x hx => ?_⟩
          rw [List.take_add_one, er] at hx
          rcases List.mem_append.mp hx with h | h
          · exact ok x h
          · rw [show x = r from List.mem_singleton.mp h]
            exact oInt_inj c
      · obtain ⟨⟨y3, y4, rfl⟩, b5, d5, ok⟩ := hP
        refine ⟨d5, ?_⟩
        have := q _ (unlock_same hd b5)
        unfold chk at this
        rw [decide_eq_true c, show (rs.all fun r => decide (r.2 = rankBy (laneAt pl a r.1) rs)) = true from List.all_eq_true.mpr fun r hr => decide_eq_true (ok r (by rw [kvR_len, List.take_length]; exact hr))] at this
        exact this
end
end Tb
namespace Tb
open PySem PySem.Spec PyProof.Rows L2
open PySem.W (AllAlike Sortable dataLe TotalLe)
abbrev sLRanks : Stmt := topS 47
abbrev NLRanks : List Str := ["plan", "address", "found", "town", "trail"]
theorem scLRanks : FnScope NLRanks ["plan", "address"] (defScope sLRanks) := ⟨rfl, rfl, rfl, by decide +kernel, rfl, by decide +kernel, by decide +kernel⟩
abbrev sMarksAre : Stmt := topS 43
abbrev NMarksAre : List Str := ["joined", "stems", "addresses", "told"]
theorem scMarksAre : FnScope NMarksAre ["joined", "stems", "addresses"] (defScope sMarksAre) := ⟨rfl, rfl, rfl, by decide +kernel, rfl, by decide +kernel, by decide +kernel⟩
def spLRanks : Sp := fun vs H Q _ => ∃ (d : Addr) (a : Str) (es : List En), vs = [.ref d, .str a] ∧ PlanAt H d es ∧ a.length ≤ 1000 ∧ es.length + tot (plOf es) ≤ 900 ∧ ∀ (F : Addr) (xs : List Str) (H' : Hp), Same H H' → H F = none → H' F = some (.dK (kvR (ranksL (plOf es) a xs))) → Srt xs → (∀ x, x ∈ xs ↔ isSta (plOf es) x) → xs.length ≤ 900 → Q (.ref F) H'
def spMarksAre (C CS : Addr) : Sp := fun vs H Q _ => ∃ (j s t : Addr) (pl : Pl) (ms : List Str), vs = [.ref j, .ref s, .ref t] ∧ SortOf C CS H j pl ∧ tot pl ≤ 399 ∧ Srt ms ∧ (∀ x, x ∈ ms ↔ isStem pl x) ∧ H s = some (.lst (ms.map V.str)) ∧ H t = some (.lst ((testsL ms).map V.str)) ∧ ∀ H', Same H H' → Q (.bl true) H'
theorem put_last {rs : Rk} {x : Str} {o : Option Int} (h : x ∉ rs.map Prod.fst) (u : Option Int) : putK (kvR (rs ++ [(x, u)])) (Sum.inr x) (oInt o) = kvR (rs ++ [(x, o)]) := by
  have an : ((kvR (rs ++ [(x, u)])).any fun kv => decide (kv.1 = Sum.inr x)) = true := List.any_eq_true.mpr ⟨(Sum.inr x, oInt u), by unfold kvR; rw [List.map_append]; exact List.mem_append_right _ List.mem_cons_self, decide_eq_true rfl⟩
  unfold putK
  rw [if_pos an]
  unfold kvR
  rw [List.map_append, List.map_append, List.map_append, List.map_map]
  have e1 : rs.map ((fun kv : Key × V => if kv.1 = Sum.inr x then (kv.1, oInt o) else kv) ∘ fun r : Str × Option Int => (Sum.inr r.1, oInt r.2)) = rs.map fun r => (Sum.inr r.1, oInt r.2) := List.map_congr_left fun r hr => by
    show (if (Sum.inr r.1 : Key) = Sum.inr x then ((Sum.inr r.1 : Key), oInt o) else (Sum.inr r.1, oInt r.2)) = _
    rw [if_neg fun z => h (by rw [← inr_eq.mp z]; exact List.mem_map.mpr ⟨r, hr, rfl⟩)]
  rw [e1]
  show _ ++ [if (Sum.inr x : Key) = Sum.inr x then ((Sum.inr x : Key), oInt o) else (Sum.inr x, oInt u)] = _
  rw [if_pos rfl]
  rfl
section
variable {P : Program} {w : World} {K : PySem.W.Frag} {mg : Str → Option Value} {base : Heap}
theorem ok_lranks {f g1 g2 : Addr} {fd gd1 gd2 : FuncData} (F : Fun K "_law_ranks" "_law_ranks" sLRanks f fd) (B : Blt mg) (cLSites : C1 P w K mg base "_law_sites" sLSites ["plan"] 1 spLSites g1 gd1) (cLPath : C1 P w K mg base "_law_path" sLPath ["plan", "town", "address"] 2 spLPath g2 gd2) : FnOk P w K mg base CX0 3 f fd ["plan", "address"] spLRanks := by
  refine F.ok scLRanks (fun vs H Q E h => ?_) (fun cdv A outer s H vs Q E hr h => ?_)
  · obtain ⟨d, a, es, rfl, _⟩ := h
    rfl
  · obtain ⟨d, a, es, rfl, hP0, al, ht, q⟩ := h
    have hu := hu_of hr
    have hz : sizeLine = 16777216 := rfl
    refine ⟨_, (pss_cons (ps_set (i := 2) scLRanks.nd rfl (.inl rfl) pe_dnewK)
      (pss_cons (ps_for PassesOwn.never rfl (pi_list (pe_call cLSites.G (hr.mono (by first | decide | omega)) (by rfl) cLSites.D.g cLSites.D.F.kp cLSites.D.b .nil pass0 (pa_cons (pv 0) pa_nil))) (pg_name (i := 3) scLRanks.nd rfl (.inl rfl))
        (pss_cons (ps_set (i := 4) scLRanks.nd rfl (.inl rfl) (pe_call cLPath.G (hr.mono (by first | decide | omega)) (by rfl) cLPath.D.g cLPath.D.F.kp cLPath.D.b .nil pass0 (pa_cons (pv 0) (pa_cons (pv 3) (pa_cons (pv 1) pa_nil)))))
        (pss_cons (ps_dput hu (pv 2) (pv 3) pe_non (by rfl))
        (pss_one (ps_if (pt_cmpR op_eq (pe_ix ix_tup (pv 4) pe_int (fun _ _ => rfl)) pe_str (nomark _))
          (pss_one (ps_dput hu (pv 2) (pv 3) (pe_op op_sub (pe_callB call_len_seq (by rfl) B.len PySem.boot_len (pa_cons (pe_ix ix_tup (pv 4) pe_int (fun _ _ => rfl)) pa_nil)) pe_int) (by rfl)))
          pss_nil)))))
      (pss_one (ps_ret (pv 2))))), ?_⟩
    intro R nR
    have S1 : Same H (L2.upd H R (.dK [])) := same_upd nR
    have hR1 : (L2.upd H R (.dK [])) R = some (.dK (kvR [])) := upd_same
    generalize L2.upd H R (.dK []) = H1 at S1 hR1
    refine ⟨.ref d, rfl, d, es, rfl, hP0.same S1, ht, fun p xs H2 S2 np hp sx mx lx => ⟨p, rfl, ⟨_, sqOf hp⟩, ?_⟩⟩
    have pR : p ≠ R := fun z => by rw [z, hR1] at np; cases np
    refine for_it (walk_list (a := p) (xs := xs.map V.str)) (fun i σ H' => (∃ y3 y4, σ = [some (.ref d), some (.str a), some (.ref R), y3, y4]) ∧ Same H H' ∧ H' p = some (.lst (xs.map V.str)) ∧ H' R = some (.dK (kvR (ranksL (plOf es) a (xs.take i)))))
      ⟨⟨none, none, rfl⟩, S1.trans S2, hp, S2 _ _ hR1⟩ (fun i σ H' _ hP => sqOf hP.2.2.1) (fun i v σ H3 H4 hi hP hy => ?_) (fun σ H3 hP => ?_)
    · obtain ⟨⟨y3, y4, rfl⟩, S3, p3, r3⟩ := hP
      obtain ⟨rfl, ev⟩ := hy
      rw [List.getElem?_map] at ev
      cases et : xs[i]? with
      | none => rw [et] at ev; cases ev
      | some t =>
      rw [et] at ev
      cases (Option.some.inj ev)
      have i2 : i < xs.length := (List.getElem?_eq_some_iff.mp et).1
      have tk : xs.take (i + 1) = xs.take i ++ [t] := by rw [List.take_add_one, et]; rfl
      have nt : t ∉ (ranksL (plOf es) a (xs.take i)).map Prod.fst := by
        unfold ranksL
        rw [List.map_map, show (Prod.fst ∘ fun x => (x, rankO (plOf es) a x)) = id from rfl, List.map_id]
        intro m
        obtain ⟨n, hn', en⟩ := List.mem_take_iff_getElem.mp m
        obtain ⟨a1, a2⟩ := List.getElem?_eq_some_iff.mp et
        have := (List.getElem_inj sx.1).mp (en.trans a2.symm)
        omega
      have lR : (ranksL (plOf es) a (xs.take i)).length ≤ 900 := by unfold ranksL; rw [List.length_map, List.length_take]; omega
      refine ⟨.ref d, rfl, .str t, rfl, .str a, rfl, d, t, a, es, rfl, hP0.same S3, by omega, al, fun T H5 S5 P1 => ?_⟩
      obtain ⟨U, hT, hU⟩ := P1
      have r5 := S5 _ _ r3
      have TR : T ≠ R := ne_of hT r5 (fun z => by cases z)
      have UR : U ≠ R := ne_of hU r5 (fun z => by cases z)
      refine ⟨.ref R, rfl, .str t, rfl, R, _, rfl, DPut.k (k := Sum.inr t) r5 (by rw [kvR_len]; omega), ?_⟩
      have e1 : putK (kvR (ranksL (plOf es) a (xs.take i))) (Sum.inr t) V.non = kvR (ranksL (plOf es) a (xs.take i) ++ [(t, none)]) := kvR_snoc (o := none) nt
      rw [e1]
      have step : ∀ o : Option Int, rankO (plOf es) a t = o → ranksL (plOf es) a (xs.take i) ++ [(t, o)] = ranksL (plOf es) a (xs.take (i + 1)) := fun o e => by
        rw [tk, ← e]
        unfold ranksL
        rw [List.map_append]
        rfl
      have S6 : Same H (L2.upd H5 R (.dK (kvR (ranksL (plOf es) a (xs.take i) ++ [(t, none)])))) := fun c o hc => by
        rw [upd_ne (ne_of_none hc nR)]
        exact S5 _ _ (S3 _ _ hc)
      have p6 : (L2.upd H5 R (.dK (kvR (ranksL (plOf es) a (xs.take i) ++ [(t, none)])))) p = some (.lst (xs.map V.str)) := by rw [upd_ne pR]; exact S5 _ _ p3
      have t6 : (L2.upd H5 R (.dK (kvR (ranksL (plOf es) a (xs.take i) ++ [(t, none)])))) T = some (.tup [.ref U, .str (pth (plOf es) a t).2]) := by rw [upd_ne TR]; exact hT
      have u6 : (L2.upd H5 R (.dK (kvR (ranksL (plOf es) a (xs.take i) ++ [(t, none)])))) U = some (.lst ((pth (plOf es) a t).1.map V.str)) := by rw [upd_ne UR]; exact hU
      have r6 : (L2.upd H5 R (.dK (kvR (ranksL (plOf es) a (xs.take i) ++ [(t, none)])))) R = some (.dK (kvR (ranksL (plOf es) a (xs.take i) ++ [(t, none)]))) := upd_same
      generalize L2.upd H5 R (.dK (kvR (ranksL (plOf es) a (xs.take i) ++ [(t, none)]))) = H6 at S6 p6 t6 u6 r6
      refine ⟨.ref T, rfl, T, _, 1, .str (pth (plOf es) a t).2, rfl, rfl, .of t6, atI_nat (j := 1) rfl, rfl, _, rfl, ite2 (fun c => ?_) (fun c => ?_)⟩
      · have c0 : (pth (plOf es) a t).2 = wHere := V.str.inj (of_decide_eq_true c)
        have eo : rankO (plOf es) a t = some (((pth (plOf es) a t).1.length : Int) - 1) := if_pos c0
        refine ⟨.ref T, rfl, T, _, 0, .ref U, rfl, rfl, .of t6, atI_nat (j := 0) rfl, U, _, rfl, .inl (sqOf u6), _, 1, rfl, rfl, .ref R, rfl, .str t, rfl, R, _, rfl, DPut.k (k := Sum.inr t) r6 (by rw [kvR_len, List.length_append]; show _ + 1 < sizeLine; omega), ⟨_, _, rfl⟩, fun c o hc => ?_, ?_, ?_⟩
        · rw [upd_ne (ne_of_none hc nR)]
          exact S6 _ _ hc
        · rw [upd_ne pR]
          exact p6
        · rw [upd_same, List.length_map]
          show some (HO.dK (putK _ _ (oInt (some (((pth (plOf es) a t).1.length : Int) - 1))))) = _
          rw [put_last nt, step _ eo]
      · have c0 : (pth (plOf es) a t).2 ≠ wHere := fun z => c (decide_eq_true (by rw [z]; rfl))
        have eo : rankO (plOf es) a t = none := if_neg c0
        rw [step _ eo] at r6
        exact ⟨⟨_, _, rfl⟩, S6, p6, r6⟩
    · obtain ⟨⟨y3, y4, rfl⟩, S3, p3, r3⟩ := hP
      rw [List.length_map, List.take_length] at r3
      exact ⟨.ref R, rfl, q R xs H3 S3 nR r3 sx mx (by omega)⟩
end
end Tb
namespace Tb
open PySem PySem.Spec PyProof.Rows L2
open PySem.W (AllAlike Sortable dataLe TotalLe)
abbrev sAsked : Stmt := topS 55
abbrev NAsked : List Str := ["bag", "plan", "towns", "asked", "k", "town"]
theorem scAsked : FnScope NAsked ["bag", "plan", "towns"] (defScope sAsked) := ⟨rfl, rfl, rfl, by decide +kernel, rfl, by decide +kernel, by decide +kernel⟩
def spAsked : Sp := fun vs H Q _ => ∃ (p d l : Addr) (es : List En) (ts : List Str), vs = [.ref p, .ref d, .ref l] ∧ Bag H p ∧ PlanAt H d es ∧ Tw H l ts ∧ 1 ≤ ts.length ∧ es.length ≤ 60 ∧ ∀ (a : Addr) (ss : List Str) (H' : Hp), Bag H' p → But p H H' → H a = none → H' a = some (.lst (ss.map V.str)) → (∀ x ∈ ss, isName x = true) → ss.length ≤ 6 → Q (.ref a) H'
theorem oStr_scal (a b : Option Str) : scal (oStr a) (oStr b) = true := by cases a <;> cases b <;> rfl
section
variable {P : Program} {w : World} {K : PySem.W.Frag} {mg : Str → Option Value} {base : Heap}
theorem ok_marksare {f gM gU gT g1 C CS : Addr} {fd gdM gdU gdT gd1 : FuncData} (F : Fun K "_law_marks_are" "_law_marks_are" sMarksAre f fd) (B : Blt mg) (SC : SCls K CS) (SMm : Meth K CS "marks" gM) (bMa : Binds K gdM ["self"] []) (FMa : FnOk P w K mg base CX0 1 gM gdM ["self"] (spSMarks C CS)) (SUm : Meth K CS "unmarked" gU) (bUm : Binds K gdU ["self"] []) (FUm : FnOk P w K mg base CX0 1 gU gdU ["self"] (spSUnm C CS)) (STm : Meth K CS "tests" gT) (bTs : Binds K gdT ["self"] []) (FTs : FnOk P w K mg base CX0 2 gT gdT ["self"] (spSTests C CS)) (cLUnm : C1 P w K mg base "_law_unmarked" sLUnm ["stems"] 1 spLUnm g1 gd1) : FnOk P w K mg base CX0 3 f fd ["joined", "stems", "addresses"] (spMarksAre C CS) := by
  refine F.ok scMarksAre (fun vs H Q E h => ?_) (fun cdv A outer s H vs Q E hr h => ?_)
  · obtain ⟨j, s, t, pl, ms, rfl, _⟩ := h
    rfl
  · obtain ⟨j, s, t, pl, ms, rfl, hS, ht, srt, mm, hs, hts, q⟩ := h
    have hz : sizeLine = 16777216 := rfl
    obtain ⟨dx, dt, dm, hj⟩ := hS.ins
    have g := hS.g
    have am : ∀ x ∈ ms, isAddr x = true := fun x hx => stem_addr g ((mm x).mp hx)
    have txm : ∀ x ∈ ms, Tx x := fun x hx => ad_tx ((isAddr_iff x).mp (am x hx))
    have txt : ∀ x ∈ testsL ms, Tx x := fun x hx => ad_tx ((isAddr_iff x).mp (tests_addr am x hx))
    have ltm := tests_len ms
    refine ⟨_, (pss_cons (ps_set (i := 3) scMarksAre.nd rfl (.inl rfl) (pe_meth0 (pv 0) SC.c SMm FMa (hr.mono (by first | decide | omega)) bMa .nil pass0))
      (pss_cons (ps_if (PW.pt (pw_or (pt_not (pt_val (pe_callB call_isi (by rfl) B.isi (by decide +kernel) (pa_cons (pv 3) (pa_cons (pe_bltn (by rfl) B.list PyProof.Rows.boot_list (v := .ty "list") (u := .type "list") rfl) pa_nil))))) (pw_or1 (pt_cmpR (op_neD hr.units) (pv 3) (pv 1) (nomark _)))))
        (pss_one (ps_ret pe_bl))
        pss_nil)
      (pss_cons (ps_expr (pe_bm PySem.F.plainAttrs_list PySem.F.slot_list_append PySem.F.type_list_append mt_append (pv 3) (pa_cons pe_str pa_nil)))
      (pss_cons (ps_expr (pe_bm0 PySem.F.plainAttrs_list PySem.F.slot_list_reverse PySem.F.type_list_reverse mt_reverse (pv 3)))
      (pss_cons (ps_if (PW.pt (pw_or (pt_cmpR (op_neD hr.units) (pe_meth0 (pv 0) SC.c SMm FMa (hr.mono (by first | decide | omega)) bMa .nil pass0) (pv 1) (nomark _)) (pw_or1 (pt_cmpR op_ne (pe_meth0 (pv 0) SC.c SUm FUm (hr.mono (by first | decide | omega)) bUm .nil pass0) (pe_call cLUnm.G (hr.mono (by first | decide | omega)) (by rfl) cLUnm.D.g cLUnm.D.F.kp cLUnm.D.b .nil pass0 (pa_cons (pv 1) pa_nil)) (nomark _)))))
        (pss_one (ps_ret pe_bl))
        pss_nil)
      (pss_cons (ps_set (i := 3) scMarksAre.nd rfl (.inl rfl) (pe_meth0 (pv 0) SC.c STm FTs (hr.mono (by first | decide | omega)) bTs .nil pass0))
      (pss_cons (ps_if (PW.pt (pw_or (pt_not (pt_val (pe_callB call_isi (by rfl) B.isi (by decide +kernel) (pa_cons (pv 3) (pa_cons (pe_bltn (by rfl) B.list PyProof.Rows.boot_list (v := .ty "list") (u := .type "list") rfl) pa_nil))))) (pw_or1 (pt_cmpR (op_neD hr.units) (pv 3) (pv 2) (nomark _)))))
        (pss_one (ps_ret pe_bl))
        pss_nil)
      (pss_cons (ps_expr (pe_bm PySem.F.plainAttrs_list PySem.F.slot_list_append PySem.F.type_list_append mt_append (pv 3) (pa_cons pe_str pa_nil)))
      (pss_cons (ps_expr (pe_bm0 PySem.F.plainAttrs_list PySem.F.slot_list_reverse PySem.F.type_list_reverse mt_reverse (pv 3)))
      (pss_one (ps_ret (pe_cmpR (op_eqD hr.units) (pe_meth0 (pv 0) SC.c STm FTs (hr.mono (by first | decide | omega)) bTs .nil pass0) (pv 2) (nomark _))))))))))))), ?_⟩
    refine ⟨.ref j, rfl, j, dx, _, rfl, hj, rfl, j, pl, rfl, hS, fun p ms1 H1 S1 np hp m1 l1 s1 => ?_⟩
    obtain rfl := srt_uniq srt s1 fun x => (mm x).trans (m1 x).symm
    refine ⟨.ref p, rfl, .ref p, .ty "list", .type "list", .type "list", true, rfl, .ty _, .base (.lst hp), kit_ty (by decide +kernel), true, rfl, ?_⟩
    refine ⟨.ref p, rfl, .ref s, rfl, _, _, .lst (sqOf hp) (dp_strs _), .lst (sqOf (S1 _ _ hs)) (dp_strs _), shaped_strs txm, shaped_strs txm, _, rfl, ?_⟩
    rw [eqv_self (shaped_strs txm)]
    refine ⟨.ref p, rfl, .inl ⟨rfl, _, sqOf hp⟩, p, _, _, rfl, rfl, hp, by rw [List.length_map]; omega, ?_⟩
    refine ⟨.ref p, rfl, .inl ⟨rfl, _, sqOf upd_same⟩, p, _, rfl, rfl, upd_same, ?_⟩
    have S2 : ∀ o o', Same H (L2.upd (L2.upd H1 p o) p o') := fun o o' c u hc => by
      rw [upd_ne (ne_of_none hc np), upd_ne (ne_of_none hc np)]
      exact S1 _ _ hc
    generalize hH2 : L2.upd (L2.upd H1 p _) p _ = H2
    have S2 : Same H H2 := by rw [← hH2]; exact S2 _ _
    clear hH2
    refine ⟨.ref j, rfl, j, dx, _, rfl, S2 _ _ hj, rfl, j, pl, rfl, hS.same S2, fun p3 ms3 H3 S3 np3 hp3 m3 l3 s3 => ?_⟩
    obtain rfl := srt_uniq srt s3 fun x => (mm x).trans (m3 x).symm
    have S03 := S2.trans S3
    refine ⟨.ref s, rfl, _, _, .lst (sqOf hp3) (dp_strs _), .lst (sqOf (S03 _ _ hs)) (dp_strs _), shaped_strs txm, shaped_strs txm, _, rfl, ?_⟩
    rw [eqv_self (shaped_strs txm)]
    refine ⟨.ref j, rfl, j, dx, _, rfl, S03 _ _ hj, rfl, j, pl, rfl, hS.same S03, fun ms4 s4 m4 => ?_⟩
    obtain rfl := srt_uniq srt s4 fun x => (mm x).trans (m4 x).symm
    refine ⟨.ref s, rfl, s, ms, rfl, S03 _ _ hs, oStr_scal _ _, _, rfl, ?_⟩
    rw [decide_eq_true rfl]
    refine ⟨.ref j, rfl, j, dx, _, rfl, S03 _ _ hj, rfl, j, pl, rfl, hS.same S03, by omega, fun p5 ms5 H5 S5 np5 hp5 s5 m5 l5 => ?_⟩
    obtain rfl := srt_uniq srt s5 fun x => (mm x).trans (m5 x).symm
    have S05 := S03.trans S5
    refine ⟨.ref p5, rfl, .ref p5, .ty "list", .type "list", .type "list", true, rfl, .ty _, .base (.lst hp5), kit_ty (by decide +kernel), true, rfl, ?_⟩
    refine ⟨.ref p5, rfl, .ref t, rfl, _, _, .lst (sqOf hp5) (dp_strs _), .lst (sqOf (S05 _ _ hts)) (dp_strs _), shaped_strs txt, shaped_strs txt, _, rfl, ?_⟩
    rw [eqv_self (shaped_strs txt)]
    refine ⟨.ref p5, rfl, .inl ⟨rfl, _, sqOf hp5⟩, p5, _, _, rfl, rfl, hp5, by rw [List.length_map]; omega, ?_⟩
    refine ⟨.ref p5, rfl, .inl ⟨rfl, _, sqOf upd_same⟩, p5, _, rfl, rfl, upd_same, ?_⟩
    have np5' := S03.free np5
    have S6 : ∀ o o', Same H (L2.upd (L2.upd H5 p5 o) p5 o') := fun o o' c u hc => by
      rw [upd_ne (ne_of_none hc np5'), upd_ne (ne_of_none hc np5')]
      exact S05 _ _ hc
    generalize hH6 : L2.upd (L2.upd H5 p5 _) p5 _ = H6
    have S6 : Same H H6 := by rw [← hH6]; exact S6 _ _
    clear hH6
    refine ⟨.ref j, rfl, j, dx, _, rfl, S6 _ _ hj, rfl, j, pl, rfl, hS.same S6, by omega, fun p7 ms7 H7 S7 np7 hp7 s7 m7 l7 => ?_⟩
    obtain rfl := srt_uniq srt s7 fun x => (mm x).trans (m7 x).symm
    have S07 := S6.trans S7
    refine ⟨.ref t, rfl, _, _, .lst (sqOf hp7) (dp_strs _), .lst (sqOf (S07 _ _ hts)) (dp_strs _), shaped_strs txt, shaped_strs txt, ?_⟩
    rw [eqv_self (shaped_strs txt)]
    exact q H7 S07
theorem ok_asked {f g1 : Addr} {fd gd1 : FuncData} (F : Fun K "_law_asked" "_law_asked" sAsked f fd) (B : Blt mg) (cDraw : CDraw P w K mg base g1 gd1) : FnOk P w K mg base CX0 2 f fd ["bag", "plan", "towns"] spAsked := by
  refine F.ok scAsked (fun vs H Q E h => ?_) (fun cdv A outer s H vs Q E hr h => ?_)
  · obtain ⟨p, d, l, es, ts, rfl, _⟩ := h
    rfl
  · obtain ⟨p, d, l, es, ts, rfl, hB, hP0, hT, t1, ln, q⟩ := h
    have hz : sizeLine = 16777216 := rfl
    have tz := hT.z
    have g := hP0.g
    refine ⟨_, (pss_cons (ps_set (i := 3) scAsked.nd rfl (.inl rfl) (pe_lst pa_nil))
      (pss_cons (ps_for PassesOwn.never rfl (pi_range1 (by rfl) B.range (pa_cons (pe_call cDraw.G (hr.mono (by first | decide | omega)) (by rfl) cDraw.D.g cDraw.D.F.kp cDraw.D.b .nil pass0 (pa_cons (pv 0) (pa_cons pe_int pa_nil))) pa_nil)) (pg_name (i := 4) scAsked.nd rfl (.inl rfl))
        (pss_cons (ps_set (i := 5) scAsked.nd rfl (.inl rfl) (pe_ix ix_list (pv 2) (pe_call cDraw.G (hr.mono (by first | decide | omega)) (by rfl) cDraw.D.g cDraw.D.F.kp cDraw.D.b .nil pass0 (pa_cons (pv 0) (pa_cons (pe_callB call_len_seq (by rfl) B.len PySem.boot_len (pa_cons (pv 2) pa_nil)) pa_nil))) (fun _ _ => rfl)))
        (C8.pss_cut (ps_if (PW.pt (pw_and (pt_cmpR (op_ne_dict0 hr.units0) (pv 1) pe_dnewK (nomark _)) (pw_and1 (pt_cmpR op_gt (pe_call cDraw.G (hr.mono (by first | decide | omega)) (by rfl) cDraw.D.g cDraw.D.F.kp cDraw.D.b .nil pass0 (pa_cons (pv 0) (pa_cons pe_int pa_nil))) pe_int (nomark _)))))
          (pss_one (ps_set (i := 5) scAsked.nd rfl (.inl rfl) (pe_ix ix_list (pe_callTy (call_listD rfl) (by rfl) B.list PyProof.Rows.boot_list (pa_cons (pv 1) pa_nil)) (pe_call cDraw.G (hr.mono (by first | decide | omega)) (by rfl) cDraw.D.g cDraw.D.F.kp cDraw.D.b .nil pass0 (pa_cons (pv 0) (pa_cons (pe_callB call_lenD (by rfl) B.len PySem.boot_len (pa_cons (pv 1) pa_nil)) pa_nil))) (fun _ _ => rfl))))
          pss_nil)
        (pss_one (ps_if (pt_cmpR op_notIn_seq (pv 5) (pv 3) (by rfl))
          (pss_one (ps_expr (pe_bm PySem.F.plainAttrs_list PySem.F.slot_list_append PySem.F.type_list_append mt_append (pv 3) (pa_cons (pv 5) pa_nil))))
          pss_nil)))))
      (pss_one (ps_ret (pv 3))))), ?_⟩
    refine ⟨Nat.zero_le _, fun R nR => ?_⟩
    have S1 : Same H (L2.upd H R (.lst [])) := same_upd nR
    have Rp := bag_no hB nR
    refine ⟨.ref p, rfl, p, 7, rfl, hB.same S1, by decide, by decide, fun n H2 n0 n1 B2 b2 => ⟨n, rfl, by omega, by omega, ?_⟩⟩
    let Z : Hp → List Str → Prop := fun H' ss => Bag H' p ∧ But p H H' ∧ PlanAt H' d es ∧ Tw H' l ts ∧ H' R = some (.lst (ss.map V.str))
    have dr : ∀ H1 H2 ss, Z H1 ss → Bag H2 p → But p H1 H2 → Z H2 ss := fun H1 H2 ss ⟨a1, a2, a3, a4, a5⟩ B b => ⟨B, a2.trans b, a3.but a1 b, a4.but a1 b, b _ _ a5 Rp⟩
    have sm : ∀ H1 H2 ss, Z H1 ss → Same H1 H2 → Z H2 ss := fun H1 H2 ss ⟨a1, a2, a3, a4, a5⟩ S => ⟨a1.same S, a2.trans (Same.but S), a3.same S, a4.same S, S _ _ a5⟩
    refine for_it (walk_range (lo := 0) (n := n.toNat)) (fun i σ H' => ∃ ss y4 y5, σ = [some (.ref p), some (.ref d), some (.ref l), some (.ref R), y4, y5] ∧ Z H' ss ∧ (∀ x ∈ ss, isName x = true) ∧ ss.length ≤ i)
      ⟨[], none, none, rfl, dr _ _ _ ⟨hB.same S1, Same.but S1, hP0.same S1, hT.same S1, upd_same⟩ B2 b2, fun x h => (by cases h), Nat.le_refl _⟩ (fun _ _ _ _ _ => trivial) (fun i x σ H3 H4 hi hP hy => ?_) (fun σ H3 hP => ?_)
    · obtain ⟨ss, y4, y5, rfl, ZA, gs, ls⟩ := hP
      obtain ⟨rfl, rfl⟩ := hy
      obtain ⟨B3, _, P3, T3, R3⟩ := id ZA
      refine ⟨.ref l, rfl, .ref p, rfl, .ref l, rfl, l, _, rfl, .inl (sqOf T3.l), p, _, rfl, B3, by rw [List.length_map]; omega, by rw [List.length_map]; omega, fun j H5 j0 j1 B5 b5 => ?_⟩
      obtain ⟨t, htt, et⟩ := pick j0 j1
      have ZB := dr _ _ _ ZA B5 b5
      have tn := hT.g t htt
      refine ⟨l, _, j, .str t, rfl, rfl, sqOf ZB.2.2.2.1.l, et, ?_⟩
      refine ⟨fun σ' H' => ∃ t, σ' = [some (.ref p), some (.ref d), some (.ref l), some (.ref R), some (.int (0 + (i : Int))), some (.str t)] ∧ isName t = true ∧ Z H' ss, ?_, ?_⟩
      · refine ifS_via (fun c H' => Z H' ss ∧ (c = true → es ≠ [])) (fun Q hQ => ?_) (fun c H6 hR => ?_)
        · refine ⟨.ref d, rfl, fun e ne => ⟨d, e, kvE es, rfl, rfl, same_upd ne _ _ ZB.2.2.1.d, upd_same, _, rfl, ?_⟩⟩
          have ZC := sm _ _ _ ZB (same_upd ne (o := HO.dK []))
          cases es with
          | nil => exact hQ _ _ ⟨ZC, fun z => by cases z⟩
          | cons o1 os => exact ⟨.ref p, rfl, p, 4, rfl, ZC.1, by decide, by decide, fun r H1 r0 r1 B1 b1 => ⟨r, 0, rfl, rfl, _, rfl, hQ _ _ ⟨dr _ _ _ ZC B1 b1, fun _ => by simp⟩⟩⟩
        · obtain ⟨ZC, hne⟩ := hR
          cases c with
          | false => exact ⟨t, rfl, tn, ZC⟩
          | true =>
            have kpos : 0 < es.length := List.length_pos_iff.mpr (hne rfl)
            refine ⟨.ref d, rfl, d, _, rfl, .of ZC.2.2.1.d, fun L nL => ?_⟩
            have Lp := bag_no ZC.1 nL
            have hL : (L2.upd H6 L (.lst ((kvE es).map fun kv => kV kv.1))) L = some (.lst (((plOf es).map Prod.fst).map V.str)) := by rw [upd_same, kvE_keys]
            have ZD := sm _ _ _ ZC (same_upd nL (o := HO.lst ((kvE es).map fun kv => kV kv.1)))
            generalize L2.upd H6 L (.lst ((kvE es).map fun kv => kV kv.1)) = H7 at hL ZD
            refine ⟨.ref p, rfl, .ref d, rfl, d, _, rfl, ZD.2.2.1.d, p, _, rfl, ZD.1, by rw [kvE_len]; omega, by rw [kvE_len]; omega, fun j H8 j0 j1 B8 b8 => ?_⟩
            obtain ⟨u, hu, eu⟩ := pick (ks := (plOf es).map Prod.fst) j0 (by rw [List.length_map, List.length_map, plOf_len]; rw [kvE_len] at j1; exact j1)
            obtain ⟨x, hx, rfl⟩ := List.mem_map.mp hu
            exact ⟨L, _, j, .str x.1, rfl, rfl, sqOf (b8 _ _ hL Lp), eu, x.1, rfl, (g.e x hx).1, dr _ _ _ ZD B8 b8⟩
      clear ZA ZB B3 P3 T3 R3 B5 b5 tn
      rintro σ1 H6 ⟨t, rfl, tn, ZC⟩
      have R6 := ZC.2.2.2.2
      refine ⟨.str t, rfl, .ref R, rfl, R, _, rfl, .inl (sqOf R6), rfl, flat_strs _, _, rfl, ite2 (fun c => ?_) (fun c => ?_)⟩
      · refine ⟨.ref R, rfl, .inl ⟨rfl, _, sqOf R6⟩, .str t, rfl, R, _, .str t, rfl, rfl, R6, by rw [List.length_map]; omega, ss ++ [t], _, _, rfl, ⟨ZC.1.put Rp, put_off ZC.2.1 nR, ?_, ?_, by rw [upd_same, List.map_append]; rfl⟩, fun x hx => ?_, by rw [List.length_append]; show ss.length + 1 ≤ i + 1; omega⟩
        · have P6 := ZC.2.2.1
          exact ⟨by rw [upd_ne (ne_of P6.d R6 (fun z => by cases z))]; exact P6.d, fun e he => by rw [upd_ne (ne_of (P6.t e he) R6 (fun z => by cases z))]; exact P6.t e he, P6.g⟩
        · have T6 := ZC.2.2.2.1
          exact ⟨by rw [upd_ne (fun z => by rw [z] at hT; rw [hT.l] at nR; cases nR)]; exact T6.l, T6.n, T6.g, T6.z⟩
        · rcases List.mem_append.mp hx with h | h
          · exact gs x h
          · rw [List.mem_singleton.mp h]
            exact tn
      · exact ⟨ss, _, _, rfl, ZC, gs, by omega⟩
    · obtain ⟨ss, y4, y5, rfl, ZA, gs, ls⟩ := hP
      exact ⟨.ref R, rfl, q R ss H3 ZA.1 ZA.2.1 nR ZA.2.2.2.2 gs (by omega)⟩
end
end Tb
namespace Tb
open PySem PySem.Spec PyProof.Rows L2
open PySem.W (AllAlike Sortable dataLe TotalLe)
abbrev sFaultsAre : Stmt := topS 44
abbrev NFaultsAre : List Str := ["joined", "plan", "asked", "addresses", "due", "town", "address", "word", "handed", "told"]
theorem scFaultsAre : FnScope NFaultsAre ["joined", "plan", "asked", "addresses"] (defScope sFaultsAre) := ⟨rfl, rfl, rfl, by decide +kernel, rfl, by decide +kernel, by decide +kernel⟩
abbrev T3 := Str × Str × Str
def enc3 (u : T3) : PyData := .tuple [.str u.1, .str u.2.1, .str u.2.2]
def Sg3 (u : T3) : Prop := Sg u.1 ∧ Sg u.2.1 ∧ Sg u.2.2
theorem lay_3s : ∀ {ps : List T3}, (∀ p ∈ ps, Sg3 p) → PyData.canLayAll0 (ps.map enc3) = true ∧ PyData.depthAll (ps.map enc3) ≤ 2
  | [], _ => by simp [PyData.canLayAll0, PyData.depthAll]
  | p :: ps, h => by
    obtain ⟨h1, h2, h3⟩ := h p List.mem_cons_self
    obtain ⟨b1, b2⟩ := lay_3s (ps := ps) fun q hq => h q (List.mem_cons_of_mem _ hq)
    refine ⟨?_, ?_⟩
    · simp only [List.map_cons, PyData.canLayAll0, enc3, PyData.canLay0, strOk_sg h1, strOk_sg h2, strOk_sg h3, Bool.and_true, Bool.true_and]
      exact b1
    · simp only [List.map_cons, PyData.depthAll, enc3, PyData.depth]
      omega
theorem shaped_3s {ps : List T3} (h : ∀ p ∈ ps, Sg3 p) : SeqAt.shaped (.list (ps.map enc3)) = true := by
  obtain ⟨h1, h2⟩ := lay_3s h
  show (PyData.canLay0 (.list (ps.map enc3)) && decide (PyData.depth (.list (ps.map enc3)) ≤ 64)) = true
  rw [Bool.and_eq_true]
  refine ⟨by simp only [PyData.canLay0]; exact h1, decide_eq_true ?_⟩
  simp only [PyData.depth]
  omega
theorem dp_3s {K : PySem.W.Frag} {H : Hp} : ∀ {us : List (Addr × T3)}, (∀ u ∈ us, H u.1 = some (.tup [.str u.2.1, .str u.2.2.1, .str u.2.2.2])) → DpAll K H (us.map fun u => V.ref u.1) ((us.map (·.2)).map enc3)
  | [], _ => .nil
  | u :: us, h => .cons (.tup (.of (h u List.mem_cons_self)) (.cons (.str _) (.cons (.str _) (.cons (.str _) .nil)))) (dp_3s fun q hq => h q (List.mem_cons_of_mem _ hq))
theorem flt_sg {pl : Pl} {as ts : List Str} (ha : ∀ x ∈ as, isAddr x = true) (ht : ∀ x ∈ ts, isName x = true) : ∀ u ∈ fltL pl as ts, Sg3 u := fun u hu => by
  obtain ⟨t, tm, hu⟩ := List.mem_flatMap.mp hu
  obtain ⟨a, am, hu⟩ := List.mem_flatMap.mp hu
  split at hu
  · cases hu
  · rw [List.mem_singleton.mp hu]
    exact ⟨(name_tx (ht t tm)).sg, addr_sg (ha a am), sg_word (path_word _ _ _)⟩
def spFaultsAre (C CS : Addr) : Sp := fun vs H Q _ => ∃ (j d l t : Addr) (es : List En) (ms ts : List Str), vs = [.ref j, .ref d, .ref l, .ref t] ∧ SortOf C CS H j (plOf es) ∧ PlanAt H d es ∧ tot (plOf es) ≤ 399 ∧ es.length ≤ 100 ∧ Srt ms ∧ (∀ x, x ∈ ms ↔ isStem (plOf es) x) ∧ ms.length ≤ 399 ∧ H l = some (.lst (ts.map V.str)) ∧ (∀ x ∈ ts, isName x = true) ∧ ts.length ≤ 60 ∧ H t = some (.lst ((testsL ms).map V.str)) ∧ ∀ H', Same H H' → Q (.bl true) H'
section
variable {P : Program} {w : World} {K : PySem.W.Frag} {mg : Str → Option Value} {base : Heap}
theorem ok_faultsare {f gF g1 C CS : Addr} {fd gdF gd1 : FuncData} (F : Fun K "_law_faults_are" "_law_faults_are" sFaultsAre f fd) (B : Blt mg) (SC : SCls K CS) (SFm : Meth K CS "faults" gF) (bFs : Binds K gdF ["self", "sites"] []) (FFs : FnOk P w K mg base CX0 6 gF gdF ["self", "sites"] (spSFaults K C CS)) (cLPath : C1 P w K mg base "_law_path" sLPath ["plan", "town", "address"] 2 spLPath g1 gd1) : FnOk P w K mg base CX0 7 f fd ["joined", "plan", "asked", "addresses"] (spFaultsAre C CS) := by
  refine F.ok scFaultsAre (fun vs H Q E h => ?_) (fun cdv A outer s H vs Q E hr h => ?_)
  · obtain ⟨j, d, l, t, es, ms, ts, rfl, _⟩ := h
    rfl
  · obtain ⟨j, d, l, t0, es, ms, ts, rfl, hS, hP0, ht, hn, srt, mm, lms, hl, hts, lts, hA, q⟩ := h
    have hz : sizeLine = 16777216 := rfl
    obtain ⟨dx, dt, dm, hj⟩ := hS.ins
    have g := hS.g
    have tl := tests_len ms
    have ta := tests_addr (ms := ms) fun x hx => stem_addr g ((mm x).mp hx)
    have pl := plOf_len es
    have stx : ∀ x ∈ ts, Tx x := fun x hx => name_tx (hts x hx)
    have fsg := flt_sg (pl := plOf es) ta hts
    refine ⟨_, (pss_cons (ps_set (i := 4) scFaultsAre.nd rfl (.inl rfl) (pe_lst pa_nil))
      (pss_cons (ps_for PassesOwn.never rfl (pi_list (pv 2)) (pg_name (i := 5) scFaultsAre.nd rfl (.inl rfl))
        (pss_one (ps_for PassesOwn.never rfl (pi_list (pv 3)) (pg_name (i := 6) scFaultsAre.nd rfl (.inl rfl))
          (pss_cons (ps_set (i := 7) scFaultsAre.nd rfl (.inl rfl) (pe_ix ix_tup (pe_call cLPath.G (hr.mono (by first | decide | omega)) (by rfl) cLPath.D.g cLPath.D.F.kp cLPath.D.b .nil pass0 (pa_cons (pv 1) (pa_cons (pv 5) (pa_cons (pv 6) pa_nil)))) pe_int (fun _ _ => rfl)))
          (pss_one (ps_if (pt_cmpR op_ne (pv 7) pe_str (nomark _))
            (pss_one (ps_expr (pe_bm PySem.F.plainAttrs_list PySem.F.slot_list_append PySem.F.type_list_append mt_append (pv 4) (pa_cons (pe_tup (pa_cons (pv 5) (pa_cons (pv 6) (pa_cons (pv 7) pa_nil)))) pa_nil))))
            pss_nil))))))
      (pss_cons (ps_set (i := 8) scFaultsAre.nd rfl (.inl rfl) (pe_callTy call_list_of (by rfl) B.list PyProof.Rows.boot_list (pa_cons (pv 2) pa_nil)))
      (pss_cons (ps_set (i := 9) scFaultsAre.nd rfl (.inl rfl) (pe_meth (pv 0) SC.c SFm FFs (hr.mono (by first | decide | omega)) bFs .nil pass0 (pa_cons (pv 8) pa_nil)))
      (pss_cons (ps_if (PW.pt (pw_or (pt_not (pt_val (pe_callB call_isi (by rfl) B.isi (by decide +kernel) (pa_cons (pv 9) (pa_cons (pe_bltn (by rfl) B.list PyProof.Rows.boot_list (v := .ty "list") (u := .type "list") rfl) pa_nil))))) (pw_or (pt_cmpR (op_neD hr.units) (pv 9) (pv 4) (nomark _)) (pw_or1 (pt_cmpR (op_neD hr.units) (pv 8) (pv 2) (nomark _))))))
        (pss_one (ps_ret pe_bl))
        pss_nil)
      (pss_cons (ps_expr (pe_bm PySem.F.plainAttrs_list PySem.F.slot_list_append PySem.F.type_list_append mt_append (pv 9) (pa_cons (pe_tup (pa_cons pe_str (pa_cons pe_str (pa_cons pe_str pa_nil)))) pa_nil)))
      (pss_cons (ps_expr (pe_bm0 PySem.F.plainAttrs_list PySem.F.slot_list_reverse PySem.F.type_list_reverse mt_reverse (pv 9)))
      (pss_one (ps_ret (pe_cmpR (op_eqD hr.units) (pe_meth (pv 0) SC.c SFm FFs (hr.mono (by first | decide | omega)) bFs .nil pass0 (pa_cons (pe_callTy call_tuple_of (by rfl) B.tuple PyProof.Rows.boot_tuple (pa_cons (pv 2) pa_nil)) pa_nil)) (pv 4) (nomark _))))))))))), ?_⟩
    refine ⟨Nat.zero_le _, fun R nR => ?_⟩
    have S1 : Same H (L2.upd H R (.lst [])) := same_upd nR
    refine ⟨.ref l, rfl, l, rfl, ⟨_, sqOf (S1 _ _ hl)⟩, ?_⟩
    refine for_it (walk_list (a := l) (xs := ts.map V.str)) (fun i σ H' => ∃ y5 y6 y7, σ = [some (.ref j), some (.ref d), some (.ref l), some (.ref t0), some (.ref R), y5, y6, y7, none, none] ∧ Same H H' ∧ ∃ us, FltAt H' R us ∧ us.map (·.2) = fltL (plOf es) (testsL ms) (ts.take i) ∧ us.length ≤ i * 1000)
      ⟨none, none, none, rfl, S1, [], ⟨upd_same, fun u h => (by cases h)⟩, rfl, Nat.zero_le _⟩ (fun i σ H' _ hP => let ⟨_, _, _, _, S, _⟩ := hP; sqOf (S _ _ hl)) (fun i v σ H3 H4 hi hP hy => ?_) (fun σ H3 hP => ?_)
    · obtain ⟨y3, y4, y5, rfl, S3, us, fa, ue, ul⟩ := hP
      obtain ⟨rfl, ev⟩ := hy
      rw [List.getElem?_map] at ev
      cases et : ts[i]? with
      | none => rw [et] at ev; cases ev
      | some t =>
      rw [et] at ev
      cases (Option.some.inj ev)
      have i60 : i < 60 := by have := (List.getElem?_eq_some_iff.mp et).1; omega
      refine ⟨.ref t0, rfl, t0, rfl, ⟨_, sqOf (S3 _ _ hA)⟩, ?_⟩
      refine for_it (walk_list (a := t0) (xs := (testsL ms).map V.str)) (fun k σ H' => ∃ y6 y7, σ = [some (.ref j), some (.ref d), some (.ref l), some (.ref t0), some (.ref R), some (.str t), y6, y7, none, none] ∧ Same H H' ∧ ∃ us, FltAt H' R us ∧ us.map (·.2) = fltL (plOf es) (testsL ms) (ts.take i) ++ fltT (plOf es) ((testsL ms).take k) t ∧ us.length ≤ i * 1000 + k)
        ⟨_, _, rfl, S3, us, fa, by rw [ue]; exact (List.append_nil _).symm, ul⟩ (fun k σ H' _ hP => let ⟨_, _, _, S, _⟩ := hP; sqOf (S _ _ hA)) (fun k v σ H6 H7 hk hP hy => ?_) (fun σ H6 hP => ?_)
      · obtain ⟨y4, y5, rfl, S6, us, fa, ue, ul⟩ := hP
        obtain ⟨rfl, ev⟩ := hy
        rw [List.getElem?_map] at ev
        cases ea : (testsL ms)[k]? with
        | none => rw [ea] at ev; cases ev
        | some a =>
        rw [ea] at ev
        cases (Option.some.inj ev)
        have k2 : k < (testsL ms).length := (List.getElem?_eq_some_iff.mp ea).1
        have al := addr_len (ta a (List.mem_of_getElem? ea))
        have tk : (testsL ms).take (k + 1) = (testsL ms).take k ++ [a] := by rw [List.take_add_one, ea]; rfl
        have fstep : fltT (plOf es) ((testsL ms).take (k + 1)) t = fltT (plOf es) ((testsL ms).take k) t ++ (if (pth (plOf es) a t).2 = wHere then [] else [(t, a, (pth (plOf es) a t).2)]) := by
          rw [tk]
          unfold fltT
          rw [List.flatMap_append, List.flatMap_singleton]
        refine ⟨.ref d, rfl, .str t, rfl, .str a, rfl, d, t, a, es, rfl, hP0.same S6, by omega, by omega, fun T H8 S8 P1 => ?_⟩
        obtain ⟨U, hT, hU⟩ := P1
        refine ⟨T, _, 1, .str (pth (plOf es) a t).2, rfl, rfl, .of hT, atI_nat (j := 1) rfl, .str (pth (plOf es) a t).2, rfl, rfl, _, rfl, ite2 (fun c => ?_) (fun c => ?_)⟩
        · rw [Bool.not_eq_true', decide_eq_false_iff_not] at c
          have c0 : (pth (plOf es) a t).2 ≠ wHere := fun z => c (by rw [z]; rfl)
          have fa8 := fa.same S8
          refine ⟨.ref R, rfl, .inl ⟨rfl, _, sqOf fa8.l⟩, .str t, rfl, .str a, rfl, .str (pth (plOf es) a t).2, rfl, by show 3 ≤ sizeLine; omega, fun X nX => ⟨R, _, .ref X, rfl, rfl, by rw [upd_ne (ne_of_none fa8.l nX)]; exact fa8.l, by rw [List.length_map]; omega, _, _, rfl, fun c o hc => ?_, us ++ [(X, (t, a, (pth (plOf es) a t).2))], fa8.snoc nX, ?_, by rw [List.length_append]; show us.length + 1 ≤ _; omega⟩⟩
          · rw [upd_ne (ne_of_none hc nR), upd_ne (ne_of_none (S8 _ _ (S6 _ _ hc)) nX)]
            exact S8 _ _ (S6 _ _ hc)
          · rw [List.map_append, ue, fstep, if_neg c0, List.append_assoc]
            rfl
        · rw [Bool.not_eq_true', decide_eq_false_iff_not, Decidable.not_not] at c
          have c0 : (pth (plOf es) a t).2 = wHere := V.str.inj c
          refine ⟨_, _, rfl, S6.trans S8, us, fa.same S8, ?_, by omega⟩
          rw [fstep, if_pos c0, List.append_nil]
          exact ue
      · obtain ⟨y4, y5, rfl, S6, us, fa, ue, ul⟩ := hP
        rw [List.length_map] at ul ue
        rw [List.take_length] at ue
        refine ⟨_, _, _, rfl, S6, us, fa, ?_, by rw [Nat.succ_mul]; omega⟩
        rw [ue, List.take_add_one, et]
        unfold fltL
        rw [List.flatMap_append]
        show _ = _ ++ List.flatMap (fltT (plOf es) (testsL ms)) [t]
        rw [List.flatMap_singleton]
    obtain ⟨y5, y6, y7, rfl, S3, us, fa, ue, ul⟩ := hP
    rw [List.length_map] at ul ue
    rw [List.take_length] at ue
    have sgu : ∀ u ∈ us.map (·.2), Sg3 u := by rw [ue]; exact fsg
    refine ⟨.ref l, rfl, l, _, rfl, .inl (sqOf (S3 _ _ hl)), fun m nm => ?_⟩
    have S4 := S3.trans (same_upd nm (o := .lst (ts.map V.str)))
    have fa4 := fa.same (same_upd nm (o := .lst (ts.map V.str)))
    have hm4 : (L2.upd H3 m (.lst (ts.map V.str))) m = some (.lst (ts.map V.str)) := upd_same
    generalize L2.upd H3 m (.lst (ts.map V.str)) = H4 at S4 fa4 hm4
    refine ⟨.ref j, rfl, j, dx, _, rfl, S4 _ _ hj, rfl, .ref m, rfl, j, m, _, ts, rfl, hS.same S4, .inl (sqOf hm4), lts, by omega, by omega, fun p us5 ms5 H5 S5 np5 fa5 s5 m5 ue5 ul5 => ?_⟩
    obtain rfl := srt_uniq srt s5 fun x => (mm x).trans (m5 x).symm
    have S05 := S4.trans S5
    have eus : us5.map (·.2) = us.map (·.2) := ue5.trans ue.symm
    refine ⟨.ref p, rfl, .ref p, .ty "list", .type "list", .type "list", true, rfl, .ty _, .base (.lst fa5.l), kit_ty (by decide +kernel), true, rfl, ?_⟩
    refine ⟨.ref p, rfl, .ref R, rfl, _, _, .lst (sqOf fa5.l) (dp_3s fa5.t), .lst (sqOf (fa4.same S5).l) (dp_3s (fa4.same S5).t), by rw [eus]; exact shaped_3s sgu, shaped_3s sgu, _, rfl, ?_⟩
    rw [eus, eqv_self (shaped_3s sgu)]
    refine ⟨.ref m, rfl, .ref l, rfl, _, _, .lst (sqOf (S5 _ _ hm4)) (dp_strs _), .lst (sqOf (S05 _ _ hl)) (dp_strs _), shaped_strs stx, shaped_strs stx, _, rfl, ?_⟩
    rw [eqv_self (shaped_strs stx)]
    refine ⟨.ref p, rfl, .inl ⟨rfl, _, sqOf fa5.l⟩, by decide, fun X nX => ⟨p, _, _, rfl, rfl, by rw [upd_ne (ne_of_none fa5.l nX)]; exact fa5.l, by rw [List.length_map]; omega, ?_⟩⟩
    refine ⟨.ref p, rfl, .inl ⟨rfl, _, sqOf upd_same⟩, p, _, rfl, rfl, upd_same, ?_⟩
    have S6 : ∀ o o' o'', Same H4 (upd (upd (upd H5 X o) p o') p o'') := fun o o' o'' c u hc => by
      have n1 : c ≠ p := ne_of_none hc np5
      rw [upd_ne n1, upd_ne n1, upd_ne (ne_of_none (S5 _ _ hc) nX)]
      exact S5 _ _ hc
    generalize hH7 : upd (upd (upd H5 X _) p _) p _ = H7
    have S7 : Same H4 H7 := by rw [← hH7]; exact S6 _ _ _
    clear hH7 S6
    have S07 := S4.trans S7
    have fa7 := fa4.same S7
    refine ⟨.ref j, rfl, j, dx, _, rfl, S07 _ _ hj, rfl, .ref l, rfl, l, _, rfl, .inl ⟨sqOf (S07 _ _ hl), fun u nu => ?_⟩⟩
    have S8 := S07.trans (same_upd nu (o := .tup (ts.map V.str)))
    have fa8 := fa7.same (same_upd nu (o := .tup (ts.map V.str)))
    have hu8 : (L2.upd H7 u (.tup (ts.map V.str))) u = some (.tup (ts.map V.str)) := upd_same
    generalize L2.upd H7 u (.tup (ts.map V.str)) = H8 at S8 fa8 hu8
    refine ⟨j, u, _, ts, rfl, hS.same S8, .inr (.of hu8), lts, by omega, by omega, fun p9 us9 ms9 H9 S9 np9 fa9 s9 m9 ue9 ul9 => ?_⟩
    obtain rfl := srt_uniq srt s9 fun x => (mm x).trans (m9 x).symm
    have eus9 : us9.map (·.2) = us.map (·.2) := ue9.trans ue.symm
    refine ⟨.ref R, rfl, _, _, .lst (sqOf fa9.l) (dp_3s fa9.t), .lst (sqOf (fa8.same S9).l) (dp_3s (fa8.same S9).t), by rw [eus9]; exact shaped_3s sgu, shaped_3s sgu, ?_⟩
    rw [eus9, eqv_self (shaped_3s sgu)]
    exact q H9 (S8.trans S9)
end
end Tb
namespace Tb
open PySem PySem.Spec PyProof.Rows L2
open PySem.W (AllAlike Sortable dataLe TotalLe)
abbrev sOneAddr : Stmt := topS 45
abbrev NOneAddr : List Str := ["joined", "plan", "asked", "stems", "address", "clean", "due", "told", "like", "town", "trail"]
theorem scOneAddr : FnScope NOneAddr ["joined", "plan", "asked", "stems", "address", "clean"] (defScope sOneAddr) := ⟨rfl, rfl, rfl, by decide +kernel, rfl, by decide +kernel, by decide +kernel⟩
theorem rows_stem {pl : Pl} {t x : Str} (h : x ∈ (rowsOf pl t).map Prod.fst) : isStem pl x := by
  rcases rows_case pl t with ⟨e, he, _, er⟩ | ⟨_, er⟩
  · rw [er] at h
    exact ⟨e, he, h⟩
  · rw [er] at h
    cases h
theorem lp_mark {pl : Pl} {ms : List Str} (mm : ∀ x, x ∈ ms ↔ isStem pl x) (a t : Str) : ∀ n, n ≤ a.length → (∀ p, lp (kvM ms) a n = some p → laneN (kvP (rowsOf pl t)) a n = laneV (kvP (rowsOf pl t)) p ∧ p ∈ ms) ∧ (lp (kvM ms) a n = none → laneN (kvP (rowsOf pl t)) a n = .non) := by
  intro n
  induction n with
  | zero => exact fun _ => ⟨fun p h => (by cases h), fun _ => rfl⟩
  | succ n ih =>
    intro hn
    obtain ⟨i1, i2⟩ := ih (by omega)
    have e : lp (kvM ms) a (n + 1) = if (valV (kvM ms) (Sum.inr (pre a (n + 1)))).isSome = true then some (pre a (n + 1)) else lp (kvM ms) a n := rfl
    by_cases c : pre a (n + 1) ∈ ms
    · rw [e, if_pos (by rw [kvM_val]; exact decide_eq_true c)]
      refine ⟨fun p h => ?_, fun h => by cases h⟩
      cases h
      exact ⟨(laneV_pre hn).symm, c⟩
    · have no : laneN (kvP (rowsOf pl t)) a (n + 1) = laneN (kvP (rowsOf pl t)) a n := laneN_no (val_none fun m => c ((mm _).mpr (rows_stem m)))
      rw [e, if_neg (by rw [kvM_val]; exact fun z => c (of_decide_eq_true z)), no]
      exact ⟨i1, i2⟩
/-- the mark of an address, or the least address without a mark, behaves as it does -/
theorem like_of {pl : Pl} {ms : List Str} (mm : ∀ x, x ∈ ms ↔ isStem pl x) {a : Str} (ha : isAddr a = true) : ∃ y, y ∈ testsL ms ∧ (∀ t, laneAt pl a t = laneAt pl y t) ∧ (long (kvM ms) a = some y ∨ (long (kvM ms) a = none ∧ unmO ms = some y)) := by
  cases e : long (kvM ms) a with
  | some p =>
    refine ⟨p, List.mem_append_left _ ((lp_mark mm a a a.length (Nat.le_refl _)).1 p e).2, fun t => ?_, .inl rfl⟩
    exact ((lp_mark mm a t a.length (Nat.le_refl _)).1 p e).1
  | none =>
    have allN : ∀ n, n ≤ a.length → lp (kvM ms) a n = none → ∀ k, 1 ≤ k → k ≤ n → pre a k ∉ ms := fun n => by
      induction n with
      | zero => exact fun _ _ k h1 h2 => by omega
      | succ n ih =>
        intro hn h k h1 h2 m
        have e : lp (kvM ms) a (n + 1) = if (valV (kvM ms) (Sum.inr (pre a (n + 1)))).isSome = true then some (pre a (n + 1)) else lp (kvM ms) a n := rfl
        rw [e] at h
        by_cases c : pre a (n + 1) ∈ ms
        · rw [if_pos (by rw [kvM_val]; exact decide_eq_true c)] at h
          cases h
        · rw [if_neg (by rw [kvM_val]; exact fun z => c (of_decide_eq_true z))] at h
          by_cases z : k = n + 1
          · rw [z] at m
            exact c m
          · exact ih (by omega) h k h1 (by omega) m
    obtain ⟨l1, l8, ad⟩ := (isAddr_iff a).mp ha
    have la : 1 ≤ a.length := by rw [len_tl]; exact l1
    have n1 := allN a.length (Nat.le_refl _) e 1 (Nat.le_refl _) la
    obtain ⟨c, cs, hc⟩ : ∃ c cs, tl a = c :: cs := by
      cases h : tl a with
      | nil => rw [h] at l1; exact absurd l1 (by decide)
      | cons c cs => exact ⟨c, cs, rfl⟩
    have p1 : pre a 1 = ⟨#[c]⟩ := tl_inj (by rw [pre_tl, hc, tl_one]; rfl)
    rw [p1] at n1
    have cd : c ∈ digits.cps.toList := of_decide_eq_true (ad c (by rw [hc]; exact List.mem_cons_self))
    cases eu : unmO ms with
    | none =>
      unfold unmO at eu
      rw [Option.map_eq_none_iff, List.find?_eq_none] at eu
      exact absurd (decide_eq_true n1) (eu c cd)
    | some y =>
      refine ⟨y, List.mem_append_right _ (by rw [eu]; exact List.mem_cons_self), fun t => ?_, .inr ⟨rfl, rfl⟩⟩
      have ha0 : laneAt pl a t = .non := (lp_mark mm a t a.length (Nat.le_refl _)).2 e
      rw [ha0]
      unfold unmO at eu
      cases ef : digits.cps.toList.find? fun c => decide ((⟨#[c]⟩ : Str) ∉ ms) with
      | none => rw [ef] at eu; cases eu
      | some d =>
        rw [ef] at eu
        cases eu
        have nd : (⟨#[d]⟩ : Str) ∉ ms := by
          have := List.find?_some ef
          simpa using this
        have ly : lp (kvM ms) ⟨#[d]⟩ (⟨#[d]⟩ : Str).length = none := by
          show (if (valV (kvM ms) (Sum.inr (pre ⟨#[d]⟩ (0 + 1)))).isSome = true then some (pre ⟨#[d]⟩ (0 + 1)) else lp (kvM ms) ⟨#[d]⟩ 0) = none
          rw [show pre (⟨#[d]⟩ : Str) (0 + 1) = ⟨#[d]⟩ from pre_all ⟨#[d]⟩, if_neg (by rw [kvM_val]; exact fun z => nd (of_decide_eq_true z))]
          rfl
        exact ((lp_mark mm ⟨#[d]⟩ t _ (Nat.le_refl _)).2 ly).symm
def spOneAddr (C CS : Addr) : Sp := fun vs H Q _ => ∃ (j d l s : Addr) (a : Str) (b : Bool) (es : List En) (ms ts : List Str), vs = [.ref j, .ref d, .ref l, .ref s, .str a, .bl b] ∧ SortOf C CS H j (plOf es) ∧ PlanAt H d es ∧ es.length ≤ 100 ∧ Srt ms ∧ (∀ x, x ∈ ms ↔ isStem (plOf es) x) ∧ H l = some (.lst (ts.map V.str)) ∧ (∀ x ∈ ts, isName x = true) ∧ H s = some (.lst (ms.map V.str)) ∧ isAddr a = true ∧ (b = true → ∀ t ∈ ts, ∀ x ∈ testsL ms, (pth (plOf es) x t).2 = wHere) ∧ ∀ H', Same H H' → Q (.bl true) H'
section
variable {P : Program} {w : World} {K : PySem.W.Frag} {mg : Str → Option Value} {base : Heap}
theorem ok_oneaddr {f gK gP g1 g2 g3 C CS : Addr} {fd gdK gdP gd1 gd2 gd3 : FuncData} (F : Fun K "_law_one_address" "_law_one_address" sOneAddr f fd) (B : Blt mg) (SC : SCls K CS) (SKm : Meth K CS "mark" gK) (bKs : Binds K gdK ["self", "address"] []) (FKs : FnOk P w K mg base CX0 2 gK gdK ["self", "address"] (spSMark C CS)) (SPm : Meth K CS "path" gP) (bPa : Binds K gdP ["self", "site", "address"] []) (FPa : FnOk P w K mg base CX0 5 gP gdP ["self", "site", "address"] (spSPath C CS))
    (cLMark : C1 P w K mg base "_law_mark" sLMark ["stems", "address"] 1 spLMark g1 gd1) (cLUnm : C1 P w K mg base "_law_unmarked" sLUnm ["stems"] 1 spLUnm g2 gd2) (cLPath : C1 P w K mg base "_law_path" sLPath ["plan", "town", "address"] 2 spLPath g3 gd3) : FnOk P w K mg base CX0 6 f fd ["joined", "plan", "asked", "stems", "address", "clean"] (spOneAddr C CS) := by
  refine F.ok scOneAddr (fun vs H Q E h => ?_) (fun cdv A outer s H vs Q E hr h => ?_)
  · obtain ⟨j, d, l, s, a, b, es, ms, ts, rfl, _⟩ := h
    rfl
  · obtain ⟨j, d, l, s0, a, b, es, ms, ts, rfl, hS, hP0, hn, srt, mm, hl, hts, hs, ha, hcl, q⟩ := h
    have hz : sizeLine = 16777216 := rfl
    obtain ⟨dx, dt, dm, hj⟩ := hS.ins
    have g := hS.g
    have al := addr_len ha
    have pl := plOf_len es
    obtain ⟨y, ym, yl, yc⟩ := like_of mm ha
    have ya := tests_addr (ms := ms) (fun x hx => stem_addr g ((mm x).mp hx)) y ym
    have yl8 := addr_len ya
    have ysame : ∀ t, pth (plOf es) a t = pth (plOf es) y t := fun t => pth_congr yl rfl t
    refine ⟨_, (pss_cons (ps_set (i := 6) scOneAddr.nd rfl (.inl rfl) (pe_call cLMark.G (hr.mono (by first | decide | omega)) (by rfl) cLMark.D.g cLMark.D.F.kp cLMark.D.b .nil pass0 (pa_cons (pv 3) (pa_cons (pv 4) pa_nil))))
      (pss_cons (ps_set (i := 7) scOneAddr.nd rfl (.inl rfl) (pe_meth (pv 0) SC.c SKm FKs (hr.mono (by first | decide | omega)) bKs .nil pass0 (pa_cons (pv 4) pa_nil)))
      (pss_cons (ps_if (PW.pt (pw_and (pt_cmpR op_isN (pv 6) pe_non (nomark _)) (pw_and1 (pt_cmpR op_notN (pv 7) pe_non (nomark _)))))
        (pss_one (ps_ret pe_bl))
        pss_nil)
      (pss_cons (ps_if (PW.pt (pw_and (pt_cmpR op_notN (pv 6) pe_non (nomark _)) (pw_and1 (PW.pt (pw_or (pt_not (pt_val (pe_callB call_isi (by rfl) B.isi (by decide +kernel) (pa_cons (pv 7) (pa_cons (pe_bltn (by rfl) B.str PyProof.Rows.boot_str (v := .ty "str") (u := .type "str") rfl) pa_nil))))) (pw_or1 (pt_cmpR op_ne (pv 7) (pv 6) (nomark _))))))))
        (pss_one (ps_ret pe_bl))
        pss_nil)
      (pss_cons (ps_set (i := 8) scOneAddr.nd rfl (.inl rfl) (pv 6))
      (C8.pss_cut (ps_if (pt_cmpR op_isN (pv 6) pe_non (nomark _))
        (pss_one (ps_set (i := 8) scOneAddr.nd rfl (.inl rfl) (pe_call cLUnm.G (hr.mono (by first | decide | omega)) (by rfl) cLUnm.D.g cLUnm.D.F.kp cLUnm.D.b .nil pass0 (pa_cons (pv 3) pa_nil))))
        pss_nil)
      (pss_cons (ps_for PassesOwn.never rfl (pi_list (pv 2)) (pg_name (i := 9) scOneAddr.nd rfl (.inl rfl))
        (pss_cons (ps_set (i := 10) scOneAddr.nd rfl (.inl rfl) (pe_call cLPath.G (hr.mono (by first | decide | omega)) (by rfl) cLPath.D.g cLPath.D.F.kp cLPath.D.b .nil pass0 (pa_cons (pv 1) (pa_cons (pv 9) (pa_cons (pv 4) pa_nil)))))
        (pss_cons (ps_if (PW.pt (pw_or (pt_cmpR (op_neD hr.units) (pe_meth (pv 0) SC.c SPm FPa (hr.mono (by first | decide | omega)) bPa .nil pass0 (pa_cons (pv 9) (pa_cons (pv 4) pa_nil))) (pv 10) (nomark _)) (pw_or1 (pt_cmpR (op_neD hr.units) (pe_meth (pv 0) SC.c SPm FPa (hr.mono (by first | decide | omega)) bPa .nil pass0 (pa_cons (pv 9) (pa_cons (pv 8) pa_nil))) (pv 10) (nomark _)))))
          (pss_one (ps_ret pe_bl))
          pss_nil)
        (pss_one (ps_if (PW.pt (pw_and (pt_val (pv 5)) (pw_and1 (pt_cmpR op_ne (pe_ix ix_tup (pv 10) pe_int (fun _ _ => rfl)) pe_str (nomark _)))))
          (pss_one (ps_ret pe_bl))
          pss_nil)))))
      (pss_one (ps_ret pe_bl))))))))), ?_⟩
    refine ⟨.ref s0, rfl, .str a, rfl, s0, ms, a, rfl, hs, by omega, ?_⟩
    refine ⟨.ref j, rfl, j, dx, _, rfl, hj, rfl, .str a, rfl, j, a, _, rfl, hS, by omega, fun ms2 s2 m2 => ?_⟩
    obtain rfl := srt_uniq srt s2 fun x => (mm x).trans (m2 x).symm
    have rest : ∀ (v : V), v = oStr (long (kvM ms) a) → True := fun _ _ => trivial
    rcases yc with e | ⟨e, eu⟩
    · rw [e]
      refine ⟨.str y, rfl, rfl, false, rfl, ?_⟩
      refine ⟨.str y, rfl, rfl, true, rfl, .str y, rfl, .str y, .ty "str", .type "str", .type "str", true, rfl, .ty _, .base (.str _), kit_ty (by decide +kernel), true, rfl, ?_⟩
      refine ⟨.str y, rfl, .str y, rfl, rfl, false, by show V.bl (!decide (V.str y = V.str y)) = _; rw [decide_eq_true rfl]; rfl, ?_⟩
      refine ⟨.str y, rfl, ?_⟩
      refine ⟨fun σ' H' => σ' = [some (.ref j), some (.ref d), some (.ref l), some (.ref s0), some (.str a), some (.bl b), some (.str y), some (.str y), some (.str y), none, none] ∧ H' = H, ⟨.str y, rfl, rfl, false, rfl, rfl, rfl⟩, ?_⟩
      rintro σ1 H1 ⟨rfl, rfl⟩
      refine ⟨.ref l, rfl, l, rfl, ⟨_, sqOf hl⟩, ?_⟩
      refine for_it (walk_list (a := l) (xs := ts.map V.str)) (fun i σ H' => ∃ y9 y10, σ = [some (.ref j), some (.ref d), some (.ref l), some (.ref s0), some (.str a), some (.bl b), some (.str y), some (.str y), some (.str y), y9, y10] ∧ Same H1 H')
        ⟨none, none, rfl, fun _ _ h => h⟩ (fun i σ H' _ hP => let ⟨_, _, _, S⟩ := hP; sqOf (S _ _ hl)) (fun i v σ H3 H4 hi hP hy => ?_) (fun σ H3 hP => ?_)
      · obtain ⟨y9, y10, rfl, S3⟩ := hP
        obtain ⟨rfl, ev⟩ := hy
        rw [List.getElem?_map] at ev
        cases et : ts[i]? with
        | none => rw [et] at ev; cases ev
        | some t =>
        rw [et] at ev
        cases (Option.some.inj ev)
        have tm := List.mem_of_getElem? et
        have tn := hts t tm
        refine ⟨.ref d, rfl, .str t, rfl, .str a, rfl, d, t, a, es, rfl, hP0.same S3, by omega, by omega, fun T1 H5 S5 P1 => ?_⟩
        have S35 := S3.trans S5
        refine ⟨.ref j, rfl, j, dx, _, rfl, S35 _ _ hj, rfl, .str t, rfl, .str a, rfl, j, t, a, _, rfl, hS.same S35, by omega, by omega, fun T2 H6 S6 P2 => ?_⟩
        refine ⟨.ref T1, rfl, _, _, dp_P P2, dp_P (P1.same S6), shaped_pth g tn, shaped_pth g tn, _, rfl, ?_⟩
        rw [eqv_self (shaped_pth g tn)]
        have S36 := S35.trans S6
        refine ⟨.ref j, rfl, j, dx, _, rfl, S36 _ _ hj, rfl, .str t, rfl, .str y, rfl, j, t, y, _, rfl, hS.same S36, by omega, by omega, fun T3 H7 S7 P3 => ?_⟩
        refine ⟨.ref T1, rfl, _, _, dp_P P3, dp_P ((P1.same S6).same S7), shaped_pth g tn, shaped_pth g tn, _, rfl, ?_⟩
        rw [eqv_P, decide_eq_true (ysame t).symm]
        have P17 := (P1.same S6).same S7
        have S37 := S36.trans S7
        dsimp only [Bool.not_true]
        rw [if_neg (fun h => by cases h)]
        dsimp only [tNext]
        refine ifS_via (fun c H' => c = false ∧ H' = H7) (fun Q hQ => ?_) (fun c H8 hR => ?_)
        · cases b with
          | false => exact ⟨.bl false, rfl, false, rfl, hQ _ _ ⟨rfl, rfl⟩⟩
          | true =>
            obtain ⟨U, hT, hU⟩ := P17
            have hw : (pth (plOf es) a t).2 = wHere := by rw [ysame t]; exact hcl rfl t tm y ym
            refine ⟨.bl true, rfl, true, rfl, .ref T1, rfl, T1, _, 1, .str (pth (plOf es) a t).2, rfl, rfl, .of hT, atI_nat (j := 1) rfl, rfl, false, ?_, hQ _ _ ⟨rfl, rfl⟩⟩
            rw [hw]
            show V.bl (!decide (V.str wHere = V.str wHere)) = _
            rw [decide_eq_true rfl]
            rfl
        · obtain ⟨rfl, rfl⟩ := hR
          exact ⟨_, _, rfl, S37⟩
      · obtain ⟨y9, y10, rfl, S3⟩ := hP
        exact q H3 S3
    · rw [e]
      refine ⟨.non, rfl, rfl, true, rfl, .non, rfl, rfl, false, rfl, ?_⟩
      refine ⟨.non, rfl, rfl, false, rfl, ?_⟩
      refine ⟨.non, rfl, ?_⟩
      refine ⟨fun σ' H' => σ' = [some (.ref j), some (.ref d), some (.ref l), some (.ref s0), some (.str a), some (.bl b), some .non, some .non, some (.str y), none, none] ∧ H' = H, ⟨.non, rfl, rfl, true, rfl, .ref s0, rfl, s0, ms, rfl, hs, by rw [eu]; exact ⟨rfl, rfl⟩⟩, ?_⟩
      rintro σ1 H1 ⟨rfl, rfl⟩
      refine ⟨.ref l, rfl, l, rfl, ⟨_, sqOf hl⟩, ?_⟩
      refine for_it (walk_list (a := l) (xs := ts.map V.str)) (fun i σ H' => ∃ y9 y10, σ = [some (.ref j), some (.ref d), some (.ref l), some (.ref s0), some (.str a), some (.bl b), some .non, some .non, some (.str y), y9, y10] ∧ Same H1 H')
        ⟨none, none, rfl, fun _ _ h => h⟩ (fun i σ H' _ hP => let ⟨_, _, _, S⟩ := hP; sqOf (S _ _ hl)) (fun i v σ H3 H4 hi hP hy => ?_) (fun σ H3 hP => ?_)
      · obtain ⟨y9, y10, rfl, S3⟩ := hP
        obtain ⟨rfl, ev⟩ := hy
        rw [List.getElem?_map] at ev
        cases et : ts[i]? with
        | none => rw [et] at ev; cases ev
        | some t =>
        rw [et] at ev
        cases (Option.some.inj ev)
        have tm := List.mem_of_getElem? et
        have tn := hts t tm
        refine ⟨.ref d, rfl, .str t, rfl, .str a, rfl, d, t, a, es, rfl, hP0.same S3, by omega, by omega, fun T1 H5 S5 P1 => ?_⟩
        have S35 := S3.trans S5
        refine ⟨.ref j, rfl, j, dx, _, rfl, S35 _ _ hj, rfl, .str t, rfl, .str a, rfl, j, t, a, _, rfl, hS.same S35, by omega, by omega, fun T2 H6 S6 P2 => ?_⟩
        refine ⟨.ref T1, rfl, _, _, dp_P P2, dp_P (P1.same S6), shaped_pth g tn, shaped_pth g tn, _, rfl, ?_⟩
        rw [eqv_self (shaped_pth g tn)]
        have S36 := S35.trans S6
        refine ⟨.ref j, rfl, j, dx, _, rfl, S36 _ _ hj, rfl, .str t, rfl, .str y, rfl, j, t, y, _, rfl, hS.same S36, by omega, by omega, fun T3 H7 S7 P3 => ?_⟩
        refine ⟨.ref T1, rfl, _, _, dp_P P3, dp_P ((P1.same S6).same S7), shaped_pth g tn, shaped_pth g tn, _, rfl, ?_⟩
        rw [eqv_P, decide_eq_true (ysame t).symm]
        have P17 := (P1.same S6).same S7
        have S37 := S36.trans S7
        dsimp only [Bool.not_true]
        rw [if_neg (fun h => by cases h)]
        dsimp only [tNext]
        refine ifS_via (fun c H' => c = false ∧ H' = H7) (fun Q hQ => ?_) (fun c H8 hR => ?_)
        · cases b with
          | false => exact ⟨.bl false, rfl, false, rfl, hQ _ _ ⟨rfl, rfl⟩⟩
          | true =>
            obtain ⟨U, hT, hU⟩ := P17
            have hw : (pth (plOf es) a t).2 = wHere := by rw [ysame t]; exact hcl rfl t tm y ym
            refine ⟨.bl true, rfl, true, rfl, .ref T1, rfl, T1, _, 1, .str (pth (plOf es) a t).2, rfl, rfl, .of hT, atI_nat (j := 1) rfl, rfl, false, ?_, hQ _ _ ⟨rfl, rfl⟩⟩
            rw [hw]
            show V.bl (!decide (V.str wHere = V.str wHere)) = _
            rw [decide_eq_true rfl]
            rfl
        · obtain ⟨rfl, rfl⟩ := hR
          exact ⟨_, _, rfl, S37⟩
      · obtain ⟨y9, y10, rfl, S3⟩ := hP
        exact q H3 S3
end
end Tb
namespace Tb
open PySem PySem.Spec PyProof.Rows L2
open PySem.W (AllAlike Sortable dataLe TotalLe)
abbrev sLFits : Stmt := topS 48
abbrev NLFits : List Str := ["plan", "address", "ranks", "town", "way", "due"]
theorem scLFits : FnScope NLFits ["plan", "address", "ranks"] (defScope sLFits) := ⟨rfl, rfl, rfl, by decide +kernel, rfl, by decide +kernel, by decide +kernel⟩
def spLFits : Sp := fun vs H Q _ => ∃ (d r : Addr) (a : Str) (es : List En) (rs : Rk), vs = [.ref d, .str a, .ref r] ∧ (∀ H', But r H H' → PlanAt H' d es) ∧ a.length ≤ 1000 ∧ es.length + tot (plOf es) ≤ 900 ∧ H r = some (.dK (kvR rs)) ∧ rs.length ≤ 900 ∧ (∀ x ∈ rs, Tx x.1) ∧ (rs.map Prod.fst).Nodup ∧
  ∀ (xs : List Str) (H' : Hp), Same H H' → Srt xs → (∀ x, x ∈ xs ↔ isSta (plOf es) x) → Q (.bl (chk (plOf es) a rs xs)) H'
theorem rkAt_mem {rs : Rk} (n : (rs.map Prod.fst).Nodup) {r : Str × Option Int} (h : r ∈ rs) : rkAt rs r.1 = some r.2 := by
  induction rs with
  | nil => cases h
  | cons x rs ih =>
    rw [List.map_cons, List.nodup_cons] at n
    unfold rkAt at ih ⊢
    by_cases c : x.1 = r.1
    · rw [List.find?_cons_of_pos (by simpa using c)]
      rcases List.mem_cons.mp h with rfl | h
      · rfl
      · exact absurd (List.mem_map.mpr ⟨r, h, c.symm⟩) n.1
    · rw [List.find?_cons_of_neg (by simpa using c)]
      rcases List.mem_cons.mp h with rfl | h
      · exact absurd rfl c
      · exact ih n.2 h
section
variable {P : Program} {w : World} {K : PySem.W.Frag} {mg : Str → Option Value} {base : Heap}
theorem ok_lfits {f g1 g2 : Addr} {fd gd1 gd2 : FuncData} (F : Fun K "_law_fits" "_law_fits" sLFits f fd) (B : Blt mg) (cLSites : C1 P w K mg base "_law_sites" sLSites ["plan"] 1 spLSites g1 gd1) (cLLane : CLLane P w K mg base g2 gd2) : FnOk P w K mg base CX0 2 f fd ["plan", "address", "ranks"] spLFits := by
  refine F.ok scLFits (fun vs H Q E h => ?_) (fun cdv A outer s H vs Q E hr h => ?_)
  · obtain ⟨d, r, a, es, rs, rfl, _⟩ := h
    rfl
  · obtain ⟨d, r, a, es, rs, rfl, hPP, al, ht, hd, lrs, tx, nd, q⟩ := h
    have hP0 := hPP H (But.refl r H)
    have hu := hu_of hr
    have hz : sizeLine = 16777216 := rfl
    have g := hP0.g
    refine ⟨_, (pss_cons (ps_if (pt_cmpR (op_neD hr.units) (pe_callB (cr_sortedDk rfl hr.units) (by rfl) B.sorted PyProof.Rows.boot_sorted (pa_cons (pv 2) pa_nil)) (pe_call cLSites.G (hr.mono (by first | decide | omega)) (by rfl) cLSites.D.g cLSites.D.F.kp cLSites.D.b .nil pass0 (pa_cons (pv 0) pa_nil)) (nomark _))
        (pss_one (ps_ret pe_bl))
        pss_nil)
      (pss_cons (ps_lock (ps_for PassesOwn.never rfl (pi_keys (pv 2)) (pg_name (i := 3) scLFits.nd rfl (.inl rfl))
        (pss_cons (ps_set (i := 4) scLFits.nd rfl (.inl rfl) (pe_call cLLane.G (hr.mono (by first | decide | omega)) (by rfl) cLLane.D.g cLLane.D.F.kp cLLane.D.b .nil pass0 (pa_cons (pe_dget2 hu (pv 0) (pv 3) pe_dnewK ⟨rfl, by rfl, rfl, rfl⟩) (pa_cons (pv 1) pa_nil))))
        (pss_cons (ps_set (i := 5) scLFits.nd rfl (.inl rfl) pe_non)
        (C8.pss_cut (ps_if (pt_cmpR op_eq (pv 4) pe_str (nomark _))
          (pss_one (ps_set (i := 5) scLFits.nd rfl (.inl rfl) pe_int))
          (pss_one (ps_if (PW.pt (pw_and (pt_cmpR op_notN (pv 4) pe_non (nomark _)) (pw_and1 (pt_cmpR op_notN (pe_dget hu (pv 2) (pv 4) (fun _ _ => rfl)) pe_non (nomark _)))))
            (pss_one (ps_set (i := 5) scLFits.nd rfl (.inl rfl) (pe_op op_add (pe_dget hu (pv 2) (pv 4) (fun _ _ => rfl)) pe_int)))
            pss_nil)))
        (pss_one (ps_if (pt_cmpR op_ne (pv 5) (pe_dget hu (pv 2) (pv 3) (fun _ _ => rfl)) (nomark _))
          (pss_one (ps_ret pe_bl))
          pss_nil)))))))
      (pss_one (ps_ret pe_bl)))), ?_⟩
    refine ⟨.ref r, rfl, r, _, rs.map Prod.fst, rfl, .of hd, kvR_keys rs, by rw [List.length_map]; omega, fun p np => ?_⟩
    have S1 : Same H (L2.upd H p (.lst (((rs.map Prod.fst).mergeSort (PySem.W.dataLe false PyData.str)).map V.str))) := same_upd np
    have hp1 : (L2.upd H p (.lst (((rs.map Prod.fst).mergeSort (PySem.W.dataLe false PyData.str)).map V.str))) p = some (.lst (((rs.map Prod.fst).mergeSort le1).map V.str)) := upd_same
    generalize L2.upd H p (.lst (((rs.map Prod.fst).mergeSort (PySem.W.dataLe false PyData.str)).map V.str)) = H1 at S1 hp1
    refine ⟨.ref d, rfl, d, es, rfl, hP0.same S1, ht, fun p2 xs H2 S2 np2 hp2 sx mx lx => ?_⟩
    have tk : ∀ x ∈ (rs.map Prod.fst).mergeSort le1, Tx x := fun x hx => by
      obtain ⟨r, hr, rfl⟩ := List.mem_map.mp (List.mem_mergeSort.mp hx)
      exact tx r hr
    have txs : ∀ x ∈ xs, Tx x := fun x hx => sta_tx g ((mx x).mp hx)
    have q := fun H' S => q xs H' S sx mx
    refine ⟨_, _, .lst (sqOf (S2 _ _ hp1)) (dp_strs _), .lst (sqOf hp2) (dp_strs _), shaped_strs tk, shaped_strs txs, _, rfl, ?_⟩
    rw [show PyData.eqv (.list (((rs.map Prod.fst).mergeSort le1).map PyData.str)) (.list (xs.map PyData.str)) = decide ((rs.map Prod.fst).mergeSort le1 = xs) by rw [PyData.eqv, eqvAll_strs]]
    have S02 := S1.trans S2
    refine ite2 (fun c => ?_) (fun c => ?_)
    · rw [Bool.not_eq_true', decide_eq_false_iff_not] at c
      have := q H2 S02
      unfold chk at this
      rw [decide_eq_false c] at this
      exact this
    · rw [Bool.not_eq_true', decide_eq_false_iff_not, Decidable.not_not] at c
      have keys : ∀ x, isSta (plOf es) x → x ∈ rs.map Prod.fst := fun x hx => by
        have := (mx x).mpr hx
        rw [← c] at this
        exact List.mem_mergeSort.mp this
      refine ⟨r, .dK (kvR rs), S02 _ _ hd, trivial, fun od => ?_⟩
      refine ⟨.ref r, rfl, r, od, rfl, .inl ⟨kvR rs, upd_same, ?_⟩⟩
      have b0 : But r H (L2.upd H2 r (.frz od (.dK (kvR rs)))) := (Same.but S02).trans But.upd
      refine for_it (walk_keys (d := r) (o := od) (kvs := kvR rs)) (fun i σ H' => (∃ y3 y4 y5, σ = [some (.ref d), some (.str a), some (.ref r), y3, y4, y5]) ∧ But r H H' ∧ H' r = some (.frz od (.dK (kvR rs))) ∧ ∀ x ∈ rs.take i, x.2 = rankBy (laneAt (plOf es) a x.1) rs)
        ⟨⟨none, none, none, rfl⟩, b0, upd_same, fun x h => (by cases h)⟩ (fun i σ H' _ hP => hP.2.2.1) (fun i v σ H5 H6 hi hP hy => ?_) (fun σ H5 hP => ?_)
      · obtain ⟨⟨y3, y4, y5, rfl⟩, b5, d5, ok⟩ := hP
        obtain ⟨rfl, k, v, ek, rfl⟩ := hy
        rw [kvR_at] at ek
        cases er : rs[i]? with
        | none => rw [er] at ek; cases ek
        | some x =>
        rw [er] at ek
        cases (Option.some.inj ek)
        have mr := List.mem_of_getElem? er
        have P6 := hPP H6 b5
        have dgR : ∀ (H7 : Hp) (y : Str) (o : Option Int), H7 r = some (.frz od (.dK (kvR rs))) → rkAt rs y = some o → DGet H7 r (.str y) (some (oInt o)) := fun H7 y o h7 e => by
          have := kvR_val rs y
          rw [e] at this
          rw [show some (oInt o) = valV (kvR rs) (Sum.inr y) from this.symm]
          exact .inl ⟨_, Sum.inr y, .inr ⟨od, h7⟩, rfl, rfl⟩
        refine ⟨.ref d, rfl, d, rfl, .inl ⟨_, .of P6.d⟩, .str x.1, rfl, fun D nD => ?_⟩
        have S7 : Same H6 (L2.upd H6 D (.dK [])) := same_upd nD
        have hD7 : (L2.upd H6 D (.dK [])) D = some (.dK (kvP [])) := upd_same
        generalize L2.upd H6 D (.dK []) = H7 at S7 hD7
        have b7 := b5.trans (Same.but S7)
        have d7 := S7 _ _ d5
        have P7 := P6.same S7
        have pick : ∃ (b : Addr) (o' : Option V), DGet H7 d (.str x.1) o' ∧ o'.getD (.ref D) = .ref b ∧ H7 b = some (.dK (kvP (rowsOf (plOf es) x.1))) := by
          rcases es_case es x.1 with ⟨e, he, ee⟩ | hn
          · refine ⟨e.1, some (.ref e.1), ?_, rfl, ?_⟩
            · rw [← ee, ← kvE_val g.n he]
              exact DGet.k (k := Sum.inr e.2.1) P7.d
            · rw [← ee, rows_of_mem g.n he]
              exact P7.t e he
          · refine ⟨D, none, ?_, rfl, ?_⟩
            · rw [← kvE_none hn]
              exact DGet.k (k := Sum.inr x.1) P7.d
            · rw [rows_not hn]
              exact hD7
        obtain ⟨b, o', dg, eo, hb⟩ := pick
        refine ⟨o', dg, .str a, rfl, ?_⟩
        rw [eo]
        refine ⟨b, _, a, rfl, hb, al, ?_⟩
        show gName 4 (laneAt (plOf es) a x.1) _ _ _
        refine ⟨fun σ' H' => σ' = [some (.ref d), some (.str a), some (.ref r), some (.str x.1), some (laneAt (plOf es) a x.1), some (oInt (rankBy (laneAt (plOf es) a x.1) rs))] ∧ H' = H7, ?_, ?_⟩
        · rcases lane_str (plOf es) a x.1 with e | ⟨wd, e⟩
          · rw [e]
            exact ⟨.non, rfl, rfl, false, rfl, .non, rfl, rfl, false, rfl, rfl, rfl⟩
          · rw [e]
            refine ⟨.str wd, rfl, rfl, _, rfl, ite2 (fun c => ?_) (fun c => ?_)⟩
            · have c0 : wd = wE := V.str.inj (of_decide_eq_true c)
              rw [show rankBy (.str wd) rs = some 0 from if_pos c0]
              exact ⟨rfl, rfl⟩
            · have c0 : wd ≠ wE := fun z => c (decide_eq_true (by rw [z]; rfl))
              rw [show rankBy (.str wd) rs = (match rkAt rs wd with | some (some n) => some (n + 1) | _ => none) from if_neg c0]
              have hs := rkAt_some (keys wd (lane_sta e c0))
              cases eo : rkAt rs wd with
              | none => rw [eo] at hs; cases hs
              | some o =>
                have dr := dgR H7 wd o d7 eo
                cases o with
                | none => exact ⟨.str wd, rfl, rfl, true, rfl, .ref r, rfl, .str wd, rfl, r, .non, rfl, dr, rfl, false, rfl, rfl, rfl⟩
                | some n => exact ⟨.str wd, rfl, rfl, true, rfl, .ref r, rfl, .str wd, rfl, r, .int n, rfl, dr, rfl, true, rfl, .ref r, rfl, .str wd, rfl, r, .int n, rfl, dr, n, 1, rfl, rfl, rfl, rfl⟩
        rintro σ1 H8 ⟨rfl, rfl⟩
        refine ⟨oInt (rankBy (laneAt (plOf es) a x.1) rs), rfl, .ref r, rfl, .str x.1, rfl, r, oInt x.2, rfl, dgR H8 x.1 x.2 d7 (rkAt_mem nd mr), oInt_scal _ _, _, rfl, ite2 (fun c => ?_) (fun c => ?_)⟩
        · rw [Bool.not_eq_true', decide_eq_false_iff_not] at c
          refine ⟨d7, ?_⟩
          have := q _ (unlock_same hd b7)
          unfold chk at this
          rw [show (rs.all fun r => decide (r.2 = rankBy (laneAt (plOf es) a r.1) rs)) = false from List.all_eq_false.mpr ⟨x, mr, by rw [decide_eq_false fun z => c (by rw [← z])]; exact fun z => by cases z⟩, Bool.and_false] at this
          exact this
        · rw [Bool.not_eq_true', decide_eq_false_iff_not, Decidable.not_not] at c
          refine ⟨⟨_, _, _, rfl⟩, b7, d7, fun y hy => ?_⟩
          rw [List.take_add_one, er] at hy
          rcases List.mem_append.mp hy with h | h
          · exact ok y h
          · rw [show y = x from List.mem_singleton.mp h]
            exact (oInt_inj c).symm
      · obtain ⟨⟨y3, y4, y5, rfl⟩, b5, d5, ok⟩ := hP
        refine ⟨d5, ?_⟩
        have := q _ (unlock_same hd b5)
        unfold chk at this
        rw [decide_eq_true c, show (rs.all fun r => decide (r.2 = rankBy (laneAt (plOf es) a r.1) rs)) = true from List.all_eq_true.mpr fun r hr => decide_eq_true (ok r (by rw [kvR_len, List.take_length]; exact hr))] at this
        exact this
end
end Tb
namespace Tb
open PySem PySem.Spec PyProof.Rows L2
open PySem.W (AllAlike Sortable dataLe TotalLe)
abbrev sJudged : Stmt := topS 49
abbrev NJudged : List Str := ["joined", "plan", "address", "ranks", "handed", "told"]
theorem scJudged : FnScope NJudged ["joined", "plan", "address", "ranks"] (defScope sJudged) := ⟨rfl, rfl, rfl, by decide +kernel, rfl, by decide +kernel, by decide +kernel⟩
def spJudged (C CS : Addr) : Sp := fun vs H Q _ => ∃ (j d r : Addr) (a : Str) (es : List En) (rs : Rk), vs = [.ref j, .ref d, .str a, .ref r] ∧ SortOf C CS H j (plOf es) ∧ (∀ H', But r H H' → PlanAt H' d es) ∧ a.length ≤ 1000 ∧ es.length + tot (plOf es) ≤ 900 ∧ H r = some (.dK (kvR rs)) ∧ rs.length ≤ 900 ∧ (∀ x ∈ rs, Tx x.1) ∧ (rs.map Prod.fst).Nodup ∧ ∀ H', Same H H' → Q (.bl true) H'
section
variable {P : Program} {w : World} {K : PySem.W.Frag} {mg : Str → Option Value} {base : Heap}
theorem ok_judged {f g1 g2 C CS : Addr} {fd gd1 gd2 : FuncData} (F : Fun K "_law_judged" "_law_judged" sJudged f fd) (B : Blt mg) (cCheckR : C1 P w K mg base "check_ranks" sCheckR ["sorting", "address", "ranks"] 5 (spCheckR C CS) g1 gd1) (cLFits : C1 P w K mg base "_law_fits" sLFits ["plan", "address", "ranks"] 2 spLFits g2 gd2) : FnOk P w K mg base CX0 6 f fd ["joined", "plan", "address", "ranks"] (spJudged C CS) := by
  refine F.ok scJudged (fun vs H Q E h => ?_) (fun cdv A outer s H vs Q E hr h => ?_)
  · obtain ⟨j, d, r, a, es, rs, rfl, _⟩ := h
    rfl
  · obtain ⟨j, d, r, a, es, rs, rfl, hS, hPP, al, ht, hd, lrs, tx, nd, q⟩ := h
    have hz : sizeLine = 16777216 := rfl
    have pl := plOf_len es
    refine ⟨_, (pss_cons (ps_set (i := 4) scJudged.nd rfl (.inl rfl) (pe_callTy call_dictD (by rfl) B.dict PyProof.Rows.boot_dict (pa_cons (pv 3) pa_nil)))
      (pss_cons (ps_set (i := 5) scJudged.nd rfl (.inl rfl) (pe_cmpR op_isBl (pe_call cCheckR.G (hr.mono (by first | decide | omega)) (by rfl) cCheckR.D.g cCheckR.D.F.kp cCheckR.D.b .nil pass0 (pa_cons (pv 0) (pa_cons (pv 2) (pa_cons (pv 4) pa_nil)))) pe_bl (nomark _)))
      (pss_one (ps_ret (pe_and (pe_cmpR (op_eq_dictA hr.units0) (pv 4) (pv 3) (nomark _)) (pe_one (pe_cmpR op_eq (pv 5) (pe_call cLFits.G (hr.mono (by first | decide | omega)) (by rfl) cLFits.D.g cLFits.D.F.kp cLFits.D.b .nil pass0 (pa_cons (pv 1) (pa_cons (pv 2) (pa_cons (pv 3) pa_nil)))) (nomark _)))))))), ?_⟩
    refine ⟨.ref r, rfl, r, _, rfl, .of hd, fun h nh => ?_⟩
    have S1 : Same H (L2.upd H h (.dK (kvR rs))) := same_upd nh
    have hh1 : (L2.upd H h (.dK (kvR rs))) h = some (.dK (kvR rs)) := upd_same
    generalize L2.upd H h (.dK (kvR rs)) = H1 at S1 hh1
    refine ⟨.ref j, rfl, .str a, rfl, .ref h, rfl, j, h, a, _, rs, rfl, fun H' b => hS.same fun c o hc => b _ _ (S1 _ _ hc) (ne_of_none hc nh), al, by omega, hh1, lrs, tx, fun xs H2 S2 sx mx => ?_⟩
    refine ⟨_, _, rfl, rfl, ?_⟩
    have S02 := S1.trans S2
    refine ⟨.ref h, rfl, .ref r, rfl, h, r, _, _, rfl, rfl, S2 _ _ hh1, S02 _ _ hd, rfl, fun p hp => ?_, true, rfl, ?_⟩
    · obtain ⟨x, hx, rfl⟩ := List.mem_map.mp hp
      refine ⟨?_, ?_⟩
      · show valV (kvR rs) (Sum.inr x.1) = some (oInt x.2)
        rw [kvR_val, rkAt_mem nd hx]
        rfl
      · show flatB (oInt x.2) = true
        cases x.2 <;> rfl
    · refine ⟨_, rfl, .ref d, rfl, .str a, rfl, .ref r, rfl, d, r, a, es, rs, rfl, fun H' b => hPP H' ((Same.but S02).trans b), al, ht, S02 _ _ hd, lrs, tx, nd, fun xs2 H3 S3 sx2 mx2 => ?_⟩
      obtain rfl := srt_uniq sx sx2 fun x => (mx x).trans (mx2 x).symm
      refine ⟨rfl, ?_⟩
      have e : decide (V.bl (decide (chk (plOf es) a rs xs = true)) = V.bl (chk (plOf es) a rs xs)) = true := by
        cases chk (plOf es) a rs xs <;> rfl
      rw [e]
      exact q H3 (S02.trans S3)
end
end Tb
namespace Tb
open PySem PySem.Spec PyProof.Rows L2
open PySem.W (AllAlike Sortable dataLe TotalLe)
abbrev sStart : Stmt := topS 54
abbrev NStart : List Str := ["bag", "shape", "many", "towns", "plan", "change"]
theorem scStart : FnScope NStart ["bag", "shape"] (defScope sStart) := ⟨rfl, rfl, rfl, by decide +kernel, rfl, by decide +kernel, by decide +kernel⟩
def spStart : Sp := fun vs H Q _ => ∃ (p : Addr) (shape : Int), vs = [.ref p, .int shape] ∧ Bag H p ∧ 0 ≤ shape ∧ shape < 8 ∧
  ∀ (T l d : Addr) (ts : List Str) (es : List En) (H' : Hp), H' T = some (.tup [.ref l, .ref d]) → Bag H' p → But p H H' → Tw H' l ts → PlanAt H' d es → 2 ≤ ts.length → ts.length ≤ 22 → tot (plOf es) ≤ 100 → es.length ≤ 20 → Q (.ref T) H'
section
variable {P : Program} {w : World} {K : PySem.W.Frag} {mg : Str → Option Value} {base : Heap}
theorem ok_start {f g1 g2 g3 g4 g5 g6 : Addr} {fd gd1 gd2 gd3 gd4 gd5 gd6 : FuncData} (F : Fun K "_law_start" "_law_start" sStart f fd) (B : Blt mg) (cDraw : CDraw P w K mg base g1 gd1) (cTowns : C1 P w K mg base "_law_towns" sTowns ["bag", "many"] 3 spTowns g2 gd2) (cPlan : C1 P w K mg base "_law_plan" sPlan ["bag", "towns", "many", "most"] 3 spPlan g3 gd3) (cFullPlan : C1 P w K mg base "_law_full_plan" sFullPlan ["bag", "towns", "many"] 3 spFullPlan g4 gd4) (cOneCh : C1 P w K mg base "_law_one_change" sOneCh ["bag", "plan", "towns"] 3 spOneCh g5 gd5) (cPlanAft : C1 P w K mg base "_law_plan_after" sPlanAft ["plan", "town", "prefix", "way"] 2 spPlanAft g6 gd6) : FnOk P w K mg base CX0 4 f fd ["bag", "shape"] spStart := by
  refine F.ok scStart (fun vs H Q E h => ?_) (fun cdv A outer s H vs Q E hr h => ?_)
  · obtain ⟨p, sh, rfl, _⟩ := h
    rfl
  · obtain ⟨p, sh, rfl, hB, s0, s8, q⟩ := h
    have hz : sizeLine = 16777216 := rfl
    refine ⟨_, (pss_cons (ps_set (i := 2) scStart.nd rfl (.inl rfl) (pe_call cDraw.G (hr.mono (by first | decide | omega)) (by rfl) cDraw.D.g cDraw.D.F.kp cDraw.D.b .nil pass0 (pa_cons (pv 0) (pa_cons pe_int pa_nil))))
      (C8.pss_cut (ps_if (pt_cmpR op_eq (pv 1) pe_int (nomark _))
        (pss_one (ps_set (i := 2) scStart.nd rfl (.inl rfl) (pe_op op_add pe_int (pe_call cDraw.G (hr.mono (by first | decide | omega)) (by rfl) cDraw.D.g cDraw.D.F.kp cDraw.D.b .nil pass0 (pa_cons (pv 0) (pa_cons pe_int pa_nil))))))
        pss_nil)
      (C8.pss_cut (ps_if (pt_cmpR op_eq (pv 1) pe_int (nomark _))
        (pss_one (ps_set (i := 2) scStart.nd rfl (.inl rfl) (pe_op op_add pe_int (pe_call cDraw.G (hr.mono (by first | decide | omega)) (by rfl) cDraw.D.g cDraw.D.F.kp cDraw.D.b .nil pass0 (pa_cons (pv 0) (pa_cons pe_int pa_nil))))))
        pss_nil)
      (C8.pss_cut (ps_if (pt_cmpR op_gt (pv 1) pe_int (nomark _))
        (pss_one (ps_set (i := 2) scStart.nd rfl (.inl rfl) (pe_op op_add pe_int (pe_call cDraw.G (hr.mono (by first | decide | omega)) (by rfl) cDraw.D.g cDraw.D.F.kp cDraw.D.b .nil pass0 (pa_cons (pv 0) (pa_cons pe_int pa_nil))))))
        pss_nil)
      (pss_cons (ps_set (i := 3) scStart.nd rfl (.inl rfl) (pe_call cTowns.G (hr.mono (by first | decide | omega)) (by rfl) cTowns.D.g cTowns.D.F.kp cTowns.D.b .nil pass0 (pa_cons (pv 0) (pa_cons (pv 2) pa_nil))))
      (pss_cons (ps_if (pt_cmpR op_lt (pv 1) pe_int (nomark _))
        (pss_one (ps_ret (pe_tup (pa_cons (pv 3) (pa_cons (pe_call cPlan.G (hr.mono (by first | decide | omega)) (by rfl) cPlan.D.g cPlan.D.F.kp cPlan.D.b .nil pass0 (pa_cons (pv 0) (pa_cons (pv 3) (pa_cons (pv 2) (pa_cons (pe_ix ix_list (pe_lst (pa_cons pe_int (pa_cons pe_int (pa_cons pe_int (pa_cons pe_int (pa_cons pe_int pa_nil)))))) (pv 1) (fun _ _ => rfl)) pa_nil))))) pa_nil)))))
        pss_nil)
      (pss_cons (ps_set (i := 4) scStart.nd rfl (.inl rfl) (pe_call cFullPlan.G (hr.mono (by first | decide | omega)) (by rfl) cFullPlan.D.g cFullPlan.D.F.kp cFullPlan.D.b .nil pass0 (pa_cons (pv 0) (pa_cons (pv 3) (pa_cons (pv 2) pa_nil)))))
      (C8.pss_cut (ps_if (pt_cmpR op_eq (pe_call cDraw.G (hr.mono (by first | decide | omega)) (by rfl) cDraw.D.g cDraw.D.F.kp cDraw.D.b .nil pass0 (pa_cons (pv 0) (pa_cons pe_int pa_nil))) pe_int (nomark _))
        (pss_cons (ps_set (i := 5) scStart.nd rfl (.inl rfl) (pe_call cOneCh.G (hr.mono (by first | decide | omega)) (by rfl) cOneCh.D.g cOneCh.D.F.kp cOneCh.D.b .nil pass0 (pa_cons (pv 0) (pa_cons (pv 4) (pa_cons (pv 3) pa_nil)))))
        (pss_one (ps_set (i := 4) scStart.nd rfl (.inl rfl) (pe_call cPlanAft.G (hr.mono (by first | decide | omega)) (by rfl) cPlanAft.D.g cPlanAft.D.F.kp cPlanAft.D.b .nil pass0 (pa_cons (pv 4) (pa_cons (pe_ix ix_tup (pv 5) pe_int (fun _ _ => rfl)) (pa_cons (pe_ix ix_tup (pv 5) pe_int (fun _ _ => rfl)) (pa_cons (pe_ix ix_tup (pv 5) pe_int (fun _ _ => rfl)) pa_nil))))))))
        pss_nil)
      (pss_one (ps_ret (pe_tup (pa_cons (pv 3) (pa_cons (pv 4) pa_nil))))))))))))), ?_⟩
    let M : (Int → Prop) → L2.St → Hp → Prop := fun g σ' H' => ∃ m : Int, σ' = [some (.ref p), some (.int sh), some (.int m), none, none, none] ∧ 0 ≤ m ∧ g m ∧ Bag H' p ∧ But p H H'
    refine ⟨.ref p, rfl, p, 5, rfl, hB, by decide, by decide, fun m H1 m0 m1 B1 b1 => ?_⟩
    refine ⟨M fun m => m ≤ 20 ∧ (sh ≠ 1 → m ≤ 4), ?_, ?_⟩
    · refine ⟨.int sh, rfl, rfl, _, rfl, ite2 (fun c => ?_) (fun c => ?_)⟩
      · exact ⟨.ref p, rfl, p, 13, rfl, B1, by decide, by decide, fun j H6 j0 j1 B6 b6 => ⟨8, j, rfl, rfl, 8 + j, rfl, by omega, ⟨by omega, fun e => absurd (V.int.inj (of_decide_eq_true c)) e⟩, B6, b1.trans b6⟩⟩
      · exact ⟨m, rfl, m0, ⟨by omega, fun _ => by omega⟩, B1, b1⟩
    clear b1 B1 m0 m1 m
    rintro σ1 H1 ⟨m, rfl, m0, ⟨m1, m2⟩, B1, b1⟩
    refine ⟨M fun m => m ≤ 20 ∧ (sh ≠ 1 → m ≤ 4) ∧ (sh = 2 → m ≤ 3), ?_, ?_⟩
    · refine ⟨.int sh, rfl, rfl, _, rfl, ite2 (fun c => ?_) (fun c => ?_)⟩
      · exact ⟨.ref p, rfl, p, 3, rfl, B1, by decide, by decide, fun j H6 j0 j1 B6 b6 => ⟨1, j, rfl, rfl, 1 + j, rfl, by omega, ⟨by omega, fun _ => by omega, fun _ => by omega⟩, B6, b1.trans b6⟩⟩
      · exact ⟨m, rfl, m0, ⟨m1, m2, fun e => absurd (decide_eq_true (by rw [e])) c⟩, B1, b1⟩
    clear b1 B1 m0 m1 m2 m
    rintro σ1 H1 ⟨m, rfl, m0, ⟨m1, m2, m3⟩, B1, b1⟩
    refine ⟨M fun m => m ≤ 20 ∧ (sh ≠ 1 → m ≤ 4) ∧ (sh = 2 → m ≤ 3), ?_, ?_⟩
    · refine ⟨.int sh, rfl, sh, 4, rfl, rfl, _, rfl, ite2 (fun c => ?_) (fun c => ?_)⟩
      · have c := of_decide_eq_true c
        exact ⟨.ref p, rfl, p, 4, rfl, B1, by decide, by decide, fun j H6 j0 j1 B6 b6 => ⟨1, j, rfl, rfl, 1 + j, rfl, by omega, ⟨by omega, fun _ => by omega, fun e => by omega⟩, B6, b1.trans b6⟩⟩
      · exact ⟨m, rfl, m0, ⟨m1, m2, m3⟩, B1, b1⟩
    clear b1 B1 m0 m1 m2 m3 m
    rintro σ1 H1 ⟨m, rfl, m0, ⟨m1, m2, m3⟩, B1, b1⟩
    refine ⟨.ref p, rfl, .int m, rfl, p, m, rfl, B1, m0, by omega, fun l ts H2 B2 b2 T2 lts => ?_⟩
    have b2 := b1.trans b2
    refine ⟨.int sh, rfl, sh, 5, rfl, rfl, _, rfl, ite2 (fun c => ?_) (fun c => ?_)⟩
    · have c := of_decide_eq_true c
      obtain ⟨most, hat, o0, o1, o2⟩ : ∃ most : Int, atI [V.int 5, V.int 2, V.int 30, V.int 5, V.int 5] sh = some (V.int most) ∧ 0 ≤ most ∧ most ≤ 30 ∧ m.toNat * (most.toNat + 1) ≤ 100 := by
        have cases5 : sh = 0 ∨ sh = 1 ∨ sh = 2 ∨ sh = 3 ∨ sh = 4 := by omega
        rcases cases5 with rfl | rfl | rfl | rfl | rfl
        · exact ⟨5, atI_nat (j := 0) rfl, by decide, by decide, Nat.le_trans (Nat.mul_le_mul_right _ (show m.toNat ≤ 4 by have := m2 (by decide); omega)) (by decide)⟩
        · exact ⟨2, atI_nat (j := 1) rfl, by decide, by decide, Nat.le_trans (Nat.mul_le_mul_right _ (show m.toNat ≤ 20 by omega)) (by decide)⟩
        · exact ⟨30, atI_nat (j := 2) rfl, by decide, by decide, Nat.le_trans (Nat.mul_le_mul_right _ (show m.toNat ≤ 3 by have := m3 rfl; omega)) (by decide)⟩
        · exact ⟨5, atI_nat (j := 3) rfl, by decide, by decide, Nat.le_trans (Nat.mul_le_mul_right _ (show m.toNat ≤ 4 by have := m2 (by decide); omega)) (by decide)⟩
        · exact ⟨5, atI_nat (j := 4) rfl, by decide, by decide, Nat.le_trans (Nat.mul_le_mul_right _ (show m.toNat ≤ 4 by have := m2 (by decide); omega)) (by decide)⟩
      refine ⟨.ref l, rfl, .ref p, rfl, .ref l, rfl, .int m, rfl, by show 5 ≤ sizeLine; omega, fun L nL => ?_⟩
      have S3 := same_upd (o := HO.lst [V.int 5, V.int 2, V.int 30, V.int 5, V.int 5]) nL
      refine ⟨.int sh, rfl, L, _, sh, .int most, rfl, rfl, sqOf upd_same, hat, p, l, m, most, ts, rfl, B2.same S3, T2.same S3, m0, by omega, o0, o1, o2, fun d es H4 B4 b4 P4 l4 t4 => ?_⟩
      have T4 := (T2.same S3).but (B2.same S3) b4
      exact ⟨by show 2 ≤ sizeLine; omega, fun T nT => q T l d ts es _ upd_same (B4.same (same_upd nT)) (((b2.trans (Same.but S3)).trans b4).trans (Same.but (same_upd nT))) (T4.same (same_upd nT)) (P4.same (same_upd nT)) (by omega) (by omega) t4 (by omega)⟩
    · have c : ¬ (sh < 5) := fun h => c (decide_eq_true h)
      have m4 : m ≤ 4 := m2 (by omega)
      refine ⟨.ref p, rfl, .ref l, rfl, .int m, rfl, p, l, m, ts, rfl, B2, T2, m0, by omega, by omega, fun d es H4 B4 b4 P4 l4 t4 => ?_⟩
      have T4 := T2.but B2 b4
      have b4 := b2.trans b4
      have pl4 := plOf_len es
      have t4' : tot (plOf es) ≤ 98 := by omega
      refine ⟨fun σ' H' => ∃ (d : Addr) (es : List En) (y5 : Option V), σ' = [some (.ref p), some (.int sh), some (.int m), some (.ref l), some (.ref d), y5] ∧ PlanAt H' d es ∧ tot (plOf es) ≤ 100 ∧ es.length ≤ 20 ∧ Bag H' p ∧ But p H H' ∧ Tw H' l ts, ?_, ?_⟩
      · refine ifS_via (fun c H' => PlanAt H' d es ∧ Bag H' p ∧ But p H H' ∧ Tw H' l ts) (fun Q hQ => ?_) (fun c H5 hR => ?_)
        · exact ⟨.ref p, rfl, p, 2, rfl, B4, by decide, by decide, fun j H1 j0 j1 B1 b1 => ⟨rfl, _, rfl, hQ _ _ ⟨P4.but B4 b1, B1, b4.trans b1, T4.but B4 b1⟩⟩⟩
        · obtain ⟨P5, B5, b5, T5⟩ := hR
          cases c with
          | false => exact ⟨d, es, none, rfl, P5, by omega, by omega, B5, b5, T5⟩
          | true =>
            refine ⟨.ref p, rfl, .ref d, rfl, .ref l, rfl, p, d, l, es, ts, rfl, B5, P5, T5, by omega, by omega, fun U t z o H6 hU tn az ow on B6 b6 => ?_⟩
            have P6 := P5.but B5 b6
            refine ⟨.ref d, rfl, .ref U, rfl, U, _, 0, .str t, rfl, rfl, .of hU, atI_nat (j := 0) rfl, .ref U, rfl, U, _, 1, .str z, rfl, rfl, .of hU, atI_nat (j := 1) rfl, .ref U, rfl, U, _, 2, oStr o, rfl, rfl, .of hU, atI_nat (j := 2) rfl, d, t, z, o, es, rfl, P6, tn, az, ow, by omega, by omega, fun F es2 H7 S7 P7 e7 => ⟨F, es2, _, rfl, P7, ?_, ?_, B6.same S7, (b5.trans b6).trans (Same.but S7), (T5.but B5 b6).same S7⟩⟩
            · rw [e7]
              have := tot_aft (t := t) (p := z) (o := o) P6.g.n
              omega
            · rw [← plOf_len, e7]
              have := plAft_len (pl := plOf es) (t := t) (p := z) (o := o)
              omega
      · rintro σ1 H5 ⟨d, es, y5, rfl, P5, t5, l5, B5, b5, T5⟩
        exact ⟨.ref l, rfl, .ref d, rfl, by show 2 ≤ sizeLine; omega, fun T nT => q T l d ts es _ upd_same (B5.same (same_upd nT)) (b5.trans (Same.but (same_upd nT))) (T5.same (same_upd nT)) (P5.same (same_upd nT)) (by omega) (by omega) t5 (by omega)⟩
end
end Tb
namespace Tb
open PySem PySem.Spec PyProof.Rows L2
open PySem.W (AllAlike Sortable dataLe TotalLe)
abbrev sRanksAre : Stmt := topS 50
abbrev NRanksAre : List Str := ["joined", "address", "due", "told", "town"]
theorem scRanksAre : FnScope NRanksAre ["joined", "address", "due"] (defScope sRanksAre) := ⟨rfl, rfl, rfl, by decide +kernel, rfl, by decide +kernel, by decide +kernel⟩
def spRanksAre (C CS : Addr) : Sp := fun vs H Q _ => ∃ (j r : Addr) (a : Str) (pl : Pl) (xs : List Str), vs = [.ref j, .str a, .ref r] ∧ SortOf C CS H j pl ∧ a.length ≤ 1000 ∧ pl.length ≤ 100 ∧ pl.length + tot pl ≤ 800 ∧ H r = some (.dK (kvR (ranksL pl a xs))) ∧ Srt xs ∧ (∀ x, x ∈ xs ↔ isSta pl x) ∧ xs.length ≤ 900 ∧ ∀ H', Same H H' → Q (.bl true) H'
theorem ranksL_keys (pl : Pl) (a : Str) (xs : List Str) : (ranksL pl a xs).map Prod.fst = xs := by
  unfold ranksL
  rw [List.map_map]
  exact List.map_id xs
theorem ranksL_at {pl : Pl} {a : Str} {xs : List Str} (n : xs.Nodup) {x : Str} (h : x ∈ xs) : rkAt (ranksL pl a xs) x = some (rankO pl a x) := rkAt_mem (r := (x, rankO pl a x)) (by rw [ranksL_keys]; exact n) (List.mem_map.mpr ⟨x, h, rfl⟩)
section
variable {P : Program} {w : World} {K : PySem.W.Frag} {mg : Str → Option Value} {base : Heap}
theorem ok_ranksare {f gR C CS : Addr} {fd gdR : FuncData} (F : Fun K "_law_ranks_are" "_law_ranks_are" sRanksAre f fd) (B : Blt mg) (SC : SCls K CS) (SRm : Meth K CS "ranks" gR) (bRs : Binds K gdR ["self", "address"] []) (FRs : FnOk P w K mg base CX0 6 gR gdR ["self", "address"] (spSRanks C CS)) : FnOk P w K mg base CX0 7 f fd ["joined", "address", "due"] (spRanksAre C CS) := by
  refine F.ok scRanksAre (fun vs H Q E h => ?_) (fun cdv A outer s H vs Q E hr h => ?_)
  · obtain ⟨j, r, a, pl, xs, rfl, _⟩ := h
    rfl
  · obtain ⟨j, r, a, pl, xs, rfl, hS, al, hn, ht, hd, sx, mx, lx, q⟩ := h
    have hu := hu_of hr
    have hz : sizeLine = 16777216 := rfl
    obtain ⟨dx, dt, dm, hj⟩ := hS.ins
    have g := hS.g
    have txs : ∀ x ∈ xs, Tx x := fun x hx => sta_tx g ((mx x).mp hx)
    refine ⟨_, (pss_cons (ps_set (i := 3) scRanksAre.nd rfl (.inl rfl) (pe_meth (pv 0) SC.c SRm FRs (hr.mono (by first | decide | omega)) bRs .nil pass0 (pa_cons (pv 1) pa_nil)))
      (pss_cons (ps_if (PW.pt (pw_or (pt_not (pt_val (pe_callB call_isi (by rfl) B.isi (by decide +kernel) (pa_cons (pv 3) (pa_cons (pe_bltn (by rfl) B.dict (by decide +kernel) (v := .ty "dict") (u := .type "dict") rfl) pa_nil))))) (pw_or1 (pt_cmpR (op_neD hr.units) (pe_callTy (call_listD rfl) (by rfl) B.list PyProof.Rows.boot_list (pa_cons (pv 3) pa_nil)) (pe_callB (cr_sortedDk rfl hr.units) (by rfl) B.sorted PyProof.Rows.boot_sorted (pa_cons (pv 2) pa_nil)) (nomark _)))))
        (pss_one (ps_ret pe_bl))
        pss_nil)
      (pss_cons (ps_lock (ps_for PassesOwn.never rfl (pi_keys (pv 2)) (pg_name (i := 4) scRanksAre.nd rfl (.inl rfl))
        (pss_cons (ps_if (pt_cmp (pc_dnotin hu (pv 4) (pv 3)))
          (pss_one (ps_ret pe_bl))
          pss_nil)
        (pss_cons (ps_if (PW.pt (pw_and (pt_cmpR op_isN (pe_dget hu (pv 2) (pv 4) (fun _ _ => rfl)) pe_non (nomark _)) (pw_and1 (pt_cmpR op_notN (pe_dget hu (pv 3) (pv 4) (fun _ _ => rfl)) pe_non (nomark _)))))
          (pss_one (ps_ret pe_bl))
          pss_nil)
        (pss_cons (ps_if (PW.pt (pw_and (pt_cmpR op_notN (pe_dget hu (pv 2) (pv 4) (fun _ _ => rfl)) pe_non (nomark _)) (pw_and1 (PW.pt (pw_or (pt_not (pt_val (pe_callB call_isi (by rfl) B.isi (by decide +kernel) (pa_cons (pe_dget hu (pv 3) (pv 4) (fun _ _ => rfl)) (pa_cons (pe_bltn (by rfl) B.int PyProof.Rows.boot_int (v := .ty "int") (u := .type "int") rfl) pa_nil))))) (pw_or1 (pt_val (pe_callB call_isi (by rfl) B.isi (by decide +kernel) (pa_cons (pe_dget hu (pv 3) (pv 4) (fun _ _ => rfl)) (pa_cons (pe_bltn (by rfl) B.bool (by decide +kernel) (v := .ty "bool") (u := .type "bool") rfl) pa_nil))))))))))
          (pss_one (ps_ret pe_bl))
          pss_nil)
        (pss_one (ps_if (pt_cmpR op_ne (pe_dget hu (pv 3) (pv 4) (fun _ _ => rfl)) (pe_dget hu (pv 2) (pv 4) (fun _ _ => rfl)) (nomark _))
          (pss_one (ps_ret pe_bl))
          pss_nil)))))))
      (pss_cons (ps_dput hu (pv 3) pe_str pe_int (by rfl))
      (pss_one (ps_ret pe_bl)))))), ?_⟩
    refine ⟨.ref j, rfl, j, dx, _, rfl, hj, rfl, .str a, rfl, j, a, pl, rfl, hS, al, hn, by omega, fun p xs1 H1 S1 np hp sx1 mx1 lx1 => ?_⟩
    obtain rfl := srt_uniq sx sx1 fun x => (mx x).trans (mx1 x).symm
    refine ⟨.ref p, rfl, .ref p, .ty "dict", .type "dict", .type "dict", true, rfl, .ty _, .base (.dK hp), kit_ty (by decide +kernel), true, rfl, ?_⟩
    refine ⟨.ref p, rfl, p, _, rfl, .of hp, fun L nL => ?_⟩
    have hL : (L2.upd H1 L (.lst ((kvR (ranksL pl a xs)).map fun kv => kV kv.1))) L = some (.lst (xs.map V.str)) := by
      rw [upd_same]
      conv => rhs; rw [← ranksL_keys pl a xs]
      unfold kvR
      rw [List.map_map, List.map_map]
      rfl
    have S2 := S1.trans (same_upd nL (o := .lst ((kvR (ranksL pl a xs)).map fun kv => kV kv.1)))
    have hp2 := (same_upd nL (o := .lst ((kvR (ranksL pl a xs)).map fun kv => kV kv.1))) _ _ hp
    generalize L2.upd H1 L (.lst ((kvR (ranksL pl a xs)).map fun kv => kV kv.1)) = H2 at S2 hp2 hL
    refine ⟨.ref r, rfl, r, _, xs, rfl, .of (S2 _ _ hd), by rw [kvR_keys, ranksL_keys], by omega, fun M nM => ?_⟩
    have eso : xs.mergeSort le1 = xs := srt_uniq ⟨(List.mergeSort_perm xs _).nodup_iff.mpr sx.1, PySem.W.sort_pairwise le1_total xs⟩ sx fun x => List.mem_mergeSort
    have hM : (L2.upd H2 M (.lst ((xs.mergeSort (PySem.W.dataLe false PyData.str)).map V.str))) M = some (.lst (xs.map V.str)) := by
      rw [upd_same]
      show some (HO.lst ((xs.mergeSort le1).map V.str)) = _
      rw [eso]
    have SM := same_upd nM (o := .lst ((xs.mergeSort (PySem.W.dataLe false PyData.str)).map V.str))
    generalize L2.upd H2 M (.lst ((xs.mergeSort (PySem.W.dataLe false PyData.str)).map V.str)) = H3 at SM hM
    have S3 := S2.trans SM
    have hp3 := SM _ _ hp2
    refine ⟨_, _, .lst (sqOf (SM _ _ hL)) (dp_strs _), .lst (sqOf hM) (dp_strs _), shaped_strs txs, shaped_strs txs, _, rfl, ?_⟩
    rw [eqv_self (shaped_strs txs)]
    have pr : p ≠ r := fun z => by rw [z, hd] at np; cases np
    refine ⟨r, .dK (kvR (ranksL pl a xs)), S3 _ _ hd, trivial, fun od => ?_⟩
    refine ⟨.ref r, rfl, r, od, rfl, .inl ⟨kvR (ranksL pl a xs), upd_same, ?_⟩⟩
    refine for_it (walk_keys (d := r) (o := od) (kvs := kvR (ranksL pl a xs))) (fun i σ H' => (∃ y4, σ = [some (.ref j), some (.str a), some (.ref r), some (.ref p), y4]) ∧ But r H H' ∧ H' r = some (.frz od (.dK (kvR (ranksL pl a xs)))) ∧ H' p = some (.dK (kvR (ranksL pl a xs))))
      ⟨⟨none, rfl⟩, (Same.but S3).trans But.upd, upd_same, by rw [upd_ne pr]; exact hp3⟩ (fun i σ H' _ hP => hP.2.2.1) (fun i v σ H5 H6 hi hP hy => ?_) (fun σ H5 hP => ?_)
    · obtain ⟨⟨y4, rfl⟩, b5, d5, p5⟩ := hP
      obtain ⟨rfl, k, v, ek, rfl⟩ := hy
      rw [kvR_at] at ek
      cases er : (ranksL pl a xs)[i]? with
      | none => rw [er] at ek; cases ek
      | some x =>
      rw [er] at ek
      cases (Option.some.inj ek)
      obtain ⟨t, tm, rfl⟩ := List.mem_map.mp (List.mem_of_getElem? er)
      have ev : valV (kvR (ranksL pl a xs)) (Sum.inr t) = some (oInt (rankO pl a t)) := by
        rw [kvR_val, ranksL_at sx.1 tm]
        rfl
      have d1 : DGet H6 p (.str t) (some (oInt (rankO pl a t))) := by
        rw [← ev]
        exact DGet.k (k := Sum.inr t) p5
      have d2 : DGet H6 r (.str t) (some (oInt (rankO pl a t))) := by
        rw [← ev]
        exact .inl ⟨_, Sum.inr t, .inr ⟨od, d5⟩, rfl, rfl⟩
      refine ⟨.str t, rfl, .ref p, rfl, p, _, rfl, d1, ?_⟩
      refine ⟨_, rfl, ?_⟩
      generalize rankO pl a t = ro at d1 d2
      cases ro with
      | none =>
        refine ⟨.ref r, rfl, .str t, rfl, r, .non, rfl, d2, rfl, true, rfl, .ref p, rfl, .str t, rfl, p, .non, rfl, d1, rfl, false, rfl, ?_⟩
        refine ⟨.ref r, rfl, .str t, rfl, r, .non, rfl, d2, rfl, false, rfl, ?_⟩
        refine ⟨.ref p, rfl, .str t, rfl, p, .non, rfl, d1, .ref r, rfl, .str t, rfl, r, .non, rfl, d2, rfl, _, rfl, ?_⟩
        exact ⟨⟨_, rfl⟩, b5, d5, p5⟩
      | some n =>
        refine ⟨.ref r, rfl, .str t, rfl, r, .int n, rfl, d2, rfl, false, rfl, ?_⟩
        refine ⟨.ref r, rfl, .str t, rfl, r, .int n, rfl, d2, rfl, true, rfl, ?_⟩
        refine ⟨.ref p, rfl, .str t, rfl, p, .int n, rfl, d1, .int n, .ty "int", .type "int", .type "int", true, rfl, .ty _, .base (.int _), kit_ty (by decide +kernel), true, rfl, ?_⟩
        refine ⟨.ref p, rfl, .str t, rfl, p, .int n, rfl, d1, .int n, .ty "bool", .type "int", .type "bool", false, rfl, .ty _, .base (.int _), kit_ty (by decide +kernel), false, rfl, ?_⟩
        refine ⟨.ref p, rfl, .str t, rfl, p, .int n, rfl, d1, .ref r, rfl, .str t, rfl, r, .int n, rfl, d2, rfl, _, rfl, ?_⟩
        rw [decide_eq_true rfl]
        exact ⟨⟨_, rfl⟩, b5, d5, p5⟩
    · obtain ⟨⟨y4, rfl⟩, b5, d5, p5⟩ := hP
      refine ⟨d5, ?_⟩
      have S6 := unlock_same hd b5
      have p6 : (L2.upd H5 r (.dK (kvR (ranksL pl a xs)))) p = some (.dK (kvR (ranksL pl a xs))) := by rw [upd_ne pr]; exact p5
      generalize L2.upd H5 r (.dK (kvR (ranksL pl a xs))) = H6 at S6 p6
      refine ⟨.ref p, rfl, p, _, rfl, DPut.k (k := Sum.inr (Str.ofString "A")) p6 (by rw [kvR_len]; unfold ranksL; rw [List.length_map]; omega), q _ fun c o hc => ?_⟩
      rw [upd_ne (ne_of_none hc np)]
      exact S6 _ _ hc
end
end Tb
namespace Tb
open PySem PySem.Spec PyProof.Rows L2
open PySem.W (AllAlike Sortable dataLe TotalLe)
abbrev sDrawnR : Stmt := topS 52
abbrev NDrawnR : List Str := ["bag", "joined", "plan", "address", "due", "greater", "town", "k", "drawn"]
theorem scDrawnR : FnScope NDrawnR ["bag", "joined", "plan", "address", "due"] (defScope sDrawnR) := ⟨rfl, rfl, rfl, by decide +kernel, rfl, by decide +kernel, by decide +kernel⟩
def rkPut (rs : Rk) (x : Str) (o : Option Int) : Rk := if x ∈ rs.map Prod.fst then rs.map (fun r => if r.1 = x then (x, o) else r) else rs ++ [(x, o)]
def rkDrop (rs : Rk) (x : Str) : Rk := rs.filter fun r => decide (r.1 ≠ x)
theorem any_kvR (rs : Rk) (x : Str) : ((kvR rs).any fun kv => decide (kv.1 = Sum.inr x)) = true ↔ x ∈ rs.map Prod.fst := by
  rw [List.any_eq_true]
  constructor
  · rintro ⟨kv, hk, e⟩
    obtain ⟨y, hy, rfl⟩ := List.mem_map.mp hk
    exact List.mem_map.mpr ⟨y, hy, inr_eq.mp (of_decide_eq_true e)⟩
  · intro h
    obtain ⟨y, hy, rfl⟩ := List.mem_map.mp h
    exact ⟨_, List.mem_map.mpr ⟨y, hy, rfl⟩, decide_eq_true rfl⟩
theorem kvR_put (rs : Rk) (x : Str) (o : Option Int) : putK (kvR rs) (Sum.inr x) (oInt o) = kvR (rkPut rs x o) := by
  unfold putK rkPut
  by_cases c : x ∈ rs.map Prod.fst
  · rw [if_pos ((any_kvR rs x).mpr c), if_pos c]
    unfold kvR
    rw [List.map_map, List.map_map]
    refine List.map_congr_left fun r _ => ?_
    show (if (Sum.inr r.1 : Key) = Sum.inr x then ((Sum.inr r.1 : Key), oInt o) else (Sum.inr r.1, oInt r.2)) = (Sum.inr (if r.1 = x then (x, o) else r).1, oInt (if r.1 = x then (x, o) else r).2)
    by_cases d : r.1 = x
    · rw [if_pos (inr_eq.mpr d), if_pos d, d]
    · rw [if_neg fun z => d (inr_eq.mp z), if_neg d]
  · rw [if_neg fun z => c ((any_kvR rs x).mp z), if_neg c]
    unfold kvR
    rw [List.map_append]
    rfl
theorem rkPut_keys (rs : Rk) (x : Str) (o : Option Int) : (rkPut rs x o).map Prod.fst = if x ∈ rs.map Prod.fst then rs.map Prod.fst else rs.map Prod.fst ++ [x] := by
  unfold rkPut
  by_cases c : x ∈ rs.map Prod.fst
  · rw [if_pos c, if_pos c, List.map_map]
    refine List.map_congr_left fun r _ => ?_
    show (if r.1 = x then (x, o) else r).1 = r.1
    by_cases d : r.1 = x
    · rw [if_pos d, d]
    · rw [if_neg d]
  · rw [if_neg c, if_neg c, List.map_append]
    rfl
theorem kvR_drop (rs : Rk) (x : Str) : dropK (kvR rs) (Sum.inr x) = kvR (rkDrop rs x) := by
  unfold dropK rkDrop kvR
  rw [List.filter_map]
  refine congrArg _ (List.filter_congr fun r _ => ?_)
  show decide ((Sum.inr r.1 : Key) ≠ Sum.inr x) = decide (r.1 ≠ x)
  exact decide_eq_decide.mpr (not_congr inr_eq)
structure GR (n : Nat) (rs : Rk) : Prop where
  l : rs.length ≤ n
  t : ∀ x ∈ rs, Tx x.1
  n : (rs.map Prod.fst).Nodup
theorem GR.mono {n m : Nat} {rs : Rk} (g : GR n rs) (h : n ≤ m) : GR m rs := ⟨Nat.le_trans g.l h, g.t, g.n⟩
theorem GR.put {n : Nat} {rs : Rk} (g : GR n rs) {x : Str} (hx : Tx x) (o : Option Int) : GR (n + 1) (rkPut rs x o) := by
  have hk := rkPut_keys rs x o
  refine ⟨?_, fun r hr => ?_, ?_⟩
  · have := congrArg List.length hk
    rw [List.length_map] at this
    rw [this]
    have := g.l
    split
    · rw [List.length_map]; omega
    · rw [List.length_append, List.length_map]; show _ + 1 ≤ _; omega
  · have : r.1 ∈ (rkPut rs x o).map Prod.fst := List.mem_map.mpr ⟨r, hr, rfl⟩
    rw [hk] at this
    have old : r.1 ∈ rs.map Prod.fst → Tx r.1 := fun h => by
      obtain ⟨y, hy, e⟩ := List.mem_map.mp h
      rw [← e]
      exact g.t y hy
    split at this
    · exact old this
    · rcases List.mem_append.mp this with h | h
      · exact old h
      · rw [List.mem_singleton.mp h]
        exact hx
  · rw [hk]
    split
    · exact g.n
    · next c =>
      rw [List.nodup_append]
      refine ⟨g.n, List.nodup_cons.mpr ⟨(fun z => by cases z), List.nodup_nil⟩, fun a ha b hb e => c ?_⟩
      rw [← List.mem_singleton.mp hb, ← e]
      exact ha
theorem GR.drop {n : Nat} {rs : Rk} (g : GR n rs) (x : Str) : GR n (rkDrop rs x) :=
  ⟨Nat.le_trans (List.length_filter_le _ _) g.l, fun r hr => g.t r (List.mem_filter.mp hr).1, (List.Sublist.map Prod.fst List.filter_sublist).nodup g.n⟩
def spDrawnR (C CS : Addr) : Sp := fun vs H Q _ => ∃ (p j d r : Addr) (a : Str) (es : List En) (rs : Rk), vs = [.ref p, .ref j, .ref d, .str a, .ref r] ∧ Bag H p ∧ SortOf C CS H j (plOf es) ∧ PlanAt H d es ∧ a.length ≤ 1000 ∧ es.length + tot (plOf es) ≤ 900 ∧ H r = some (.dK (kvR rs)) ∧ GR 400 rs ∧ ∀ H', Bag H' p → But p H H' → Q (.bl true) H'
/-- all but two places stay -/
def But2 (p r : Addr) (H H' : Hp) : Prop := ∀ c o, H c = some o → c ≠ p → c ≠ r → H' c = some o
theorem But2.step {p r : Addr} {H H1 H2 : Hp} (a : But2 p r H H1) (b : But p H1 H2) : But2 p r H H2 := fun c o h n m => b c o (a c o h n m) n
theorem But2.same {p r : Addr} {H H1 H2 : Hp} (a : But2 p r H H1) (b : Same H1 H2) : But2 p r H H2 := a.step (Same.but b)
theorem But2.put {p r a : Addr} {H H1 : Hp} {o : HO} (b : But2 p r H H1) (n : H a = none) : But2 p r H (L2.upd H1 a o) := fun c u h np nr => by
  rw [upd_ne (ne_of_none h n)]
  exact b c u h np nr
theorem But2.un {p r : Addr} {H H1 : Hp} {o : HO} (b : But2 p r H H1) (h : H r = some o) : But p H (L2.upd H1 r o) := fun c u hc np => by
  by_cases e : c = r
  · rw [e] at hc ⊢
    rw [upd_same, ← hc, h]
  · rw [upd_ne e]
    exact b c u hc np e
section
variable {P : Program} {w : World} {K : PySem.W.Frag} {mg : Str → Option Value} {base : Heap}
theorem ok_drawnr {f g1 g2 C CS : Addr} {fd gd1 gd2 : FuncData} (F : Fun K "_law_drawn_ranks" "_law_drawn_ranks" sDrawnR f fd) (B : Blt mg) (cDraw : CDraw P w K mg base g1 gd1) (cJudged : C1 P w K mg base "_law_judged" sJudged ["joined", "plan", "address", "ranks"] 6 (spJudged C CS) g2 gd2) : FnOk P w K mg base CX0 7 f fd ["bag", "joined", "plan", "address", "due"] (spDrawnR C CS) := by
  refine F.ok scDrawnR (fun vs H Q E h => ?_) (fun cdv A outer s H vs Q E hr h => ?_)
  · obtain ⟨p, j, d, r, a, es, rs, rfl, _⟩ := h
    rfl
  · obtain ⟨p, j, d, r, a, es, rs, rfl, hB, hS, hP0, al, ht, hd, gr, q⟩ := h
    have hu := hu_of hr
    have hz : sizeLine = 16777216 := rfl
    have lr := gr.l
    have rp : r ≠ p := fun z => by
      obtain ⟨_, _, _, _, e, _⟩ := hB
      rw [z, e] at hd
      cases hd
    -- what is read in the locked dict
    have dgr : ∀ (od : Obj) (H7 : Hp) (i : Nat) (x : Str × Option Int), H7 r = some (.frz od (.dK (kvR rs))) → rs[i]? = some x → DGet H7 r (.str x.1) (some (oInt x.2)) := fun od H7 i x h7 e => by
      have := kvR_val rs x.1
      rw [rkAt_mem gr.n (List.mem_of_getElem? e)] at this
      rw [show some (oInt x.2) = valV (kvR rs) (Sum.inr x.1) from this.symm]
      exact .inl ⟨_, Sum.inr x.1, .inr ⟨od, h7⟩, rfl, rfl⟩
    refine ⟨_, (pss_cons (ps_set (i := 5) scDrawnR.nd rfl (.inl rfl) pe_dnewK)
      (pss_cons (ps_lock (ps_for PassesOwn.never rfl (pi_keys (pv 4)) (pg_name (i := 6) scDrawnR.nd rfl (.inl rfl))
        (pss_cons (ps_dput hu (pv 5) (pv 6) (pe_dget hu (pv 4) (pv 6) (fun _ _ => rfl)) (by rfl))
        (pss_one (ps_if (pt_cmpR op_notN (pe_dget hu (pv 4) (pv 6) (fun _ _ => rfl)) pe_non (nomark _))
          (pss_one (ps_dput hu (pv 5) (pv 6) (pe_op op_add (pe_dget hu (pv 4) (pv 6) (fun _ _ => rfl)) pe_int) (by rfl)))
          pss_nil)))))
      (pss_cons (ps_if (pt_not (pt_val (pe_call cJudged.G (hr.mono (by first | decide | omega)) (by rfl) cJudged.D.g cJudged.D.F.kp cJudged.D.b .nil pass0 (pa_cons (pv 1) (pa_cons (pv 2) (pa_cons (pv 3) (pa_cons (pv 5) pa_nil)))))))
        (pss_one (ps_ret pe_bl))
        pss_nil)
      (pss_cons (ps_for PassesOwn.never rfl (pi_range1 (by rfl) B.range (pa_cons pe_int pa_nil)) (pg_name (i := 7) scDrawnR.nd rfl (.inl rfl))
        (pss_cons (ps_set (i := 8) scDrawnR.nd rfl (.inl rfl) pe_dnewK)
        (pss_cons (ps_lock (ps_for PassesOwn.never rfl (pi_keys (pv 4)) (pg_name (i := 6) scDrawnR.nd rfl (.inl rfl))
          (pss_one (ps_dput hu (pv 8) (pv 6) (pe_ix ix_list (pe_lst (pa_cons pe_non (pa_cons (pe_dget hu (pv 4) (pv 6) (fun _ _ => rfl)) (pa_cons (pe_op op_add (pe_un un_neg pe_int) (pe_call cDraw.G (hr.mono (by first | decide | omega)) (by rfl) cDraw.D.g cDraw.D.F.kp cDraw.D.b .nil pass0 (pa_cons (pv 0) (pa_cons pe_int pa_nil)))) pa_nil)))) (pe_call cDraw.G (hr.mono (by first | decide | omega)) (by rfl) cDraw.D.g cDraw.D.F.kp cDraw.D.b .nil pass0 (pa_cons (pv 0) (pa_cons pe_int pa_nil))) (fun _ _ => rfl)) (by rfl)))))
        (pss_one (ps_if (pt_not (pt_val (pe_call cJudged.G (hr.mono (by first | decide | omega)) (by rfl) cJudged.D.g cJudged.D.F.kp cJudged.D.b .nil pass0 (pa_cons (pv 1) (pa_cons (pv 2) (pa_cons (pv 3) (pa_cons (pv 8) pa_nil)))))))
          (pss_one (ps_ret pe_bl))
          pss_nil)))))
      (pss_one (ps_ret pe_bl)))))), ?_⟩
    intro G nG
    have Gp := bag_no hB nG
    have Gr : G ≠ r := fun z => by rw [z, hd] at nG; cases nG
    have S1 : Same H (L2.upd H G (.dK [])) := same_upd nG
    have hG1 : (L2.upd H G (.dK [])) G = some (.dK (kvR [])) := upd_same
    generalize L2.upd H G (.dK []) = H1 at S1 hG1
    refine ⟨r, .dK (kvR rs), S1 _ _ hd, trivial, fun od => ?_⟩
    refine ⟨.ref r, rfl, r, od, rfl, .inl ⟨kvR rs, upd_same, ?_⟩⟩
    have b1 : But2 p r H (L2.upd H1 r (.frz od (.dK (kvR rs)))) := fun c o hc np nr => by
      rw [upd_ne nr]
      exact S1 _ _ hc
    have B1 : Bag (L2.upd H1 r (.frz od (.dK (kvR rs)))) p := (hB.same S1).put rp
    refine for_it (walk_keys (d := r) (o := od) (kvs := kvR rs)) (fun i σ H' => (∃ y6 y7 y8, σ = [some (.ref p), some (.ref j), some (.ref d), some (.str a), some (.ref r), some (.ref G), y6, y7, y8]) ∧ Bag H' p ∧ But2 p r H H' ∧ H' r = some (.frz od (.dK (kvR rs))) ∧ ∃ gs, H' G = some (.dK (kvR gs)) ∧ GR (2 * i) gs)
      ⟨⟨none, none, none, rfl⟩, B1, b1, upd_same, [], by rw [upd_ne Gr]; exact hG1, ⟨Nat.le_refl _, fun x h => (by cases h), List.nodup_nil⟩⟩ (fun i σ H' _ hP => hP.2.2.2.1) (fun i v σ H5 H6 hi hP hy => ?_) (fun σ H5 hP => ?_)
    · obtain ⟨⟨y6, y7, y8, rfl⟩, B5, b5, d5, gs, g5, gg⟩ := hP
      obtain ⟨rfl, k, v, ek, rfl⟩ := hy
      rw [kvR_at] at ek
      cases er : rs[i]? with
      | none => rw [er] at ek; cases ek
      | some x =>
      rw [er] at ek
      cases (Option.some.inj ek)
      have i2 : i < rs.length := (List.getElem?_eq_some_iff.mp er).1
      have tx := gr.t x (List.mem_of_getElem? er)
      have lg := gg.l
      obtain ⟨t, ro⟩ := x
      refine ⟨.ref r, rfl, .str t, rfl, r, oInt ro, rfl, dgr od H6 i (t, ro) d5 er, .ref G, rfl, .str t, rfl, G, _, rfl, DPut.k (k := Sum.inr t) g5 (by rw [kvR_len]; omega), ?_⟩
      rw [kvR_put]
      have BA : Bag (L2.upd H6 G (.dK (kvR (rkPut gs t ro)))) p := B5.put Gp
      have bA : But2 p r H (L2.upd H6 G (.dK (kvR (rkPut gs t ro)))) := b5.put nG
      have dA : (L2.upd H6 G (.dK (kvR (rkPut gs t ro)))) r = some (.frz od (.dK (kvR rs))) := by rw [upd_ne (Ne.symm Gr)]; exact d5
      have gA : (L2.upd H6 G (.dK (kvR (rkPut gs t ro)))) G = some (.dK (kvR (rkPut gs t ro))) := upd_same
      have ggA := gg.put tx ro
      generalize rkPut gs t ro = gs' at BA bA dA gA ggA
      generalize L2.upd H6 G (.dK (kvR gs')) = HA at BA bA dA gA
      have lgA := ggA.l
      cases ro with
      | none =>
        refine ⟨.ref r, rfl, .str t, rfl, r, .non, rfl, dgr od HA i (t, none) dA er, rfl, false, rfl, ?_⟩
        exact ⟨⟨_, _, _, rfl⟩, BA, bA, dA, gs', gA, ggA.mono (by omega)⟩
      | some n =>
        refine ⟨.ref r, rfl, .str t, rfl, r, .int n, rfl, dgr od HA i (t, some n) dA er, rfl, true, rfl, ?_⟩
        refine ⟨.ref r, rfl, .str t, rfl, r, .int n, rfl, dgr od HA i (t, some n) dA er, n, 1, rfl, rfl, .ref G, rfl, .str t, rfl, G, _, rfl, DPut.k (k := Sum.inr t) gA (by rw [kvR_len]; omega), ?_⟩
        refine ⟨⟨_, _, _, rfl⟩, BA.put Gp, bA.put nG, by rw [upd_ne (Ne.symm Gr)]; exact dA, rkPut gs' t (some (n + 1)), ?_, (ggA.put tx _).mono (by omega)⟩
        rw [upd_same, ← kvR_put]
        rfl
    · obtain ⟨⟨y6, y7, y8, rfl⟩, B5, b5, d5, gs, g5, gg⟩ := hP
      refine ⟨d5, ?_⟩
      have b6 := b5.un hd
      have B6 : Bag (L2.upd H5 r (.dK (kvR rs))) p := B5.put rp
      have g6 : (L2.upd H5 r (.dK (kvR rs))) G = some (.dK (kvR gs)) := by rw [upd_ne Gr]; exact g5
      generalize L2.upd H5 r (.dK (kvR rs)) = H6 at b6 B6 g6
      rw [kvR_len] at gg
      have lg := gg.l
      refine ⟨.ref j, rfl, .ref d, rfl, .str a, rfl, .ref G, rfl, j, d, G, a, es, gs, rfl, hS.but hB b6, fun H' b => hP0.but hB fun c o hc nc => b _ _ (b6 _ _ hc nc) (ne_of_none hc nG), al, ht, g6, by omega, gg.t, gg.n, fun H7 S7 => ⟨true, rfl, ?_⟩⟩
      have b7 := b6.trans (Same.but S7)
      have B7 := B6.same S7
      clear S7 b6 B6 g6 B5 b5 d5 g5 gg lg
      refine ⟨2, rfl, by omega, by omega, ?_⟩
      refine for_it (walk_range (lo := 0) (n := 2)) (fun i σ H' => (∃ y6 y7 y8, σ = [some (.ref p), some (.ref j), some (.ref d), some (.str a), some (.ref r), some (.ref G), y6, y7, y8]) ∧ Bag H' p ∧ But p H H')
        ⟨⟨_, _, _, rfl⟩, B7, b7⟩ (fun _ _ _ _ _ => trivial) (fun i x σ H8 H9 hi hP hy => ?_) (fun σ H8 hP => ?_)
      · obtain ⟨⟨y6, y7, y8, rfl⟩, B8, b8⟩ := hP
        obtain ⟨rfl, rfl⟩ := hy
        have S8 := hS.but hB b8
        have P8 := hP0.but hB b8
        have d8 := b8 _ _ hd rp
        intro D nD
        have Dp := bag_no B8 nD
        have Dr : D ≠ r := fun z => by rw [z, d8] at nD; cases nD
        have SA : Same H9 (L2.upd H9 D (.dK [])) := same_upd nD
        have hDA : (L2.upd H9 D (.dK [])) D = some (.dK (kvR [])) := upd_same
        generalize L2.upd H9 D (.dK []) = HA at SA hDA
        refine ⟨r, .dK (kvR rs), SA _ _ d8, trivial, fun od => ?_⟩
        refine ⟨.ref r, rfl, r, od, rfl, .inl ⟨kvR rs, upd_same, ?_⟩⟩
        have bB : But2 p r H9 (L2.upd HA r (.frz od (.dK (kvR rs)))) := fun c o hc np nr => by
          rw [upd_ne nr]
          exact SA _ _ hc
        have BB : Bag (L2.upd HA r (.frz od (.dK (kvR rs)))) p := (B8.same SA).put rp
        refine for_it (walk_keys (d := r) (o := od) (kvs := kvR rs)) (fun i2 σ H' => (∃ y6, σ = [some (.ref p), some (.ref j), some (.ref d), some (.str a), some (.ref r), some (.ref G), y6, some (.int (0 + (i : Int))), some (.ref D)]) ∧ Bag H' p ∧ But2 p r H9 H' ∧ H' r = some (.frz od (.dK (kvR rs))) ∧ ∃ gs, H' D = some (.dK (kvR gs)) ∧ GR i2 gs)
          ⟨⟨_, rfl⟩, BB, bB, upd_same, [], by rw [upd_ne Dr]; exact hDA, ⟨Nat.le_refl _, fun x h => (by cases h), List.nodup_nil⟩⟩ (fun i σ H' _ hP => hP.2.2.2.1) (fun i2 v σ H5 H6 hi hP hy => ?_) (fun σ H5 hP => ?_)
        · obtain ⟨⟨y6, rfl⟩, B5, b5, d5, gs, g5, gg⟩ := hP
          obtain ⟨rfl, k, v, ek, rfl⟩ := hy
          rw [kvR_at] at ek
          cases er : rs[i2]? with
          | none => rw [er] at ek; cases ek
          | some x =>
          rw [er] at ek
          cases (Option.some.inj ek)
          have i3 : i2 < rs.length := (List.getElem?_eq_some_iff.mp er).1
          have tx := gr.t x (List.mem_of_getElem? er)
          have lg := gg.l
          obtain ⟨t, ro⟩ := x
          refine ⟨.ref r, rfl, .str t, rfl, r, oInt ro, rfl, dgr od H6 i2 (t, ro) d5 er, ?_⟩
          refine ⟨2, rfl, .ref p, rfl, p, 7, rfl, B5, by decide, by decide, fun m H1 m0 m1 B1 b1 => ?_⟩
          refine ⟨-2, m, rfl, rfl, by show 3 ≤ sizeLine; omega, fun L nL => ?_⟩
          have Lp := bag_no B1 nL
          have SL := same_upd nL (o := HO.lst [V.non, oInt ro, V.int (-2 + m)])
          have hL : (L2.upd H1 L (.lst [V.non, oInt ro, V.int (-2 + m)])) L = some (.lst [V.non, oInt ro, V.int (-2 + m)]) := upd_same
          generalize L2.upd H1 L (.lst [V.non, oInt ro, V.int (-2 + m)]) = H2 at SL hL
          refine ⟨.ref p, rfl, p, 3, rfl, B1.same SL, by decide, by decide, fun q3 H3 q0 q1 B3 b3 => ?_⟩
          obtain ⟨o, ho⟩ : ∃ o : Option Int, atI [V.non, oInt ro, V.int (-2 + m)] q3 = some (oInt o) := by
            have c3 : q3 = 0 ∨ q3 = 1 ∨ q3 = 2 := by omega
            rcases c3 with rfl | rfl | rfl
            · exact ⟨none, atI_nat (j := 0) rfl⟩
            · exact ⟨ro, atI_nat (j := 1) rfl⟩
            · exact ⟨some (-2 + m), atI_nat (j := 2) rfl⟩
          have stay : ∀ c o, H6 c = some o → c ≠ p → H3 c = some o := fun c o hc nc => b3 _ _ (SL _ _ (b1 _ _ hc nc)) nc
          refine ⟨L, _, q3, oInt o, rfl, rfl, sqOf (b3 _ _ hL Lp), ho, .ref D, rfl, .str t, rfl, D, _, rfl, DPut.k (k := Sum.inr t) (stay _ _ g5 Dp) (by rw [kvR_len]; omega), ?_⟩
          rw [kvR_put]
          exact ⟨⟨_, rfl⟩, B3.put Dp, (b5.step stay).put nD, by rw [upd_ne (Ne.symm Dr)]; exact stay _ _ d5 rp, _, upd_same, gg.put tx o⟩
        · obtain ⟨⟨y6, rfl⟩, B5, b5, d5, gs, g5, gg⟩ := hP
          refine ⟨d5, ?_⟩
          have b6 := b5.un d8
          have B6 : Bag (L2.upd H5 r (.dK (kvR rs))) p := B5.put rp
          have g6 : (L2.upd H5 r (.dK (kvR rs))) D = some (.dK (kvR gs)) := by rw [upd_ne Dr]; exact g5
          generalize L2.upd H5 r (.dK (kvR rs)) = H6 at b6 B6 g6
          rw [kvR_len] at gg
          have lg := gg.l
          refine ⟨.ref j, rfl, .ref d, rfl, .str a, rfl, .ref D, rfl, j, d, D, a, es, gs, rfl, S8.but B8 b6, fun H' b => P8.but B8 fun c o hc nc => b _ _ (b6 _ _ hc nc) (ne_of_none hc nD), al, ht, g6, by omega, gg.t, gg.n, fun H7 S7 => ⟨true, rfl, ?_⟩⟩
          exact ⟨⟨_, _, _, rfl⟩, B6.same S7, b8.trans (b6.trans (Same.but S7))⟩
      · obtain ⟨⟨y6, y7, y8, rfl⟩, B8, b8⟩ := hP
        exact q H8 B8 b8
end
end Tb
namespace Tb
open PySem PySem.Spec PyProof.Rows L2
open PySem.W (AllAlike Sortable dataLe TotalLe)
abbrev sBent : Stmt := topS 51
abbrev NBent : List Str := ["bag", "joined", "plan", "address", "due", "spare", "sites", "k", "town", "old", "base", "bent"]
theorem scBent : FnScope NBent ["bag", "joined", "plan", "address", "due", "spare"] (defScope sBent) := ⟨rfl, rfl, rfl, by decide +kernel, rfl, by decide +kernel, by decide +kernel⟩
def spBent (C CS : Addr) : Sp := fun vs H Q _ => ∃ (p j d r : Addr) (a s : Str) (es : List En) (rs : Rk), vs = [.ref p, .ref j, .ref d, .str a, .ref r, .str s] ∧ Bag H p ∧ SortOf C CS H j (plOf es) ∧ PlanAt H d es ∧ a.length ≤ 1000 ∧ es.length + tot (plOf es) ≤ 900 ∧ H r = some (.dK (kvR rs)) ∧ GR 400 rs ∧ Tx s ∧ ∀ H', Bag H' p → But p H H' → Q (.bl true) H'
theorem But.free {p a : Addr} {H H' : Hp} (b : But p H H') (n : H' a = none) (np : a ≠ p) : H a = none := by
  cases e : H a with
  | none => rfl
  | some o => rw [b _ _ e np] at n; cases n
section
variable {P : Program} {w : World} {K : PySem.W.Frag} {mg : Str → Option Value} {base : Heap}
theorem ok_bent {f g1 g2 C CS : Addr} {fd gd1 gd2 : FuncData} (F : Fun K "_law_bent" "_law_bent" sBent f fd) (B : Blt mg) (hmin : mg "min" = none) (cDraw : CDraw P w K mg base g1 gd1) (cJudged : C1 P w K mg base "_law_judged" sJudged ["joined", "plan", "address", "ranks"] 6 (spJudged C CS) g2 gd2) : FnOk P w K mg base CX0 7 f fd ["bag", "joined", "plan", "address", "due", "spare"] (spBent C CS) := by
  refine F.ok scBent (fun vs H Q E h => ?_) (fun cdv A outer s H vs Q E hr h => ?_)
  · obtain ⟨p, j, d, r, a, sp, es, rs, rfl, _⟩ := h
    rfl
  · obtain ⟨p, j, d, r, a, sp, es, rs, rfl, hB, hS, hP0, al, ht, hd, gr, tsp, q⟩ := h
    have hu := hu_of hr
    have hz : sizeLine = 16777216 := rfl
    have lr := gr.l
    have rp : r ≠ p := fun z => by
      obtain ⟨_, _, _, _, e, _⟩ := hB
      rw [z, e] at hd
      cases hd
    have pa : ∀ (h : Addr) (H1 H' : Hp), H h = none → But p H H1 → But h H1 H' → PlanAt H' d es := fun h H1 H' nh b1 b => hP0.but hB fun c o hc nc => b _ _ (b1 _ _ hc nc) (ne_of_none hc nh)
    refine ⟨_, (pss_cons (ps_set (i := 6) scBent.nd rfl (.inl rfl) (pe_callTy (call_listD rfl) (by rfl) B.list PyProof.Rows.boot_list (pa_cons (pv 4) pa_nil)))
      (pss_cons (ps_for PassesOwn.never rfl (pi_range1 (by rfl) B.range (pa_cons (pe_callB (call_min2 rfl) (by rfl) hmin (by decide +kernel) (pa_cons (pe_callB call_len_seq (by rfl) B.len PySem.boot_len (pa_cons (pv 6) pa_nil)) (pa_cons pe_int pa_nil))) pa_nil)) (pg_name (i := 7) scBent.nd rfl (.inl rfl))
        (pss_cons (ps_set (i := 8) scBent.nd rfl (.inl rfl) (pe_ix ix_list (pv 6) (pv 7) (fun _ _ => rfl)))
        (C8.pss_cut (ps_if (pt_cmpR op_gt (pe_callB call_len_seq (by rfl) B.len PySem.boot_len (pa_cons (pv 6) pa_nil)) pe_int (nomark _))
          (pss_one (ps_set (i := 8) scBent.nd rfl (.inl rfl) (pe_ix ix_list (pv 6) (pe_call cDraw.G (hr.mono (by first | decide | omega)) (by rfl) cDraw.D.g cDraw.D.F.kp cDraw.D.b .nil pass0 (pa_cons (pv 0) (pa_cons (pe_callB call_len_seq (by rfl) B.len PySem.boot_len (pa_cons (pv 6) pa_nil)) pa_nil))) (fun _ _ => rfl))))
          pss_nil)
        (pss_cons (ps_set (i := 9) scBent.nd rfl (.inl rfl) (pe_dget hu (pv 4) (pv 8) (fun _ _ => rfl)))
        (pss_cons (ps_set (i := 10) scBent.nd rfl (.inl rfl) pe_int)
        (C8.pss_cut (ps_if (pt_cmpR op_notN (pv 9) pe_non (nomark _))
          (pss_one (ps_set (i := 10) scBent.nd rfl (.inl rfl) (pv 9)))
          pss_nil)
        (pss_cons (ps_set (i := 11) scBent.nd rfl (.inl rfl) (pe_callTy call_dictD (by rfl) B.dict PyProof.Rows.boot_dict (pa_cons (pv 4) pa_nil)))
        (pss_cons (ps_dput hu (pv 11) (pv 8) (pe_ix ix_list (pe_lst (pa_cons pe_non (pa_cons (pv 10) (pa_cons (pe_op op_add (pv 10) pe_int) (pa_cons (pe_op op_sub (pv 10) pe_int) (pa_cons pe_int (pa_cons pe_int (pa_cons (pe_op op_pow pe_int pe_int) pa_nil)))))))) (pe_call cDraw.G (hr.mono (by first | decide | omega)) (by rfl) cDraw.D.g cDraw.D.F.kp cDraw.D.b .nil pass0 (pa_cons (pv 0) (pa_cons pe_int pa_nil))) (fun _ _ => rfl)) (by rfl))
        (pss_cons (ps_if (pt_not (pt_val (pe_call cJudged.G (hr.mono (by first | decide | omega)) (by rfl) cJudged.D.g cJudged.D.F.kp cJudged.D.b .nil pass0 (pa_cons (pv 1) (pa_cons (pv 2) (pa_cons (pv 3) (pa_cons (pv 11) pa_nil)))))))
          (pss_one (ps_ret pe_bl))
          pss_nil)
        (pss_cons (ps_set (i := 11) scBent.nd rfl (.inl rfl) (pe_callTy call_dictD (by rfl) B.dict PyProof.Rows.boot_dict (pa_cons (pv 4) pa_nil)))
        (pss_cons (ps_expr (pe_dpop1 (pv 11) (pv 8) ⟨rfl, by rfl, rfl, rfl⟩))
        (pss_cons (ps_if (pt_not (pt_val (pe_call cJudged.G (hr.mono (by first | decide | omega)) (by rfl) cJudged.D.g cJudged.D.F.kp cJudged.D.b .nil pass0 (pa_cons (pv 1) (pa_cons (pv 2) (pa_cons (pv 3) (pa_cons (pv 11) pa_nil)))))))
          (pss_one (ps_ret pe_bl))
          pss_nil)
        (pss_cons (ps_dput hu (pv 11) (pv 5) (pv 9) (by rfl))
        (pss_one (ps_if (pt_not (pt_val (pe_call cJudged.G (hr.mono (by first | decide | omega)) (by rfl) cJudged.D.g cJudged.D.F.kp cJudged.D.b .nil pass0 (pa_cons (pv 1) (pa_cons (pv 2) (pa_cons (pv 3) (pa_cons (pv 11) pa_nil)))))))
          (pss_one (ps_ret pe_bl))
          pss_nil)))))))))))))))
      (pss_cons (ps_set (i := 11) scBent.nd rfl (.inl rfl) (pe_callTy call_dictD (by rfl) B.dict PyProof.Rows.boot_dict (pa_cons (pv 4) pa_nil)))
      (pss_cons (ps_dput hu (pv 11) (pv 5) (pe_ix ix_list (pe_lst (pa_cons pe_non (pa_cons pe_int pa_nil))) (pe_call cDraw.G (hr.mono (by first | decide | omega)) (by rfl) cDraw.D.g cDraw.D.F.kp cDraw.D.b .nil pass0 (pa_cons (pv 0) (pa_cons pe_int pa_nil))) (fun _ _ => rfl)) (by rfl))
      (pss_one (ps_ret (pe_call cJudged.G (hr.mono (by first | decide | omega)) (by rfl) cJudged.D.g cJudged.D.F.kp cJudged.D.b .nil pass0 (pa_cons (pv 1) (pa_cons (pv 2) (pa_cons (pv 3) (pa_cons (pv 11) pa_nil))))))))))), ?_⟩
    refine ⟨.ref r, rfl, r, _, rfl, .of hd, fun L nL => ?_⟩
    have hL : (L2.upd H L (.lst ((kvR rs).map fun kv => kV kv.1))) L = some (.lst ((rs.map Prod.fst).map V.str)) := by
      rw [upd_same]
      unfold kvR
      rw [List.map_map, List.map_map]
      rfl
    have S1 := same_upd nL (o := HO.lst ((kvR rs).map fun kv => kV kv.1))
    generalize L2.upd H L (.lst ((kvR rs).map fun kv => kV kv.1)) = H1 at S1 hL
    have Lp := bag_no hB nL
    have lxs : ((rs.map Prod.fst).map V.str).length = rs.length := by rw [List.length_map, List.length_map]
    let mm : Int := if (8 : Int) < (((rs.map Prod.fst).map V.str).length : Int) then 8 else (((rs.map Prod.fst).map V.str).length : Int)
    have hmm : mm = (if (8 : Int) < (((rs.map Prod.fst).map V.str).length : Int) then 8 else (((rs.map Prod.fst).map V.str).length : Int)) := rfl
    have mm0 : 0 ≤ mm ∧ mm ≤ (rs.length : Int) := by
      rw [hmm, lxs]
      split <;> omega
    refine ⟨.ref L, rfl, L, _, rfl, .inl (sqOf hL), _, 8, rfl, ?_⟩
    refine ⟨mm, rfl, by omega, by omega, ?_⟩
    refine for_it (walk_range (lo := 0) (n := mm.toNat)) (fun i σ H' => (∃ y7 y8 y9 yA yB, σ = [some (.ref p), some (.ref j), some (.ref d), some (.str a), some (.ref r), some (.str sp), some (.ref L), y7, y8, y9, yA, yB]) ∧ Bag H' p ∧ But p H H' ∧ H' L = some (.lst ((rs.map Prod.fst).map V.str)))
      ⟨⟨none, none, none, none, none, rfl⟩, hB.same S1, Same.but S1, hL⟩ (fun _ _ _ _ _ => trivial) (fun i x σ H2 H3 hi hP hy => ?_) (fun σ H2 hP => ?_)
    · obtain ⟨⟨y7, y8, y9, yA, yB, rfl⟩, B3, b3, L3⟩ := hP
      obtain ⟨rfl, rfl⟩ := hy
      have i2 : i < rs.length := by omega
      obtain ⟨x, hx⟩ : ∃ x, rs[i]? = some x := ⟨_, List.getElem?_eq_getElem i2⟩
      have at0 : atI ((rs.map Prod.fst).map V.str) (0 + (i : Int)) = some (.str x.1) := by
        rw [show (0 : Int) + (i : Int) = (i : Int) by omega]
        exact atI_nat (j := i) (by rw [List.getElem?_map, List.getElem?_map, hx]; rfl)
      refine ⟨.ref L, rfl, .int (0 + (i : Int)), rfl, L, _, 0 + (i : Int), .str x.1, rfl, rfl, sqOf L3, at0, ?_⟩
      refine ⟨fun σ' H' => ∃ (x : Str × Option Int) (y9 yA yB : Option V), x ∈ rs ∧ σ' = [some (.ref p), some (.ref j), some (.ref d), some (.str a), some (.ref r), some (.str sp), some (.ref L), some (.int (0 + (i : Int))), some (.str x.1), y9, yA, yB] ∧ Bag H' p ∧ But p H H' ∧ H' L = some (.lst ((rs.map Prod.fst).map V.str)), ?_, ?_⟩
      · refine ⟨.ref L, rfl, L, _, rfl, .inl (sqOf L3), _, 8, rfl, rfl, _, rfl, ite2 (fun c => ?_) (fun c => ?_)⟩
        · have c := of_decide_eq_true c
          refine ⟨.ref L, rfl, .ref p, rfl, .ref L, rfl, L, _, rfl, .inl (sqOf L3), p, _, rfl, B3, by omega, by omega, fun z H5 z0 z1 B5 b5 => ?_⟩
          obtain ⟨t, ht2, et⟩ := pick z0 z1
          obtain ⟨u, hu2, rfl⟩ := List.mem_map.mp ht2
          exact ⟨L, _, z, .str u.1, rfl, rfl, sqOf (b5 _ _ L3 Lp), et, u, _, _, _, hu2, rfl, B5, b3.trans b5, b5 _ _ L3 Lp⟩
        · exact ⟨x, _, _, _, List.mem_of_getElem? hx, rfl, B3, b3, L3⟩
      clear at0 hx x B3 b3 L3
      rintro σ1 H3 ⟨⟨t, ro⟩, y9, yA, yB, hx, rfl, B3, b3, L3⟩
      have tt : Tx t := gr.t _ hx
      have d3 := b3 _ _ hd rp
      have dg : ∀ H7 : Hp, H7 r = some (.dK (kvR rs)) → DGet H7 r (.str t) (some (oInt ro)) := fun H7 h7 => by
        have := kvR_val rs t
        rw [rkAt_mem gr.n hx] at this
        rw [show some (oInt ro) = valV (kvR rs) (Sum.inr t) from this.symm]
        exact DGet.k (k := Sum.inr t) h7
      refine ⟨.ref r, rfl, .str t, rfl, r, oInt ro, rfl, dg _ d3, ?_⟩
      refine ⟨fun σ' H' => ∃ (bb : Int) (yB : Option V), σ' = [some (.ref p), some (.ref j), some (.ref d), some (.str a), some (.ref r), some (.str sp), some (.ref L), some (.int (0 + (i : Int))), some (.str t), some (oInt ro), some (.int bb), yB] ∧ H' = H3, ?_, ?_⟩
      · cases ro with
        | none => exact ⟨.non, rfl, rfl, false, rfl, 0, _, rfl, rfl⟩
        | some n => exact ⟨.int n, rfl, rfl, true, rfl, .int n, rfl, n, _, rfl, rfl⟩
      rintro σ1 H4 ⟨bb, yB, rfl, rfl⟩
      refine ⟨.ref r, rfl, r, _, rfl, .of d3, fun h1 nh1 => ?_⟩
      have h1p := bag_no B3 nh1
      have nh1H := b3.free nh1 h1p
      have b5 : But p H (L2.upd H4 h1 (.dK (kvR rs))) := b3.trans (Same.but (same_upd nh1))
      have B5 : Bag (L2.upd H4 h1 (.dK (kvR rs))) p := B3.same (same_upd nh1)
      have hh5 : (L2.upd H4 h1 (.dK (kvR rs))) h1 = some (.dK (kvR rs)) := upd_same
      have L5 : (L2.upd H4 h1 (.dK (kvR rs))) L = some (.lst ((rs.map Prod.fst).map V.str)) := same_upd nh1 _ _ L3
      generalize L2.upd H4 h1 (.dK (kvR rs)) = H5 at b5 B5 hh5 L5
      clear B3 b3 L3 d3 nh1
      refine ⟨.int bb, rfl, .int bb, rfl, bb, 1, rfl, rfl, .int bb, rfl, bb, 1, rfl, rfl, 10, 9, rfl, rfl, ⟨by decide, by decide, by decide⟩, by show 7 ≤ sizeLine; omega, fun M nM => ?_⟩
      have Mp := bag_no B5 nM
      have SM := same_upd nM (o := HO.lst [V.non, V.int bb, V.int (bb + 1), V.int (bb - 1), V.int 0, V.int 1, V.int (10 ^ (9 : Int).toNat)])
      have hM : (L2.upd H5 M (.lst [V.non, V.int bb, V.int (bb + 1), V.int (bb - 1), V.int 0, V.int 1, V.int (10 ^ (9 : Int).toNat)])) M = some (.lst [V.non, V.int bb, V.int (bb + 1), V.int (bb - 1), V.int 0, V.int 1, V.int (10 ^ (9 : Int).toNat)]) := upd_same
      generalize L2.upd H5 M (.lst [V.non, V.int bb, V.int (bb + 1), V.int (bb - 1), V.int 0, V.int 1, V.int (10 ^ (9 : Int).toNat)]) = H6 at SM hM
      refine ⟨.ref p, rfl, p, 7, rfl, B5.same SM, by decide, by decide, fun z H7 z0 z1 B7 b7 => ?_⟩
      obtain ⟨o, ho⟩ : ∃ o : Option Int, atI [V.non, V.int bb, V.int (bb + 1), V.int (bb - 1), V.int 0, V.int 1, V.int (10 ^ (9 : Int).toNat)] z = some (oInt o) := by
        have c2 : z = 0 ∨ z = 1 ∨ z = 2 ∨ z = 3 ∨ z = 4 ∨ z = 5 ∨ z = 6 := by omega
        rcases c2 with rfl | rfl | rfl | rfl | rfl | rfl | rfl
        · exact ⟨none, atI_nat (j := 0) rfl⟩
        · exact ⟨some _, atI_nat (j := 1) rfl⟩
        · exact ⟨some _, atI_nat (j := 2) rfl⟩
        · exact ⟨some _, atI_nat (j := 3) rfl⟩
        · exact ⟨some _, atI_nat (j := 4) rfl⟩
        · exact ⟨some _, atI_nat (j := 5) rfl⟩
        · exact ⟨some _, atI_nat (j := 6) rfl⟩
      have b7' := (b5.trans (Same.but SM)).trans b7
      have L7 := b7 _ _ (SM _ _ L5) Lp
      have hL1 : L ≠ h1 := ne_of L5 hh5 (fun z => by cases z)
      refine ⟨M, _, z, oInt o, rfl, rfl, sqOf (b7 _ _ hM Mp), ho, .ref h1, rfl, .str t, rfl, h1, _, rfl, DPut.k (k := Sum.inr t) (b7 _ _ (SM _ _ hh5) h1p) (by rw [kvR_len]; omega), ?_⟩
      rw [kvR_put]
      have b8 := put_off b7' nh1H (o := .dK (kvR (rkPut rs t o)))
      have B8 : Bag (L2.upd H7 h1 (.dK (kvR (rkPut rs t o)))) p := B7.put h1p
      have h8 : (L2.upd H7 h1 (.dK (kvR (rkPut rs t o)))) h1 = some (.dK (kvR (rkPut rs t o))) := upd_same
      have L8 : (L2.upd H7 h1 (.dK (kvR (rkPut rs t o)))) L = some (.lst ((rs.map Prod.fst).map V.str)) := by rw [upd_ne hL1]; exact L7
      have g8 := gr.put tt o
      generalize L2.upd H7 h1 (.dK (kvR (rkPut rs t o))) = H8 at b8 B8 h8 L8
      have lg := g8.l
      refine ⟨.ref j, rfl, .ref d, rfl, .str a, rfl, .ref h1, rfl, j, d, h1, a, es, _, rfl, hS.but hB b8, fun H' b => pa h1 _ H' nh1H b8 b, al, ht, h8, by omega, g8.t, g8.n, fun H9 S9 => ⟨true, rfl, ?_⟩⟩
      have b9 := b8.trans (Same.but S9)
      have B9 := B8.same S9
      have L9 := S9 _ _ L8
      clear b8 B8 h8 L8 g8 lg S9 L7 b7' b7 B7 hM SM nM Mp ho L5 hh5 b5 B5 hL1 nh1H h1p
      -- the key dropped, then another one
      have d9 := b9 _ _ hd rp
      refine ⟨.ref r, rfl, r, _, rfl, .of d9, fun h2 nh2 => ?_⟩
      have h2p := bag_no B9 nh2
      have nh2H := b9.free nh2 h2p
      have b5 : But p H (L2.upd H9 h2 (.dK (kvR rs))) := b9.trans (Same.but (same_upd nh2))
      have B5 : Bag (L2.upd H9 h2 (.dK (kvR rs))) p := B9.same (same_upd nh2)
      have hh5 : (L2.upd H9 h2 (.dK (kvR rs))) h2 = some (.dK (kvR rs)) := upd_same
      have L5 : (L2.upd H9 h2 (.dK (kvR rs))) L = some (.lst ((rs.map Prod.fst).map V.str)) := same_upd nh2 _ _ L9
      generalize L2.upd H9 h2 (.dK (kvR rs)) = HA at b5 B5 hh5 L5
      have hL2 : L ≠ h2 := ne_of L5 hh5 (fun z => by cases z)
      have ev : valV (kvR rs) (Sum.inr t) = some (oInt ro) := by rw [kvR_val, rkAt_mem gr.n hx]; rfl
      refine ⟨.ref h2, rfl, h2, rfl, .inl ⟨_, .of hh5⟩, .str t, rfl, kvR rs, Sum.inr t, oInt ro, hh5, rfl, ev, ?_⟩
      rw [kvR_drop]
      have bA := put_off b5 nh2H (o := .dK (kvR (rkDrop rs t)))
      have BA : Bag (L2.upd HA h2 (.dK (kvR (rkDrop rs t)))) p := B5.put h2p
      have hA : (L2.upd HA h2 (.dK (kvR (rkDrop rs t)))) h2 = some (.dK (kvR (rkDrop rs t))) := upd_same
      have LA : (L2.upd HA h2 (.dK (kvR (rkDrop rs t)))) L = some (.lst ((rs.map Prod.fst).map V.str)) := by rw [upd_ne hL2]; exact L5
      have gA := gr.drop t
      generalize L2.upd HA h2 (.dK (kvR (rkDrop rs t))) = HB at bA BA hA LA
      have lg := gA.l
      refine ⟨.ref j, rfl, .ref d, rfl, .str a, rfl, .ref h2, rfl, j, d, h2, a, es, _, rfl, hS.but hB bA, fun H' b => pa h2 _ H' nh2H bA b, al, ht, hA, by omega, gA.t, gA.n, fun HC SC => ⟨true, rfl, ?_⟩⟩
      have bC := bA.trans (Same.but SC)
      have BC := BA.same SC
      refine ⟨oInt ro, rfl, .ref h2, rfl, .str sp, rfl, h2, _, rfl, DPut.k (k := Sum.inr sp) (SC _ _ hA) (by rw [kvR_len]; omega), ?_⟩
      rw [kvR_put]
      have bD := put_off bC nh2H (o := .dK (kvR (rkPut (rkDrop rs t) sp ro)))
      have BD : Bag (L2.upd HC h2 (.dK (kvR (rkPut (rkDrop rs t) sp ro)))) p := BC.put h2p
      have hD : (L2.upd HC h2 (.dK (kvR (rkPut (rkDrop rs t) sp ro)))) h2 = some (.dK (kvR (rkPut (rkDrop rs t) sp ro))) := upd_same
      have LD : (L2.upd HC h2 (.dK (kvR (rkPut (rkDrop rs t) sp ro)))) L = some (.lst ((rs.map Prod.fst).map V.str)) := by rw [upd_ne hL2]; exact SC _ _ LA
      have gD := gA.put tsp ro
      generalize L2.upd HC h2 (.dK (kvR (rkPut (rkDrop rs t) sp ro))) = HD at bD BD hD LD
      have lg2 := gD.l
      refine ⟨.ref j, rfl, .ref d, rfl, .str a, rfl, .ref h2, rfl, j, d, h2, a, es, _, rfl, hS.but hB bD, fun H' b => pa h2 _ H' nh2H bD b, al, ht, hD, by omega, gD.t, gD.n, fun HE SE => ⟨true, rfl, ?_⟩⟩
      exact ⟨⟨_, _, _, _, _, rfl⟩, BD.same SE, bD.trans (Same.but SE), SE _ _ LD⟩
    · obtain ⟨⟨y7, y8, y9, yA, yB, rfl⟩, B3, b3, L3⟩ := hP
      have d3 := b3 _ _ hd rp
      refine ⟨.ref r, rfl, r, _, rfl, .of d3, fun h1 nh1 => ?_⟩
      have h1p := bag_no B3 nh1
      have nh1H := b3.free nh1 h1p
      have b5 : But p H (L2.upd H2 h1 (.dK (kvR rs))) := b3.trans (Same.but (same_upd nh1))
      have B5 : Bag (L2.upd H2 h1 (.dK (kvR rs))) p := B3.same (same_upd nh1)
      have hh5 : (L2.upd H2 h1 (.dK (kvR rs))) h1 = some (.dK (kvR rs)) := upd_same
      generalize L2.upd H2 h1 (.dK (kvR rs)) = H5 at b5 B5 hh5
      refine ⟨by show 2 ≤ sizeLine; omega, fun M nM => ?_⟩
      have Mp := bag_no B5 nM
      have SM := same_upd nM (o := HO.lst [V.non, V.int 0])
      have hM : (L2.upd H5 M (.lst [V.non, V.int 0])) M = some (.lst [V.non, V.int 0]) := upd_same
      generalize L2.upd H5 M (.lst [V.non, V.int 0]) = H6 at SM hM
      refine ⟨.ref p, rfl, p, 2, rfl, B5.same SM, by decide, by decide, fun z H7 z0 z1 B7 b7 => ?_⟩
      obtain ⟨o, ho⟩ : ∃ o : Option Int, atI [V.non, V.int 0] z = some (oInt o) := by
        have c2 : z = 0 ∨ z = 1 := by omega
        rcases c2 with rfl | rfl
        · exact ⟨none, atI_nat (j := 0) rfl⟩
        · exact ⟨some 0, atI_nat (j := 1) rfl⟩
      have b7' := (b5.trans (Same.but SM)).trans b7
      refine ⟨M, _, z, oInt o, rfl, rfl, sqOf (b7 _ _ hM Mp), ho, .ref h1, rfl, .str sp, rfl, h1, _, rfl, DPut.k (k := Sum.inr sp) (b7 _ _ (SM _ _ hh5) h1p) (by rw [kvR_len]; omega), ?_⟩
      rw [kvR_put]
      have b8 := put_off b7' nh1H (o := .dK (kvR (rkPut rs sp o)))
      have B8 : Bag (L2.upd H7 h1 (.dK (kvR (rkPut rs sp o)))) p := B7.put h1p
      have h8 : (L2.upd H7 h1 (.dK (kvR (rkPut rs sp o)))) h1 = some (.dK (kvR (rkPut rs sp o))) := upd_same
      have g8 := gr.put tsp o
      generalize L2.upd H7 h1 (.dK (kvR (rkPut rs sp o))) = H8 at b8 B8 h8
      have lg := g8.l
      exact ⟨.ref j, rfl, .ref d, rfl, .str a, rfl, .ref h1, rfl, j, d, h1, a, es, _, rfl, hS.but hB b8, fun H' b => pa h1 _ H' nh1H b8 b, al, ht, h8, by omega, g8.t, g8.n, fun H9 S9 => q H9 (B8.same S9) (b8.trans (Same.but S9))⟩
end
end Tb
namespace Tb
open PySem PySem.Spec PyProof.Rows L2
open PySem.W (AllAlike Sortable dataLe TotalLe)
abbrev sRanksHold : Stmt := topS 53
abbrev NRanksHold : List Str := ["bag", "joined", "plan", "address", "other", "spare", "due", "turned", "town"]
theorem scRanksHold : FnScope NRanksHold ["bag", "joined", "plan", "address", "other", "spare"] (defScope sRanksHold) := ⟨rfl, rfl, rfl, by decide +kernel, rfl, by decide +kernel, by decide +kernel⟩
/-! ### the number of rides, told by the lanes -/
inductive Ch (f : Str → V) : Str → Nat → Prop
  | here {t} : f t = .str wE → Ch f t 0
  | step {t w n} : f t = .str w → w ≠ wE → Ch f w n → Ch f t (n + 1)
theorem Ch.uniq {f : Str → V} {t : Str} {n : Nat} (a : Ch f t n) : ∀ {m : Nat}, Ch f t m → n = m := by
  induction a with
  | here h =>
    intro m b
    cases b with
    | here _ => rfl
    | step h2 n2 _ => rw [h] at h2; cases h2; exact absurd rfl n2
  | step h hn _ ih =>
    intro m b
    cases b with
    | here h2 => rw [h] at h2; cases h2; exact absurd rfl hn
    | step h2 n2 c => rw [h] at h2; cases h2; rw [ih c]
theorem path_ch {f : Str → V} : ∀ (n : Nat) (p : List Str) (l : Str), (pathF f n p l).2 = wHere → ∃ m, Ch f l m
  | 0, p, l, h => absurd h (show wLoop ≠ wHere by decide)
  | n + 1, p, l, h => by
    unfold pathF at h
    cases e : f l with
    | str w =>
      rw [e] at h
      dsimp only at h
      by_cases c : w = wE
      · exact ⟨0, .here (by rw [e, c])⟩
      · rw [if_neg c] at h
        by_cases d : w ∈ p ++ [l]
        · rw [if_pos d] at h
          exact absurd h (show wLoop ≠ wHere by decide)
        · rw [if_neg d] at h
          obtain ⟨m, hm⟩ := path_ch n _ _ h
          exact ⟨m + 1, .step e c hm⟩
    | _ =>
      rw [e] at h
      exact absurd h (show wNone ≠ wHere by decide)
theorem ch_path {pl : Pl} {a t : Str} : ∀ (m : Nat) {p : List Str} {l : Str} {n : Nat}, Way pl a t p l n → Ch (laneAt pl a) l m → (∀ y ∈ p, ∃ k, m < k ∧ Ch (laneAt pl a) y k) → (pth pl a t).2 = wHere ∧ (pth pl a t).1.length = p.length + 1 + m
  | 0, p, l, n, W, c, _ => by
    cases c with
    | here h =>
      rw [W.here h]
      exact ⟨rfl, by rw [List.length_append]; rfl⟩
  | m + 1, p, l, n, W, c, hp => by
    cases c with
    | step h hn c2 =>
      next w =>
      have all : ∀ y ∈ p ++ [l], ∃ k, m < k ∧ Ch (laneAt pl a) y k := fun y hy => by
        rcases List.mem_append.mp hy with h1 | h1
        · obtain ⟨k, hk, hc⟩ := hp y h1
          exact ⟨k, by omega, hc⟩
        · rw [List.mem_singleton.mp h1]
          exact ⟨m + 1, by omega, .step h hn c2⟩
      have nw : w ∉ p ++ [l] := fun z => by
        obtain ⟨k, hk, hc⟩ := all w z
        have := c2.uniq hc
        omega
      obtain ⟨_, _, W2⟩ := W.next h hn nw
      obtain ⟨r1, r2⟩ := ch_path m W2 c2 all
      refine ⟨r1, ?_⟩
      rw [r2, List.length_append]
      show p.length + 1 + 1 + m = _
      omega
theorem rank_ch {pl : Pl} {a t : Str} {m : Nat} (c : Ch (laneAt pl a) t m) : rankO pl a t = some (m : Int) := by
  obtain ⟨h1, h2⟩ := ch_path m (Way.zero pl a t) c (fun y h => by cases h)
  unfold rankO
  rw [if_pos h1, h2]
  congr 1
  show (((0 + 1 + m : Nat) : Int) - 1) = _
  omega
theorem rank_no {pl : Pl} {a t : Str} (c : ¬ ∃ m, Ch (laneAt pl a) t m) : rankO pl a t = none := by
  unfold rankO
  exact if_neg fun h => c (path_ch _ _ _ h)
theorem rank_by {pl : Pl} {a t : Str} {rs : Rk} (h : ∀ w, laneAt pl a t = .str w → w ≠ wE → rkAt rs w = some (rankO pl a w)) : rankO pl a t = rankBy (laneAt pl a t) rs := by
  rcases lane_str pl a t with e | ⟨w, e⟩
  · rw [e, rank_no (fun ⟨m, c⟩ => by cases c with
      | here h => rw [e] at h; cases h
      | step h _ _ => rw [e] at h; cases h)]
    rfl
  · by_cases c : w = wE
    · rw [e, rank_ch (m := 0) (.here (by rw [e, c]))]
      show _ = (if w = wE then some 0 else _)
      rw [if_pos c]
      rfl
    · have hw := h w e c
      rw [e]
      show _ = (if w = wE then some 0 else match rkAt rs w with | some (some n) => some (n + 1) | _ => none)
      rw [if_neg c, hw]
      by_cases d : ∃ m, Ch (laneAt pl a) w m
      · obtain ⟨m, d⟩ := d
        rw [rank_ch d, rank_ch (.step e c d)]
        rfl
      · rw [rank_no d, rank_no (fun ⟨m, z⟩ => by cases z with
          | here h => rw [e] at h; cases h; exact absurd rfl c
          | step h _ z => rw [e] at h; cases h; exact d ⟨_, z⟩)]
theorem chk_true {pl : Pl} {a : Str} {rs : Rk} {xs : List Str} (hp : (rs.map Prod.fst).Perm xs) (sx : Srt xs) (mx : ∀ x, x ∈ xs ↔ isSta pl x) (hv : ∀ r ∈ rs, r.2 = rankO pl a r.1) : chk pl a rs xs = true := by
  have nd : (rs.map Prod.fst).Nodup := hp.nodup_iff.mpr sx.1
  have e : (rs.map Prod.fst).mergeSort le1 = xs := srt_uniq ⟨(List.mergeSort_perm _ _).nodup_iff.mpr nd, PySem.W.sort_pairwise le1_total _⟩ sx fun x => List.mem_mergeSort.trans hp.mem_iff
  unfold chk
  rw [decide_eq_true e, Bool.true_and, List.all_eq_true]
  refine fun r hr => decide_eq_true ?_
  rw [hv r hr]
  refine rank_by fun w hw n => ?_
  have m := hp.mem_iff.mpr ((mx w).mpr (lane_sta hw n))
  obtain ⟨u, hu, rfl⟩ := List.mem_map.mp m
  rw [rkAt_mem nd hu, hv u hu]
theorem sta_len {pl : Pl} {xs : List Str} (n : xs.Nodup) (h : ∀ x ∈ xs, isSta pl x) : xs.length ≤ pl.length + tot pl := by
  have := sub_len xs (pl.map Prod.fst ++ pl.flatMap fun e => e.2.map Prod.snd) n fun x hx => by
    rcases h x hx with h | ⟨e, he, r, hr, e1, _⟩
    · exact List.mem_append_left _ h
    · exact List.mem_append_right _ (List.mem_flatMap.mpr ⟨e, he, List.mem_map.mpr ⟨r, hr, e1⟩⟩)
  rw [List.length_append, List.length_map, List.length_flatMap] at this
  unfold tot
  rw [show (pl.map fun x => x.2.length) = pl.map fun e => (e.2.map Prod.snd).length from List.map_congr_left fun e _ => (List.length_map _).symm]
  exact this
def spRanksHold (C CS : Addr) : Sp := fun vs H Q _ => ∃ (p j d : Addr) (a b s : Str) (es : List En), vs = [.ref p, .ref j, .ref d, .str a, .str b, .str s] ∧ Bag H p ∧ SortOf C CS H j (plOf es) ∧ PlanAt H d es ∧ a.length ≤ 1000 ∧ b.length ≤ 1000 ∧ es.length ≤ 100 ∧ tot (plOf es) ≤ 300 ∧ Tx s ∧ ∀ H', Bag H' p → But p H H' → Q (.bl true) H'
section
variable {P : Program} {w : World} {K : PySem.W.Frag} {mg : Str → Option Value} {base : Heap}
theorem ok_rankshold {f g1 g2 g3 g4 g5 g6 g7 C CS : Addr} {fd gd1 gd2 gd3 gd4 gd5 gd6 gd7 : FuncData} (F : Fun K "_law_ranks_hold" "_law_ranks_hold" sRanksHold f fd) (B : Blt mg) (cLRanks : C1 P w K mg base "_law_ranks" sLRanks ["plan", "address"] 3 spLRanks g1 gd1) (cRanksAre : C1 P w K mg base "_law_ranks_are" sRanksAre ["joined", "address", "due"] 7 (spRanksAre C CS) g2 gd2) (cLFits : C1 P w K mg base "_law_fits" sLFits ["plan", "address", "ranks"] 2 spLFits g3 gd3) (cCheckR : C1 P w K mg base "check_ranks" sCheckR ["sorting", "address", "ranks"] 5 (spCheckR C CS) g4 gd4) (cJudged : C1 P w K mg base "_law_judged" sJudged ["joined", "plan", "address", "ranks"] 6 (spJudged C CS) g5 gd5)
    (cBent : C1 P w K mg base "_law_bent" sBent ["bag", "joined", "plan", "address", "due", "spare"] 7 (spBent C CS) g6 gd6) (cDrawnR : C1 P w K mg base "_law_drawn_ranks" sDrawnR ["bag", "joined", "plan", "address", "due"] 7 (spDrawnR C CS) g7 gd7) : FnOk P w K mg base CX0 8 f fd ["bag", "joined", "plan", "address", "other", "spare"] (spRanksHold C CS) := by
  refine F.ok scRanksHold (fun vs H Q E h => ?_) (fun cdv A outer s H vs Q E hr h => ?_)
  · obtain ⟨p, j, d, a, b, sp, es, rfl, _⟩ := h
    rfl
  · obtain ⟨p, j, d, a, b, sp, es, rfl, hB, hS, hP0, al, bl, le, ht, tsp, q⟩ := h
    have hu := hu_of hr
    have hz : sizeLine = 16777216 := rfl
    have pl := plOf_len es
    have g := hP0.g
    refine ⟨_, (pss_cons (ps_set (i := 6) scRanksHold.nd rfl (.inl rfl) (pe_call cLRanks.G (hr.mono (by first | decide | omega)) (by rfl) cLRanks.D.g cLRanks.D.F.kp cLRanks.D.b .nil pass0 (pa_cons (pv 2) (pa_cons (pv 3) pa_nil))))
      (pss_cons (ps_if (PW.pt (pw_or (pt_not (pt_val (pe_call cRanksAre.G (hr.mono (by first | decide | omega)) (by rfl) cRanksAre.D.g cRanksAre.D.F.kp cRanksAre.D.b .nil pass0 (pa_cons (pv 1) (pa_cons (pv 3) (pa_cons (pv 6) pa_nil)))))) (pw_or1 (pt_not (pt_val (pe_call cRanksAre.G (hr.mono (by first | decide | omega)) (by rfl) cRanksAre.D.g cRanksAre.D.F.kp cRanksAre.D.b .nil pass0 (pa_cons (pv 1) (pa_cons (pv 3) (pa_cons (pv 6) pa_nil)))))))))
        (pss_one (ps_ret pe_bl))
        pss_nil)
      (pss_cons (ps_set (i := 7) scRanksHold.nd rfl (.inl rfl) pe_dnewK)
      (pss_cons (ps_for PassesOwn.never rfl (pi_list (pe_revL (pe_callTy (call_listD rfl) (by rfl) B.list PyProof.Rows.boot_list (pa_cons (pv 6) pa_nil)))) (pg_name (i := 8) scRanksHold.nd rfl (.inl rfl))
        (pss_one (ps_dput hu (pv 7) (pv 8) (pe_dget hu (pv 6) (pv 8) (fun _ _ => rfl)) (by rfl))))
      (pss_cons (ps_if (PW.pt (pw_or (pt_not (pt_val (pe_call cLFits.G (hr.mono (by first | decide | omega)) (by rfl) cLFits.D.g cLFits.D.F.kp cLFits.D.b .nil pass0 (pa_cons (pv 2) (pa_cons (pv 3) (pa_cons (pv 6) pa_nil)))))) (pw_or1 (pt_cmpR op_notBl (pe_call cCheckR.G (hr.mono (by first | decide | omega)) (by rfl) cCheckR.D.g cCheckR.D.F.kp cCheckR.D.b .nil pass0 (pa_cons (pv 1) (pa_cons (pv 3) (pa_cons (pv 7) pa_nil)))) pe_bl (nomark _)))))
        (pss_one (ps_ret pe_bl))
        pss_nil)
      (pss_cons (ps_if (pt_not (pt_val (pe_call cJudged.G (hr.mono (by first | decide | omega)) (by rfl) cJudged.D.g cJudged.D.F.kp cJudged.D.b .nil pass0 (pa_cons (pv 1) (pa_cons (pv 2) (pa_cons (pv 3) (pa_cons (pe_call cLRanks.G (hr.mono (by first | decide | omega)) (by rfl) cLRanks.D.g cLRanks.D.F.kp cLRanks.D.b .nil pass0 (pa_cons (pv 2) (pa_cons (pv 4) pa_nil))) pa_nil)))))))
        (pss_one (ps_ret pe_bl))
        pss_nil)
      (pss_cons (ps_if (pt_not (pt_val (pe_call cBent.G (hr.mono (by first | decide | omega)) (by rfl) cBent.D.g cBent.D.F.kp cBent.D.b .nil pass0 (pa_cons (pv 0) (pa_cons (pv 1) (pa_cons (pv 2) (pa_cons (pv 3) (pa_cons (pv 6) (pa_cons (pv 5) pa_nil)))))))))
        (pss_one (ps_ret pe_bl))
        pss_nil)
      (pss_one (ps_ret (pe_call cDrawnR.G (hr.mono (by first | decide | omega)) (by rfl) cDrawnR.D.g cDrawnR.D.F.kp cDrawnR.D.b .nil pass0 (pa_cons (pv 0) (pa_cons (pv 1) (pa_cons (pv 2) (pa_cons (pv 3) (pa_cons (pv 6) pa_nil))))))))))))))), ?_⟩
    refine ⟨.ref d, rfl, .str a, rfl, d, a, es, rfl, hP0, al, by omega, fun R xs H1 S1 nR hR sx mx lx => ?_⟩
    have sl := sta_len sx.1 fun x hx => (mx x).mp hx
    have ek := ranksL_keys (plOf es) a xs
    have lrs : (ranksL (plOf es) a xs).length = xs.length := by rw [← List.length_map (f := Prod.fst), ek]
    have gr : GR 400 (ranksL (plOf es) a xs) := ⟨by omega, fun r hr => sta_tx g ((mx r.1).mp (by rw [← ek]; exact List.mem_map.mpr ⟨r, hr, rfl⟩)), by rw [ek]; exact sx.1⟩
    have vals : ∀ r ∈ ranksL (plOf es) a xs, r.2 = rankO (plOf es) a r.1 := fun r hr => by
      obtain ⟨x, _, rfl⟩ := List.mem_map.mp hr
      rfl
    refine ⟨.ref j, rfl, .str a, rfl, .ref R, rfl, j, R, a, plOf es, xs, rfl, hS.same S1, al, by omega, by omega, hR, sx, mx, lx, fun H2 S2 => ⟨true, rfl, ?_⟩⟩
    have S02 := S1.trans S2
    refine ⟨.ref j, rfl, .str a, rfl, .ref R, rfl, j, R, a, plOf es, xs, rfl, hS.same S02, al, by omega, by omega, S2 _ _ hR, sx, mx, lx, fun H3 S3 => ⟨true, rfl, ?_⟩⟩
    have S03 := S02.trans S3
    have hR3 := S3 _ _ (S2 _ _ hR)
    clear S02 S1 S2 S3 hR
    intro G nG
    have nGH := S03.free nG
    have S4 : Same H3 (L2.upd H3 G (.dK [])) := same_upd nG
    have hG4 : (L2.upd H3 G (.dK [])) G = some (.dK (kvR [])) := upd_same
    generalize L2.upd H3 G (.dK []) = H4 at S4 hG4
    have hR4 := S4 _ _ hR3
    have GR' : G ≠ R := fun z => by rw [z, hR3] at nG; cases nG
    refine ⟨.ref R, rfl, R, _, rfl, .of hR4, fun p1 np1 => ?_⟩
    have S5 : Same H4 (L2.upd H4 p1 (.lst ((kvR (ranksL (plOf es) a xs)).map fun kv => kV kv.1))) := same_upd np1
    refine ⟨p1, _, rfl, sqOf upd_same, fun p2 np2 => ⟨p2, rfl, ⟨_, sqOf upd_same⟩, ?_⟩⟩
    have S6 := S5.trans (same_upd np2 (o := .lst ((kvR (ranksL (plOf es) a xs)).map fun kv => kV kv.1).reverse))
    have hp2 : (L2.upd (L2.upd H4 p1 (.lst ((kvR (ranksL (plOf es) a xs)).map fun kv => kV kv.1))) p2 (.lst ((kvR (ranksL (plOf es) a xs)).map fun kv => kV kv.1).reverse)) p2 = some (.lst (((ranksL (plOf es) a xs).reverse.map Prod.fst).map V.str)) := by
      rw [upd_same, List.map_reverse, List.map_reverse]
      unfold kvR
      rw [List.map_map, List.map_map]
      rfl
    have hG6 := S6 _ _ hG4
    generalize L2.upd (L2.upd H4 p1 (.lst ((kvR (ranksL (plOf es) a xs)).map fun kv => kV kv.1))) p2 (.lst ((kvR (ranksL (plOf es) a xs)).map fun kv => kV kv.1).reverse) = H6 at S6 hp2 hG6
    have hR6 := S6 _ _ hR4
    have Gp2 : G ≠ p2 := ne_of hG6 hp2 (fun z => by cases z)
    have S06 : Same H H6 := (S03.trans S4).trans S6
    clear S6 S5 S4 hG4 hR4 np1 np2
    let rr := (ranksL (plOf es) a xs).reverse
    have rrk : (rr.map Prod.fst).Nodup := by
      show ((ranksL (plOf es) a xs).reverse.map Prod.fst).Nodup
      rw [List.map_reverse, ek]
      exact (List.reverse_perm xs).nodup_iff.mpr sx.1
    have rrl : rr.length = xs.length := by show (ranksL (plOf es) a xs).reverse.length = _; rw [List.length_reverse, lrs]
    refine for_it (walk_list (a := p2) (xs := (rr.map Prod.fst).map V.str)) (fun i σ H' => (∃ y8, σ = [some (.ref p), some (.ref j), some (.ref d), some (.str a), some (.str b), some (.str sp), some (.ref R), some (.ref G), y8]) ∧ Same H H' ∧ H' p2 = some (.lst ((rr.map Prod.fst).map V.str)) ∧ H' R = some (.dK (kvR (ranksL (plOf es) a xs))) ∧ H' G = some (.dK (kvR (rr.take i))))
      ⟨⟨none, rfl⟩, S06, hp2, hR6, hG6⟩ (fun i σ H' _ hP => sqOf hP.2.2.1) (fun i v σ H7 H8 hi hP hy => ?_) (fun σ H7 hP => ?_)
    · obtain ⟨⟨y8, rfl⟩, S7, p7, R7, G7⟩ := hP
      obtain ⟨rfl, ev⟩ := hy
      rw [List.getElem?_map, List.getElem?_map] at ev
      cases er : rr[i]? with
      | none => rw [er] at ev; cases ev
      | some x =>
      rw [er] at ev
      cases (Option.some.inj ev)
      have i2 : i < rr.length := (List.getElem?_eq_some_iff.mp er).1
      have mx' : x ∈ ranksL (plOf es) a xs := List.mem_reverse.mp (List.mem_of_getElem? er)
      have dg : DGet H8 R (.str x.1) (some (oInt x.2)) := by
        have := kvR_val (ranksL (plOf es) a xs) x.1
        rw [rkAt_mem gr.n mx'] at this
        rw [show some (oInt x.2) = valV (kvR (ranksL (plOf es) a xs)) (Sum.inr x.1) from this.symm]
        exact DGet.k (k := Sum.inr x.1) R7
      have nt : x.1 ∉ (rr.take i).map Prod.fst := fun m => by
        rw [List.map_take] at m
        obtain ⟨n, hn', en⟩ := List.mem_take_iff_getElem.mp m
        have h1 : i < (rr.map Prod.fst).length := by rw [List.length_map]; exact i2
        have h2 : (rr.map Prod.fst)[i]'h1 = x.1 := by
          rw [List.getElem_map]
          exact congrArg Prod.fst (List.getElem?_eq_some_iff.mp er).2
        have := (List.getElem_inj rrk).mp (en.trans h2.symm)
        omega
      refine ⟨.ref R, rfl, .str x.1, rfl, R, oInt x.2, rfl, dg, .ref G, rfl, .str x.1, rfl, G, _, rfl, DPut.k (k := Sum.inr x.1) G7 (by rw [kvR_len, List.length_take]; omega), ?_⟩
      rw [kvR_snoc nt, show rr.take i ++ [(x.1, x.2)] = rr.take (i + 1) by rw [List.take_add_one, er]; rfl]
      exact ⟨⟨_, rfl⟩, fun c o hc => by rw [upd_ne (ne_of_none hc nGH)]; exact S7 _ _ hc, by rw [upd_ne (Ne.symm Gp2)]; exact p7, by rw [upd_ne (Ne.symm GR')]; exact R7, upd_same⟩
    · obtain ⟨⟨y8, rfl⟩, S7, p7, R7, G7⟩ := hP
      rw [List.length_map, List.length_map, List.take_length] at G7
      have hper : (rr.map Prod.fst).Perm xs := by
        show ((ranksL (plOf es) a xs).reverse.map Prod.fst).Perm xs
        rw [List.map_reverse, ek]
        exact List.reverse_perm xs
      refine ⟨.ref d, rfl, .str a, rfl, .ref R, rfl, d, R, a, es, ranksL (plOf es) a xs, rfl, fun H' b => hP0.same fun c o hc => b _ _ (S7 _ _ hc) (ne_of_none hc nR), al, by omega, R7, by omega, gr.t, gr.n, fun xs2 H8 S8 sx2 mx2 => ?_⟩
      obtain rfl := srt_uniq sx sx2 fun x => (mx x).trans (mx2 x).symm
      rw [chk_true (by rw [ek]) sx mx vals]
      refine ⟨true, rfl, ?_⟩
      have S08 := S7.trans S8
      refine ⟨.ref j, rfl, .str a, rfl, .ref G, rfl, j, G, a, plOf es, rr, rfl, fun H' b => hS.same fun c o hc => b _ _ (S08 _ _ hc) (ne_of_none hc nGH), al, by omega, S8 _ _ G7, by omega, fun r hr => gr.t r (List.mem_reverse.mp hr), fun xs3 H9 S9 sx3 mx3 => ?_⟩
      obtain rfl := srt_uniq sx sx3 fun x => (mx x).trans (mx3 x).symm
      rw [chk_true hper sx mx fun r hr => vals r (List.mem_reverse.mp hr)]
      refine ⟨_, _, rfl, rfl, _, rfl, ?_⟩
      have S09 := S08.trans S9
      have R9 := S9 _ _ (S8 _ _ R7)
      clear S8 S9 S08 S7 p7 R7 G7
      refine ⟨.ref j, rfl, .ref d, rfl, .str a, rfl, .ref d, rfl, .str b, rfl, d, b, es, rfl, hP0.same S09, bl, by omega, fun R2 ys HA SA nR2 hR2 sy my ly => ?_⟩
      have S0A := S09.trans SA
      have nR2H := S09.free nR2
      have ek2 := ranksL_keys (plOf es) b ys
      have lr2 : (ranksL (plOf es) b ys).length = ys.length := by rw [← List.length_map (f := Prod.fst), ek2]
      refine ⟨j, d, R2, a, es, ranksL (plOf es) b ys, rfl, hS.same S0A, fun H' b => hP0.same fun c o hc => b _ _ (S0A _ _ hc) (ne_of_none hc nR2H), al, by omega, hR2, by omega, fun r hr => sta_tx g ((my r.1).mp (by rw [← ek2]; exact List.mem_map.mpr ⟨r, hr, rfl⟩)), by rw [ek2]; exact sy.1, fun HB SB => ⟨true, rfl, ?_⟩⟩
      have S0B := S0A.trans SB
      have RB := SB _ _ (SA _ _ R9)
      refine ⟨.ref p, rfl, .ref j, rfl, .ref d, rfl, .str a, rfl, .ref R, rfl, .str sp, rfl, p, j, d, R, a, sp, es, ranksL (plOf es) a xs, rfl, hB.same S0B, hS.same S0B, hP0.same S0B, al, by omega, RB, gr, tsp, fun HC BC bC => ⟨true, rfl, ?_⟩⟩
      have Rp := bag_no hB nR
      have b0C := (Same.but S0B).trans bC (p := p)
      exact ⟨.ref p, rfl, .ref j, rfl, .ref d, rfl, .str a, rfl, .ref R, rfl, p, j, d, R, a, es, ranksL (plOf es) a xs, rfl, BC, hS.but hB b0C, hP0.but hB b0C, al, by omega, bC _ _ RB Rp, gr, fun HD BD bD => q HD BD (b0C.trans bD)⟩
end
end Tb
namespace Tb
open PySem PySem.Spec PyProof.Rows L2
open PySem.W (AllAlike Sortable dataLe TotalLe)
abbrev sLaw : Stmt := topS 56
abbrev NLaw : List Str := ["script", "bag", "start", "towns", "plan", "joined", "stems", "loads", "asked", "clean", "town", "address", "drawn", "spare", "some", "k"]
theorem scLaw : FnScope NLaw ["script"] (defScope sLaw) := ⟨rfl, rfl, rfl, by decide +kernel, rfl, by decide +kernel, by decide +kernel⟩
def spLaw (K : PySem.W.Frag) : Sp := fun vs H Q _ => ∃ (a : Addr) (ns : List Int), vs = [.ref a] ∧ SqL K H a (ns.map V.int) ∧ ∀ H', Q (.bl true) H'
theorem sort_made2 {C CS : Addr} {H : Hp} {d x dx : Addr} {es : List En} {R : VK} {E : XK} (T : TabsAt C H d es) (g : GoodPl (plOf es)) (h1 : tot (plOf es) ≤ 300) (h2 : es.length ≤ 100) (nx : H x = none) (ndx : H dx = none) (hne : dx ≠ x) (q : ∀ H', Same H H' → SortOf C CS H' x (plOf es) → R .non H') :
    spSInit C CS [V.ref x, V.ref d] (upd (upd H dx (.own x)) x (.ins CS dx [])) R E := by
  have S0 : Same H (upd (upd H dx (.own x)) x (.ins CS dx [])) := (same_upd ndx).trans (same_upd (by rw [upd_ne (Ne.symm hne)]; exact nx))
  exact ⟨x, dx, d, es, rfl, upd_same, T.same S0, g, h1, h2, fun H' b S => q H' (fun c o hc => b c o (S0 _ _ hc) (ne_of_none hc nx)) S⟩
def rLenQ (K : PySem.W.Frag) : List V → Hp → VK → Prop := fun xs H Q => ∃ p ys, xs = [V.ref p] ∧ (SqL K H p ys ∨ SqT K H p ys) ∧ Q (V.int (ys.length : Int)) H
theorem cut_map (ts : List Str) (lo hi : Option Int) : ∃ us : List Str, cutV (ts.map V.str) lo hi = us.map V.str ∧ (∀ x ∈ us, x ∈ ts) ∧ us.length ≤ ts.length := by
  refine ⟨(ts.drop (HT.sIx (ts.map V.str).length 0 lo)).take (HT.sIx (ts.map V.str).length (ts.map V.str).length hi - HT.sIx (ts.map V.str).length 0 lo), ?_, fun x hx => List.mem_of_mem_drop (List.mem_of_mem_take hx), ?_⟩
  · unfold cutV
    rw [List.map_take, List.map_drop]
  · rw [List.length_take, List.length_drop]
    omega
theorem flt_nil {pl : Pl} {as ts : List Str} : fltL pl as ts = [] ↔ ∀ t ∈ ts, ∀ a ∈ as, (pth pl a t).2 = wHere := by
  unfold fltL fltT
  rw [List.flatMap_eq_nil_iff]
  refine forall_congr' fun t => forall_congr' fun _ => ?_
  rw [List.flatMap_eq_nil_iff]
  refine forall_congr' fun a => forall_congr' fun _ => ?_
  split
  · next h => exact ⟨fun _ => h, fun _ => rfl⟩
  · next h => exact ⟨(fun z => by cases z), fun z => absurd z h⟩
theorem eqv_nilL {xs : List PyData} : PyData.eqv (.list xs) (.list []) = decide (xs = []) := by
  cases xs <;> rfl
structure Z7 (C CS : Addr) (H : Hp) (p l d j s t : Addr) (es : List En) (ts ms : List Str) : Prop where
  bag : Bag H p
  tw : Tw H l ts
  pl : PlanAt H d es
  so : SortOf C CS H j (plOf es)
  st : H s = some (.lst (ms.map V.str))
  lo : H t = some (.lst ((testsL ms).map V.str))
  sp : s ≠ p
  tp : t ≠ p
theorem Z7.same {C CS : Addr} {H H' : Hp} {p l d j s t : Addr} {es : List En} {ts ms : List Str} (Z : Z7 C CS H p l d j s t es ts ms) (S : Same H H') : Z7 C CS H' p l d j s t es ts ms :=
  ⟨Z.bag.same S, Z.tw.same S, Z.pl.same S, Z.so.same S, S _ _ Z.st, S _ _ Z.lo, Z.sp, Z.tp⟩
theorem Z7.draw {C CS : Addr} {H H' : Hp} {p l d j s t : Addr} {es : List En} {ts ms : List Str} (Z : Z7 C CS H p l d j s t es ts ms) (B : Bag H' p) (b : But p H H') : Z7 C CS H' p l d j s t es ts ms :=
  ⟨B, Z.tw.but Z.bag b, Z.pl.but Z.bag b, Z.so.but Z.bag b, b _ _ Z.st Z.sp, b _ _ Z.lo Z.tp, Z.sp, Z.tp⟩
structure LaC (P : Program) (w : World) (K : PySem.W.Frag) (mg : Str → Option Value) (base : Heap) (C CS : Addr) : Prop where
  bag : ∃ g gd, C1 P w K mg base "_law_bag" sBag ["script"] 1 (spBag K) g gd
  draw : ∃ g gd, CDraw P w K mg base g gd
  start : ∃ g gd, C1 P w K mg base "_law_start" sStart ["bag", "shape"] 4 spStart g gd
  tables : ∃ g gd, C1 P w K mg base "_law_tables" sTables ["plan"] 6 (spTables C) g gd
  stems : ∃ g gd, C1 P w K mg base "_law_stems" sStems ["plan"] 1 spStems g gd
  lunm : ∃ g gd, C1 P w K mg base "_law_unmarked" sLUnm ["stems"] 1 spLUnm g gd
  lpath : ∃ g gd, C1 P w K mg base "_law_path" sLPath ["plan", "town", "address"] 2 spLPath g gd
  pref : ∃ g gd, C1 P w K mg base "_law_prefix" sPrefix ["bag", "known"] 2 spPrefix g gd
  fresh : ∃ g gd, C1 P w K mg base "_law_fresh_name" sFresh ["bag", "known"] 2 spFresh g gd
  marks : ∃ g gd, C1 P w K mg base "_law_marks_are" sMarksAre ["joined", "stems", "addresses"] 3 (spMarksAre C CS) g gd
  asked : ∃ g gd, C1 P w K mg base "_law_asked" sAsked ["bag", "plan", "towns"] 2 spAsked g gd
  flt : ∃ g gd, C1 P w K mg base "_law_faults_are" sFaultsAre ["joined", "plan", "asked", "addresses"] 7 (spFaultsAre C CS) g gd
  one : ∃ g gd, C1 P w K mg base "_law_one_address" sOneAddr ["joined", "plan", "asked", "stems", "address", "clean"] 6 (spOneAddr C CS) g gd
  hold : ∃ g gd, C1 P w K mg base "_law_ranks_hold" sRanksHold ["bag", "joined", "plan", "address", "other", "spare"] 8 (spRanksHold C CS) g gd
  faults : ∃ f fd, Meth K CS "faults" f ∧ Binds K fd ["self", "sites"] [] ∧ FnOk P w K mg base CX0 6 f fd ["self", "sites"] (spSFaults K C CS)
section
variable {P : Program} {w : World} {K : PySem.W.Frag} {mg : Str → Option Value} {base : Heap}
theorem ok_law {f C CS : Addr} {fd : FuncData} (F : Fun K "law" "law" sLaw f fd) (B : Blt mg) (SK : SortK P w K mg base C CS) (LC : LaC P w K mg base C CS) : FnOk P w K mg base CX0 10 f fd ["script"] (spLaw K) := by
  have SC := SK.S
  have gS := SK.g
  obtain ⟨fS, fdS, MKS, bS, GS⟩ := SK.make
  obtain ⟨_, _, cBag⟩ := LC.bag
  obtain ⟨_, _, cDraw⟩ := LC.draw
  obtain ⟨_, _, cStart⟩ := LC.start
  obtain ⟨_, _, cTables⟩ := LC.tables
  obtain ⟨_, _, cStems⟩ := LC.stems
  obtain ⟨_, _, cLUnm⟩ := LC.lunm
  obtain ⟨_, _, cLPath⟩ := LC.lpath
  obtain ⟨_, _, cPrefix⟩ := LC.pref
  obtain ⟨_, _, cFresh⟩ := LC.fresh
  obtain ⟨_, _, cMarksAre⟩ := LC.marks
  obtain ⟨_, _, cAsked⟩ := LC.asked
  obtain ⟨_, _, cFaultsAre⟩ := LC.flt
  obtain ⟨_, _, cOneAddr⟩ := LC.one
  obtain ⟨_, _, cRanksHold⟩ := LC.hold
  obtain ⟨fF, fdF, SFm, bFs, FFs⟩ := LC.faults
  refine F.ok scLaw (fun vs H Q E h => ?_) (fun cdv A outer s H vs Q E hr h => ?_)
  · obtain ⟨a, ns, rfl, _⟩ := h
    rfl
  · obtain ⟨a, ns, rfl, hS, q⟩ := h
    have hz : sizeLine = 16777216 := rfl
    refine ⟨_, (pss_cons (ps_set (i := 1) scLaw.nd rfl (.inr rfl) (pe_call cBag.G (hr.mono (by first | decide | omega)) (by rfl) cBag.D.g cBag.D.F.kp cBag.D.b .nil pass0 (pa_cons (pv 0) pa_nil)))
      (pss_cons (ps_set (i := 2) scLaw.nd rfl (.inl rfl) (pe_call cStart.G (hr.mono (by first | decide | omega)) (by rfl) cStart.D.g cStart.D.F.kp cStart.D.b .nil pass0 (pa_cons (pv 1) (pa_cons (pe_call cDraw.G (hr.mono (by first | decide | omega)) (by rfl) cDraw.D.g cDraw.D.F.kp cDraw.D.b .nil pass0 (pa_cons (pv 1) (pa_cons pe_int pa_nil))) pa_nil))))
      (pss_cons (ps_set (i := 3) scLaw.nd rfl (.inl rfl) (pe_ix ix_tup (pv 2) pe_int (fun _ _ => rfl)))
      (pss_cons (ps_set (i := 4) scLaw.nd rfl (.inl rfl) (pe_ix ix_tup (pv 2) pe_int (fun _ _ => rfl)))
      (pss_cons (ps_set (i := 5) scLaw.nd rfl (.inl rfl) (pe_make MKS GS (hr.mono (by first | decide | omega)) (by rfl) gS bS .nil pass0 (pa_cons (pe_call cTables.G (hr.mono (by first | decide | omega)) (by rfl) cTables.D.g cTables.D.F.kp cTables.D.b .nil pass0 (pa_cons (pv 4) pa_nil)) pa_nil)))
      (pss_cons (ps_set (i := 6) scLaw.nd rfl (.inr rfl) (pe_call cStems.G (hr.mono (by first | decide | omega)) (by rfl) cStems.D.g cStems.D.F.kp cStems.D.b .nil pass0 (pa_cons (pv 4) pa_nil)))
      (pss_cons (ps_set (i := 7) scLaw.nd rfl (.inl rfl) (pe_callTy call_list_of (by rfl) B.list PyProof.Rows.boot_list (pa_cons (pv 6) pa_nil)))
      (C8.pss_cut (ps_if (pt_cmpR op_notN (pe_call cLUnm.G (hr.mono (by first | decide | omega)) (by rfl) cLUnm.D.g cLUnm.D.F.kp cLUnm.D.b .nil pass0 (pa_cons (pv 6) pa_nil)) pe_non (nomark _))
        (pss_one (ps_expr (pe_bm PySem.F.plainAttrs_list PySem.F.slot_list_append PySem.F.type_list_append mt_append (pv 7) (pa_cons (pe_call cLUnm.G (hr.mono (by first | decide | omega)) (by rfl) cLUnm.D.g cLUnm.D.F.kp cLUnm.D.b .nil pass0 (pa_cons (pv 6) pa_nil)) pa_nil))))
        pss_nil)
      (pss_cons (ps_if (pt_not (pt_val (pe_call cMarksAre.G (hr.mono (by first | decide | omega)) (by rfl) cMarksAre.D.g cMarksAre.D.F.kp cMarksAre.D.b .nil pass0 (pa_cons (pv 5) (pa_cons (pv 6) (pa_cons (pv 7) pa_nil))))))
        (pss_one (ps_ret pe_bl))
        pss_nil)
      (pss_cons (ps_set (i := 8) scLaw.nd rfl (.inl rfl) (pe_call cAsked.G (hr.mono (by first | decide | omega)) (by rfl) cAsked.D.g cAsked.D.F.kp cAsked.D.b .nil pass0 (pa_cons (pv 1) (pa_cons (pv 4) (pa_cons (pv 3) pa_nil)))))
      (pss_cons (ps_if (pt_not (pt_val (pe_call cFaultsAre.G (hr.mono (by first | decide | omega)) (by rfl) cFaultsAre.D.g cFaultsAre.D.F.kp cFaultsAre.D.b .nil pass0 (pa_cons (pv 5) (pa_cons (pv 4) (pa_cons (pv 8) (pa_cons (pv 7) pa_nil)))))))
        (pss_one (ps_ret pe_bl))
        pss_nil)
      (pss_cons (ps_if (pt_not (pt_val (pe_call cFaultsAre.G (hr.mono (by first | decide | omega)) (by rfl) cFaultsAre.D.g cFaultsAre.D.F.kp cFaultsAre.D.b .nil pass0 (pa_cons (pv 5) (pa_cons (pv 4) (pa_cons (pe_slice sl_list (pv 3) (po_some (pe_un un_neg pe_int)) po_none) (pa_cons (pv 7) pa_nil)))))))
        (pss_one (ps_ret pe_bl))
        pss_nil)
      (pss_cons (ps_set (i := 9) scLaw.nd rfl (.inl rfl) pe_bl)
      (pss_cons (ps_for PassesOwn.never rfl (pi_list (pv 8)) (pg_name (i := 10) scLaw.nd rfl (.inl rfl))
        (pss_one (ps_for PassesOwn.never rfl (pi_list (pv 7)) (pg_name (i := 11) scLaw.nd rfl (.inl rfl))
          (pss_one (ps_if (pt_cmpR op_ne (pe_ix ix_tup (pe_call cLPath.G (hr.mono (by first | decide | omega)) (by rfl) cLPath.D.g cLPath.D.F.kp cLPath.D.b .nil pass0 (pa_cons (pv 4) (pa_cons (pv 10) (pa_cons (pv 11) pa_nil)))) pe_int (fun _ _ => rfl)) pe_str (nomark _))
            (pss_one (ps_set (i := 9) scLaw.nd rfl (.inl rfl) pe_bl))
            pss_nil)))))
      (pss_cons (ps_if (pt_cmpR op_ne (pe_cmpR (op_eqD hr.units) (pe_meth (pv 5) SC.c SFm FFs (hr.mono (by first | decide | omega)) bFs .nil pass0 (pa_cons (pv 8) pa_nil)) (pe_lst pa_nil) (nomark _)) (pv 9) (nomark _))
        (pss_one (ps_ret pe_bl))
        pss_nil)
      (pss_cons (ps_setLc (i := 12) (own := [("k", 15)]) (g := gName 15) (by rfl) scLaw.nd rfl rfl (sw_true rfl rfl rfl (by decide +kernel)) (pi_range1 (by rfl) B.range (pa_cons pe_int pa_nil)) (blkOk_by (N := NLaw) (sc := defScope sLaw) (by decide +kernel)) (fun _ _ _ _ _ => pg_name (i := 15) scLaw.nd rfl (Or.inl rfl)) (fun _ _ _ _ _ => pts_nil) (fun _ _ _ _ _ => pe_call cPrefix.G (hr.mono (by first | decide | omega)) (by rfl) cPrefix.D.g cPrefix.D.F.kp cPrefix.D.b .nil pass0 (pa_cons (pv 1) (pa_cons (pv 6) pa_nil))))
      (pss_cons (ps_for PassesOwn.never rfl (pi_list (pv 12)) (pg_name (i := 11) scLaw.nd rfl (.inl rfl))
        (pss_one (ps_if (pt_not (pt_val (pe_call cOneAddr.G (hr.mono (by first | decide | omega)) (by rfl) cOneAddr.D.g cOneAddr.D.F.kp cOneAddr.D.b .nil pass0 (pa_cons (pv 5) (pa_cons (pv 4) (pa_cons (pv 8) (pa_cons (pv 6) (pa_cons (pv 11) (pa_cons (pv 9) pa_nil)))))))))
          (pss_one (ps_ret pe_bl))
          pss_nil)))
      (pss_cons (ps_set (i := 13) scLaw.nd rfl (.inl rfl) (pe_call cFresh.G (hr.mono (by first | decide | omega)) (by rfl) cFresh.D.g cFresh.D.F.kp cFresh.D.b .nil pass0 (pa_cons (pv 1) (pa_cons (pv 3) pa_nil))))
      (pss_cons (ps_set (i := 14) scLaw.nd rfl (.inl rfl) (pe_slice sl_list (pv 12) po_none (po_some pe_int)))
      (C8.pss_cut (ps_if (pt_cmpR (op_neD hr.units) (pv 6) (pe_lst pa_nil) (nomark _))
        (pss_one (ps_expr (pe_bm PySem.F.plainAttrs_list PySem.F.slot_list_append PySem.F.type_list_append mt_append (pv 14) (pa_cons (pe_ix ix_list (pv 6) (pe_call cDraw.G (hr.mono (by first | decide | omega)) (by rfl) cDraw.D.g cDraw.D.F.kp cDraw.D.b .nil pass0 (pa_cons (pv 1) (pa_cons (pe_callB (r := rLenQ K) call_len_seq (by rfl) B.len PySem.boot_len (pa_cons (pv 6) pa_nil)) pa_nil))) (fun _ _ => rfl)) pa_nil))))
        pss_nil)
      (pss_cons (ps_for PassesOwn.never rfl (pi_list (pv 14)) (pg_name (i := 11) scLaw.nd rfl (.inl rfl))
        (pss_one (ps_if (pt_not (pt_val (pe_call cRanksHold.G (hr.mono (by first | decide | omega)) (by rfl) cRanksHold.D.g cRanksHold.D.F.kp cRanksHold.D.b .nil pass0 (pa_cons (pv 1) (pa_cons (pv 5) (pa_cons (pv 4) (pa_cons (pv 11) (pa_cons (pe_ix ix_list (pv 12) (pe_call cDraw.G (hr.mono (by first | decide | omega)) (by rfl) cDraw.D.g cDraw.D.F.kp cDraw.D.b .nil pass0 (pa_cons (pv 1) (pa_cons pe_int pa_nil))) (fun _ _ => rfl)) (pa_cons (pv 13) pa_nil)))))))))
          (pss_one (ps_ret pe_bl))
          pss_nil)))
      (pss_one (ps_ret (pe_call cMarksAre.G (hr.mono (by first | decide | omega)) (by rfl) cMarksAre.D.g cMarksAre.D.F.kp cMarksAre.D.b .nil pass0 (pa_cons (pv 5) (pa_cons (pv 6) (pa_cons (pv 7) pa_nil))))))))))))))))))))))))))), ?_⟩
    refine ⟨.ref a, rfl, a, ns, rfl, hS, fun p H1 S1 np B1 => ?_⟩
    refine ⟨.ref p, rfl, .ref p, rfl, p, 8, rfl, B1, by decide, by decide, fun sh H2 s0 s1 B2 b2 => ?_⟩
    refine ⟨p, sh, rfl, B2, s0, s1, fun T l d ts es H3 hT B3 b3 T3 P3 t2 t22 tot1 len1 => ?_⟩
    refine ⟨.ref T, rfl, T, _, 0, .ref l, rfl, rfl, .of hT, atI_nat (j := 0) rfl, .ref T, rfl, T, _, 1, .ref d, rfl, rfl, .of hT, atI_nat (j := 1) rfl, ?_⟩
    have pl := plOf_len es
    have g := P3.g
    refine ⟨.ref d, rfl, d, es, rfl, P3, by omega, by omega, fun F1 x1 H7 S7 A7 e7 => ?_⟩
    intro j dz nz mz ez
    refine sort_made2 A7 (by rw [e7]; exact g) (by rw [e7]; omega) (by rw [← plOf_len, e7]; omega) nz mz ez fun H8 S8 J => ⟨rfl, ?_⟩
    rw [e7] at J
    have S8 := S7.trans S8
    have B8 := B3.same S8
    have P8 := P3.same S8
    have T8 := T3.same S8
    clear S7 A7 S8 B3 P3 T3 b3 B2 b2 S1 B1 e7
    refine ⟨.ref d, rfl, d, es, rfl, P8, by omega, fun s ms H9 S9 ns9 hs9 mm lms srt => ?_⟩
    have sp := bag_no B8 ns9
    have B9 := B8.same S9
    have am : ∀ x ∈ ms, isAddr x = true := fun x hx => stem_addr g ((mm x).mp hx)
    refine ⟨.ref s, rfl, s, _, rfl, .inl (sqOf hs9), fun t nt => ?_⟩
    have tp := bag_no B9 nt
    have SA := S9.trans (same_upd nt (o := .lst (ms.map V.str)))
    have hsA := (same_upd nt (o := .lst (ms.map V.str))) _ _ hs9
    have htA : (L2.upd H9 t (.lst (ms.map V.str))) t = some (.lst (ms.map V.str)) := upd_same
    generalize L2.upd H9 t (.lst (ms.map V.str)) = HA at SA hsA htA
    have ZA : ∀ H', (∀ c o, HA c = some o → c ≠ t → H' c = some o) → H' t = some (.lst ((testsL ms).map V.str)) → Z7 C CS H' p l d j s t es ts ms := fun H' k ht => by
      have BA := B8.same SA
      have TA := T8.same SA
      have PA := P8.same SA
      have JA := J.same SA
      have tH8 := S9.free nt
      have kS : Same H8 H' := fun c o hc => k _ _ (SA _ _ hc) (ne_of_none hc tH8)
      exact ⟨B8.same kS, T8.same kS, P8.same kS, J.same kS, k _ _ hsA (fun z => by rw [z, nt] at hs9; cases hs9), ht, sp, tp⟩
    refine ⟨fun σ' H' => σ' = [some (.ref a), some (.ref p), some (.ref T), some (.ref l), some (.ref d), some (.ref j), some (.ref s), some (.ref t), none, none, none, none, none, none, none, none] ∧ Z7 C CS H' p l d j s t es ts ms, ?_, ?_⟩
    · rcases eu : unmO ms with _ | u
      · refine ⟨.ref s, rfl, s, ms, rfl, hsA, ?_⟩
        rw [eu]
        refine ⟨rfl, false, rfl, rfl, ZA _ (fun c o hc _ => hc) ?_⟩
        rw [htA]
        unfold testsL
        rw [eu, show (none : Option Str).toList = [] from rfl, List.append_nil]
      · refine ⟨.ref s, rfl, s, ms, rfl, hsA, ?_⟩
        rw [eu]
        refine ⟨rfl, true, rfl, .ref t, rfl, .inl ⟨rfl, _, sqOf htA⟩, .ref s, rfl, s, ms, rfl, hsA, ?_⟩
        rw [eu]
        refine ⟨t, _, .str u, rfl, rfl, htA, by rw [List.length_map]; omega, rfl, ZA _ (fun c o hc nc => by rw [upd_ne nc]; exact hc) ?_⟩
        rw [upd_same]
        unfold testsL
        rw [eu, List.map_append]
        rfl
    clear ZA htA hsA SA tp nt B9 hs9 ns9 S9 J T8 P8 B8 HA
    rintro σ1 HA ⟨rfl, ZA⟩
    have lt := tests_len ms
    have ta := tests_addr am
    refine ⟨.ref j, rfl, .ref s, rfl, .ref t, rfl, j, s, t, plOf es, ms, rfl, ZA.so, by omega, srt, mm, ZA.st, ZA.lo, fun HB SB => ⟨true, rfl, ?_⟩⟩
    have ZB := ZA.same SB
    refine ⟨.ref p, rfl, .ref d, rfl, .ref l, rfl, p, d, l, es, ts, rfl, ZB.bag, ZB.pl, ZB.tw, by omega, by omega, fun k ss HC BC bC nk hk nm lk => ?_⟩
    have kp := bag_no ZB.bag nk
    have ZC := ZB.draw BC bC
    clear ZB ZA SB
    refine ⟨.ref j, rfl, .ref d, rfl, .ref k, rfl, .ref t, rfl, j, d, k, t, es, ms, ss, rfl, ZC.so, ZC.pl, by omega, by omega, srt, mm, by omega, hk, nm, by omega, ZC.lo, fun HD SD => ⟨true, rfl, ?_⟩⟩
    have ZD := ZC.same SD
    have hkD := SD _ _ hk
    clear ZC SD hk bC
    obtain ⟨us, eus, mus, lus⟩ := cut_map ts (some (-1)) none
    refine ⟨.ref j, rfl, .ref d, rfl, .ref l, rfl, 1, rfl, _, rfl, l, _, rfl, sqOf ZD.tw.l, fun X nX => ?_⟩
    have hX : (L2.upd HD X (.lst (cutV (ts.map V.str) (some (-1)) none))) X = some (.lst (us.map V.str)) := by rw [upd_same, eus]
    have SE := same_upd nX (o := .lst (cutV (ts.map V.str) (some (-1)) none))
    have ZE := ZD.same SE
    have hkE := SE _ _ hkD
    generalize L2.upd HD X (.lst (cutV (ts.map V.str) (some (-1)) none)) = HE at hX ZE hkE
    refine ⟨.ref t, rfl, j, d, X, t, es, ms, us, rfl, ZE.so, ZE.pl, by omega, by omega, srt, mm, by omega, hX, fun x hx => ZE.tw.g x (mus x hx), by omega, ZE.lo, fun HF SF => ⟨true, rfl, ?_⟩⟩
    have ZF := ZE.same SF
    have hkF := SF _ _ hkE
    clear ZE SF hkE SE hX ZD hkD
    -- where every path ends
    refine ⟨.ref k, rfl, k, rfl, ⟨_, sqOf hkF⟩, ?_⟩
    refine for_it (walk_list (a := k) (xs := ss.map V.str)) (fun i σ H' => ∃ (b : Bool) (yA yB : Option V), σ = [some (.ref a), some (.ref p), some (.ref T), some (.ref l), some (.ref d), some (.ref j), some (.ref s), some (.ref t), some (.ref k), some (.bl b), yA, yB, none, none, none, none] ∧ Same HF H' ∧ (b = true ↔ ∀ u ∈ ss.take i, ∀ x ∈ testsL ms, (pth (plOf es) x u).2 = wHere))
      ⟨true, none, none, rfl, fun c o h => h, ⟨fun _ u h => (by cases h), fun _ => rfl⟩⟩ (fun i σ H' _ hP => let ⟨_, _, _, _, S, _⟩ := hP; sqOf (S _ _ hkF)) (fun i v σ H3 H4 hi hP hy => ?_) (fun σ H3 hP => ?_)
    · obtain ⟨b, yA, yB, rfl, S3, ib⟩ := hP
      obtain ⟨rfl, ev⟩ := hy
      rw [List.getElem?_map] at ev
      cases et : ss[i]? with
      | none => rw [et] at ev; cases ev
      | some u =>
      rw [et] at ev
      cases (Option.some.inj ev)
      refine ⟨.ref t, rfl, t, rfl, ⟨_, sqOf (S3 _ _ ZF.lo)⟩, ?_⟩
      refine for_it (walk_list (a := t) (xs := (testsL ms).map V.str)) (fun n σ H' => ∃ (b2 : Bool) (yB : Option V), σ = [some (.ref a), some (.ref p), some (.ref T), some (.ref l), some (.ref d), some (.ref j), some (.ref s), some (.ref t), some (.ref k), some (.bl b2), some (.str u), yB, none, none, none, none] ∧ Same HF H' ∧ (b2 = true ↔ b = true ∧ ∀ x ∈ (testsL ms).take n, (pth (plOf es) x u).2 = wHere))
        ⟨b, _, rfl, S3, ⟨fun h => ⟨h, fun x h => (by cases h)⟩, fun h => h.1⟩⟩ (fun n σ H' _ hP => let ⟨_, _, _, S, _⟩ := hP; sqOf (S _ _ ZF.lo)) (fun n v σ H6 H7 hn hP hy => ?_) (fun σ H6 hP => ?_)
      · obtain ⟨b2, yB, rfl, S6, ib2⟩ := hP
        obtain ⟨rfl, ev⟩ := hy
        rw [List.getElem?_map] at ev
        cases ea : (testsL ms)[n]? with
        | none => rw [ea] at ev; cases ev
        | some x =>
        rw [ea] at ev
        cases (Option.some.inj ev)
        have al := addr_len (ta x (List.mem_of_getElem? ea))
        have tk : (testsL ms).take (n + 1) = (testsL ms).take n ++ [x] := by rw [List.take_add_one, ea]; rfl
        refine ⟨.ref d, rfl, .str u, rfl, .str x, rfl, d, u, x, es, rfl, ZF.pl.same S6, by omega, by omega, fun U H8 S8 P1 => ?_⟩
        obtain ⟨W, hU, hW⟩ := P1
        refine ⟨U, _, 1, .str (pth (plOf es) x u).2, rfl, rfl, .of hU, atI_nat (j := 1) rfl, rfl, _, rfl, ite2 (fun c => ?_) (fun c => ?_)⟩
        · rw [Bool.not_eq_true', decide_eq_false_iff_not] at c
          refine ⟨false, _, rfl, S6.trans S8, ⟨(fun z => by cases z), fun ⟨_, z⟩ => absurd ?_ c⟩⟩
          rw [z x (by rw [tk]; exact List.mem_append_right _ List.mem_cons_self)]
          rfl
        · rw [Bool.not_eq_true', decide_eq_false_iff_not, Decidable.not_not] at c
          refine ⟨b2, _, rfl, S6.trans S8, ?_⟩
          rw [ib2, tk]
          constructor
          · rintro ⟨h1, h2⟩
            refine ⟨h1, fun y hy => ?_⟩
            rcases List.mem_append.mp hy with h | h
            · exact h2 y h
            · rw [List.mem_singleton.mp h]
              exact V.str.inj c
          · rintro ⟨h1, h2⟩
            exact ⟨h1, fun y hy => h2 y (List.mem_append_left _ hy)⟩
      · obtain ⟨b2, yB, rfl, S6, ib2⟩ := hP
        rw [List.length_map, List.take_length] at ib2
        refine ⟨b2, _, _, rfl, S6, ?_⟩
        rw [ib2, ib, List.take_add_one, et]
        constructor
        · rintro ⟨h1, h2⟩ y hy
          rcases List.mem_append.mp hy with h | h
          · exact h1 y h
          · rw [List.mem_singleton.mp h]
            exact h2
        · intro h
          exact ⟨fun y hy => h y (List.mem_append_left _ hy), h u (List.mem_append_right _ List.mem_cons_self)⟩
    obtain ⟨b, yA, yB, rfl, S3, ib⟩ := hP
    rw [List.length_map, List.take_length] at ib
    have ZG := ZF.same S3
    have hkG := S3 _ _ hkF
    clear ZF S3 hkF
    obtain ⟨dx, dt, dm, hj⟩ := ZG.so.ins
    refine ⟨.ref j, rfl, j, dx, _, rfl, hj, rfl, .ref k, rfl, j, k, _, ss, rfl, ZG.so, .inl (sqOf hkG), by omega, by omega, by omega, fun R fs ms5 H5 S5 nR fa s5 m5 ue ul => ?_⟩
    obtain rfl := srt_uniq srt s5 fun x => (mm x).trans (m5 x).symm
    have sgu : ∀ u ∈ fs.map (·.2), Sg3 u := by rw [ue]; exact flt_sg ta nm
    refine ⟨Nat.zero_le _, fun e ne => ?_⟩
    have SE := same_upd ne (o := HO.lst [])
    have SH' := S5.trans SE
    have fa' := fa.same SE
    have he : (L2.upd H5 e (.lst [])) e = some (.lst []) := upd_same
    generalize L2.upd H5 e (.lst []) = HH at SH' fa' he
    refine ⟨_, _, .lst (sqOf fa'.l) (dp_3s fa'.t), .lst (sqOf he) .nil, shaped_3s sgu, rfl, ?_⟩
    rw [eqv_nilL, show (decide (List.map enc3 (fs.map (·.2)) = []) : Bool) = b from by
      rw [ue, Bool.eq_iff_iff, decide_eq_true_eq, List.map_eq_nil_iff, flt_nil]
      exact ib.symm]
    refine ⟨.bl b, rfl, rfl, _, rfl, ?_⟩
    rw [decide_eq_true rfl]
    have ZH := ZG.same SH'
    have hkH := SH' _ _ hkG
    clear ZG SH' fa' he fa SE S5 nR ne ul ue sgu hj hkG
    -- drawn addresses
    have txm : ∀ x ∈ ms, Tx x := fun x hx => ad_tx ((isAddr_iff x).mp (am x hx))
    refine ⟨8, rfl, by omega, by omega, fun D nD => ?_⟩
    have Dp := bag_no ZH.bag nD
    have SD := same_upd (o := HO.lst []) nD
    refine lc_it (walk_range (lo := 0) (n := 8)) (fun i H' => Z7 C CS H' p l d j s t es ts ms ∧ H' k = some (.lst (ss.map V.str)) ∧ But p HH H' ∧ ∃ zs : List Str, H' D = some (.lst (zs.map V.str)) ∧ (∀ x ∈ zs, isAddr x = true) ∧ zs.length = i)
      ⟨ZH.same SD, SD _ _ hkH, Same.but SD, [], upd_same, fun x h => (by cases h), rfl⟩ (fun _ _ _ _ => trivial) (fun i v H6 H7 hi hP hy => ?_) (fun H6 hP => ?_)
    · obtain ⟨Z6, k6, b6, zs, hD, az, lz⟩ := hP
      obtain ⟨rfl, ev⟩ := hy
      refine ⟨rfl, .ref p, rfl, .ref s, rfl, p, s, ms, rfl, Z6.bag, ⟨Z6.st, by omega, txm⟩, fun x hx => (isAddr_iff x).mp (am x hx), fun z H8 hz8 B8 b8 => ?_⟩
      have Z8 := Z6.draw B8 b8
      have k8 := b8 _ _ k6 kp
      have D8 := b8 _ _ hD Dp
      have off : But p HH (L2.upd H8 D (.lst (zs.map V.str ++ [.str z]))) := put_off (b6.trans b8) nD
      exact ⟨_, D8, by rw [List.length_map]; omega, ZH.draw (B8.put Dp) off, off _ _ hkH kp, off, zs ++ [z], by rw [upd_same, List.map_append]; rfl, fun x hx => by
        rcases List.mem_append.mp hx with h | h
        · exact az x h
        · rw [List.mem_singleton.mp h]
          exact (isAddr_iff z).mpr hz8, by rw [List.length_append, lz]; rfl⟩
    obtain ⟨ZI, hkI, _, zs, hD, az, lz⟩ := hP
    clear SD nD hkH ZH
    refine ⟨.ref D, rfl, D, rfl, ⟨_, sqOf hD⟩, ?_⟩
    have al8 : ∀ x, isAddr x = true → x.length ≤ 1000 := fun x h => Nat.le_trans (addr_len h) (by decide)
    refine for_it (walk_list (a := D) (xs := zs.map V.str)) (fun i σ H' => (∃ (yA yB : Option V), σ = [some (.ref a), some (.ref p), some (.ref T), some (.ref l), some (.ref d), some (.ref j), some (.ref s), some (.ref t), some (.ref k), some (.bl b), yA, yB, some (.ref D), none, none, none]) ∧ Z7 C CS H' p l d j s t es ts ms ∧ H' k = some (.lst (ss.map V.str)) ∧ H' D = some (.lst (zs.map V.str)))
      ⟨⟨_, _, rfl⟩, ZI, hkI, hD⟩ (fun i σ H' _ hP => sqOf hP.2.2.2) (fun i v σ H7 H8 hi hP hy => ?_) (fun σ H7 hP => ?_)
    · obtain ⟨⟨yA, yB, rfl⟩, Z7, k7, D7⟩ := hP
      obtain ⟨rfl, ev⟩ := hy
      rw [List.getElem?_map] at ev
      cases et : zs[i]? with
      | none => rw [et] at ev; cases ev
      | some x =>
      rw [et] at ev
      cases (Option.some.inj ev)
      exact ⟨.ref j, rfl, .ref d, rfl, .ref k, rfl, .ref s, rfl, .str x, rfl, .bl b, rfl, j, d, k, s, x, b, es, ms, ss, rfl, Z7.so, Z7.pl, by omega, srt, mm, k7, nm, Z7.st, az x (List.mem_of_getElem? et), ib.mp, fun H9 S9 => ⟨true, rfl, ⟨_, _, rfl⟩, Z7.same S9, S9 _ _ k7, S9 _ _ D7⟩⟩
    obtain ⟨⟨yA, yB, rfl⟩, ZJ, kJ, DJ⟩ := hP
    clear ZI hkI hD
    have Tj := ZJ.tw
    refine ⟨.ref p, rfl, .ref l, rfl, p, l, ts, rfl, ZJ.bag, Tj.txs, fun x hx => (isName_iff x).mp (Tj.g x hx), fun z HK nz2 _ BK bK => ?_⟩
    have ZK := ZJ.draw BK bK
    have DK := bK _ _ DJ Dp
    have tz : Tx z := nm_tx nz2
    clear ZJ DJ kJ bK BK Tj
    obtain ⟨ws, ews, mws, lws⟩ := cut_map zs none (some 2)
    refine ⟨.ref D, rfl, 2, rfl, D, _, rfl, sqOf DK, fun U nU => ?_⟩
    have Up := bag_no ZK.bag nU
    have hU : (L2.upd HK U (.lst (cutV (zs.map V.str) none (some 2)))) U = some (.lst (ws.map V.str)) := by rw [upd_same, ews]
    have SL := same_upd nU (o := .lst (cutV (zs.map V.str) none (some 2)))
    have ZL := ZK.same SL
    have DL := SL _ _ DK
    have UD : D ≠ U := ne_of_none DK nU
    have keep : ∀ (H' : Hp) (o : HO), Z7 C CS H' p l d j s t es ts ms → H' U = some (.lst (ws.map V.str)) → Bag H' p → But p HK H' → Z7 C CS (L2.upd H' U o) p l d j s t es ts ms := fun H' o Z hu BB bb => ZK.draw (BB.put Up) (put_off bb nU)
    have bL : But p HK (L2.upd HK U (.lst (cutV (zs.map V.str) none (some 2)))) := Same.but SL
    generalize L2.upd HK U (.lst (cutV (zs.map V.str) none (some 2))) = HL at hU SL ZL DL bL
    refine ⟨fun σ' H' => ∃ vs : List Str, σ' = [some (.ref a), some (.ref p), some (.ref T), some (.ref l), some (.ref d), some (.ref j), some (.ref s), some (.ref t), some (.ref k), some (.bl b), yA, yB, some (.ref D), some (.str z), some (.ref U), none] ∧ Z7 C CS H' p l d j s t es ts ms ∧ H' D = some (.lst (zs.map V.str)) ∧ H' U = some (.lst (vs.map V.str)) ∧ ∀ x ∈ vs, isAddr x = true, ?_, ?_⟩
    · refine ⟨.ref s, rfl, Nat.zero_le _, fun e ne => ?_⟩
      have SM := same_upd ne (o := HO.lst [])
      have ZM := ZL.same SM
      have DM := SM _ _ DL
      have UM := SM _ _ hU
      have bM := bL.trans (Same.but SM)
      have he : (L2.upd HL e (.lst [])) e = some (.lst []) := upd_same
      generalize L2.upd HL e (.lst []) = HM at SM ZM DM UM bM he
      refine ⟨_, _, .lst (sqOf ZM.st) (dp_strs _), .lst (sqOf he) .nil, shaped_strs txm, rfl, _, rfl, ite2 (fun c => ?_) (fun c => ?_)⟩
      · have mpos : 0 < ms.length := by
          cases ms with
          | nil => exact absurd c (fun z => by cases z)
          | cons x xs => exact Nat.zero_lt_succ _
        refine ⟨.ref U, rfl, .inl ⟨rfl, _, sqOf UM⟩, .ref s, rfl, .ref p, rfl, .ref s, rfl, s, _, rfl, .inl (sqOf ZM.st), p, _, rfl, ZM.bag, by rw [List.length_map]; omega, by rw [List.length_map]; omega, fun i H8 i0 i1 B8 b8 => ?_⟩
        obtain ⟨x, hx, ex⟩ := pick i0 i1
        have Z8 := ZM.draw B8 b8
        have U8 := b8 _ _ UM Up
        have D8 := b8 _ _ DM Dp
        refine ⟨s, _, i, .str x, rfl, rfl, sqOf Z8.st, ex, U, _, .str x, rfl, rfl, U8, by rw [List.length_map]; omega, ws ++ [x], rfl, keep H8 _ Z8 U8 B8 (bM.trans b8), by rw [upd_ne UD]; exact D8, by rw [upd_same, List.map_append]; rfl, fun y hy => ?_⟩
        rcases List.mem_append.mp hy with h | h
        · exact az y (mws y h)
        · rw [List.mem_singleton.mp h]
          exact am x hx
      · exact ⟨ws, rfl, ZM, DM, UM, fun x hx => az x (mws x hx)⟩
    clear keep UD SL hU ZL DL bL ZK DK
    rintro σ1 HN ⟨vs, rfl, ZN, DN, UN, av⟩
    refine ⟨.ref U, rfl, U, rfl, ⟨_, sqOf UN⟩, ?_⟩
    refine for_it (walk_list (a := U) (xs := vs.map V.str)) (fun i σ H' => (∃ (yB : Option V), σ = [some (.ref a), some (.ref p), some (.ref T), some (.ref l), some (.ref d), some (.ref j), some (.ref s), some (.ref t), some (.ref k), some (.bl b), yA, yB, some (.ref D), some (.str z), some (.ref U), none]) ∧ Z7 C CS H' p l d j s t es ts ms ∧ H' D = some (.lst (zs.map V.str)) ∧ H' U = some (.lst (vs.map V.str)))
      ⟨⟨_, rfl⟩, ZN, DN, UN⟩ (fun i σ H' _ hP => sqOf hP.2.2.2) (fun i v σ H7 H8 hi hP hy => ?_) (fun σ H7 hP => ?_)
    · obtain ⟨⟨yB, rfl⟩, Z7, D7, U7⟩ := hP
      obtain ⟨rfl, ev⟩ := hy
      rw [List.getElem?_map] at ev
      cases et : vs[i]? with
      | none => rw [et] at ev; cases ev
      | some x =>
      rw [et] at ev
      cases (Option.some.inj ev)
      refine ⟨.ref p, rfl, .ref j, rfl, .ref d, rfl, .str x, rfl, .ref D, rfl, .ref p, rfl, p, 8, rfl, Z7.bag, by decide, by decide, fun i H9 i0 i1 B9 b9 => ?_⟩
      obtain ⟨y, hy, ey⟩ := pick (ks := zs) i0 (by rw [List.length_map]; omega)
      have Z9 := Z7.draw B9 b9
      have D9 := b9 _ _ D7 Dp
      have U9 := b9 _ _ U7 Up
      exact ⟨D, _, i, .str y, rfl, rfl, sqOf D9, ey, .str z, rfl, p, j, d, x, y, z, es, rfl, Z9.bag, Z9.so, Z9.pl, al8 x (av x (List.mem_of_getElem? et)), al8 y (az y hy), by omega, by omega, tz, fun HX BX bX => ⟨true, rfl, ⟨_, rfl⟩, Z9.draw BX bX, bX _ _ D9 Dp, bX _ _ U9 Up⟩⟩
    obtain ⟨⟨yB, rfl⟩, ZO, _, _⟩ := hP
    exact ⟨.ref j, rfl, .ref s, rfl, .ref t, rfl, j, s, t, plOf es, ms, rfl, ZO.so, by omega, srt, mm, ZO.st, ZO.lo, fun HX _ => q HX⟩
end
end Tb
set_option maxHeartbeats 0
namespace Tb
open PySem PySem.Spec PyProof.Rows L2
theorem cls_some {K : PySem.W.Frag} {C : Addr} (h : PySem.W.hasDictIn K C = true) : (PySem.W.clsIn K C).isSome = true := by
  obtain ⟨cd, hc, _⟩ := PySem.W.any_some h
  rw [hc]
  rfl
theorem kit_refC {K : PySem.W.Frag} {t : Value} {C : Addr} {b : Bool} (hd : PySem.W.hasDictIn K C = true) (ht : PySem.W.typeIn K (.ref C) = some (.type "type")) (hs : PySem.W.subIn K t (.ref C) = some b) : PySem.W.kitCls K t (.ref C) = some b := by
  have e2 : ((PySem.W.clsIn K C).isSome && PySem.W.typeIn K (.ref C) == some (.type "type")) = true := by rw [cls_some hd, ht]; rfl
  show (if ((PySem.W.clsIn K C).isSome && PySem.W.typeIn K (.ref C) == some (.type "type")) = true then PySem.W.subIn K t (.ref C) else none) = some b
  rw [if_pos e2]
  exact hs
theorem kit_tyC {K : PySem.W.Frag} {t : Value} {T : String} {b : Bool} (hT : PySem.W.kitMeta T = true) (hs : PySem.W.subIn K t (.type T) = some b) : PySem.W.kitCls K t (.type T) = some b := by
  show (if PySem.W.kitMeta T = true then PySem.W.subIn K t (.type T) else none) = some b
  rw [if_pos hT]
  exact hs
theorem kit_t {K : PySem.W.Frag} {t c : Value} (h : PySem.W.kitCls K t c = some true) : PySem.W.kitOne K t c = some true := by
  unfold PySem.W.kitOne
  by_cases e : (t == c) = true
  · rw [if_pos e]
  · rw [if_neg e]
    exact h
theorem kit_f {K : PySem.W.Frag} {t c : Value} (e : (t == c) = false) (h : PySem.W.kitCls K t c = some false) : PySem.W.kitOne K t c = some false := by
  unfold PySem.W.kitOne
  rw [if_neg (by rw [e]; exact Bool.false_ne_true)]
  exact h
theorem kit_nil {K : PySem.W.Frag} {t : Value} : PySem.W.kitAny K t [] = some false := rfl
theorem kit_no {K : PySem.W.Frag} {t c : Value} {r : List Value} (h : PySem.W.kitOne K t c = some false) (hr : PySem.W.kitAny K t r = some false) : PySem.W.kitAny K t (c :: r) = some false := by
  show (match PySem.W.kitOne K t c with | some true => some true | some false => PySem.W.kitAny K t r | none => none) = some false
  rw [h]
  exact hr
theorem all_mk {l : PySem.W.OpenLaw} {w : World} {K : PySem.W.Frag} {h : Heap} {mg : Str → Option Value} {fa f1 f2 f3 f4 f5 f6 f7 f8 f9 f10 f11 f12 f13 f14 f15 f16 f17 f18 f19 f20 f21 f22 f23 f24 f25 f26 f27 f28 f29 f30 f31 f32 f33 f34 f35 f36 f37 f38 f39 f40 f41 CI mI C pR mI2 mC mL mR CS mSI mSU mST mSF mSS mSK mSR mSL mSP mSM : Addr} (X : K.In h) (G : h.Ns mainGlobals mg) (hfa : mg "law" = some (.ref fa))
    {od1 an1 od2 an2 od3 an3 od4 an4 od5 an5 od6 an6 od7 an7 od8 an8 od9 an9 od10 an10 od11 an11 od12 an12 od13 an13 od14 an14 od15 an15 od16 an16 od17 an17 od18 an18 od19 an19 od20 an20 od21 an21 od22 an22 od23 an23 od24 an24 od25 an25 od26 an26 od27 an27 od28 an28 od29 an29 od30 an30 od31 an31 od32 an32 od33 an33 od34 an34 od35 an35 od36 an36 od37 an37 od38 an38 od39 an39 od40 an40 od41 an41 odmI anmI odmI2 anmI2 odmC anmC odmL anmL odmR anmR odmSI anmSI odmSU anmSU odmST anmST odmSF anmSF odmSS anmSS odmSK anmSK odmSR anmSR odmSL anmSL odmSP anmSP odmSM anmSM : Option Addr} {sl1 sl2 sl3 sl4 sl5 sl6 sl7 sl8 sl9 sl10 sl11 sl12 sl13 sl14 sl15 sl16 sl17 sl18 sl19 sl20 sl21 sl22 sl23 sl24 sl25 sl26 sl27 sl28 sl29 sl30 sl31 sl32 sl33 sl34 sl35 sl36 sl37 sl38 sl39 sl40 sl41 slmI slmI2 slmC slmL slmR slmSI slmSU slmST slmSF slmSS slmSK slmSR slmSL slmSP slmSM : Array (Option Value)} {oc1 kV1 dc1 pm1 cd1 ct1 oc2 kV2 dc2 pm2 cd2 ct2 oc3 kV3 dc3 pm3 cd3 ct3 oc4 kV4 dc4 pm4 cd4 ct4 oc5 kV5 dc5 pm5 cd5 ct5 oc6 kV6 dc6 pm6 cd6 ct6 oc7 kV7 dc7 pm7 cd7 ct7 oc8 kV8 dc8 pm8 cd8 ct8 oc9 kV9 dc9 pm9 cd9 ct9 oc10 kV10 dc10 pm10 cd10 ct10 oc11 kV11 dc11 pm11 cd11 ct11 oc12 kV12 dc12 pm12 cd12 ct12 oc13 kV13 dc13 pm13 cd13 ct13 oc14 kV14 dc14 pm14 cd14 ct14 oc15 kV15 dc15 pm15 cd15 ct15 oc16 kV16 dc16 pm16 cd16 ct16 oc17 kV17 dc17 pm17 cd17 ct17 oc18 kV18 dc18 pm18 cd18 ct18 oc19 kV19 dc19 pm19 cd19 ct19 oc20 kV20 dc20 pm20 cd20 ct20 oc21 kV21 dc21 pm21 cd21 ct21 oc22 kV22 dc22 pm22 cd22 ct22 oc23 kV23 dc23 pm23 cd23 ct23 oc24 kV24 dc24 pm24 cd24 ct24 oc25 kV25 dc25 pm25 cd25 ct25 oc26 kV26 dc26 pm26 cd26 ct26 oc27 kV27 dc27 pm27 cd27 ct27 oc28 kV28 dc28 pm28 cd28 ct28 oc29 kV29 dc29 pm29 cd29 ct29 oc30 kV30 dc30 pm30 cd30 ct30 oc31 kV31 dc31 pm31 cd31 ct31 oc32 kV32 dc32 pm32 cd32 ct32 oc33 kV33 dc33 pm33 cd33 ct33 oc34 kV34 dc34 pm34 cd34 ct34 oc35 kV35 dc35 pm35 cd35 ct35 oc36 kV36 dc36 pm36 cd36 ct36 oc37 kV37 dc37 pm37 cd37 ct37 oc38 kV38 dc38 pm38 cd38 ct38 oc39 kV39 dc39 pm39 cd39 ct39 oc40 kV40 dc40 pm40 cd40 ct40 oc41 kV41 dc41 pm41 cd41 ct41 ocmI kVmI dcmI pmmI cdmI ctmI ocmI2 kVmI2 dcmI2 pmmI2 cdmI2 ctmI2 ocmC kVmC dcmC pmmC cdmC ctmC ocmL kVmL dcmL pmmL cdmL ctmL ocmR kVmR dcmR pmmR cdmR ctmR ocmSI kVmSI dcmSI pmmSI cdmSI ctmSI ocmSU kVmSU dcmSU pmmSU cdmSU ctmSU ocmST kVmST dcmST pmmST cdmST ctmST ocmSF kVmSF dcmSF pmmSF cdmSF ctmSF ocmSS kVmSS dcmSS pmmSS cdmSS ctmSS ocmSK kVmSK dcmSK pmmSK cdmSK ctmSK ocmSR kVmSR dcmSR pmmSR cdmSR ctmSR ocmSL kVmSL dcmSL pmmSL cdmSL ctmSL ocmSP kVmSP dcmSP pmmSP cdmSP ctmSP ocmSM kVmSM dcmSM pmmSM cdmSM ctmSM : Value}
    {tDG tLT tHR : Tok}
    {nmI qI} {NI} {bsI} {bmI} {snI} {subI} {abI} {colI} {ddI} {k0I} {k1I} {k2I} {k3I} {k5I}
    {restR : List Value}
    (a1 : PySem.W.nsIn K mainGlobals "made_of" = some (some (.ref f1)))
    (l1 : K.lookup f1 = some ⟨oc1, od1, .func (PySem.W.fnOf "made_of" "made_of" (defArgs sMade) (defBody sMade) (defScope sMade) .none kV1 dc1 pm1 an1 cd1 ct1), sl1⟩)
    (c1 : PySem.W.codeIn K cd1 "made_of" = true)
    (k1 : PySem.W.keepIn K (.ref f1) = true)
    (a2 : PySem.W.nsIn K mainGlobals "spells_address" = some (some (.ref f2)))
    (l2 : K.lookup f2 = some ⟨oc2, od2, .func (PySem.W.fnOf "spells_address" "spells_address" (defArgs sSpells) (defBody sSpells) (defScope sSpells) .none kV2 dc2 pm2 an2 cd2 ct2), sl2⟩)
    (c2 : PySem.W.codeIn K cd2 "spells_address" = true)
    (k2 : PySem.W.keepIn K (.ref f2) = true)
    (a3 : PySem.W.nsIn K mainGlobals "is_name" = some (some (.ref f3)))
    (l3 : K.lookup f3 = some ⟨oc3, od3, .func (PySem.W.fnOf "is_name" "is_name" (defArgs sIsName) (defBody sIsName) (defScope sIsName) .none kV3 dc3 pm3 an3 cd3 ct3), sl3⟩)
    (c3 : PySem.W.codeIn K cd3 "is_name" = true)
    (k3 : PySem.W.keepIn K (.ref f3) = true)
    (a4 : PySem.W.nsIn K mainGlobals "is_address" = some (some (.ref f4)))
    (l4 : K.lookup f4 = some ⟨oc4, od4, .func (PySem.W.fnOf "is_address" "is_address" (defArgs sIsAddr) (defBody sIsAddr) (defScope sIsAddr) .none kV4 dc4 pm4 an4 cd4 ct4), sl4⟩)
    (c4 : PySem.W.codeIn K cd4 "is_address" = true)
    (k4 : PySem.W.keepIn K (.ref f4) = true)
    (a5 : PySem.W.nsIn K mainGlobals "longest_prefix" = some (some (.ref f5)))
    (l5 : K.lookup f5 = some ⟨oc5, od5, .func (PySem.W.fnOf "longest_prefix" "longest_prefix" (defArgs sLong) (defBody sLong) (defScope sLong) .none kV5 dc5 pm5 an5 cd5 ct5), sl5⟩)
    (c5 : PySem.W.codeIn K cd5 "longest_prefix" = true)
    (k5 : PySem.W.keepIn K (.ref f5) = true)
    (a6 : PySem.W.nsIn K mainGlobals "_is_lane" = some (some (.ref f6)))
    (l6 : K.lookup f6 = some ⟨oc6, od6, .func (PySem.W.fnOf "_is_lane" "_is_lane" (defArgs sIsLane) (defBody sIsLane) (defScope sIsLane) .none kV6 dc6 pm6 an6 cd6 ct6), sl6⟩)
    (c6 : PySem.W.codeIn K cd6 "_is_lane" = true)
    (k6 : PySem.W.keepIn K (.ref f6) = true)
    (a7 : PySem.W.nsIn K mainGlobals "_lane" = some (some (.ref f7)))
    (l7 : K.lookup f7 = some ⟨oc7, od7, .func (PySem.W.fnOf "_lane" "_lane" (defArgs sLane) (defBody sLane) (defScope sLane) .none kV7 dc7 pm7 an7 cd7 ct7), sl7⟩)
    (c7 : PySem.W.codeIn K cd7 "_lane" = true)
    (k7 : PySem.W.keepIn K (.ref f7) = true)
    (a8 : PySem.W.nsIn K mainGlobals "_lanes_of" = some (some (.ref f8)))
    (l8 : K.lookup f8 = some ⟨oc8, od8, .func (PySem.W.fnOf "_lanes_of" "_lanes_of" (defArgs sLanesOf) (defBody sLanesOf) (defScope sLanesOf) .none kV8 dc8 pm8 an8 cd8 ct8), sl8⟩)
    (c8 : PySem.W.codeIn K cd8 "_lanes_of" = true)
    (k8 : PySem.W.keepIn K (.ref f8) = true)
    (a9 : PySem.W.nsIn K mainGlobals "_marks_of" = some (some (.ref f9)))
    (l9 : K.lookup f9 = some ⟨oc9, od9, .func (PySem.W.fnOf "_marks_of" "_marks_of" (defArgs sMarksOf) (defBody sMarksOf) (defScope sMarksOf) .none kV9 dc9 pm9 an9 cd9 ct9), sl9⟩)
    (c9 : PySem.W.codeIn K cd9 "_marks_of" = true)
    (k9 : PySem.W.keepIn K (.ref f9) = true)
    (a10 : PySem.W.nsIn K mainGlobals "_rank_by" = some (some (.ref f10)))
    (l10 : K.lookup f10 = some ⟨oc10, od10, .func (PySem.W.fnOf "_rank_by" "_rank_by" (defArgs sRankBy) (defBody sRankBy) (defScope sRankBy) .none kV10 dc10 pm10 an10 cd10 ct10), sl10⟩)
    (c10 : PySem.W.codeIn K cd10 "_rank_by" = true)
    (k10 : PySem.W.keepIn K (.ref f10) = true)
    (a11 : PySem.W.nsIn K mainGlobals "check_ranks" = some (some (.ref f11)))
    (l11 : K.lookup f11 = some ⟨oc11, od11, .func (PySem.W.fnOf "check_ranks" "check_ranks" (defArgs sCheckR) (defBody sCheckR) (defScope sCheckR) .none kV11 dc11 pm11 an11 cd11 ct11), sl11⟩)
    (c11 : PySem.W.codeIn K cd11 "check_ranks" = true)
    (k11 : PySem.W.keepIn K (.ref f11) = true)
    (a12 : PySem.W.nsIn K mainGlobals "_law_bag" = some (some (.ref f12)))
    (l12 : K.lookup f12 = some ⟨oc12, od12, .func (PySem.W.fnOf "_law_bag" "_law_bag" (defArgs sBag) (defBody sBag) (defScope sBag) .none kV12 dc12 pm12 an12 cd12 ct12), sl12⟩)
    (c12 : PySem.W.codeIn K cd12 "_law_bag" = true)
    (k12 : PySem.W.keepIn K (.ref f12) = true)
    (a13 : PySem.W.nsIn K mainGlobals "_law_draw" = some (some (.ref f13)))
    (l13 : K.lookup f13 = some ⟨oc13, od13, .func (PySem.W.fnOf "_law_draw" "_law_draw" (defArgs sDraw) (defBody sDraw) (defScope sDraw) .none kV13 dc13 pm13 an13 cd13 ct13), sl13⟩)
    (c13 : PySem.W.codeIn K cd13 "_law_draw" = true)
    (k13 : PySem.W.keepIn K (.ref f13) = true)
    (a14 : PySem.W.nsIn K mainGlobals "_law_fresh_name" = some (some (.ref f14)))
    (l14 : K.lookup f14 = some ⟨oc14, od14, .func (PySem.W.fnOf "_law_fresh_name" "_law_fresh_name" (defArgs sFresh) (defBody sFresh) (defScope sFresh) .none kV14 dc14 pm14 an14 cd14 ct14), sl14⟩)
    (c14 : PySem.W.codeIn K cd14 "_law_fresh_name" = true)
    (k14 : PySem.W.keepIn K (.ref f14) = true)
    (a15 : PySem.W.nsIn K mainGlobals "_law_prefix" = some (some (.ref f15)))
    (l15 : K.lookup f15 = some ⟨oc15, od15, .func (PySem.W.fnOf "_law_prefix" "_law_prefix" (defArgs sPrefix) (defBody sPrefix) (defScope sPrefix) .none kV15 dc15 pm15 an15 cd15 ct15), sl15⟩)
    (c15 : PySem.W.codeIn K cd15 "_law_prefix" = true)
    (k15 : PySem.W.keepIn K (.ref f15) = true)
    (a16 : PySem.W.nsIn K mainGlobals "_law_lane" = some (some (.ref f16)))
    (l16 : K.lookup f16 = some ⟨oc16, od16, .func (PySem.W.fnOf "_law_lane" "_law_lane" (defArgs sLLane) (defBody sLLane) (defScope sLLane) .none kV16 dc16 pm16 an16 cd16 ct16), sl16⟩)
    (c16 : PySem.W.codeIn K cd16 "_law_lane" = true)
    (k16 : PySem.W.keepIn K (.ref f16) = true)
    (a17 : PySem.W.nsIn K mainGlobals "_law_after" = some (some (.ref f17)))
    (l17 : K.lookup f17 = some ⟨oc17, od17, .func (PySem.W.fnOf "_law_after" "_law_after" (defArgs sLAfter) (defBody sLAfter) (defScope sLAfter) .none kV17 dc17 pm17 an17 cd17 ct17), sl17⟩)
    (c17 : PySem.W.codeIn K cd17 "_law_after" = true)
    (k17 : PySem.W.keepIn K (.ref f17) = true)
    (a18 : PySem.W.nsIn K mainGlobals "_law_towns" = some (some (.ref f18)))
    (l18 : K.lookup f18 = some ⟨oc18, od18, .func (PySem.W.fnOf "_law_towns" "_law_towns" (defArgs sTowns) (defBody sTowns) (defScope sTowns) .none kV18 dc18 pm18 an18 cd18 ct18), sl18⟩)
    (c18 : PySem.W.codeIn K cd18 "_law_towns" = true)
    (k18 : PySem.W.keepIn K (.ref f18) = true)
    (a19 : PySem.W.nsIn K mainGlobals "_law_plan" = some (some (.ref f19)))
    (l19 : K.lookup f19 = some ⟨oc19, od19, .func (PySem.W.fnOf "_law_plan" "_law_plan" (defArgs sPlan) (defBody sPlan) (defScope sPlan) .none kV19 dc19 pm19 an19 cd19 ct19), sl19⟩)
    (c19 : PySem.W.codeIn K cd19 "_law_plan" = true)
    (k19 : PySem.W.keepIn K (.ref f19) = true)
    (a20 : PySem.W.nsIn K mainGlobals "_law_full_plan" = some (some (.ref f20)))
    (l20 : K.lookup f20 = some ⟨oc20, od20, .func (PySem.W.fnOf "_law_full_plan" "_law_full_plan" (defArgs sFullPlan) (defBody sFullPlan) (defScope sFullPlan) .none kV20 dc20 pm20 an20 cd20 ct20), sl20⟩)
    (c20 : PySem.W.codeIn K cd20 "_law_full_plan" = true)
    (k20 : PySem.W.keepIn K (.ref f20) = true)
    (a21 : PySem.W.nsIn K mainGlobals "_law_one_change" = some (some (.ref f21)))
    (l21 : K.lookup f21 = some ⟨oc21, od21, .func (PySem.W.fnOf "_law_one_change" "_law_one_change" (defArgs sOneCh) (defBody sOneCh) (defScope sOneCh) .none kV21 dc21 pm21 an21 cd21 ct21), sl21⟩)
    (c21 : PySem.W.codeIn K cd21 "_law_one_change" = true)
    (k21 : PySem.W.keepIn K (.ref f21) = true)
    (a22 : PySem.W.nsIn K mainGlobals "_law_path" = some (some (.ref f22)))
    (l22 : K.lookup f22 = some ⟨oc22, od22, .func (PySem.W.fnOf "_law_path" "_law_path" (defArgs sLPath) (defBody sLPath) (defScope sLPath) .none kV22 dc22 pm22 an22 cd22 ct22), sl22⟩)
    (c22 : PySem.W.codeIn K cd22 "_law_path" = true)
    (k22 : PySem.W.keepIn K (.ref f22) = true)
    (a23 : PySem.W.nsIn K mainGlobals "_law_tables" = some (some (.ref f23)))
    (l23 : K.lookup f23 = some ⟨oc23, od23, .func (PySem.W.fnOf "_law_tables" "_law_tables" (defArgs sTables) (defBody sTables) (defScope sTables) .none kV23 dc23 pm23 an23 cd23 ct23), sl23⟩)
    (c23 : PySem.W.codeIn K cd23 "_law_tables" = true)
    (k23 : PySem.W.keepIn K (.ref f23) = true)
    (a24 : PySem.W.nsIn K mainGlobals "_law_stems" = some (some (.ref f24)))
    (l24 : K.lookup f24 = some ⟨oc24, od24, .func (PySem.W.fnOf "_law_stems" "_law_stems" (defArgs sStems) (defBody sStems) (defScope sStems) .none kV24 dc24 pm24 an24 cd24 ct24), sl24⟩)
    (c24 : PySem.W.codeIn K cd24 "_law_stems" = true)
    (k24 : PySem.W.keepIn K (.ref f24) = true)
    (a25 : PySem.W.nsIn K mainGlobals "_law_plan_after" = some (some (.ref f25)))
    (l25 : K.lookup f25 = some ⟨oc25, od25, .func (PySem.W.fnOf "_law_plan_after" "_law_plan_after" (defArgs sPlanAft) (defBody sPlanAft) (defScope sPlanAft) .none kV25 dc25 pm25 an25 cd25 ct25), sl25⟩)
    (c25 : PySem.W.codeIn K cd25 "_law_plan_after" = true)
    (k25 : PySem.W.keepIn K (.ref f25) = true)
    (a26 : PySem.W.nsIn K mainGlobals "_law_unmarked" = some (some (.ref f26)))
    (l26 : K.lookup f26 = some ⟨oc26, od26, .func (PySem.W.fnOf "_law_unmarked" "_law_unmarked" (defArgs sLUnm) (defBody sLUnm) (defScope sLUnm) .none kV26 dc26 pm26 an26 cd26 ct26), sl26⟩)
    (c26 : PySem.W.codeIn K cd26 "_law_unmarked" = true)
    (k26 : PySem.W.keepIn K (.ref f26) = true)
    (a27 : PySem.W.nsIn K mainGlobals "_law_mark" = some (some (.ref f27)))
    (l27 : K.lookup f27 = some ⟨oc27, od27, .func (PySem.W.fnOf "_law_mark" "_law_mark" (defArgs sLMark) (defBody sLMark) (defScope sLMark) .none kV27 dc27 pm27 an27 cd27 ct27), sl27⟩)
    (c27 : PySem.W.codeIn K cd27 "_law_mark" = true)
    (k27 : PySem.W.keepIn K (.ref f27) = true)
    (a28 : PySem.W.nsIn K mainGlobals "_law_marks_are" = some (some (.ref f28)))
    (l28 : K.lookup f28 = some ⟨oc28, od28, .func (PySem.W.fnOf "_law_marks_are" "_law_marks_are" (defArgs sMarksAre) (defBody sMarksAre) (defScope sMarksAre) .none kV28 dc28 pm28 an28 cd28 ct28), sl28⟩)
    (c28 : PySem.W.codeIn K cd28 "_law_marks_are" = true)
    (k28 : PySem.W.keepIn K (.ref f28) = true)
    (a29 : PySem.W.nsIn K mainGlobals "_law_faults_are" = some (some (.ref f29)))
    (l29 : K.lookup f29 = some ⟨oc29, od29, .func (PySem.W.fnOf "_law_faults_are" "_law_faults_are" (defArgs sFaultsAre) (defBody sFaultsAre) (defScope sFaultsAre) .none kV29 dc29 pm29 an29 cd29 ct29), sl29⟩)
    (c29 : PySem.W.codeIn K cd29 "_law_faults_are" = true)
    (k29 : PySem.W.keepIn K (.ref f29) = true)
    (a30 : PySem.W.nsIn K mainGlobals "_law_one_address" = some (some (.ref f30)))
    (l30 : K.lookup f30 = some ⟨oc30, od30, .func (PySem.W.fnOf "_law_one_address" "_law_one_address" (defArgs sOneAddr) (defBody sOneAddr) (defScope sOneAddr) .none kV30 dc30 pm30 an30 cd30 ct30), sl30⟩)
    (c30 : PySem.W.codeIn K cd30 "_law_one_address" = true)
    (k30 : PySem.W.keepIn K (.ref f30) = true)
    (a31 : PySem.W.nsIn K mainGlobals "_law_sites" = some (some (.ref f31)))
    (l31 : K.lookup f31 = some ⟨oc31, od31, .func (PySem.W.fnOf "_law_sites" "_law_sites" (defArgs sLSites) (defBody sLSites) (defScope sLSites) .none kV31 dc31 pm31 an31 cd31 ct31), sl31⟩)
    (c31 : PySem.W.codeIn K cd31 "_law_sites" = true)
    (k31 : PySem.W.keepIn K (.ref f31) = true)
    (a32 : PySem.W.nsIn K mainGlobals "_law_ranks" = some (some (.ref f32)))
    (l32 : K.lookup f32 = some ⟨oc32, od32, .func (PySem.W.fnOf "_law_ranks" "_law_ranks" (defArgs sLRanks) (defBody sLRanks) (defScope sLRanks) .none kV32 dc32 pm32 an32 cd32 ct32), sl32⟩)
    (c32 : PySem.W.codeIn K cd32 "_law_ranks" = true)
    (k32 : PySem.W.keepIn K (.ref f32) = true)
    (a33 : PySem.W.nsIn K mainGlobals "_law_fits" = some (some (.ref f33)))
    (l33 : K.lookup f33 = some ⟨oc33, od33, .func (PySem.W.fnOf "_law_fits" "_law_fits" (defArgs sLFits) (defBody sLFits) (defScope sLFits) .none kV33 dc33 pm33 an33 cd33 ct33), sl33⟩)
    (c33 : PySem.W.codeIn K cd33 "_law_fits" = true)
    (k33 : PySem.W.keepIn K (.ref f33) = true)
    (a34 : PySem.W.nsIn K mainGlobals "_law_judged" = some (some (.ref f34)))
    (l34 : K.lookup f34 = some ⟨oc34, od34, .func (PySem.W.fnOf "_law_judged" "_law_judged" (defArgs sJudged) (defBody sJudged) (defScope sJudged) .none kV34 dc34 pm34 an34 cd34 ct34), sl34⟩)
    (c34 : PySem.W.codeIn K cd34 "_law_judged" = true)
    (k34 : PySem.W.keepIn K (.ref f34) = true)
    (a35 : PySem.W.nsIn K mainGlobals "_law_ranks_are" = some (some (.ref f35)))
    (l35 : K.lookup f35 = some ⟨oc35, od35, .func (PySem.W.fnOf "_law_ranks_are" "_law_ranks_are" (defArgs sRanksAre) (defBody sRanksAre) (defScope sRanksAre) .none kV35 dc35 pm35 an35 cd35 ct35), sl35⟩)
    (c35 : PySem.W.codeIn K cd35 "_law_ranks_are" = true)
    (k35 : PySem.W.keepIn K (.ref f35) = true)
    (a36 : PySem.W.nsIn K mainGlobals "_law_bent" = some (some (.ref f36)))
    (l36 : K.lookup f36 = some ⟨oc36, od36, .func (PySem.W.fnOf "_law_bent" "_law_bent" (defArgs sBent) (defBody sBent) (defScope sBent) .none kV36 dc36 pm36 an36 cd36 ct36), sl36⟩)
    (c36 : PySem.W.codeIn K cd36 "_law_bent" = true)
    (k36 : PySem.W.keepIn K (.ref f36) = true)
    (a37 : PySem.W.nsIn K mainGlobals "_law_drawn_ranks" = some (some (.ref f37)))
    (l37 : K.lookup f37 = some ⟨oc37, od37, .func (PySem.W.fnOf "_law_drawn_ranks" "_law_drawn_ranks" (defArgs sDrawnR) (defBody sDrawnR) (defScope sDrawnR) .none kV37 dc37 pm37 an37 cd37 ct37), sl37⟩)
    (c37 : PySem.W.codeIn K cd37 "_law_drawn_ranks" = true)
    (k37 : PySem.W.keepIn K (.ref f37) = true)
    (a38 : PySem.W.nsIn K mainGlobals "_law_ranks_hold" = some (some (.ref f38)))
    (l38 : K.lookup f38 = some ⟨oc38, od38, .func (PySem.W.fnOf "_law_ranks_hold" "_law_ranks_hold" (defArgs sRanksHold) (defBody sRanksHold) (defScope sRanksHold) .none kV38 dc38 pm38 an38 cd38 ct38), sl38⟩)
    (c38 : PySem.W.codeIn K cd38 "_law_ranks_hold" = true)
    (k38 : PySem.W.keepIn K (.ref f38) = true)
    (a39 : PySem.W.nsIn K mainGlobals "_law_start" = some (some (.ref f39)))
    (l39 : K.lookup f39 = some ⟨oc39, od39, .func (PySem.W.fnOf "_law_start" "_law_start" (defArgs sStart) (defBody sStart) (defScope sStart) .none kV39 dc39 pm39 an39 cd39 ct39), sl39⟩)
    (c39 : PySem.W.codeIn K cd39 "_law_start" = true)
    (k39 : PySem.W.keepIn K (.ref f39) = true)
    (a40 : PySem.W.nsIn K mainGlobals "_law_asked" = some (some (.ref f40)))
    (l40 : K.lookup f40 = some ⟨oc40, od40, .func (PySem.W.fnOf "_law_asked" "_law_asked" (defArgs sAsked) (defBody sAsked) (defScope sAsked) .none kV40 dc40 pm40 an40 cd40 ct40), sl40⟩)
    (c40 : PySem.W.codeIn K cd40 "_law_asked" = true)
    (k40 : PySem.W.keepIn K (.ref f40) = true)
    (a41 : PySem.W.nsIn K mainGlobals "law" = some (some (.ref f41)))
    (l41 : K.lookup f41 = some ⟨oc41, od41, .func (PySem.W.fnOf "law" "law" (defArgs sLaw) (defBody sLaw) (defScope sLaw) .none kV41 dc41 pm41 an41 cd41 ct41), sl41⟩)
    (c41 : PySem.W.codeIn K cd41 "law" = true)
    (k41 : PySem.W.keepIn K (.ref f41) = true)
    (z_len : PySem.W.nsIn K mainGlobals "len" = some none)
    (z_int : PySem.W.nsIn K mainGlobals "int" = some none)
    (z_str : PySem.W.nsIn K mainGlobals "str" = some none)
    (z_list : PySem.W.nsIn K mainGlobals "list" = some none)
    (z_tuple : PySem.W.nsIn K mainGlobals "tuple" = some none)
    (z_dict : PySem.W.nsIn K mainGlobals "dict" = some none)
    (z_bool : PySem.W.nsIn K mainGlobals "bool" = some none)
    (z_range : PySem.W.nsIn K mainGlobals "range" = some none)
    (z_sorted : PySem.W.nsIn K mainGlobals "sorted" = some none)
    (z_all : PySem.W.nsIn K mainGlobals "all" = some none)
    (z_isinstance : PySem.W.nsIn K mainGlobals "isinstance" = some none)
    (z_set : PySem.W.nsIn K mainGlobals "set" = some none)
    (z_min : PySem.W.nsIn K mainGlobals "min" = some none)
    (gDG : PySem.W.nsIn K mainGlobals "DIGITS" = some (some (.str ("0123456789" : String) tDG)))
    (gLT : PySem.W.nsIn K mainGlobals "LETTERS" = some (some (.str ("abcdefghijklmnopqrstuvwxyz" : String) tLT)))
    (gHR : PySem.W.nsIn K mainGlobals "HERE" = some (some (.str ("" : String) tHR)))
    (oHn : PySem.W.specialIn K (.builtin "object.__class__") "__get__" = some (some (.builtin "getset_descriptor.__get__")))
    (oTk : PySem.W.takesIn K (.builtin "object.__class__") = some true)
    (aIc : PySem.W.nsIn K mainGlobals "Invalid" = some (some (.ref CI)))
    (xIl : K.lookup CI = some (excClassObj nmI qI CI NI bsI bmI true snI subI abI colI ddI k0I k1I k2I k3I k5I "ValueError.__new__"))
    (xIv : PySem.HandSPX.refsVE bmI = true)
    (xIi : PySem.W.findIn K (.ref CI) "__init__" = some (some (.ref mI)))
    (xIs : PySem.W.findIn K (.ref CI) "__setattr__" = some (some (.builtin "object.__setattr__")))
    (xIe : PySem.W.subIn K (.ref CI) (.type "BaseException") = some true)
    (xIt : PySem.W.typeIn K (.ref CI) = some (.type "type"))
    (xIk : PySem.W.keepIn K (.ref CI) = true)
    (xIg : PySem.W.findIn K (.ref CI) "__getattribute__" = some (some (.builtin "BaseException.__getattribute__")))
    (xIa : PySem.W.findIn K (.ref CI) "__getattr__" = some none)
    (xIh : PySem.W.hasDictIn K CI = true)
    (xIn : PySem.W.findIn K (.ref CI) "what" = some none)
    (xIy : PySem.W.typeIn K (.ref mI) = some (.type "function"))
    (xIo : PySem.W.findIn K (.ref CI) "__class__" = some (some (.builtin "object.__class__")))
    (xIm : PySem.W.mroIn K CI (.type "object") = some true)
    (lmI : K.lookup mI = some ⟨ocmI, odmI, .func (PySem.W.fnOf "__init__" "Invalid.__init__" (defArgs sInv) (defBody sInv) (defScope sInv) .none kVmI dcmI pmmI anmI cdmI ctmI), slmI⟩)
    (cmI : PySem.W.codeIn K cdmI "Invalid.__init__" = true)
    (kmI : PySem.W.keepIn K (.ref mI) = true)
    (aT : PySem.W.nsIn K mainGlobals "Table" = some (some (.ref C)))
    (tI2 : PySem.W.findIn K (.ref C) "__init__" = some (some (.ref mI2)))
    (lmI2 : K.lookup mI2 = some ⟨ocmI2, odmI2, .func (PySem.W.fnOf "__init__" "Table.__init__" (defArgs sTInit) (defBody sTInit) (defScope sTInit) .none kVmI2 dcmI2 pmmI2 anmI2 cdmI2 ctmI2), slmI2⟩)
    (cmI2 : PySem.W.codeIn K cdmI2 "Table.__init__" = true)
    (kmI2 : PySem.W.keepIn K (.ref mI2) = true)
    (nI2 : PySem.W.isFn K (.ref mI2) = true)
    (tC : PySem.W.findIn K (.ref C) "__call__" = some (some (.ref mC)))
    (lmC : K.lookup mC = some ⟨ocmC, odmC, .func (PySem.W.fnOf "__call__" "Table.__call__" (defArgs sTCall) (defBody sTCall) (defScope sTCall) .none kVmC dcmC pmmC anmC cdmC ctmC), slmC⟩)
    (cmC : PySem.W.codeIn K cdmC "Table.__call__" = true)
    (kmC : PySem.W.keepIn K (.ref mC) = true)
    (nC : PySem.W.isFn K (.ref mC) = true)
    (tL : PySem.W.findIn K (.ref C) "__len__" = some (some (.ref mL)))
    (lmL : K.lookup mL = some ⟨ocmL, odmL, .func (PySem.W.fnOf "__len__" "Table.__len__" (defArgs sTLen) (defBody sTLen) (defScope sTLen) .none kVmL dcmL pmmL anmL cdmL ctmL), slmL⟩)
    (cmL : PySem.W.codeIn K cdmL "Table.__len__" = true)
    (kmL : PySem.W.keepIn K (.ref mL) = true)
    (nL : PySem.W.isFn K (.ref mL) = true)
    (fnC : PySem.W.fnIn K mC = true)
    (tR : PySem.W.findIn K (.ref C) "rows" = some (some (.ref pR)))
    (tRg : PySem.W.specialIn K (.ref pR) "__get__" = some (some (.builtin "property.__get__")))
    (tRt : PySem.W.takesIn K (.ref pR) = some true)
    (tRr : PySem.W.recIn K pR "property" = some (.ref mR :: restR))
    (lmR : K.lookup mR = some ⟨ocmR, odmR, .func (PySem.W.fnOf "rows" "Table.rows" (defArgs sTRows) (defBody sTRows) (defScope sTRows) .none kVmR dcmR pmmR anmR cdmR ctmR), slmR⟩)
    (cmR : PySem.W.codeIn K cdmR "Table.rows" = true)
    (kmR : PySem.W.keepIn K (.ref mR) = true)
    (tPg : PySem.W.plainGet K C Str.empty = true)
    (tHd : PySem.W.hasDictIn K C = true)
    (tPo : PySem.W.plainOver K C = true)
    (tSa : PySem.W.findIn K (.ref C) "__setattr__" = some (some (.builtin "object.__setattr__")))
    (tNo : PySem.W.findIn K (.ref C) "_lanes" = some none)
    (tMk : PySem.W.makesIn K C = true)
    (tKp : PySem.W.keepIn K (.ref C) = true)
    (tHa : PySem.W.findIn K (.ref C) "__class__" = some (some (.builtin "object.__class__")))
    (tMr : PySem.W.mroIn K C (.type "object") = some true)
    (aS : PySem.W.nsIn K mainGlobals "Sorting" = some (some (.ref CS)))
    (tSI : PySem.W.findIn K (.ref CS) "__init__" = some (some (.ref mSI)))
    (lmSI : K.lookup mSI = some ⟨ocmSI, odmSI, .func (PySem.W.fnOf "__init__" "Sorting.__init__" (defArgs sSInit) (defBody sSInit) (defScope sSInit) .none kVmSI dcmSI pmmSI anmSI cdmSI ctmSI), slmSI⟩)
    (cmSI : PySem.W.codeIn K cdmSI "Sorting.__init__" = true)
    (kmSI : PySem.W.keepIn K (.ref mSI) = true)
    (nSI : PySem.W.isFn K (.ref mSI) = true)
    (tSU : PySem.W.findIn K (.ref CS) "unmarked" = some (some (.ref mSU)))
    (lmSU : K.lookup mSU = some ⟨ocmSU, odmSU, .func (PySem.W.fnOf "unmarked" "Sorting.unmarked" (defArgs sSUnm) (defBody sSUnm) (defScope sSUnm) .none kVmSU dcmSU pmmSU anmSU cdmSU ctmSU), slmSU⟩)
    (cmSU : PySem.W.codeIn K cdmSU "Sorting.unmarked" = true)
    (kmSU : PySem.W.keepIn K (.ref mSU) = true)
    (nSU : PySem.W.isFn K (.ref mSU) = true)
    (tST : PySem.W.findIn K (.ref CS) "tests" = some (some (.ref mST)))
    (lmST : K.lookup mST = some ⟨ocmST, odmST, .func (PySem.W.fnOf "tests" "Sorting.tests" (defArgs sSTests) (defBody sSTests) (defScope sSTests) .none kVmST dcmST pmmST anmST cdmST ctmST), slmST⟩)
    (cmST : PySem.W.codeIn K cdmST "Sorting.tests" = true)
    (kmST : PySem.W.keepIn K (.ref mST) = true)
    (nST : PySem.W.isFn K (.ref mST) = true)
    (tSF : PySem.W.findIn K (.ref CS) "faults" = some (some (.ref mSF)))
    (lmSF : K.lookup mSF = some ⟨ocmSF, odmSF, .func (PySem.W.fnOf "faults" "Sorting.faults" (defArgs sSFaults) (defBody sSFaults) (defScope sSFaults) .none kVmSF dcmSF pmmSF anmSF cdmSF ctmSF), slmSF⟩)
    (cmSF : PySem.W.codeIn K cdmSF "Sorting.faults" = true)
    (kmSF : PySem.W.keepIn K (.ref mSF) = true)
    (nSF : PySem.W.isFn K (.ref mSF) = true)
    (tSS : PySem.W.findIn K (.ref CS) "stations" = some (some (.ref mSS)))
    (lmSS : K.lookup mSS = some ⟨ocmSS, odmSS, .func (PySem.W.fnOf "stations" "Sorting.stations" (defArgs sSStat) (defBody sSStat) (defScope sSStat) .none kVmSS dcmSS pmmSS anmSS cdmSS ctmSS), slmSS⟩)
    (cmSS : PySem.W.codeIn K cdmSS "Sorting.stations" = true)
    (kmSS : PySem.W.keepIn K (.ref mSS) = true)
    (nSS : PySem.W.isFn K (.ref mSS) = true)
    (tSK : PySem.W.findIn K (.ref CS) "mark" = some (some (.ref mSK)))
    (lmSK : K.lookup mSK = some ⟨ocmSK, odmSK, .func (PySem.W.fnOf "mark" "Sorting.mark" (defArgs sSMark) (defBody sSMark) (defScope sSMark) .none kVmSK dcmSK pmmSK anmSK cdmSK ctmSK), slmSK⟩)
    (cmSK : PySem.W.codeIn K cdmSK "Sorting.mark" = true)
    (kmSK : PySem.W.keepIn K (.ref mSK) = true)
    (nSK : PySem.W.isFn K (.ref mSK) = true)
    (tSR : PySem.W.findIn K (.ref CS) "ranks" = some (some (.ref mSR)))
    (lmSR : K.lookup mSR = some ⟨ocmSR, odmSR, .func (PySem.W.fnOf "ranks" "Sorting.ranks" (defArgs sSRanks) (defBody sSRanks) (defScope sSRanks) .none kVmSR dcmSR pmmSR anmSR cdmSR ctmSR), slmSR⟩)
    (cmSR : PySem.W.codeIn K cdmSR "Sorting.ranks" = true)
    (kmSR : PySem.W.keepIn K (.ref mSR) = true)
    (nSR : PySem.W.isFn K (.ref mSR) = true)
    (tSL : PySem.W.findIn K (.ref CS) "lane" = some (some (.ref mSL)))
    (lmSL : K.lookup mSL = some ⟨ocmSL, odmSL, .func (PySem.W.fnOf "lane" "Sorting.lane" (defArgs sSLane) (defBody sSLane) (defScope sSLane) .none kVmSL dcmSL pmmSL anmSL cdmSL ctmSL), slmSL⟩)
    (cmSL : PySem.W.codeIn K cdmSL "Sorting.lane" = true)
    (kmSL : PySem.W.keepIn K (.ref mSL) = true)
    (nSL : PySem.W.isFn K (.ref mSL) = true)
    (tSP : PySem.W.findIn K (.ref CS) "path" = some (some (.ref mSP)))
    (lmSP : K.lookup mSP = some ⟨ocmSP, odmSP, .func (PySem.W.fnOf "path" "Sorting.path" (defArgs sSPath) (defBody sSPath) (defScope sSPath) .none kVmSP dcmSP pmmSP anmSP cdmSP ctmSP), slmSP⟩)
    (cmSP : PySem.W.codeIn K cdmSP "Sorting.path" = true)
    (kmSP : PySem.W.keepIn K (.ref mSP) = true)
    (nSP : PySem.W.isFn K (.ref mSP) = true)
    (tSM : PySem.W.findIn K (.ref CS) "marks" = some (some (.ref mSM)))
    (lmSM : K.lookup mSM = some ⟨ocmSM, odmSM, .func (PySem.W.fnOf "marks" "Sorting.marks" (defArgs sSMarks) (defBody sSMarks) (defScope sSMarks) .none kVmSM dcmSM pmmSM anmSM cdmSM ctmSM), slmSM⟩)
    (cmSM : PySem.W.codeIn K cdmSM "Sorting.marks" = true)
    (kmSM : PySem.W.keepIn K (.ref mSM) = true)
    (nSM : PySem.W.isFn K (.ref mSM) = true)
    (sPg : PySem.W.plainGet K CS Str.empty = true)
    (sHd : PySem.W.hasDictIn K CS = true)
    (sPo : PySem.W.plainOver K CS = true)
    (sSa : PySem.W.findIn K (.ref CS) "__setattr__" = some (some (.builtin "object.__setattr__")))
    (sN1 : PySem.W.findIn K (.ref CS) "_tables" = some none)
    (sN2 : PySem.W.findIn K (.ref CS) "_marks" = some none)
    (sMk : PySem.W.makesIn K CS = true)
    (sKp : PySem.W.keepIn K (.ref CS) = true)
    : ∃ fd : FuncData, (∀ (s : Shared) (v : Value), BindsTo s fd ⟨[v], []⟩ [("script", v)]) ∧ ∀ base : Heap, K.In base → base.Ns mainGlobals mg → FnOk l.prog w K mg base CX0 10 fa fd ["script"] (spLaw K) := by
  have e := hfa.symm.trans (PySem.W.mg_of X G a41)
  cases e
  have F1 := fun_mk (st := sMade) l1 c1 k1
  have b1 := F1.binds (ps := ["text", "signs", "most"]) fun _ _ _ _ _ _ us hl => match us, hl with | [_, _, _], _ => rfl
  have D1 : Dd K mg "made_of" sMade ["text", "signs", "most"] f1 _ := ⟨F1, b1, PySem.W.mg_of X G a1⟩
  have F2 := fun_mk (st := sSpells) l2 c2 k2
  have b2 := F2.binds (ps := ["text"]) fun _ _ _ _ _ _ us hl => match us, hl with | [_], _ => rfl
  have D2 : Dd K mg "spells_address" sSpells ["text"] f2 _ := ⟨F2, b2, PySem.W.mg_of X G a2⟩
  have F3 := fun_mk (st := sIsName) l3 c3 k3
  have b3 := F3.binds (ps := ["text"]) fun _ _ _ _ _ _ us hl => match us, hl with | [_], _ => rfl
  have D3 : Dd K mg "is_name" sIsName ["text"] f3 _ := ⟨F3, b3, PySem.W.mg_of X G a3⟩
  have F4 := fun_mk (st := sIsAddr) l4 c4 k4
  have b4 := F4.binds (ps := ["text"]) fun _ _ _ _ _ _ us hl => match us, hl with | [_], _ => rfl
  have D4 : Dd K mg "is_address" sIsAddr ["text"] f4 _ := ⟨F4, b4, PySem.W.mg_of X G a4⟩
  have F5 := fun_mk (st := sLong) l5 c5 k5
  have b5 := F5.binds (ps := ["prefixes", "address"]) fun _ _ _ _ _ _ us hl => match us, hl with | [_, _], _ => rfl
  have D5 : Dd K mg "longest_prefix" sLong ["prefixes", "address"] f5 _ := ⟨F5, b5, PySem.W.mg_of X G a5⟩
  have F6 := fun_mk (st := sIsLane) l6 c6 k6
  have b6 := F6.binds (ps := ["text"]) fun _ _ _ _ _ _ us hl => match us, hl with | [_], _ => rfl
  have D6 : Dd K mg "_is_lane" sIsLane ["text"] f6 _ := ⟨F6, b6, PySem.W.mg_of X G a6⟩
  have F7 := fun_mk (st := sLane) l7 c7 k7
  have b7 := F7.binds (ps := ["lanes", "address"]) fun _ _ _ _ _ _ us hl => match us, hl with | [_, _], _ => rfl
  have D7 : Dd K mg "_lane" sLane ["lanes", "address"] f7 _ := ⟨F7, b7, PySem.W.mg_of X G a7⟩
  have F8 := fun_mk (st := sLanesOf) l8 c8 k8
  have b8 := F8.binds (ps := ["table"]) fun _ _ _ _ _ _ us hl => match us, hl with | [_], _ => rfl
  have D8 : Dd K mg "_lanes_of" sLanesOf ["table"] f8 _ := ⟨F8, b8, PySem.W.mg_of X G a8⟩
  have F9 := fun_mk (st := sMarksOf) l9 c9 k9
  have b9 := F9.binds (ps := ["tables"]) fun _ _ _ _ _ _ us hl => match us, hl with | [_], _ => rfl
  have D9 : Dd K mg "_marks_of" sMarksOf ["tables"] f9 _ := ⟨F9, b9, PySem.W.mg_of X G a9⟩
  have F10 := fun_mk (st := sRankBy) l10 c10 k10
  have b10 := F10.binds (ps := ["lane", "ranks"]) fun _ _ _ _ _ _ us hl => match us, hl with | [_, _], _ => rfl
  have D10 : Dd K mg "_rank_by" sRankBy ["lane", "ranks"] f10 _ := ⟨F10, b10, PySem.W.mg_of X G a10⟩
  have F11 := fun_mk (st := sCheckR) l11 c11 k11
  have b11 := F11.binds (ps := ["sorting", "address", "ranks"]) fun _ _ _ _ _ _ us hl => match us, hl with | [_, _, _], _ => rfl
  have D11 : Dd K mg "check_ranks" sCheckR ["sorting", "address", "ranks"] f11 _ := ⟨F11, b11, PySem.W.mg_of X G a11⟩
  have F12 := fun_mk (st := sBag) l12 c12 k12
  have b12 := F12.binds (ps := ["script"]) fun _ _ _ _ _ _ us hl => match us, hl with | [_], _ => rfl
  have D12 : Dd K mg "_law_bag" sBag ["script"] f12 _ := ⟨F12, b12, PySem.W.mg_of X G a12⟩
  have F13 := fun_mk (st := sDraw) l13 c13 k13
  have b13 := F13.binds (ps := ["bag", "size"]) fun _ _ _ _ _ _ us hl => match us, hl with | [_, _], _ => rfl
  have D13 : Dd K mg "_law_draw" sDraw ["bag", "size"] f13 _ := ⟨F13, b13, PySem.W.mg_of X G a13⟩
  have F14 := fun_mk (st := sFresh) l14 c14 k14
  have b14 := F14.binds (ps := ["bag", "known"]) fun _ _ _ _ _ _ us hl => match us, hl with | [_, _], _ => rfl
  have D14 : Dd K mg "_law_fresh_name" sFresh ["bag", "known"] f14 _ := ⟨F14, b14, PySem.W.mg_of X G a14⟩
  have F15 := fun_mk (st := sPrefix) l15 c15 k15
  have b15 := F15.binds (ps := ["bag", "known"]) fun _ _ _ _ _ _ us hl => match us, hl with | [_, _], _ => rfl
  have D15 : Dd K mg "_law_prefix" sPrefix ["bag", "known"] f15 _ := ⟨F15, b15, PySem.W.mg_of X G a15⟩
  have F16 := fun_mk (st := sLLane) l16 c16 k16
  have b16 := F16.binds (ps := ["own", "address"]) fun _ _ _ _ _ _ us hl => match us, hl with | [_, _], _ => rfl
  have D16 : Dd K mg "_law_lane" sLLane ["own", "address"] f16 _ := ⟨F16, b16, PySem.W.mg_of X G a16⟩
  have F17 := fun_mk (st := sLAfter) l17 c17 k17
  have b17 := F17.binds (ps := ["own", "prefix", "way"]) fun _ _ _ _ _ _ us hl => match us, hl with | [_, _, _], _ => rfl
  have D17 : Dd K mg "_law_after" sLAfter ["own", "prefix", "way"] f17 _ := ⟨F17, b17, PySem.W.mg_of X G a17⟩
  have F18 := fun_mk (st := sTowns) l18 c18 k18
  have b18 := F18.binds (ps := ["bag", "many"]) fun _ _ _ _ _ _ us hl => match us, hl with | [_, _], _ => rfl
  have D18 : Dd K mg "_law_towns" sTowns ["bag", "many"] f18 _ := ⟨F18, b18, PySem.W.mg_of X G a18⟩
  have F19 := fun_mk (st := sPlan) l19 c19 k19
  have b19 := F19.binds (ps := ["bag", "towns", "many", "most"]) fun _ _ _ _ _ _ us hl => match us, hl with | [_, _, _, _], _ => rfl
  have D19 : Dd K mg "_law_plan" sPlan ["bag", "towns", "many", "most"] f19 _ := ⟨F19, b19, PySem.W.mg_of X G a19⟩
  have F20 := fun_mk (st := sFullPlan) l20 c20 k20
  have b20 := F20.binds (ps := ["bag", "towns", "many"]) fun _ _ _ _ _ _ us hl => match us, hl with | [_, _, _], _ => rfl
  have D20 : Dd K mg "_law_full_plan" sFullPlan ["bag", "towns", "many"] f20 _ := ⟨F20, b20, PySem.W.mg_of X G a20⟩
  have F21 := fun_mk (st := sOneCh) l21 c21 k21
  have b21 := F21.binds (ps := ["bag", "plan", "towns"]) fun _ _ _ _ _ _ us hl => match us, hl with | [_, _, _], _ => rfl
  have D21 : Dd K mg "_law_one_change" sOneCh ["bag", "plan", "towns"] f21 _ := ⟨F21, b21, PySem.W.mg_of X G a21⟩
  have F22 := fun_mk (st := sLPath) l22 c22 k22
  have b22 := F22.binds (ps := ["plan", "town", "address"]) fun _ _ _ _ _ _ us hl => match us, hl with | [_, _, _], _ => rfl
  have D22 : Dd K mg "_law_path" sLPath ["plan", "town", "address"] f22 _ := ⟨F22, b22, PySem.W.mg_of X G a22⟩
  have F23 := fun_mk (st := sTables) l23 c23 k23
  have b23 := F23.binds (ps := ["plan"]) fun _ _ _ _ _ _ us hl => match us, hl with | [_], _ => rfl
  have D23 : Dd K mg "_law_tables" sTables ["plan"] f23 _ := ⟨F23, b23, PySem.W.mg_of X G a23⟩
  have F24 := fun_mk (st := sStems) l24 c24 k24
  have b24 := F24.binds (ps := ["plan"]) fun _ _ _ _ _ _ us hl => match us, hl with | [_], _ => rfl
  have D24 : Dd K mg "_law_stems" sStems ["plan"] f24 _ := ⟨F24, b24, PySem.W.mg_of X G a24⟩
  have F25 := fun_mk (st := sPlanAft) l25 c25 k25
  have b25 := F25.binds (ps := ["plan", "town", "prefix", "way"]) fun _ _ _ _ _ _ us hl => match us, hl with | [_, _, _, _], _ => rfl
  have D25 : Dd K mg "_law_plan_after" sPlanAft ["plan", "town", "prefix", "way"] f25 _ := ⟨F25, b25, PySem.W.mg_of X G a25⟩
  have F26 := fun_mk (st := sLUnm) l26 c26 k26
  have b26 := F26.binds (ps := ["stems"]) fun _ _ _ _ _ _ us hl => match us, hl with | [_], _ => rfl
  have D26 : Dd K mg "_law_unmarked" sLUnm ["stems"] f26 _ := ⟨F26, b26, PySem.W.mg_of X G a26⟩
  have F27 := fun_mk (st := sLMark) l27 c27 k27
  have b27 := F27.binds (ps := ["stems", "address"]) fun _ _ _ _ _ _ us hl => match us, hl with | [_, _], _ => rfl
  have D27 : Dd K mg "_law_mark" sLMark ["stems", "address"] f27 _ := ⟨F27, b27, PySem.W.mg_of X G a27⟩
  have F28 := fun_mk (st := sMarksAre) l28 c28 k28
  have b28 := F28.binds (ps := ["joined", "stems", "addresses"]) fun _ _ _ _ _ _ us hl => match us, hl with | [_, _, _], _ => rfl
  have D28 : Dd K mg "_law_marks_are" sMarksAre ["joined", "stems", "addresses"] f28 _ := ⟨F28, b28, PySem.W.mg_of X G a28⟩
  have F29 := fun_mk (st := sFaultsAre) l29 c29 k29
  have b29 := F29.binds (ps := ["joined", "plan", "asked", "addresses"]) fun _ _ _ _ _ _ us hl => match us, hl with | [_, _, _, _], _ => rfl
  have D29 : Dd K mg "_law_faults_are" sFaultsAre ["joined", "plan", "asked", "addresses"] f29 _ := ⟨F29, b29, PySem.W.mg_of X G a29⟩
  have F30 := fun_mk (st := sOneAddr) l30 c30 k30
  have b30 := F30.binds (ps := ["joined", "plan", "asked", "stems", "address", "clean"]) fun _ _ _ _ _ _ us hl => match us, hl with | [_, _, _, _, _, _], _ => rfl
  have D30 : Dd K mg "_law_one_address" sOneAddr ["joined", "plan", "asked", "stems", "address", "clean"] f30 _ := ⟨F30, b30, PySem.W.mg_of X G a30⟩
  have F31 := fun_mk (st := sLSites) l31 c31 k31
  have b31 := F31.binds (ps := ["plan"]) fun _ _ _ _ _ _ us hl => match us, hl with | [_], _ => rfl
  have D31 : Dd K mg "_law_sites" sLSites ["plan"] f31 _ := ⟨F31, b31, PySem.W.mg_of X G a31⟩
  have F32 := fun_mk (st := sLRanks) l32 c32 k32
  have b32 := F32.binds (ps := ["plan", "address"]) fun _ _ _ _ _ _ us hl => match us, hl with | [_, _], _ => rfl
  have D32 : Dd K mg "_law_ranks" sLRanks ["plan", "address"] f32 _ := ⟨F32, b32, PySem.W.mg_of X G a32⟩
  have F33 := fun_mk (st := sLFits) l33 c33 k33
  have b33 := F33.binds (ps := ["plan", "address", "ranks"]) fun _ _ _ _ _ _ us hl => match us, hl with | [_, _, _], _ => rfl
  have D33 : Dd K mg "_law_fits" sLFits ["plan", "address", "ranks"] f33 _ := ⟨F33, b33, PySem.W.mg_of X G a33⟩
  have F34 := fun_mk (st := sJudged) l34 c34 k34
  have b34 := F34.binds (ps := ["joined", "plan", "address", "ranks"]) fun _ _ _ _ _ _ us hl => match us, hl with | [_, _, _, _], _ => rfl
  have D34 : Dd K mg "_law_judged" sJudged ["joined", "plan", "address", "ranks"] f34 _ := ⟨F34, b34, PySem.W.mg_of X G a34⟩
  have F35 := fun_mk (st := sRanksAre) l35 c35 k35
  have b35 := F35.binds (ps := ["joined", "address", "due"]) fun _ _ _ _ _ _ us hl => match us, hl with | [_, _, _], _ => rfl
  have D35 : Dd K mg "_law_ranks_are" sRanksAre ["joined", "address", "due"] f35 _ := ⟨F35, b35, PySem.W.mg_of X G a35⟩
  have F36 := fun_mk (st := sBent) l36 c36 k36
  have b36 := F36.binds (ps := ["bag", "joined", "plan", "address", "due", "spare"]) fun _ _ _ _ _ _ us hl => match us, hl with | [_, _, _, _, _, _], _ => rfl
  have D36 : Dd K mg "_law_bent" sBent ["bag", "joined", "plan", "address", "due", "spare"] f36 _ := ⟨F36, b36, PySem.W.mg_of X G a36⟩
  have F37 := fun_mk (st := sDrawnR) l37 c37 k37
  have b37 := F37.binds (ps := ["bag", "joined", "plan", "address", "due"]) fun _ _ _ _ _ _ us hl => match us, hl with | [_, _, _, _, _], _ => rfl
  have D37 : Dd K mg "_law_drawn_ranks" sDrawnR ["bag", "joined", "plan", "address", "due"] f37 _ := ⟨F37, b37, PySem.W.mg_of X G a37⟩
  have F38 := fun_mk (st := sRanksHold) l38 c38 k38
  have b38 := F38.binds (ps := ["bag", "joined", "plan", "address", "other", "spare"]) fun _ _ _ _ _ _ us hl => match us, hl with | [_, _, _, _, _, _], _ => rfl
  have D38 : Dd K mg "_law_ranks_hold" sRanksHold ["bag", "joined", "plan", "address", "other", "spare"] f38 _ := ⟨F38, b38, PySem.W.mg_of X G a38⟩
  have F39 := fun_mk (st := sStart) l39 c39 k39
  have b39 := F39.binds (ps := ["bag", "shape"]) fun _ _ _ _ _ _ us hl => match us, hl with | [_, _], _ => rfl
  have D39 : Dd K mg "_law_start" sStart ["bag", "shape"] f39 _ := ⟨F39, b39, PySem.W.mg_of X G a39⟩
  have F40 := fun_mk (st := sAsked) l40 c40 k40
  have b40 := F40.binds (ps := ["bag", "plan", "towns"]) fun _ _ _ _ _ _ us hl => match us, hl with | [_, _, _], _ => rfl
  have D40 : Dd K mg "_law_asked" sAsked ["bag", "plan", "towns"] f40 _ := ⟨F40, b40, PySem.W.mg_of X G a40⟩
  have F41 := fun_mk (st := sLaw) l41 c41 k41
  have FmI := fun_mk (st := sInv) lmI cmI kmI
  have bmI := FmI.binds (ps := ["self", "what"]) fun _ _ _ _ _ _ us hl => match us, hl with | [_, _], _ => rfl
  have EI : ErrC K CI mI "what" := ⟨⟨⟨_, _, _, _, _, _, _, _, _, _, _, _, _, _, _, xIl, xIv⟩, xIs, xIe, xIt, xIk⟩, ⟨xIg, xIa, xIe, xIh⟩, xIn, xIi, xIy, cls_some xIh, xIo, xIm, oHn, oTk⟩
  have MI : Mm K "__init__" "Invalid.__init__" sInv ["self", "what"] mI _ := ⟨FmI, bmI⟩
  have FmI2 := fun_mk (st := sTInit) lmI2 cmI2 kmI2
  have bmI2 := FmI2.binds (ps := ["self", "rows"]) fun _ _ _ _ _ _ us hl => match us, hl with | [_, _], _ => rfl
  have FmC := fun_mk (st := sTCall) lmC cmC kmC
  have bmC := FmC.binds (ps := ["self", "address"]) fun _ _ _ _ _ _ us hl => match us, hl with | [_, _], _ => rfl
  have FmL := fun_mk (st := sTLen) lmL cmL kmL
  have bmL := FmL.binds (ps := ["self"]) fun _ _ _ _ _ _ us hl => match us, hl with | [_], _ => rfl
  have FmR := fun_mk (st := sTRows) lmR cmR kmR
  have bmR := FmR.binds (ps := ["self"]) fun _ _ _ _ _ _ us hl => match us, hl with | [_], _ => rfl
  have FmSI := fun_mk (st := sSInit) lmSI cmSI kmSI
  have bmSI := FmSI.binds (ps := ["self", "tables"]) fun _ _ _ _ _ _ us hl => match us, hl with | [_, _], _ => rfl
  have FmSU := fun_mk (st := sSUnm) lmSU cmSU kmSU
  have bmSU := FmSU.binds (ps := ["self"]) fun _ _ _ _ _ _ us hl => match us, hl with | [_], _ => rfl
  have FmST := fun_mk (st := sSTests) lmST cmST kmST
  have bmST := FmST.binds (ps := ["self"]) fun _ _ _ _ _ _ us hl => match us, hl with | [_], _ => rfl
  have FmSF := fun_mk (st := sSFaults) lmSF cmSF kmSF
  have bmSF := FmSF.binds (ps := ["self", "sites"]) fun _ _ _ _ _ _ us hl => match us, hl with | [_, _], _ => rfl
  have FmSS := fun_mk (st := sSStat) lmSS cmSS kmSS
  have bmSS := FmSS.binds (ps := ["self"]) fun _ _ _ _ _ _ us hl => match us, hl with | [_], _ => rfl
  have FmSK := fun_mk (st := sSMark) lmSK cmSK kmSK
  have bmSK := FmSK.binds (ps := ["self", "address"]) fun _ _ _ _ _ _ us hl => match us, hl with | [_, _], _ => rfl
  have FmSR := fun_mk (st := sSRanks) lmSR cmSR kmSR
  have bmSR := FmSR.binds (ps := ["self", "address"]) fun _ _ _ _ _ _ us hl => match us, hl with | [_, _], _ => rfl
  have FmSL := fun_mk (st := sSLane) lmSL cmSL kmSL
  have bmSL := FmSL.binds (ps := ["self", "site", "address"]) fun _ _ _ _ _ _ us hl => match us, hl with | [_, _, _], _ => rfl
  have FmSP := fun_mk (st := sSPath) lmSP cmSP kmSP
  have bmSP := FmSP.binds (ps := ["self", "site", "address"]) fun _ _ _ _ _ _ us hl => match us, hl with | [_, _, _], _ => rfl
  have FmSM := fun_mk (st := sSMarks) lmSM cmSM kmSM
  have bmSM := FmSM.binds (ps := ["self"]) fun _ _ _ _ _ _ us hl => match us, hl with | [_], _ => rfl
  refine ⟨PySem.W.fnOf "law" "law" (defArgs sLaw) (defBody sLaw) (defScope sLaw) .none kV41 dc41 pm41 an41 cd41 ct41, fun s v => .of_eq rfl, fun base _ _ => ?_⟩
  have B : Blt mg := ⟨PySem.W.mg_none_of X G z_len, PySem.W.mg_none_of X G z_int, PySem.W.mg_none_of X G z_str, PySem.W.mg_none_of X G z_list, PySem.W.mg_none_of X G z_tuple, PySem.W.mg_none_of X G z_dict, PySem.W.mg_none_of X G z_bool, PySem.W.mg_none_of X G z_range, PySem.W.mg_none_of X G z_sorted, PySem.W.mg_none_of X G z_all, PySem.W.mg_none_of X G z_isinstance, ⟨_, PySem.W.mg_of X G gDG⟩, ⟨_, PySem.W.mg_of X G gLT⟩, ⟨_, PySem.W.mg_of X G gHR⟩⟩
  have zset := PySem.W.mg_none_of X G z_set
  have zmin := PySem.W.mg_none_of X G z_min
  have RI : EInv K mg CI mI _ := ⟨EI, MI, PySem.W.mg_of X G aIc⟩
  have TC : TCls K C := ⟨⟨tPg, tHd, tPo, tSa⟩, tNo⟩
  have GIA : FnOk l.prog w K mg base CX0 3 _ _ ["text"] (spT isAddr) := ok_isAddr D4.F D2 D1 B
  have GIL : FnOk l.prog w K mg base CX0 3 _ _ ["text"] (spT isLane) := ok_isLane D6.F D3 D1 B
  have GLn : FnOk l.prog w K mg base CX0 2 _ _ ["lanes", "address"] (spDA laneV) := ok_lane D7.F D5 B
  have GMI : FnOk l.prog w K mg base (L2.CX l.prog w) 4 mI2 _ ["self", "rows"] (spInit C CI) := ok_init FmI2 B TC RI D4 GIA D6 GIL
  have MK : Mk K C mI2 := ⟨tMk, tI2, nI2, tKp⟩
  have TK : TabK l.prog w K mg base C CI CI := ⟨TC, PySem.W.mg_of X G aT, ⟨TC.c, tHa, oHn, oTk, tMr, if_pos (beq_self_eq_true _)⟩, ⟨_, _, MK, bmI2, GMI⟩, ⟨_, _, _, ⟨tR, tRg, tRt, ⟨_, tRr⟩⟩, bmR, ok_trows FmR B TC⟩, ⟨_, _, tL, nL, bmL, ok_tlen FmL B TC⟩, ⟨_, _, ⟨tC, nC, fnC⟩, bmC, ok_tcall FmC D7 GLn TC⟩⟩
  have cIsName : C1 l.prog w K mg base "is_name" sIsName ["text"] 2 (spT isName) _ _ := ⟨D3, ok_isName D3.F D1 B⟩
  have cLanesOf : C1 l.prog w K mg base "_lanes_of" sLanesOf ["table"] 3 (spLanesOf C) _ _ := ⟨D8, ok_lanesOf D8.F B TK⟩
  have cMarksOf : C1 l.prog w K mg base "_marks_of" sMarksOf ["tables"] 3 (spMarksOf C) _ _ := ⟨D9, ok_marksOf D9.F B zset TK⟩
  have SC : SCls K CS := ⟨⟨sPg, sHd, sPo, sSa⟩, sN1, sN2⟩
  have GSI : FnOk l.prog w K mg base CX0 5 mSI _ ["self", "tables"] (spSInit C CS) := ok_sinit FmSI B SC cIsName cLanesOf cMarksOf
  have GSL : FnOk l.prog w K mg base CX0 4 mSL _ ["self", "site", "address"] (spSLane C CS) := ok_slane FmSL B SC TK
  have SLm : Meth K CS "lane" mSL := ⟨tSL, nSL, kmSL⟩
  have GSP : FnOk l.prog w K mg base CX0 5 mSP _ ["self", "site", "address"] (spSPath C CS) := ok_spath FmSP B zset SC SLm bmSL GSL
  have SK : SortK l.prog w K mg base C CS := ⟨SC, PySem.W.mg_of X G aS, ⟨_, _, ⟨sMk, tSI, nSI, sKp⟩, bmSI, GSI⟩, ⟨_, _, ⟨tSP, nSP, kmSP⟩, bmSP, GSP⟩, ⟨_, _, ⟨tSM, nSM, kmSM⟩, bmSM, ok_smarks FmSM B SC⟩⟩
  have SPm : Meth K CS "path" mSP := ⟨tSP, nSP, kmSP⟩
  have SMm : Meth K CS "marks" mSM := ⟨tSM, nSM, kmSM⟩
  have GSM : FnOk l.prog w K mg base CX0 1 mSM _ ["self"] (spSMarks C CS) := ok_smarks FmSM B SC
  have SUm : Meth K CS "unmarked" mSU := ⟨tSU, nSU, kmSU⟩
  have GSU : FnOk l.prog w K mg base CX0 1 mSU _ ["self"] (spSUnm C CS) := ok_sunm FmSU B SC
  have STm : Meth K CS "tests" mST := ⟨tST, nST, kmST⟩
  have GST : FnOk l.prog w K mg base CX0 2 mST _ ["self"] (spSTests C CS) := ok_stests FmST SC SUm bmSU GSU SMm bmSM GSM
  have SFm : Meth K CS "faults" mSF := ⟨tSF, nSF, kmSF⟩
  have GSF : FnOk l.prog w K mg base CX0 6 mSF _ ["self", "sites"] (spSFaults K C CS) := ok_sfaults FmSF SC STm bmST GST SPm bmSP GSP
  have SSm : Meth K CS "stations" mSS := ⟨tSS, nSS, kmSS⟩
  have GSS : FnOk l.prog w K mg base CX0 4 mSS _ ["self"] (spSStat C CS) := ok_sstat FmSS B zset SC cLanesOf
  have cLongP : CLongP l.prog w K mg base _ _ := ⟨D5, ok_longR D5.F B⟩
  have SKm : Meth K CS "mark" mSK := ⟨tSK, nSK, kmSK⟩
  have GSK : FnOk l.prog w K mg base CX0 2 mSK _ ["self", "address"] (spSMark C CS) := ok_smark FmSK SC cLongP
  have SRm : Meth K CS "ranks" mSR := ⟨tSR, nSR, kmSR⟩
  have GSR : FnOk l.prog w K mg base CX0 6 mSR _ ["self", "address"] (spSRanks C CS) := ok_sranks FmSR B SC SSm bmSS GSS SPm bmSP GSP
  have cRankBy : C1 l.prog w K mg base "_rank_by" sRankBy ["lane", "ranks"] 1 (spRankBy) _ _ := ⟨D10, ok_rankby D10.F B⟩
  have cCheckR : C1 l.prog w K mg base "check_ranks" sCheckR ["sorting", "address", "ranks"] 5 (spCheckR C CS) _ _ := ⟨D11, ok_checkr D11.F B SC SSm bmSS GSS SLm bmSL GSL cRankBy⟩
  have cBag : C1 l.prog w K mg base "_law_bag" sBag ["script"] 1 (spBag K) _ _ := ⟨D12, ok_bag D12.F B⟩
  have cDraw : C1 l.prog w K mg base "_law_draw" sDraw ["bag", "size"] 1 (spDraw) _ _ := ⟨D13, ok_draw D13.F B⟩
  have cFresh : C1 l.prog w K mg base "_law_fresh_name" sFresh ["bag", "known"] 2 (spFresh) _ _ := ⟨D14, ok_fresh D14.F D13 B⟩
  have cPrefix : C1 l.prog w K mg base "_law_prefix" sPrefix ["bag", "known"] 2 (spPrefix) _ _ := ⟨D15, ok_prefix D15.F D13 B⟩
  have cLLane : C1 l.prog w K mg base "_law_lane" sLLane ["own", "address"] 1 (spDA laneV) _ _ := ⟨D16, ok_llane D16.F B⟩
  have cAfter : C1 l.prog w K mg base "_law_after" sLAfter ["own", "prefix", "way"] 1 (spAfter) _ _ := ⟨D17, ok_lafter D17.F B⟩
  have cTowns : C1 l.prog w K mg base "_law_towns" sTowns ["bag", "many"] 3 (spTowns) _ _ := ⟨D18, ok_towns D18.F B cFresh⟩
  have cPlan : C1 l.prog w K mg base "_law_plan" sPlan ["bag", "towns", "many", "most"] 3 (spPlan) _ _ := ⟨D19, ok_plan D19.F B cDraw cPrefix⟩
  have cFullPlan : C1 l.prog w K mg base "_law_full_plan" sFullPlan ["bag", "towns", "many"] 3 (spFullPlan) _ _ := ⟨D20, ok_fullplan D20.F B cDraw cPrefix⟩
  have cOneCh : C1 l.prog w K mg base "_law_one_change" sOneCh ["bag", "plan", "towns"] 3 (spOneCh) _ _ := ⟨D21, ok_onech D21.F B cDraw cPrefix⟩
  have cLPath : C1 l.prog w K mg base "_law_path" sLPath ["plan", "town", "address"] 2 (spLPath) _ _ := ⟨D22, ok_lpath D22.F B cLLane⟩
  have cTables : C1 l.prog w K mg base "_law_tables" sTables ["plan"] 6 (spTables C) _ _ := ⟨D23, ok_tables D23.F B TK⟩
  have cStems : C1 l.prog w K mg base "_law_stems" sStems ["plan"] 1 (spStems) _ _ := ⟨D24, ok_stems D24.F B⟩
  have cPlanAft : C1 l.prog w K mg base "_law_plan_after" sPlanAft ["plan", "town", "prefix", "way"] 2 (spPlanAft) _ _ := ⟨D25, ok_planaft D25.F B cAfter⟩
  have cLUnm : C1 l.prog w K mg base "_law_unmarked" sLUnm ["stems"] 1 (spLUnm) _ _ := ⟨D26, ok_lunm D26.F B⟩
  have cLMark : C1 l.prog w K mg base "_law_mark" sLMark ["stems", "address"] 1 (spLMark) _ _ := ⟨D27, ok_lmark D27.F B⟩
  have cMarksAre : C1 l.prog w K mg base "_law_marks_are" sMarksAre ["joined", "stems", "addresses"] 3 (spMarksAre C CS) _ _ := ⟨D28, ok_marksare D28.F B SC SMm bmSM GSM SUm bmSU GSU STm bmST GST cLUnm⟩
  have cFaultsAre : C1 l.prog w K mg base "_law_faults_are" sFaultsAre ["joined", "plan", "asked", "addresses"] 7 (spFaultsAre C CS) _ _ := ⟨D29, ok_faultsare D29.F B SC SFm bmSF GSF cLPath⟩
  have cOneAddr : C1 l.prog w K mg base "_law_one_address" sOneAddr ["joined", "plan", "asked", "stems", "address", "clean"] 6 (spOneAddr C CS) _ _ := ⟨D30, ok_oneaddr D30.F B SC SKm bmSK GSK SPm bmSP GSP cLMark cLUnm cLPath⟩
  have cLSites : C1 l.prog w K mg base "_law_sites" sLSites ["plan"] 1 (spLSites) _ _ := ⟨D31, ok_lsites D31.F B⟩
  have cLRanks : C1 l.prog w K mg base "_law_ranks" sLRanks ["plan", "address"] 3 (spLRanks) _ _ := ⟨D32, ok_lranks D32.F B cLSites cLPath⟩
  have cLFits : C1 l.prog w K mg base "_law_fits" sLFits ["plan", "address", "ranks"] 2 (spLFits) _ _ := ⟨D33, ok_lfits D33.F B cLSites cLLane⟩
  have cJudged : C1 l.prog w K mg base "_law_judged" sJudged ["joined", "plan", "address", "ranks"] 6 (spJudged C CS) _ _ := ⟨D34, ok_judged D34.F B cCheckR cLFits⟩
  have cRanksAre : C1 l.prog w K mg base "_law_ranks_are" sRanksAre ["joined", "address", "due"] 7 (spRanksAre C CS) _ _ := ⟨D35, ok_ranksare D35.F B SC SRm bmSR GSR⟩
  have cBent : C1 l.prog w K mg base "_law_bent" sBent ["bag", "joined", "plan", "address", "due", "spare"] 7 (spBent C CS) _ _ := ⟨D36, ok_bent D36.F B zmin cDraw cJudged⟩
  have cDrawnR : C1 l.prog w K mg base "_law_drawn_ranks" sDrawnR ["bag", "joined", "plan", "address", "due"] 7 (spDrawnR C CS) _ _ := ⟨D37, ok_drawnr D37.F B cDraw cJudged⟩
  have cRanksHold : C1 l.prog w K mg base "_law_ranks_hold" sRanksHold ["bag", "joined", "plan", "address", "other", "spare"] 8 (spRanksHold C CS) _ _ := ⟨D38, ok_rankshold D38.F B cLRanks cRanksAre cLFits cCheckR cJudged cBent cDrawnR⟩
  have cAsked : C1 l.prog w K mg base "_law_asked" sAsked ["bag", "plan", "towns"] 2 (spAsked) _ _ := ⟨D40, ok_asked D40.F B cDraw⟩
  have cStart : C1 l.prog w K mg base "_law_start" sStart ["bag", "shape"] 4 (spStart) _ _ := ⟨D39, ok_start D39.F B cDraw cTowns cPlan cFullPlan cOneCh cPlanAft⟩
  exact ok_law F41 B SK ⟨⟨_, _, cBag⟩, ⟨_, _, cDraw⟩, ⟨_, _, cStart⟩, ⟨_, _, cTables⟩, ⟨_, _, cStems⟩, ⟨_, _, cLUnm⟩, ⟨_, _, cLPath⟩, ⟨_, _, cPrefix⟩, ⟨_, _, cFresh⟩, ⟨_, _, cMarksAre⟩, ⟨_, _, cAsked⟩, ⟨_, _, cFaultsAre⟩, ⟨_, _, cOneAddr⟩, ⟨_, _, cRanksHold⟩, ⟨_, _, SFm, bmSF, GSF⟩⟩
end Tb
open PySem PySem.W PyProof.Rows
set_option maxRecDepth 100000 in
set_option maxHeartbeats 0 in
theorem PySem.Challenge.cw_everyparcel_k07_whole_tests_and_ranks_te_holds : PySem.Challenge.rw_everyparcel_k07_whole_tests_and_ranks_te.Holds := by
  w_on; o_law; k_head; (case hw => w_witness2)
  k_fill
  refine L2.walk_of (l := PySem.Challenge.rw_everyparcel_k07_whole_tests_and_ranks_te) (n := 63) (k := 10) (x := "script") (CX := fun _ => L2.CX0) (sp := fun w => Tb.spLaw _) rfl (by decide) rfl ⟨rfl, by decide, by decide⟩ (fun w h Y => PySem.W.kIn_of Y) ?F (fun _ _ a ns hl _ hS => ⟨a, ns, rfl, hS, fun _ => rfl⟩) (fun _ _ _ _ _ h => h)
  case F =>
    intro w mg fa h KX G hmg
    refine' Tb.all_mk KX G hmg ?a1 ?l1 ?c1 ?k1 ?a2 ?l2 ?c2 ?k2 ?a3 ?l3 ?c3 ?k3 ?a4 ?l4 ?c4 ?k4 ?a5 ?l5 ?c5 ?k5 ?a6 ?l6 ?c6 ?k6 ?a7 ?l7 ?c7 ?k7 ?a8 ?l8 ?c8 ?k8 ?a9 ?l9 ?c9 ?k9 ?a10 ?l10 ?c10 ?k10 ?a11 ?l11 ?c11 ?k11 ?a12 ?l12 ?c12 ?k12 ?a13 ?l13 ?c13 ?k13 ?a14 ?l14 ?c14 ?k14 ?a15 ?l15 ?c15 ?k15 ?a16 ?l16 ?c16 ?k16 ?a17 ?l17 ?c17 ?k17 ?a18 ?l18 ?c18 ?k18 ?a19 ?l19 ?c19 ?k19 ?a20 ?l20 ?c20 ?k20 ?a21 ?l21 ?c21 ?k21 ?a22 ?l22 ?c22 ?k22 ?a23 ?l23 ?c23 ?k23 ?a24 ?l24 ?c24 ?k24 ?a25 ?l25 ?c25 ?k25 ?a26 ?l26 ?c26 ?k26 ?a27 ?l27 ?c27 ?k27 ?a28 ?l28 ?c28 ?k28 ?a29 ?l29 ?c29 ?k29 ?a30 ?l30 ?c30 ?k30 ?a31 ?l31 ?c31 ?k31 ?a32 ?l32 ?c32 ?k32 ?a33 ?l33 ?c33 ?k33 ?a34 ?l34 ?c34 ?k34 ?a35 ?l35 ?c35 ?k35 ?a36 ?l36 ?c36 ?k36 ?a37 ?l37 ?c37 ?k37 ?a38 ?l38 ?c38 ?k38 ?a39 ?l39 ?c39 ?k39 ?a40 ?l40 ?c40 ?k40 ?a41 ?l41 ?c41 ?k41 ?z_len ?z_int ?z_str ?z_list ?z_tuple ?z_dict ?z_bool ?z_range ?z_sorted ?z_all ?z_isinstance ?z_set ?z_min ?gDG ?gLT ?gHR ?oHn ?oTk ?aIc ?xIl ?xIv ?xIi ?xIs ?xIe ?xIt ?xIk ?xIg ?xIa ?xIh ?xIn ?xIy ?xIo ?xIm ?lmI ?cmI ?kmI ?aT ?tI2 ?lmI2 ?cmI2 ?kmI2 ?nI2 ?tC ?lmC ?cmC ?kmC ?nC ?tL ?lmL ?cmL ?kmL ?nL ?fnC ?tR ?tRg ?tRt ?tRr ?lmR ?cmR ?kmR ?tPg ?tHd ?tPo ?tSa ?tNo ?tMk ?tKp ?tHa ?tMr ?aS ?tSI ?lmSI ?cmSI ?kmSI ?nSI ?tSU ?lmSU ?cmSU ?kmSU ?nSU ?tST ?lmST ?cmST ?kmST ?nST ?tSF ?lmSF ?cmSF ?kmSF ?nSF ?tSS ?lmSS ?cmSS ?kmSS ?nSS ?tSK ?lmSK ?cmSK ?kmSK ?nSK ?tSR ?lmSR ?cmSR ?kmSR ?nSR ?tSL ?lmSL ?cmSL ?kmSL ?nSL ?tSP ?lmSP ?cmSP ?kmSP ?nSP ?tSM ?lmSM ?cmSM ?kmSM ?nSM ?sPg ?sHd ?sPo ?sSa ?sN1 ?sN2 ?sMk ?sKp
    (case a1 => k_is); (case l1 => k_is); (case c1 => k_is); (case k1 => k_is); (case a2 => k_is); (case l2 => k_is); (case c2 => k_is); (case k2 => k_is)
    (case a3 => k_is); (case l3 => k_is); (case c3 => k_is); (case k3 => k_is); (case a4 => k_is); (case l4 => k_is); (case c4 => k_is); (case k4 => k_is)
    (case a5 => k_is); (case l5 => k_is); (case c5 => k_is); (case k5 => k_is); (case a6 => k_is); (case l6 => k_is); (case c6 => k_is); (case k6 => k_is)
    (case a7 => k_is); (case l7 => k_is); (case c7 => k_is); (case k7 => k_is); (case a8 => k_is); (case l8 => k_is); (case c8 => k_is); (case k8 => k_is)
    (case a9 => k_is); (case l9 => k_is); (case c9 => k_is); (case k9 => k_is); (case a10 => k_is); (case l10 => k_is); (case c10 => k_is); (case k10 => k_is)
    (case a11 => k_is); (case l11 => k_is); (case c11 => k_is); (case k11 => k_is); (case a12 => k_is); (case l12 => k_is); (case c12 => k_is); (case k12 => k_is)
    (case a13 => k_is); (case l13 => k_is); (case c13 => k_is); (case k13 => k_is); (case a14 => k_is); (case l14 => k_is); (case c14 => k_is); (case k14 => k_is)
    (case a15 => k_is); (case l15 => k_is); (case c15 => k_is); (case k15 => k_is); (case a16 => k_is); (case l16 => k_is); (case c16 => k_is); (case k16 => k_is)
    (case a17 => k_is); (case l17 => k_is); (case c17 => k_is); (case k17 => k_is); (case a18 => k_is); (case l18 => k_is); (case c18 => k_is); (case k18 => k_is)
    (case a19 => k_is); (case l19 => k_is); (case c19 => k_is); (case k19 => k_is); (case a20 => k_is); (case l20 => k_is); (case c20 => k_is); (case k20 => k_is)
    (case a21 => k_is); (case l21 => k_is); (case c21 => k_is); (case k21 => k_is); (case a22 => k_is); (case l22 => k_is); (case c22 => k_is); (case k22 => k_is)
    (case a23 => k_is); (case l23 => k_is); (case c23 => k_is); (case k23 => k_is); (case a24 => k_is); (case l24 => k_is); (case c24 => k_is); (case k24 => k_is)
    (case a25 => k_is); (case l25 => k_is); (case c25 => k_is); (case k25 => k_is); (case a26 => k_is); (case l26 => k_is); (case c26 => k_is); (case k26 => k_is)
    (case a27 => k_is); (case l27 => k_is); (case c27 => k_is); (case k27 => k_is); (case a28 => k_is); (case l28 => k_is); (case c28 => k_is); (case k28 => k_is)
    (case a29 => k_is); (case l29 => k_is); (case c29 => k_is); (case k29 => k_is); (case a30 => k_is); (case l30 => k_is); (case c30 => k_is); (case k30 => k_is)
    (case a31 => k_is); (case l31 => k_is); (case c31 => k_is); (case k31 => k_is); (case a32 => k_is); (case l32 => k_is); (case c32 => k_is); (case k32 => k_is)
    (case a33 => k_is); (case l33 => k_is); (case c33 => k_is); (case k33 => k_is); (case a34 => k_is); (case l34 => k_is); (case c34 => k_is); (case k34 => k_is)
    (case a35 => k_is); (case l35 => k_is); (case c35 => k_is); (case k35 => k_is); (case a36 => k_is); (case l36 => k_is); (case c36 => k_is); (case k36 => k_is)
    (case a37 => k_is); (case l37 => k_is); (case c37 => k_is); (case k37 => k_is); (case a38 => k_is); (case l38 => k_is); (case c38 => k_is); (case k38 => k_is)
    (case a39 => k_is); (case l39 => k_is); (case c39 => k_is); (case k39 => k_is); (case a40 => k_is); (case l40 => k_is); (case c40 => k_is); (case k40 => k_is)
    (case a41 => k_is); (case l41 => k_is); (case c41 => k_is); (case k41 => k_is); (case z_len => k_is); (case z_int => k_is); (case z_str => k_is); (case z_list => k_is)
    (case z_tuple => k_is); (case z_dict => k_is); (case z_bool => k_is); (case z_range => k_is); (case z_sorted => k_is); (case z_all => k_is); (case z_isinstance => k_is); (case z_set => k_is)
    (case z_min => k_is); (case gDG => k_is); (case gLT => k_is); (case gHR => k_is); (case oHn => k_is); (case oTk => k_is); (case aIc => k_is); (case xIl => k_is)
    (case xIv => first | rfl | decide +kernel); (case xIi => k_is); (case xIs => k_is); (case xIe => k_is); (case xIt => k_is); (case xIk => k_is); (case xIg => k_is); (case xIa => k_is)
    (case xIh => k_is); (case xIn => k_is); (case xIy => k_is); (case xIo => k_is); (case xIm => k_is); (case lmI => k_is); (case cmI => k_is); (case kmI => k_is)
    (case aT => k_is); (case tI2 => k_is); (case lmI2 => k_is); (case cmI2 => k_is); (case kmI2 => k_is); (case nI2 => k_is); (case tC => k_is); (case lmC => k_is)
    (case cmC => k_is); (case kmC => k_is); (case nC => k_is); (case tL => k_is); (case lmL => k_is); (case cmL => k_is); (case kmL => k_is); (case nL => k_is)
    (case fnC => k_is); (case tR => k_is); (case tRg => k_is); (case tRt => k_is); (case tRr => k_is); (case lmR => k_is); (case cmR => k_is); (case kmR => k_is)
    (case tPg => k_is); (case tHd => k_is); (case tPo => k_is); (case tSa => k_is); (case tNo => k_is); (case tMk => k_is); (case tKp => k_is); (case tHa => k_is)
    (case tMr => k_is); (case aS => k_is); (case tSI => k_is); (case lmSI => k_is); (case cmSI => k_is); (case kmSI => k_is); (case nSI => k_is); (case tSU => k_is)
    (case lmSU => k_is); (case cmSU => k_is); (case kmSU => k_is); (case nSU => k_is); (case tST => k_is); (case lmST => k_is); (case cmST => k_is); (case kmST => k_is)
    (case nST => k_is); (case tSF => k_is); (case lmSF => k_is); (case cmSF => k_is); (case kmSF => k_is); (case nSF => k_is); (case tSS => k_is); (case lmSS => k_is)
    (case cmSS => k_is); (case kmSS => k_is); (case nSS => k_is); (case tSK => k_is); (case lmSK => k_is); (case cmSK => k_is); (case kmSK => k_is); (case nSK => k_is)
    (case tSR => k_is); (case lmSR => k_is); (case cmSR => k_is); (case kmSR => k_is); (case nSR => k_is); (case tSL => k_is); (case lmSL => k_is); (case cmSL => k_is)
    (case kmSL => k_is); (case nSL => k_is); (case tSP => k_is); (case lmSP => k_is); (case cmSP => k_is); (case kmSP => k_is); (case nSP => k_is); (case tSM => k_is)
    (case lmSM => k_is); (case cmSM => k_is); (case kmSM => k_is); (case nSM => k_is); (case sPg => k_is); (case sHd => k_is); (case sPo => k_is); (case sSa => k_is)
    (case sN1 => k_is); (case sN2 => k_is); (case sMk => k_is); (case sKp => k_is)
