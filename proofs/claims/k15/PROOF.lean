import PyProof.Rows.All
import Wide.All
import OpenK.AllK
import Wide.FinOn
import HandS.TupSets
import KE.SortData
import KE.KDictKeyed
import HandS.ForMost
import PyProof.Transfer
import HandS.Wide
import HandS.StrMore
import HandS.IsInst
import HandS.Codes
import HandS.Walk
import HandS.More
import HandS.Conv
import HandS.DictComp
import HandS.ListItems
import HandS.Property
import HandS.Star
import HandS.Exc
import HandS.TryOnly
import HandS.TryMany
import HandS.ExcOwn
import HandS.WordsExc
import HandS.ExcInit
import HandS.ExcField
import HandS.ExcIs
import HandS.RaiseMore
import KE.KItemsList
import KE.KExcIs
import KE.KDictSum
import HandS.DictTup
import HandS.SortRule
import HandS.MakeKwOnly
import HandS.Zip
import HandS.Defaults
import HandS.TupLe
import KE.KDictList
import PySem.Challenge.RW_everyparcel_k15_conditions_and_clearing
set_option Elab.async false
set_option linter.all false
set_option maxRecDepth 100000
/-! sets of any heap keys: the table, up to 512 slots -/
namespace SH
open PySem PySem.Spec PyProof.Rows L2
/-- 1 + 5 + 25 + .. -/
def geo : Nat → Nat
  | 0 => 0
  | k + 1 => geo k * 5 + 1
theorem geo_pow : ∀ k, 5 ^ k = 4 * geo k + 1
  | 0 => rfl
  | k + 1 => by
    rw [Nat.pow_succ, geo_pow k]
    show (4 * geo k + 1) * 5 = 4 * (geo k * 5 + 1) + 1
    omega
theorem lcg_geo (m : Nat) : ∀ k, lcgN m k = geo k % (m + 1)
  | 0 => (Nat.zero_mod _).symm
  | k + 1 => by
    show (lcgN m k * 5 + 1) % (m + 1) = (geo k * 5 + 1) % (m + 1)
    rw [lcg_geo m k, Nat.add_mod, Nat.mod_mul_mod, ← Nat.add_mod]
theorem geo_eq (k : Nat) : geo k = (5 ^ k - 1) / 4 := by
  have := geo_pow k
  omega
/-- the step at which the slot j comes, bit by bit -/
def stepOf (j : Nat) : Nat := (List.range 9).foldl (fun b i => if 5 ^ b % 2 ^ (i + 3) = (4 * j + 1) % 2 ^ (i + 3) then b else b + 2 ^ i) 0
theorem steps512 : ((List.range 512).all fun j => decide (stepOf j ≤ 511 ∧ (5 ^ stepOf j - 1) / 4 % 512 = j)) = true := by decide +kernel
/-- soon enough each slot begins a run -/
def Meets (m : Nat) : Prop := ∀ (g : Int) (j : Nat), j ≤ m → ∃ n, n ≤ m + 12 ∧ runI m (SetTable.bits g) n = j
theorem meets_of {m : Nat} (all : ∀ j, j ≤ m → ∃ b, b ≤ m ∧ lcgN m b = j) (round : lcgN m (m + 1) = 0) : Meets m := by
  have per : ∀ k, lcgN m (m + 1 + k) = lcgN m k := by
    intro k
    induction k with
    | zero => exact round
    | succ k ih => exact congrArg (fun x => (x * 5 + 1) % (m + 1)) ih
  intro g j hj
  obtain ⟨a, ha, ea⟩ := all _ (runI_le m (SetTable.bits g) 12)
  obtain ⟨b, hb, eb⟩ := all j hj
  have key : ∀ k, lcgN m (a + k) = j → runI m (SetTable.bits g) (12 + k) = j := fun k e => by
    rw [runI_tail (bits_lt g), ← ea, lcgN_add, e]
  by_cases c : a ≤ b
  · exact ⟨12 + (b - a), by omega, key _ (by rw [show a + (b - a) = b by omega, eb])⟩
  · exact ⟨12 + (m + 1 + b - a), by omega, key _ (by rw [show a + (m + 1 + b - a) = m + 1 + b by omega, per, eb])⟩
theorem meets511 : Meets 511 := by
  refine meets_of (fun j hj => ?_) ?_
  · have h := List.all_eq_true.mp steps512 j (List.mem_range.mpr (by omega))
    rw [decide_eq_true_eq] at h
    exact ⟨stepOf j, h.1, by rw [lcg_geo, geo_eq]; exact h.2⟩
  · rw [lcg_geo, geo_eq]
    decide +kernel
/-- the masks that come with fewer than 300 members -/
def Mk (m : Nat) : Prop := MaskOk m ∨ m = 511
theorem Mk.meets {m : Nat} (h : Mk m) : Meets m := by
  rcases h with h | rfl
  · exact fun g j hj => run_meets h g hj
  · exact meets511
theorem Mk.odd {m : Nat} (h : Mk m) : m % 2 = 1 := by
  rcases h with h | rfl
  · exact mask_odd h
  · rfl
theorem Mk.cases {m : Nat} (h : Mk m) : m = 7 ∨ m = 31 ∨ m = 127 ∨ m = 511 := by
  rcases h with (h | h | h) | h
  · exact .inl h
  · exact .inr (.inl h)
  · exact .inr (.inr (.inl h))
  · exact .inr (.inr (.inr h))
theorem way_in (m : Nat) (g : Int) (k : Nat) : way m g k ≤ m := by
  have r := runEnd_bd (Nat.le_of_lt_succ (Nat.mod_lt (SetTable.bits g) (Nat.succ_pos m)))
  have q := nth_in (m := m) k (runAt m (SetTable.bits g % (m + 1)) (SetTable.bits g)) (by
    show SetTable.bits g % (m + 1) + (SetTable.runEnd m (SetTable.bits g % (m + 1)) - SetTable.bits g % (m + 1)) ≤ m
    rw [Nat.add_sub_cancel' r.2.1]
    exact r.1)
  exact Nat.le_trans (Nat.le_add_right _ _) q
theorem way_meets {m : Nat} (hm : Meets m) (g : Int) {j : Nat} (hj : j ≤ m) : ∃ k, k < 10 * SetTable.turns m ∧ way m g k = j := by
  obtain ⟨n, hn, e⟩ := hm g j hj
  obtain ⟨k, hk, e2⟩ := run_nth m (SetTable.bits g) n
  exact ⟨k, by unfold SetTable.turns; omega, (congrArg SetTable.Probe.j e2).trans e⟩
/-- each member is found again from its hash gs -/
structure TabM (t : SetTable) (gs : List Int) : Prop where
  up : Ris t.place.toList
  no : t.dummies = #[]
  n : t.place.size = gs.length
  msk : Mk t.mask
  le : ∀ x, x ∈ t.place.toList → x ≤ t.mask
  at' : ∀ (i : Nat) (g : Int) (j : Nat), gs[i]? = some g → t.place.toList[i]? = some j → ∃ k, way t.mask g k = j ∧ ∀ c, c < k → way t.mask g c ∈ t.place.toList
section
variable {t : SetTable} {gs : List Int}
theorem TabM.len (T : TabM t gs) : t.place.toList.length = gs.length := (Array.length_toList).trans T.n
theorem TabM.gap (T : TabM t gs) (hl : gs.length ≤ t.mask) (g : Int) : ∃ K, K < 10 * SetTable.turns t.mask ∧ way t.mask g K ∉ t.place.toList ∧ ∀ c, c < K → way t.mask g c ∈ t.place.toList := by
  obtain ⟨j, hj, hn⟩ := st_missing t.place.toList (t.mask + 1) (by rw [T.len]; omega)
  obtain ⟨k, hk, e⟩ := way_meets T.msk.meets g (Nat.le_of_lt_succ hj)
  obtain ⟨K, h1, h2, h3⟩ := st_least (p := fun c => way t.mask g c ∉ t.place.toList) k (fun z => hn (e ▸ z))
  exact ⟨K, Nat.lt_of_le_of_lt h1 hk, h2, fun c hc => Classical.not_not.mp (h3 c hc)⟩
theorem TabM.ahead (T : TabM t gs) {g : Int} {K i j : Nat} (hK : way t.mask g K ∉ t.place.toList) (hi : gs[i]? = some g) (hj : t.place.toList[i]? = some j) : ∃ k, k < K ∧ way t.mask g k = j := by
  obtain ⟨k, e, hb⟩ := T.at' i g j hi hj
  refine ⟨k, Nat.lt_of_not_le fun z => ?_, e⟩
  rcases Nat.lt_or_eq_of_le z with c | c
  · exact hK (hb K c)
  · exact hK (c ▸ e ▸ List.mem_of_getElem? hj)
theorem TabM.put (T : TabM t gs) {g : Int} {K : Nat} (hK : way t.mask g K ∉ t.place.toList) (hb : ∀ c, c < K → way t.mask g c ∈ t.place.toList) :
    SetTable.below t.place (way t.mask g K) ≤ gs.length ∧ TabM (t.put (way t.mask g K)).1 (gs.take (SetTable.below t.place (way t.mask g K)) ++ g :: gs.drop (SetTable.below t.place (way t.mask g K))) ∧ (t.put (way t.mask g K)).1.fill = gs.length + 1 := by
  have hin := way_in t.mask g K
  generalize hj : way t.mask g K = j at hK hin ⊢
  obtain ⟨c1, _, _⟩ := below_cut T.up j
  have b1 : SetTable.below t.place j ≤ t.place.toList.length := by rw [Array.length_toList]; exact c1
  have b2 : SetTable.below t.place j ≤ gs.length := T.len ▸ b1
  have pp := put_place t j
  have sz : (t.put j).1.place.size = gs.length + 1 := by rw [← Array.length_toList, pp, len_ins _ b1, T.len]
  have sub : ∀ x, x ∈ t.place.toList → x ∈ (t.put j).1.place.toList := fun x hx => by
    rw [pp]
    exact mem_ins.mpr (.inr hx)
  have pd := put_dm T.no j
  refine ⟨b2, ⟨ris_insert T.up fun e => hK (List.mem_of_getElem? (i := SetTable.below t.place j) (by rw [Array.getElem?_toList]; exact e)), pd, by rw [len_ins _ b2, sz], T.msk, fun x hx => ?_, fun i g' j' e1 e2 => ?_⟩, ?_⟩
  · rw [pp] at hx
    rcases mem_ins.mp hx with z | z
    · exact z ▸ hin
    · exact T.le x z
  · rw [tins_get gs b2] at e1
    rw [pp, tins_get _ b1] at e2
    have old : ∀ i', gs[i']? = some g' → t.place.toList[i']? = some j' → ∃ k, way t.mask g' k = j' ∧ ∀ c, c < k → way t.mask g' c ∈ (t.put j).1.place.toList := fun i' z1 z2 => by
      obtain ⟨k, e, z⟩ := T.at' i' g' j' z1 z2
      exact ⟨k, e, fun c hc => sub _ (z c hc)⟩
    by_cases lo : i < SetTable.below t.place j
    · rw [if_pos lo] at e1 e2
      exact old i e1 e2
    · rw [if_neg lo] at e1 e2
      by_cases eq : i = SetTable.below t.place j
      · rw [if_pos eq] at e1 e2
        cases e1
        cases e2
        exact ⟨K, hj, fun c hc => sub _ (hb c hc)⟩
      · rw [if_neg eq] at e1 e2
        exact old (i - 1) e1 e2
  · show (t.put j).1.place.size + (t.put j).1.dummies.size = _
    rw [sz, pd]
    rfl
end
/-! laying anew -/
theorem free_way {m : Nat} (hm : Meets m) (ow : Array (Option Nat)) (g : Int) {j : Nat} (hj : j ≤ m) (hf : oAt ow j = none) :
    ∃ K, SetTable.layClean.free m ow (SetTable.turns m) (SetTable.bits g % (m + 1)) (SetTable.bits g) = some (way m g K) ∧ oAt ow (way m g K) = none ∧ ∀ c, c < K → oAt ow (way m g c) ≠ none := by
  obtain ⟨n, hn, e⟩ := hm g j hj
  have hw : way m g (off m (SetTable.bits g % (m + 1)) (SetTable.bits g) n) = j := by
    show (nth m (runAt m _ _) _).j = j
    rw [nth_off, itL_run]
    exact e
  obtain ⟨K, k1, k2, k3⟩ := st_least (p := fun c => oAt ow (way m g c) = none) _ (show oAt ow (way m g (off m (SetTable.bits g % (m + 1)) (SetTable.bits g) n)) = none by rw [hw]; exact hf)
  refine ⟨K, free_spec m ow _ n _ _ K (by unfold SetTable.turns; omega) k1 (fun c hc => ?_) (by rw [show oAt ow (nth m _ K).j = none from k2]; rfl), k2, k3⟩
  cases z : oAt ow (nth m (runAt m (SetTable.bits g % (m + 1)) (SetTable.bits g)) c).j with
  | none => exact absurd z (k3 c hc)
  | some _ => rfl
theorem own_next {m : Nat} (hm : Meets m) {done : List Int} {ow : Array (Option Nat)} (W : Own m done ow) (hl : done.length ≤ m) (g : Int) :
    ∃ j, SetTable.layClean.free m ow (SetTable.turns m) (SetTable.bits g % (m + 1)) (SetTable.bits g) = some j ∧ Own m (done ++ [g]) (ow.setIfInBounds j (some done.length)) := by
  obtain ⟨ps, hps, hin⟩ := W.ps
  obtain ⟨j0, h0, hn0⟩ := st_missing ps (m + 1) (hps ▸ Nat.lt_succ_of_le hl)
  obtain ⟨K, e1, e2, e3⟩ := free_way hm ow g (Nat.le_of_lt_succ h0) (Classical.byContradiction fun z => hn0 (hin j0 (Nat.le_of_lt_succ h0) z))
  have hjm := way_in m g K
  generalize hj : way m g K = j at e1 e2 hjm
  have hjs : j < ow.size := by rw [W.sz]; omega
  have self := oAt_set_self (some done.length) hjs
  have up : ∀ i, oAt ow i ≠ none → oAt (ow.setIfInBounds j (some done.length)) i ≠ none := fun i hi => by
    by_cases c : i = j
    · rw [c, self]
      exact Option.some_ne_none _
    · rw [oAt_set_ne _ c]
      exact hi
  refine ⟨j, e1, by rw [Array.size_setIfInBounds]; exact W.sz, fun i k hi e => ?_, fun k hk => ?_, j :: ps, by simp [hps], fun i hi e => ?_⟩
  · by_cases c : i = j
    · rw [c, self] at e
      cases e
      exact ⟨g, K, by rw [List.getElem?_append_right (Nat.le_refl _), Nat.sub_self]; rfl, hj.trans c.symm, fun c' hc' => up _ (e3 c' hc')⟩
    · rw [oAt_set_ne _ c] at e
      obtain ⟨g', K', a1, a2, a3⟩ := W.at_ i k hi e
      exact ⟨g', K', by rw [List.getElem?_append_left (List.getElem?_eq_some_iff.mp a1).1]; exact a1, a2, fun c' hc' => up _ (a3 c' hc')⟩
  · by_cases c : k = done.length
    · exact ⟨j, hjm, c ▸ self⟩
    · rw [List.length_append] at hk
      obtain ⟨i, hi, e⟩ := W.all k (by simp at hk; omega)
      exact ⟨i, hi, by rw [oAt_set_ne _ (fun z => by rw [z, e2] at e; cases e)]; exact e⟩
  · by_cases c : i = j
    · exact c ▸ List.mem_cons_self
    · rw [oAt_set_ne _ c] at e
      exact List.mem_cons_of_mem _ (hin i hi e)
theorem lay_fold {m : Nat} (hm : Meets m) : ∀ (more done : List Int) (ow : Array (Option Nat)), Own m done ow → done.length + more.length ≤ m → ∃ ow', more.foldl (stepF m) (some (ow, done.length)) = some (ow', (done ++ more).length) ∧ Own m (done ++ more) ow'
  | [], done, ow, W, _ => by
    rw [List.append_nil]
    exact ⟨ow, rfl, W⟩
  | g :: more, done, ow, W, hl => by
    have hl2 : done.length + (more.length + 1) ≤ m := hl
    obtain ⟨j, e, W'⟩ := own_next hm W (by omega) g
    have q := lay_fold hm more (done ++ [g]) _ W' (by rw [List.length_append]; show done.length + 1 + more.length ≤ m; omega)
    rw [List.append_assoc, List.length_append] at q
    obtain ⟨ow', f, W2⟩ := q
    refine ⟨ow', ?_, W2⟩
    rw [List.foldl_cons, stepF_some (k := done.length) e]
    exact f
theorem lay_clean {m : Nat} (hm : Meets m) {hs : Array Int} (hn : hs.size ≤ m) : ∃ ow, SetTable.layClean m hs = some ow ∧ Own m hs.toList ow := by
  obtain ⟨ow, f, W⟩ := lay_fold hm hs.toList [] _ (Own.init m) (by show 0 + hs.toList.length ≤ m; rw [Array.length_toList]; omega)
  exact ⟨ow, by rw [layClean_eq, show hs.toList.foldl (stepF m) (some (Array.replicate (m + 1) none, 0)) = _ from f]; rfl, W⟩
theorem relaid_tab (t : SetTable) {hs : Array Int} {wanted M : Nat} (hw : SetTable.sizeAbove wanted - 1 = M) (hM : Mk M) (hn : hs.size ≤ M) :
    ∃ t' order, t.relaid hs wanted = some (t', order) ∧ order.toList.Perm (List.range hs.size) ∧ TabM t' (order.toList.map fun i => hs.getD i 0) ∧ t'.mask = M ∧ t'.led = t.led := by
  obtain ⟨ow, e, W⟩ := lay_clean hM.meets hn
  have er : t.relaid hs wanted = some (tabOf t M ow, ((liveOf M ow).map (·.2)).toArray) := by
    rw [relaid_eq, hw, e]
    rfl
  have rr := ris_live (fun j => ow.getD j none) (List.range (M + 1)) (by unfold Ris; exact List.pairwise_lt_range)
  have r1 : Ris ((liveOf M ow).map (·.1)) := rr.1
  have r2 : ∀ x ∈ (liveOf M ow).map (·.1), x ∈ List.range (M + 1) := rr.2
  have hz : hs.toList.length = hs.size := Array.length_toList
  have hlen : (liveOf M ow).length = hs.size := by
    obtain ⟨ps, p1, p2⟩ := W.ps
    have a : ((liveOf M ow).map (·.1)).length ≤ ps.length := nat_nodup_len _ ps (List.Pairwise.imp (fun h => Nat.ne_of_lt h) r1) fun x hx => by
      obtain ⟨⟨y, k⟩, hq, rfl⟩ := List.mem_map.mp hx
      have ⟨b1, b2⟩ := (mem_live W.sz).mp hq
      exact p2 y b1 (by rw [b2]; exact Option.some_ne_none _)
    have b : (List.range hs.size).length ≤ ((liveOf M ow).map (·.2)).length := nat_nodup_len _ _ List.nodup_range fun k hk => by
      obtain ⟨j, b1, b2⟩ := W.all k (by rw [hz]; exact List.mem_range.mp hk)
      exact List.mem_map.mpr ⟨_, (mem_live W.sz).mpr ⟨b1, b2⟩, rfl⟩
    rw [List.length_map] at a b
    rw [List.length_range] at b
    omega
  refine ⟨_, _, er, perm_range hs.size _ (by simpa using hlen) fun k hk => ?_, ⟨r1, rfl, by simp [tabOf], hM, fun x hx => Nat.le_of_lt_succ (List.mem_range.mp (r2 x hx)), fun i g j h1 h2 => ?_⟩, rfl, rfl⟩
  · obtain ⟨j, b1, b2⟩ := W.all k (by rw [hz]; exact hk)
    exact List.mem_map.mpr ⟨_, (mem_live W.sz).mpr ⟨b1, b2⟩, rfl⟩
  · have z1 : (((liveOf M ow).map (·.2)).map fun i => hs.getD i 0)[i]? = some g := h1
    have z2 : ((liveOf M ow).map (·.1))[i]? = some j := h2
    rw [List.getElem?_map, List.getElem?_map] at z1
    rw [List.getElem?_map] at z2
    cases hq : (liveOf M ow)[i]? with
    | none =>
      rw [hq] at z2
      cases z2
    | some q =>
      rw [hq] at z1 z2
      cases z2
      have ⟨b1, b2⟩ := (mem_live W.sz).mp (List.mem_of_getElem? hq)
      obtain ⟨g0, K, a1, a2, a3⟩ := W.at_ q.1 q.2 b1 b2
      have eg : g0 = g := by
        have u : hs.getD q.2 0 = g := Option.some.inj z1
        rw [Array.getD_eq_getD_getElem?, ← Array.getElem?_toList, a1] at u
        exact u
      subst eg
      refine ⟨K, a2, fun c hc => ?_⟩
      show way M g0 c ∈ (liveOf M ow).map (·.1)
      cases z : oAt ow (way M g0 c) with
      | none => exact absurd z (a3 c hc)
      | some k2 => exact List.mem_map.mpr ⟨(way M g0 c, k2), (mem_live W.sz).2 ⟨way_in M g0 c, z⟩, rfl⟩
theorem sizes : SetTable.sizeAbove (SetTable.grown 5) = 32 ∧ SetTable.sizeAbove (SetTable.grown 19) = 128 ∧ SetTable.sizeAbove (SetTable.grown 77) = 512 := by decide +kernel
end SH
/-! sets of any heap keys: the search, and adding -/
namespace SH
open PySem PySem.Spec PyProof.Rows L2
/-- the c-th probe for the hash g -/
def pb (m : Nat) (g : Int) (c : Nat) : SetTable.Probe := nth m (runAt m (SetTable.bits g % (m + 1)) (SetTable.bits g)) c
theorem pb_add (m : Nat) (g : Int) (c q : Nat) : nth m (pb m g c) q = pb m g (c + q) := (nth_add m c _ q).symm
theorem pb_dummy (m : Nat) (g : Int) : ∀ c, (pb m g c).dummy = none
  | 0 => rfl
  | c + 1 => by
    rw [← pb_add m g c 1]
    show (adv m (pb m g c)).dummy = none
    unfold adv
    split <;> exact pb_dummy m g c
section
variable {P : Program} {w : World} {κ : Type} [DecidableEq κ] {knd : HeapKind P w κ} {A : Around} {E : Value → Shared → Prop} {s : Shared}
/-- what a set asks of a member beside its hash -/
structure Calm (knd : HeapKind P w κ) : Prop where
  st : knd.Stays
  cl : ∀ {A : Around} {E : Value → Shared → Prop} {s : Shared} {k : κ} {b : Addr} {Q : Bool → Shared → Prop}, knd.is s.heap k b → Q false s → wpAny (model P w) A (ofAClassStatement 8 (.ref b)) Q E s
  hv : ∀ {A : Around} {E : Value → Shared → Prop} {s : Shared} {k : κ} {b : Addr} {Q : Bool → Shared → Prop}, knd.is s.heap k b → (∀ r, Q r s) → wpAny (model P w) A (hashByValue 8 (.ref b)) Q E s
theorem seen_no (C : Calm knd) {k : κ} {b : Addr} {Q : Bool → Shared → Prop} (hk : knd.is s.heap k b) {ys : List Value} (hy : ∀ y ∈ ys, ∃ k' c, y = Value.ref c ∧ knd.is s.heap k' c) (h : Q false s) :
    wpAny (model P w) A (searchCouldBeSeen (.ref b) ys) Q E s := by
  unfold searchCouldBeSeen
  refine wpAny_bind (wpAny_forIn_list _ (fun rest r z => z = s ∧ r.1 = none ∧ ∀ y ∈ rest, ∃ k' c, y = Value.ref c ∧ knd.is s.heap k' c) _ (fun v rest r z hz => ?_) (fun r z hz => ?_) _ _ ⟨rfl, rfl, hy⟩)
  · obtain ⟨rfl, hr, al⟩ := hz
    obtain ⟨k', c, rfl, hc⟩ := al v List.mem_cons_self
    have tl : ∀ y ∈ rest, ∃ k' c, y = Value.ref c ∧ knd.is z.heap k' c := fun y hy => al y (List.mem_cons_of_mem _ hy)
    dsimp only
    by_cases e : (b == c || (carriedByValue (.ref b) && carriedByValue (.ref c))) = true
    · exact wp_if_pos e (wpAny_pure ⟨rfl, rfl, tl⟩)
    · refine wp_if_neg e (wpAny_bind (knd.quiet hk ?_))
      rw [Bool.not_true, if_neg Bool.false_ne_true]
      refine wpAny_bind (knd.quiet hc ?_)
      rw [Bool.not_true, if_neg Bool.false_ne_true]
      refine wpAny_bind (C.cl hk ?_)
      rw [if_neg Bool.false_ne_true]
      refine wpAny_bind (C.cl hc ?_)
      rw [if_neg Bool.false_ne_true]
      exact wpAny_pure ⟨rfl, rfl, tl⟩
  · obtain ⟨r1, r2⟩ := r
    obtain ⟨rfl, hr, _⟩ := hz
    cases (show r1 = none from hr)
    exact wpAny_pure h
/-- the set at a, of the members L (their places, their keys) in the table's order -/
structure SetH (knd : HeapKind P w κ) (h : Heap) (a : Addr) (L : List (Addr × κ)) (es : Array (Int × Value)) (ep : Nat) (t : SetTable) : Prop where
  ob : ∃ o, h.get? a = some o ∧ o.ExactSet ∧ o.data = .set es ep t
  rows : es.toList = L.map fun p => (knd.hash p.2, Value.ref p.1)
  tab : TabM t (L.map fun p => knd.hash p.2)
  nd : (L.map (·.2)).Nodup
  el : ∀ p ∈ L, knd.is h p.2 p.1
  ld : w.params.followText "set-order" = true ∨ t.led = true
  gap : L.length * 5 < t.mask * 3
variable {a : Addr} {L : List (Addr × κ)} {es : Array (Int × Value)} {ep : Nat} {t : SetTable}
theorem rows_size (h : es.toList = L.map fun p => (knd.hash p.2, Value.ref p.1)) : es.size = L.length := by
  rw [← Array.length_toList, h, List.length_map]
theorem rows_at (h : es.toList = L.map fun p => (knd.hash p.2, Value.ref p.1)) {i : Nat} {p : Addr × κ} (e : L[i]? = some p) : es[i]? = some (knd.hash p.2, Value.ref p.1) := by
  rw [← Array.getElem?_toList, h, List.getElem?_map, e]
  rfl
theorem fits_of {gs : List Int} (T : TabM t gs) {n : Nat} (hn : gs.length = n) (hl : n ≤ t.mask) : t.fits n = true := by
  have := T.n
  unfold SetTable.fits SetTable.fill
  rw [T.no, Bool.and_eq_true, beq_iff_eq, decide_eq_true_eq]
  show t.place.size = n ∧ t.place.size + 0 ≤ t.mask
  omega
theorem SetH.fits (R : SetH knd s.heap a L es ep t) : t.fits es.size = true := by
  have h2 := R.gap
  have h3 := rows_size R.rows
  exact fits_of R.tab (by rw [List.length_map]; exact h3.symm) (by omega)
theorem SetH.small (R : SetH knd s.heap a L es ep t) : L.length ≤ 306 := by
  have h2 := R.gap
  rcases R.tab.msk.cases with e | e | e | e <;> omega
/-- the search from its c-th step on; K: the first gap on the way -/
theorem look (C : Calm knd) (R : SetH knd s.heap a L es ep t) {x : Addr} {k : κ} (hx : knd.is s.heap k x) (hr : knd.room A) {K : Nat} (hKf : K < 10 * SetTable.turns t.mask)
    (hK : way t.mask (knd.hash k) K ∉ t.place.toList) (hKb : ∀ c, c < K → way t.mask (knd.hash k) c ∈ t.place.toList) {Q : SetFound → Shared → Prop}
    (yes : k ∈ L.map (·.2) → Q (.there none) s) (no : k ∉ L.map (·.2) → Q (.free (way t.mask (knd.hash k) K) false) s) :
    ∀ (f c : Nat) (stand : Option SetTable.Probe), stand.getD (t.probeStart (knd.hash k)) = pb t.mask (knd.hash k) c → c ≤ K → K - c < f →
      (∀ (i : Nat) p, L[i]? = some p → p.2 = k → ∃ d, c ≤ d ∧ d < K ∧ t.place.toList[i]? = some (way t.mask (knd.hash k) d)) →
      wpAny (model P w) A (setSearchFrom a (.ref x) (knd.hash k) true f stand) Q E s
  | 0, c, stand, _, _, hf, _ => absurd hf (Nat.not_lt_zero _)
  | f + 1, c, stand, hst, hc, hf, hre => by
    obtain ⟨o, ho, hex, hd⟩ := R.ob
    have odd := R.tab.msk.odd
    rw [setSearchFrom_succ]
    refine wpAny_bind (wpAny_setState_of ho hd R.fits ?_)
    dsimp only
    refine wp_if_neg (by unfold SetTable.gaveWay; rw [odd]; decide) ?_
    try refine wpAny_bind (wpAny_pure ?_)
    have hz : c + (K - c) = K := by omega
    have hs : ∀ (i : Nat) p, L[i]? = some p → (fun i => (es[i]?.map (·.1)).getD 0) i = knd.hash p.2 := fun i p hp => by
      show (es[i]?.map (·.1)).getD 0 = _
      rw [rows_at R.rows hp]
      rfl
    have J : ∀ q, (nth t.mask (pb t.mask (knd.hash k) c) q).j = way t.mask (knd.hash k) (c + q) := fun q => congrArg SetTable.Probe.j (pb_add t.mask (knd.hash k) c q)
    rcases go_spec t R.tab.up R.tab.no (fun i => (es[i]?.map (·.1)).getD 0) (knd.hash k) (10 * SetTable.turns t.mask) (K - c) (pb t.mask (knd.hash k) c) (pb_dummy _ _ _) (by omega)
      (fun q hq => by rw [J]; exact hKb _ (by omega)) (by rw [J, hz]; exact hK) with ⟨q, i, hq, hi, _, first, pr⟩ | ⟨first, pr⟩
    · rw [J] at hi
      have pr2 : t.probe (fun i => (es[i]?.map (·.1)).getD 0) (knd.hash k) (stand.getD (t.probeStart (knd.hash k))) = some (.candidate (way t.mask (knd.hash k) (c + q)) i (pb t.mask (knd.hash k) (c + (q + 1)))) := by
        rw [hst, ← J, ← pb_add]
        exact pr
      rw [pr2]
      dsimp only
      have il : i < L.length := by
        have h1 := (List.getElem?_eq_some_iff.mp hi).1
        rw [R.tab.len, List.length_map] at h1
        exact h1
      obtain ⟨p, hp⟩ : ∃ p, L[i]? = some p := ⟨_, List.getElem?_eq_getElem il⟩
      have pm := List.mem_of_getElem? hp
      have rest : wpAny (model P w) A (searchRest a (.ref x) (knd.hash k) true f es t (way t.mask (knd.hash k) (c + q)) i (pb t.mask (knd.hash k) (c + (q + 1)))) Q E s := by
        unfold searchRest
        rw [rows_at R.rows hp]
        dsimp only
        refine wpAny_bind (wpAny_holding (knd.eqBool hr (R.el p pm) hx (wpAny_bind (wpAny_setState_of ho hd R.fits ?_))))
        dsimp only
        by_cases e : p.2 = k
        · exact wp_if_pos (by simp [e]) (wpAny_pure (yes (List.mem_map.mpr ⟨p, pm, e⟩)))
        · refine wp_if_neg (by simp [e]) ?_
          try refine wpAny_bind (wpAny_pure ?_)
          have live : t.slot (way t.mask (knd.hash k) (c + q)) = .live i := slot_live R.tab.up hi
          rw [sameMem]
          dsimp only
          simp only [if_true, live, rows_at R.rows hp]
          refine wpAny_bind (wpAny_isSame_ref_self (wpAny_bind (wpAny_pure ?_)))
          simp only [if_true]
          refine wp_if_neg (by simp [e]) ?_
          refine look C R hx hr hKf hK hKb yes no f (c + (q + 1)) _ rfl (by omega) (by omega) fun i0 p0 h0 k0 => ?_
          obtain ⟨d, d1, d2, d3⟩ := hre i0 p0 h0 k0
          refine ⟨d, Nat.lt_of_not_le fun z => ?_, d2, d3⟩
          rcases Nat.lt_or_eq_of_le z with z | z
          · exact first (d - c) i0 (Nat.sub_lt_left_of_lt_add d1 z) (by rw [J, Nat.add_sub_cancel' d1]; exact d3) ((hs i0 p0 h0).trans (congrArg knd.hash k0))
          · have z : d = c + q := z
            have s0 := slot_live R.tab.up d3
            rw [z, live] at s0
            cases s0
            rw [hp] at h0
            cases h0
            exact e k0
      by_cases hl : t.led = true
      · refine wp_if_neg (by simp [hl]) ?_
        try refine wpAny_bind (wpAny_pure ?_)
        exact rest
      · refine wp_if_pos (by simp [hl]) (wpAny_bind (seen_no C hx (fun y hy => ?_) ?_))
        · obtain ⟨u, hu, rfl⟩ := List.mem_map.mp hy
          have hu2 : u ∈ es.toList := by
            have h1 : u ∈ es ∧ u.1 = knd.hash k := by simpa using hu
            simpa using h1.1
          rw [R.rows] at hu2
          obtain ⟨p2, hp2, rfl⟩ := List.mem_map.mp hu2
          exact ⟨p2.2, p2.1, rfl, R.el p2 hp2⟩
        · refine wp_if_neg (by decide) ?_
          try refine wpAny_bind (wpAny_pure ?_)
          exact rest
    · have pr2 : t.probe (fun i => (es[i]?.map (·.1)).getD 0) (knd.hash k) (stand.getD (t.probeStart (knd.hash k))) = some (.empty (way t.mask (knd.hash k) K) none) := by
        have e2 := J (K - c)
        rw [hz] at e2
        rw [hst, ← e2]
        exact pr
      rw [pr2]
      dsimp only
      refine wpAny_pure (no fun hm => ?_)
      obtain ⟨p0, h0, k0⟩ := List.mem_map.mp hm
      obtain ⟨i0, hi0⟩ := List.mem_iff_getElem?.mp h0
      obtain ⟨d, d1, d2, d3⟩ := hre i0 p0 hi0 k0
      exact first (d - c) i0 (by omega) (by rw [J, Nat.add_sub_cancel' d1]; exact d3) ((hs i0 p0 hi0).trans (congrArg knd.hash k0))
/-- the search that adding makes -/
theorem look_at (C : Calm knd) (R : SetH knd s.heap a L es ep t) {x : Addr} {k : κ} (hx : knd.is s.heap k x) (hr : knd.room A) {Q : SetFound → Shared → Prop} (yes : k ∈ L.map (·.2) → Q (.there none) s)
    (no : ∀ K, k ∉ L.map (·.2) → way t.mask (knd.hash k) K ∉ t.place.toList → (∀ c, c < K → way t.mask (knd.hash k) c ∈ t.place.toList) → Q (.free (way t.mask (knd.hash k) K) false) s) :
    wpAny (model P w) A (setSearch a (.ref x) (knd.hash k) true) Q E s := by
  have g := R.gap
  obtain ⟨K, k1, k2, k3⟩ := R.tab.gap (by rw [List.length_map]; omega) (knd.hash k)
  have big : 10 * SetTable.turns t.mask ≤ 10000 := by
    unfold SetTable.turns
    rcases R.tab.msk.cases with e | e | e | e <;> omega
  unfold setSearch
  refine look C R hx hr k1 k2 k3 yes (fun n => no K n k2 k3) 100000 0 none rfl (Nat.zero_le _) (by omega) fun i p hp hk => ?_
  have hi : (L.map fun p => knd.hash p.2)[i]? = some (knd.hash k) := by
    rw [List.getElem?_map, hp, ← hk]
    rfl
  have hil : i < t.place.toList.length := by
    rw [R.tab.len]
    exact (List.getElem?_eq_some_iff.mp hi).1
  obtain ⟨c, hc, e⟩ := R.tab.ahead k2 hi (List.getElem?_eq_getElem hil)
  exact ⟨c, Nat.zero_le _, hc, by rw [List.getElem?_eq_getElem hil, e]⟩
/-- a member isn't the set -/
theorem el_same (C : Calm knd) {h h' : Heap} {k : κ} {b : Addr} {o : Obj} (hb : knd.is h k b) (ho : h.get? a = some o) (hd : o.data = .set es ep t) (hs : Heap.SameBut a h h') : knd.is h' k b := by
  refine C.st.stays (fun c u vs n hc hu => ?_) hb
  refine (hs.2 c fun e => ?_).trans hc
  rw [e, ho] at hc
  cases hc
  rw [hd] at hu
  cases hu
/-- the rows in the order of another table -/
theorem rows_order (h : es.toList = L.map fun p => (knd.hash p.2, Value.ref p.1)) (od : Array Nat) (hp : od.toList.Perm (List.range L.length)) :
    ∃ L2 : List (Addr × κ), (od.filterMap (es[·]?)).toList = (L2.map fun p => (knd.hash p.2, Value.ref p.1)) ∧ L2.Perm L ∧ (L2.map fun p => knd.hash p.2) = od.toList.map fun i => (es.map (·.1)).getD i 0 := by
  have all : (List.range L.length).filterMap (fun i => L[i]?) = L := by
    clear hp h
    have gen : ∀ (M : List (Addr × κ)), (List.range M.length).filterMap (fun i => M[i]?) = M := by
      intro M
      induction M with
      | nil => rfl
      | cons x M ih =>
        rw [List.length_cons, List.range_succ_eq_map, List.filterMap_cons_some (f := fun i => (x :: M)[i]?) (a := 0) (b := x) rfl, List.filterMap_map]
        exact congrArg (x :: ·) ih
    exact gen L
  have one : ∀ l : List Nat, (∀ i ∈ l, i < L.length) → l.filterMap (fun i => es[i]?) = ((l.filterMap fun i => L[i]?).map fun p => (knd.hash p.2, Value.ref p.1)) ∧ ((l.filterMap fun i => L[i]?).map fun p => knd.hash p.2) = l.map fun i => (es.map (·.1)).getD i 0 := by
    intro l
    induction l with
    | nil => exact fun _ => ⟨rfl, rfl⟩
    | cons i l ih =>
      intro hl
      have hi := List.getElem?_eq_getElem (hl i List.mem_cons_self)
      obtain ⟨e1, e2⟩ := ih fun j hj => hl j (List.mem_cons_of_mem _ hj)
      have e5 : (es.map (·.1))[i]? = some (knd.hash (L[i]'(hl i List.mem_cons_self)).2) := by
        rw [Array.getElem?_map, rows_at h hi]
        rfl
      rw [List.filterMap_cons_some (rows_at h hi), List.filterMap_cons_some hi, e1, List.map_cons, List.map_cons, List.map_cons, e2]
      exact ⟨rfl, by rw [Array.getD_eq_getD_getElem?, e5]; rfl⟩
  obtain ⟨e1, e2⟩ := one od.toList fun i hi => List.mem_range.mp (hp.mem_iff.mp hi)
  refine ⟨od.toList.filterMap fun i => L[i]?, by rw [Array.toList_filterMap]; exact e1, ?_, e2⟩
  have q := hp.filterMap fun i => L[i]?
  rw [all] at q
  exact q
/-- the members in a larger table -/
theorem relay (C : Calm knd) {o : Obj} (ho : s.heap.get? a = some o) (hex : o.ExactSet) (hd : o.data = .set es ep t) (rows : es.toList = L.map fun p => (knd.hash p.2, Value.ref p.1)) (hf : t.fits es.size = true)
    (nd : (L.map (·.2)).Nodup) (el : ∀ p ∈ L, knd.is s.heap p.2 p.1) (ld : w.params.followText "set-order" = true ∨ t.led = true) {wanted M : Nat}
    (hw : SetTable.sizeAbove wanted = M + 1) (hM : Mk M) (hn : L.length * 5 < M * 3) {Q : Unit → Shared → Prop}
    (hQ : ∀ h' L' es' ep' t', Heap.SameBut a s.heap h' → SetH knd h' a L' es' ep' t' → L'.Perm L → Q () { s with heap := h' }) : wpAny (model P w) A (setRelay a wanted) Q E s := by
  have hz := rows_size rows
  have hM5 : M ≤ 511 := by rcases hM.cases with e | e | e | e <;> omega
  obtain ⟨t', od, e, hp, T, em, el'⟩ := relaid_tab t (hs := es.map (·.1)) (wanted := wanted) (M := M) (by omega) hM (by rw [Array.size_map]; omega)
  rw [Array.size_map, hz] at hp
  obtain ⟨L2, r1, r2, r3⟩ := rows_order rows od hp
  rw [← r3] at T
  have z2 := (rows_size r1).trans (r2.length_eq.trans hz.symm)
  have line : sizeLine = 16777216 := rfl
  rw [setRelay_eq]
  refine wpAny_bind (wpAny_setState_of ho hd hf ?_)
  dsimp only
  refine wp_if_neg (by rw [hw]; omega) ?_
  try refine wpAny_bind (wpAny_pure ?_)
  rw [e]
  dsimp only
  refine wpAny_bind (wp_if_neg (by rw [z2]; simp) ?_)
  try refine wpAny_bind (wpAny_pure ?_)
  refine wpAny_pure ?_
  dsimp only
  refine wpAny_storeSet_of ho hd (hQ _ L2 (od.filterMap (es[·]?)) (ep + 1) t' (Heap.SameBut.update ..) ⟨⟨_, store_at ho hd, ⟨hex.1, hex.2.1, hex.2.2⟩, rfl⟩, r1, T, (r2.map (·.2)).nodup_iff.mpr nd, fun p hpm => el_same C (el p (r2.mem_iff.mp hpm)) ho hd (Heap.SameBut.update ..), by rw [el']; exact ld, by rw [r2.length_eq, em]; exact hn⟩ r2) (by rw [z2]; omega)
/-- one more member -/
theorem add (C : Calm knd) (R : SetH knd s.heap a L es ep t) {x : Addr} {k : κ} (hx : knd.is s.heap k x) (hr : knd.room A) (few : L.length + 1 ≤ 300) {Q : Bool → Shared → Prop}
    (hQ : ∀ b h' L' es' ep' t', Heap.SameBut a s.heap h' → SetH knd h' a L' es' ep' t' → (k ∈ L.map (·.2) → L' = L) → (k ∉ L.map (·.2) → L'.Perm ((x, k) :: L)) → Q b { s with heap := h' }) :
    wpAny (model P w) A (setAddHashed a (.ref x) (knd.hash k)) Q E s := by
  obtain ⟨o, ho, hex, hd⟩ := R.ob
  have line : sizeLine = 16777216 := rfl
  unfold setAddHashed
  rw [show (100000 : Nat) = 99999 + 1 from rfl, setAddHashedIn_succ]
  refine wpAny_holding (wpAny_bind (wpAny_setState_of ho hd R.fits ?_))
  dsimp only
  refine wp_if_neg (by simp [byScan, Value.scannable]) ?_
  try refine wpAny_bind (wpAny_pure ?_)
  refine wpAny_bind (look_at C R hx hr (fun hm => ?_) fun K hm hK hb => ?_)
  · exact wpAny_pure (hQ false s.heap L es ep t (Heap.SameBut.refl a s.heap) R (fun _ => rfl) fun z => absurd hm z)
  · dsimp only
    refine wpAny_bind (wpAny_setState_of ho hd R.fits ?_)
    dsimp only
    obtain ⟨q1, q2, q3⟩ := R.tab.put hK hb
    have zL := rows_size R.rows
    have gap := R.gap
    -- the table with the new slot
    have v1 : (t.put (way t.mask (knd.hash k) K)).2 = SetTable.below t.place (way t.mask (knd.hash k) K) := rfl
    have v2 : (t.put (way t.mask (knd.hash k) K)).1.mask = t.mask := rfl
    have v3 : (t.put (way t.mask (knd.hash k) K)).1.led = t.led := rfl
    generalize t.put (way t.mask (knd.hash k) K) = pt at q2 q3 v1 v2 v3 ⊢
    obtain ⟨t1, p⟩ := pt
    dsimp only at q2 q3 v1 v2 v3 ⊢
    rw [← v1] at q1 q2
    have rows1 : (SetTable.insertAt es p (knd.hash k, Value.ref x)).toList = (L.take p ++ (x, k) :: L.drop p).map fun p => (knd.hash p.2, Value.ref p.1) := by
      rw [SetTable.toList_insertAt, R.rows, List.map_append, List.map_cons, List.map_take, List.map_drop]
    have pm : (L.take p ++ (x, k) :: L.drop p).Perm ((x, k) :: L) := by
      have h := List.perm_middle (a := (x, k)) (l₁ := L.take p) (l₂ := L.drop p)
      rw [List.take_append_drop] at h
      exact h
    have hg : (L.map fun p => knd.hash p.2).take p ++ knd.hash k :: (L.map fun p => knd.hash p.2).drop p = (L.take p ++ (x, k) :: L.drop p).map fun p => knd.hash p.2 := by
      rw [List.map_append, List.map_cons, List.map_take, List.map_drop]
    rw [hg] at q2
    generalize L.take p ++ (x, k) :: L.drop p = L1 at rows1 pm q2
    have l1 := pm.length_eq
    rw [List.length_cons] at l1
    have nd1 : (L1.map (·.2)).Nodup := (pm.map (·.2)).nodup_iff.mpr (List.nodup_cons.mpr ⟨hm, R.nd⟩)
    have z1 := rows_size rows1
    generalize SetTable.insertAt es p (knd.hash k, Value.ref x) = es1 at rows1 z1
    rw [List.length_map] at q3
    -- whatever becomes of the mark «plain»
    have main : ∀ t2 : SetTable, TabM t2 (L1.map fun p => knd.hash p.2) → t2.mask = t.mask → t2.led = t.led → t2.fill = L.length + 1 →
        wpAny (model P w) A (storeSet a es1 t2 >>= fun _ => if (!false && t2.tooFull) = true then (setRelay a (SetTable.grown (es.size + 1)) >>= fun _ => pure true) else pure true) Q E s := fun t2 T2 m2 d2 f2 => by
      refine wpAny_bind (wpAny_storeSet_of ho hd ?_ (by rw [z1]; omega))
      have sb : Heap.SameBut a s.heap (s.heap.update a (Obj.putSet es1 t2)) := Heap.SameBut.update ..
      have ho1 := store_at (es' := es1) (t' := t2) ho hd
      generalize s.heap.update a (Obj.putSet es1 t2) = h1 at sb ho1 ⊢
      have el1 : ∀ p ∈ L1, knd.is h1 p.2 p.1 := fun p hp => by
        rcases List.mem_cons.mp (pm.mem_iff.mp hp) with e | hp
        · rw [e]
          exact el_same C hx ho hd sb
        · exact el_same C (R.el p hp) ho hd sb
      have ld1 : w.params.followText "set-order" = true ∨ t2.led = true := d2.symm ▸ R.ld
      by_cases hf : t2.tooFull = true
      · have full : (L.length + 1) * 5 ≥ t.mask * 3 := by
          have h := hf
          unfold SetTable.tooFull at h
          rw [decide_eq_true_eq, f2, m2] at h
          exact h
        have big : ∃ M, SetTable.sizeAbove (SetTable.grown (es.size + 1)) = M + 1 ∧ Mk M ∧ L1.length * 5 < M * 3 ∧ t.mask < M := by
          rcases R.tab.msk.cases with e | e | e | e
          · exact ⟨31, by rw [show es.size + 1 = 5 by omega]; exact sizes.1, .inl (.inr (.inl rfl)), by omega, by omega⟩
          · exact ⟨127, by rw [show es.size + 1 = 19 by omega]; exact sizes.2.1, .inl (.inr (.inr rfl)), by omega, by omega⟩
          · exact ⟨511, by rw [show es.size + 1 = 77 by omega]; exact sizes.2.2, .inr rfl, by omega, by omega⟩
          · omega
        obtain ⟨M, b1, b2, b3, b4⟩ := big
        have fin : wpAny (model P w) A (setRelay a (SetTable.grown (es.size + 1))) (fun _ s' => Q true s') E { s with heap := h1 } :=
          relay (s := { s with heap := h1 }) C ho1 ⟨hex.1, hex.2.1, hex.2.2⟩ rfl rows1 (fits_of T2 (by rw [List.length_map, z1]) (by omega)) nd1 el1 ld1 b1 b2 b3 fun h2 L2 es2 ep2 t3 sb2 R2 pm2 => hQ true h2 L2 es2 ep2 t3 (sb.trans sb2) R2 (fun z => absurd z hm) fun _ => pm2.trans pm
        exact wp_if_pos (by rw [hf]; rfl) (wpAny_bind (wpAny_mono fin (fun _ _ h => wpAny_pure h) fun _ _ h => h))
      · have fin : Q true { s with heap := h1 } := hQ true h1 L1 es1 (ep + 1) t2 sb ⟨⟨_, ho1, ⟨hex.1, hex.2.1, hex.2.2⟩, rfl⟩, rows1, T2, nd1, el1, ld1, by
          have h := hf
          unfold SetTable.tooFull at h
          rw [decide_eq_true_eq, f2, m2] at h
          omega⟩ (fun z => absurd z hm) fun _ => pm
        exact wp_if_neg (by rw [Bool.eq_false_iff.mpr hf]; decide) (wpAny_pure fin)
    have both : ∀ r : Bool, ∃ t2, (if r = true then t1 else { t1 with plain := false }) = t2 ∧ TabM t2 (L1.map fun p => knd.hash p.2) ∧ t2.mask = t.mask ∧ t2.led = t.led ∧ t2.fill = L.length + 1 := fun r => by
      cases r
      · exact ⟨{ t1 with plain := false }, rfl, ⟨q2.up, q2.no, q2.n, q2.msk, q2.le, q2.at'⟩, v2, v3, q3⟩
      · exact ⟨t1, rfl, q2, v2, v3, q3⟩
    by_cases pl : t1.plain = true
    · refine wp_if_pos pl (wpAny_bind (C.hv hx fun r => ?_))
      obtain ⟨t2, e2, f1, f2, f3, f4⟩ := both r
      rw [e2]
      exact main t2 f1 f2 f3 f4
    · refine wp_if_neg pl (wpAny_bind (wpAny_pure ?_))
      obtain ⟨t2, e2, f1, f2, f3, f4⟩ := both true
      rw [e2]
      exact main t2 f1 f2 f3 f4
end
end SH
/-! set(xs) of a list, whatever the members: by what holds of the set behind i items -/
namespace SH
open PySem PySem.Spec PyProof.Rows L2
/-- a set just made -/
abbrev fs (w : World) : Obj := { cls := .type "set", dict := none, data := .set #[] 0 (.fresh 0 0 (!w.params.followText "set-order")) }
section
variable {P : Program} {w : World} {A : Around} {E : Value → Shared → Prop} {s : Shared}
/-- what adding the item v to the set at S leaves -/
def Adds (P : Program) (w : World) (A : Around) (S : Addr) (v : Value) (J : Heap → Prop) (z : Shared) : Prop :=
  ∀ E' : Value → Shared → Prop, wpAny (model P w) A (setAdd S v) (fun _ y => ∃ h' tk, z.toks ≤ tk ∧ y = { z with heap := h', toks := tk } ∧ Heap.SameBut S z.heap h' ∧ J h') E' z
theorem set_loop {it : Addr} {fp wr : List Addr} {G : Array GenState → Array GenState → Prop} {n : Nat} {Pv : Nat → Value → Prop} {St : Nat → Shared → Prop} {R : Result → Shared → Prop} (W : WalksS P w A.in1 it fp wr G n Pv St)
    {S : Addr} (hSf : S ∉ fp) (J : Nat → Heap → Prop) (h0 : Heap) (hS0 : h0.get? S = none) (hw0 : ∀ b ∈ wr, h0.get? b = none)
    (fr : ∀ i h h', J i h → (∀ o, h.get? S = some o → h'.get? S = some o) → (∀ b o, h0.get? b = some o → h'.get? b = some o) → J i h')
    (step : ∀ i v (z : Shared), i < n → Pv i v → (∀ b o, h0.get? b = some o → z.heap.get? b = some o) → J i z.heap → Adds P w A.in1 S v (J (i + 1)) z) :
    ∀ (k i : Nat) (s : Shared), n - i = k → i ≤ n → St i s → (∀ b o, h0.get? b = some o → s.heap.get? b = some o) → J i s.heap →
      (∀ s', Moved (S :: wr) G s s' → J n s'.heap → (∀ b o, h0.get? b = some o → s'.heap.get? b = some o) → R (.ok (.ret .none)) s') →
      codeAny (model P w) A (.builtin "set.update.loop" ⟨[.ref S, .ref it], []⟩) R s := by
  have notin : S ∉ wr := fun h => hSf (W.sub _ h)
  have up : ∀ b ∈ wr, b ∈ S :: wr := fun b hb => List.mem_cons_of_mem _ hb
  have keep : ∀ {z z' : Shared}, Moved wr G z z' → (∀ b o, h0.get? b = some o → z.heap.get? b = some o) → ∀ b o, h0.get? b = some o → z'.heap.get? b = some o := fun m k b o e =>
    m.heap b o (fun hb => absurd e (by rw [hw0 b hb]; exact fun z => nomatch z)) (k b o e)
  intro k
  induction k with
  | zero =>
    intro i s hk hi hst old hJ hR
    obtain rfl : i = n := by omega
    refine codeAny_builtin F.entry_set_update_loop ?_
    rw [Around.under_plainId (id := "set.update.loop") F.plain_set_update_loop]
    show wpAny (model P w) A.in1 (pyNext (.ref it) >>= _) _ _ s
    refine wpAny_bind (W.done s _ _ hst fun z m => ?_)
    show wpAny _ A.in1 (ret .none) _ _ z
    exact wpAny_pure (hR z (m.mono up) (fr _ _ _ hJ (fun o e => m.heap S o notin e) (keep m old)) (keep m old))
  | succ k ih =>
    intro i s hk hi hst old hJ hR
    have lt : i < n := by omega
    refine codeAny_builtin F.entry_set_update_loop ?_
    rw [Around.under_plainId (id := "set.update.loop") F.plain_set_update_loop]
    show wpAny (model P w) A.in1 (pyNext (.ref it) >>= _) _ _ s
    refine wpAny_bind (W.item i s _ _ lt hst fun v z hv hz m => ?_)
    have old' := keep m old
    show wpAny _ A.in1 (holding [v] (setAdd S v) >>= _) _ _ z
    refine wpAny_bind (wpAny_holding (wpAny_mono (step i v z lt hv old' (fr _ _ _ hJ (fun o e => m.heap S o notin e) old') _) (fun _ y hy => ?_) fun _ _ h => h))
    obtain ⟨h', tk, htk, rfl, sb, hJ'⟩ := hy
    have old2 : ∀ b o, h0.get? b = some o → h'.get? b = some o := fun b o e => (sb.2 b (fun e2 => by rw [e2, hS0] at e; cases e)).trans (old' b o e)
    refine wpAny_pure ⟨plainId_quiet F.plain_set_update_loop _, ih (i + 1) _ (by omega) lt (W.frame _ z _ _ hz htk fun b hb o e => ?_) old2 hJ' fun y my hy oy => ?_⟩
    · rw [sb.2 b fun e2 => hSf (e2 ▸ hb)]
      exact e
    · refine hR y (Moved.trans W.gtrans ((m.mono up).then_heap htk fun b o hb e => ?_) my) hy oy
      rw [sb.2 b fun e2 => hb (e2 ▸ List.mem_cons_self)]
      exact e
set_option maxHeartbeats 3200000 in
/-- set(xs), xs a list: J i holds of the heap once i items are in -/
theorem call_set_of {l : Addr} {its : Array Value} {Q : Value → Shared → Prop} (hh : A.handled = none) (hl : s.heap.IsList l its) (J : Nat → Heap → Prop)
    (fr : ∀ i h h', J i h → (∀ o, h.get? s.heap.objs.size = some o → h'.get? s.heap.objs.size = some o) → (∀ b o, s.heap.get? b = some o → h'.get? b = some o) → J i h')
    (start : ∀ h, h.get? s.heap.objs.size = some (fs w) → (∀ b o, s.heap.get? b = some o → h.get? b = some o) → J 0 h)
    (step : ∀ i v (z : Shared), its[i]? = some v → (∀ b o, s.heap.get? b = some o → z.heap.get? b = some o) → J i z.heap → Adds P w A.in1.in1.in1 s.heap.objs.size v (J (i + 1)) z)
    (fin : ∀ (h' : Heap) (tk : Nat), J its.size h' → (∀ b o, s.heap.get? b = some o → h'.get? b = some o) → Q (.ref s.heap.objs.size) { s with heap := h', toks := tk }) :
    wpAny (model P w) A (call (.type "set") [.ref l]) Q E s := by
  generalize hS : s.heap.objs.size = S at fr start step fin
  obtain ⟨c, tl, hmro⟩ := F.called_set.mro
  have hmade := F.called_set.made
  have hsub := F.called_set.sub
  refine wpAny_call (codeAny_of_tree ?_)
  show wpAny _ _ (callAny (.type "set") _) _ _ _
  refine wpAny_pure ⟨Code.quiet_builtin _ (by decide +kernel), codeAny_builtin F.entry_type_call ?_⟩
  rw [Around.under_plain (weight_type_call_type "set" [.ref l] []) rfl]
  have h1 := F.called_set.notType
  have h2 := F.called_set.canCreate
  have hct := F.typeCall_set_1 (.ref l)
  repeat (any_goals (first | assumption | wp_step))
  refine codeAny_mono (code_set_led1 (.ref l) (E := E) (Q₁ := fun x z => x = .ref S ∧ z = { s with heap := s.heap.push (fs w) }) ⟨congrArg Value.ref hS, rfl⟩) fun r z hr => ?_
  cases r with
  | error e => exact hr
  | ok fl =>
    cases fl with
    | ret x =>
      obtain ⟨rfl, rfl⟩ := hr
      have atS : (s.heap.push (fs w)).get? S = some (fs w) := hS ▸ Heap.get?_push_size _ rfl
      have hT : Shared.TypeIs { s with heap := s.heap.push (fs w) } (.ref S) "set" := ⟨_, atS, rfl⟩
      have hli := F.called_set.init.lookup
      have hbi := F.called_set.init.bind (.ref S)
      repeat (any_goals (first | assumption | wp_step))
      refine codeAny_mono (codeAny_call_builtin (R := wants (fun r y => r = .none ∧ ∃ h' tk, y = { s with heap := h', toks := tk } ∧ J its.size h' ∧ ∀ b o, s.heap.get? b = some o → h'.get? b = some o) E) F.called_set.init.plain F.entry_set_init (check_set_init_1 hT ?_)) fun r y hr => ?_
      · obtain ⟨ol, hol, hcl, nl, hdl⟩ := hl
        obtain ⟨ocls, odict, odata, oslots⟩ := ol
        simp only at hcl hdl
        subst hcl
        subst hdl
        have hol' : (s.heap.push (fs w)).get? l = some { cls := .type "list", dict := odict, data := .seq its nl, slots := oslots } := Heap.get?_push_of_some _ hol
        have hl1 : (s.heap.push (fs w)).IsList l its := ⟨_, hol', rfl, nl, rfl⟩
        have hsls := F.sub_list_set
        have hslf := F.sub_list_frozenset
        have hne : (Value.type "list" == Value.type "dict") = false := by decide
        unfold Builtin.«set.__init__» noKeywords Builtin.Frozenset.updateFrom
        generalize hPI : pyIter = PI
        wp_walk
        subst hPI
        refine wpAny_pyIter_list hl1 (wpAny_bind (wpAny_runValue ?_))
        have lS : l < S := hS ▸ Heap.lt_size hol
        have z1 : (s.heap.push (fs w)).objs.size = S + 1 := by rw [Heap.size_push, hS]
        have none_of : ∀ b, S ≤ b → s.heap.get? b = none := fun b hb => by
          cases q : s.heap.get? b with
          | none => rfl
          | some o => exact absurd (Heap.lt_size q) (Nat.not_lt.mpr (hS.symm ▸ hb))
        have hh3 : A.in1.in1.in1.handled = none := by simp [hh]
        have push2 : ∀ b o, (s.heap.push (fs w)).get? b = some o → ((s.heap.push (fs w)).push { cls := .type "list_iterator", data := .fields #[.ref l, .int 0 0] }).get? b = some o := fun b o e => Heap.get?_push_of_some _ e
        refine set_loop (Walks.list hh3 (s.heap.push (fs w)).objs.size l (by rw [z1]; exact Nat.ne_of_lt (Nat.lt_succ_of_lt lS)) its).toS (S := S) (by rw [z1]; simp; exact fun e => Nat.lt_irrefl S (e.symm ▸ lS)) J s.heap (none_of S (Nat.le_refl _)) (fun b hb => none_of b (by rw [List.mem_singleton.mp hb, z1]; omega)) fr (fun i v z _ hv oz jz => step i v z hv oz jz)
          (its.size - 0) 0 _ rfl (Nat.zero_le _) ⟨⟨_, Heap.get?_push_size _ rfl, rfl, rfl⟩, hl1.push _⟩ (fun b o e => push2 b o (Heap.get?_push_of_some _ e)) (start _ (push2 S _ atS) fun b o e => push2 b o (Heap.get?_push_of_some _ e)) fun y m jy oy => ?_
        obtain ⟨h', g', d', tk', os'⟩ := y
        obtain rfl : g' = s.gens := m.gens
        obtain rfl : d' = s.drawn := m.drawn
        obtain rfl : os' = s.os := m.os
        show wpAny _ _ _ _ _ _
        refine wpAny_pure ?_
        show wpAny _ _ (ret .none) _ _ _
        exact wpAny_pure ⟨rfl, h', tk', rfl, jy, oy⟩
      · cases r with
        | error e => exact hr
        | ok fl =>
          cases fl with
          | ret r =>
            obtain ⟨rfl, h', tk, rfl, jy, oy⟩ := hr
            repeat (any_goals (first | assumption | wp_step))
            exact fin _ _ jy oy
          | _ => exact hr.elim
    | _ => exact hr.elim
end
end SH
/-! the layer's rules: set(xs) of tuples of keys, sorted of a set -/
namespace SH
open PySem PySem.Spec PyProof.Rows L2
open PySem.W (EachIs AllAlike Sortable dataLe)
/-! tuples of keys -/
abbrev TKK (P : Program) (w : World) : HeapKind P w (List Key) := tupleKind (mixKind P w)
section
variable {P : Program} {w : World} {A : Around} {E : Value → Shared → Prop} {s : Shared}
theorem items_keys {k : List Key} {vs : List Value} (h : ItemsAre (mixKind P w) k vs) : ∀ v ∈ vs, (∃ i t, v = Value.int i t) ∨ ∃ x t, v = Value.str x t := by
  induction h with
  | nil => exact fun v hv => nomatch hv
  | @cons k0 v' ks vs h1 _ ih =>
    intro v hv
    rcases List.mem_cons.mp hv with rfl | hv
    · rcases keyIs_shape h1 with ⟨i, t, _, e⟩ | ⟨x, t, _, e⟩
      · exact .inl ⟨i, t, e⟩
      · exact .inr ⟨x, t, e⟩
    · exact ih v hv
theorem cl_keys {k : List Key} {b : Addr} {Q : Bool → Shared → Prop} (hk : (TKK P w).is s.heap k b) (h : Q false s) : wpAny (model P w) A (ofAClassStatement 8 (.ref b)) Q E s := by
  have hT := IsTupleKey.typeIs hk
  obtain ⟨o, items, n, ho, _, hd, hi⟩ := hk
  unfold ofAClassStatement
  refine wpAny_bind (wpAny_typeOf hT ?_)
  dsimp only
  simp only [show (("tuple" : String) == "tuple") = true by decide, if_true, Bool.not_true, Bool.false_eq_true, if_false]
  try refine wpAny_bind (wpAny_pure ?_)
  try simp only [Bool.not_true, Bool.false_eq_true, if_false]
  show wpAny _ _ (seqItems? (.ref b) >>= _) _ _ s
  refine wpAny_bind (wpAny_seqItems ho hd ?_)
  dsimp only
  refine wpAny_bind ?_
  show wpAny _ _ (forIn items _ _) _ _ s
  rw [← Array.forIn_toList]
  refine wpAny_forIn_list _ (fun rest r z => z = s ∧ r.1 = none ∧ ∀ v ∈ rest, (∃ i t, v = Value.int i t) ∨ ∃ x t, v = Value.str x t) _ (fun v rest r z hz => ?_) (fun r z hz => ?_) _ _ ⟨rfl, rfl, items_keys hi⟩
  · obtain ⟨rfl, hr, al⟩ := hz
    have tl := fun u hu => al u (List.mem_cons_of_mem v hu)
    have e : ∀ n, ofAClassStatement n v = pure false := fun n => by
      rcases al v List.mem_cons_self with ⟨i, t, rfl⟩ | ⟨x, t, rfl⟩ <;> cases n <;> rfl
    rw [e]
    refine wpAny_bind (wpAny_pure ?_)
    rw [if_neg Bool.false_ne_true]
    exact wpAny_pure ⟨rfl, rfl, tl⟩
  · obtain ⟨r1, r2⟩ := r
    obtain ⟨rfl, hr, _⟩ := hz
    cases (show r1 = none from hr)
    exact wpAny_pure h
theorem hv_keys {k : List Key} {b : Addr} {Q : Bool → Shared → Prop} (hk : (TKK P w).is s.heap k b) (h : ∀ r, Q r s) : wpAny (model P w) A (hashByValue 8 (.ref b)) Q E s := by
  have hT := IsTupleKey.typeIs hk
  obtain ⟨o, items, n, ho, _, hd, hi⟩ := hk
  unfold hashByValue
  refine wpAny_bind (wpAny_specialOf hT F.slot_tuple_hash.lookup ?_)
  show wpAny _ _ (seqItems? (.ref b) >>= _) _ _ s
  refine wpAny_bind (wpAny_seqItems ho hd (wpAny_bind ?_))
  show wpAny _ _ (forIn items _ _) _ _ s
  rw [← Array.forIn_toList]
  refine wpAny_forIn_list _ (fun rest r z => z = s ∧ r.1 = none ∧ ∀ v ∈ rest, (∃ i t, v = Value.int i t) ∨ ∃ x t, v = Value.str x t) _ (fun v rest r z hz => ?_) (fun r z hz => ?_) _ _ ⟨rfl, rfl, items_keys hi⟩
  · obtain ⟨rfl, hr, al⟩ := hz
    have tl := fun u hu => al u (List.mem_cons_of_mem v hu)
    rcases al v List.mem_cons_self with ⟨i, t, rfl⟩ | ⟨x, t, rfl⟩
    · have e : ∀ n, hashByValue n (.int i t) = pure true := fun n => by cases n <;> rfl
      rw [e]
      refine wpAny_bind (wpAny_pure ?_)
      rw [Bool.not_true, if_neg Bool.false_ne_true]
      exact wpAny_pure ⟨rfl, rfl, tl⟩
    · have e : ∀ n, hashByValue n (.str x t) = pure false := fun n => by cases n <;> rfl
      rw [e]
      refine wpAny_bind (wpAny_pure ?_)
      rw [Bool.not_false, if_pos rfl]
      exact wpAny_pure (wpAny_pure (h false))
  · obtain ⟨r1, r2⟩ := r
    obtain ⟨rfl, hr, _⟩ := hz
    cases (show r1 = none from hr)
    exact wpAny_pure (h true)
theorem calm_keys : Calm (TKK P w) := ⟨tupleKind_stays, fun hk h => cl_keys hk h, fun hk h => hv_keys hk h⟩
end
/-! what the set has of the first i items -/
structure Has {κ : Type} (ks : List (Addr × κ)) (i : Nat) (L : List (Addr × κ)) : Prop where
  sub : ∀ p, p ∈ L → p ∈ ks.take i
  all : ∀ p, p ∈ ks.take i → p.2 ∈ L.map (·.2)
  len : L.length ≤ i
theorem Has.old {κ : Type} {ks L : List (Addr × κ)} {i : Nat} {x : Addr × κ} (g : Has ks i L) (h : ks[i]? = some x) (hm : x.2 ∈ L.map (·.2)) : Has ks (i + 1) L := by
  have e : ks.take (i + 1) = ks.take i ++ [x] := by rw [List.take_add_one, h]; rfl
  refine ⟨fun p hp => e ▸ List.mem_append_left _ (g.sub p hp), fun p hp => ?_, Nat.le_succ_of_le g.len⟩
  rw [e] at hp
  rcases List.mem_append.mp hp with z | z
  · exact g.all p z
  · exact List.mem_singleton.mp z ▸ hm
theorem Has.new {κ : Type} {ks L L' : List (Addr × κ)} {i : Nat} {x : Addr × κ} (g : Has ks i L) (h : ks[i]? = some x) (pm : L'.Perm (x :: L)) : Has ks (i + 1) L' := by
  have e : ks.take (i + 1) = ks.take i ++ [x] := by rw [List.take_add_one, h]; rfl
  refine ⟨fun p hp => ?_, fun p hp => ?_, ?_⟩
  · rw [e]
    rcases List.mem_cons.mp (pm.mem_iff.mp hp) with z | z
    · exact z ▸ List.mem_append_right _ List.mem_cons_self
    · exact List.mem_append_left _ (g.sub p z)
  · rw [(pm.map (·.2)).mem_iff, List.map_cons]
    rw [e] at hp
    rcases List.mem_append.mp hp with z | z
    · exact List.mem_cons_of_mem _ (g.all p z)
    · exact List.mem_singleton.mp z ▸ List.mem_cons_self
  · have := pm.length_eq
    have := g.len
    simp at *
    omega
/-! a set that can be walked: its members' values, in some order -/
def Walked (w : World) (h : Heap) (a : Addr) (xs : List V) : Prop := ∃ (es : Array (Int × Value)) (ep : Nat) (t : SetTable), SetAt h a es ep t ∧ t.fits es.size = true ∧ es.size < scanBound ∧ Ris t.place.toList ∧
  (w.params.followText "set-order" = true ∨ t.led = true) ∧ Vals xs (es.toList.map (·.2))
/-- the set at a of the tuples L -/
def SetP (P : Program) (w : World) (a : Addr) (L : List (Addr × List Key)) (h : Heap) : Prop := ∃ (es : Array (Int × Value)) (ep : Nat) (t : SetTable), (∃ o, h.get? a = some o ∧ o.ExactSet ∧ o.data = .set es ep t) ∧
  es.toList = (L.map fun p => ((TKK P w).hash p.2, Value.ref p.1)) ∧ TabM t (L.map fun p => (TKK P w).hash p.2) ∧ (L.map (·.2)).Nodup ∧ (w.params.followText "set-order" = true ∨ t.led = true) ∧ L.length * 5 < t.mask * 3
def SetT (P : Program) (w : World) (a : Addr) (L : List (Addr × List Key)) : HO := .ext (SetP P w a L)
theorem SetP.walked {P : Program} {w : World} {a : Addr} {L : List (Addr × List Key)} {h : Heap} (R : SetP P w a L h) : Walked w h a (L.map fun p => V.ref p.1) := by
  obtain ⟨es, ep, t, ⟨o, ho, hx, hd⟩, rows, T, _, ld, gap⟩ := R
  have z := rows_size rows
  have sm : L.length ≤ 306 := by rcases T.msk.cases with e | e | e | e <;> omega
  have sb : scanBound = 4096 := rfl
  refine ⟨es, ep, t, ⟨o, ho, hx.1, hd⟩, fits_of T (by rw [List.length_map, z]) (by omega), by omega, T.up, ld, ?_⟩
  rw [rows, List.map_map]
  have gen : ∀ M : List (Addr × List Key), Vals (M.map fun p => V.ref p.1) (M.map fun p => Value.ref p.1) := fun M => by
    induction M with
    | nil => exact .nil
    | cons p M ih => exact .cons rfl ih
  exact gen L
theorem setT_ok {P : Program} {w : World} {H : Hp} {h : Heap} {a : Addr} {L : List (Addr × List Key)} (R : SetP P w a L h) : ObjOk P w H h a (SetT P w a L) := by
  have ⟨es, ep, t, ⟨o, ho, r⟩, q⟩ := R
  refine ⟨R, ⟨o, ho⟩, fun h1 h2 p k => ?_⟩
  obtain ⟨es', ep', t', ⟨o', ho', r'⟩, q'⟩ := p
  exact ⟨es', ep', t', ⟨o', k o' ho', r'⟩, q'⟩
theorem items_vals {P : Program} {w : World} : ∀ {k : List Key} {us : List Value}, Vals (k.map kV) us → ItemsAre (mixKind P w) k us
  | [], _, .nil => .nil
  | n :: k, _, .cons r t => .cons (kV_is r) (items_vals t)
theorem refs_vals : ∀ {ks : List (Addr × List Key)} {us : List Value}, Vals (ks.map fun p => V.ref p.1) us → us = ks.map fun p => Value.ref p.1
  | [], _, .nil => rfl
  | p :: ks, _, .cons r t => by
    cases r
    rw [refs_vals t]
    rfl
section
variable {X : Cx}
theorem key_tup {pins : List (Addr × Obj)} {σ : L2.St} {H : Hp} {s : Shared} {b : Addr} {k : List Key} (I : Inv X pins σ H s) (h : SqT X.K H b (k.map kV)) : (TKK X.prog X.w).is s.heap k b := by
  obtain ⟨its, r, ⟨o, ho, hc, n, hd⟩, _⟩ := I.tuple h
  exact ⟨o, its.toArray, n, ho, hc, hd, items_vals r⟩
/-- set(xs), xs a list of tuples of keys -/
def rSetT (K : PySem.W.Frag) (P : Program) (w : World) : List V → Hp → VK → Prop := fun xs H Q => ∃ (l : Addr) (ks : List (Addr × List Key)), xs = [V.ref l] ∧ SqL K H l (ks.map fun p => V.ref p.1) ∧ (∀ p ∈ ks, SqT K H p.1 (p.2.map kV)) ∧ ks.length ≤ 300 ∧
  ∀ a L, H a = none → Has ks ks.length L → (L.map (·.2)).Nodup → Q (.ref a) (upd H a (SetT P w a L))
theorem cr_setT (hc : X.calm = true) (hu : X.A.units + 64 < cLine) : CallR X (.type "set") (rSetT X.K X.prog X.w) := by
  intro pins s σ H xs us Q I r h
  obtain ⟨l, ks, rfl, hl, hk, hf, q⟩ := h
  rw [Vals.ref1 r]
  obtain ⟨its, rv, pl, hz⟩ := I.list hl
  have hits : its = ks.map fun p => Value.ref p.1 := refs_vals rv
  have hn : H s.heap.objs.size = none := I.hok.fresh (Nat.le_refl _)
  have mem : ∀ p ∈ ks, (TKK X.prog X.w).is s.heap p.2 p.1 := fun p hp => key_tup I (hk p hp)
  have room : X.A.in1.in1.in1.units < cLine := by
    show X.A.units + 1 + 1 + 1 < cLine
    omega
  have none0 : s.heap.get? s.heap.objs.size = none := by
    cases e : s.heap.get? s.heap.objs.size with
    | none => rfl
    | some o => exact absurd (Heap.lt_size e) (Nat.lt_irrefl _)
  refine call_set_of (P := X.prog) (w := X.w) (I.ok.hd hc) pl.isList (fun i h => ∃ L es ep t, SetH (TKK X.prog X.w) h s.heap.objs.size L es ep t ∧ Has ks i L) (fun i h h' ⟨L, es, ep, t, R, g⟩ k1 k2 => ?_) (fun h e _ => ?_) (fun i v z hv old ⟨L, es, ep, t, R, g⟩ E' => ?_) fun h' tk ⟨L, es, ep, t, R, g⟩ old => ?_
  · obtain ⟨o, ho, rr⟩ := R.ob
    exact ⟨L, es, ep, t, ⟨⟨o, k1 o ho, rr⟩, R.rows, R.tab, R.nd, fun p hp => calm_keys.st.stays (fun b o vs n hb _ => k2 b o hb) (mem p (List.mem_of_mem_take (g.sub p hp))), R.ld, R.gap⟩, g⟩
  · refine ⟨[], #[], 0, _, ⟨⟨_, e, ⟨rfl, rfl, rfl⟩, rfl⟩, rfl, ⟨List.Pairwise.nil, rfl, rfl, .inl (.inl rfl), fun x hx => (by cases hx), fun i h j hi => (by simp at hi)⟩, List.nodup_nil, fun p hp => (by cases hp), ?_, by show 0 * 5 < 7 * 3; decide⟩, ⟨fun p h => (by cases h), fun p h => (by simp at h), Nat.le_refl _⟩⟩
    show _ ∨ (!X.w.params.followText "set-order") = true
    cases X.w.params.followText "set-order"
    · exact .inr rfl
    · exact .inl rfl
  · have hv2 : (ks.map fun p => Value.ref p.1)[i]? = some v := by
      rw [← hits, ← hv]
      simp
    rw [List.getElem?_map] at hv2
    cases hp : ks[i]? with
    | none =>
      rw [hp] at hv2
      cases hv2
    | some p =>
      rw [hp] at hv2
      cases hv2
      have hx : (TKK X.prog X.w).is z.heap p.2 p.1 := calm_keys.st.stays (fun b o vs n hb _ => old b o hb) (mem p (List.mem_of_getElem? hp))
      have il := (List.getElem?_eq_some_iff.mp hp).1
      unfold setAdd
      refine wpAny_holding (wpAny_bind ((TKK X.prog X.w).pyHash room hx ?_))
      refine add (s := { z with toks := z.toks + (TKK X.prog X.w).draws p.2 }) calm_keys R hx room (by have := g.len; omega) fun b h' L' es' ep' t' sb R' c1 c2 => ⟨h', _, Nat.le_add_right _ _, rfl, sb, L', es', ep', t', R', ?_⟩
      by_cases c : p.2 ∈ L.map (·.2)
      · rw [c1 c]
        exact g.old hp c
      · exact g.new hp (c2 c)
  · have e : its.toArray.size = ks.length := by
      rw [hits]
      simp
    rw [e] at g
    exact ⟨.ref s.heap.objs.size, upd H s.heap.objs.size (SetT X.prog X.w s.heap.objs.size L), I.laid (t' := tk) old (Nat.le_refl _) (setT_ok ⟨es, ep, t, R.ob, R.rows, R.tab, R.nd, R.ld, R.gap⟩), rfl, q _ L hn g R.nd⟩
/-! sorted(a set) -/
theorem each_perm {α β : Type} {R : α → β → Prop} {us vs : List α} (p : us.Perm vs) : ∀ {bs : List β}, EachIs R us bs → ∃ cs : List β, cs.Perm bs ∧ EachIs R vs cs := by
  induction p with
  | nil => exact fun {bs} h => ⟨bs, .refl _, h⟩
  | cons x _ ih =>
    intro bs h
    cases h with
    | cons h t =>
      obtain ⟨cs, c, e⟩ := ih t
      exact ⟨_ :: cs, c.cons _, .cons h e⟩
  | swap x y l =>
    intro bs h
    cases h with
    | cons h t =>
      cases t with
      | cons h2 t => exact ⟨_ :: _ :: _, .swap _ _ _, .cons h2 (.cons h t)⟩
  | trans _ _ ih1 ih2 =>
    intro bs h
    obtain ⟨cs, c, e⟩ := ih1 h
    obtain ⟨ds, d, f⟩ := ih2 e
    exact ⟨ds, d.trans c, f⟩
theorem each_of_vals : ∀ {bs : List (V × PyData)} {us : List Value}, Vals (bs.map Prod.fst) us → EachIs (fun (v : Value) (b : V × PyData) => RelV b.1 v) us bs
  | [], _, r => by cases r; exact .nil
  | b :: bs, _, r => by
    cases r with
    | cons r1 r2 => exact .cons r1 (each_of_vals r2)
theorem vals_of_each : ∀ {bs : List (V × PyData)} {us : List Value}, EachIs (fun (v : Value) (b : V × PyData) => RelV b.1 v) us bs → Vals (bs.map Prod.fst) us
  | [], _, r => by cases r; exact .nil
  | b :: bs, _, r => by
    cases r with
    | cons r1 r2 => exact .cons r1 (vals_of_each r2)
theorem each_and {α β : Type} {R S : α → β → Prop} : ∀ {as : List α} {bs : List β}, EachIs R as bs → (∀ a b, b ∈ bs → R a b → S a b) → EachIs S as bs
  | _, _, .nil, _ => .nil
  | _, _, .cons h t, k => .cons (k _ _ List.mem_cons_self h) (each_and t fun a b hb => k a b (List.mem_cons_of_mem _ hb))
def rSortSet (K : PySem.W.Frag) (w : World) : List V → Hp → VK → Prop := fun vs H Q => ∃ (a : Addr) (bs : List (V × PyData)) (U : Heap → Prop), vs = [V.ref a] ∧ H a = some (.ext U) ∧ (∀ h, U h → Walked w h a (bs.map Prod.fst)) ∧ (∀ b ∈ bs, Dp K H b.1 b.2) ∧
  AllAlike (bs.map Prod.snd) ∧ Sortable (bs.map Prod.snd) ∧ (∀ b ∈ bs, b.2.depth ≤ 10) ∧
  ∀ (cs : List (V × PyData)) (p : Addr), cs.Perm bs → cs.Pairwise (fun x y => dataLe false Prod.snd x y = true) → H p = none → Q (.ref p) (upd H p (.lst (cs.map Prod.fst)))
theorem cr_sortSet (hc : X.calm = true) (hu : X.A.units + 64 < cLine) : CallR X (.builtin "sorted") (rSortSet X.K X.w) := by
  intro pins s σ H vs us Q I r h
  obtain ⟨a, bs, U, rfl, ha, hw, hd, hal, hso, hdp, q⟩ := h
  rw [Vals.ref1 r]
  obtain ⟨es, ep, t, hat, hf, hsz, ris, ld, rv⟩ := hw _ (I.hok a _ ha).1
  have line : sizeLine = 16777216 := rfl
  have sbd : scanBound = 4096 := rfl
  refine Calls.call_function_entry kind_sorted plain_sorted entry_sorted (args_sorted1 _) ?_
  unfold Builtin.«sorted»
  refine wpAny_bind (m := checkCount "sorted" 1 1 _) (wpAny_pure ?_)
  refine wpAny_bind (collect_set (A := X.A.in1) (I.ok.hd hc) hat hf hsz ris ld fun s1 vs k1 hz g1 o1 pm => ?_)
  obtain ⟨cs, pc, ec⟩ := each_perm pm.symm (each_of_vals rv)
  have hl : vs.length = bs.length := ec.length.trans pc.length_eq
  have lb : bs.length = es.size := by
    have h1 := (each_of_vals rv).length
    simp at h1
    exact h1.symm
  refine wpAny_bind (wpAny_newList ?_ (by omega))
  have hoL : (s1.heap.push (seqObj "list" vs.toArray 0)).get? s1.heap.objs.size = some (seqObj "list" vs.toArray 0) := Heap.get?_push_size _ rfl
  show wpAny _ _ _ _ _ { s1 with heap := s1.heap.push (seqObj "list" vs.toArray 0) }
  have er : EachIs (fun (v : Value) (b : V × PyData) => ∃ as, Reads (s1.heap.push (seqObj "list" vs.toArray 0)) v b.2 as ∧ s1.heap.objs.size ∉ as) vs cs := each_and ec fun v b hb rb => by
    obtain ⟨as, hr⟩ := Dp.reads I b.2 b.1 v (hd b (pc.mem_iff.mp hb)) rb
    have hr1 : Reads s1.heap v b.2 as := Reads.keeps k1 hr
    refine ⟨as, Reads.keeps (fun b o e => Heap.get?_push_of_some _ e) hr1, fun hm => ?_⟩
    obtain ⟨o, ho⟩ := PyProof.On.reads_mem_get hr1 _ hm
    exact absurd (Heap.lt_size ho) (Nat.lt_irrefl _)
  have pd := pc.map Prod.snd
  have hal' : AllAlike (cs.map Prod.snd) := fun d h1 d' h2 => hal d (pd.mem_iff.mp h1) d' (pd.mem_iff.mp h2)
  have hso' : Sortable (cs.map Prod.snd) := by
    rcases hso with z | z
    · exact .inl fun d h1 => z d (pd.mem_iff.mp h1)
    · exact .inr fun d h1 => z d (pd.mem_iff.mp h1)
  refine wpAny_bind (wpAny_holding (PySem.W.list_sort_data (enc := Prod.snd) (s := { s1 with heap := s1.heap.push (seqObj "list" vs.toArray 0) }) hoL ec er hal' hso' (by have := pc.length_eq; omega) ?k4 fun out ho eo => ?_))
  case k4 =>
    intro b hb
    have h1 := hdp b (pc.mem_iff.mp hb)
    have h2 : X.A.in1.units = X.A.units + 1 := rfl
    omega
  obtain ⟨c, hcat⟩ := sortedHeap_at (vs := vs) (out := out.toArray) hoL
  have pw : (cs.mergeSort (dataLe false Prod.snd)).Pairwise (fun x y => dataLe false Prod.snd x y = true) := PySem.W.sort_pairwise (by unfold dataLe; exact PySem.W.sortLe_total _ _ _) cs
  have pm2 : (cs.mergeSort (dataLe false Prod.snd)).Perm bs := (List.mergeSort_perm cs _).trans pc
  generalize cs.mergeSort (dataLe false Prod.snd) = ds at eo pw pm2
  have ev := vals_of_each eo
  have hn : H s1.heap.objs.size = none := I.hok.fresh hz
  have hlen : (ds.map Prod.fst).length ≤ sizeLine := by
    rw [List.length_map, pm2.length_eq]
    omega
  have J : Inv X pins σ (upd H s1.heap.objs.size (.lst (ds.map Prod.fst))) { s with heap := sortedHeap (s1.heap.push (seqObj "list" vs.toArray 0)) s1.heap.objs.size vs out.toArray, gens := s1.gens, drawn := s1.drawn, toks := s1.toks } := by
    have old : ∀ b u, s.heap.get? b = some u → (sortedHeap (s1.heap.push (seqObj "list" vs.toArray 0)) s1.heap.objs.size vs out.toArray).get? b = some u := fun b u e => by
      have q2 := k1 b u e
      have hlt := Heap.lt_size q2
      rw [sortedHeap_old (Nat.ne_of_lt hlt) (by rw [size_push']; exact Nat.lt_succ_of_lt hlt)]
      exact Heap.get?_push_of_some _ q2
    exact I.call (ch := []) (Un.laid old hz hn) (I.hok.laid old hz ⟨hlen, out, c, ev, hcat⟩) (by rw [g1]; exact I.bare) (fun _ z => nomatch z)
  refine wpAny_pure ⟨_, rfl, ?_⟩
  have e : ({ s1 with heap := sortedHeap (s1.heap.push (seqObj "list" vs.toArray 0)) s1.heap.objs.size vs out.toArray } : Shared) = { s with heap := sortedHeap (s1.heap.push (seqObj "list" vs.toArray 0)) s1.heap.objs.size vs out.toArray, gens := s1.gens, drawn := s1.drawn, toks := s1.toks } := by
    cases s1
    cases s
    cases o1
    rfl
  rw [e]
  exact ⟨.ref s1.heap.objs.size, _, J, rfl, q ds _ pm2 pw hn⟩
end
end SH
/-! set(xs) of texts and ints: what it holds can be walked -/
namespace SH
open PySem PySem.Spec PyProof.Rows L2
open PySem.W (EachIs)
/-- the set at a of the keys L -/
def SetQ (P : Program) (w : World) (h : Heap) (a : Addr) (L : List Key) : Prop := ∃ (es : Array (Int × Value)) (ep : Nat) (t : SetTable), (∃ o, h.get? a = some o ∧ o.ExactSet ∧ o.data = .set es ep t) ∧ ElemsOf (mixKind P w) es.toList ∧
  EachIs (fun (e : Int × Value) (k : Key) => (mixKind P w).is k e.2 = true) es.toList L ∧ L.Nodup ∧ es.size < scanBound ∧ t.fits es.size = true ∧ Ris t.place.toList ∧ (w.params.followText "set-order" = true ∨ t.led = true)
theorem each_find {α β : Type} {R : α → β → Prop} : ∀ {as : List α} {bs : List β}, EachIs R as bs → ∀ a ∈ as, ∃ b ∈ bs, R a b
  | _, _, .nil, _, h => by cases h
  | _, _, .cons r t, a, h => by
    rcases List.mem_cons.mp h with rfl | h
    · exact ⟨_, List.mem_cons_self, r⟩
    · obtain ⟨b, hb, q⟩ := each_find t a h
      exact ⟨b, List.mem_cons_of_mem _ hb, q⟩
theorem each_back {α β : Type} {R : α → β → Prop} : ∀ {as : List α} {bs : List β}, EachIs R as bs → ∀ b ∈ bs, ∃ a ∈ as, R a b
  | _, _, .nil, _, h => by cases h
  | _, _, .cons r t, b, h => by
    rcases List.mem_cons.mp h with rfl | h
    · exact ⟨_, List.mem_cons_self, r⟩
    · obtain ⟨a, ha, q⟩ := each_back t b h
      exact ⟨a, List.mem_cons_of_mem _ ha, q⟩
section
variable {P : Program} {w : World} {A : Around} {E : Value → Shared → Prop} {s : Shared} {a : Addr} {L : List Key}
theorem key_scannable {k : Key} {v : Value} (h : (mixKind P w).is k v = true) : v.scannable = true := by
  rcases keyIs_shape h with ⟨i, t, _, rfl⟩ | ⟨x, t, _, rfl⟩ <;> rfl
/-- the last rows of adding by scan -/
theorem add_tail {g : Bool → Sem Unit} (hg : ∀ (b : Bool) (z : Shared) (Q' : Unit → Shared → Prop), Q' () z → wpAny (model P w) A (g b) Q' E z) {o : Obj} {es es1 : Array (Int × Value)} {ep : Nat} {t t2 : SetTable}
    (ho : s.heap.get? a = some o) (hex : o.ExactSet) (hd : o.data = .set es ep t) (el : ElemsOf (mixKind P w) es1.toList) (ei : EachIs (fun (e : Int × Value) (k : Key) => (mixKind P w).is k e.2 = true) es1.toList L) (nd : L.Nodup)
    (hb : es1.size < scanBound) (hf : t2.fits es1.size = true) (ris : Ris t2.place.toList) (ld : w.params.followText "set-order" = true ∨ t2.led = true) {dm : Bool} {R : Option Bool → Shared → Prop}
    (hR : ∀ h' L', Heap.SameBut a s.heap h' → SetQ P w h' a L' → L'.Perm L → R (some true) { s with heap := h' }) :
    wpAny (model P w) A (storeSet a es1 t2 >>= fun _ => if (!dm && t2.tooFull) = true then (g (relayAll t2 es1 (SetTable.grown es1.size)).2.2 >>= fun _ => storeSet a (relayAll t2 es1 (SetTable.grown es1.size)).1 (relayAll t2 es1 (SetTable.grown es1.size)).2.1 >>= fun _ => pure (some true)) else pure (some true)) R E s := by
  refine wpAny_bind (wpAny_storeSet_of ho hd ?_ (fits_of_scanBound hb))
  have ho1 := store_at (es' := es1) (t' := t2) ho hd
  have sb1 := Heap.SameBut.update s.heap a (Obj.putSet es1 t2)
  by_cases c : (!dm && t2.tooFull) = true
  · refine wp_if_pos c ?_
    have pm := relayAll_perm t2 es1 (SetTable.grown es1.size)
    have f3 := relayAll_fits t2 es1 (SetTable.grown es1.size)
    have r3 := relayAll_ris t2 es1 (SetTable.grown es1.size)
    have l3 := relayAll_led t2 es1 (SetTable.grown es1.size)
    generalize relayAll t2 es1 (SetTable.grown es1.size) = Z at pm f3 r3 l3 ⊢
    obtain ⟨es2, t3, gave⟩ := Z
    dsimp only at pm f3 r3 l3 ⊢
    have z2 : es2.size = es1.size := by rw [← Array.length_toList, pm.length_eq, Array.length_toList]
    obtain ⟨L2, p2, e2⟩ := each_perm pm.symm ei
    refine wpAny_bind (hg _ _ _ (wpAny_bind (wpAny_storeSet_of ho1 rfl (wpAny_pure (hR _ L2 (sb1.trans (Heap.SameBut.update _ a _)) ⟨es2, _, t3, ⟨_, store_at ho1 rfl, hex, rfl⟩, fun e he => el e (pm.mem_iff.mp he), e2, p2.nodup_iff.mpr nd, z2 ▸ hb, f3, r3, ld.imp id fun z => l3 ▸ z⟩ p2)) (fits_of_scanBound (z2 ▸ hb)))))
  · exact wp_if_neg c (wpAny_pure (hR _ L sb1 ⟨es1, _, t2, ⟨_, ho1, hex, rfl⟩, el, ei, nd, hb, hf, ris, ld⟩ (.refl _)))
theorem addQ (R : SetQ P w s.heap a L) {k : Key} {v : Value} (hk : (mixKind P w).is k v = true) (few : L.length + 1 < scanBound) {Q : Bool → Shared → Prop}
    (hQ : ∀ b h' L', Heap.SameBut a s.heap h' → SetQ P w h' a L' → (k ∈ L → L' = L) → (k ∉ L → L'.Perm (k :: L)) → Q b { s with heap := h' }) :
    wpAny (model P w) A (setAddHashed a v ((mixKind P w).hash k)) Q E s := by
  obtain ⟨es, ep, t, ⟨o, ho, hex, hd⟩, el, ei, nd, hb, hf, ris, ld⟩ := id R
  have sc := key_scannable hk
  have zL : es.size = L.length := by rw [← Array.length_toList]; exact ei.length
  unfold setAddHashed setAddHashedIn
  refine wpAny_holding (wpAny_bind (wpAny_setState_of ho hd hf ?_))
  dsimp only
  rw [byScan_of sc hb el, if_pos rfl]
  unfold setAddByScan
  refine wpAny_bind (wpAny_bind (wpAny_rule (wpAny_bind (wpAny_setScan_of hk ho hd hf el ?_))))
  cases hfi : List.findIdx? (fun e => (mixKind P w).is k e.2) es.toList with
  | some j =>
    dsimp only
    obtain ⟨hj, pj, _⟩ := List.findIdx?_eq_some_iff_getElem.mp hfi
    obtain ⟨k', hk', e'⟩ := each_find ei _ (List.getElem_mem hj)
    have ek : k' = k := (mixKind P w).inj _ _ _ e' pj
    exact wpAny_pure (wpAny_pure (hQ false s.heap L (Heap.SameBut.refl a s.heap) R (fun _ => rfl) fun z => absurd (ek ▸ hk') z))
  | none =>
    dsimp only
    have nk : k ∉ L := fun z => by
      obtain ⟨e, he, q⟩ := each_back ei k z
      have c := List.findIdx?_eq_none_iff.mp hfi e he
      rw [q] at c
      cases c
    have gw : ∀ (b : Bool) {z : Shared} {Q' : Unit → Shared → Prop}, Q' () z → wpAny (model P w) A (match b with | true => rule "set.scan.the-table-gave-way" | false => pure ()) Q' E z :=
      fun b z Q' q => by cases b <;> first | exact wpAny_pure q | exact wpAny_rule q
    have pm := layNew_perm t es ((mixKind P w).hash k) v
    have f1 := layNew_fits t es ((mixKind P w).hash k) v
    have r1 := layNew_ris t es ((mixKind P w).hash k) v ris
    have l1 := layNew_led t es ((mixKind P w).hash k) v
    generalize layNew t es ((mixKind P w).hash k) v = Z at pm f1 r1 l1 ⊢
    obtain ⟨es1, t1, dm, gave⟩ := Z
    dsimp only at pm f1 r1 l1 ⊢
    rw [Array.toList_push] at pm
    have pc : es1.toList.Perm (((mixKind P w).hash k, v) :: es.toList) := pm.trans (List.perm_append_singleton _ _)
    obtain ⟨L1, p1, e1⟩ := each_perm pc.symm (EachIs.cons (R := fun (e : Int × Value) (k : Key) => (mixKind P w).is k e.2 = true) (a := ((mixKind P w).hash k, v)) (b := k) hk ei)
    have el1 : ElemsOf (mixKind P w) es1.toList := fun e he => by
      rcases List.mem_cons.mp (pc.mem_iff.mp he) with z | z
      · exact z ▸ ⟨⟨k, hk, rfl⟩, sc⟩
      · exact el e z
    have nd1 : L1.Nodup := p1.nodup_iff.mpr (List.nodup_cons.mpr ⟨nk, nd⟩)
    have z1 : es1.size = L.length + 1 := by rw [← Array.length_toList, pc.length_eq, List.length_cons, Array.length_toList, zL]
    have ld1 : w.params.followText "set-order" = true ∨ t1.led = true := ld.imp id fun z => l1 ▸ z
    have fin : ∀ h' L', Heap.SameBut a s.heap h' → SetQ P w h' a L' → L'.Perm L1 → Q true { s with heap := h' } := fun h' L' sb r p => hQ true h' L' sb r (fun z => absurd z nk) fun _ => p.trans p1
    refine wpAny_bind (gw _ ?_)
    have hb1 : es1.size < scanBound := by rw [z1]; exact few
    split
    · refine wpAny_bind ?_
      rw [hashByValue_scannable 8 sc]
      refine wpAny_pure ?_
      refine add_tail (L := L1) (fun b z Q' q => by cases b <;> first | exact wpAny_pure q | exact wpAny_rule q) ho hex hd el1 e1 nd1 hb1 ?_ ?_ ?_ fun h' L' sb r p => ?_
      · first | (split <;> first | exact f1 | exact SetTable.fits_plain_off f1) | exact f1
      · first | (split <;> exact r1) | exact r1
      · first | (split <;> exact ld1) | exact ld1
      · exact wpAny_pure (fin h' L' sb r p)
    · refine wpAny_bind (wpAny_pure ?_)
      rw [if_pos rfl]
      exact add_tail (L := L1) (fun b z Q' q => by cases b <;> first | exact wpAny_pure q | exact wpAny_rule q) ho hex hd el1 e1 nd1 hb1 f1 r1 ld1 fun h' L' sb r p => wpAny_pure (fin h' L' sb r p)
end
def SetK2 (P : Program) (w : World) (a : Addr) (L : List Key) : HO := .ext fun h => SetQ P w h a L
theorem SetQ.kept {P : Program} {w : World} {h h' : Heap} {a : Addr} {L : List Key} (R : SetQ P w h a L) (k : ∀ o, h.get? a = some o → h'.get? a = some o) : SetQ P w h' a L := by
  obtain ⟨es, ep, t, ⟨o, ho, r⟩, q⟩ := R
  exact ⟨es, ep, t, ⟨o, k o ho, r⟩, q⟩
theorem setK2_ok {P : Program} {w : World} {H : Hp} {h : Heap} {a : Addr} {L : List Key} (R : SetQ P w h a L) : ObjOk P w H h a (SetK2 P w a L) := by
  have ⟨_, _, _, ⟨o, ho, _⟩, _⟩ := R
  exact ⟨R, ⟨o, ho⟩, fun h1 h2 p k => SetQ.kept p k⟩
theorem SetQ.walked {P : Program} {w : World} {a : Addr} {L : List Key} {h : Heap} (R : SetQ P w h a L) : Walked w h a (L.map kV) := by
  obtain ⟨es, ep, t, ⟨o, ho, hx, hd⟩, _, ei, _, hb, hf, ris, ld⟩ := R
  refine ⟨es, ep, t, ⟨o, ho, hx.1, hd⟩, hf, hb, ris, ld, ?_⟩
  have gen : ∀ {l : List (Int × Value)} {L : List Key}, EachIs (fun (e : Int × Value) (k : Key) => (mixKind P w).is k e.2 = true) l L → Vals (L.map kV) (l.map (·.2)) := fun h => by
    induction h with
    | nil => exact .nil
    | cons r t ih =>
      refine .cons ?_ ih
      rcases keyIs_shape r with ⟨i, t, rfl, e⟩ | ⟨x, t, rfl, e⟩
      · exact ⟨t, e⟩
      · exact ⟨t, e⟩
  exact gen ei
section
variable {X : Cx}
/-- set(xs), xs a list of texts or ints -/
def rSetQ (K : PySem.W.Frag) (P : Program) (w : World) : List V → Hp → VK → Prop := fun xs H Q => ∃ (l : Addr) (ks : List Key), xs = [V.ref l] ∧ SqL K H l (ks.map kV) ∧ ks.length ≤ 4000 ∧ ∀ a L, H a = none → L.Nodup → (∀ k, k ∈ L ↔ k ∈ ks) → L.length ≤ ks.length → Q (.ref a) (upd H a (SetK2 P w a L))
theorem cr_setQ (hc : X.calm = true) : CallR X (.type "set") (rSetQ X.K X.prog X.w) := by
  intro pins s σ H xs us Q I r h
  obtain ⟨l, ks, rfl, hl, hf, q⟩ := h
  rw [Vals.ref1 r]
  obtain ⟨its, rv, pl, hz⟩ := I.list hl
  have hn : H s.heap.objs.size = none := I.hok.fresh (Nat.le_refl _)
  have sbd : scanBound = 4096 := rfl
  refine call_set_of (P := X.prog) (w := X.w) (I.ok.hd hc) pl.isList (fun i h => ∃ L, SetQ X.prog X.w h s.heap.objs.size L ∧ L.Nodup ∧ (∀ k, k ∈ L ↔ k ∈ ks.take i) ∧ L.length ≤ i) (fun i h h' ⟨L, R, g⟩ k1 k2 => ⟨L, R.kept k1, g⟩) (fun h e _ => ?_) (fun i v z hv old ⟨L, R, g1, g2, g3⟩ E' => ?_) fun h' tk ⟨L, R, g1, g2, g3⟩ old => ?_
  · refine ⟨[], ⟨#[], 0, _, ⟨_, e, ⟨rfl, rfl, rfl⟩, rfl⟩, fun e he => (by simp at he), .nil, List.nodup_nil, by decide, by rfl, List.Pairwise.nil, ?_⟩, List.nodup_nil, fun k => by simp, Nat.le_refl _⟩
    show _ ∨ (!X.w.params.followText "set-order") = true
    cases X.w.params.followText "set-order"
    · exact .inr rfl
    · exact .inl rfl
  · have hv2 : its[i]? = some v := by simpa using hv
    have hil : i < ks.length := by
      have h1 := rv.length
      rw [List.length_map] at h1
      rw [h1]
      exact (List.getElem?_eq_some_iff.mp hv2).1
    obtain ⟨k, hk⟩ : ∃ k, ks[i]? = some k := ⟨_, List.getElem?_eq_getElem hil⟩
    obtain ⟨u, hu, ru⟩ := rv.get (i := i) (x := kV k) (by rw [List.getElem?_map, hk]; rfl)
    rw [hv2] at hu
    cases hu
    have ek : ks.take (i + 1) = ks.take i ++ [k] := by rw [List.take_add_one, hk]; rfl
    unfold setAdd
    refine wpAny_holding (wpAny_bind ((mixKind X.prog X.w).pyHash (kV_is ru) ?_))
    refine addQ (s := { z with toks := z.toks + 1 }) R (kV_is ru) (by have := (show ks.length ≤ 4000 from hf); omega) fun b h' L' sb R' c1 c2 => ⟨h', _, Nat.le_add_right _ _, rfl, sb, L', R', ?_⟩
    by_cases c : k ∈ L
    · rw [c1 c]
      refine ⟨g1, fun j => ?_, Nat.le_succ_of_le g3⟩
      rw [ek, List.mem_append, List.mem_singleton, g2]
      exact ⟨.inl, fun z => z.elim id fun e => e ▸ (g2 k).mp c⟩
    · have pm := c2 c
      refine ⟨pm.nodup_iff.mpr (List.nodup_cons.mpr ⟨c, g1⟩), fun j => ?_, by have := pm.length_eq; rw [List.length_cons] at this; omega⟩
      rw [pm.mem_iff, List.mem_cons, ek, List.mem_append, List.mem_singleton, g2]
      exact Or.comm
  · have e : its.toArray.size = ks.length := by
      have h1 := rv.length
      rw [List.length_map] at h1
      simp [h1]
    rw [e, List.take_length] at g2
    rw [e] at g3
    exact ⟨.ref s.heap.objs.size, upd H s.heap.objs.size (SetK2 X.prog X.w s.heap.objs.size L), I.laid (t' := tk) old (Nat.le_refl _) (setK2_ok R), rfl, q _ L hn g1 g2 g3⟩
end
end SH
namespace Tb
open PySem PySem.Spec PyProof.Rows L2
def topS (i : Nat) : Stmt := PySem.Challenge.pw_everyparcel_k15_conditions_and_clearing.main.body.getD i (.Pass ⟨0, 0, 0, 0⟩)
abbrev sMade : Stmt := topS 14
abbrev sSpells : Stmt := topS 15
abbrev sIsName : Stmt := topS 17
abbrev sIsAddr : Stmt := topS 19
/-- a def of the text: it stands, its arguments bind, its global is it -/
structure Dd (K : PySem.W.Frag) (mg : Str → Option Value) (x : Str) (st : Stmt) (ps : List Str) (f : Addr) (fd : FuncData) : Prop where
  F : Fun K x x st f fd
  b : Binds K fd ps []
  g : mg x = some (.ref f)
/-- the globals that are the built-ins, and the two texts -/
structure Blt (mg : Str → Option Value) : Prop where
  len : mg "len" = none
  int : mg "int" = none
  str : mg "str" = none
  list : mg "list" = none
  tuple : mg "tuple" = none
  dict : mg "dict" = none
  bool : mg "bool" = none
  range : mg "range" = none
  sorted : mg "sorted" = none
  all : mg "all" = none
  isi : mg "isinstance" = none
  dg : ∃ t, mg "DIGITS" = some (.str ("0123456789" : String) t)
  lt : ∃ t, mg "LETTERS" = some (.str ("abcdefghijklmnopqrstuvwxyz" : String) t)
  hr : ∃ t, mg "ANY" = some (.str ("" : String) t)
  sum : mg "sum" = none
  set : mg "set" = none
  br : mg "BARRED" = some .none
  zip : mg "zip" = none
  max : mg "max" = none
  min : mg "min" = none
  day : ∃ t, mg "DAY" = some (.int 24 t)
theorem sqOf {K : PySem.W.Frag} {H : Hp} {p : Addr} {xs : List V} (h : H p = some (.lst xs)) : SqL K H p xs := .inl (.inl h)
theorem same_upd {H : Hp} {p : Addr} {o : HO} (h : H p = none) : Same H (upd H p o) := fun b x e => by
  rw [upd_ne (ne_of_none e h)]
  exact e
def digits : Str := ("0123456789" : String)
def letters : Str := ("abcdefghijklmnopqrstuvwxyz" : String)
/-- a module's name that holds a text -/
theorem pe_txt {X : Cx} {x z : Str} {pos : Pos} (hg : Gl X x) (h : ∃ t, X.mg x = some (.str z t)) (hd : (x == ("__debug__" : Str)) = false := by decide) : PE X (.Name x pos) (tC (.str z)) := by
  obtain ⟨t, h⟩ := h
  exact pe_glob hg h (show RelV (.str z) (.str z t) from ⟨t, rfl⟩) hd
/-! ### the mirrors -/
def isIn (signs : Str) (c : Nat) : Bool := decide (c ∈ signs.cps.toList)
def made (t signs : Str) (most : Int) : Bool := decide (1 ≤ (t.length : Int)) && decide ((t.length : Int) ≤ most) && t.cps.toList.all (isIn signs)
def isAddr (t : Str) : Bool := made t digits 8
def isName (t : Str) : Bool := made t (letters ++ digits) 12 && (match t.cps[0]? with | some c => isIn letters c | none => false)
def isLane (t : Str) : Bool := decide (t = Str.ofString "") || isName t
section
variable {P : Program} {w : World} {K : PySem.W.Frag} {mg : Str → Option Value} {base : Heap}
theorem scMade : FnScope ["text", "signs", "most", "sign"] ["text", "signs", "most"] (defScope sMade) := ⟨rfl, rfl, rfl, by decide +kernel, rfl, by decide +kernel, by decide +kernel⟩
def spMade : Sp := fun vs H Q _ => ∃ (t signs : Str) (most : Int), vs = [.str t, .str signs, .int most] ∧ t.length ≤ 1000 ∧ ∀ H', Same H H' → Q (.bl (made t signs most)) H'
theorem ok_made {f : Addr} {fd : FuncData} {k : Nat} (F : Fun K "made_of" "made_of" sMade f fd) (B : Blt mg) : FnOk P w K mg base CX0 (k + 1) f fd ["text", "signs", "most"] spMade := by
  refine F.ok scMade (fun vs H Q E h => ?_) (fun cdv A outer s H vs Q E hr h => ?_)
  · obtain ⟨t, sg, m, rfl, _⟩ := h
    rfl
  · obtain ⟨t, sg, m, rfl, hl, q⟩ := h
    refine ⟨_, pss_one (ps_ret (pe_and (pe_chain op_le op_le pe_int (pe_callB call_len_str (by rfl) B.len PySem.boot_len (pa_cons (pv 0) pa_nil)) (pv 2))
      (pe_one (pe_callB (cr_all rfl) (by rfl) B.all (by decide +kernel) (pa_cons (pe_lc (own := [("sign", 3)]) (g := gName 3) (by rfl) scMade.nd (pi_str (pv 0)) (blkOk_by (N := ["text", "signs", "most", "sign"]) (sc := defScope sMade) (by decide +kernel)) (fun _ _ _ _ _ => pg_name (i := 3) scMade.nd rfl (Or.inl rfl)) (fun _ _ _ _ _ => pts_nil) (fun _ _ _ _ _ => pe_cmpR op_in_sign (pv 3) (pv 1) (by rfl))) pa_nil))))), ?_⟩
    refine ⟨.str t, rfl, t, rfl, Nat.le_trans hl (by decide), 1, (t.length : Int), rfl, rfl, _, rfl, ?_⟩
    have h0 : ∀ c : Bool, c = false → Q (.bl c) H → made t sg m = false → Q (.bl (made t sg m)) H := fun c e q e2 => by rw [e2, ← e]; exact q
    refine ite2 (fun e1 => ?_) (fun e1 => ?_)
    · refine ⟨.int m, rfl, (t.length : Int), m, rfl, rfl, _, rfl, ite2 (fun e2 => ?_) (fun e2 => ?_)⟩
      · refine ⟨.str t, rfl, t, rfl, fun D nD => lc_it (walk_str (z := t)) (fun i H' => Same H H' ∧ H' D = some (.lst (((t.cps.toList.take i).map (isIn sg)).map V.bl))) ⟨same_upd nD, upd_same⟩ (fun _ _ _ _ => trivial) (fun i x H1 H2 hi hP hy => ?_) (fun H1 hP => ?_)⟩
        · obtain ⟨hS, hD⟩ := hP
          obtain ⟨rfl, c, hc, rfl⟩ := hy
          refine ⟨rfl, ?_⟩
          have hi' : i < t.cps.toList.length := by rw [Array.length_toList]; exact hi
          have hc' : t.cps.toList[i]? = some c := by rw [Array.getElem?_toList]; exact hc
          refine ⟨_, rfl, .str sg, rfl, c, sg, rfl, rfl, _, hD, ?_, ?_, ?_⟩
          · rw [List.length_map, List.length_map, List.length_take, Array.length_toList]
            exact small1000 (Nat.le_trans (Nat.min_le_right _ _) hl)
          · intro b o hb
            rw [upd_ne (ne_of_none hb nD)]
            exact hS _ _ hb
          · rw [upd_same, List.take_add_one, hc', List.map_append, List.map_append]
            rfl
        · obtain ⟨hS, hD⟩ := hP
          refine ⟨D, (t.cps.toList.map (isIn sg)), rfl, sqOf (by rw [hD, ← Array.length_toList, List.take_length]), ?_⟩
          have e : (t.cps.toList.map (isIn sg)).all id = made t sg m := by
            unfold made
            rw [of_decide_eq_true e1 |> decide_eq_true, of_decide_eq_true e2 |> decide_eq_true, List.all_map]
            rfl
          rw [e]
          exact q _ hS
      · have e : made t sg m = false := by
          unfold made
          rw [Bool.eq_false_iff.mpr e2, Bool.and_false, Bool.false_and]
        have := q H (Same.refl _)
        rw [e] at this
        exact this
    · have e : made t sg m = false := by
        unfold made
        rw [Bool.eq_false_iff.mpr e1, Bool.false_and, Bool.false_and]
      have := q H (Same.refl _)
      rw [e] at this
      exact ⟨false, rfl, this⟩
theorem scSpells : FnScope ["text"] ["text"] (defScope sSpells) := ⟨rfl, rfl, rfl, by decide +kernel, rfl, by decide +kernel, by decide +kernel⟩
theorem scIsName : FnScope ["text"] ["text"] (defScope sIsName) := ⟨rfl, rfl, rfl, by decide +kernel, rfl, by decide +kernel, by decide +kernel⟩
theorem scIsAddr : FnScope ["text"] ["text"] (defScope sIsAddr) := ⟨rfl, rfl, rfl, by decide +kernel, rfl, by decide +kernel, by decide +kernel⟩
/-- one text in, a bool out -/
def spT (g : Str → Bool) : Sp := fun vs H Q _ => ∃ (t : Str), vs = [.str t] ∧ t.length ≤ 1000 ∧ ∀ H', Same H H' → Q (.bl (g t)) H'
theorem ok_spells {f g : Addr} {fd gd : FuncData} (F : Fun K "spells_address" "spells_address" sSpells f fd) (D : Dd K mg "made_of" sMade ["text", "signs", "most"] g gd) (B : Blt mg) : FnOk P w K mg base CX0 2 f fd ["text"] (spT isAddr) := by
  have G : FnOk P w K mg base CX0 1 g gd ["text", "signs", "most"] spMade := ok_made D.F B
  refine F.ok scSpells (fun vs H Q E h => ?_) (fun cdv A outer s H vs Q E hr h => ?_)
  · obtain ⟨t, rfl, _⟩ := h
    rfl
  · obtain ⟨t, rfl, hl, q⟩ := h
    refine ⟨_, pss_one (ps_ret (pe_call G hr (by rfl) D.g D.F.kp D.b .nil pass0 (pa_cons (pv 0) (pa_cons (pe_txt (by rfl) B.dg) (pa_cons pe_int pa_nil))))), ?_⟩
    exact ⟨.str t, rfl, t, digits, 8, rfl, hl, q⟩
theorem ok_isAddr {f g g2 : Addr} {fd gd gd2 : FuncData} (F : Fun K "is_address" "is_address" sIsAddr f fd) (D : Dd K mg "spells_address" sSpells ["text"] g gd) (D2 : Dd K mg "made_of" sMade ["text", "signs", "most"] g2 gd2) (B : Blt mg) : FnOk P w K mg base CX0 3 f fd ["text"] (spT isAddr) := by
  have G : FnOk P w K mg base CX0 2 g gd ["text"] (spT isAddr) := ok_spells D.F D2 B
  refine F.ok scIsAddr (fun vs H Q E h => ?_) (fun cdv A outer s H vs Q E hr h => ?_)
  · obtain ⟨t, rfl, _⟩ := h
    rfl
  · obtain ⟨t, rfl, hl, q⟩ := h
    refine ⟨_, pss_one (ps_ret (pe_call G hr (by rfl) D.g D.F.kp D.b .nil pass0 (pa_cons (pv 0) pa_nil))), ?_⟩
    exact ⟨.str t, rfl, t, rfl, hl, q⟩
theorem ok_isName {f g : Addr} {fd gd : FuncData} (F : Fun K "is_name" "is_name" sIsName f fd) (D : Dd K mg "made_of" sMade ["text", "signs", "most"] g gd) (B : Blt mg) : FnOk P w K mg base CX0 2 f fd ["text"] (spT isName) := by
  have G : FnOk P w K mg base CX0 1 g gd ["text", "signs", "most"] spMade := ok_made D.F B
  refine F.ok scIsName (fun vs H Q E h => ?_) (fun cdv A outer s H vs Q E hr h => ?_)
  · obtain ⟨t, rfl, _⟩ := h
    rfl
  · obtain ⟨t, rfl, hl, q⟩ := h
    refine ⟨_, pss_one (ps_ret (pe_and (pe_call G hr (by rfl) D.g D.F.kp D.b .nil pass0 (pa_cons (pv 0) (pa_cons (pe_op op_add_str (pe_txt (by rfl) B.lt) (pe_txt (by rfl) B.dg)) (pa_cons pe_int pa_nil))))
      (pe_one (pe_cmpR op_in_sign (pe_item_str (pv 0) pe_int (fun _ _ => rfl)) (pe_txt (by rfl) B.lt) (by rfl))))), ?_⟩
    refine ⟨.str t, rfl, _, _, rfl, rfl, by decide +kernel, t, letters ++ digits, 12, rfl, hl, fun H1 S1 => ⟨_, rfl, ite2 (fun e => ?_) (fun e => ?_)⟩⟩
    · have e' : (decide (1 ≤ (t.length : Int)) && decide ((t.length : Int) ≤ 12) && t.cps.toList.all (isIn (letters ++ digits))) = true := e
      rw [Bool.and_eq_true, Bool.and_eq_true] at e'
      have h1 : 1 ≤ (t.length : Int) := of_decide_eq_true e'.1.1
      have h2 : 0 < t.cps.size := by
        show 0 < t.length
        omega
      have hc : t.cps[0]? = some t.cps[0] := Array.getElem?_eq_getElem h2
      refine ⟨.str t, rfl, t, 0, t.cps[0], rfl, rfl, by decide, by decide, by omega, hc, t.cps[0], letters, rfl, rfl, ?_⟩
      have en : isName t = decide (t.cps[0] ∈ letters.cps.toList) := by
        unfold isName
        rw [show made t (letters ++ digits) 12 = true from e, hc, Bool.true_and]
        rfl
      rw [← en]
      exact q _ S1
    · have en : isName t = false := by
        unfold isName
        rw [show made t (letters ++ digits) 12 = false from Bool.eq_false_iff.mpr e, Bool.false_and]
      have := q _ S1
      rw [en] at this
      exact this
end
end Tb
namespace Tb
open PySem PySem.Spec PyProof.Rows L2
/-! ### prefixes and lanes: the mirrors -/
/-- the first n signs -/
def pre (a : Str) (n : Nat) : Str := cutS a none (some (n : Int))
abbrev Kvs := List (Key × V)
/-- the longest of the first n beginnings that is a key -/
def lp (kvs : Kvs) (a : Str) : Nat → Option Str
  | 0 => none
  | n + 1 => if (valV kvs (Sum.inr (pre a (n + 1)))).isSome = true then some (pre a (n + 1)) else lp kvs a n
def long (kvs : Kvs) (a : Str) : Option Str := lp kvs a a.length
def oStr : Option Str → V
  | none => .non
  | some z => .str z
/-- the lane of an address -/
def laneV (kvs : Kvs) (a : Str) : V := match long kvs a with
  | none => .non
  | some p => (valV kvs (Sum.inr p)).getD .non
theorem lp_some {kvs : Kvs} {a : Str} : ∀ {n : Nat} {p : Str}, lp kvs a n = some p → ∃ v, valV kvs (Sum.inr p) = some v
  | 0, _, h => by cases h
  | n + 1, p, h => by
    unfold lp at h
    by_cases c : (valV kvs (Sum.inr (pre a (n + 1)))).isSome = true
    · rw [if_pos c] at h
      cases h
      exact Option.isSome_iff_exists.mp c
    · rw [if_neg c] at h
      exact lp_some h
theorem lp_len {kvs : Kvs} {a : Str} : ∀ {n : Nat} {p : Str}, lp kvs a n = some p → p.length ≤ a.length
  | 0, _, h => by cases h
  | n + 1, p, h => by
    unfold lp at h
    by_cases c : (valV kvs (Sum.inr (pre a (n + 1)))).isSome = true
    · rw [if_pos c] at h
      cases h
      exact cutS_length a _ _
    · rw [if_neg c] at h
      exact lp_len h
section
variable {P : Program} {w : World} {K : PySem.W.Frag} {mg : Str → Option Value} {base : Heap}
/-- a dict and an address in; what g says out, the heap as it was -/
def spDA (g : Kvs → Str → V) : Sp := fun vs H Q _ => ∃ (d : Addr) (kvs : Kvs) (a : Str), vs = [.ref d, .str a] ∧ H d = some (.dK kvs) ∧ a.length ≤ 1000 ∧ Q (g kvs a) H
end
end Tb
namespace Tb
open PySem PySem.Spec PyProof.Rows L2
open PySem.W (EachIs AllAlike Sortable dataLe)
/-! ### sorted, any number of items -/
theorem vals_each : ∀ {bs : List (V × PyData)} {us : List Value}, Vals (bs.map Prod.fst) us → EachIs (fun (v : Value) (b : V × PyData) => RelV b.1 v) us bs
  | [], _, r => by cases r; exact .nil
  | b :: bs, _, r => by
    cases r with
    | cons r1 r2 => exact .cons r1 (vals_each r2)
theorem each_vals : ∀ {bs : List (V × PyData)} {us : List Value}, EachIs (fun (v : Value) (b : V × PyData) => RelV b.1 v) us bs → Vals (bs.map Prod.fst) us
  | [], _, r => by cases r; exact .nil
  | b :: bs, _, r => by
    cases r with
    | cons r1 r2 => exact .cons r1 (each_vals r2)
theorem each_imp {α β : Type} {R S : α → β → Prop} : ∀ {as : List α} {bs : List β}, EachIs R as bs → (∀ a b, b ∈ bs → R a b → S a b) → EachIs S as bs
  | _, _, .nil, _ => .nil
  | _, _, .cons h t, k => .cons (k _ _ (List.mem_cons_self ..) h) (each_imp t fun a b hb => k a b (List.mem_cons_of_mem _ hb))
def rSortDt (K : PySem.W.Frag) : List V → Hp → VK → Prop := fun vs H Q => ∃ (a : Addr) (bs : List (V × PyData)), vs = [.ref a] ∧ SqL K H a (bs.map Prod.fst) ∧ (∀ b ∈ bs, Dp K H b.1 b.2) ∧ AllAlike (bs.map Prod.snd) ∧ Sortable (bs.map Prod.snd) ∧ (∀ b ∈ bs, b.2.depth ≤ 10) ∧
  ∀ p, H p = none → Q (.ref p) (upd H p (.lst ((bs.mergeSort (dataLe false Prod.snd)).map Prod.fst)))
section
variable {X : Cx}
theorem cr_sortedDt (hu : X.A.units + 64 < cLine) : CallR X (.builtin "sorted") (rSortDt X.K) := by
  intro pins s σ H vs us Q I r h
  obtain ⟨a, bs, rfl, hs, hd, hal, hso, hdp, q⟩ := h
  obtain ⟨its, rv, hl, hz⟩ := I.list hs
  rw [Vals.ref1 r]
  have e := vals_each rv
  rw [List.length_map] at hz
  refine PySem.W.sorted_data (enc := Prod.snd) hl.isList e (each_imp e fun v b hb rb => Dp.reads I b.2 b.1 v (hd b hb) rb) hal hso hz (fun b hb => by have := hdp b hb; omega) fun out ho eo => ?_
  obtain ⟨ep, he'⟩ := PyProof.Rows.sortedAll_at s.heap its out.toArray
  have hlen : ((bs.mergeSort (dataLe false Prod.snd)).map Prod.fst).length ≤ sizeLine := by
    rw [List.length_map, List.length_mergeSort]
    exact hz
  exact ⟨.ref _, upd H (s.heap.objs.size + 1) (.lst ((bs.mergeSort (dataLe false Prod.snd)).map Prod.fst)), I.laid (t' := s.toks) (fun _ _ => PyProof.Rows.sortedAll_old) (Nat.le_succ _) ⟨hlen, out, ep, each_vals eo, he'⟩, rfl, q _ (I.hok.fresh (Nat.le_succ _))⟩
/-- sorted(d), the keys texts, any number of them -/
theorem cr_sortedDk (hcalm : X.calm = true) (hu : X.A.units + 64 < cLine) : CallR X (.builtin "sorted") (fun xs H Q => ∃ (a : Addr) (kvs : List (Key × V)) (ks : List Str), xs = [.ref a] ∧ Rd H a (.dK kvs) ∧ kvs.map (·.1) = ks.map Sum.inr ∧ ks.length ≤ 1000 ∧
    ∀ p, H p = none → Q (.ref p) (upd H p (.lst ((ks.mergeSort (dataLe false PyData.str)).map V.str)))) := by
  intro pins s σ H xs us Q I r q
  obtain ⟨a, kvs, ks, rfl, hd, hks, hln, q⟩ := q
  obtain ⟨u, rfl, rx⟩ := vals1 r
  cases rx
  obtain ⟨z, lo, vs, rel, dd⟩ := dk_rd I.hok hd
  obtain ⟨ep, hat⟩ := dd.dictAt
  have hkeys : vs.map (·.1) = ks.map Sum.inr := rel.keys.symm.trans hks
  have hl : vs.length = ks.length := by
    have e := congrArg List.length hkeys
    rwa [List.length_map, List.length_map] at e
  have hline : sizeLine = 16777216 := rfl
  refine Calls.call_function_entry PyProof.Rows.kind_sorted PyProof.Rows.plain_sorted PyProof.Rows.entry_sorted (PyProof.Rows.args_sorted1 _) ?_
  unfold Builtin.«sorted»
  refine wpAny_bind (m := checkCount "sorted" 1 1 _) (wpAny_pure ?_)
  refine wpAny_bind (PySem.W.kdu_collect (A := X.A.in1) (PySem.W.kdl_dict (knd := mixKind X.prog X.w) (kvs := vs) (ep := ep) lo) (I.ok.hd hcalm) hat (by omega) fun h' tk acc hk hacc => ?_)
  have hal : acc.toList.length = ks.length := by rw [Array.length_toList, hacc.1, hl]
  -- the values are the texts
  have each : EachIs (fun (v : Value) (x : Str) => ∃ t, v = .str x t) acc.toList ks := by
    have gen : ∀ (n : Nat) (us : List Value) (xs : List Str), us.length = xs.length → (∀ (j : Nat) (v : Value), us[j]? = some v → ∃ (x : Str) (t : Tok), xs[j]? = some x ∧ v = Value.str x t) →
      EachIs (fun (v : Value) (x : Str) => ∃ t, v = .str x t) us xs := by
      intro _ us
      induction us with
      | nil =>
        intro xs e _
        cases xs with
        | nil => exact .nil
        | cons _ _ => cases e
      | cons u us ih =>
        intro xs e k
        cases xs with
        | nil => cases e
        | cons x xs =>
          obtain ⟨x', t, e1, e2⟩ := k 0 u rfl
          cases e1
          exact .cons ⟨t, e2⟩ (ih xs (Nat.succ.inj e) fun j v hv => k (j + 1) v hv)
    refine gen 0 _ _ hal fun j v e => ?_
    obtain ⟨k, x, e1, e2⟩ := hacc.2 j v (by rw [← Array.getElem?_toList]; exact e)
    have e3 : (vs.map (·.1))[j]? = some k := by rw [List.getElem?_map, e1]; rfl
    rw [hkeys, List.getElem?_map] at e3
    cases e4 : ks[j]? with
    | none => rw [e4] at e3; cases e3
    | some y =>
      rw [e4] at e3
      cases (Option.some.inj e3 : Sum.inr y = k)
      obtain ⟨t, ev⟩ := Value.isStrOf_shape (x := y) (v := v) e2
      exact ⟨y, t, rfl, ev⟩
  have I1 : Inv X pins σ H { s with heap := h', toks := tk } := I.kept hk
  refine wpAny_bind (wpAny_newList ?_ (by rw [hal]; omega))
  have hoL : (h'.push (seqObj "list" acc.toList.toArray 0)).get? h'.objs.size = some (seqObj "list" acc.toList.toArray 0) := Heap.get?_push_size _ rfl
  show wpAny _ _ _ _ _ { s with heap := h'.push (seqObj "list" acc.toList.toArray 0), toks := tk }
  have alike1 : AllAlike (ks.map PyData.str) := fun d hd d' hd' => by
    obtain ⟨x, _, rfl⟩ := List.mem_map.mp hd
    obtain ⟨y, _, rfl⟩ := List.mem_map.mp hd'
    simp [PySem.W.alike]
  have srt1 : Sortable (ks.map PyData.str) := .inr fun d hd => by
    obtain ⟨x, _, rfl⟩ := List.mem_map.mp hd
    exact ⟨PyData.noConfusion, fun _ => PyData.noConfusion⟩
  refine wpAny_bind (wpAny_holding (PySem.W.list_sort_data (enc := PyData.str) (s := { s with heap := h'.push (seqObj "list" acc.toList.toArray 0), toks := tk }) hoL each (each_imp each fun v x _ ⟨t, e⟩ => ⟨[], by rw [e]; exact Reads.str x t, List.not_mem_nil⟩) alike1 srt1 (by omega) ?k4 fun out ho eo => ?_))
  case k4 =>
    intro b _
    have h1 : (PyData.str b).depth ≤ 1 := by simp [PyData.depth]
    have h2 : X.A.in1.units = X.A.units + 1 := rfl
    omega
  obtain ⟨ep', he'⟩ := PyProof.Rows.sortedHeap_at (vs := acc.toList) (out := out.toArray) hoL
  have hlen : ((ks.mergeSort (dataLe false PyData.str)).map V.str).length ≤ sizeLine := by
    rw [List.length_map, List.length_mergeSort]
    omega
  have ev : Vals ((ks.mergeSort (dataLe false PyData.str)).map V.str) out := by
    generalize ks.mergeSort (dataLe false PyData.str) = zs at eo
    clear ho he' hlen
    induction eo with
    | nil => exact .nil
    | cons h _ ih => exact .cons h ih
  have hnew : H h'.objs.size = none := I1.hok.fresh (Nat.le_refl _)
  refine wpAny_pure ⟨_, rfl, .ref h'.objs.size, upd H h'.objs.size (.lst ((ks.mergeSort (dataLe false PyData.str)).map V.str)), I1.laid (t' := tk) (fun b o e => ?_) (Nat.le_refl _) ⟨hlen, out, ep', ev, he'⟩, rfl, q _ hnew⟩
  have hb : b < h'.objs.size := Heap.lt_size e
  rw [PyProof.Rows.sortedHeap_old (Nat.ne_of_lt hb) (by rw [size_push']; exact Nat.lt_succ_of_lt hb)]
  exact Heap.get?_push_of_some _ e
end
end Tb
namespace Tb
open PySem PySem.Spec PyProof.Rows L2
open PySem.W (EachIs AllAlike Sortable dataLe)
/-! ### sorted(d.items()) -/
abbrev Pr := Str × Str
def enc2 (p : Pr) : PyData := .tuple [.str p.1, .str p.2]
def kvP (ps : List Pr) : Kvs := ps.map fun p => (Sum.inr p.1, V.str p.2)
section
variable {prog : Program} {w : World} {κ : Type} [DecidableEq κ] {knd : KeyKind prog w κ} {A : Around} {E : Value → Shared → Prop} {s : Shared} {r d : Addr} {kvs : List (κ × Value)} {ep : Nat}
theorem collect_items {R : List Value → Shared → Prop} (hh : A.handled = none) (hv : s.heap.IsItemsView r d) (hm : s.heap.DictAt knd d kvs ep) (hn : kvs.length ≤ sizeLine)
    (h : ∀ (h' : Heap) (tk : Nat) (acc : Array Value) (c : Nat) (as : List Addr), (∀ b o, s.heap.get? b = some o → h'.get? b = some o) → h'.get? s.heap.objs.size = some { cls := .type "list", dict := none, data := .seq acc c, slots := #[] } → as.length = kvs.length → PySem.W.KdxG knd kvs s.heap.objs.size h' as →
      acc.toList = as.map Value.ref → R (as.map Value.ref) { s with heap := h', toks := tk }) :
    wpAny (model prog w) A (collect (.ref r)) R E s := by
  obtain ⟨ov, hov, hvr⟩ := id hv
  have hr : r < s.heap.objs.size := Heap.lt_size hov
  have hd : d < s.heap.objs.size := by
    obtain ⟨od, _, hod, _⟩ := id hm
    exact Heap.lt_size hod
  unfold collect
  refine wpAny_bind (wpAny_runValue (codeAny_builtin entry_proto_collect' ?_))
  rw [Around.under_plainId PySem.F.plain_proto_collect _]
  show wpAny _ A.in1 (newList [] >>= fun l => again (.builtin "list.__iadd__" ⟨[l, .ref r], []⟩)) _ _ s
  refine wpAny_bind (wpAny_newObj_type ?_)
  refine wpAny_pure ⟨plainId_quiet PySem.F.plain_list_iadd _, codeAny_builtin entry_list_iadd' ?_⟩
  rw [Around.under_plainId PySem.F.plain_list_iadd _]
  have up : ∀ b o, s.heap.get? b = some o → (s.heap.push { cls := .type "list", data := .seq ([] : List Value).toArray }).get? b = some o := fun b o e => Heap.get?_push_of_some _ e
  have key := PySem.W.kdx_extend (A := A) (knd := knd) (kvs := kvs) (ep := ep) (s := { s with heap := s.heap.push { cls := .type "list", data := .seq ([] : List Value).toArray } })
    (R := fun (q : Result) (s' : Shared) => ∃ (h' : Heap) (tk : Nat) (acc : Array Value) (c : Nat) (as : List Addr), q = .ok (.ret (.ref s.heap.objs.size)) ∧ s' = { s with heap := h', toks := tk } ∧ (∀ b o, s.heap.get? b = some o → h'.get? b = some o) ∧
      h'.get? s.heap.objs.size = some { cls := .type "list", dict := none, data := .seq acc c, slots := #[] } ∧ as.length = kvs.length ∧ PySem.W.KdxG knd kvs s.heap.objs.size h' as ∧ acc.toList = as.map Value.ref)
    hh ⟨ov, up _ _ hov, hvr⟩ (hm.at' fun o e => up _ _ e) s.heap.objs.size (Nat.ne_of_gt hr) (Nat.ne_of_lt hd) (.ref s.heap.objs.size) 0 (Heap.get?_push_size _ rfl)
    (fun h' tk acc c as hk hS hl hG hacc => ⟨h', tk, acc, c, as, rfl, rfl, fun b o e => hk b o (Nat.ne_of_lt (Heap.lt_size e)) (up _ _ e), hS, hl, hG.low (by show s.heap.objs.size ≤ (s.heap.push _).objs.size; rw [Heap.size_push]; exact Nat.le_succ _), hacc⟩) hn
  refine wpAny_mono key (fun fin s' x => ?_) fun e s' x => ?_
  · cases fin with
    | done f =>
      obtain ⟨h', tk, acc, c, as, e, rfl, hk, hS, hl, hG, hacc⟩ := x
      cases e
      show wpAny _ A (load s.heap.objs.size >>= _) _ _ _
      refine wpAny_bind (wpAny_load hS ?_)
      refine wpAny_pure ?_
      show R acc.toList _
      rw [hacc]
      exact h h' tk acc c as hk hS hl hG hacc
    | again c₁ =>
      refine ⟨x.1, codeAny_mono x.2 fun q s₂ y => ?_⟩
      obtain ⟨h', tk, acc, c, as, rfl, rfl, hk, hS, hl, hG, hacc⟩ := y
      show wpAny _ A (load s.heap.objs.size >>= _) _ _ _
      refine wpAny_bind (wpAny_load hS ?_)
      refine wpAny_pure ?_
      show R acc.toList _
      rw [hacc]
      exact h h' tk acc c as hk hS hl hG hacc
  · obtain ⟨_, _, _, _, _, e', _⟩ := x
    cases e'
end
/-- the order of the pairs, and of the texts -/
def le2 : Pr → Pr → Bool := dataLe false enc2
def le1 : Str → Str → Bool := dataLe false PyData.str
theorem alike2 (ps : List Pr) : AllAlike (ps.map enc2) := fun d hd d' hd' => by
  obtain ⟨x, _, rfl⟩ := List.mem_map.mp hd
  obtain ⟨y, _, rfl⟩ := List.mem_map.mp hd'
  simp [enc2, PySem.W.alike, PySem.W.alikeAll]
theorem sortable2 (ps : List Pr) : Sortable (ps.map enc2) := .inl fun d hd => by
  obtain ⟨x, _, rfl⟩ := List.mem_map.mp hd
  exact ⟨_, _, rfl⟩
theorem depth2 (p : Pr) : (enc2 p).depth ≤ 2 := by simp [enc2, PyData.depth, PyData.depthAll]
/-- a list of refs to pairs of texts -/
structure PrsAt (K : PySem.W.Frag) (H : Hp) (l : Addr) (ts : List (Addr × Pr)) : Prop where
  l : SqL K H l (ts.map fun t => V.ref t.1)
  t : ∀ t ∈ ts, SqT K H t.1 [.str t.2.1, .str t.2.2]
theorem kvP_keys (ps : List Pr) : (kvP ps).map (·.1) = (ps.map (·.1)).map Sum.inr := by
  unfold kvP
  rw [List.map_map, List.map_map]
  rfl
/-- sorted(e.items()) -/
def tSortItems (te : TE) : TE := fun σ H Q => te σ H fun x H1 => ∃ (d : Addr) (ps : List Pr), x = .ref d ∧ H1 d = some (.dK (kvP ps)) ∧ ps.length ≤ 1000 ∧
  ∀ (H' : Hp) (p : Addr) (ts : List (Addr × Pr)), Same H1 H' → H1 p = none → H' p = some (.lst (ts.map fun t => V.ref t.1)) → (∀ t ∈ ts, H' t.1 = some (.tup [.str t.2.1, .str t.2.2])) → ts.map (·.2) = ps.mergeSort le2 → Q (.ref p) H'
section
variable {X : Cx} {e : Expr} {te : TE} {p apos cpos pos : Pos}
theorem pe_sortedItems (hc : X.calm = true) (hu : X.A.units + 64 < cLine) (he : PE X e te) (hg : Gl X "sorted") (hm : X.mg "sorted" = none) (hbase : attributeBase e "items" X.env (eval e X.env) = eval e X.env := by rfl) (hline : (apos.endLine == cpos.line) = true := by rfl)
    (hs : starEach [.Call (.Attribute e "items" apos) [] [] cpos] X.env = (false, eval (.Call (.Attribute e "items" apos) [] [] cpos) X.env) :: starEach [] X.env := by rfl) :
    PE X (.Call (.Name "sorted" p) [.Call (.Attribute e "items" apos) [] [] cpos] [] pos) (tSortItems te) := by
  refine ⟨fun pins s σ H Q I hq => ?_⟩
  refine wpAny_Call_Name_kw (ld_blt I hg hm PyProof.Rows.boot_sorted ?_)
  refine PyProof.Rows.callWith_builtin1 ?_ hs rfl
  rw [hs]
  show wpAny _ _ (spliced ((false, eval (.Call (.Attribute e "items" apos) [] [] cpos) X.env) :: backTo pos (starEach [] X.env))) _ _ s
  refine Calls.spliced_cons ?_
  refine wpAny_Call_method (T := "dict") (id := "dict.items") hbase rfl hline PySem.F.plainAttrs_dict PySem.F.slot_dict_items PySem.F.type_dict_items (thn (he.run pins s σ H _ I hq) fun u s1 ⟨x, H1, I1, rx, d, ps, ex, hd, hln, q⟩ => ?_)
  subst ex
  obtain rfl : u = Value.ref d := rx
  obtain ⟨hz, hs0, vs, kv, hdo⟩ := I1.hok d _ hd
  obtain ⟨ep, hat⟩ := hdo.dictAt
  have lk : (kvP ps).length = vs.length := Paired.length kv
  have lps : (kvP ps).length = ps.length := by unfold kvP; rw [List.length_map]
  have hline' : sizeLine = 16777216 := rfl
  have I2 : Inv X pins σ H1 { s1 with heap := s1.heap.push { cls := .type "dict_items", data := .fields #[.ref d] } } := I1.kept (t' := s1.toks) fun b ob q => Heap.get?_push_of_some _ q
  refine ⟨hdo.typeIs, hdo.mapOf.noDict, ?_⟩
  show wpAny _ _ (callWith cpos (.builtin "dict.items") [.ref d] [] []) _ X.xe s1
  refine method_meetsIn PySem.F.slot_dict_items PySem.F.entry_dict_items rfl (PySem.evalArgs_none ⟨rfl, hdo.typeIs, PySem.F.args_dict_items_1 _, _, meets_dict_items (mixKind X.prog X.w) d hs0, ⟨vs, hdo⟩, ?_⟩)
  refine Calls.spliced_nil ?_
  refine Calls.call_function_entry PyProof.Rows.kind_sorted PyProof.Rows.plain_sorted PyProof.Rows.entry_sorted (PyProof.Rows.args_sorted1 _) ?_
  unfold Builtin.«sorted»
  refine wpAny_bind (m := checkCount "sorted" 1 1 _) (wpAny_pure ?_)
  refine wpAny_bind (collect_items (A := X.A.in1) (knd := mixKind X.prog X.w) (kvs := vs) (ep := ep) (I1.ok.hd hc) ⟨_, Heap.get?_push_size _ rfl, rfl, rfl⟩ (hat.push _) (by omega) fun h' tk acc c as hk hS hl hG hacc => ?_)
  obtain ⟨H', k1, k2, k3, k4, k5, k6, J⟩ := LiI.items_laid (tk := tk) I2 hz kv hk hS hl hG hacc
  have las : as.length = ps.length := by omega
  -- the pairs with their places
  have pr : ∀ t ∈ as.zip ps, H' t.1 = some (.tup [.str t.2.1, .str t.2.2]) := by
    intro t ht
    obtain ⟨j, hj⟩ := List.mem_iff_getElem?.mp ht
    rw [List.getElem?_zip_eq_some] at hj
    obtain ⟨y, hy, hy2⟩ := LiI.paired_get k6 hj.1
    unfold kvP at hy
    rw [List.getElem?_map, hj.2] at hy
    cases (Option.some.inj hy)
    exact hy2
  have z1 : (as.zip ps).map Prod.fst = as := List.map_fst_zip (by omega)
  have z2 : (as.zip ps).map Prod.snd = ps := List.map_snd_zip (by omega)
  generalize as.zip ps = bs at pr z1 z2
  have lbs : bs.length = as.length := by rw [← z1, List.length_map]
  refine wpAny_bind (wpAny_newList ?_ (by rw [List.length_map]; omega))
  have hoL : (h'.push (seqObj "list" (as.map Value.ref).toArray 0)).get? h'.objs.size = some (seqObj "list" (as.map Value.ref).toArray 0) := Heap.get?_push_size _ rfl
  show wpAny _ _ _ _ _ { s1 with heap := h'.push (seqObj "list" (as.map Value.ref).toArray 0), toks := tk }
  have e2 : bs.map (fun t : Addr × Pr => enc2 t.2) = ps.map enc2 := by rw [← z2, List.map_map]; rfl
  have each : EachIs (fun (v : Value) (t : Addr × Pr) => v = .ref t.1) (as.map Value.ref) bs := by
    rw [← z1, List.map_map]
    clear pr z1 z2 lbs e2
    induction bs with
    | nil => exact .nil
    | cons b bs ih => exact .cons rfl ih
  have Jn := J
  have old : ∀ b o, h'.get? b = some o → (h'.push (seqObj "list" (as.map Value.ref).toArray 0)).get? b = some o := fun b o e => Heap.get?_push_of_some _ e
  have rd : EachIs (fun (v : Value) (t : Addr × Pr) => ∃ as', Reads (h'.push (seqObj "list" (as.map Value.ref).toArray 0)) v (enc2 t.2) as' ∧ h'.objs.size ∉ as') (as.map Value.ref) bs := by
    refine each_imp each fun v t ht hv => ?_
    subst hv
    obtain ⟨_, its, rv, o, h1, h2, n, h3⟩ := (show ObjOk X.prog X.w H' h' t.1 (.tup [.str t.2.1, .str t.2.2]) from J.hok t.1 _ (pr t ht))
    obtain ⟨u1, u2, rfl, r1, r2⟩ := vals2 rv
    obtain ⟨t1, rfl⟩ := r1
    obtain ⟨t2, rfl⟩ := r2
    exact ⟨[], Reads.tuple (old _ _ h1) h2 h3 (ReadsAll.cons (Reads.str _ _) (ReadsAll.cons (Reads.str _ _) ReadsAll.nil)), List.not_mem_nil⟩
  refine wpAny_bind (wpAny_holding (PySem.W.list_sort_data (enc := fun t : Addr × Pr => enc2 t.2) (s := { s1 with heap := h'.push (seqObj "list" (as.map Value.ref).toArray 0), toks := tk }) hoL each rd (by rw [e2]; exact alike2 ps) (by rw [e2]; exact sortable2 ps) (by omega) ?k4 fun out ho eo => ?_))
  case k4 =>
    intro b _
    have h1 := depth2 b.2
    have h2 : X.A.in1.units = X.A.units + 1 := rfl
    omega
  obtain ⟨ep', he'⟩ := PyProof.Rows.sortedHeap_at (vs := as.map Value.ref) (out := out.toArray) hoL
  have hsm : (bs.mergeSort (dataLe false fun t : Addr × Pr => enc2 t.2)).map (·.2) = ps.mergeSort le2 := by
    have h := PySem.W.sort_maps (r := dataLe false fun t : Addr × Pr => enc2 t.2) (s := le2) (l := bs) (fun t : Addr × Pr => t.2) (fun _ _ _ _ => rfl)
    rw [z2] at h
    exact h
  have hmem : ∀ t ∈ bs.mergeSort (dataLe false fun t : Addr × Pr => enc2 t.2), H' t.1 = some (.tup [.str t.2.1, .str t.2.2]) := fun t ht => pr t (List.mem_mergeSort.mp ht)
  have hlen : ((bs.mergeSort (dataLe false fun t : Addr × Pr => enc2 t.2)).map fun t => V.ref t.1).length ≤ sizeLine := by
    rw [List.length_map, List.length_mergeSort]
    omega
  generalize bs.mergeSort (dataLe false fun t : Addr × Pr => enc2 t.2) = ts at eo hsm hmem hlen
  have ev : Vals (ts.map fun t => V.ref t.1) out := by
    clear ho he' hlen hsm hmem
    induction eo with
    | nil => exact .nil
    | cons h _ ih => exact .cons h ih
  have hnew : H' h'.objs.size = none := J.hok.fresh (Nat.le_refl _)
  refine wpAny_pure ⟨_, rfl, .ref h'.objs.size, upd H' h'.objs.size (.lst (ts.map fun t => V.ref t.1)), J.laid (t' := tk) (fun b o e => ?_) (Nat.le_refl _) ⟨hlen, out, ep', ev, he'⟩, rfl, q _ _ ts ((show Same H1 H' from k1).trans (same_upd hnew)) ((show Same H1 H' from k1).free hnew) upd_same (fun t ht => by rw [upd_ne (ne_of_none (hmem t ht) hnew)]; exact hmem t ht) hsm⟩
  have hb : b < h'.objs.size := Heap.lt_size e
  rw [PyProof.Rows.sortedHeap_old (Nat.ne_of_lt hb) (by rw [size_push']; exact Nat.lt_succ_of_lt hb)]
  exact old b o e
end
end Tb
namespace Tb
open PySem PySem.Spec PyProof.Rows L2
/-! ### errors with one field (as in wip/k17 X17A, over this text) -/
structure ErrC (K : PySem.W.Frag) (C fI : Addr) (n : Str) : Prop where
  ox : OexC K C
  xf : XfC K C
  no : PySem.W.findIn K (.ref C) n = some none
  iC : PySem.W.findIn K (.ref C) "__init__" = some (some (.ref fI))
  tI : PySem.W.typeIn K (.ref fI) = some (.type "function")
  cl : (PySem.W.clsIn K C).isSome = true
  ha : PySem.W.findIn K (.ref C) "__class__" = some (some (.builtin "object.__class__"))
  hm : PySem.W.mroIn K C (.type "object") = some true
  hn : PySem.W.specialIn K (.builtin "object.__class__") "__get__" = some (some (.builtin "getset_descriptor.__get__"))
  tk : PySem.W.takesIn K (.builtin "object.__class__") = some true
def spErr (K : PySem.W.Frag) (n : Str) : Sp := fun vs H Q _ => ∃ (a C : Addr) (v : V), vs = [.ref a, v] ∧ OexC K C ∧ PySem.W.findIn K (.ref C) n = some none ∧ H a = some (exo a C none) ∧ ∀ dx, H dx = none → dx ≠ a → Q .non (upd (upd H dx (exd dx [(n, v)])) a (exo a C (some dx)))
theorem err_made {K : PySem.W.Frag} {C fI : Addr} {n : Str} (T : ErrC K C fI n) {v : V} {H : Hp} {Q : XK} (q : ∀ d H', Same H H' → H' d = some (.xd [(n, v)]) → Q (.ref C) (some d) H') :
    ∀ a, H a = none → spErr K n [.ref a, v] (upd H a (exo a C none)) (fun u H2 => u = .non ∧ ∃ (d : Addr) (fs : List (Str × V)), H2 a = some (exo a C (some d)) ∧ H2 d = some (exd d fs) ∧ H d = none ∧ Q (.ref C) (some d) (upd (del H2 a) d (.xd fs))) (fun _ _ _ => False) := by
  intro a na
  refine ⟨a, C, v, rfl, T.ox, T.no, upd_same, fun d nd da => ⟨rfl, d, [(n, v)], upd_same, ?_, ?_, ?_⟩⟩
  · rw [upd_ne da]
    exact upd_same
  · rw [upd_ne da] at nd
    exact nd
  · rw [upd_ne da] at nd
    refine q d _ (fun b o hb => ?_) upd_same
    have hba : b ≠ a := ne_of_none hb na
    have hbd : b ≠ d := ne_of_none hb nd
    rw [upd_ne hbd, del_ne hba, upd_ne hba, upd_ne hbd, upd_ne hba]
    exact hb
section
variable {X : Cx} {a D : Addr} {oe : Obj} {pn : List (Addr × Obj)} {d : Option Addr} {cls : Value}
def rIsX (K : PySem.W.Frag) (D a : Addr) (cls : Value) (d : Option Addr) : List V → Hp → VK → Prop := fun xs H Q => cls = .ref D ∧ ∃ (c : V) (cv : Value) (b : Bool) (dd : Addr) (fs : List (Str × V)), xs = [.ref a, c] ∧ ClsV c cv ∧ d = some dd ∧ H dd = some (.xd fs) ∧ PySem.W.kitOne K (.ref D) cv = some b ∧ Q (.bl b) H
theorem inst_at {pins : List (Addr × Obj)} {σ : L2.St} {H : Hp} {s : Shared} {dd : Addr} {fs : List (Str × V)} (hz : Zc (.ref D) (some dd) oe) (hf : ∃ vs, oe.data = .fields vs) (I : Inv (X.suite a ((a, oe) :: pn)) pins σ H s) (hd : H dd = some (.xd fs)) : ∃ od, PySem.W.InstAt s.heap a oe D (some od) := by
  obtain ⟨ha, _⟩ := I.pin (a, oe) (List.mem_append_left _ List.mem_cons_self)
  obtain ⟨vs, hv⟩ := hf
  have hx : ObjOk X.prog X.w H s.heap dd (.xd fs) := I.hok dd _ hd
  obtain ⟨mA, hns, _⟩ := hx
  obtain ⟨od, ho, _⟩ := lookIn_ns hns
  refine ⟨od, ha, hz.1, ?_, ?_⟩
  · unfold PySem.W.notCls
    rw [hv]
  · rw [hz.2]
    exact ho
theorem call_isX {fI : Addr} {n : Str} (T : ErrC X.K D fI n) (hz : Zc cls d oe) (hf : ∃ vs, oe.data = .fields vs) : CallR (X.suite a ((a, oe) :: pn)) (.builtin "isinstance") (rIsX X.K D a cls d) := by
  intro pins s σ H xs us Q I r h
  obtain ⟨rfl, c, cv, b, dd, fs, rfl, hc, rfl, hdd, e, q⟩ := h
  obtain ⟨u1, u2, rfl, r1, r2⟩ := vals2 r
  cases (show u1 = Value.ref a from r1)
  obtain rfl := hc.eq r2
  obtain ⟨od, J⟩ := inst_at hz hf I hdd
  exact PySem.W.kia_one (PySem.W.kitx_exc T.cl T.xf.ga T.xf.gg T.xf.exC T.ha T.hn T.tk T.hm) I.kIn J e (fun z => nomatch z) fun tk => ⟨.bl b, H, I.tok tk, rfl, q⟩
end
abbrev sInv : Stmt := inClass (topS 3) 0
theorem scInv : FnScope ["self", "what"] ["self", "what"] (defScope sInv) := ⟨rfl, rfl, rfl, by decide +kernel, rfl, by decide +kernel, by decide +kernel⟩
abbrev wWhat : Str := ("what" : String)
abbrev wName : Str := ("name" : String)
abbrev wTable : Str := ("table" : String)
abbrev wLanes : Str := ("_lanes" : String)
/-- a method of the text -/
structure Mm (K : PySem.W.Frag) (x qual : Str) (st : Stmt) (ps : List Str) (f : Addr) (fd : FuncData) : Prop where
  F : Fun K x qual st f fd
  b : Binds K fd ps []
section
variable {P : Program} {w : World} {K : PySem.W.Frag} {mg : Str → Option Value} {base : Heap}
theorem ok_inv {f : Addr} {fd : FuncData} {k : Nat} (F : Fun K "__init__" "Invalid.__init__" sInv f fd) : FnOk P w K mg base CX0 (k + 1) f fd ["self", "what"] (spErr K wWhat) := by
  refine F.ok scInv (fun vs H Q E h => ?_) (fun cdv A outer s H vs Q E hr h => ?_)
  · obtain ⟨a, C, v, rfl, _⟩ := h
    rfl
  · obtain ⟨a, C, v, rfl, ox, no, ha, q⟩ := h
    refine ⟨_, pss_one (ps_ost (pv 0) (pv 1)), ?_⟩
    exact ⟨v, rfl, .ref a, rfl, a, C, rfl, ox, no, .inl ⟨ha, fun dx nd da => q dx nd da⟩⟩
/-- the class Invalid and its __init__ -/
structure EInv (K : PySem.W.Frag) (mg : Str → Option Value) (C fI : Addr) (fdI : FuncData) : Prop where
  T : ErrC K C fI wWhat
  M : Mm K "__init__" "Invalid.__init__" sInv ["self", "what"] fI fdI
  g : mg "Invalid" = some (.ref C)
end
/-! ### heaps -/
def But (p : Addr) (H H' : Hp) : Prop := ∀ b o, H b = some o → b ≠ p → H' b = some o
theorem But.refl (p : Addr) (H : Hp) : But p H H := fun _ _ h _ => h
theorem But.trans {p : Addr} {H H1 H2 : Hp} (a : But p H H1) (b : But p H1 H2) : But p H H2 := fun c o h n => b c o (a c o h n) n
theorem But.upd {p : Addr} {H : Hp} {o : HO} : But p H (upd H p o) := fun b x e n => by rw [upd_ne n]; exact e
theorem Same.but {p : Addr} {H H' : Hp} (h : Same H H') : But p H H' := fun b o e _ => h b o e
/-! ### rows -/
def Good (ps : List Pr) : Prop := (∀ p ∈ ps, isAddr p.1 = true ∧ isLane p.2 = true) ∧ (ps.map Prod.fst).Nodup
def ok1 (kvs : Kvs) (p : Pr) : Bool := isAddr p.1 && isLane p.2 && (valV kvs (Sum.inr p.1)).isNone
theorem valV_kvP (k : Str) : ∀ ps : List Pr, (valV (kvP ps) (Sum.inr k)).isSome = true ↔ k ∈ ps.map Prod.fst
  | [] => by simp [kvP, valV]
  | p :: ps => by
    have ih := valV_kvP k ps
    by_cases c : p.1 = k
    · rw [show kvP (p :: ps) = (Sum.inr p.1, V.str p.2) :: kvP ps from rfl, valV_pos (by rw [c])]
      simp [c]
    · rw [show kvP (p :: ps) = (Sum.inr p.1, V.str p.2) :: kvP ps from rfl, valV_neg (by simpa using c), ih]
      simp [c, Ne.symm c, eq_comm]
theorem good_snoc {ps : List Pr} {p : Pr} (h : Good ps) (c : ok1 (kvP ps) p = true) : Good (ps ++ [p]) := by
  unfold ok1 at c
  rw [Bool.and_eq_true, Bool.and_eq_true] at c
  obtain ⟨⟨c1, c2⟩, c3⟩ := c
  refine ⟨fun q hq => ?_, ?_⟩
  · rcases List.mem_append.mp hq with hq | hq
    · exact h.1 q hq
    · cases List.mem_singleton.mp hq
      exact ⟨c1, c2⟩
  · rw [List.map_append, List.nodup_append]
    refine ⟨h.2, by simp, fun x hx y hy e => ?_⟩
    subst e
    rw [List.map_singleton, List.mem_singleton] at hy
    subst hy
    have := (valV_kvP p.1 ps).mpr hx
    rw [Option.isNone_iff_eq_none] at c3
    rw [c3] at this
    cases this
theorem good_ok {ps qs : List Pr} {p : Pr} (h : Good (ps ++ p :: qs)) : ok1 (kvP ps) p = true := by
  obtain ⟨h1, h2⟩ := h
  have a := h1 p (List.mem_append_right _ List.mem_cons_self)
  unfold ok1
  rw [a.1, a.2, Bool.true_and, Bool.true_and, Option.isNone_iff_eq_none]
  cases e : valV (kvP ps) (Sum.inr p.1) with
  | none => rfl
  | some v =>
    exfalso
    have m := (valV_kvP p.1 ps).mp (by rw [e]; rfl)
    rw [List.map_append, List.nodup_append] at h2
    exact h2.2.2 _ m _ (by simp) rfl
theorem put_snoc {ps : List Pr} {p : Pr} (c : ok1 (kvP ps) p = true) : putK (kvP ps) (Sum.inr p.1) (V.str p.2) = kvP (ps ++ [p]) := by
  unfold ok1 at c
  rw [Bool.and_eq_true] at c
  rw [putK_new _ (Option.isNone_iff_eq_none.mp c.2)]
  unfold kvP
  rw [List.map_append]
  rfl
end Tb
namespace Tb
open PySem PySem.Spec PyProof.Rows L2
open PySem.W (TotalLe dataLe)
/-! ### the order of the rows -/
def sLt (a b : Str) : Bool := decide (a.cps.toList < b.cps.toList)
theorem sLt_tri {a b : Str} (h1 : sLt a b = false) (h2 : sLt b a = false) : a = b := by
  have h1 : ¬ a.cps.toList < b.cps.toList := of_decide_eq_false h1
  have h2 : ¬ b.cps.toList < a.cps.toList := of_decide_eq_false h2
  have e : a.cps.toList = b.cps.toList := List.le_antisymm (List.not_lt.mp h2) (List.not_lt.mp h1)
  cases a; cases b
  simp only at e
  congr 1
  exact Array.ext' e
theorem lt2 (a b : Pr) : PySem.W.dataLt (enc2 a) (enc2 b) = if a.1 = b.1 then sLt a.2 b.2 else sLt a.1 b.1 := by
  have q : ∀ x y : Str, PyData.eqv (.str x) (.str y) = decide (x = y) := fun x y => by rw [PyData.eqv]; exact Bool.beq_eq_decide_eq x y
  unfold enc2
  rw [PySem.W.dataLt_pair (by simp [PySem.W.alike]) (by simp [PySem.W.alike]), q, q, PySem.W.dataLt_str, PySem.W.dataLt_str]
  by_cases c : a.1 = b.1
  · rw [if_pos (decide_eq_true c), if_pos c]
    by_cases c2 : a.2 = b.2
    · rw [if_pos (decide_eq_true c2), c2]
      exact (decide_eq_false (List.lt_irrefl _)).symm
    · rw [if_neg (by simpa using c2)]
      rfl
  · rw [if_neg (by simpa using c), if_neg c]
    rfl
theorem le2_eq (a b : Pr) : le2 a b = !(if b.1 = a.1 then sLt b.2 a.2 else sLt b.1 a.1) := by
  unfold le2
  rw [PySem.W.dataLe_eq]
  show (!PySem.W.dataLt (enc2 b) (enc2 a)) = _
  rw [lt2]
theorem le1_eq (a b : Str) : le1 a b = !sLt b a := by
  unfold le1
  rw [PySem.W.dataLe_eq]
  show (!PySem.W.dataLt (.str b) (.str a)) = _
  rw [PySem.W.dataLt_str]
  rfl
theorem le2_total : TotalLe le2 := by
  unfold le2 dataLe
  exact PySem.W.sortLe_total _ _ _
theorem le2_anti {a b : Pr} (h1 : le2 a b = true) (h2 : le2 b a = true) : a = b := by
  rw [le2_eq, Bool.not_eq_true'] at h1 h2
  by_cases c : a.1 = b.1
  · rw [if_pos c.symm] at h1
    rw [if_pos c] at h2
    exact Prod.ext c (sLt_tri h2 h1)
  · rw [if_neg (Ne.symm c)] at h1
    rw [if_neg c] at h2
    exact absurd (sLt_tri h2 h1) c
/-- the sorted list is one -/
theorem sort_perm {ps qs : List Pr} (h : ps.Perm qs) : ps.mergeSort le2 = qs.mergeSort le2 := by
  refine List.Perm.eq_of_pairwise (le := fun a b => le2 a b = true) (fun a b _ _ h1 h2 => le2_anti h1 h2) (PySem.W.sort_pairwise le2_total ps) (PySem.W.sort_pairwise le2_total qs) ?_
  exact ((List.mergeSort_perm ps le2).trans h).trans (List.mergeSort_perm qs le2).symm
/-- the first parts of the sorted rows are the sorted first parts -/
theorem sort_keys {ps : List Pr} (h : (ps.map Prod.fst).Nodup) : (ps.mergeSort le2).map Prod.fst = (ps.map Prod.fst).mergeSort le1 := by
  refine PySem.W.sort_maps (r := le2) (s := le1) Prod.fst fun a ha b hb => ?_
  rw [le2_eq, le1_eq]
  by_cases c : b.1 = a.1
  · have e : a = b := by
      have := List.pairwise_map.mp h
      exact Classical.byContradiction fun n => by
        have : ∀ (l : List Pr), l.Pairwise (fun x y => x.1 ≠ y.1) → ∀ x ∈ l, ∀ y ∈ l, x.1 = y.1 → x = y := by
          intro l hl
          induction hl with
          | nil => intro x hx; cases hx
          | cons h1 _ ih =>
            intro x hx y hy e
            rcases List.mem_cons.mp hx with rfl | hx
            · rcases List.mem_cons.mp hy with rfl | hy
              · rfl
              · exact absurd e (h1 y hy)
            · rcases List.mem_cons.mp hy with e2 | hy
              · rw [e2] at e; exact absurd e.symm (h1 x hx)
              · exact ih x hx y hy e
        exact n (this ps (List.pairwise_map.mp h) a ha b hb c.symm)
    rw [if_pos c, e]
    unfold sLt
    rw [decide_eq_false (List.lt_irrefl _), decide_eq_false (List.lt_irrefl _)]
  · rw [if_neg c]
theorem valV_mem {ps : List Pr} (h : (ps.map Prod.fst).Nodup) {p : Pr} (hp : p ∈ ps) : valV (kvP ps) (Sum.inr p.1) = some (.str p.2) := by
  induction ps with
  | nil => cases hp
  | cons q ps ih =>
    rw [List.map_cons, List.nodup_cons] at h
    show valV ((Sum.inr q.1, V.str q.2) :: kvP ps) _ = _
    rcases List.mem_cons.mp hp with rfl | hp
    · rw [valV_pos rfl]
    · rw [valV_neg, ih h.2 hp]
      intro e
      have e2 : q.1 = p.1 := Sum.inr.inj e
      exact h.1 (List.mem_map.mpr ⟨p, hp, e2.symm⟩)
theorem nodup_sort {ps : List Pr} (h : (ps.map Prod.fst).Nodup) : ((ps.mergeSort le2).map Prod.fst).Nodup := ((List.mergeSort_perm ps le2).map Prod.fst).nodup_iff.mpr h
theorem mem_sort {ps : List Pr} {p : Pr} : p ∈ ps.mergeSort le2 ↔ p ∈ ps := List.mem_mergeSort
theorem len_sort {ps : List Pr} : (ps.mergeSort le2).length = ps.length := List.length_mergeSort _
end Tb
namespace Tb
open PySem PySem.Spec PyProof.Rows L2
/-! ### texts by their signs -/
abbrev tl (z : Str) : List Nat := z.cps.toList
theorem len_tl (z : Str) : z.length = (tl z).length := (Array.length_toList).symm
theorem tl_one (c : Nat) : tl ⟨#[c]⟩ = [c] := rfl
theorem tl_app (a b : Str) : tl (a ++ b) = tl a ++ tl b := by
  show (a.cps ++ b.cps).toList = _
  rw [Array.toList_append]
theorem tl_hi (z : Str) (k : Nat) : tl (cutS z none (some (k : Int))) = (tl z).take k := by
  show ((z.cps.toList.drop (HT.sIx z.length 0 none)).take (HT.sIx z.length z.length (some (k : Int)) - HT.sIx z.length 0 none)).toArray.toList = _
  rw [List.toList_toArray, HT.sIx_nat, HT.sIx_none, List.drop_zero, Nat.sub_zero]
  by_cases h : k ≤ z.length
  · rw [Nat.min_eq_left h]
  · have : z.cps.toList.length = z.length := Array.length_toList
    rw [Nat.min_eq_right (by omega), ← this, List.take_length, List.take_of_length_le (by show z.cps.toList.length ≤ k; omega)]
theorem tl_lo (z : Str) (k : Nat) : tl (cutS z (some (k : Int)) none) = (tl z).drop k := by
  show ((z.cps.toList.drop (HT.sIx z.length 0 (some (k : Int)))).take (HT.sIx z.length z.length none - HT.sIx z.length 0 (some (k : Int)))).toArray.toList = _
  have e0 : z.cps.toList.length = z.length := Array.length_toList
  have e1 : HT.sIx z.length 0 (some (k : Int)) = min k z.length := HT.sIx_nat _ _ _
  rw [List.toList_toArray, e1, HT.sIx_none]
  have e2 : z.cps.toList.drop (min k z.length) = z.cps.toList.drop k := by
    by_cases h : k ≤ z.length
    · rw [Nat.min_eq_left h]
    · rw [Nat.min_eq_right (by omega), List.drop_eq_nil_of_le (by omega), List.drop_eq_nil_of_le (by omega)]
  rw [e2, List.take_of_length_le (by rw [List.length_drop]; omega)]
theorem tl_inj {a b : Str} (h : tl a = tl b) : a = b := by
  cases a; cases b
  congr 1
  exact Array.ext' h
def Sg (z : Str) : Prop := ∀ c ∈ tl z, c < 1114112
structure Tx (z : Str) : Prop where
  len : z.length ≤ 100
  sg : Sg z
def Nm (l : List Nat) : Prop := l.length ≤ 12 ∧ (∀ d ∈ l, isIn (letters ++ digits) d = true) ∧ ∃ c, l[0]? = some c ∧ isIn letters c = true
def Ad (l : List Nat) : Prop := 1 ≤ l.length ∧ l.length ≤ 8 ∧ ∀ d ∈ l, isIn digits d = true
theorem isName_iff (t : Str) : isName t = true ↔ Nm (tl t) := by
  have e0 : t.cps.toList.length = t.length := Array.length_toList
  unfold isName made Nm
  rw [Bool.and_eq_true, Bool.and_eq_true, Bool.and_eq_true, List.all_eq_true, decide_eq_true_eq, decide_eq_true_eq, ← Array.getElem?_toList]
  constructor
  · rintro ⟨⟨⟨h1, h2⟩, h3⟩, h4⟩
    refine ⟨by show t.cps.toList.length ≤ 12; omega, h3, ?_⟩
    cases e : t.cps.toList[0]? with
    | none => rw [e] at h4; cases h4
    | some c => rw [e] at h4; exact ⟨c, rfl, h4⟩
  · rintro ⟨h1, h2, c, h3, h4⟩
    have h1 : t.cps.toList.length ≤ 12 := h1
    have h3 : t.cps.toList[0]? = some c := h3
    have := (List.getElem?_eq_some_iff.mp h3).1
    rw [h3]
    exact ⟨⟨⟨by omega, by omega⟩, h2⟩, h4⟩
theorem isAddr_iff (t : Str) : isAddr t = true ↔ Ad (tl t) := by
  have e0 : t.cps.toList.length = t.length := Array.length_toList
  unfold isAddr made Ad
  rw [Bool.and_eq_true, Bool.and_eq_true, List.all_eq_true, decide_eq_true_eq, decide_eq_true_eq]
  constructor
  · rintro ⟨⟨h1, h2⟩, h3⟩
    exact ⟨by show 1 ≤ t.cps.toList.length; omega, by show t.cps.toList.length ≤ 8; omega, h3⟩
  · rintro ⟨h1, h2, h3⟩
    have h1 : 1 ≤ t.cps.toList.length := h1
    have h2 : t.cps.toList.length ≤ 8 := h2
    exact ⟨⟨by omega, by omega⟩, h3⟩
theorem in_lt {s : Str} (hs : (tl s).all (fun c => decide (c < 1114112)) = true) {c : Nat} (h : isIn s c = true) : c < 1114112 :=
  of_decide_eq_true (List.all_eq_true.mp hs c (of_decide_eq_true h))
theorem nm_tx {t : Str} (h : Nm (tl t)) : Tx t :=
  ⟨by rw [len_tl]; have := h.1; omega, fun c hc => in_lt (by decide +kernel) (h.2.1 c hc)⟩
theorem ad_tx {t : Str} (h : Ad (tl t)) : Tx t :=
  ⟨by rw [len_tl]; have := h.2.1; omega, fun c hc => in_lt (by decide +kernel) (h.2.2 c hc)⟩
/-- a sign put in the place -/
def rep (l : List Nat) (s d : Nat) : List Nat := l.take s ++ [d] ++ l.drop (s + 1)
theorem rep_len {l : List Nat} {s d : Nat} (h : s < l.length) : (rep l s d).length = l.length := by
  unfold rep
  rw [List.length_append, List.length_append, List.length_take, List.length_drop, List.length_singleton]
  omega
theorem rep_mem {l : List Nat} {s d e : Nat} (h : e ∈ rep l s d) : e ∈ l ∨ e = d := by
  unfold rep at h
  rcases List.mem_append.mp h with h | h
  · rcases List.mem_append.mp h with h | h
    · exact .inl (List.mem_of_mem_take h)
    · exact .inr (List.mem_singleton.mp h)
  · exact .inl (List.mem_of_mem_drop h)
theorem rep_head {l : List Nat} {s d : Nat} (h : s < l.length) : (rep l s d)[0]? = if s = 0 then some d else l[0]? := by
  unfold rep
  cases s with
  | zero => rfl
  | succ s =>
    cases l with
    | nil => cases h
    | cons a l => rfl
theorem rep_tl (t : Str) (s d : Nat) : tl ((cutS t none (some (s : Int)) ++ ⟨#[d]⟩) ++ cutS t (some ((s : Int) + 1)) none) = rep (tl t) s d := by
  rw [tl_app, tl_app, tl_hi, show ((s : Int) + 1) = ((s + 1 : Nat) : Int) from rfl, tl_lo]
  rfl
theorem nm_rep {l : List Nat} {s d : Nat} (h : Nm l) (hs : s < l.length) (hd : isIn (letters ++ digits) d = true) (h0 : s = 0 → isIn letters d = true) : Nm (rep l s d) := by
  obtain ⟨h1, h2, c, h3, h4⟩ := h
  refine ⟨by rw [rep_len hs]; exact h1, fun e he => ?_, ?_⟩
  · rcases rep_mem he with he | rfl
    · exact h2 e he
    · exact hd
  · rw [rep_head hs]
    by_cases e : s = 0
    · exact ⟨d, by rw [if_pos e], h0 e⟩
    · exact ⟨c, by rw [if_neg e]; exact h3, h4⟩
theorem ad_rep {l : List Nat} {s d : Nat} (h : Ad l) (hs : s < l.length) (hd : isIn digits d = true) : Ad (rep l s d) := by
  obtain ⟨h1, h2, h3⟩ := h
  refine ⟨by rw [rep_len hs]; exact h1, by rw [rep_len hs]; exact h2, fun e he => ?_⟩
  rcases rep_mem he with he | rfl
  · exact h3 e he
  · exact hd
abbrev LD : Str := (("abcdefghijklmnopqrstuvwxyz0123456789" : String) : Str)
theorem ld_len : (LD.length : Int) = 36 := by decide +kernel
theorem ld_any {n c : Nat} (h : LD.cps[n]? = some c) : isIn (letters ++ digits) c = true := by
  have k : ∀ m : Fin 36, isIn (letters ++ digits) (LD.cps[m.val]?.getD 0) = true := by decide +kernel
  have hl : n < 36 := by
    have := (Array.getElem?_eq_some_iff.mp h).1
    have e : LD.cps.size = 36 := by decide +kernel
    omega
  have := k ⟨n, hl⟩
  rw [h] at this
  exact this
theorem ld_lo {n c : Nat} (h : LD.cps[n]? = some c) (hn : n < 26) : isIn letters c = true := by
  have k : ∀ m : Fin 26, isIn letters (LD.cps[m.val]?.getD 0) = true := by decide +kernel
  have := k ⟨n, hn⟩
  rw [h] at this
  exact this
theorem dg_any {n c : Nat} (h : digits.cps[n]? = some c) : isIn digits c = true := decide_eq_true (by
  rw [Array.mem_toList_iff]
  exact Array.mem_of_getElem? h)
theorem dg_len : (digits.length : Int) = 10 := by decide +kernel
theorem at_sign {z : Str} {i : Int} (h : i < z.length) (h0 : 0 ≤ i) : ∃ c, z.cps[i.toNat]? = some c := by
  have : i.toNat < z.cps.size := by
    show i.toNat < z.length
    omega
  exact ⟨_, Array.getElem?_eq_getElem this⟩
theorem nm_app {l m : List Nat} (h : Nm l) (hm : ∀ d ∈ m, isIn (letters ++ digits) d = true) (hl : l.length + m.length ≤ 12) : Nm (l ++ m) := by
  obtain ⟨h1, h2, c, h3, h4⟩ := h
  refine ⟨by rw [List.length_append]; exact hl, fun e he => ?_, c, ?_, h4⟩
  · rcases List.mem_append.mp he with he | he
    · exact h2 e he
    · exact hm e he
  · rw [List.getElem?_append_left (List.getElem?_eq_some_iff.mp h3).1]
    exact h3
theorem nm_take {l : List Nat} (h : Nm l) {k : Nat} (hk : 0 < k) : Nm (l.take k) := by
  obtain ⟨h1, h2, c, h3, h4⟩ := h
  refine ⟨by rw [List.length_take]; omega, fun e he => h2 e (List.mem_of_mem_take he), c, ?_, h4⟩
  rw [List.getElem?_take, if_pos hk]
  exact h3
theorem nm_pos {l : List Nat} (h : Nm l) : 0 < l.length := by
  obtain ⟨_, _, c, h3, _⟩ := h
  exact (List.getElem?_eq_some_iff.mp h3).1
theorem num100 {k : Nat} (h : k < 100) : (tl (Str.ofString (toString (k : Int)))).length ≤ 2 ∧ ∀ d ∈ tl (Str.ofString (toString (k : Int))), isIn (letters ++ digits) d = true := by
  have k1 : ∀ m : Fin 100, (decide ((tl (Str.ofString (toString (m.val : Int)))).length ≤ 2) && (tl (Str.ofString (toString (m.val : Int)))).all (isIn (letters ++ digits))) = true := by decide +kernel
  have := k1 ⟨k, h⟩
  rw [Bool.and_eq_true, List.all_eq_true] at this
  exact ⟨of_decide_eq_true this.1, this.2⟩
end Tb
namespace Tb
open PySem PySem.Spec PyProof.Rows L2
abbrev NF8 : List Str := ["bag", "known", "letters", "text", "spot", "sign", "size", "k", "base"]
theorem dp_strs {K : PySem.W.Frag} {H : Hp} : ∀ ks : List Str, DpAll K H (ks.map V.str) (ks.map PyData.str)
  | [] => .nil
  | k :: ks => .cons (.str k) (dp_strs ks)
theorem strOk_sg {z : Str} (h : Sg z) : PySem.PyData.strOk z = true := by
  unfold PySem.PyData.strOk
  rw [Array.all_eq_true']
  intro c hc
  exact decide_eq_true (h c (Array.mem_toList_iff.mpr hc))
theorem lay_strs : ∀ {ks : List Str}, (∀ x ∈ ks, Tx x) → PyData.canLayAll0 (ks.map PyData.str) = true ∧ PyData.depthAll (ks.map PyData.str) ≤ 1
  | [], _ => by simp [PyData.canLayAll0, PyData.depthAll]
  | k :: ks, h => by
    obtain ⟨b1, b2⟩ := lay_strs (ks := ks) fun q hq => h q (List.mem_cons_of_mem _ hq)
    have a1 := strOk_sg (h k List.mem_cons_self).sg
    refine ⟨?_, ?_⟩
    · simp only [List.map_cons, PyData.canLayAll0, PyData.canLay0, a1, b1, Bool.and_true]
    · simp only [List.map_cons, PyData.depthAll, PyData.depth]
      omega
theorem shaped_strs {ks : List Str} (h : ∀ x ∈ ks, Tx x) : SeqAt.shaped (.list (ks.map PyData.str)) = true := by
  obtain ⟨h1, h2⟩ := lay_strs h
  show (PyData.canLay0 (.list (ks.map PyData.str)) && decide (PyData.depth (.list (ks.map PyData.str)) ≤ 64)) = true
  rw [Bool.and_eq_true]
  refine ⟨by simp only [PyData.canLay0]; exact h1, decide_eq_true ?_⟩
  simp only [PyData.depth]
  omega
theorem eqv_nil {ds : List PyData} : PyData.eqv (.list ds) (.list []) = ds.isEmpty := by
  cases ds <;> simp [PyData.eqv, PyData.eqvAll]
theorem flat_strs (ks : List Str) : (ks.map V.str).all flatV = true := by
  rw [List.all_map, List.all_eq_true]
  exact fun _ _ => rfl
theorem ifS_via {tc : TT} {t u : TS} {D : Ends} {σ : L2.St} {H : Hp} (R : Bool → Hp → Prop) (h : ∀ Q : Bool → Hp → Prop, (∀ b H1, R b H1 → Q b H1) → tc σ H Q) (k : ∀ b H1, R b H1 → (if b = true then t D σ H1 else u D σ H1)) : tIfS tc t u D σ H := h _ k
theorem at_nat {α : Type} {xs : List α} {i : Int} {v : α} (h0 : 0 ≤ i) (h : xs[i.toNat]? = some v) : atI xs i = some v := by
  have e : i = (i.toNat : Int) := by omega
  rw [e]
  exact atI_nat h
theorem pick {ks : List Str} {i : Int} (h0 : 0 ≤ i) (h1 : i < ((ks.map V.str).length : Int)) : ∃ x ∈ ks, atI (ks.map V.str) i = some (V.str x) := by
  rw [List.length_map] at h1
  have hl : i.toNat < ks.length := by omega
  refine ⟨ks[i.toNat], List.getElem_mem hl, at_nat h0 ?_⟩
  rw [List.getElem?_map, List.getElem?_eq_getElem hl]
  rfl
theorem app_len (a b : Str) : (a ++ b).length = a.length + b.length := by
  rw [len_tl, tl_app, List.length_append, ← len_tl, ← len_tl]
theorem one_len (c : Nat) : (⟨#[c]⟩ : Str).length = 1 := rfl
theorem cut_le (z : Str) (lo hi : Option Int) : (cutS z lo hi).length ≤ z.length := cutS_length z lo hi
def numT (k : Nat) : Str := Str.ofString (toString (k : Int))
theorem num_inj : ((List.range 99).map numT).Nodup := by decide +kernel
theorem sub_len {α : Type} [DecidableEq α] : ∀ (l D : List α), l.Nodup → (∀ x ∈ l, x ∈ D) → l.length ≤ D.length
  | [], _, _, _ => Nat.zero_le _
  | x :: l, D, hn, hs => by
    obtain ⟨h1, h2⟩ := List.nodup_cons.mp hn
    have hx := hs x List.mem_cons_self
    have ih := sub_len l (D.erase x) h2 fun y hy => (List.mem_erase_of_ne fun e => h1 (by rw [← e]; exact hy)).mpr (hs y (List.mem_cons_of_mem _ hy))
    have e := List.length_erase_of_mem hx
    have hp := List.length_pos_of_mem hx
    simp only [List.length_cons]
    omega
theorem app_inj {a b c : Str} (h : a ++ b = a ++ c) : b = c := by
  have e : tl (a ++ b) = tl (a ++ c) := by rw [h]
  rw [tl_app, tl_app] at e
  exact tl_inj (List.append_cancel_left e)
/-- ninety-nine texts on one base -/
theorem pigeon (bs : Str) (ks : List Str) (h : ∀ j, j < 99 → bs ++ numT j ∈ ks) : 99 ≤ ks.length := by
  have nd : (((List.range 99).map numT).map fun x => bs ++ x).Nodup := List.pairwise_map.mpr (List.Pairwise.imp (fun hne e => hne (app_inj e)) num_inj)
  have q := sub_len _ ks nd fun x hx => by
    rw [List.map_map] at hx
    obtain ⟨j, hj, rfl⟩ := List.mem_map.mp hx
    exact h j (List.mem_range.mp hj)
  rw [List.length_map, List.length_map, List.length_range] at q
  exact q
theorem inV_str {z : Str} {ks : List Str} (h : z ∈ ks) : inV (.str z) (ks.map V.str) = true := by
  unfold inV
  rw [List.any_map, List.any_eq_true]
  exact ⟨z, h, by show (z == z) = true; exact beq_self_eq_true z⟩
theorem str_inV {z : Str} {ks : List Str} (h : inV (.str z) (ks.map V.str) = true) : z ∈ ks := by
  unfold inV at h
  rw [List.any_map, List.any_eq_true] at h
  obtain ⟨x, hx, e⟩ := h
  have e2 : (z == x) = true ∨ (x == z) = true := by first | exact .inl e | exact .inr e
  rcases e2 with e2 | e2
  · rw [eq_of_beq e2]; exact hx
  · rw [← eq_of_beq e2]; exact hx
section
variable {P : Program} {w : World} {K : PySem.W.Frag} {mg : Str → Option Value} {base : Heap}
end
end Tb
namespace Tb
open PySem PySem.Spec PyProof.Rows L2
open PySem.W (EachIs)
/-- a def of the text and what it promises -/
structure C1 (P : Program) (w : World) (K : PySem.W.Frag) (mg : Str → Option Value) (base : Heap) (x : Str) (st : Stmt) (ps : List Str) (l : Nat) (sp : Sp) (g : Addr) (gd : FuncData) : Prop where
  D : Dd K mg x st ps g gd
  G : FnOk P w K mg base CX0 l g gd ps sp
theorem each_map_eq {α β : Type} {g : α → β} : ∀ {bs : List β} {M : List α}, EachIs (fun b u => b = g u) bs M → bs = M.map g
  | _, _, .nil => rfl
  | _, _, .cons h t => by rw [h, each_map_eq t]; rfl
theorem each_map_of {α β : Type} (g : α → β) : ∀ M : List α, EachIs (fun b u => b = g u) (M.map g) M
  | [] => .nil
  | _ :: M => .cons rfl (each_map_of g M)
theorem perm_map {α β : Type} {g : α → β} {cs : List β} {M : List α} (p : cs.Perm (M.map g)) : ∃ N : List α, N.Perm M ∧ cs = N.map g := by
  obtain ⟨N, h1, h2⟩ := SH.each_perm p.symm (each_map_of g M)
  exact ⟨N, h1, each_map_eq h2⟩
end Tb
namespace Tb
open PySem PySem.Spec PyProof.Rows L2
open PySem.W (EachIs AllAlike Sortable dataLe)
/-! ### sorted(d), d a dict whose keys are tuples of whole numbers and texts -/
def encI : Key → PyData
  | .inl i => .int i
  | .inr x => .str x
def encT (k : List Key) : PyData := .tuple (k.map encI)
theorem reads_items {h : Heap} : ∀ {k : List Key} {us : List Value}, Vals (k.map kV) us → ReadsAll h us (k.map encI) []
  | [], _, r => by cases r; exact .nil
  | x :: k, _, r => by
    cases r with
    | cons r1 r2 =>
      have t := reads_items (h := h) r2
      refine .cons (as := []) ?_ t
      cases x with
      | inl i =>
        obtain ⟨t, rfl⟩ := r1
        exact .int i t
      | inr z =>
        obtain ⟨t, rfl⟩ := r1
        exact .str z t
theorem reads_key {X : Cx} {pins : List (Addr × Obj)} {σ : L2.St} {H : Hp} {s : Shared} {q : Addr} {k : List Key} (I : Inv X pins σ H s) (e : H q = some (.tup (k.map kV))) : Reads s.heap (.ref q) (encT k) [] := by
  obtain ⟨its, r, ⟨o, e1, e2, n, e3⟩, _⟩ := I.tuple (.of e : SqT X.K H q (k.map kV))
  exact .tuple e1 e2 e3 (by rw [List.toList_toArray]; exact reads_items r)
def rSortDT : List V → Hp → VK → Prop := fun xs H Q => ∃ (d : Addr) (kvs : List (List Key × V)), xs = [.ref d] ∧ Rd H d (.dT kvs) ∧ kvs.length ≤ 1000 ∧ AllAlike (kvs.map fun kv => encT kv.1) ∧ Sortable (kvs.map fun kv => encT kv.1) ∧ (∀ kv ∈ kvs, (encT kv.1).depth ≤ 10) ∧
  ∀ (p : Addr) (bs : List (Addr × List Key)), H p = none → bs.map Prod.snd = (kvs.map Prod.fst).mergeSort (dataLe false encT) → (∀ b ∈ bs, H b.1 = some (.tup (b.2.map kV))) → Q (.ref p) (upd H p (.lst (bs.map fun b => V.ref b.1)))
theorem enc_snd (bs : List (Addr × List Key)) : bs.map (fun b => encT b.2) = (bs.map Prod.snd).map encT := by
  rw [List.map_map]
  rfl
theorem sort_snd {bs : List (Addr × List Key)} : (bs.mergeSort (dataLe false fun b => encT b.2)).map Prod.snd = (bs.map Prod.snd).mergeSort (dataLe false encT) := by
  rw [List.map_mergeSort]
  intro a _ b _
  rfl
abbrev KTx (H : Hp) (kvs : List (List Key × V)) (ks : List (List Key × Addr × Value)) : Prop := Paired (fun (p : List Key × V) (q : List Key × Addr × Value) => p.1 = q.1 ∧ H q.2.1 = some (.tup (p.1.map kV)) ∧ RelV p.2 q.2.2) kvs ks
theorem kt_keys {H : Hp} : ∀ {kvs : List (List Key × V)} {ks : List (List Key × Addr × Value)}, KTx H kvs ks → ks.map (fun x => x.1) = kvs.map Prod.fst
  | _, _, .nil => rfl
  | _, _, .cons h t => by rw [List.map_cons, List.map_cons, kt_keys t, h.1]
theorem kt_at {H : Hp} : ∀ {kvs : List (List Key × V)} {ks : List (List Key × Addr × Value)}, KTx H kvs ks → ∀ x ∈ ks, H x.2.1 = some (.tup (x.1.map kV))
  | _, _, .nil, _, h => by cases h
  | _, _, .cons h t, x, hx => by
    rcases List.mem_cons.mp hx with rfl | hx
    · rw [← h.1]; exact h.2.1
    · exact kt_at t x hx
section
variable {X : Cx}
theorem cr_sortedDT (hcalm : X.calm = true) (hu : X.A.units + 64 < cLine) : CallR X (.builtin "sorted") rSortDT := by
  intro pins s σ H xs us Q I r q
  obtain ⟨d, kvs, rfl, hd, hln, al, so, dp, q⟩ := q
  obtain ⟨u, rfl, rx⟩ := vals1 r
  cases rx
  obtain ⟨z, hs, ks, pr, o, es, ep, ho, hx, hdt, he, hn⟩ := (show ObjOk X.prog X.w H s.heap d (.dT kvs) from hd.ok I.hok)
  have hline : sizeLine = 16777216 := rfl
  have l1 : es.size = ks.length := size_of_entries he
  have l2 : kvs.length = ks.length := Paired.length pr
  refine Calls.call_function_entry PyProof.Rows.kind_sorted PyProof.Rows.plain_sorted PyProof.Rows.entry_sorted (PyProof.Rows.args_sorted1 _) ?_
  unfold Builtin.«sorted»
  refine wpAny_bind (m := checkCount "sorted" 1 1 _) (wpAny_pure ?_)
  refine wpAny_bind (PySem.W.kdu_collect (A := X.A.in1) (kdl_raw hs hx hdt) (I.ok.hd hcalm) ho (by omega) fun h' tk acc hk hacc => ?_)
  have hal : acc.toList.length = ks.length := by rw [Array.length_toList, hacc.1, l1]
  -- the keys' places
  let bs : List (Addr × List Key) := ks.map fun x => (x.2.1, x.1)
  have hbs : bs.map Prod.snd = kvs.map Prod.fst := by
    show (ks.map fun x => (x.2.1, x.1)).map Prod.snd = _
    rw [List.map_map]
    exact kt_keys pr
  have hat : ∀ b ∈ bs, H b.1 = some (.tup (b.2.map kV)) := fun b hb => by
    obtain ⟨x, hx, rfl⟩ := List.mem_map.mp hb
    exact kt_at pr x hx
  have ea : acc.toList = bs.map fun b => Value.ref b.1 := by
    refine List.ext_getElem? fun j => ?_
    show _ = ((ks.map fun x => (x.2.1, x.1)).map fun b => Value.ref b.1)[j]?
    rw [List.getElem?_map, List.getElem?_map]
    cases hj : acc.toList[j]? with
    | none => rw [List.getElem?_eq_none (by have := List.getElem?_eq_none_iff.mp hj; omega)]; rfl
    | some v =>
      obtain ⟨en, hen, hv⟩ := hacc.2 j v (by rw [← Array.getElem?_toList]; exact hj)
      have qe := entry_at he j
      rw [hen] at qe
      cases hb : ks[j]? with
      | none => rw [hb] at qe; cases qe
      | some b =>
        rw [hb] at qe
        rw [hv, show en = _ from Option.some.inj qe]
        rfl
  have each : EachIs (fun (v : Value) (b : Addr × List Key) => v = .ref b.1) acc.toList bs := by
    rw [ea]
    clear_value bs
    clear ea hat hbs
    induction bs with
    | nil => exact .nil
    | cons b bs ih => exact .cons rfl ih
  have I1 : Inv X pins σ H { s with heap := h', toks := tk } := I.kept hk
  refine wpAny_bind (wpAny_newList ?_ (by rw [hal]; omega))
  have hoL : (h'.push (seqObj "list" acc.toList.toArray 0)).get? h'.objs.size = some (seqObj "list" acc.toList.toArray 0) := Heap.get?_push_size _ rfl
  show wpAny _ _ _ _ _ { s with heap := h'.push (seqObj "list" acc.toList.toArray 0), toks := tk }
  have I2 : Inv X pins σ H { s with heap := h'.push (seqObj "list" acc.toList.toArray 0), toks := tk } := I1.kept (t' := tk) fun b ob e => Heap.get?_push_of_some _ e
  have emap : bs.map (fun b => encT b.2) = kvs.map fun kv => encT kv.1 := by
    have e1 : bs.map (fun b => encT b.2) = (bs.map Prod.snd).map encT := enc_snd bs
    rw [e1, hbs, List.map_map]
    rfl
  have lb : bs.length = ks.length := List.length_map _
  refine wpAny_bind (wpAny_holding (PySem.W.list_sort_data (enc := fun b : Addr × List Key => encT b.2) (s := { s with heap := h'.push (seqObj "list" acc.toList.toArray 0), toks := tk }) hoL each (each_imp each fun v b hb e => ⟨[], by rw [e]; exact reads_key I2 (hat b hb), List.not_mem_nil⟩) (by rw [emap]; exact al) (by rw [emap]; exact so) (by omega) ?k4 fun out ho eo => ?_))
  case k4 =>
    intro b hb
    have h1 : (encT b.2).depth ≤ 10 := by
      have : encT b.2 ∈ kvs.map fun kv => encT kv.1 := by rw [← emap]; exact List.mem_map.mpr ⟨b, hb, rfl⟩
      obtain ⟨kv, hkv, e⟩ := List.mem_map.mp this
      rw [← e]
      exact dp kv hkv
    have h2 : X.A.in1.units = X.A.units + 1 := rfl
    omega
  obtain ⟨ep', he'⟩ := PyProof.Rows.sortedHeap_at (vs := acc.toList) (out := out.toArray) hoL
  let ms := bs.mergeSort (dataLe false fun b : Addr × List Key => encT b.2)
  have hlen : (ms.map fun b => V.ref b.1).length ≤ sizeLine := by
    rw [List.length_map, List.length_mergeSort]
    omega
  have ev : Vals (ms.map fun b => V.ref b.1) out := by
    show Vals ((bs.mergeSort (dataLe false fun b : Addr × List Key => encT b.2)).map fun b => V.ref b.1) out
    generalize bs.mergeSort (dataLe false fun b : Addr × List Key => encT b.2) = zs at eo
    clear ho he' hlen
    induction eo with
    | nil => exact .nil
    | cons h _ ih => exact .cons (by rw [h]; rfl) ih
  have hnew : H h'.objs.size = none := I1.hok.fresh (Nat.le_refl _)
  refine wpAny_pure ⟨_, rfl, .ref h'.objs.size, upd H h'.objs.size (.lst (ms.map fun b => V.ref b.1)), I1.laid (t' := tk) (fun b o e => ?_) (Nat.le_refl _) ⟨hlen, out, ep', ev, he'⟩, rfl, q _ ms hnew (by rw [sort_snd, hbs]) fun b hb => hat b (List.mem_mergeSort.mp hb)⟩
  have hb : b < h'.objs.size := Heap.lt_size e
  rw [PyProof.Rows.sortedHeap_old (Nat.ne_of_lt hb) (by rw [size_push']; exact Nat.lt_succ_of_lt hb)]
  exact Heap.get?_push_of_some _ e
end
end Tb
namespace Tb
open PySem PySem.Spec PyProof.Rows L2
/-! ### {k: v for target in iter}, the keys tuples of whole numbers and texts -/
theorem put_dT {X : Cx} {pins : List (Addr × Obj)} {σ : L2.St} {H : Hp} {s : Shared} {E : Value → Shared → Prop} {D b : Addr} {kvs : List (List Key × V)} {k : List Key} {v : V} {r : Value} {Q : Unit → Shared → Prop}
    (hu : X.A.units + 1 < cLine) (I : Inv X pins σ H s) (hD : H D = some (.dT kvs)) (hb : H b = some (.tup (k.map kV))) (hz : kvs.length < sizeLine) (rv : RelV v r)
    (q : ∀ s2, Inv X pins σ (upd H D (.dT (putK kvs k v))) s2 → Q () s2) : wpAny (model X.prog X.w) X.A (dictSet D (.ref b) r) Q E s := by
  obtain ⟨_, lo, xs, kt, dd⟩ := dt_of I.hok hD
  have n1 : xs.length ≤ sizeLine := by have := Paired.length kt; omega
  have n2 : (putK kvs k v).length ≤ sizeLine := by have := length_putK kvs k v; omega
  refine wpAny_dictSet_heap (hsz := n1) (show X.A.units < cLine by omega) (key_of I.hok hb) dd fun g dg un => q _ ?_
  obtain ⟨od, es, ep, a1, a2, a3, a4, _, a5⟩ := dg
  refine d_write I (by rw [hD]; exact True.intro) un ⟨od, a1⟩ ⟨n2, lo, _, (kt.put k hb rv).keeps fun c ys ec => ?_, od, es, ep, a1, a2, a3, a4, a5⟩
  rw [upd_ne fun z => by rw [z, hD] at ec; cases ec]
  exact ec
section
variable {X : Cx}
/-- D is the new dict; the key stands as a tuple when it is stored -/
def tDcT (wi : TI) (g : TG) (tk tv : TE) (vs : List Nat) : TE := fun σ H Q => wi σ H fun J H1 => ∀ D, H1 D = none → ∃ W : Nat → Nat → Hp → Prop, (∃ m, W 0 m (upd H1 D (.dT []))) ∧ ∀ i m G, W i m G →
  (J.stop i G ∧ Q (.ref D) G) ∨ (J.go i G ∧ ∃ Nx : Hp → Prop, (∀ G', Nx G' → ∃ m', m' < m ∧ W (i + 1) m' G') ∧ ∀ x G', J.yld i G x G' → g x (wipe σ vs) G' fun σ2 G2 => wipe σ2 vs = wipe σ vs ∧
    tk σ2 G2 fun y G3 => tv σ2 G3 fun z G4 => ∃ kvs k b, y = .ref b ∧ G4 b = some (.tup (k.map kV)) ∧ G4 D = some (.dT kvs) ∧ kvs.length < sizeLine ∧ Nx (upd G4 D (.dT (putK kvs k z))))
theorem pe_dcT {kx vx tg iter : Expr} {scope : Scope} {own : List (Str × Nat)} {pos : Pos} {wi : TI} {g : TG} {tk tv : TE} (calm : X.calm = true) (hu : X.A.units + 1 < cLine) (nd : X.N.Nodup) (src : PI X tg iter wi) (blk : BlkOk X.N X.env.scope scope own)
    (G1 : ∀ (s : Shared) (H : Hp) (C : Addr) (cl : List (Str × Addr)) (fp : List Addr), PG (X.blk s H scope (compEnvC scope cl C X.env) fp) tg g)
    (K1 : ∀ (s : Shared) (H : Hp) (C : Addr) (cl : List (Str × Addr)) (fp : List Addr), PE (X.blk s H scope (compEnvC scope cl C X.env) fp) kx tk)
    (V1 : ∀ (s : Shared) (H : Hp) (C : Addr) (cl : List (Str × Addr)) (fp : List Addr), PE (X.blk s H scope (compEnvC scope cl C X.env) fp) vx tv)
    (fold : ∀ x, foldedSetIterable iter X.env x = pure x := by intro _; rfl) :
    PE X (.DictComp kx vx [⟨tg, iter, [], 0⟩] scope pos) (tDcT wi g tk tv (own.map (·.2))) := by
  refine ⟨fun pins s σ H Q I w0 => ?_⟩
  rw [arm_eval_DictComp]
  let vs := own.map (·.2)
  have cells : ∀ y ∈ scope.names, y.2 = .free → ∃ c, X.env.cells.lookup y.1 = some c := fun y m e => (blk.free y m e).elim (fun k => I.ok.has _ (.inl k)) fun k => I.ok.has _ (.inr k)
  refine wpAny_comprehension_free rfl fold (closure_ok cells) blk.kind (fun y m e => by rw [blk.uniq y m, e]) (thn (src.run pins s σ H _ I w0) fun xv t1 a1 => thn a1 fun iv t2 a2 => ?_)
  obtain ⟨it, fp, tn, J, H2, rfl, I2, T, r2, f2, walk⟩ := a2
  refine wpAny_newObj_type (newEnv_comp ?_)
  -- the new dict stands at the end of the heap
  obtain ⟨D, eD⟩ : ∃ D, D = t2.heap.objs.size := ⟨_, rfl⟩
  have nD : H2 D = none := I2.hok.fresh (Nat.le_of_eq eD.symm)
  obtain ⟨W, ⟨m0, w2⟩, turn⟩ := walk D nD
  obtain ⟨t3, e3⟩ : ∃ t3 : Shared, t3 = { t2 with heap := t2.heap.push { cls := .type "dict", data := .dict #[] } } := ⟨_, rfl⟩
  have p3 : ∀ b o, t2.heap.get? b = some o → t3.heap.get? b = some o := fun b o e => by rw [e3]; exact Heap.get?_push_of_some _ e
  have I3 : Inv X pins σ (upd H2 D (.dT [])) t3 := by
    rw [e3]
    refine I2.laid (t' := t2.toks) (fun b o e => Heap.get?_push_of_some _ e) (Nat.le_of_eq eD.symm) ?_
    rw [eD]
    exact dt_empty t2.heap I2.big
  have low : ∀ b ∈ fp, b < t2.heap.objs.size := fun b m => let ⟨o, e, _⟩ := T.obj _ _ r2 b m; Heap.lt_size e
  have f3 : ∀ b ∈ fp, FpOk X pins (upd H2 D (.dT [])) b ∧ b < t3.heap.objs.size := fun b m => by
    have lt := low b m
    refine ⟨⟨?_, (f2 b m).2⟩, by rw [e3]; show b < (t2.heap.push _).objs.size; rw [Heap.size_push]; exact Nat.lt_succ_of_lt lt⟩
    rw [upd_ne (by rw [eD]; exact Nat.ne_of_lt lt)]
    exact (f2 b m).1
  have r3 : tn 0 t3.heap := T.keep _ _ _ r2 fun b _ o e => p3 b o e
  have I4 := block_start I3 blk nd f3
  obtain ⟨cs, ecs⟩ : ∃ cs, cs = cellsFrom (t3.heap.objs.size + 1) scope.names (cloFrom X.env.cells scope.names []) := ⟨_, rfl⟩
  obtain ⟨ce, ece⟩ : ∃ ce, ce = compEnvC scope cs t3.heap.objs.size X.env := ⟨_, rfl⟩
  have cL : ce.locals = t3.heap.objs.size := by rw [ece]; rfl
  obtain ⟨t4, e4⟩ : ∃ t4 : Shared, t4 = { t3 with heap := pushCells (t3.heap.push { cls := .type "dict", data := .dict #[] }) scope.names } := ⟨_, rfl⟩
  rw [← ecs, ← ece, ← e4] at I4
  have pg : PG (X.blk t3 (upd H2 D (.dT [])) scope ce fp) tg g := by rw [ece]; exact G1 ..
  have pk : PE (X.blk t3 (upd H2 D (.dT [])) scope ce fp) kx tk := by rw [ece]; exact K1 ..
  have pe : PE (X.blk t3 (upd H2 D (.dT [])) scope ce fp) vx tv := by rw [ece]; exact V1 ..
  generalize eH3 : upd H2 D (.dT []) = H3 at I3 I4 pg pk pe w2 f3
  have r4 : tn 0 t4.heap := T.keep _ _ _ r3 fun b _ o e => by rw [e4]; exact pushCells_keeps _ _ _ _ (Heap.get?_push_of_some _ e)
  show codeAny (model X.prog X.w) X.A (.compStart (.DictComp kx vx [⟨tg, iter, [], 0⟩] scope pos) 0 (.ref it) (.ref t2.heap.objs.size) (compEnvC scope (cellsFrom ((t2.heap.push { cls := .type "dict", data := .dict #[] }).objs.size + 1) scope.names (cloFrom X.env.cells scope.names [])) (t2.heap.push { cls := .type "dict", data := .dict #[] }).objs.size X.env))
    (compPost (model X.prog X.w) X.A X.xe none (EP X pins σ Q) (.ref t2.heap.objs.size) (t2.heap.push { cls := .type "dict", data := .dict #[] }).objs.size) { t2 with heap := pushCells ((t2.heap.push { cls := .type "dict", data := .dict #[] }).push { cls := .type "dict", data := .dict #[] }) scope.names }
  have h3 : t2.heap.push { cls := .type "dict", data := .dict #[] } = t3.heap := by rw [e3]
  have u4 : t4 = { t2 with heap := pushCells (t3.heap.push { cls := .type "dict", data := .dict #[] }) scope.names } := by rw [e4, e3]
  rw [h3, ← u4, ← ecs, ← ece, ← eD]
  have keepB : ∀ {σ9 : L2.St} {G : Hp} {u : Shared}, Inv (X.blk t3 H3 scope ce fp) [] σ9 G u → (∀ b ∈ fp, G b = none) → ∀ b ∈ fp, FpOk (X.blk t3 H3 scope ce fp) [] G b := fun {σ9 G u} J9 no b m =>
    ⟨no b m, (J9.ok.exf b m).1, J9.ok.exfs b m, .inl m, fun x c e => (J9.ok.exf b m).2 x c e, fun p hp => absurd (show p ∈ ([] : List (Addr × Obj)) ++ [] from hp) (by simp)⟩
  have wl : (wipe σ vs).length = σ.length := wipe_length ..
  have whole : codeAny (model X.prog X.w) X.A (.compLoop (.DictComp kx vx [⟨tg, iter, [], 0⟩] scope pos) 0 (.ref it) (.ref D) ce) (compPost (model X.prog X.w) X.A X.xe none (EP X pins σ Q) (.ref D) t3.heap.objs.size) t4 := by
    refine compLoop_anyD (fun left u => ∃ i G, W i left G ∧ (∀ b ∈ fp, G b = none) ∧ tn i u.heap ∧ Inv (X.blk t3 H3 scope ce fp) [] (wipe σ vs) G u) ?_ m0 ⟨0, H3, w2, fun b m => (f3 b m).1.1, r4, I4⟩
    rintro left u5 ⟨i, G5, wi5, no5, r5, J5⟩
    rcases turn i left G5 wi5 with ⟨stop, last⟩ | ⟨go, Nx, nxt, step⟩
    · refine thnF (T.done (X.blk t3 H3 scope ce fp) rfl rfl rfl calm i [] u5 _ G5 (fun _ _ => False) J5 (keepB J5 no5) r5 stop) fun r u6 ⟨er, J6⟩ => ?_
      subst er
      have back : Inv X pins σ G5 u6 := I3.call' (ch := fp) J6.os J6.base J6.hok J6.bare fun b m => by
        obtain ⟨_, c1, c2, c3, c4, c5⟩ := (f3 b m).1
        exact ⟨c3, c1, c4, c5⟩
      have free : G5 t3.heap.objs.size = none := by
        have z : G5 ce.locals = none := J6.free
        rwa [cL] at z
      obtain ⟨m, ns, _⟩ := J6.loc
      have ns : u6.heap.Ns ce.locals m := ns
      rw [cL] at ns
      refine ⟨m, ns, fun g' sb => ?_⟩
      obtain ⟨c0, c1, c2, c3, c4, c5⟩ := I3.fpOk (Nat.le_refl _) free
      exact ⟨.ref D, G5, back.turned (t' := u6.toks) (fun b o ne e => (sb.2 b ne).trans e) c0 c1 c3 c4 c5, rfl, last⟩
    · refine thnF (T.item (X.blk t3 H3 scope ce fp) rfl rfl rfl calm i [] u5 _ G5 (fun _ _ => False) J5 (keepB J5 no5) r5 go) fun r u6 ⟨it1, er, h6⟩ => ?_
      subst er
      refine thnF h6 fun _ u7 ⟨x, G7, J7, rx, yx, r7, no7⟩ => ?_
      refine thnF (pg.run _ u7 _ G7 x it1 _ (J7.pinned (keepB J7 no7) (T.obj _ _ r7)) rx (step x G7 yx)) fun _ u8 ⟨σ8, G8, J8, sw, q8⟩ => ?_
      refine wpAny_pure ?_
      rw [if_pos rfl]
      refine thnF (pk.run _ u8 σ8 G8 _ J8 q8) fun z1 u9 ⟨y1, G9, J9, ry, q9⟩ => ?_
      refine thnF (pe.run _ u9 σ8 G9 _ J9 q9) fun z2 u10 ⟨y2, G10, J10, rz, kvs, k, b, eb, hb, hD, hz, nx⟩ => ?_
      subst eb
      cases ry
      refine put_dT (X := X.blk t3 H3 scope ce fp) hu J10 hD hb hz rz fun u11 J11 => ?_
      obtain ⟨m', lt, wn⟩ := nxt _ nx
      have pinned : ∀ b ∈ fp, ∀ o, u7.heap.get? b = some o → u11.heap.get? b = some o ∧ upd G10 D (.dT (putK kvs k y2)) b = none := fun b m o e =>
        let z := J11.pin (b, o) (List.mem_append_right _ (List.mem_append_right _ (mem_pinsAt m e)))
        ⟨z.1, z.2.1⟩
      have len : (wipe σ vs).length = σ8.length := by rw [← sw, wipe_length]
      refine ⟨m', lt, i + 1, _, wn, fun b m => ?_, T.keep _ _ _ r7 fun b m o e => (pinned b m o e).1, (J11.unpinned (pins := [])).weak len fun j v e => ?_⟩
      · obtain ⟨o, e, _⟩ := T.obj _ _ r7 b m
        exact (pinned b m o e).2
      · rw [← sw] at e
        exact (wipe_some e).1
  exact codeAny_compStart_dict whole (T.self X.A 0 _ _ _ r4 whole)
end
end Tb
namespace Tb
open PySem PySem.Spec PyProof.Rows L2
/-! ### for (a, b), v in d.items(), the keys tuples of whole numbers and texts -/
def ItPr (d : Addr) (o : Obj) (kvs : List (List Key × V)) : It :=
  ⟨fun i H => i < kvs.length ∧ H d = some (.frz o (.dT kvs)),
   fun i H x H' => ∃ (T q : Addr) (k : List Key) (v : V), x = .ref T ∧ kvs[i]? = some (k, v) ∧ H q = some (.tup (k.map kV)) ∧ H T = none ∧ H' = upd H T (.tup [.ref q, v]),
   fun i H => kvs.length ≤ i ∧ H d = some (.frz o (.dT kvs))⟩
section
variable {X : Cx} {pins : List (Addr × Obj)} {σ : L2.St} {H : Hp} {s : Shared} {d : Addr} {o : Obj}
theorem raw_frzT {kvs : List (List Key × V)} (I : Inv X pins σ H s) (h : H d = some (.frz o (.dT kvs))) : (d == sysModules) = false ∧ ∃ (es : Array DictEntry) (ep : Nat), o.data = .dict es ep ∧ DT.Raw s.heap d es ep ∧ es.size = kvs.length ∧ kvs.length ≤ sizeLine ∧
    ∀ (i : Nat) (k : List Key) (v : V), kvs[i]? = some (k, v) → ∃ (q : Addr) (e : DictEntry), es[i]? = some e ∧ e.key = .ref q ∧ H q = some (.tup (k.map kV)) ∧ RelV v e.val := by
  obtain ⟨g, z, ns, ts, pr, o1, es, ep, g1, ex, dat, ents, _⟩ := I.hok d _ h
  rw [g] at g1
  cases g1
  have l1 : es.size = ts.length := size_of_entries ents
  have l2 : kvs.length = ts.length := Paired.length pr
  refine ⟨ns, es, ep, dat, ⟨o, g, ex, dat⟩, by omega, z, fun i k v e => ?_⟩
  obtain ⟨t, et, r1, r2, r3⟩ := paired_get pr e
  have w := entry_at ents i
  rw [et] at w
  exact ⟨t.2.1, _, w, rfl, r2, r3⟩
end
theorem turn_pr {P : Program} {w : World} {K : PySem.W.Frag} {d : Addr} {o : Obj} {es : Array DictEntry} {ep : Nat} {kvs : List (List Key × V)} {elts : List Expr} {n : Nat} {pos : Pos} (it : Addr) (hod : o.data = .dict es ep) :
    Turn P w K (.Tuple elts n pos) (ItPr d o kvs) [it] it (fun i h => ∃ lk lv, IsItemIter h it d i es.size ep lk lv) where
  mem := List.mem_singleton.mpr rfl
  obj := fun i h ⟨lk, lv, st⟩ b m => by
    cases List.mem_singleton.mp m
    exact ⟨_, st, nofun⟩
  keep := fun i h h' ⟨lk, lv, st⟩ k => ⟨lk, lv, k it (List.mem_singleton.mpr rfl) _ st⟩
  item := by
    rintro X rfl rfl rfl calm i pins s σ H E I fp ⟨lk, lv, st⟩ ⟨lt, hd⟩
    obtain ⟨ns, es', ep', dat, raw, sz, zl, ent⟩ := raw_frzT I hd
    obtain ⟨rfl, rfl⟩ := dict_ep hod dat
    obtain ⟨q, e, he, hk, hq, rv⟩ := ent i kvs[i].1 kvs[i].2 (List.getElem?_eq_getElem lt)
    have li : i < es'.size := by omega
    have e2 : es'[i] = e := by
      rw [Array.getElem?_eq_getElem li] at he
      exact Option.some.inj he
    have old : it < s.heap.objs.size := Heap.lt_size st
    refine DT.nextI st raw li fun h1 out tup hz keep => ?_
    rw [e2] at out tup
    rw [hk] at tup
    refine ⟨_, rfl, wpAny_letOwnedTupleGo_items (s := { s with heap := h1 }) out fun h2 st2 sb => ?_⟩
    have t2 : h2.get? s.heap.objs.size = some { cls := .type "tuple", data := .seq #[.ref q, e.val] } := (sb.2 _ (Nat.ne_of_gt old)).trans tup
    have J : Inv X pins σ (upd H s.heap.objs.size (.tup [.ref q, kvs[i].2])) { s with heap := h2 } := by
      refine I.turnedNew (t' := s.toks) (ch := [it]) (fun b ob nb e => (sb.2 b fun z => nb (by rw [z]; exact List.mem_singleton.mpr rfl)).trans (keep b ob (fun z => nb (by rw [z]; exact List.mem_singleton.mpr rfl)) e)) fp (Nat.le_refl _) ?_
      exact ⟨by show 2 ≤ sizeLine; decide, [.ref q, e.val], .cons rfl (.cons rv .nil), ⟨_, t2, rfl, _, rfl⟩⟩
    refine ⟨.ref s.heap.objs.size, _, J, rfl, ⟨_, q, kvs[i].1, kvs[i].2, rfl, List.getElem?_eq_getElem lt, hq, I.hok.fresh (Nat.le_refl _), rfl⟩, ⟨_, _, st2⟩, fun b m => ?_⟩
    cases List.mem_singleton.mp m
    rw [upd_ne (Nat.ne_of_lt old)]
    exact (fp it (List.mem_singleton.mpr rfl)).1
  done := by
    rintro X rfl rfl rfl calm i pins s σ H E I fp ⟨lk, lv, st⟩ ⟨le, hd⟩
    obtain ⟨ns, es', ep', dat, raw, sz, zl, ent⟩ := raw_frzT I hd
    obtain ⟨rfl, rfl⟩ := dict_ep hod dat
    obtain ⟨f0, f1, f2, f3, f4, f5⟩ := fp it (List.mem_singleton.mpr rfl)
    exact DT.endI (I.ok.hd calm) st raw (by omega) fun h1 eb => ⟨rfl, I.turned (t' := s.toks) (fun b ob nb e => eb b ob nb e) f0 f1 f3 f4 f5⟩
  self := fun A i s Q E ⟨_, _, st⟩ h => PySem.W.kcp_self st h
/-- the dict is locked -/
def iPr (td : TE) : TI := fun σ H R => td σ H fun x H1 => ∃ d o kvs, x = .ref d ∧ H1 d = some (.frz o (.dT kvs)) ∧ R (ItPr d o kvs) H1
theorem pi_pr {X : Cx} {e : Expr} {td : TE} {apos cpos tpos : Pos} {elts : List Expr} {n : Nat} (he : PE X e td) (hb : attributeBase e "items" X.env (eval e X.env) = eval e X.env := by rfl) (hl : (apos.endLine == cpos.line) = true := by rfl) :
    PI X (.Tuple elts n tpos) (.Call (.Attribute e "items" apos) [] [] cpos) (iPr td) := by
  refine ⟨fun pins s σ H R I h => ?_⟩
  refine wpAny_Call_method (T := "dict") (id := "dict.items") hb rfl hl F.plainAttrs_dict F.slot_dict_items F.type_dict_items (thn (he.run pins s σ H _ I h) ?_)
  rintro u s1 ⟨x, H1, I1, rx, d, o, kvs, rfl, hd, q⟩
  cases rx
  obtain ⟨ns, es, ep, dat, raw, sz, zl, ent⟩ := raw_frzT I1 hd
  refine ⟨raw.typeIs, fun b eb => ?_, ?_⟩
  · cases eb
    obtain ⟨ob, g, ex, _⟩ := raw
    exact ⟨ob, g, ex.2.1⟩
  have I2 : Inv X pins σ H1 { s1 with heap := s1.heap.push { cls := .type "dict_items", data := .fields #[.ref d] } } := I1.kept (t' := s1.toks) fun b ob q => Heap.get?_push_of_some _ q
  show wpAny _ _ (callWith cpos (.builtin "dict.items") [.ref d] [] []) _ X.xe s1
  refine method_meetsIn F.slot_dict_items F.entry_dict_items rfl (PySem.evalArgs_none ⟨rfl, raw.typeIs, F.args_dict_items_1 _, _, DT.meetsItems (es := es) (ep := ep) ns, raw, ?_⟩)
  refine DT.iterI (es := es) (ep := ep) (d := d) ⟨_, Heap.get?_push_size _ rfl, rfl, rfl⟩ (raw.push _) (pi_one (tk := s1.toks) I2 _ (turn_pr _ dat) ⟨.none, .none, ?_⟩ q)
  exact Heap.get?_push_size _ rfl
end Tb
namespace Tb
open PySem PySem.Spec PyProof.Rows L2
/-! ### sorted(rows), a row a tuple of two texts and a whole number or None; no two rows with the same texts and another end -/
/-- a row: the two texts, the end -/
abbrev Rw := Pr × Option Int
def oI : Option Int → V
  | none => .non
  | some i => .int i
def rwV (r : Rw) : List V := [.str r.1.1, .str r.1.2, oI r.2]
def rowOf (H : Hp) : V → Pr × V
  | .ref a => match H a with
    | some (.tup [.str p, .str l, x]) => ((p, l), x)
    | _ => ((⟨#[]⟩, ⟨#[]⟩), .non)
  | _ => ((⟨#[]⟩, ⟨#[]⟩), .non)
theorem rowOf_at {H : Hp} {a : Addr} {r : Rw} (h : H a = some (.tup (rwV r))) : rowOf H (.ref a) = (r.1, oI r.2) := by
  show (match H a with
    | some (.tup [.str p, .str l, x]) => ((p, l), x)
    | _ => ((⟨#[]⟩, ⟨#[]⟩), .non)) = _
  rw [h]
  rfl
def ltK (k : Value → Pr × V) (v u : Value) : Bool := !le2 (k u).1 (k v).1
theorem ltK_eq (k : Value → Pr × V) (v u : Value) : ltK k v u = if (k v).1.1 = (k u).1.1 then sLt (k v).1.2 (k u).1.2 else sLt (k v).1.1 (k u).1.1 := by
  unfold ltK
  rw [le2_eq, Bool.not_not]
theorem swo_K (k : Value → Pr × V) : SrtO.Swo (ltK k) := by
  refine ⟨fun x y h => ?_, fun x y z h1 h2 => ?_⟩
  · have a : le2 (k y).1 (k x).1 = false := by simpa [ltK] using h
    have b := le2_total.total (k y).1 (k x).1
    rw [a] at b
    simpa [ltK] using b
  · have a : le2 (k x).1 (k y).1 = true := by simpa [ltK] using h1
    have b : le2 (k y).1 (k z).1 = true := by simpa [ltK] using h2
    have c := le2_total.trans _ _ _ a b
    simpa [ltK] using c
/-- v holds the row -/
def IsRw (h : Heap) (v : Value) (k : Pr × V) : Prop := ∃ (a : Addr) (o : Obj) (t1 t2 : Tok) (u : Value) (n : Nat), v = .ref a ∧ h.get? a = some o ∧ o.cls = .type "tuple" ∧ o.data = .seq #[.str k.1.1 t1, .str k.1.2 t2, u] n ∧ RelV k.2 u ∧ (k.2 = .non ∨ ∃ i, k.2 = .int i)
theorem firsts_rw {h : Heap} {k : Value → Pr × V} : ∀ {vs : List Value}, (∀ v ∈ vs, IsRw h v (k v)) → ∃ fs : List Value, PySem.W.KatTups h vs fs ∧ fs.length = vs.length ∧ ∀ f ∈ fs, ∃ x t, f = Value.str x t
  | [], _ => ⟨[], PySem.W.KatTups.nil, rfl, nofun⟩
  | v :: vs, hp => by
    obtain ⟨fs, h1, h2, h3⟩ := firsts_rw (vs := vs) fun u hu => hp u (List.mem_cons_of_mem _ hu)
    obtain ⟨a, o, t1, t2, u, n, e, ho, hc, hd, _⟩ := hp v List.mem_cons_self
    subst e
    refine ⟨_ :: fs, PySem.W.KatTups.cons ho hc hd rfl h1, by rw [List.length_cons, List.length_cons, h2], fun f hf => ?_⟩
    rcases List.mem_cons.mp hf with rfl | hf
    · exact ⟨_, _, rfl⟩
    · exact h3 f hf
section
variable {prog : Program} {w : World} {A : Around} {s : Shared}
theorem cmp_rw {vs : List Value} {k : Value → Pr × V} (hp : ∀ v ∈ vs, IsRw s.heap v (k v)) (one : ∀ v ∈ vs, ∀ u ∈ vs, (k v).1 = (k u).1 → (k v).2 = (k u).2) : SrtO.Cmp prog w A s (tuples' true) (fun p => p.1 ∈ vs) (SrtO.lt2 (ltK k)) := by
  intro p q mp mq
  have o := one _ mp _ mq
  show wpAny _ A _ (fun r s' => s' = s ∧ r = ltK k p.1 q.1) _ s
  rw [ltK_eq]
  obtain ⟨a, oa, t1, t2, u, n, e, ho, hc, hd, ru, fu⟩ := hp _ mp
  obtain ⟨a', oa', t1', t2', u', n', e', ho', hc', hd', ru', fu'⟩ := hp _ mq
  rw [e, e'] at o ⊢
  rw [e] at hd ru fu
  rw [e'] at hd' ru' fu'
  generalize k (.ref a) = x at o hd ru fu ⊢
  generalize k (.ref a') = y at o hd' ru' fu' ⊢
  obtain ⟨⟨x1, x2⟩, x3⟩ := x
  obtain ⟨⟨y1, y2⟩, y3⟩ := y
  dsimp only at o hd ru fu hd' ru' fu' ⊢
  refine PySem.W.kat_lt ho hd ho' hd' ?_
  show PySem.W.KatLex prog w A true (decide (3 < 3)) _ [(.str x1 t1, .str y1 t1'), (.str x2 t2, .str y2 t2'), (u, u')] 0 s
  refine PySem.W.kat_cons (SeqAt.EqAt.str_str x1 t1 y1 t1' prog w _ _ ?_)
  refine PySem.W.kat_go (fun e1 => ?_) (fun e1 => ?_)
  · have c1 : x1 = y1 := by simpa using e1
    rw [if_pos c1]
    refine PySem.W.kat_yes (PySem.W.kat_cons (SeqAt.EqAt.str_str x2 t2 y2 t2' prog w _ _ ?_))
    refine PySem.W.kat_go (fun e2 => ?_) (fun e2 => ?_)
    · have c2 : x2 = y2 := by simpa using e2
      have c3 : x3 = y3 := o (by rw [c1, c2])
      have no : sLt x2 y2 = false := by rw [c2]; exact decide_eq_false (List.lt_irrefl _)
      rw [no]
      subst c3
      have done : PySem.W.KatLex prog w A true (decide (3 < 3)) (fun r s' => s' = s ∧ r = false) [] 3 s := PySem.W.kat_nil ⟨rfl, rfl⟩
      refine PySem.W.kat_yes (PySem.W.kat_cons ?_)
      rcases fu with rfl | ⟨i, rfl⟩
      · cases ru
        cases ru'
        exact SeqAt.EqAt.same _ prog w _ _ (PySem.W.kat_yes done)
      · obtain ⟨t, rfl⟩ := ru
        obtain ⟨t', rfl⟩ := ru'
        refine SeqAt.EqAt.int_int i t i t' prog w _ _ ?_
        refine PySem.W.kat_go (fun _ => PySem.W.kat_yes done) (fun e3 => ?_)
        simp at e3
    · refine PySem.W.kat_no (PySem.W.kat_one _ _ (PyProof.Rows.lt_str ?_))
      exact (show s = s ∧ decide (x2.cps.toList < y2.cps.toList) = sLt x2 y2 from ⟨rfl, rfl⟩)
  · have c1 : ¬ x1 = y1 := by simpa using e1
    rw [if_neg c1]
    exact PySem.W.kat_no (oneLt_str ⟨rfl, rfl⟩)
theorem sortable_rw {a : Addr} {vs : List Value} {k : Value → Pr × V} (h0 : 0 < vs.length) (hp : ∀ v ∈ vs, IsRw s.heap v (k v)) (one : ∀ v ∈ vs, ∀ u ∈ vs, (k v).1 = (k u).1 → (k v).2 = (k u).2) (ha : ∀ o, s.heap.get? a = some o → o.cls ≠ .type "tuple") : SrtO.SortableO prog w A s a vs (ltK k) := by
  intro h' keep
  have hp' : ∀ v ∈ vs, IsRw h' v (k v) := fun v hm => by
    obtain ⟨b, o, t1, t2, u, n, e, ho, hc, r⟩ := hp v hm
    exact ⟨b, o, t1, t2, u, n, e, keep b o (fun z => by subst z; exact ha o ho hc) ho, hc, r⟩
  obtain ⟨fs, h1, h2, h3⟩ := firsts_rw hp'
  refine ⟨tuples' true, fun Q E hq => ?_, cmp_rw (s := { s with heap := h' }) hp' one⟩
  refine PySem.W.kat_kind (T := .type "str") h1 (by omega) (fun f hm => ?_) (by rfl) ?_
  · obtain ⟨x, t, rfl⟩ := h3 f hm
    exact PySem.W.Looks.now
  · have e : (Value.type "str" != Value.type "tuple") = true := by first | decide +kernel | rfl | decide
    rw [e]
    exact hq
end
/-- sorted(rows) -/
def rSortRw (K : PySem.W.Frag) : List V → Hp → VK → Prop := fun vs H Q => ∃ (a : Addr) (bs : List (Addr × Rw)), vs = [.ref a] ∧ SqL K H a (bs.map fun b => V.ref b.1) ∧ (∀ b ∈ bs, H b.1 = some (.tup (rwV b.2))) ∧ (∀ b ∈ bs, ∀ c ∈ bs, b.2.1 = c.2.1 → b.2 = c.2) ∧
  ∀ (p : Addr) (cs : List (Addr × Rw)), H p = none → cs.Perm bs → cs.Pairwise (fun b c => le2 b.2.1 c.2.1 = true) → Q (.ref p) (upd H p (.lst (cs.map fun b => V.ref b.1)))
theorem oI_end (x : Option Int) : oI x = .non ∨ ∃ i, oI x = .int i := by
  cases x with
  | none => exact .inl rfl
  | some i => exact .inr ⟨i, rfl⟩
theorem cr_sortRw {X : Cx} : CallR X (.builtin "sorted") (rSortRw X.K) := by
  intro pins s σ H vs us Q I r h
  obtain ⟨a, bs, rfl, hs, hb, one, q⟩ := h
  obtain ⟨its, rv, hl, hz⟩ := I.list hs
  obtain ⟨u, rfl, ru⟩ := vals1 r
  cases ru
  obtain ⟨e1, e2⟩ := refs_back rv fun x m => by
    obtain ⟨b, _, rfl⟩ := List.mem_map.mp m
    exact ⟨b.1, rfl⟩
  have from_ : ∀ v ∈ its, ∃ b ∈ bs, v = .ref b.1 := fun v hv => by
    obtain ⟨t, rfl⟩ := e2 v hv
    have hm : V.ref t ∈ bs.map fun b => V.ref b.1 := by rw [e1]; exact List.mem_map.mpr ⟨_, hv, rfl⟩
    obtain ⟨b, hb', e⟩ := List.mem_map.mp hm
    exact ⟨b, hb', by rw [show b.1 = t from V.ref.inj e]⟩
  have kk : ∀ b ∈ bs, rowOf H (backV (.ref b.1)) = (b.2.1, oI b.2.2) := fun b m => rowOf_at (hb b m)
  have lz : its.length ≤ sizeLine := by rw [← rv.length]; exact hz
  refine SrtO.sorted_ord (swo_K fun v => rowOf H (backV v)) hl.isList lz (fun h2 h₁ a1 ha1 keep => ?_) fun out hs' hb' => ?_
  · refine sortable_rw (s := { s with heap := h₁ }) (k := fun v => rowOf H (backV v)) (by omega) (fun v hv => ?_) (fun v hv w hw e => ?_) (fun o e => ?_)
    · obtain ⟨b, m, rfl⟩ := from_ v hv
      obtain ⟨_, its2, r2, o, ho, hc, n, hd⟩ := I.hok _ _ (hb b m)
      show IsRw h₁ (.ref b.1) (rowOf H (backV (.ref b.1)))
      rw [kk b m]
      have r3 : Vals [.str b.2.1.1, .str b.2.1.2, oI b.2.2] its2 := r2
      cases r3 with
      | cons a1 r3 =>
        cases r3 with
        | cons a2 r3 =>
          cases r3 with
          | cons a3 r3 =>
            cases r3
            obtain ⟨t1, rfl⟩ := a1
            obtain ⟨t2, rfl⟩ := a2
            exact ⟨b.1, o, t1, t2, _, n, rfl, (keep _ _ ho).2, hc, hd, a3, oI_end _⟩
    · obtain ⟨b, m, rfl⟩ := from_ v hv
      obtain ⟨c, m', rfl⟩ := from_ w hw
      have z := e
      rw [kk b m, kk c m'] at z ⊢
      rw [one b m c m' z]
    · have e' : some o = some (seqObj "list" its.toArray 0) := e.symm.trans ha1
      cases e'
      intro c
      exact absurd (Value.type.inj c) (by decide)
  · have h3 : ∀ u ∈ out, ∃ a, u = Value.ref a := fun u hu => e2 u (hb'.perm.mem_iff.mp hu)
    have pm : (out.map backV).Perm (bs.map fun b => V.ref b.1) := by rw [e1]; exact hb'.perm.map backV
    obtain ⟨cs, pc, ec⟩ := perm_map pm
    have new : H (s.heap.objs.size + 1) = none := I.hok.fresh (Nat.le_succ _)
    obtain ⟨n, hn⟩ := sortedAll_at s.heap its out.toArray
    refine ⟨.ref (s.heap.objs.size + 1), upd H (s.heap.objs.size + 1) (.lst (out.map backV)), I.laid (t' := s.toks) (fun b o e => sortedAll_old e) (Nat.le_succ _) ⟨?_, out, n, vals_back h3, hn⟩, rfl, ?_⟩
    · rw [ec, List.length_map, pc.length_eq]
      rw [List.length_map] at hz
      exact hz
    · rw [ec]
      refine q _ cs new pc ?_
      have w1 : (out.map backV).Pairwise (fun x y => le2 (rowOf H x).1 (rowOf H y).1 = true) := by
        rw [List.pairwise_map]
        refine hs'.imp fun {x y} h => ?_
        simpa [ltK] using h
      rw [ec, List.pairwise_map] at w1
      refine w1.imp_of_mem fun {x y} mx my h => ?_
      rw [show rowOf H (V.ref x.1) = _ from rowOf_at (hb x (pc.mem_iff.mp mx)), show rowOf H (V.ref y.1) = _ from rowOf_at (hb y (pc.mem_iff.mp my))] at h
      exact h
end Tb
namespace Tb
open PySem PySem.Spec PyProof.Rows L2
theorem cut_hi (xs : List V) (k : Nat) : cutV xs none (some (k : Int)) = xs.take k := by
  unfold cutV
  rw [HT.sIx_nat, HT.sIx_none, List.drop_zero, Nat.sub_zero]
  by_cases h : k ≤ xs.length
  · rw [Nat.min_eq_left h]
  · rw [Nat.min_eq_right (by omega), List.take_length, List.take_of_length_le (by omega)]
abbrev sCell : Stmt := topS 35
abbrev sBox : Stmt := topS 36
abbrev sDraw : Stmt := topS 37
theorem scCell : FnScope ["script", "k"] ["script", "k"] (defScope sCell) := ⟨rfl, rfl, rfl, by decide +kernel, rfl, by decide +kernel, by decide +kernel⟩
theorem scBox : FnScope ["script", "k", "cell", "rest"] ["script", "k"] (defScope sBox) := ⟨rfl, rfl, rfl, by decide +kernel, rfl, by decide +kernel, by decide +kernel⟩
theorem scDraw : FnScope ["box", "size", "digit"] ["box", "size"] (defScope sDraw) := ⟨rfl, rfl, rfl, by decide +kernel, rfl, by decide +kernel, by decide +kernel⟩
abbrev MA : Int := 2147483629
abbrev MB : Int := 2147483549
/-- the box of the draws -/
def Box (H : Hp) (p : Addr) : Prop := ∃ (r a b c : Int), H p = some (.lst [.int r, .int a, .int b, .int c]) ∧ 0 ≤ r ∧ 0 ≤ a ∧ a < MA ∧ 0 ≤ b ∧ b < MB ∧ 0 ≤ c
theorem Box.same {H H' : Hp} {p : Addr} (B : Box H p) (h : Same H H') : Box H' p := by
  obtain ⟨r, a, b, c, hp, rest⟩ := B
  exact ⟨r, a, b, c, h _ _ hp, rest⟩
section
variable {P : Program} {w : World} {K : PySem.W.Frag} {mg : Str → Option Value} {base : Heap}
def spCell (K : PySem.W.Frag) : Sp := fun vs H Q _ => ∃ (a : Addr) (ns : List Int) (k : Nat), vs = [.ref a, .int (k : Int)] ∧ SqL K H a (ns.map V.int) ∧ k ≤ 10 ∧ ∀ (z : Int) (H' : Hp), Same H H' → Q (.int z) H'
theorem ok_cell {f : Addr} {fd : FuncData} {k : Nat} (F : Fun K "_law_cell" "_law_cell" sCell f fd) (B : Blt mg) : FnOk P w K mg base CX0 (k + 1) f fd ["script", "k"] (spCell K) := by
  refine F.ok scCell (fun vs H Q E h => ?_) (fun cdv A outer s H vs Q E hr h => ?_)
  · obtain ⟨a, ns, k, rfl, _⟩ := h
    rfl
  · obtain ⟨a, ns, k, rfl, hS, hk, q⟩ := h
    refine ⟨_, pss_cons (ps_if (pt_cmpR op_lt (pv 1) (pe_callB call_len_seq (by rfl) B.len PySem.boot_len (pa_cons (pv 0) pa_nil)) (nomark _)) (pss_one (ps_ret (pe_ix ix_list (pv 0) (pv 1) (fun _ _ => rfl)))) pss_nil)
      (pss_one (ps_ret (pe_op op_add (pe_op op_mod (pe_callB (cr_sum rfl) (by rfl) B.sum (by decide +kernel) (pa_cons (pe_slice sl_list (pv 0) po_none (po_some pe_int)) pa_nil)) pe_int) (pe_op op_mul pe_int (pe_op op_add (pv 1) pe_int))))), ?_⟩
    refine ⟨.int (k : Int), rfl, .ref a, rfl, a, _, rfl, .inl hS, k, _, rfl, rfl, _, rfl, ite2 (fun e => ?_) (fun e => ?_)⟩
    · have hl : k < ns.length := by
        have := of_decide_eq_true e
        rw [List.length_map] at this
        omega
      refine ⟨.ref a, rfl, .int (k : Int), rfl, a, _, k, .int ns[k], rfl, rfl, hS, atI_nat ?_, q _ H (Same.refl _)⟩
      rw [List.getElem?_map, List.getElem?_eq_getElem hl]
      rfl
    · refine ⟨.ref a, rfl, 2, rfl, a, _, rfl, hS, fun p np => ?_⟩
      refine ⟨p, ns.take 2, rfl, sqOf ?_, _, 1000003, rfl, rfl, (by show (0 : Int) < 1000003; decide), .int (k : Int), rfl, k, 1, rfl, rfl, 7919, _, rfl, rfl, .inl ⟨by decide, by decide⟩, _, _, rfl, rfl, q _ _ (same_upd np)⟩
      rw [upd_same, List.map_take]
      exact congrArg (fun l => some (HO.lst l)) (cut_hi _ 2)
def spBox (K : PySem.W.Frag) : Sp := fun vs H Q _ => ∃ (a : Addr) (ns : List Int) (k : Nat), vs = [.ref a, .int (k : Int)] ∧ SqL K H a (ns.map V.int) ∧ k ≤ 10 ∧ ∀ (p : Addr) (H' : Hp), H p = none → Box H' p → Same H H' → Q (.ref p) H'
theorem ok_box {f g : Addr} {fd gd : FuncData} (F : Fun K "_law_box" "_law_box" sBox f fd) (D : Dd K mg "_law_cell" sCell ["script", "k"] g gd) (B : Blt mg) : FnOk P w K mg base CX0 2 f fd ["script", "k"] (spBox K) := by
  have G : FnOk P w K mg base CX0 1 g gd ["script", "k"] (spCell K) := ok_cell D.F B
  refine F.ok scBox (fun vs H Q E h => ?_) (fun cdv A outer s H vs Q E hr h => ?_)
  · obtain ⟨a, ns, k, rfl, _⟩ := h
    rfl
  · obtain ⟨a, ns, k, rfl, hS, hk, q⟩ := h
    refine ⟨_, pss_cons (ps_set (i := 2) scBox.nd rfl (.inl rfl) (pe_callTy call_int1 (by rfl) B.int PyProof.Rows.boot_int (pa_cons (pe_call G hr (by rfl) D.g D.F.kp D.b .nil pass0 (pa_cons (pv 0) (pa_cons (pv 1) pa_nil))) pa_nil)))
      (pss_cons (ps_set (i := 3) scBox.nd rfl (.inl rfl) pe_int)
      (C8.pss_cut (ps_if (pt_cmpR op_ge (pv 2) (pe_op op_pow pe_int pe_int) (nomark _)) (pss_one (ps_set (i := 3) scBox.nd rfl (.inl rfl) (pv 2))) pss_nil)
      (pss_one (ps_ret (pe_lst (pa_cons (pv 3) (pa_cons (pe_op op_mod (pe_callTy call_int1 (by rfl) B.int PyProof.Rows.boot_int (pa_cons (pv 2) pa_nil)) pe_int) (pa_cons (pe_op op_mod (pe_callTy call_int1 (by rfl) B.int PyProof.Rows.boot_int (pa_cons (pe_op op_fdiv (pv 2) pe_int) pa_nil)) pe_int) (pa_cons pe_int pa_nil))))))))), ?_⟩
    refine ⟨.ref a, rfl, .int (k : Int), rfl, a, ns, k, rfl, hS, hk, fun z H1 S1 => .inl ⟨z, rfl, ?_⟩⟩
    refine ⟨fun σ' H' => ∃ r : Int, 0 ≤ r ∧ σ' = [some (.ref a), some (.int (k : Int)), some (.int z), some (.int r)] ∧ H' = H1, ?_, ?_⟩
    · refine ⟨.int z, rfl, 10, 18, rfl, rfl, ⟨by decide, by decide, by decide⟩, z, _, rfl, rfl, _, rfl, ite2 (fun e => ?_) (fun e => ?_)⟩
      · have h1 : (10 : Int) ^ (18 : Int).toNat ≤ z := of_decide_eq_true e
        have h0 : (0 : Int) ≤ (10 : Int) ^ (18 : Int).toNat := by decide
        exact ⟨.int z, rfl, z, by omega, rfl, rfl⟩
      · exact (⟨0, by decide, rfl, rfl⟩ : ∃ r : Int, 0 ≤ r ∧ ([some (.ref a), some (.int (k : Int)), some (.int z), some (.int 0)] : L2.St) = [some (.ref a), some (.int (k : Int)), some (.int z), some (.int r)] ∧ H1 = H1)
    · rintro σ' H' ⟨r, r0, rfl, rfl⟩
      refine ⟨.int r, rfl, .int z, rfl, .inl ⟨z, rfl, z, MA, rfl, rfl, (by show (0 : Int) < MA; decide), .int z, rfl, z, 7, rfl, rfl, ⟨by decide, by decide⟩, .inl ⟨_, rfl, _, MB, rfl, rfl, (by show (0 : Int) < MB; decide), by show 4 ≤ sizeLine; decide, fun p np => ?_⟩⟩⟩
      refine q p _ (S1.free np) ⟨r, _, _, 0, upd_same, r0, Int.emod_nonneg _ (by decide), Int.emod_lt_of_pos _ (by decide), Int.emod_nonneg _ (by decide), Int.emod_lt_of_pos _ (by decide), by decide⟩ (S1.trans (same_upd np))
def spDraw : Sp := fun vs H Q _ => ∃ (p : Addr) (n : Int), vs = [.ref p, .int n] ∧ Box H p ∧ n < 2 ^ 60 ∧ ∀ (z : Int) (H' : Hp), 0 ≤ z → (z < n ∨ z = 0) → Box H' p → But p H H' → Q (.int z) H'
theorem ok_draw {f : Addr} {fd : FuncData} {k : Nat} (F : Fun K "_law_draw" "_law_draw" sDraw f fd) (B : Blt mg) : FnOk P w K mg base CX0 (k + 1) f fd ["box", "size"] spDraw := by
  refine F.ok scDraw (fun vs H Q E h => ?_) (fun cdv A outer s H vs Q E hr h => ?_)
  · obtain ⟨p, n, rfl, _⟩ := h
    rfl
  · obtain ⟨p, n, rfl, hB, hn, q⟩ := h
    obtain ⟨r, a, b, c, hp, r0, a0, a1, b0, b1, c0⟩ := id hB
    refine ⟨_, pss_cons (ps_if (pt_cmpR op_lt (pv 1) pe_int (nomark _)) (pss_one (ps_ret pe_int)) pss_nil)
      (pss_cons (ps_if (pt_cmpR op_gt (pe_ix ix_list (pv 0) pe_int (fun _ _ => rfl)) pe_int (nomark _))
        (pss_cons (ps_set (i := 2) scDraw.nd rfl (.inl rfl) (pe_op op_mod (pe_callTy call_int1 (by rfl) B.int PyProof.Rows.boot_int (pa_cons (pe_ix ix_list (pv 0) pe_int (fun _ _ => rfl)) pa_nil)) (pv 1)))
        (pss_cons (ps_asg (pe_op op_fdivW (pe_ix ix_list (pv 0) pe_int (fun _ _ => rfl)) (pv 1)) (pg_sub (pv 0) pe_int set_list))
        (pss_one (ps_ret (pv 2))))) pss_nil)
      (pss_cons (ps_asg (pe_op op_add (pe_ix ix_list (pv 0) pe_int (fun _ _ => rfl)) pe_int) (pg_sub (pv 0) pe_int set_list))
      (pss_cons (ps_asg (pe_op op_mod (pe_callTy call_int1 (by rfl) B.int PyProof.Rows.boot_int (pa_cons (pe_op op_add (pe_op op_add (pe_op op_mul (pe_ix ix_list (pv 0) pe_int (fun _ _ => rfl)) pe_int) (pe_op op_mul (pe_ix ix_list (pv 0) pe_int (fun _ _ => rfl)) pe_int)) pe_int) pa_nil)) pe_int) (pg_sub (pv 0) pe_int set_list))
      (pss_cons (ps_asg (pe_op op_mod (pe_callTy call_int1 (by rfl) B.int PyProof.Rows.boot_int (pa_cons (pe_op op_add (pe_op op_add (pe_op op_mul (pe_ix ix_list (pv 0) pe_int (fun _ _ => rfl)) pe_int) (pe_op op_fdiv (pe_ix ix_list (pv 0) pe_int (fun _ _ => rfl)) pe_int)) (pe_ix ix_list (pv 0) pe_int (fun _ _ => rfl))) pa_nil)) pe_int) (pg_sub (pv 0) pe_int set_list))
      (pss_one (ps_ret (pe_op op_mod (pe_callTy call_int1 (by rfl) B.int PyProof.Rows.boot_int (pa_cons (pe_op op_add (pe_ix ix_list (pv 0) pe_int (fun _ _ => rfl)) (pe_ix ix_list (pv 0) pe_int (fun _ _ => rfl))) pa_nil)) (pv 1)))))))), ?_⟩
    refine ⟨.int n, rfl, n, 2, rfl, rfl, _, rfl, ite2 (fun e1 => ?_) (fun e1 => ?_)⟩
    · exact q 0 H (by decide) (.inr rfl) hB (But.refl _ _)
    have n2 : ¬ n < 2 := fun z => e1 (decide_eq_true z)
    have hn9 : n.natAbs < 2 ^ 61 := by omega
    refine ⟨.ref p, rfl, p, _, 0, .int r, rfl, rfl, sqOf hp, atI_nat (j := 0) rfl, r, 0, rfl, rfl, _, rfl, ite2 (fun e2 => ?_) (fun e2 => ?_)⟩
    · refine ⟨.ref p, rfl, p, _, 0, .int r, rfl, rfl, sqOf hp, atI_nat (j := 0) rfl, .inl ⟨_, rfl, .int n, rfl, _, _, rfl, rfl, (by show (0 : Int) < n; omega), ?_⟩⟩
      refine ⟨.ref p, rfl, p, _, 0, .int r, rfl, rfl, sqOf hp, atI_nat (j := 0) rfl, .int n, rfl, r, n, rfl, rfl, wide_div (by omega) hn9 (by decide) (by decide), .ref p, rfl, p, _, 0, 0, rfl, rfl, hp, rfl, ?_⟩
      exact ⟨_, rfl, q _ _ (Int.emod_nonneg _ (by omega)) (.inl (Int.emod_lt_of_pos _ (by omega))) ⟨r / n, a, b, c, upd_same, Int.ediv_nonneg r0 (by omega), a0, a1, b0, b1, c0⟩ But.upd⟩
    · have hp' : ∀ H xs, (upd H p (.lst xs)) p = some (.lst xs) := fun H xs => upd_same
      refine ⟨.ref p, rfl, p, _, 3, .int c, rfl, rfl, sqOf hp, atI_nat (j := 3) rfl, c, 1, rfl, rfl, .ref p, rfl, p, _, 3, 3, rfl, rfl, hp, rfl, ?_⟩
      refine ⟨.ref p, rfl, p, _, 1, .int a, rfl, rfl, sqOf (hp' _ _), atI_nat (j := 1) rfl, a, 48271, rfl, rfl, .inr ⟨by decide, by decide⟩, .ref p, rfl, p, _, 3, .int (c + 1), rfl, rfl, sqOf (hp' _ _), atI_nat (j := 3) rfl, c + 1, 7919, rfl, rfl, .inr ⟨by decide, by decide⟩, _, _, rfl, rfl, _, _, rfl, rfl, .inl ⟨_, rfl, _, MA, rfl, rfl, (by show (0 : Int) < MA; decide), .ref p, rfl, p, _, 1, 1, rfl, rfl, hp' _ _, rfl, ?_⟩⟩
      refine ⟨.ref p, rfl, p, _, 2, .int b, rfl, rfl, sqOf (hp' _ _), atI_nat (j := 2) rfl, b, 40692, rfl, rfl, .inr ⟨by decide, by decide⟩, .ref p, rfl, p, _, 1, _, rfl, rfl, sqOf (hp' _ _), atI_nat (j := 1) rfl, _, 5, rfl, rfl, ⟨by decide, by decide⟩, _, _, rfl, rfl, .ref p, rfl, p, _, 3, .int (c + 1), rfl, rfl, sqOf (hp' _ _), atI_nat (j := 3) rfl, _, _, rfl, rfl, .inl ⟨_, rfl, _, MB, rfl, rfl, (by show (0 : Int) < MB; decide), .ref p, rfl, p, _, 2, 2, rfl, rfl, hp' _ _, rfl, ?_⟩⟩
      refine ⟨.ref p, rfl, p, _, 1, _, rfl, rfl, sqOf (hp' _ _), atI_nat (j := 1) rfl, .ref p, rfl, p, _, 2, _, rfl, rfl, sqOf (hp' _ _), atI_nat (j := 2) rfl, _, _, rfl, rfl, .inl ⟨_, rfl, .int n, rfl, _, _, rfl, rfl, (by show (0 : Int) < n; omega), ?_⟩⟩
      exact q _ _ (Int.emod_nonneg _ (by omega)) (.inl (Int.emod_lt_of_pos _ (by omega))) ⟨r, _, _, c + 1, upd_same, r0, Int.emod_nonneg _ (by decide), Int.emod_lt_of_pos _ (by decide), Int.emod_nonneg _ (by decide), Int.emod_lt_of_pos _ (by decide), by omega⟩ ((But.upd.trans But.upd).trans But.upd)
end
end Tb
namespace Tb
open PySem PySem.Spec PyProof.Rows L2
abbrev sDigits : Stmt := topS 38
abbrev NDigits : List Str := ["box", "size", "text", "k"]
theorem scDigits : FnScope NDigits ["box", "size"] (defScope sDigits) := ⟨rfl, rfl, rfl, by decide +kernel, rfl, by decide +kernel, by decide +kernel⟩
abbrev sName : Stmt := topS 39
abbrev NName : List Str := ["box", "text", "k"]
theorem scName : FnScope NName ["box"] (defScope sName) := ⟨rfl, rfl, rfl, by decide +kernel, rfl, by decide +kernel, by decide +kernel⟩
theorem sign_in {s : Str} {n c : Nat} (h : s.cps[n]? = some c) : isIn s c = true := decide_eq_true (by
  rw [Array.mem_toList_iff]
  exact Array.mem_of_getElem? h)
theorem lt_len : (letters.length : Int) = 26 := by decide +kernel
def DgT (z : Str) : Prop := ∀ d ∈ tl z, isIn digits d = true
theorem dg_snoc {z : Str} {c : Nat} (h : DgT z) (hc : isIn digits c = true) : DgT (z ++ ⟨#[c]⟩) := fun d hd => by
  rw [tl_app, tl_one, List.mem_append] at hd
  rcases hd with hd | hd
  · exact h d hd
  · rw [List.mem_singleton.mp hd]
    exact hc
/-! all but lists that begin with an int stays -/
def IntL (o : HO) : Prop := ∃ i xs, o = .lst (.int i :: xs)
def Kp (H H' : Hp) : Prop := ∀ b o, H b = some o → ¬ IntL o → H' b = some o
theorem Kp.refl (H : Hp) : Kp H H := fun _ _ h _ => h
theorem Kp.trans {H H1 H2 : Hp} (a : Kp H H1) (b : Kp H1 H2) : Kp H H2 := fun c o h n => b c o (a c o h n) n
theorem Same.kp {H H' : Hp} (h : Same H H') : Kp H H' := fun b o e _ => h b o e
theorem Box.intl {H : Hp} {p : Addr} (B : Box H p) {o : HO} (h : H p = some o) : IntL o := by
  obtain ⟨r, a, b, c, hp, _⟩ := B
  rw [hp] at h
  cases h
  exact ⟨_, _, rfl⟩
theorem But.kp {H H' : Hp} {p : Addr} (B : Box H p) (h : But p H H') : Kp H H' := fun b o e n => h b o e fun z => n (B.intl (z ▸ e))
theorem ni_tup (xs : List V) : ¬ IntL (.tup xs) := fun ⟨_, _, e⟩ => by cases e
theorem ni_strs (ks : List Str) : ¬ IntL (.lst (ks.map V.str)) := fun ⟨_, _, e⟩ => by
  cases ks <;> cases e
theorem ni_refs (as : List Addr) : ¬ IntL (.lst (as.map V.ref)) := fun ⟨_, _, e⟩ => by
  cases as <;> cases e
theorem ni_ins {C dx : Addr} {fs : List (Str × V)} : ¬ IntL (.ins C dx fs) := fun ⟨_, _, e⟩ => by cases e
theorem Box.ne {H : Hp} {p b : Addr} {o : HO} (B : Box H p) (h : H b = some o) (n : ¬ IntL o) : b ≠ p := fun e => n (B.intl (e ▸ h))
theorem strs_at {ks : List Str} {i : Nat} (h : i < ks.length) : (ks.map V.str)[i]? = some (.str ks[i]) := by
  rw [List.getElem?_map, List.getElem?_eq_getElem h]
  rfl
theorem tl_butlast (z : Str) (h : 1 ≤ z.length) : tl (cutS z none (some (-1))) = (tl z).take ((tl z).length - 1) := by
  show ((z.cps.toList.drop (HT.sIx z.length 0 none)).take (HT.sIx z.length z.length (some (-1)) - HT.sIx z.length 0 none)).toArray.toList = _
  have e : HT.sIx z.length z.length (some (-1)) = z.length - 1 := by
    unfold HT.sIx
    first
      | omega
      | (simp; omega)
      | (split <;> omega)
  rw [List.toList_toArray, e, HT.sIx_none, List.drop_zero, Nat.sub_zero, len_tl]
section
variable {P : Program} {w : World} {K : PySem.W.Frag} {mg : Str → Option Value} {base : Heap}
abbrev CDraw (P : Program) (w : World) (K : PySem.W.Frag) (mg : Str → Option Value) (base : Heap) (g : Addr) (gd : FuncData) := C1 P w K mg base "_law_draw" sDraw ["box", "size"] 1 spDraw g gd
def spDigits : Sp := fun vs H Q _ => ∃ (p : Addr) (n : Nat), vs = [.ref p, .int (n : Int)] ∧ Box H p ∧ n ≤ 20 ∧ ∀ (z : Str) (H' : Hp), z.length = n → DgT z → Box H' p → But p H H' → Q (.str z) H'
theorem ok_digits {f g : Addr} {fd gd : FuncData} (F : Fun K "_law_digits" "_law_digits" sDigits f fd) (cDraw : CDraw P w K mg base g gd) (B : Blt mg) : FnOk P w K mg base CX0 2 f fd ["box", "size"] spDigits := by
  refine F.ok scDigits (fun vs H Q E h => ?_) (fun cdv A outer s H vs Q E hr h => ?_)
  · obtain ⟨p, n, rfl, _⟩ := h
    rfl
  · obtain ⟨p, n, rfl, hB, hn, q⟩ := h
    refine ⟨_, (pss_cons (ps_set (i := 2) scDigits.nd rfl (.inl rfl) pe_str)
      (pss_cons (ps_for PassesOwn.never rfl (pi_range1 (by rfl) B.range (pa_cons (pv 1) pa_nil)) (pg_name (i := 3) scDigits.nd rfl (.inl rfl))
        (pss_one (ps_set (i := 2) scDigits.nd rfl (.inl rfl) (pe_op op_add_str (pv 2) (pe_item_str pe_str (pe_call cDraw.G (hr.mono (by first | decide | omega)) (by rfl) cDraw.D.g cDraw.D.F.kp cDraw.D.b .nil pass0 (pa_cons (pv 0) (pa_cons pe_int pa_nil))) (fun _ _ => rfl))))))
      (pss_one (ps_ret (pv 2))))), ?_⟩
    have hz : sizeLine = 16777216 := rfl
    refine ⟨.int (n : Int), rfl, n, rfl, by omega, by omega, ?_⟩
    refine for_range (lo := 0) (n := (n : Int).toNat) (fun i σ H1 => ∃ z y3, σ = [some (.ref p), some (.int (n : Int)), some (.str z), y3] ∧ Box H1 p ∧ But p H H1 ∧ z.length = i ∧ DgT z) ⟨Str.ofString "", none, rfl, hB, But.refl _ _, by decide +kernel, fun d hd => by cases hd⟩ ?_ ?_
    · rintro i σ H1 hi ⟨z, y3, rfl, B1, b1, hl, hd⟩
      refine ⟨.str z, rfl, .ref p, rfl, p, 10, rfl, B1, by decide, fun v H2 v0 v1 B2 b2 => ?_⟩
      have dl := dg_len
      obtain ⟨c, e⟩ := at_sign (z := digits) (i := v) (by omega) v0
      refine ⟨digits, v, c, rfl, rfl, v0, by omega, by omega, e, _, _, rfl, rfl, by rw [one_len]; omega, ?_⟩
      exact ⟨_, _, rfl, B2, b1.trans b2, by rw [app_len, hl, one_len], dg_snoc hd (dg_any e)⟩
    · rintro σ H1 ⟨z, y3, rfl, B1, b1, hl, hd⟩
      exact ⟨.str z, rfl, q z H1 (by omega) hd B1 b1⟩
def spName : Sp := fun vs H Q _ => ∃ (p : Addr), vs = [.ref p] ∧ Box H p ∧ ∀ (z : Str) (H' : Hp), Nm (tl z) → Box H' p → But p H H' → Q (.str z) H'
theorem nm_one {c : Nat} (h : isIn letters c = true) (h2 : isIn (letters ++ digits) c = true) : Nm [c] := ⟨by show 1 ≤ 12; decide, fun d hd => by rw [List.mem_singleton.mp hd]; exact h2, c, rfl, h⟩
theorem lt_ld {c : Nat} (h : isIn letters c = true) : isIn (letters ++ digits) c = true := decide_eq_true (by
  show c ∈ tl (letters ++ digits)
  rw [tl_app, List.mem_append]
  exact .inl (of_decide_eq_true h))
theorem ok_name {f g : Addr} {fd gd : FuncData} (F : Fun K "_law_name" "_law_name" sName f fd) (cDraw : CDraw P w K mg base g gd) (B : Blt mg) : FnOk P w K mg base CX0 2 f fd ["box"] spName := by
  refine F.ok scName (fun vs H Q E h => ?_) (fun cdv A outer s H vs Q E hr h => ?_)
  · obtain ⟨p, rfl, _⟩ := h
    rfl
  · obtain ⟨p, rfl, hB, q⟩ := h
    refine ⟨_, (pss_cons (ps_set (i := 1) scName.nd rfl (.inl rfl) (pe_item_str pe_str (pe_call cDraw.G (hr.mono (by first | decide | omega)) (by rfl) cDraw.D.g cDraw.D.F.kp cDraw.D.b .nil pass0 (pa_cons (pv 0) (pa_cons pe_int pa_nil))) (fun _ _ => rfl)))
      (pss_cons (ps_for PassesOwn.never rfl (pi_range1 (by rfl) B.range (pa_cons (pe_call cDraw.G (hr.mono (by first | decide | omega)) (by rfl) cDraw.D.g cDraw.D.F.kp cDraw.D.b .nil pass0 (pa_cons (pv 0) (pa_cons pe_int pa_nil))) pa_nil)) (pg_name (i := 2) scName.nd rfl (.inl rfl))
        (pss_one (ps_set (i := 1) scName.nd rfl (.inl rfl) (pe_op op_add_str (pv 1) (pe_item_str pe_str (pe_call cDraw.G (hr.mono (by first | decide | omega)) (by rfl) cDraw.D.g cDraw.D.F.kp cDraw.D.b .nil pass0 (pa_cons (pv 0) (pa_cons pe_int pa_nil))) (fun _ _ => rfl))))))
      (pss_one (ps_ret (pv 1))))), ?_⟩
    have hz : sizeLine = 16777216 := rfl
    have ll := lt_len
    have dl := ld_len
    refine ⟨.ref p, rfl, p, 26, rfl, hB, by decide, fun v H1 v0 v1 B1 b1 => ?_⟩
    obtain ⟨c, e⟩ := at_sign (z := letters) (i := v) (by omega) v0
    refine ⟨letters, v, c, rfl, rfl, v0, by omega, by omega, e, ?_⟩
    refine ⟨.ref p, rfl, p, 12, rfl, B1, by decide, fun n H2 n0 n1 B2 b2 => ⟨n, rfl, by omega, by omega, ?_⟩⟩
    refine for_range (lo := 0) (n := n.toNat) (fun i σ H3 => ∃ z y2, σ = [some (.ref p), some (.str z), y2] ∧ Box H3 p ∧ But p H H3 ∧ z.length = i + 1 ∧ Nm (tl z)) ⟨_, none, rfl, B2, b1.trans b2, rfl, nm_one (sign_in e) (lt_ld (sign_in e))⟩ ?_ ?_
    · rintro i σ H3 hi ⟨z, y2, rfl, B3, b3, hl, hm⟩
      refine ⟨.str z, rfl, .ref p, rfl, p, 36, rfl, B3, by decide, fun u H4 u0 u1 B4 b4 => ?_⟩
      obtain ⟨d, e2⟩ := at_sign (z := LD) (i := u) (by omega) u0
      refine ⟨LD, u, d, rfl, rfl, u0, by omega, by omega, e2, _, _, rfl, rfl, by rw [one_len]; omega, ?_⟩
      refine ⟨_, _, rfl, B4, b3.trans b4, by rw [app_len, hl, one_len], ?_⟩
      rw [tl_app, tl_one]
      refine nm_app hm (fun x hx => ?_) ?_
      · rw [List.mem_singleton.mp hx]
        exact ld_any e2
      · rw [← len_tl, hl]
        show i + 1 + 1 ≤ 12
        omega
    · rintro σ H3 ⟨z, y2, rfl, B3, b3, hl, hm⟩
      exact ⟨.str z, rfl, q z H3 hm B3 b3⟩
abbrev CDigits (P : Program) (w : World) (K : PySem.W.Frag) (mg : Str → Option Value) (base : Heap) (g : Addr) (gd : FuncData) := C1 P w K mg base "_law_digits" sDigits ["box", "size"] 2 spDigits g gd
abbrev CName (P : Program) (w : World) (K : PySem.W.Frag) (mg : Str → Option Value) (base : Heap) (g : Addr) (gd : FuncData) := C1 P w K mg base "_law_name" sName ["box"] 2 spName g gd
/-- the three lands -/
structure Lns (H : Hp) (l : Addr) (ks : List Str) : Prop where
  l : H l = some (.lst (ks.map V.str))
  n : ks.length = 3
  d : ∀ x ∈ ks, Nm (tl x)
theorem Lns.kp {H H' : Hp} {l : Addr} {ks : List Str} (L : Lns H l ks) (h : Kp H H') : Lns H' l ks := ⟨h _ _ L.l (ni_strs ks), L.n, L.d⟩
theorem box_new {H : Hp} {p D : Addr} {o : HO} (B : Box H p) (h : H D = none) : Box (upd H D o) p ∧ But p H (upd H D o) := ⟨B.same (same_upd h), Same.but (same_upd h)⟩
theorem nm_a : Nm (tl ("a" : Str)) ∧ Nm (tl ("b" : Str)) ∧ Nm (tl ("c" : Str)) ∧ Nm (tl ("a0" : Str)) ∧ Nm (tl ("aa" : Str)) := by
  refine ⟨(isName_iff _).mp ?_, (isName_iff _).mp ?_, (isName_iff _).mp ?_, (isName_iff _).mp ?_, (isName_iff _).mp ?_⟩ <;> decide +kernel
theorem mem3 {x a b c : Str} {p : Str → Prop} (h : x ∈ [a, b, c]) (pa : p a) (pb : p b) (pc : p c) : p x := by
  rcases List.mem_cons.mp h with rfl | h
  · exact pa
  rcases List.mem_cons.mp h with rfl | h
  · exact pb
  · rw [List.mem_singleton.mp h]; exact pc
/-- a stem: eight digits -/
def Stem (z : Str) : Prop := z.length = 8 ∧ DgT z
theorem stem_cut {z : Str} (h : Stem z) {k : Nat} : (∀ d ∈ tl (cutS z none (some (k : Int))), isIn digits d = true) ∧ (cutS z none (some (k : Int))).length = min k 8 := by
  have l := h.1
  rw [len_tl] at l
  refine ⟨fun d hd => ?_, by rw [len_tl, tl_hi, List.length_take, l]⟩
  rw [tl_hi] at hd
  exact h.2 d (List.mem_of_mem_take hd)
theorem stem_ad {z : Str} (h : Stem z) {k : Int} (h0 : 1 ≤ k) : isAddr (cutS z none (some k)) = true := by
  obtain ⟨n, rfl⟩ : ∃ n : Nat, k = (n : Int) := ⟨k.toNat, by omega⟩
  have c := stem_cut h (k := n)
  refine (isAddr_iff _).mpr ⟨?_, ?_, c.1⟩
  · rw [← len_tl, c.2]; omega
  · rw [← len_tl, c.2]; omega
def okP (x : Option Int) : Prop := ∀ i, x = some i → 0 ≤ i
end
end Tb
namespace Tb
open PySem PySem.Spec PyProof.Rows L2
/-- rows in a list -/
structure LR (H : Hp) (a : Addr) (bs : List (Addr × Rw)) : Prop where
  l : H a = some (.lst (bs.map fun b => V.ref b.1))
  t : ∀ b ∈ bs, H b.1 = some (.tup (rwV b.2))
theorem LR.same {H H' : Hp} {a : Addr} {bs : List (Addr × Rw)} (R : LR H a bs) (h : Same H H') : LR H' a bs := ⟨h _ _ R.l, fun b m => h _ _ (R.t b m)⟩
theorem ni_bs (bs : List (Addr × Rw)) : ¬ IntL (.lst (bs.map fun b => V.ref b.1)) := by
  have := ni_refs (bs.map (·.1))
  rwa [List.map_map] at this
theorem LR.kp {H H' : Hp} {a : Addr} {bs : List (Addr × Rw)} (R : LR H a bs) (h : Kp H H') : LR H' a bs := ⟨h _ _ R.l (ni_bs bs), fun b m => h _ _ (R.t b m) (ni_tup _)⟩
theorem LR.but {H H' : Hp} {p a : Addr} {bs : List (Addr × Rw)} (R : LR H a bs) (B : Box H p) (h : But p H H') : LR H' a bs := R.kp (But.kp B h)
/-- what a row must keep -/
def okR (r : Rw) : Prop := isAddr r.1.1 = true ∧ isLane r.1.2 = true ∧ okP r.2
def Gd (rs : List Rw) : Prop := (∀ r ∈ rs, okR r) ∧ (rs.map Prod.fst).Nodup
def addR (rs : List Rw) (r : Rw) : List Rw := if r.1 ∈ rs.map Prod.fst then rs else rs ++ [r]
theorem gd_add {rs : List Rw} {r : Rw} (h : Gd rs) (k : okR r) : Gd (addR rs r) := by
  unfold addR
  by_cases c : r.1 ∈ rs.map Prod.fst
  · rw [if_pos c]; exact h
  · rw [if_neg c]
    refine ⟨fun x hx => ?_, ?_⟩
    · rcases List.mem_append.mp hx with hx | hx
      · exact h.1 x hx
      · rw [List.mem_singleton.mp hx]; exact k
    · rw [List.map_append, List.nodup_append]
      refine ⟨h.2, by simp, fun a ha b hb e => ?_⟩
      have eb : b = r.1 := by simpa using hb
      rw [e, eb] at ha
      exact c ha
theorem len_add {rs : List Rw} {r : Rw} : (addR rs r).length ≤ rs.length + 1 := by
  unfold addR
  split
  · omega
  · rw [List.length_append]; exact Nat.le_refl _
def hitR (k : Pr) (b : Addr × Rw) : Bool := decide (b.2.1.1 = k.1) && decide (b.2.1.2 = k.2)
theorem hit_iff {k : Pr} {b : Addr × Rw} : hitR k b = true ↔ b.2.1 = k := by
  unfold hitR
  rw [Bool.and_eq_true, decide_eq_true_eq, decide_eq_true_eq]
  exact ⟨fun h => Prod.ext h.1 h.2, fun h => by rw [h]; exact ⟨rfl, rfl⟩⟩
theorem bs_at {bs : List (Addr × Rw)} {i : Nat} {v : V} (h : (bs.map fun b => V.ref b.1)[i]? = some v) : ∃ b, bs[i]? = some b ∧ v = .ref b.1 := by
  rw [List.getElem?_map] at h
  cases e : bs[i]? with
  | none => rw [e] at h; cases h
  | some b => rw [e] at h; cases h; exact ⟨b, rfl, rfl⟩
theorem take_snoc {α : Type} {xs : List α} {i : Nat} {x : α} (h : xs[i]? = some x) : xs.take (i + 1) = xs.take i ++ [x] := by
  rw [List.take_add_one, h]; rfl
section
variable {P : Program} {w : World} {K : PySem.W.Frag} {mg : Str → Option Value} {base : Heap}
end
end Tb
namespace Tb
open PySem PySem.Spec PyProof.Rows L2
/-! ### what a rate is -/
theorem starts_iff {h p : Str} : Txt.startswith h p = true ↔ (tl h).take (tl p).length = tl p := by
  unfold Txt.startswith
  rw [Bool.and_eq_true, decide_eq_true_eq, StrLaws.subAt_eq, List.drop_zero, beq_iff_eq, len_tl p]
  refine ⟨fun h => h.2, fun e => ⟨?_, e⟩⟩
  have := congrArg List.length e
  rw [List.length_take] at this
  rw [len_tl]
  omega
theorem starts_len {h p : Str} (e : Txt.startswith h p = true) : p.length ≤ h.length := by
  have := congrArg List.length (starts_iff.mp e)
  rw [List.length_take] at this
  rw [len_tl, len_tl]
  omega
theorem starts_pre {h p : Str} : Txt.startswith h p = true ↔ pre h p.length = p := by
  rw [starts_iff]
  have e : tl (pre h p.length) = (tl h).take p.length := tl_hi h p.length
  rw [len_tl] at e
  exact ⟨fun k => tl_inj (by rw [len_tl, e]; exact k), fun k => by rw [← e, ← len_tl, k]⟩
theorem pre_starts {h : Str} {n : Nat} (hn : n ≤ h.length) : Txt.startswith h (pre h n) = true ∧ (pre h n).length = n := by
  have e : tl (pre h n) = (tl h).take n := tl_hi h n
  have l : (pre h n).length = n := by
    rw [len_tl, e, List.length_take]
    rw [len_tl] at hn
    omega
  exact ⟨starts_pre.mpr (by rw [l]), l⟩
def fits (h l : Str) (r : Rw) : Bool := Txt.startswith h r.1.1 && (decide (r.1.2 = l) || decide (r.1.2 = Str.ofString ""))
/-- c is no better than r -/
def NoB (l : Str) (c r : Rw) : Prop := c.1.1.length < r.1.1.length ∨ (c.1.1 = r.1.1 ∧ (c.1.2 = l → r.1.2 = l))
def Best (h l : Str) (ps : List Rw) : Option Rw → Prop
  | none => ∀ r ∈ ps, fits h l r = false
  | some r => r ∈ ps ∧ fits h l r = true ∧ ∀ c ∈ ps, fits h l c = true → NoB l c r
def bets (l : Str) (c r : Rw) : Bool := decide (c.1.1.length < r.1.1.length) || (decide (r.1.1 = c.1.1) && decide (r.1.2 = l))
theorem best_no {h l : Str} {ps : List Rw} {b : Option Rw} {r : Rw} (k : Best h l ps b) (e : fits h l r = false) : Best h l (ps ++ [r]) b := by
  cases b with
  | none =>
    intro c hc
    rcases List.mem_append.mp hc with hc | hc
    · exact k c hc
    · rw [List.mem_singleton.mp hc]; exact e
  | some d =>
    refine ⟨List.mem_append_left _ k.1, k.2.1, fun c hc f => ?_⟩
    rcases List.mem_append.mp hc with hc | hc
    · exact k.2.2 c hc f
    · rw [List.mem_singleton.mp hc, e] at f; cases f
theorem best_none {h l : Str} {ps : List Rw} {r : Rw} (k : Best h l ps none) (e : fits h l r = true) : Best h l (ps ++ [r]) (some r) := by
  refine ⟨List.mem_append_right _ (List.mem_singleton.mpr rfl), e, fun c hc f => ?_⟩
  rcases List.mem_append.mp hc with hc | hc
  · rw [k c hc] at f; cases f
  · rw [List.mem_singleton.mp hc]; exact .inr ⟨rfl, id⟩
theorem best_yes {h l : Str} {ps : List Rw} {d r : Rw} (k : Best h l ps (some d)) (e : fits h l r = true) (b : bets l d r = true) : Best h l (ps ++ [r]) (some r) := by
  refine ⟨List.mem_append_right _ (List.mem_singleton.mpr rfl), e, fun c hc f => ?_⟩
  unfold bets at b
  rw [Bool.or_eq_true, Bool.and_eq_true, decide_eq_true_eq, decide_eq_true_eq, decide_eq_true_eq] at b
  rcases List.mem_append.mp hc with hc | hc
  · rcases k.2.2 c hc f with q | ⟨q, q2⟩
    · rcases b with b | ⟨b, b2⟩
      · exact .inl (by omega)
      · exact .inl (by rw [b]; exact q)
    · rcases b with b | ⟨b, b2⟩
      · exact .inl (by rw [q]; exact b)
      · exact .inr ⟨q.trans b.symm, fun _ => b2⟩
  · rw [List.mem_singleton.mp hc]; exact .inr ⟨rfl, id⟩
theorem fits_starts {h l : Str} {r : Rw} (e : fits h l r = true) : pre h r.1.1.length = r.1.1 := by
  unfold fits at e
  rw [Bool.and_eq_true] at e
  exact starts_pre.mp e.1
theorem best_stay {h l : Str} {ps : List Rw} {d r : Rw} (k : Best h l ps (some d)) (b : bets l d r = false) : Best h l (ps ++ [r]) (some d) := by
  refine ⟨List.mem_append_left _ k.1, k.2.1, fun c hc f => ?_⟩
  rcases List.mem_append.mp hc with hc | hc
  · exact k.2.2 c hc f
  · rw [List.mem_singleton.mp hc] at f ⊢
    unfold bets at b
    rw [Bool.or_eq_false_iff, decide_eq_false_iff_not, Bool.and_eq_false_iff, decide_eq_false_iff_not, decide_eq_false_iff_not] at b
    by_cases c1 : r.1.1.length < d.1.1.length
    · exact .inl c1
    · have le : r.1.1.length = d.1.1.length := by omega
      have e1 := fits_starts f
      have e2 := fits_starts k.2.1
      have e3 : r.1.1 = d.1.1 := by rw [← e1, ← e2, le]
      exact .inr ⟨e3, fun z => (b.2.elim (fun n => absurd e3 n) fun n => absurd z n)⟩
/-- x is the rate -/
def RateIs (rs : List Rw) (h l : Str) (x : Option Int) : Prop := ∃ b, Best h l rs b ∧ x = match b with | none => some 0 | some r => r.2
theorem best_perm {h l : Str} {ps qs : List Rw} (m : ∀ r, r ∈ ps ↔ r ∈ qs) {b : Option Rw} (k : Best h l ps b) : Best h l qs b := by
  cases b with
  | none => exact fun r hr => k r ((m r).mpr hr)
  | some d => exact ⟨(m d).mp k.1, k.2.1, fun c hc => k.2.2 c ((m c).mpr hc)⟩
theorem rate_perm {rs qs : List Rw} (m : ∀ r, r ∈ rs ↔ r ∈ qs) {h l : Str} {x : Option Int} (k : RateIs rs h l x) : RateIs qs h l x := by
  obtain ⟨b, kb, e⟩ := k
  exact ⟨b, best_perm m kb, e⟩
theorem key_one : ∀ {rs : List Rw}, (rs.map Prod.fst).Nodup → ∀ {r c : Rw}, r ∈ rs → c ∈ rs → r.1 = c.1 → r = c
  | [], _, _, _, hr, _, _ => by cases hr
  | d :: rs, h, r, c, hr, hc, e => by
    obtain ⟨h1, h2⟩ := List.nodup_cons.mp (show (d.1 :: rs.map Prod.fst).Nodup from h)
    rcases List.mem_cons.mp hr with er | hr
    · rcases List.mem_cons.mp hc with ec | hc
      · rw [er, ec]
      · exact absurd (List.mem_map.mpr ⟨c, hc, by rw [← e, er]⟩) h1
    · rcases List.mem_cons.mp hc with ec | hc
      · exact absurd (List.mem_map.mpr ⟨r, hr, by rw [e, ec]⟩) h1
      · exact key_one h2 hr hc e
theorem rate_uniq {rs : List Rw} (g : (rs.map Prod.fst).Nodup) {h l : Str} {x y : Option Int} (kx : RateIs rs h l x) (ky : RateIs rs h l y) : x = y := by
  obtain ⟨b, kb, rfl⟩ := kx
  obtain ⟨c, kc, rfl⟩ := ky
  cases b with
  | none =>
    cases c with
    | none => rfl
    | some c => exact absurd (kb c kc.1) (by rw [kc.2.1]; decide)
  | some b =>
    cases c with
    | none => exact absurd (kc b kb.1) (by rw [kb.2.1]; decide)
    | some c =>
      have q1 := kb.2.2 c kc.1 kc.2.1
      have q2 := kc.2.2 b kb.1 kb.2.1
      have e : b = c := by
        rcases q1 with q1 | ⟨q1, p1⟩
        · rcases q2 with q2 | ⟨q2, p2⟩
          · omega
          · rw [q2] at q1; omega
        · rcases q2 with q2 | ⟨q2, p2⟩
          · rw [q1] at q2; omega
          · have fb := kb.2.1
            have fc := kc.2.1
            unfold fits at fb fc
            rw [Bool.and_eq_true, Bool.or_eq_true, decide_eq_true_eq, decide_eq_true_eq] at fb fc
            refine key_one g kb.1 kc.1 (Prod.ext q2 ?_)
            by_cases z : b.1.2 = l
            · rw [z, p2 z]
            · have z2 : ¬ c.1.2 = l := fun e => z (p1 e)
              rw [fb.2.resolve_left z, fc.2.resolve_left z2]
      rw [e]
/-! the dict's way -/
def lk (rs : List Rw) (k : Pr) : Option (Option Int) := (rs.find? fun r => decide (r.1 = k)).map (·.2)
theorem lk_some {rs : List Rw} {k : Pr} {x : Option Int} (e : lk rs k = some x) : ∃ r ∈ rs, r.1 = k ∧ r.2 = x := by
  unfold lk at e
  cases f : rs.find? fun r => decide (r.1 = k) with
  | none => rw [f] at e; cases e
  | some r =>
    rw [f] at e
    cases e
    have q := List.find?_some f
    exact ⟨r, List.mem_of_find?_eq_some f, of_decide_eq_true q, rfl⟩
theorem lk_none {rs : List Rw} {k : Pr} (e : lk rs k = none) {r : Rw} (h : r ∈ rs) : r.1 ≠ k := fun c => by
  unfold lk at e
  rw [Option.map_eq_none_iff, List.find?_eq_none] at e
  exact e r h (decide_eq_true c)
def kvR (rs : List Rw) : List (List Key × V) := rs.map fun r => ([Sum.inr r.1.1, Sum.inr r.1.2], oI r.2)
theorem kvR_val (rs : List Rw) (k : Pr) : valV (kvR rs) [Sum.inr k.1, Sum.inr k.2] = (lk rs k).map oI := by
  induction rs with
  | nil => rfl
  | cons r rs ih =>
    show valV (([Sum.inr r.1.1, Sum.inr r.1.2], oI r.2) :: kvR rs) _ = _
    unfold lk
    by_cases c : r.1 = k
    · rw [valV_pos (by rw [c]), List.find?_cons_of_pos (by simpa using c)]
      rfl
    · rw [valV_neg, List.find?_cons_of_neg (by simpa using c)]
      · exact ih
      · intro e
        injection e with e1 e2
        injection e2 with e2 _
        exact c (Prod.ext (Sum.inr.inj e1) (Sum.inr.inj e2))
def rateA (rs : List Rw) (h l : Str) : Nat → Option Int
  | 0 => some 0
  | n + 1 => match lk rs (pre h (n + 1), l) with
    | some x => x
    | none => match lk rs (pre h (n + 1), Str.ofString "") with
      | some x => x
      | none => rateA rs h l n
theorem rateA_is {rs : List Rw} (g : Gd rs) (h l : Str) : ∀ n, n ≤ h.length → (∀ r ∈ rs, fits h l r = true → r.1.1.length ≤ n) → RateIs rs h l (rateA rs h l n)
  | 0, _, k => by
    refine ⟨none, fun r hr => Bool.eq_false_iff.mpr fun f => ?_, rfl⟩
    have a := (isAddr_iff _).mp (g.1 r hr).1
    have := k r hr f
    have := a.1
    rw [← len_tl] at this
    omega
  | n + 1, hn, k => by
    have ps := pre_starts hn
    have low : ∀ c ∈ rs, fits h l c = true → c.1.1.length < n + 1 ∨ c.1.1 = pre h (n + 1) := fun c hc f => by
      by_cases z : c.1.1.length < n + 1
      · exact .inl z
      · have e := fits_starts f
        rw [show c.1.1.length = n + 1 from by have := k c hc f; omega] at e
        exact .inr e.symm
    unfold rateA
    cases e1 : lk rs (pre h (n + 1), l) with
    | some x =>
      obtain ⟨r, hr, er, rfl⟩ := lk_some e1
      refine ⟨some r, ⟨hr, ?_, fun c hc f => ?_⟩, rfl⟩
      · unfold fits
        rw [er, ps.1, decide_eq_true rfl]
        rfl
      · rcases low c hc f with z | z
        · exact .inl (by rw [er]; show _ < (pre h (n + 1)).length; rw [ps.2]; exact z)
        · exact .inr ⟨by rw [er]; exact z, fun _ => by rw [er]⟩
    | none =>
      cases e2 : lk rs (pre h (n + 1), Str.ofString "") with
      | some x =>
        obtain ⟨r, hr, er, rfl⟩ := lk_some e2
        refine ⟨some r, ⟨hr, ?_, fun c hc f => ?_⟩, rfl⟩
        · unfold fits
          rw [er, ps.1, Bool.true_and, Bool.or_eq_true]
          exact .inr (decide_eq_true rfl)
        · rcases low c hc f with z | z
          · exact .inl (by rw [er]; show _ < (pre h (n + 1)).length; rw [ps.2]; exact z)
          · exact .inr ⟨by rw [er]; exact z, fun q => absurd (Prod.ext z q) (lk_none e1 hc)⟩
      | none =>
        refine rateA_is g h l n (by omega) fun c hc f => ?_
        rcases low c hc f with z | z
        · omega
        · unfold fits at f
          rw [Bool.and_eq_true, Bool.or_eq_true, decide_eq_true_eq, decide_eq_true_eq] at f
          rcases f.2 with q | q
          · exact absurd (Prod.ext z q) (lk_none e1 hc)
          · exact absurd (Prod.ext z q) (lk_none e2 hc)
/-- the rate -/
def rate (rs : List Rw) (h l : Str) : Option Int := rateA rs h l h.length
theorem rate_is {rs : List Rw} (g : Gd rs) (h l : Str) : RateIs rs h l (rate rs h l) := rateA_is g h l _ (Nat.le_refl _) fun r _ f => by
  unfold fits at f
  rw [Bool.and_eq_true] at f
  exact starts_len f.1
theorem rate_eq {rs qs : List Rw} (g : Gd rs) (g2 : Gd qs) (m : ∀ r, r ∈ rs ↔ r ∈ qs) (h l : Str) : rate rs h l = rate qs h l := rate_uniq g2.2 (rate_perm m (rate_is g h l)) (rate_is g2 h l)
end Tb
namespace Tb
open PySem PySem.Spec PyProof.Rows L2
theorem tor_at {t u : TT} {σ : L2.St} {H : Hp} {Q : Bool → Hp → Prop} (c d : Bool) (h1 : ∀ Q' : Bool → Hp → Prop, Q' c H → t σ H Q') (h2 : c = false → ∀ Q' : Bool → Hp → Prop, Q' d H → u σ H Q') (q : Q (c || d) H) : tOr t u σ H Q := by
  refine h1 _ ?_
  cases c with
  | true => exact q
  | false => exact h2 rfl _ q
theorem tand_at {t u : TT} {σ : L2.St} {H : Hp} {Q : Bool → Hp → Prop} (c d : Bool) (h1 : ∀ Q' : Bool → Hp → Prop, Q' c H → t σ H Q') (h2 : c = true → ∀ Q' : Bool → Hp → Prop, Q' d H → u σ H Q') (q : Q (c && d) H) : tAnd t u σ H Q := by
  refine h1 _ ?_
  cases c with
  | true => exact h2 rfl _ q
  | false => exact q
theorem split_at {α : Type} {L : List α} {i : Nat} {x : α} (h : L[i]? = some x) : L = L.take i ++ x :: L.drop (i + 1) := by
  have li := (List.getElem?_eq_some_iff.mp h).1
  have e := (List.getElem?_eq_some_iff.mp h).2
  rw [← e, ← List.drop_eq_getElem_cons li, List.take_append_drop]
theorem mem_take_succ {α : Type} {L : List α} {i : Nat} {x y : α} (h : L[i]? = some x) (m : y ∈ L.take (i + 1)) : y ∈ L.take i ∨ y = x := by
  rw [take_snoc h] at m
  rcases List.mem_append.mp m with m | m
  · exact .inl m
  · exact .inr (List.mem_singleton.mp m)
theorem inV_iff {x : Str} {ks : List Str} : inV (.str x) (ks.map V.str) = decide (x ∈ ks) := by
  by_cases h : x ∈ ks
  · rw [decide_eq_true h]; exact inV_str h
  · rw [decide_eq_false h]; exact Bool.eq_false_iff.mpr fun e => h (str_inV e)
theorem in_it {J : It} {n : Nat} {G : Hp → Prop} {Y : Nat → Hp → V → Hp → Prop} (w : Walk J n G Y) {H4 : Hp} {Z : Hp → Prop} {S : Nat → V → Hp → Hp → (Hp → Prop) → Prop} (Pv : Nat → Hp → Prop) (h0 : Pv 0 H4) (hG : ∀ i H, i ≤ n → Pv i H → G H)
    (hs : ∀ j x H H', j < n → Pv j H → Y j H x H' → S j x H H' (Pv (j + 1))) (hd : ∀ H, Pv n H → Z H) :
    ∃ W1 : Nat → Nat → Hp → Prop, (∃ m, W1 0 m H4) ∧ ∀ j k H, W1 j k H → (J.stop j H ∧ Z H) ∨ (J.go j H ∧ ∃ Nx : Hp → Prop, (∀ H', Nx H' → ∃ k', k' < k ∧ W1 (j + 1) k' H') ∧ ∀ x H', J.yld j H x H' → S j x H H' Nx) := by
  refine ⟨fun i m H => m = n - i ∧ i ≤ n ∧ Pv i H, ⟨n, by simp, Nat.zero_le _, h0⟩, ?_⟩
  rintro i m H ⟨rfl, hi, p⟩
  have q := hG i H hi p
  by_cases hlt : i < n
  · exact .inr ⟨w.goes i H hlt q, Pv (i + 1), fun H' p' => ⟨n - (i + 1), by omega, rfl, hlt, p'⟩, fun x H' y => hs i x H H' hlt p (w.yields i H x H' hlt q y)⟩
  · have e : i = n := by omega
    subst e
    exact .inl ⟨w.stops H q, hd H p⟩
section
variable {P : Program} {w : World} {K : PySem.W.Frag} {mg : Str → Option Value} {base : Heap}
abbrev CIsAddr (P : Program) (w : World) (K : PySem.W.Frag) (mg : Str → Option Value) (base : Heap) (g : Addr) (gd : FuncData) := C1 P w K mg base "is_address" sIsAddr ["text"] 3 (spT isAddr) g gd
abbrev CIsName (P : Program) (w : World) (K : PySem.W.Frag) (mg : Str → Option Value) (base : Heap) (g : Addr) (gd : FuncData) := C1 P w K mg base "is_name" sIsName ["text"] 2 (spT isName) g gd
theorem addr_small {x : Str} (h : isAddr x = true) : x.length ≤ 8 := by
  have := ((isAddr_iff x).mp h).2.1
  rw [len_tl]; exact this
theorem lane_small {x : Str} (h : isLane x = true) : x.length ≤ 12 := by
  unfold isLane at h
  rw [Bool.or_eq_true] at h
  rcases h with h | h
  · rw [of_decide_eq_true h]; decide +kernel
  · rw [len_tl]; exact ((isName_iff x).mp h).1
end
end Tb
namespace Tb
open PySem PySem.Spec PyProof.Rows L2
abbrev sTRate : Stmt := inClass (topS 31) 2
abbrev NTRate : List Str := ["self", "heading", "origin", "end", "land"]
theorem scTRate : FnScope NTRate ["self", "heading", "origin"] (defScope sTRate) := ⟨rfl, rfl, rfl, by decide +kernel, rfl, by decide +kernel, by decide +kernel⟩
abbrev sTRows : Stmt := inClass (topS 31) 1
abbrev NTRows : List Str := ["self", "rate", "prefix", "land"]
theorem scTRows : FnScope NTRows ["self"] (defScope sTRows) := ⟨rfl, rfl, rfl, by decide +kernel, rfl, by decide +kernel, by decide +kernel⟩
/-! ### a tariff -/
abbrev wLand : Str := "land"
abbrev wFree : Str := "free"
abbrev wShare : Str := "share"
abbrev wRates : Str := "_rates"
def tarF (a b c : V) (d : Addr) : List (Str × V) := [(wLand, a), (wFree, b), (wShare, c), (wRates, .ref d)]
theorem tarF_rates {a b c : V} {d : Addr} : (tarF a b c d).lookup wRates = some (.ref d) := by
  unfold tarF
  rw [List.lookup_cons, show (wRates == wLand) = false by decide +kernel, List.lookup_cons, show (wRates == wFree) = false by decide +kernel, List.lookup_cons, show (wRates == wShare) = false by decide +kernel, List.lookup_cons, beq_self_eq_true]
abbrev SrtR (ss : List Rw) : Prop := ss.Pairwise fun x y => le2 x.1 y.1 = true
structure TarOf (C : Addr) (H : Hp) (j : Addr) (rs : List Rw) : Prop where
  ex : ∃ dx a b c d ss, H j = some (.ins C dx (tarF a b c d)) ∧ H d = some (.dT (kvR ss)) ∧ ss.Perm rs ∧ SrtR ss
  g : Gd rs
  n : rs.length ≤ 50
theorem ni_dT {kvs : List (List Key × V)} : ¬ IntL (.dT kvs) := fun ⟨_, _, e⟩ => by cases e
theorem TarOf.kp {C : Addr} {H H' : Hp} {j : Addr} {rs : List Rw} (T : TarOf C H j rs) (h : Kp H H') : TarOf C H' j rs := by
  obtain ⟨⟨dx, a, b, c, d, ss, h1, h2, h3⟩, g, n⟩ := T
  exact ⟨⟨dx, a, b, c, d, ss, h _ _ h1 ni_ins, h _ _ h2 ni_dT, h3⟩, g, n⟩
theorem TarOf.same {C : Addr} {H H' : Hp} {j : Addr} {rs : List Rw} (T : TarOf C H j rs) (h : Same H H') : TarOf C H' j rs := T.kp (Same.kp h)
/-- of the class Tariff itself -/
structure TCls (K : PySem.W.Frag) (C : Addr) : Prop where
  c : Cls K C
  n1 : NoAttr K C wLand
  n2 : NoAttr K C wFree
  n3 : NoAttr K C wShare
  n4 : NoAttr K C wRates
theorem gd_perm {rs qs : List Rw} (g : Gd rs) (h : rs.Perm qs) : Gd qs := ⟨fun r hr => g.1 r (h.mem_iff.mpr hr), (h.map Prod.fst).nodup_iff.mp g.2⟩
theorem rate_same {rs qs : List Rw} (g : Gd rs) (h : rs.Perm qs) (x l : Str) : rate rs x l = rate qs x l := rate_eq g (gd_perm g h) (fun _ => h.mem_iff) x l
theorem rateA_succ {ss : List Rw} {h l : Str} {n : Nat} : rateA ss h l (n + 1) = match lk ss (pre h (n + 1), l) with
    | some x => x
    | none => match lk ss (pre h (n + 1), Str.ofString "") with
      | some x => x
      | none => rateA ss h l n := rfl
theorem lk_val {ss : List Rw} {k : Pr} : (valV (kvR ss) [Sum.inr k.1, Sum.inr k.2]).isSome = (lk ss k).isSome := by
  rw [kvR_val]
  cases lk ss k <;> rfl
theorem walk_pr {d : Addr} {o : Obj} {kvs : List (List Key × V)} : Walk (ItPr d o kvs) kvs.length (fun H => H d = some (.frz o (.dT kvs)))
    (fun i H x H' => ∃ (T q : Addr) (k : List Key) (v : V), x = .ref T ∧ kvs[i]? = some (k, v) ∧ H q = some (.tup (k.map kV)) ∧ H T = none ∧ H' = upd H T (.tup [.ref q, v])) :=
  ⟨fun i H hi h => ⟨hi, h⟩, fun H h => ⟨Nat.le_refl _, h⟩, fun i H x H' hi h y => y⟩
theorem kvR_len (ss : List Rw) : (kvR ss).length = ss.length := List.length_map _
theorem kvR_at {ss : List Rw} {i : Nat} {k : List Key} {v : V} (h : (kvR ss)[i]? = some (k, v)) : ∃ r, ss[i]? = some r ∧ k = [Sum.inr r.1.1, Sum.inr r.1.2] ∧ v = oI r.2 := by
  unfold kvR at h
  rw [List.getElem?_map] at h
  cases e : ss[i]? with
  | none => rw [e] at h; cases h
  | some r => rw [e] at h; cases h; exact ⟨r, rfl, rfl, rfl⟩
section
variable {P : Program} {w : World} {K : PySem.W.Frag} {mg : Str → Option Value} {base : Heap}
def spTRate (C : Addr) : Sp := fun vs H Q _ => ∃ (j : Addr) (h l : Str) (rs : List Rw), vs = [.ref j, .str h, .str l] ∧ TarOf C H j rs ∧ h.length ≤ 1000 ∧ ∀ H', Same H H' → Q (oI (rate rs h l)) H'
theorem ok_trate {f C : Addr} {fd : FuncData} {k : Nat} (F : Fun K "rate" "Tariff.rate" sTRate f fd) (B : Blt mg) (TC : TCls K C) : FnOk P w K mg base CX0 (k + 1) f fd ["self", "heading", "origin"] (spTRate C) := by
  refine F.ok scTRate (fun vs H Q E h => ?_) (fun cdv A outer s H vs Q E hr h => ?_)
  · obtain ⟨j, h, l, rs, rfl, _⟩ := h
    rfl
  · obtain ⟨j, h, l, rs, rfl, hT, hl, q⟩ := h
    have hu := hu_of hr
    have hz : sizeLine = 16777216 := rfl
    obtain ⟨⟨dx, a, b, c, d, ss, hj, hd, hp, hs⟩, hg, hn⟩ := id hT
    have gs : Gd ss := gd_perm hg hp.symm
    have er : rate rs h l = rateA ss h l h.length := (rate_same gs hp h l).symm
    rw [er] at q
    refine ⟨_, (pss_cons (ps_for PassesOwn.never rfl (pi_range3 (by rfl) B.range (pa_cons (pe_callB call_len_str (by rfl) B.len PySem.boot_len (pa_cons (pv 1) pa_nil)) (pa_cons pe_int (pa_cons (pe_un un_neg pe_int) pa_nil)))) (pg_name (i := 3) scTRate.nd rfl (.inl rfl))
        (pss_one (ps_for PassesOwn.never rfl (pi_tup (pe_tup (pa_cons (pv 2) (pa_cons ((pe_txt (by rfl) B.hr)) pa_nil)))) (pg_name (i := 4) scTRate.nd rfl (.inl rfl))
          (pss_one (ps_if (pt_cmp (pc_din hu (pe_tup (pa_cons (pe_slice sl_str (pv 1) po_none (po_some (pv 3))) (pa_cons (pv 4) pa_nil))) (pe_fld (pv 0) rfl)))
            (pss_one (ps_ret (pe_dget hu (pe_fld (pv 0) rfl) (pe_tup (pa_cons (pe_slice sl_str (pv 1) po_none (po_some (pv 3))) (pa_cons (pv 4) pa_nil))) (fun _ _ => rfl))))
            pss_nil)))))
      (pss_one (ps_ret pe_int))), ?_⟩
    refine ⟨.str h, rfl, h, rfl, by omega, 1, rfl, (h.length : Int), 0, -1, ((h.length : Int) - 0).toNat, rfl, RgC.neg (by omega) (by omega) (by omega) (by omega), ?_⟩
    refine for_rangeC (lo := (h.length : Int)) (c := -1) (n := ((h.length : Int) - 0).toNat) (fun i σ H' => Same H H' ∧ (∃ y3 y4, σ = [some (.ref j), some (.str h), some (.str l), y3, y4]) ∧ rateA ss h l h.length = rateA ss h l (h.length - i)) ⟨Same.refl _, ⟨none, none, rfl⟩, rfl⟩ ?_ ?_
    · rintro i σ H1 hi ⟨S1, ⟨y3, y4, rfl⟩, e1⟩
      have hi' : i < h.length := by omega
      have ei : (h.length : Int) + (i : Int) * -1 = ((h.length - i : Nat) : Int) := by omega
      rw [ei]
      obtain ⟨m, em⟩ : ∃ m, h.length - i = m + 1 := ⟨h.length - i - 1, by omega⟩
      rw [em] at e1 ⊢
      refine ⟨.str l, rfl, by show 2 ≤ sizeLine; omega, fun T nT => ?_⟩
      have S2 := S1.trans (same_upd (o := .tup [.str l, .str (Str.ofString "")]) nT)
      refine ⟨T, rfl, ⟨_, .of upd_same⟩, ?_⟩
      refine for_it (walk_tup (a := T) (xs := [.str l, .str (Str.ofString "")])) (fun i2 σ H' => Same (upd H1 T (.tup [.str l, .str (Str.ofString "")])) H' ∧ (∃ y4, σ = [some (.ref j), some (.str h), some (.str l), some (.int ((m + 1 : Nat) : Int)), y4]) ∧ (1 ≤ i2 → lk ss (pre h (m + 1), l) = none) ∧ (2 ≤ i2 → lk ss (pre h (m + 1), Str.ofString "") = none))
        ⟨Same.refl _, ⟨_, rfl⟩, fun z => by omega, fun z => by omega⟩ (fun i2 σ H' _ hP => .of (hP.1 _ _ upd_same)) (fun i2 v σ H3 H4 hi2 hP hy => ?_) (fun σ H3 hP => ?_)
      · obtain ⟨S3, ⟨y4, rfl⟩, n1, n2⟩ := hP
        obtain ⟨rfl, ev⟩ := hy
        have S03 := S2.trans S3
        have hi2 : i2 < 2 := hi2
        rcases (show i2 = 0 ∨ i2 = 1 by omega) with rfl | rfl
        · cases (Option.some.inj ev)
          refine ⟨_, rfl, .int ((m + 1 : Nat) : Int), rfl, ((m + 1 : Nat) : Int), rfl, h, rfl, by omega, _, rfl, by show 2 ≤ sizeLine; omega, fun U nU => ?_⟩
          have S4 := S03.trans (same_upd (o := .tup [.str (pre h (m + 1)), .str l]) nU)
          refine ⟨.ref j, rfl, j, C, dx, _, .ref d, rfl, S4 _ _ hj, TC.c, TC.n4, tarF_rates, d, _, rfl, DGet.t (k := [Sum.inr (pre h (m + 1)), Sum.inr l]) (S4 _ _ hd) upd_same, ?_⟩
          rw [lk_val (k := (pre h (m + 1), l))]
          cases e2 : lk ss (pre h (m + 1), l) with
          | some y =>
            refine ⟨_, rfl, ?_⟩
            refine ⟨.ref j, rfl, j, C, dx, _, .ref d, rfl, S4 _ _ hj, TC.c, TC.n4, tarF_rates, _, rfl, .int ((m + 1 : Nat) : Int), rfl, ((m + 1 : Nat) : Int), rfl, h, rfl, by omega, _, rfl, by show 2 ≤ sizeLine; omega, fun U2 nU2 => ?_⟩
            have S5 := S4.trans (same_upd (o := .tup [.str (pre h (m + 1)), .str l]) nU2)
            refine ⟨d, oI y, rfl, ?_, ?_⟩
            · have ev : valV (kvR ss) [Sum.inr (pre h (m + 1)), Sum.inr l] = some (oI y) := by rw [kvR_val ss (pre h (m + 1), l), e2]; rfl
              rw [← ev]
              exact DGet.t (k := [Sum.inr (pre h (m + 1)), Sum.inr l]) (S5 _ _ hd) upd_same
            · have : rateA ss h l h.length = y := by rw [e1, rateA_succ, e2]
              rw [this] at q
              exact q _ S5
          | none =>
            refine ⟨_, rfl, ?_⟩
            exact ⟨S3.trans (same_upd nU), ⟨_, rfl⟩, fun _ => rfl, fun z => by omega⟩
        · cases (Option.some.inj ev)
          refine ⟨_, rfl, .int ((m + 1 : Nat) : Int), rfl, ((m + 1 : Nat) : Int), rfl, h, rfl, by omega, _, rfl, by show 2 ≤ sizeLine; omega, fun U nU => ?_⟩
          have S4 := S03.trans (same_upd (o := .tup [.str (pre h (m + 1)), .str (Str.ofString "")]) nU)
          refine ⟨.ref j, rfl, j, C, dx, _, .ref d, rfl, S4 _ _ hj, TC.c, TC.n4, tarF_rates, d, _, rfl, DGet.t (k := [Sum.inr (pre h (m + 1)), Sum.inr (Str.ofString "")]) (S4 _ _ hd) upd_same, ?_⟩
          rw [lk_val (k := (pre h (m + 1), (Str.ofString "")))]
          cases e2 : lk ss (pre h (m + 1), (Str.ofString "")) with
          | some y =>
            refine ⟨_, rfl, ?_⟩
            refine ⟨.ref j, rfl, j, C, dx, _, .ref d, rfl, S4 _ _ hj, TC.c, TC.n4, tarF_rates, _, rfl, .int ((m + 1 : Nat) : Int), rfl, ((m + 1 : Nat) : Int), rfl, h, rfl, by omega, _, rfl, by show 2 ≤ sizeLine; omega, fun U2 nU2 => ?_⟩
            have S5 := S4.trans (same_upd (o := .tup [.str (pre h (m + 1)), .str (Str.ofString "")]) nU2)
            refine ⟨d, oI y, rfl, ?_, ?_⟩
            · have ev : valV (kvR ss) [Sum.inr (pre h (m + 1)), Sum.inr (Str.ofString "")] = some (oI y) := by rw [kvR_val ss (pre h (m + 1), (Str.ofString "")), e2]; rfl
              rw [← ev]
              exact DGet.t (k := [Sum.inr (pre h (m + 1)), Sum.inr (Str.ofString "")]) (S5 _ _ hd) upd_same
            · have : rateA ss h l h.length = y := by rw [e1, rateA_succ, n1 (by omega), e2]
              rw [this] at q
              exact q _ S5
          | none =>
            refine ⟨_, rfl, ?_⟩
            exact ⟨S3.trans (same_upd nU), ⟨_, rfl⟩, fun _ => n1 (by omega), fun _ => rfl⟩
      · obtain ⟨S3, ⟨y4, rfl⟩, n1, n2⟩ := hP
        refine ⟨S2.trans S3, ⟨_, _, rfl⟩, ?_⟩
        rw [e1, show h.length - (i + 1) = m by omega]
        rw [rateA_succ, n1 (by show 1 ≤ 2; omega), n2 (by show 2 ≤ 2; omega)]
    · rintro σ H1 ⟨S1, ⟨y3, y4, rfl⟩, e1⟩
      rw [show h.length - ((h.length : Int) - 0).toNat = 0 by omega] at e1
      rw [e1] at q
      exact q H1 S1
end
end Tb
namespace L2
open PySem PySem.Spec PyProof.Rows
section
variable {X : Cx} {tg : Expr}
/-- a list (b) or a tuple -/
def itAny (K : PySem.W.Frag) (a : Addr) (b : Bool) : It := if b = true then Itl K a else Itt K a
def SqAny (K : PySem.W.Frag) (H : Hp) (a : Addr) (b : Bool) (xs : List V) : Prop := if b = true then SqL K H a xs else SqT K H a xs
def iAny (K : PySem.W.Frag) (tl : TE) : TI := fun σ H R => tl σ H fun x H1 => ∃ a b, x = .ref a ∧ (∃ xs, SqAny K H1 a b xs) ∧ R (itAny K a b) H1
theorem pi_any {l : Expr} {tl : TE} (hl : PE X l tl) : PI X tg l (iAny X.K tl) := by
  refine ⟨fun pins s σ H R I h => ?_⟩
  refine thn (hl.run pins s σ H _ I h) fun v s1 ⟨x, H1, I1, r1, a, b, e, hq, q⟩ => ?_
  subst e
  cases r1
  obtain ⟨xs, hq⟩ := hq
  have room : ∀ {J : It} {tn : Nat → Heap → Prop} {o : Obj}, Turn X.prog X.w X.K tg J [s1.heap.objs.size] s1.heap.objs.size tn → tn 0 (s1.heap.push o) → R J H1 → PIE X pins σ tg R (.ref s1.heap.objs.size) { s1 with heap := s1.heap.push o } := fun {J tn o} T st q =>
    pi_one (tk := s1.toks) I1 o T st q
  cases b with
  | true =>
    obtain ⟨its, rv, p, hz⟩ := I1.list (show SqL X.K H1 a xs from hq)
    exact wpAny_pyIter_list p.isList (room (turn_list a _) ⟨_, Heap.get?_push_size _ rfl, rfl, rfl⟩ q)
  | false =>
    obtain ⟨its, rv, p, hz⟩ := I1.tuple (show SqT X.K H1 a xs from hq)
    exact wpAny_pyIter_tuple (show s1.heap.IsTuple a its.toArray from p) (room (turn_tuple a _) ⟨_, Heap.get?_push_size _ rfl, rfl, rfl⟩ q)
theorem walk_any {K : PySem.W.Frag} {a : Addr} {b : Bool} {xs : List V} : Walk (itAny K a b) xs.length (fun H => SqAny K H a b xs) (YAt xs) := by
  cases b with
  | true => exact walk_list
  | false => exact walk_tup
end
end L2
namespace Tb
open PySem PySem.Spec PyProof.Rows L2
abbrev sTInit : Stmt := inClass (topS 31) 0
abbrev NTInit : List Str := ["self", "land", "rows", "free", "share", "rates", "prefix", "origin", "rate", "key"]
theorem scTInit : FnScope NTInit ["self", "land", "rows", "free", "share"] (defScope sTInit) := ⟨rfl, rfl, rfl, by decide +kernel, rfl, by decide +kernel, by decide +kernel⟩
theorem unlock {H H3 : Hp} {d : Addr} {od : Obj} {u : HO} (hd : H d = some u) (S : Same (upd H d (.frz od u)) H3) : Same H (upd H3 d u) := fun b o e => by
  by_cases c : b = d
  · subst c
    rw [hd] at e
    rw [upd_same, e]
  · rw [upd_ne c]
    exact S b o (by rw [upd_ne c]; exact e)
section
variable {P : Program} {w : World} {K : PySem.W.Frag} {mg : Str → Option Value} {base : Heap}
def spTRows (C : Addr) : Sp := fun vs H Q _ => ∃ (j : Addr) (rs : List Rw), vs = [.ref j] ∧ TarOf C H j rs ∧ ∀ (p : Addr) (bs : List (Addr × Rw)) (H' : Hp), Same H H' → H' p = some (.tup (bs.map fun b => V.ref b.1)) → (∀ b ∈ bs, H' b.1 = some (.tup (rwV b.2))) → (bs.map (·.2)).Perm rs → SrtR (bs.map (·.2)) → Q (.ref p) H'
theorem ok_trows {f C : Addr} {fd : FuncData} {k : Nat} (F : Fun K "rows" "Tariff.rows" sTRows f fd) (B : Blt mg) (TC : TCls K C) : FnOk P w K mg base CX0 (k + 1) f fd ["self"] (spTRows C) := by
  refine F.ok scTRows (fun vs H Q E h => ?_) (fun cdv A outer s H vs Q E hr h => ?_)
  · obtain ⟨j, rs, rfl, _⟩ := h
    rfl
  · obtain ⟨j, rs, rfl, hT, q⟩ := h
    have hu := hu_of hr
    have hz : sizeLine = 16777216 := rfl
    obtain ⟨⟨dx, a, b, c, d, ss, hj, hd, hp, hs⟩, hg, hn⟩ := id hT
    have ln : ss.length ≤ 50 := by rw [hp.length_eq]; exact hn
    refine ⟨_, pss_one (ps_ret (pe_callTy call_tuple_of (by rfl) B.tuple PyProof.Rows.boot_tuple (pa_cons (pe_lock (pe_lc (own := [("rate", 1), ("prefix", 2), ("land", 3)]) (g := gTup K 2 (gCons (gTup K 2 (gCons (gName 2) (gCons (gName 3) gNil))) (gCons (gName 1) gNil))) (by rfl) scTRows.nd (pi_pr (pe_fld (pv 0) rfl)) (blkOk_by (N := NTRows) (sc := defScope sTRows) (by decide +kernel)) (fun _ _ _ _ _ => pg_tup (by rfl) (pgs_cons (pg_tup (by rfl) (pgs_cons (pg_name (i := 2) scTRows.nd rfl (Or.inl rfl)) (pgs_cons (pg_name (i := 3) scTRows.nd rfl (Or.inl rfl)) pgs_nil))) (pgs_cons (pg_name (i := 1) scTRows.nd rfl (Or.inl rfl)) pgs_nil))) (fun _ _ _ _ _ => pts_nil) (fun _ _ _ _ _ => pe_tup (pa_cons (pv 2) (pa_cons (pv 3) (pa_cons (pv 1) pa_nil)))))) pa_nil))), ?_⟩
    refine ⟨d, .dT (kvR ss), hd, trivial, fun od => ?_⟩
    have jd : j ≠ d := fun e => by rw [e, hd] at hj; cases hj
    generalize e1 : upd H d (.frz od (.dT (kvR ss))) = H1
    have hj1 : H1 j = some (.ins C dx (tarF a b c d)) := by rw [← e1, upd_ne jd]; exact hj
    have hd1 : H1 d = some (.frz od (.dT (kvR ss))) := by rw [← e1]; exact upd_same
    refine ⟨.ref j, rfl, j, C, dx, _, .ref d, rfl, hj1, TC.c, TC.n4, tarF_rates, d, od, kvR ss, rfl, hd1, fun D nD => ?_⟩
    have Dd : D ≠ d := fun e => by rw [e, hd1] at nD; cases nD
    refine lc_it walk_pr (fun i H2 => Same H1 H2 ∧ ∃ bs : List (Addr × Rw), H2 D = some (.lst (bs.map fun b => V.ref b.1)) ∧ (∀ b ∈ bs, H2 b.1 = some (.tup (rwV b.2))) ∧ bs.map (·.2) = ss.take i) ⟨same_upd nD, [], upd_same, nofun, rfl⟩ (fun i H2 _ hP => hP.1 _ _ hd1) (fun i v H2 H3 hi hP hy => ?_) (fun H2 hP => ?_)
    · obtain ⟨S2, bs, hD, hb, eb⟩ := hP
      obtain ⟨T, qa, kk, vv, rfl, ev, hq, nT, rfl⟩ := hy
      obtain ⟨r, er, rfl, rfl⟩ := kvR_at ev
      have qT : qa ≠ T := ne_of_none hq nT
      refine ⟨T, _, rfl, .of upd_same, rfl, .ref qa, _, rfl, qa, _, rfl, .of (by rw [upd_ne qT]; exact hq), rfl, _, _, rfl, _, _, rfl, rfl, oI r.2, _, rfl, rfl, rfl, .str r.1.1, rfl, .str r.1.2, rfl, oI r.2, rfl, by show 3 ≤ sizeLine; omega, fun U nU => ?_⟩
      have S4 := (same_upd (o := .tup [.ref qa, oI r.2]) nT).trans (same_upd (o := .tup [.str r.1.1, .str r.1.2, oI r.2]) nU)
      have S5 := S2.trans S4
      have lb : bs.length ≤ 50 := by
        have := congrArg List.length eb
        rw [List.length_map, List.length_take] at this
        omega
      have nD1 : H1 D = none := nD
      have DU : D ≠ U := ne_of_none (S4 _ _ hD |> fun h => (by have := hD; exact (same_upd (o := .tup [.ref qa, oI r.2]) nT) _ _ this)) nU
      refine ⟨_, S4 _ _ hD, by rw [List.length_map]; omega, fun c o hc => ?_, bs ++ [(U, r)], ?_, fun b hb' => ?_, ?_⟩
      · rw [upd_ne (ne_of_none hc nD1)]; exact S5 _ _ hc
      · rw [upd_same, List.map_append]; rfl
      · rcases List.mem_append.mp hb' with hb' | hb'
        · have h := S4 _ _ (hb b hb')
          rw [upd_ne (ne_of h (S4 _ _ hD) (fun z => by cases z))]; exact h
        · rw [List.mem_singleton.mp hb']
          rw [upd_ne DU.symm]; exact upd_same
      · rw [List.map_append, eb, take_snoc er]; rfl
    · obtain ⟨S2, bs, hD, hb, eb⟩ := hP
      rw [kvR_len, List.take_length] at eb
      refine ⟨S2 _ _ hd1, ?_⟩
      have S3 : Same H (upd H2 d (.dT (kvR ss))) := unlock hd (by rw [e1]; exact S2)
      have hDf : upd H2 d (.dT (kvR ss)) D = some (.lst (bs.map fun b => V.ref b.1)) := by rw [upd_ne Dd]; exact hD
      refine ⟨D, bs.map fun b => V.ref b.1, rfl, ?_⟩
      refine .inl ?_
      refine ⟨sqOf hDf, ?_⟩
      intro p np
      have Sp := same_upd (o := .tup (bs.map fun b => V.ref b.1)) np
      have at_ : ∀ b ∈ bs, upd H2 d (.dT (kvR ss)) b.1 = some (.tup (rwV b.2)) := fun b m => by
        have h := hb b m
        rw [upd_ne (fun z => by rw [z, S2 _ _ hd1] at h; cases h)]
        exact h
      exact q p bs _ (S3.trans Sp) upd_same (fun b m => Sp _ _ (at_ b m)) (by rw [eb]; exact hp) (by rw [eb]; exact hs)
end
end Tb
set_option maxHeartbeats 1000000
/-! zip of a tuple and a list: the rule that the library lacks, after its rules of two lists and of two tuples -/
namespace ZM
open PySem PySem.Spec PyProof.Rows L2
open PySem.Sem (wp)
section
variable {pr : Program} {wd : World} {Ar : Around} {Ex : Value → Shared → Prop} {sh : Shared}
theorem zipT_next_item {zo oI oO j1 j2 m1 m2 : Addr} {n1 n2 : Nat} {us ws : Array Value} {u0 w0 a0 b0 : Value} {Wi : Value → Shared → Prop} (Ap : ZipApart zo oI oO j1 j2 m1 m2)
    (ez : IsZip sh.heap zo oI oO .none) (eI : IsPair sh.heap oI (.ref j1) (.ref j2)) (eO : IsPair sh.heap oO a0 b0)
    (t1 : sh.heap.IsTupleIter j1 m1 n1) (t2 : sh.heap.IsListIter j2 m2 n2) (w1 : sh.heap.IsTuple m1 us) (w2 : sh.heap.IsList m2 ws) (fx : us[n1]? = some u0) (fy : ws[n2]? = some w0)
    (wish : ∀ hp', IsZip hp' zo oI oO (rawInt sh.heap.objs.size) → IsPair hp' oO u0 w0 → hp'.IsTupleIter j1 m1 (n1 + 1) → hp'.IsListIter j2 m2 (n2 + 1) → IsPair hp' sh.heap.objs.size u0 w0 → hp'.objs.size = sh.heap.objs.size + 1 →
      (∀ c0 o0, c0 ≠ zo → c0 ≠ oO → c0 ≠ j1 → c0 ≠ j2 → sh.heap.get? c0 = some o0 → hp'.get? c0 = some o0) → Wi (.ref sh.heap.objs.size) { sh with heap := hp' }) :
    wpAny (model pr wd) Ar (Builtin.«zip.__next__» ⟨[.ref zo], []⟩) (fun fin s' => ∃ vv, fin = .done (.ret vv) ∧ Wi vv s') Ex sh := by
  show wpAny _ _ (field (.ref zo) 2 >>= _) _ _ _
  refine wpAny_bind (wpAny_field ez rfl (x := .bool false) rfl ?_)
  show wpAny _ _ (field (.ref zo) 3 >>= _) _ _ _
  refine wpAny_bind (wpAny_field ez rfl (x := .ref oI) rfl ?_)
  refine wpAny_bind (wpAny_seqItems eI rfl ?_)
  show wpAny _ _ (Builtin.SmallTypes.ownedTupleIsFree (.ref zo) >>= _) _ _ _
  refine wpAny_bind ?_
  unfold Builtin.SmallTypes.ownedTupleIsFree
  refine wpAny_bind (wpAny_field ez rfl (x := .none) rfl (wpAny_pure ?_))
  simp only [if_true]
  refine wpAny_bind (wpAny_rule ?_)
  refine wpAny_bind (wpAny_field ez rfl (x := .ref oO) rfl ?_)
  refine wpAny_bind (wpAny_setField_rec ez (by simp) fun g₁ ez₁ es₁ => ?_)
  replace ez₁ : IsZip g₁ zo oI oO .ellipsis := ez₁
  refine wpAny_bind ?_
  simp only [List.zipIdx_cons, List.zipIdx_nil, List.forIn_cons, List.forIn_nil]

  refine wpAny_bind (wpAny_bind (wpAny_onRaise ?_))
  show wpAny _ _ (Builtin.SmallTypes.nextOf (.ref j1) >>= _) _ _ _
  refine wpAny_bind (RZ.nextOf_tuple_item (t1.extBut es₁.extBut Ap.i1z) (w1.extBut es₁.extBut Ap.l1z) fx fun g₂ t1₂ es₂ => wpAny_pure ?_)
  have eO₂ : IsPair g₂ oO a0 b0 := es₂.extBut _ _ Ap.TOi1 (es₁.extBut _ _ Ap.TOz eO)
  refine wpAny_bind (wpAny_seqItems eO₂ rfl ?_)
  refine wpAny_bind (wpAny_updateSeq_pair eO₂ fun g₃ eO₃ es₃ => ?_)
  replace eO₃ : IsPair g₃ oO u0 b0 := eO₃
  refine wpAny_bind (wpAny_letGo (wpAny_pure ?_))

  refine wpAny_bind (wpAny_bind (wpAny_onRaise ?_))
  show wpAny _ _ (Builtin.SmallTypes.nextOf (.ref j2) >>= _) _ _ _
  refine wpAny_bind (wpAny_nextOf_list_item (((t2.extBut es₁.extBut Ap.i2z).extBut es₂.extBut Ap.i12.symm).extBut es₃.extBut Ap.TOi2.symm)
    (((w2.extBut es₁.extBut Ap.l2z).extBut es₂.extBut Ap.l2i1).extBut es₃.extBut Ap.l2TO) fy fun g₄ t2₄ es₄ => wpAny_pure ?_)
  have eO₄ : IsPair g₄ oO u0 b0 := es₄.extBut _ _ Ap.TOi2 eO₃
  refine wpAny_bind (wpAny_seqItems eO₄ rfl ?_)
  refine wpAny_bind (wpAny_updateSeq_pair eO₄ fun g₅ eO₅ es₅ => ?_)
  replace eO₅ : IsPair g₅ oO u0 w0 := eO₅
  refine wpAny_bind (wpAny_letGo (wpAny_pure (wpAny_pure ?_)))

  refine wpAny_bind (wpAny_seqItems eO₅ rfl ?_)
  refine wpAny_bind (wpAny_newTuple ?_)
  have esz : g₅.objs.size = sh.heap.objs.size := by rw [es₅.1, es₄.1, es₃.1, es₂.1, es₁.1]
  have ez₅ : IsZip g₅ zo oI oO .ellipsis := es₅.extBut _ _ Ap.TOz.symm (es₄.extBut _ _ Ap.i2z.symm (es₃.extBut _ _ Ap.TOz.symm (es₂.extBut _ _ Ap.i1z.symm ez₁)))
  have kk₅ : ∀ c0 o0, c0 ≠ zo → c0 ≠ oO → c0 ≠ j1 → c0 ≠ j2 → sh.heap.get? c0 = some o0 → g₅.get? c0 = some o0 := fun c0 o0 d1 d2 d3 d4 e0 =>
    es₅.extBut _ _ d2 (es₄.extBut _ _ d4 (es₃.extBut _ _ d2 (es₂.extBut _ _ d3 (es₁.extBut _ _ d1 e0))))
  have t1₅ : g₅.IsTupleIter j1 m1 (n1 + 1) := ((t1₂.extBut es₃.extBut Ap.TOi1.symm).extBut es₄.extBut Ap.i12).extBut es₅.extBut Ap.TOi1.symm
  have t2₅ : g₅.IsListIter j2 m2 (n2 + 1) := t2₄.extBut es₅.extBut Ap.TOi2.symm
  have zlt : zo < g₅.objs.size := Heap.lt_size ez₅
  have oOlt : oO < g₅.objs.size := Heap.lt_size eO₅
  have j1lt : j1 < g₅.objs.size := by obtain ⟨_, e0, _⟩ := t1₅; exact Heap.lt_size e0
  have j2lt : j2 < g₅.objs.size := by obtain ⟨_, e0, _⟩ := t2₅; exact Heap.lt_size e0
  show wpAny _ _ (Builtin.SmallTypes.ownedTupleHandOut (.ref zo) (.ref g₅.objs.size) >>= _) _ _ _
  refine wpAny_bind ?_
  unfold Builtin.SmallTypes.ownedTupleHandOut
  have ez₆ : IsZip (g₅.push { cls := .type "tuple", data := .seq #[u0, w0] }) zo oI oO .ellipsis := Heap.get?_push_of_some _ ez₅
  refine wpAny_bind (wpAny_setField_rec ez₆ (by simp) fun g₇ ez₇ es₇ => ?_)
  replace ez₇ : IsZip g₇ zo oI oO (rawInt g₅.objs.size) := ez₇
  refine wpAny_setField_rec ez₇ (by simp) fun g₈ ez₈ es₈ => ?_
  replace ez₈ : IsZip g₈ zo oI oO (rawInt g₅.objs.size) := ez₈
  have upp : ∀ c0 o0, c0 ≠ zo → g₅.get? c0 = some o0 → g₈.get? c0 = some o0 := fun c0 o0 d1 e0 => es₈.extBut _ _ d1 (es₇.extBut _ _ d1 (Heap.get?_push_of_some _ e0))
  have eT₈ : IsPair g₈ g₅.objs.size u0 w0 := es₈.extBut _ _ (Nat.ne_of_gt zlt) (es₇.extBut _ _ (Nat.ne_of_gt zlt) (Heap.get?_push_size _ rfl))
  have hz8 : g₈.objs.size = g₅.objs.size + 1 := by rw [es₈.1, es₇.1, Heap.size_push]
  rw [esz] at ez₈ eT₈ hz8
  refine wpAny_pure ⟨_, rfl, ?_⟩
  show Wi (.ref g₅.objs.size) _
  rw [esz]
  exact wish g₈ ez₈ (upp _ _ Ap.TOz eO₅) (t1₅.at fun o0 e0 => upp _ o0 Ap.i1z e0) (t2₅.at fun o0 e0 => upp _ o0 Ap.i2z e0) eT₈ hz8 fun c0 o0 d1 d2 d3 d4 e0 => upp c0 o0 d1 (kk₅ c0 o0 d1 d2 d3 d4 e0)

theorem zipT_next_end {zo oI oO j1 j2 m1 m2 : Addr} {n1 n2 : Nat} {us ws : Array Value} {a0 b0 : Value} {Wi : Fin → Shared → Prop} (nh : Ar.handled = none) (Ap : ZipApart zo oI oO j1 j2 m1 m2)
    (ez : IsZip sh.heap zo oI oO .none) (eI : IsPair sh.heap oI (.ref j1) (.ref j2)) (eO : IsPair sh.heap oO a0 b0)
    (t1 : sh.heap.IsTupleIter j1 m1 n1) (t2 : sh.heap.IsListIter j2 m2 n2) (w1 : sh.heap.IsTuple m1 us) (w2 : sh.heap.IsList m2 ws) (fend : us[n1]? = none ∨ ws[n2]? = none)
    (wishE : ∀ hp' e0, (∀ c0 o0, c0 ≠ zo → c0 ≠ oO → c0 ≠ j1 → c0 ≠ j2 → sh.heap.get? c0 = some o0 → hp'.get? c0 = some o0) → (∃ o0, hp'.get? e0 = some o0 ∧ o0.cls = .type "StopIteration") → Ex (.ref e0) { sh with heap := hp' }) :
    wpAny (model pr wd) Ar (Builtin.«zip.__next__» ⟨[.ref zo], []⟩) Wi Ex sh := by
  show wpAny _ _ (field (.ref zo) 2 >>= _) _ _ _
  refine wpAny_bind (wpAny_field ez rfl (x := .bool false) rfl ?_)
  show wpAny _ _ (field (.ref zo) 3 >>= _) _ _ _
  refine wpAny_bind (wpAny_field ez rfl (x := .ref oI) rfl ?_)
  refine wpAny_bind (wpAny_seqItems eI rfl ?_)
  show wpAny _ _ (Builtin.SmallTypes.ownedTupleIsFree (.ref zo) >>= _) _ _ _
  refine wpAny_bind ?_
  unfold Builtin.SmallTypes.ownedTupleIsFree
  refine wpAny_bind (wpAny_field ez rfl (x := .none) rfl (wpAny_pure ?_))
  simp only [if_true]
  refine wpAny_bind (wpAny_rule ?_)
  refine wpAny_bind (wpAny_field ez rfl (x := .ref oO) rfl ?_)
  refine wpAny_bind (wpAny_setField_rec ez (by simp) fun g₁ ez₁ es₁ => ?_)
  replace ez₁ : IsZip g₁ zo oI oO .ellipsis := ez₁
  refine wpAny_bind ?_
  simp only [List.zipIdx_cons, List.zipIdx_nil, List.forIn_cons, List.forIn_nil]
  refine wpAny_bind (wpAny_bind (wpAny_onRaise ?_))
  show wpAny _ _ (Builtin.SmallTypes.nextOf (.ref j1) >>= _) _ _ _
  cases fx : us[n1]? with
  | none =>
    refine wpAny_bind (RZ.nextOf_tuple_end nh (t1.extBut es₁.extBut Ap.i1z) (w1.extBut es₁.extBut Ap.l1z) fx fun g₂ e0 es₂ ee => ?_)
    obtain ⟨oe0, eoe, ece⟩ := ee
    have ez₂ : IsZip g₂ zo oI oO .ellipsis := es₂ _ _ Ap.i1z.symm ez₁
    have ezz : e0 ≠ zo := fun u0 => by subst u0; rw [ez₂] at eoe; cases eoe; simp at ece
    refine wpAny_setField_rec ez₂ (by simp) fun g₃ _ es₃ => wishE g₃ e0 (fun c0 o0 d1 _ d3 _ u0 => es₃.extBut _ _ d1 (es₂ _ _ d3 (es₁.extBut _ _ d1 u0))) ⟨oe0, es₃.extBut _ _ ezz eoe, ece⟩
  | some u0 =>
    have fy : ws[n2]? = none := by rcases fend with hp | hp; rw [fx] at hp; cases hp; exact hp
    refine wpAny_bind (RZ.nextOf_tuple_item (t1.extBut es₁.extBut Ap.i1z) (w1.extBut es₁.extBut Ap.l1z) fx fun g₂ t1₂ es₂ => wpAny_pure ?_)
    have eO₂ : IsPair g₂ oO a0 b0 := es₂.extBut _ _ Ap.TOi1 (es₁.extBut _ _ Ap.TOz eO)
    refine wpAny_bind (wpAny_seqItems eO₂ rfl ?_)
    refine wpAny_bind (wpAny_updateSeq_pair eO₂ fun g₃ eO₃ es₃ => ?_)
    refine wpAny_bind (wpAny_letGo (wpAny_pure ?_))
    refine wpAny_bind (wpAny_bind (wpAny_onRaise ?_))
    show wpAny _ _ (Builtin.SmallTypes.nextOf (.ref j2) >>= _) _ _ _
    refine wpAny_bind (wpAny_nextOf_list_end nh (((t2.extBut es₁.extBut Ap.i2z).extBut es₂.extBut Ap.i12.symm).extBut es₃.extBut Ap.TOi2.symm)
      (((w2.extBut es₁.extBut Ap.l2z).extBut es₂.extBut Ap.l2i1).extBut es₃.extBut Ap.l2TO) fy fun g₄ e0 es₄ ee => ?_)
    obtain ⟨oe0, eoe, ece⟩ := ee
    have ez₄ : IsZip g₄ zo oI oO .ellipsis := es₄ _ _ Ap.i2z.symm (es₃.extBut _ _ Ap.TOz.symm (es₂.extBut _ _ Ap.i1z.symm ez₁))
    have ezz : e0 ≠ zo := fun u0 => by subst u0; rw [ez₄] at eoe; cases eoe; simp at ece
    refine wpAny_setField_rec ez₄ (by simp) fun g₅ _ es₅ => wishE g₅ e0 (fun c0 o0 d1 d2 d3 d4 u0 => es₅.extBut _ _ d1 (es₄ _ _ d4 (es₃.extBut _ _ d2 (es₂.extBut _ _ d3 (es₁.extBut _ _ d1 u0))))) ⟨oe0, es₅.extBut _ _ ezz eoe, ece⟩

theorem pyNext_zipT_item {zo oI oO j1 j2 m1 m2 : Addr} {n1 n2 : Nat} {us ws : Array Value} {u0 w0 a0 b0 : Value} {Wi : Option Value → Shared → Prop} (Ap : ZipApart zo oI oO j1 j2 m1 m2)
    (ez : IsZip sh.heap zo oI oO .none) (eI : IsPair sh.heap oI (.ref j1) (.ref j2)) (eO : IsPair sh.heap oO a0 b0)
    (t1 : sh.heap.IsTupleIter j1 m1 n1) (t2 : sh.heap.IsListIter j2 m2 n2) (w1 : sh.heap.IsTuple m1 us) (w2 : sh.heap.IsList m2 ws) (fx : us[n1]? = some u0) (fy : ws[n2]? = some w0)
    (wish : ∀ hp', IsZip hp' zo oI oO (rawInt sh.heap.objs.size) → IsPair hp' oO u0 w0 → hp'.IsTupleIter j1 m1 (n1 + 1) → hp'.IsListIter j2 m2 (n2 + 1) → IsPair hp' sh.heap.objs.size u0 w0 → hp'.objs.size = sh.heap.objs.size + 1 →
      (∀ c0 o0, c0 ≠ zo → c0 ≠ oO → c0 ≠ j1 → c0 ≠ j2 → sh.heap.get? c0 = some o0 → hp'.get? c0 = some o0) → Wi (some (.ref sh.heap.objs.size)) { sh with heap := hp' }) :
    wpAny (model pr wd) Ar (pyNext (.ref zo)) Wi Ex sh := by
  have eT : sh.TypeIs (.ref zo) "zip" := ⟨_, ez, rfl⟩
  unfold pyNext
  exact wpAny_bind (wpAny_attempt (wpAny_callSpecial?_slot (name := Str.ofString "__next__") eT F.slot_zip_next
    (wpAny_call_entry F.slot_zip_next eT F.entry_zip_next
      (zipT_next_item Ap ez eI eO t1 t2 w1 w2 fx fy fun hp' a1 a2 a3 a4 a5 a6 a7 => wpAny_pure (wish hp' a1 a2 a3 a4 a5 a6 a7)) (F.args_zip_next_1 _))))

theorem pyNext_zipT_end {zo oI oO j1 j2 m1 m2 : Addr} {n1 n2 : Nat} {us ws : Array Value} {a0 b0 : Value} {Wi : Option Value → Shared → Prop} (nh : Ar.handled = none) (Ap : ZipApart zo oI oO j1 j2 m1 m2)
    (ez : IsZip sh.heap zo oI oO .none) (eI : IsPair sh.heap oI (.ref j1) (.ref j2)) (eO : IsPair sh.heap oO a0 b0)
    (t1 : sh.heap.IsTupleIter j1 m1 n1) (t2 : sh.heap.IsListIter j2 m2 n2) (w1 : sh.heap.IsTuple m1 us) (w2 : sh.heap.IsList m2 ws) (fend : us[n1]? = none ∨ ws[n2]? = none)
    (wish : ∀ hp', (∀ c0 o0, c0 ≠ zo → c0 ≠ oO → c0 ≠ j1 → c0 ≠ j2 → sh.heap.get? c0 = some o0 → hp'.get? c0 = some o0) → Wi none { sh with heap := hp' }) : wpAny (model pr wd) Ar (pyNext (.ref zo)) Wi Ex sh := by
  have eT : sh.TypeIs (.ref zo) "zip" := ⟨_, ez, rfl⟩
  unfold pyNext
  refine wpAny_bind (wpAny_attempt (wpAny_callSpecial?_slot (name := Str.ofString "__next__") eT F.slot_zip_next
    (wpAny_call_entry F.slot_zip_next eT F.entry_zip_next (zipT_next_end nh Ap ez eI eO t1 t2 w1 w2 fend fun hp' e0 kk0 ee => ?_) (F.args_zip_next_1 _))))
  obtain ⟨o0, ho, hcm0⟩ := ee
  refine wpAny_bind (wpAny_isInstance (T := "StopIteration") (b := true) ⟨o0, ho, hcm0⟩ isSubtype_stop ?_)
  exact wpAny_pure (wish _ kk0)
end
abbrev zm1 (hp : Heap) (m1 : Addr) : Heap := hp.push { cls := .type "tuple_iterator", data := .fields #[.ref m1, .int 0 0] }
abbrev zm2 (hp : Heap) (m1 m2 : Addr) : Heap := (zm1 hp m1).push { cls := .type "list_iterator", data := .fields #[.ref m2, .int 0 0] }
abbrev zm3 (hp : Heap) (m1 m2 : Addr) : Heap := (zm2 hp m1 m2).push { cls := .type "tuple", data := .seq #[.ref hp.objs.size, .ref (zm1 hp m1).objs.size] }
abbrev zm4 (hp : Heap) (m1 m2 : Addr) : Heap := (zm3 hp m1 m2).push { cls := .type "tuple", data := .seq #[.none, .none] }
abbrev zm5 (hp : Heap) (m1 m2 : Addr) : Heap := (zm4 hp m1 m2).push { cls := .type "zip", data := .fields #[.none, .bool false, .bool false, .ref (zm2 hp m1 m2).objs.size, .ref (zm3 hp m1 m2).objs.size] }

theorem meets_zipT_new (m1 m2 : Addr) (us ws : Array Value) :
    Meets (Builtin.«zip.__new__» ⟨[.type "zip", .ref m1, .ref m2], []⟩) (fun _ R sh => sh.heap.IsTuple m1 us ∧ sh.heap.IsList m2 ws ∧
      R (.ok (.ret (.ref (zm4 sh.heap m1 m2).objs.size))) { sh with heap := zm5 sh.heap m1 m2 }) :=
  .of_wp fun pr wd Ar R sh hp => by
    obtain ⟨hp9, g0, dd, tk0, os0⟩ := sh; obtain ⟨w1, w2, hp⟩ := hp
    have sb0 := sub_zip
    have L1 : Heap.IsTuple (Shared.heap ⟨hp9, g0, dd, tk0, os0⟩) m1 us := w1
    have L2x : Heap.IsList (Shared.heap ⟨hp9.push { cls := .type "tuple_iterator", data := .fields #[.ref m1, .int 0 0] }, g0, dd, tk0, os0⟩) m2 ws := Heap.IsList.push w2 _
    wp_walk using wpAny_pyIter_tuple L1, wpAny_pyIter_list L2x
    exact ⟨_, rfl, hp⟩

section
variable {pr : Program} {wd : World} {Ar : Around} {Ex : Value → Shared → Prop} {sh : Shared}
theorem call_zipT {m1 m2 : Addr} {us ws : Array Value} {Wi : Value → Shared → Prop} (w1 : sh.heap.IsTuple m1 us) (w2 : sh.heap.IsList m2 ws)
    (hp : ∀ hp', IsZip hp' (sh.heap.objs.size + 4) (sh.heap.objs.size + 2) (sh.heap.objs.size + 3) .none → IsPair hp' (sh.heap.objs.size + 2) (.ref sh.heap.objs.size) (.ref (sh.heap.objs.size + 1)) →
      IsPair hp' (sh.heap.objs.size + 3) .none .none → hp'.IsTupleIter sh.heap.objs.size m1 0 → hp'.IsListIter (sh.heap.objs.size + 1) m2 0 → hp'.objs.size = sh.heap.objs.size + 5 →
      (∀ c0 o0, sh.heap.get? c0 = some o0 → hp'.get? c0 = some o0) → Wi (.ref (sh.heap.objs.size + 4)) { sh with heap := hp' }) :
    wpAny (model pr wd) Ar (call (.type "zip") [.ref m1, .ref m2]) Wi Ex sh := by
  refine callType_new F.called_zip (by decide) (F.typeCall_zip_2 _ _) (F.newCall_zip_2 _ _) (fun obj => F.args_object_init_3 obj _ _) F.entry_zip_new
    (meets_zipT_new m1 m2 us ws) ⟨w1, w2, ?_⟩
  have z1 : (zm1 sh.heap m1).objs.size = sh.heap.objs.size + 1 := Heap.size_push ..
  have z2 : (zm2 sh.heap m1 m2).objs.size = sh.heap.objs.size + 2 := by rw [Heap.size_push, z1]
  have z3 : (zm3 sh.heap m1 m2).objs.size = sh.heap.objs.size + 3 := by rw [Heap.size_push, z2]
  have z4 : (zm4 sh.heap m1 m2).objs.size = sh.heap.objs.size + 4 := by rw [Heap.size_push, z3]
  have z5 : (zm5 sh.heap m1 m2).objs.size = sh.heap.objs.size + 5 := by rw [Heap.size_push, z4]
  have g5 : (zm5 sh.heap m1 m2).get? (zm4 sh.heap m1 m2).objs.size = some _ := Heap.get?_push_size _ rfl
  have g4 : (zm5 sh.heap m1 m2).get? (zm3 sh.heap m1 m2).objs.size = some _ := Heap.get?_push_of_some _ (Heap.get?_push_size _ rfl)
  have g3 : (zm5 sh.heap m1 m2).get? (zm2 sh.heap m1 m2).objs.size = some _ := Heap.get?_push_of_some _ (Heap.get?_push_of_some _ (Heap.get?_push_size _ rfl))
  have g2 : (zm5 sh.heap m1 m2).get? (zm1 sh.heap m1).objs.size = some _ := Heap.get?_push_of_some _ (Heap.get?_push_of_some _ (Heap.get?_push_of_some _ (Heap.get?_push_size _ rfl)))
  have g1 : (zm5 sh.heap m1 m2).get? sh.heap.objs.size = some _ := Heap.get?_push_of_some _ (Heap.get?_push_of_some _ (Heap.get?_push_of_some _ (Heap.get?_push_of_some _ (Heap.get?_push_size _ rfl))))
  show _ ∧ _
  rw [z2, z3, z4] at g5
  rw [z1, z2] at g3
  rw [z3] at g4
  rw [z1] at g2
  rw [z4]
  exact ⟨⟨_, g5, rfl⟩, hp _ g5 g3 g4 ⟨_, g1, rfl, rfl⟩ ⟨_, g2, rfl, rfl⟩ z5 fun c0 o0 u0 =>
    Heap.get?_push_of_some _ (Heap.get?_push_of_some _ (Heap.get?_push_of_some _ (Heap.get?_push_of_some _ (Heap.get?_push_of_some _ u0))))⟩
end
def ItzT (Kf : PySem.W.Frag) (a0 b0 : Addr) : It :=
  ⟨fun ii Hp0 => ∃ (us ws : List V) (u0 w0 : V), SqT Kf Hp0 a0 us ∧ SqL Kf Hp0 b0 ws ∧ us[ii]? = some u0 ∧ ws[ii]? = some w0,
    fun ii Hp0 vv H' => ∃ T u0 w0, vv = .ref T ∧ Hp0 T = none ∧ H' = upd Hp0 T (.tup [u0, w0]) ∧ (∀ us, SqT Kf Hp0 a0 us → us[ii]? = some u0) ∧ ∀ ws, SqL Kf Hp0 b0 ws → ws[ii]? = some w0,
    fun ii Hp0 => ∃ us ws : List V, SqT Kf Hp0 a0 us ∧ SqL Kf Hp0 b0 ws ∧ (us.length ≤ ii ∨ ws.length ≤ ii)⟩
theorem turn_zipT {Pg : Program} {wd : World} {Kf : PySem.W.Frag} {es : List Expr} {nk : Nat} {tp : Pos} {a0 b0 zo oI oO j1 j2 : Addr} (Ap : ZipApart zo oI oO j1 j2 a0 b0) :
    Turn Pg wd Kf (.Tuple es nk tp) (ItzT Kf a0 b0) [zo, oI, oO, j1, j2] zo (fun ii hp => IsZip hp zo oI oO .none ∧ IsPair hp oI (.ref j1) (.ref j2) ∧ (∃ u0 w0, IsPair hp oO u0 w0) ∧ hp.IsTupleIter j1 a0 ii ∧ hp.IsListIter j2 b0 ii) where
  mem := by simp
  obj := fun ii hp stt c0 hcm0 => by
    obtain ⟨ez, eI, ⟨u0, w0, eO⟩, ⟨o1, e1, _, d1⟩, ⟨o2, e2, _, d2⟩⟩ := stt
    have ef : c0 = zo ∨ c0 = oI ∨ c0 = oO ∨ c0 = j1 ∨ c0 = j2 := by simpa using hcm0
    rcases ef with qe | qe | qe | qe | qe
    · rw [qe]; exact ⟨_, ez, fun vv qe => nomatch qe⟩
    · rw [qe]; exact ⟨_, eI, fun vv qe => nomatch qe⟩
    · rw [qe]; exact ⟨_, eO, fun vv qe => nomatch qe⟩
    · rw [qe]; exact ⟨o1, e1, fun vv qe => by rw [d1] at qe; cases qe⟩
    · rw [qe]; exact ⟨o2, e2, fun vv qe => by rw [d2] at qe; cases qe⟩
  keep := fun ii hp hp' stt ks => by
    obtain ⟨ez, eI, ⟨u0, w0, eO⟩, t1, t2⟩ := stt
    exact ⟨ks zo (by simp) _ ez, ks oI (by simp) _ eI, ⟨u0, w0, ks oO (by simp) _ eO⟩, t1.at fun o0 qe => ks j1 (by simp) o0 qe, t2.at fun o0 qe => ks j2 (by simp) o0 qe⟩
  item := by
    intro Xc eP ew eK hcm0 ii pns sh sig Hp0 Ex In hfp stt hgo
    subst eP ew eK
    obtain ⟨ez, eI, ⟨x0, y0, eO⟩, t1, t2⟩ := stt
    obtain ⟨us, ws, u0, w0, sx, sy, fx, fy⟩ := hgo
    obtain ⟨itx, rvx, px, _⟩ := In.tuple sx
    obtain ⟨ity, rvy, py, _⟩ := In.list sy
    obtain ⟨va, eva, rva⟩ := rvx.get fx
    obtain ⟨vb, evb, rvb⟩ := rvy.get fy
    have zl : zo < sh.heap.objs.size := Heap.lt_size ez
    refine pyNext_zipT_item Ap ez eI eO t1 t2 px py.isList (u0 := va) (w0 := vb) (by simpa using eva) (by simpa using evb) fun hp' z' TO' h1' h2' eT esz kk0 => ?_
    refine ⟨_, rfl, wpAny_letOwnedTupleGo_zip (s := { sh with heap := hp' }) z' fun h'' z'' sbt => ?_⟩
    have hT2 : h''.get? sh.heap.objs.size = some { cls := .type "tuple", data := .seq #[va, vb] } := (sbt.2 _ (Nat.ne_of_gt zl)).trans eT
    have nw : ObjOk Xc.prog Xc.w (upd Hp0 sh.heap.objs.size (.tup [u0, w0])) h'' sh.heap.objs.size (.tup [u0, w0]) :=
      ⟨by show 2 ≤ sizeLine; decide, [va, vb], .cons rva (.cons rvb .nil), ⟨_, hT2, rfl, _, rfl⟩⟩
    have In1 : Inv Xc pns sig (upd Hp0 sh.heap.objs.size (.tup [u0, w0])) { sh with heap := h'' } :=
      In.turnedNew (t' := sh.toks) (ch := [zo, oI, oO, j1, j2]) (fun c0 o0 hb qe => (sbt.2 c0 (fun qf => hb (by simp [qf]))).trans (kk0 c0 o0 (fun qf => hb (by simp [qf])) (fun qf => hb (by simp [qf])) (fun qf => hb (by simp [qf])) (fun qf => hb (by simp [qf])) qe)) hfp (Nat.le_refl _) nw
    refine ⟨.ref sh.heap.objs.size, _, In1, rfl, ⟨_, u0, w0, rfl, In.hok.fresh (Nat.le_refl _), rfl, fun l hl => by rw [In.tuple_inj hl sx]; exact fx, fun l hl => by rw [In.list_inj hl sy]; exact fy⟩, ⟨z'', ?_, ⟨va, vb, ?_⟩, ?_, ?_⟩, fun c0 cmem => ?_⟩
    · exact (sbt.2 _ Ap.TIz).trans (kk0 _ _ Ap.TIz Ap.TITO Ap.TIi1 Ap.TIi2 eI)
    · exact (sbt.2 _ Ap.TOz).trans TO'
    · exact h1'.at fun o0 qe => (sbt.2 _ Ap.i1z).trans qe
    · exact h2'.at fun o0 qe => (sbt.2 _ Ap.i2z).trans qe
    · have clt : c0 < sh.heap.objs.size := by
        have ef : c0 = zo ∨ c0 = oI ∨ c0 = oO ∨ c0 = j1 ∨ c0 = j2 := by simpa using cmem
        rcases ef with qe | qe | qe | qe | qe
        · rw [qe]; exact zl
        · rw [qe]; exact Heap.lt_size eI
        · rw [qe]; exact Heap.lt_size eO
        · rw [qe]; obtain ⟨_, e1, _⟩ := t1; exact Heap.lt_size e1
        · rw [qe]; obtain ⟨_, e2, _⟩ := t2; exact Heap.lt_size e2
      rw [upd_ne (Nat.ne_of_lt clt)]
      exact (hfp c0 cmem).1
  done := by
    intro Xc eP ew eK hcm0 ii pns sh sig Hp0 Ex In hfp stt hgo
    subst eP ew eK
    obtain ⟨ez, eI, ⟨x0, y0, eO⟩, t1, t2⟩ := stt
    obtain ⟨us, ws, sx, sy, fend⟩ := hgo
    obtain ⟨itx, rvx, px, _⟩ := In.tuple sx
    obtain ⟨ity, rvy, py, _⟩ := In.list sy
    have m1 := rvx.length
    have m2 := rvy.length
    have ee : itx.toArray[ii]? = none ∨ ity.toArray[ii]? = none := by
      rcases fend with qe | qe
      · exact .inl (by simp; omega)
      · exact .inr (by simp; omega)
    exact pyNext_zipT_end (In.ok.hd hcm0) Ap ez eI eO t1 t2 px py.isList ee fun hp' kk0 => ⟨rfl, In.turnedL (t' := sh.toks) (ch := [zo, oI, oO, j1, j2]) (fun c0 o0 hb qe =>
      kk0 c0 o0 (fun qf => hb (by simp [qf])) (fun qf => hb (by simp [qf])) (fun qf => hb (by simp [qf])) (fun qf => hb (by simp [qf])) qe) hfp⟩
  self := fun Ar ii sh Wi Ex stt hp => wpAny_pyIter_zip stt.1 hp


def iZipM (K : PySem.W.Frag) (ta : TA) : TI := fun st hp Rr => ta st hp fun vs hq => ∃ a b xs ys, vs = [.ref a, .ref b] ∧ SqT K hq a xs ∧ SqL K hq b ys ∧ Rr (ItzT K a b) hq
theorem pi_zipM {X : Cx} {e e2 : Expr} {ta : TA} {p pos tpos : Pos} {es : List Expr} {nk : Nat} (gl : Gl X "zip") (no : X.mg "zip" = none) (pa : PA X [e, e2] ta)
    (st2 : starEach [e, e2] X.env = (false, eval e X.env) :: starEach [e2] X.env := by rfl) (pl : (backTo pos (starEach [e2] X.env)).any (·.1) = false := by rfl) :
    PI X (.Tuple es nk tpos) (.Call (.Name "zip" p) [e, e2] [] pos) (iZipM X.K ta) := by
  refine ⟨fun pins s0 st hp Rr I0 want => ?_⟩
  refine Call_ (ld_blt I0 gl no PyProof.Rows.boot_zip (PyProof.Rows.callWith_type1 (thn (pa.run pos pins s0 st hp _ I0 want) fun us s1 ⟨vs, H1, I1, rr, qq⟩ => ?_) st2 pl))
  obtain ⟨a, b, xs, ys, rfl, qa, qb, qq⟩ := qq
  obtain ⟨ua, ub, rfl, ra, rb⟩ : ∃ ua ub, us = [ua, ub] ∧ RelV (.ref a) ua ∧ RelV (.ref b) ub := by
    cases rr with
    | cons r1 rr => cases rr with
      | cons r2 rr =>
        cases rr
        exact ⟨_, _, rfl, r1, r2⟩
  cases ra
  cases rb
  obtain ⟨ia, va, pa1, _⟩ := I1.tuple qa
  obtain ⟨ib, vb, pb1, _⟩ := I1.list qb
  obtain ⟨oa, hoa, _⟩ := id pa1
  refine call_zipT (show s1.heap.IsTuple a ia.toArray from pa1) pb1.isList fun hh ez eI eO e1 e2 hsz hk => wpAny_pyIter_zip ez ?_
  have I2 : Inv X pins st H1 { s1 with heap := hh } := I1.kept (t' := s1.toks) hk
  refine ⟨_, [s1.heap.objs.size + 4, s1.heap.objs.size + 2, s1.heap.objs.size + 3, s1.heap.objs.size, s1.heap.objs.size + 1], _, _, H1, rfl, I2, turn_zipT (PySem.W.ktu_apart _ a b (Heap.lt_size hoa) pb1.lt), ⟨ez, eI, ⟨_, _, eO⟩, e1, e2⟩, fun c hc => ?_, qq⟩
  have le : s1.heap.objs.size ≤ c := by
    simp at hc
    rcases hc with q | q | q | q | q <;> rw [q] <;> first | exact Nat.le_add_right _ _ | exact Nat.le_refl _
  exact I1.fpOk le (I1.hok.fresh le)
end ZM
namespace Tb
open PySem PySem.Spec PyProof.Rows L2
/-- a good of the law, a certificate -/
inductive Nd where
  | mk (h : Str) (w : Int) (l : Str) (ks : List Nd)
inductive Pp where
  | mk (r l : Str) (ps : List Pp)
def Nd.h : Nd → Str | .mk h _ _ _ => h
def Nd.w : Nd → Int | .mk _ w _ _ => w
def Nd.l : Nd → Str | .mk _ _ l _ => l
def Nd.ks : Nd → List Nd | .mk _ _ _ ks => ks
def Pp.r : Pp → Str | .mk r _ _ => r
def Pp.l : Pp → Str | .mk _ l _ => l
def Pp.ps : Pp → List Pp | .mk _ _ ps => ps
/-! the law's five rules -/
def chap (h : Str) : Str := cutS h none (some (2 : Int))
structure Row where
  c : Str
  w : Int
  l : Str
def farOf (l : Str) (xs : List Row) : List Row := xs.filter fun x => !decide (x.l = l)
def best : List Row → Row → Row
  | [], b => b
  | x :: xs, b => best xs (if b.w < x.w then x else b)
def sumOf : List Int → Int
  | [] => 0
  | x :: xs => x + sumOf xs
def ruled (h : Str) (w : Int) (l : Str) (s : Int) (xs : List Row) : Str × Str :=
  match xs with
  | [] => ("made", l)
  | _ => match farOf l xs with
    | [] => ("wholly", l)
    | f :: fs => if (f :: fs).all (fun x => !decide (x.c = chap h)) then ("changed", l)
      else if 100 * sumOf ((f :: fs).map Row.w) ≤ s * w then ("value", l)
      else ("taken", (best fs f).l)
mutual
def certOf (s : Int) : Nd → Pp
  | .mk h w l ks => .mk (ruled h w l s (rowsOf s ks)).1 (ruled h w l s (rowsOf s ks)).2 (certsOf s ks)
def certsOf (s : Int) : List Nd → List Pp
  | [] => []
  | k :: ks => certOf s k :: certsOf s ks
def rowsOf (s : Int) : List Nd → List Row
  | [] => []
  | k :: ks => ⟨chap k.h, k.w, (certOf s k).l⟩ :: rowsOf s ks
end
mutual
def Nd.d : Nd → Nat
  | .mk _ _ _ ks => Nd.ds ks + 1
def Nd.ds : List Nd → Nat
  | [] => 0
  | k :: ks => max (Nd.d k) (Nd.ds ks)
end
mutual
def Pp.d : Pp → Nat
  | .mk _ _ ps => Pp.ds ps + 1
def Pp.ds : List Pp → Nat
  | [] => 0
  | p :: ps => max (Pp.d p) (Pp.ds ps)
end
mutual
def Nd.enc : Nd → PyData
  | .mk h w l ks => .tuple [.str h, .int w, .str l, .list (Nd.encs ks)]
def Nd.encs : List Nd → List PyData
  | [] => []
  | k :: ks => Nd.enc k :: Nd.encs ks
end
mutual
def Pp.enc : Pp → PyData
  | .mk r l ps => .tuple [.str r, .str l, .list (Pp.encs ps)]
def Pp.encs : List Pp → List PyData
  | [] => []
  | p :: ps => Pp.enc p :: Pp.encs ps
end
/-! where they stand in the heap, at addresses of S -/
abbrev AS := Addr → Prop
mutual
def NdAt (S : AS) (H : Hp) : Nd → V → Prop
  | .mk h w l ks, v => ∃ (t L : Addr) (vs : List V), v = .ref t ∧ S t ∧ H t = some (.tup [.str h, .int w, .str l, .ref L]) ∧ S L ∧ H L = some (.lst vs) ∧ NdsAt S H ks vs
def NdsAt (S : AS) (H : Hp) : List Nd → List V → Prop
  | [], vs => vs = []
  | k :: ks, vs => ∃ v us, vs = v :: us ∧ NdAt S H k v ∧ NdsAt S H ks us
end
mutual
def PpAt (S : AS) (H : Hp) : Pp → V → Prop
  | .mk r l ps, v => ∃ (t L : Addr) (vs : List V), v = .ref t ∧ S t ∧ H t = some (.tup [.str r, .str l, .ref L]) ∧ S L ∧ H L = some (.lst vs) ∧ PpsAt S H ps vs
def PpsAt (S : AS) (H : Hp) : List Pp → List V → Prop
  | [], vs => vs = []
  | p :: ps, vs => ∃ v us, vs = v :: us ∧ PpAt S H p v ∧ PpsAt S H ps us
end
theorem NdAt.mk_ {S : AS} {H : Hp} {h l : Str} {w : Int} {ks : List Nd} {v : V} : NdAt S H (.mk h w l ks) v = ∃ (t L : Addr) (vs : List V), v = .ref t ∧ S t ∧ H t = some (.tup [.str h, .int w, .str l, .ref L]) ∧ S L ∧ H L = some (.lst vs) ∧ NdsAt S H ks vs := rfl
/-- the objects that are no lists of ints stay at S, and S goes into S' -/
def Ks (S S' : AS) (H H' : Hp) : Prop := ∀ b o, S b → H b = some o → ¬ IntL o → S' b ∧ H' b = some o
mutual
theorem NdsAt.ni {S : AS} {H : Hp} : ∀ {ks : List Nd} {vs : List V}, NdsAt S H ks vs → ¬ IntL (.lst vs)
  | [], _, h => by
    have e : _ = _ := h
    subst e
    exact fun ⟨_, _, e⟩ => by cases e
  | .mk _ _ _ _ :: _, _, h => by
    obtain ⟨v, us, rfl, ⟨t, L, vs, rfl, _⟩, _⟩ := h
    exact fun ⟨_, _, e⟩ => by cases e
end
mutual
theorem NdAt.go {S S' : AS} {H H' : Hp} (K : Ks S S' H H') : ∀ {k : Nd} {v : V}, NdAt S H k v → NdAt S' H' k v
  | .mk h w l ks, v, ⟨t, L, vs, e, st, ht, sL, hL, r⟩ => ⟨t, L, vs, e, (K t _ st ht (ni_tup _)).1, (K t _ st ht (ni_tup _)).2, (K L _ sL hL r.ni).1, (K L _ sL hL r.ni).2, NdsAt.go K r⟩
theorem NdsAt.go {S S' : AS} {H H' : Hp} (K : Ks S S' H H') : ∀ {ks : List Nd} {vs : List V}, NdsAt S H ks vs → NdsAt S' H' ks vs
  | [], _, h => h
  | _ :: _, _, ⟨v, us, e, r, t⟩ => ⟨v, us, e, NdAt.go K r, NdsAt.go K t⟩
end
theorem PpsAt.ni {S : AS} {H : Hp} : ∀ {ks : List Pp} {vs : List V}, PpsAt S H ks vs → ¬ IntL (.lst vs)
  | [], _, h => by
    have e : _ = _ := h
    subst e
    exact fun ⟨_, _, e⟩ => by cases e
  | .mk _ _ _ :: _, _, h => by
    obtain ⟨v, us, rfl, ⟨t, L, vs, rfl, _⟩, _⟩ := h
    exact fun ⟨_, _, e⟩ => by cases e
mutual
theorem PpAt.go {S S' : AS} {H H' : Hp} (K : Ks S S' H H') : ∀ {k : Pp} {v : V}, PpAt S H k v → PpAt S' H' k v
  | .mk r l ks, v, ⟨t, L, vs, e, st, ht, sL, hL, q⟩ => ⟨t, L, vs, e, (K t _ st ht (ni_tup _)).1, (K t _ st ht (ni_tup _)).2, (K L _ sL hL q.ni).1, (K L _ sL hL q.ni).2, PpsAt.go K q⟩
theorem PpsAt.go {S S' : AS} {H H' : Hp} (K : Ks S S' H H') : ∀ {ks : List Pp} {vs : List V}, PpsAt S H ks vs → PpsAt S' H' ks vs
  | [], _, h => h
  | _ :: _, _, ⟨v, us, e, r, t⟩ => ⟨v, us, e, PpAt.go K r, PpsAt.go K t⟩
end
mutual
theorem NdAt.dp {K : PySem.W.Frag} {S : AS} {H : Hp} : ∀ {k : Nd} {v : V}, NdAt S H k v → Dp K H v k.enc
  | .mk h w l ks, v, ⟨t, L, vs, e, st, ht, sL, hL, q⟩ => by
    subst e
    exact .tup (.inl (.inl ht)) (.cons (.str _) (.cons (.int _) (.cons (.str _) (.cons (.lst (sqOf hL) (NdsAt.dp q)) .nil))))
theorem NdsAt.dp {K : PySem.W.Frag} {S : AS} {H : Hp} : ∀ {ks : List Nd} {vs : List V}, NdsAt S H ks vs → DpAll K H vs (Nd.encs ks)
  | [], _, h => by
    have e : _ = _ := h
    subst e
    exact .nil
  | k :: ks, _, ⟨v, us, e, r, t⟩ => by
    subst e
    exact .cons (NdAt.dp r) (NdsAt.dp t)
end
mutual
theorem PpAt.dp {K : PySem.W.Frag} {S : AS} {H : Hp} : ∀ {k : Pp} {v : V}, PpAt S H k v → Dp K H v k.enc
  | .mk r l ks, v, ⟨t, L, vs, e, st, ht, sL, hL, q⟩ => by
    subst e
    exact .tup (.inl (.inl ht)) (.cons (.str _) (.cons (.str _) (.cons (.lst (sqOf hL) (PpsAt.dp q)) .nil)))
theorem PpsAt.dp {K : PySem.W.Frag} {S : AS} {H : Hp} : ∀ {ks : List Pp} {vs : List V}, PpsAt S H ks vs → DpAll K H vs (Pp.encs ks)
  | [], _, h => by
    have e : _ = _ := h
    subst e
    exact .nil
  | k :: ks, _, ⟨v, us, e, r, t⟩ => by
    subst e
    exact .cons (PpAt.dp r) (PpsAt.dp t)
end
/-! lists of them, by index -/
theorem NdsAt.len {S : AS} {H : Hp} : ∀ {ks : List Nd} {vs : List V}, NdsAt S H ks vs → vs.length = ks.length
  | [], _, h => by
    have e : _ = _ := h
    subst e
    rfl
  | _ :: _, _, ⟨v, us, e, _, t⟩ => by
    subst e
    exact congrArg (· + 1) (NdsAt.len t)
theorem NdsAt.at {S : AS} {H : Hp} : ∀ {ks : List Nd} {vs : List V} {i : Nat} {v : V}, NdsAt S H ks vs → vs[i]? = some v → ∃ k, ks[i]? = some k ∧ NdAt S H k v
  | [], _, _, _, h, e => by
    have e2 : _ = _ := h
    subst e2
    cases e
  | k :: ks, _, 0, v, ⟨_, us, e, r, t⟩, q => by
    subst e
    cases q
    exact ⟨k, rfl, r⟩
  | k :: ks, _, i + 1, v, ⟨_, us, e, r, t⟩, q => by
    subst e
    exact NdsAt.at (ks := ks) (i := i) t q
theorem NdsAt.get {S : AS} {H : Hp} {ks : List Nd} {vs : List V} {i : Nat} {k : Nd} (h : NdsAt S H ks vs) (e : ks[i]? = some k) : ∃ v, vs[i]? = some v ∧ NdAt S H k v := by
  have hl : i < vs.length := by
    rw [h.len]
    exact (List.getElem?_eq_some_iff.mp e).1
  obtain ⟨k2, e2, r⟩ := h.at (List.getElem?_eq_getElem hl)
  rw [e] at e2
  cases e2
  exact ⟨_, List.getElem?_eq_getElem hl, r⟩
theorem NdsAt.snoc {S : AS} {H : Hp} : ∀ {ks : List Nd} {vs : List V} {k : Nd} {v : V}, NdsAt S H ks vs → NdAt S H k v → NdsAt S H (ks ++ [k]) (vs ++ [v])
  | [], _, _, _, h, r => by
    have e : _ = _ := h
    subst e
    exact ⟨_, _, rfl, r, rfl⟩
  | _ :: _, _, _, _, ⟨v, us, e, r0, t⟩, r => by
    subst e
    exact ⟨_, _, rfl, r0, NdsAt.snoc t r⟩
theorem PpsAt.len {S : AS} {H : Hp} : ∀ {ks : List Pp} {vs : List V}, PpsAt S H ks vs → vs.length = ks.length
  | [], _, h => by
    have e : _ = _ := h
    subst e
    rfl
  | _ :: _, _, ⟨v, us, e, _, t⟩ => by
    subst e
    exact congrArg (· + 1) (PpsAt.len t)
theorem PpsAt.at {S : AS} {H : Hp} : ∀ {ks : List Pp} {vs : List V} {i : Nat} {v : V}, PpsAt S H ks vs → vs[i]? = some v → ∃ k, ks[i]? = some k ∧ PpAt S H k v
  | [], _, _, _, h, e => by
    have e2 : _ = _ := h
    subst e2
    cases e
  | k :: ks, _, 0, v, ⟨_, us, e, r, t⟩, q => by
    subst e
    cases q
    exact ⟨k, rfl, r⟩
  | k :: ks, _, i + 1, v, ⟨_, us, e, r, t⟩, q => by
    subst e
    exact PpsAt.at (ks := ks) (i := i) t q
theorem PpsAt.get {S : AS} {H : Hp} {ks : List Pp} {vs : List V} {i : Nat} {k : Pp} (h : PpsAt S H ks vs) (e : ks[i]? = some k) : ∃ v, vs[i]? = some v ∧ PpAt S H k v := by
  have hl : i < vs.length := by
    rw [h.len]
    exact (List.getElem?_eq_some_iff.mp e).1
  obtain ⟨k2, e2, r⟩ := h.at (List.getElem?_eq_getElem hl)
  rw [e] at e2
  cases e2
  exact ⟨_, List.getElem?_eq_getElem hl, r⟩
theorem PpsAt.of {S : AS} {H : Hp} : ∀ {ks : List Pp} {vs : List V}, vs.length = ks.length → (∀ (i : Nat) (k : Pp) (v : V), ks[i]? = some k → vs[i]? = some v → PpAt S H k v) → PpsAt S H ks vs
  | [], [], _, _ => rfl
  | [], _ :: _, e, _ => by cases e
  | _ :: _, [], e, _ => by cases e
  | k :: ks, v :: vs, e, h => ⟨v, vs, rfl, h 0 k v rfl rfl, PpsAt.of (Nat.succ.inj e) fun i k v a b => h (i + 1) k v a b⟩
theorem PpsAt.snoc {S : AS} {H : Hp} : ∀ {ks : List Pp} {vs : List V} {k : Pp} {v : V}, PpsAt S H ks vs → PpAt S H k v → PpsAt S H (ks ++ [k]) (vs ++ [v])
  | [], _, _, _, h, r => by
    have e : _ = _ := h
    subst e
    exact ⟨_, _, rfl, r, rfl⟩
  | _ :: _, _, _, _, ⟨v, us, e, r0, t⟩, r => by
    subst e
    exact ⟨_, _, rfl, r0, PpsAt.snoc t r⟩
theorem NdAt.ref {S : AS} {H : Hp} : ∀ {k : Nd} {v : V}, NdAt S H k v → ∃ (t L : Addr) (vs : List V), v = .ref t ∧ S t ∧ H t = some (.tup [.str k.h, .int k.w, .str k.l, .ref L]) ∧ S L ∧ H L = some (.lst vs) ∧ NdsAt S H k.ks vs
  | .mk _ _ _ _, _, h => h
theorem PpAt.ref {S : AS} {H : Hp} : ∀ {k : Pp} {v : V}, PpAt S H k v → ∃ (t L : Addr) (vs : List V), v = .ref t ∧ S t ∧ H t = some (.tup [.str k.r, .str k.l, .ref L]) ∧ S L ∧ H L = some (.lst vs) ∧ PpsAt S H k.ps vs
  | .mk _ _ _, _, h => h
/-! what they keep -/
mutual
def Nd.ok : Nd → Prop
  | .mk h w l ks => Ad (tl h) ∧ Nm (tl l) ∧ 0 ≤ w ∧ sumOf (ks.map Nd.w) ≤ w ∧ ks.length ≤ 8 ∧ Nd.oks ks
def Nd.oks : List Nd → Prop
  | [] => True
  | k :: ks => Nd.ok k ∧ Nd.oks ks
end
mutual
def Pp.ok : Pp → Prop
  | .mk r l ps => Sg r ∧ Sg l ∧ ps.length ≤ 40 ∧ Pp.oks ps
def Pp.oks : List Pp → Prop
  | [] => True
  | p :: ps => Pp.ok p ∧ Pp.oks ps
end
theorem Nd.oks_mem : ∀ {ks : List Nd}, Nd.oks ks → ∀ k ∈ ks, k.ok
  | [], _, _, h => by cases h
  | _ :: _, ⟨a, b⟩, x, hx => (List.mem_cons.mp hx).elim (fun e => e ▸ a) (Nd.oks_mem b x)
theorem Nd.oks_of : ∀ {ks : List Nd}, (∀ k ∈ ks, k.ok) → Nd.oks ks
  | [], _ => trivial
  | k :: ks, h => ⟨h k (List.mem_cons_self ..), Nd.oks_of fun x hx => h x (List.mem_cons_of_mem _ hx)⟩
theorem Pp.oks_mem : ∀ {ks : List Pp}, Pp.oks ks → ∀ k ∈ ks, k.ok
  | [], _, _, h => by cases h
  | _ :: _, ⟨a, b⟩, x, hx => (List.mem_cons.mp hx).elim (fun e => e ▸ a) (Pp.oks_mem b x)
theorem Pp.oks_of : ∀ {ks : List Pp}, (∀ k ∈ ks, k.ok) → Pp.oks ks
  | [], _ => trivial
  | k :: ks, h => ⟨h k (List.mem_cons_self ..), Pp.oks_of fun x hx => h x (List.mem_cons_of_mem _ hx)⟩
/-! == of them -/
mutual
theorem Nd.lay : ∀ (k : Nd), k.ok → PyData.canLay0 k.enc = true
  | .mk h w l ks, ⟨a, b, _, _, _, o⟩ => by
    show (PyData.strOk h && (true && (PyData.strOk l && (PyData.canLayAll0 (Nd.encs ks) && true)))) = true
    rw [strOk_sg (ad_tx a).sg, strOk_sg (nm_tx b).sg, Nd.lays ks o]
    rfl
theorem Nd.lays : ∀ (ks : List Nd), Nd.oks ks → PyData.canLayAll0 (Nd.encs ks) = true
  | [], _ => rfl
  | k :: ks, ⟨a, b⟩ => by
    show (PyData.canLay0 k.enc && PyData.canLayAll0 (Nd.encs ks)) = true
    rw [Nd.lay k a, Nd.lays ks b]
    rfl
end
mutual
theorem Pp.lay : ∀ (k : Pp), k.ok → PyData.canLay0 k.enc = true
  | .mk r l ks, ⟨a, b, _, o⟩ => by
    show (PyData.strOk r && (PyData.strOk l && (PyData.canLayAll0 (Pp.encs ks) && true))) = true
    rw [strOk_sg a, strOk_sg b, Pp.lays ks o]
    rfl
theorem Pp.lays : ∀ (ks : List Pp), Pp.oks ks → PyData.canLayAll0 (Pp.encs ks) = true
  | [], _ => rfl
  | k :: ks, ⟨a, b⟩ => by
    show (PyData.canLay0 k.enc && PyData.canLayAll0 (Pp.encs ks)) = true
    rw [Pp.lay k a, Pp.lays ks b]
    rfl
end
mutual
theorem Nd.dep : ∀ (k : Nd), k.enc.depth = 2 * k.d
  | .mk h w l ks => by
    show max 0 (max 0 (max 0 (max (PyData.depthAll (Nd.encs ks) + 1) 0))) + 1 = 2 * (Nd.ds ks + 1)
    have := Nd.deps ks
    omega
theorem Nd.deps : ∀ (ks : List Nd), PyData.depthAll (Nd.encs ks) = 2 * Nd.ds ks
  | [] => rfl
  | k :: ks => by
    show max k.enc.depth (PyData.depthAll (Nd.encs ks)) = 2 * max k.d (Nd.ds ks)
    have := Nd.dep k
    have := Nd.deps ks
    omega
end
mutual
theorem Pp.dep : ∀ (k : Pp), k.enc.depth = 2 * k.d
  | .mk r l ks => by
    show max 0 (max 0 (max (PyData.depthAll (Pp.encs ks) + 1) 0)) + 1 = 2 * (Pp.ds ks + 1)
    have := Pp.deps ks
    omega
theorem Pp.deps : ∀ (ks : List Pp), PyData.depthAll (Pp.encs ks) = 2 * Pp.ds ks
  | [] => rfl
  | k :: ks => by
    show max k.enc.depth (PyData.depthAll (Pp.encs ks)) = 2 * max k.d (Pp.ds ks)
    have := Pp.dep k
    have := Pp.deps ks
    omega
end
theorem shaped_nd {k : Nd} (h : k.ok) (hd : k.d ≤ 20) : SeqAt.shaped k.enc = true := by
  unfold SeqAt.shaped
  rw [Nd.lay k h, Nd.dep k, Bool.true_and]
  exact decide_eq_true (by omega)
theorem shaped_pp {k : Pp} (h : k.ok) (hd : k.d ≤ 20) : SeqAt.shaped k.enc = true := by
  unfold SeqAt.shaped
  rw [Pp.lay k h, Pp.dep k, Bool.true_and]
  exact decide_eq_true (by omega)
mutual
theorem Pp.eqv_eq : ∀ (a b : Pp), PyData.eqv a.enc b.enc = true → a = b
  | .mk r l ps, .mk r' l' ps', h => by
    have h : (r == r' && (l == l' && (PyData.eqvAll (Pp.encs ps) (Pp.encs ps') && true))) = true := h
    rw [Bool.and_true, Bool.and_eq_true, Bool.and_eq_true] at h
    obtain ⟨h1, h2, h3⟩ := h
    rw [eq_of_beq h1, eq_of_beq h2, Pp.eqvs_eq ps ps' h3]
theorem Pp.eqvs_eq : ∀ (a b : List Pp), PyData.eqvAll (Pp.encs a) (Pp.encs b) = true → a = b
  | [], [], _ => rfl
  | [], _ :: _, h => by cases h
  | _ :: _, [], h => by cases h
  | a :: as, b :: bs, h => by
    have h : (PyData.eqv a.enc b.enc && PyData.eqvAll (Pp.encs as) (Pp.encs bs)) = true := h
    rw [Bool.and_eq_true] at h
    rw [Pp.eqv_eq a b h.1, Pp.eqvs_eq as bs h.2]
end
mutual
theorem Nd.eqv_eq : ∀ (a b : Nd), PyData.eqv a.enc b.enc = true → a = b
  | .mk r w l ps, .mk r' w' l' ps', h => by
    have h : (r == r' && (w == w' && (l == l' && (PyData.eqvAll (Nd.encs ps) (Nd.encs ps') && true)))) = true := h
    rw [Bool.and_true, Bool.and_eq_true, Bool.and_eq_true, Bool.and_eq_true] at h
    obtain ⟨h1, h2, h3, h4⟩ := h
    rw [eq_of_beq h1, eq_of_beq h2, eq_of_beq h3, Nd.eqvs_eq ps ps' h4]
theorem Nd.eqvs_eq : ∀ (a b : List Nd), PyData.eqvAll (Nd.encs a) (Nd.encs b) = true → a = b
  | [], [], _ => rfl
  | [], _ :: _, h => by cases h
  | _ :: _, [], h => by cases h
  | a :: as, b :: bs, h => by
    have h : (PyData.eqv a.enc b.enc && PyData.eqvAll (Nd.encs as) (Nd.encs bs)) = true := h
    rw [Bool.and_eq_true] at h
    rw [Nd.eqv_eq a b h.1, Nd.eqvs_eq as bs h.2]
end
theorem Pp.eqv_refl {a : Pp} (h : a.ok) : PyData.eqv a.enc a.enc = true := SeqAt.eqv_refl _ (Pp.lay a h)
end Tb
namespace Tb
open PySem PySem.Spec PyProof.Rows L2
abbrev sGoodInit : Stmt := inClass (topS 24) 0
abbrev NGoodInit : List Str := ["self", "heading", "worth", "land", "parts", "part"]
theorem scGoodInit : FnScope NGoodInit ["self", "heading", "worth", "land", "parts"] (defScope sGoodInit) := ⟨rfl, rfl, rfl, by decide +kernel, rfl, by decide +kernel, by decide +kernel⟩
abbrev sGoodWorth : Stmt := inClass (topS 24) 1
abbrev NGoodWorth : List Str := ["self"]
theorem scGoodWorth : FnScope NGoodWorth ["self"] (defScope sGoodWorth) := ⟨rfl, rfl, rfl, by decide +kernel, rfl, by decide +kernel, by decide +kernel⟩
theorem sqT_ins {K : PySem.W.Frag} {C2 dx x T : Addr} {fs : List (Str × V)} {us : List V} {H : Hp} {o : HO} (hx : H x = some (.ins C2 dx fs)) (h : SqT K H T us) : SqT K (upd H x o) T us := by
  have ne : ∀ {u : HO}, H T = some u → (∀ q, u ≠ .ins C2 dx q) → T ≠ x := fun hT n e => by
    rw [e, hx] at hT
    exact n _ (Option.some.inj hT).symm
  rcases h with (h | ⟨o2, h⟩) | h
  · exact .inl (.inl (by rw [upd_ne (ne h fun q z => by cases z)]; exact h))
  · exact .inl (.inr ⟨o2, by rw [upd_ne (ne h fun q z => by cases z)]; exact h⟩)
  · exact .inr h
/-- a def with defaults -/
abbrev FunDf (K : PySem.W.Frag) (x qual : Str) (st : Stmt) (dvs : List V) (f : Addr) (fd : FuncData) : Prop := FunD K x qual (defArgs st) (defBody st) (defScope st) dvs [] f fd
theorem funD_ok {P : Program} {w : World} {K : PySem.W.Frag} {mg : Str → Option Value} {base : Heap} {x qual : Str} {st : Stmt} {dvs : List V} {f : Addr} {fd : FuncData} {N ps : List Str} {k : Nat} {sp : Sp} (F : FunDf K x qual st dvs f fd) (S : FnScope N ps (defScope st)) (len : ∀ vs H Q E, sp vs H Q E → vs.length = ps.length)
    (hbody : ∀ (cdv : Value) (A : Around) (outer : List Env) (s : Shared) (H : Hp) (vs : List V) (Q : VK) (E : XK), Room k (A.deeper (envOfC qual (defScope st) s.heap.objs.size f cdv)) → sp vs H Q E →
      ∃ t, PSs (cxOf CX0 P w K mg base N qual (defScope st) f cdv A outer s H E).nox (defBody st) t ∧ t { nx := fun _ H' => Q .non H', rt := Q } (start N vs) H) : FnOk P w K mg base CX0 (k + 1) f fd ps sp :=
  F.ok S len fun cdv A outer s H vs Q E hr hs => (hbody cdv A outer s H vs Q E hr hs).elim fun t q => ⟨t, q.1.nox, q.2⟩
/-- a def of the text that has defaults: it may be called with them or without -/
structure DdD (K : PySem.W.Frag) (mg : Str → Option Value) (x : Str) (st : Stmt) (ps : List Str) (dvs : List V) (f : Addr) (fd : FuncData) : Prop where
  F : FunDf K x x st dvs f fd
  b : Binds K fd ps []
  d : ∃ ds, Vals dvs ds ∧ Binds K fd ps ds
  g : mg x = some (.ref f)
structure C1D (P : Program) (w : World) (K : PySem.W.Frag) (mg : Str → Option Value) (base : Heap) (x : Str) (st : Stmt) (ps : List Str) (dvs : List V) (l : Nat) (sp : Sp) (g : Addr) (gd : FuncData) : Prop where
  D : DdD K mg x st ps dvs g gd
  G : FnOk P w K mg base CX0 l g gd ps sp
/-- what a good has -/
def goodF (h l : Str) (w : Int) (T : Addr) : List (Str × V) := [("heading", .str h), ("land", .str l), ("parts", .ref T), ("chapter", .str (chap h)), ("_worth", .int w)]
structure GCls (K : PySem.W.Frag) (C pw fw : Addr) (gdw : FuncData) : Prop where
  c : Cls K C
  nh : NoAttr K C "heading"
  nl : NoAttr K C "land"
  np : NoAttr K C "parts"
  nc : NoAttr K C "chapter"
  nw : NoAttr K C "_worth"
  pw : PropOf K C "worth" pw fw
  Fw : Fun K "worth" "Good.worth" sGoodWorth fw gdw
  bw : Binds K gdw ["self"] []
section
variable {P : Program} {w : World} {K : PySem.W.Frag} {mg : Str → Option Value} {base : Heap} {C pw fw : Addr} {gdw : FuncData}
theorem GCls.Gw (T : GCls K C pw fw gdw) : FnOk P w K mg base CX0 1 fw gdw ["self"] (getSp C "_worth") := by
  refine T.Fw.ok scGoodWorth (fun vs H Q E h => ?_) (fun cdv A outer s H vs Q E hr h => ?_)
  · obtain ⟨a, dx, fs, v, rfl, _⟩ := h
    rfl
  · obtain ⟨a, dx, fs, v, rfl, ha, hl, q⟩ := h
    refine ⟨_, (pss_one (ps_ret (pe_fld (pv 0) rfl))), ?_⟩
    exact ⟨.ref a, rfl, a, C, dx, fs, v, rfl, ha, T.c, T.nw, hl, q⟩
end
/-! where goods stand -/
mutual
def GdAt (K : PySem.W.Frag) (C : Addr) (H : Hp) : Nd → V → Prop
  | .mk h w l ks, v => ∃ (a dx T : Addr) (vs : List V), v = .ref a ∧ H a = some (.ins C dx (goodF h l w T)) ∧ SqT K H T vs ∧ GdsAt K C H ks vs
def GdsAt (K : PySem.W.Frag) (C : Addr) (H : Hp) : List Nd → List V → Prop
  | [], vs => vs = []
  | k :: ks, vs => ∃ v us, vs = v :: us ∧ GdAt K C H k v ∧ GdsAt K C H ks us
end
/-- all but lists stays -/
def Kg (H H' : Hp) : Prop := ∀ b o, H b = some o → (∀ xs, o ≠ .lst xs) → H' b = some o
theorem Kg.refl (H : Hp) : Kg H H := fun _ _ h _ => h
theorem Kg.trans {H H1 H2 : Hp} (a : Kg H H1) (b : Kg H1 H2) : Kg H H2 := fun c o h n => b c o (a c o h n) n
theorem Same.kg {H H' : Hp} (h : Same H H') : Kg H H' := fun b o e _ => h b o e
theorem Kp.kg {H H' : Hp} (h : Kp H H') : Kg H H' := fun b o e n => h b o e fun ⟨_, _, z⟩ => n _ z
theorem But.kg {H H' : Hp} {p : Addr} {xs : List V} (hp : H p = some (.lst xs)) (h : But p H H') : Kg H H' := fun b o e n => h b o e fun z => by
  rw [z, hp] at e
  exact n xs (Option.some.inj e).symm
theorem Kg.upd {H : Hp} {p : Addr} {xs : List V} {o : HO} (hp : H p = some (.lst xs)) : Kg H (upd H p o) := But.kg hp But.upd
theorem SqT.kg {K : PySem.W.Frag} {H H' : Hp} {T : Addr} {vs : List V} (h : SqT K H T vs) (k : Kg H H') : SqT K H' T vs := by
  rcases h with (h | ⟨o, h⟩) | h
  · exact .inl (.inl (k _ _ h fun _ e => by cases e))
  · exact .inl (.inr ⟨o, k _ _ h fun _ e => by cases e⟩)
  · exact .inr h
/-- goods and tuples stay -/
structure Kd (K : PySem.W.Frag) (C : Addr) (H H' : Hp) : Prop where
  g : ∀ (a dx : Addr) (h l : Str) (w : Int) (T : Addr), H a = some (.ins C dx (goodF h l w T)) → H' a = some (.ins C dx (goodF h l w T))
  t : ∀ (T : Addr) (vs : List V), SqT K H T vs → SqT K H' T vs
theorem Kg.kd {K : PySem.W.Frag} {C : Addr} {H H' : Hp} (k : Kg H H') : Kd K C H H' :=
  ⟨fun a _ _ _ _ _ h => k a _ h (fun _ e => by cases e), fun _ _ h => SqT.kg h k⟩
mutual
theorem GdAt.go {K : PySem.W.Frag} {C : Addr} {H H' : Hp} (k : Kd K C H H') : ∀ {n : Nd} {v : V}, GdAt K C H n v → GdAt K C H' n v
  | .mk h w l ks, v, ⟨a, dx, T, vs, e, ha, hT, r⟩ => ⟨a, dx, T, vs, e, k.g _ _ _ _ _ _ ha, k.t _ _ hT, GdsAt.go k r⟩
theorem GdsAt.go {K : PySem.W.Frag} {C : Addr} {H H' : Hp} (k : Kd K C H H') : ∀ {ns : List Nd} {vs : List V}, GdsAt K C H ns vs → GdsAt K C H' ns vs
  | [], _, h => h
  | _ :: _, _, ⟨v, us, e, r, t⟩ => ⟨v, us, e, GdAt.go k r, GdsAt.go k t⟩
end
theorem GdAt.kg {K : PySem.W.Frag} {C : Addr} {H H' : Hp} {n : Nd} {v : V} (h : GdAt K C H n v) (k : Kg H H') : GdAt K C H' n v := h.go k.kd
theorem GdsAt.kg {K : PySem.W.Frag} {C : Addr} {H H' : Hp} {n : List Nd} {v : List V} (h : GdsAt K C H n v) (k : Kg H H') : GdsAt K C H' n v := h.go k.kd
/-- all but x, a new instance -/
def Bx (x : Addr) (H H' : Hp) : Prop := ∀ b o, H b = some o → b ≠ x → H' b = some o
theorem Bx.kd {K : PySem.W.Frag} {C C2 dx x : Addr} {H H' : Hp} (hx : H x = some (.ins C2 dx [])) (k : Bx x H H') : Kd K C H H' := by
  refine ⟨fun a d h l w T ha => k a _ ha fun e => ?_, fun T vs h => ?_⟩
  · rw [e, hx] at ha
    cases ha
  · rcases h with (h | ⟨o, h⟩) | h
    · exact .inl (.inl (k _ _ h fun e => by rw [e, hx] at h; cases h))
    · exact .inl (.inr ⟨o, k _ _ h fun e => by rw [e, hx] at h; cases h⟩)
    · exact .inr h
theorem Bx.sqL {K : PySem.W.Frag} {C2 dx x p : Addr} {us : List V} {H H' : Hp} (hx : H x = some (.ins C2 dx [])) (k : Bx x H H') (h : SqL K H p us) : SqL K H' p us := by
  rcases h with (h | ⟨o, h⟩) | h
  · exact .inl (.inl (k _ _ h fun e => by rw [e, hx] at h; cases h))
  · exact .inl (.inr ⟨o, k _ _ h fun e => by rw [e, hx] at h; cases h⟩)
  · exact .inr h
theorem Bx.upd {x : Addr} {H H' : Hp} {o : HO} (k : Bx x H H') : Bx x H (upd H' x o) := fun b u h n => by
  rw [upd_ne n]
  exact k b u h n
theorem Bx.new {x D : Addr} {H H' : Hp} {o : HO} (k : Bx x H H') (nD : H' D = none) : Bx x H (L2.upd H' D o) := fun b u h n => by
  rw [upd_ne (ne_of_none (k b u h n) nD)]
  exact k b u h n
theorem GdAt.ref {K : PySem.W.Frag} {C : Addr} {H : Hp} : ∀ {n : Nd} {v : V}, GdAt K C H n v → ∃ (a dx T : Addr) (vs : List V), v = .ref a ∧ H a = some (.ins C dx (goodF n.h n.l n.w T)) ∧ SqT K H T vs ∧ GdsAt K C H n.ks vs
  | .mk _ _ _ _, _, h => h
theorem GdsAt.len {K : PySem.W.Frag} {C : Addr} {H : Hp} : ∀ {ks : List Nd} {vs : List V}, GdsAt K C H ks vs → vs.length = ks.length
  | [], _, h => by
    have e : _ = _ := h
    subst e
    rfl
  | _ :: _, _, ⟨v, us, e, _, t⟩ => by
    subst e
    exact congrArg (· + 1) (GdsAt.len t)
theorem GdsAt.at {K : PySem.W.Frag} {C : Addr} {H : Hp} : ∀ {ks : List Nd} {vs : List V} {i : Nat} {v : V}, GdsAt K C H ks vs → vs[i]? = some v → ∃ k, ks[i]? = some k ∧ GdAt K C H k v
  | [], _, _, _, h, e => by
    have e2 : _ = _ := h
    subst e2
    cases e
  | k :: ks, _, 0, v, ⟨_, us, e, r, t⟩, q => by
    subst e
    cases q
    exact ⟨k, rfl, r⟩
  | k :: ks, _, i + 1, v, ⟨_, us, e, r, t⟩, q => by
    subst e
    exact GdsAt.at (ks := ks) (i := i) t q
theorem GdsAt.snoc {K : PySem.W.Frag} {C : Addr} {H : Hp} : ∀ {ks : List Nd} {vs : List V} {k : Nd} {v : V}, GdsAt K C H ks vs → GdAt K C H k v → GdsAt K C H (ks ++ [k]) (vs ++ [v])
  | [], _, _, _, h, r => by
    have e : _ = _ := h
    subst e
    exact ⟨_, _, rfl, r, rfl⟩
  | _ :: _, _, _, _, ⟨v, us, e, r0, t⟩, r => by
    subst e
    exact ⟨_, _, rfl, r0, GdsAt.snoc t r⟩
theorem sumOf_sum : ∀ xs : List Int, xs.sum = sumOf xs
  | [] => rfl
  | x :: xs => by
    rw [List.sum_cons, sumOf_sum xs]
    rfl
/-- [part.worth for part in ..]: one reading -/
theorem fld_nd {T : Addr} {h l : Str} {w : Int} : (goodF h l w T).lookup ("heading" : Str) = some (V.str h) ∧ (goodF h l w T).lookup ("land" : Str) = some (V.str l) ∧ (goodF h l w T).lookup ("parts" : Str) = some (V.ref T) ∧ (goodF h l w T).lookup ("chapter" : Str) = some (V.str (chap h)) ∧ (goodF h l w T).lookup ("_worth" : Str) = some (V.int w) :=
  ⟨rfl, rfl, rfl, rfl, rfl⟩
theorem putF_ne {f g : Str} {v x : V} {r : List (Str × V)} (h : g ≠ f) : putF f v ((g, x) :: r) = (g, x) :: putF f v r := by
  show (if g = f then _ else _) = _
  rw [if_neg h]
theorem putF_nil {f : Str} {v : V} : putF f v [] = [(f, v)] := rfl
section
variable {P : Program} {w : World} {K : PySem.W.Frag} {mg : Str → Option Value} {base : Heap} {C pw fw : Addr} {gdw : FuncData}
def spInit (K : PySem.W.Frag) (C : Addr) : Sp := fun vs H Q _ => ∃ (x dx p : Addr) (n : Nd) (us : List V), vs = [.ref x, .str n.h, .int n.w, .str n.l, .ref p] ∧ H x = some (.ins C dx []) ∧ n.ok ∧ (SqL K H p us ∨ SqT K H p us) ∧ GdsAt K C H n.ks us ∧
  ∀ (H' : Hp), (∀ b o, H b = some o → b ≠ x → H' b = some o) → GdAt K C H' n (.ref x) → Q .non H'
theorem ok_goodInit {f g g2 : Addr} {fd gd gd2 : FuncData} {dvs : List V} (F : FunDf K "__init__" "Good.__init__" sGoodInit dvs f fd) (T : GCls K C pw fw gdw) (cIsAddr : CIsAddr P w K mg base g gd) (cIsName : CIsName P w K mg base g2 gd2) (B : Blt mg) : FnOk P w K mg base CX0 4 f fd ["self", "heading", "worth", "land", "parts"] (spInit K C) := by
  refine funD_ok F scGoodInit (fun vs H Q E h => ?_) (fun cdv A outer s H vs Q E hr h => ?_)
  · obtain ⟨x, dx, p, n, us, rfl, _⟩ := h
    rfl
  · obtain ⟨x, dx, p, n, us, rfl, hx, hok, hp, hks, q⟩ := h
    refine ⟨_, (pss_cons (ps_fld (pv 0) (pv 1) rfl)
      (pss_cons (ps_fld (pv 0) (pv 3) rfl)
      (pss_cons (ps_fld (pv 0) (pe_callTy call_tuple_of (by rfl) B.tuple PyProof.Rows.boot_tuple (pa_cons (pv 4) pa_nil)) rfl)
      (pss_cons (ps_fld (pv 0) (pe_slice sl_str (pv 1) po_none (po_some pe_int)) rfl)
      (pss_cons (ps_fld (pv 0) (pv 2) rfl)
      (pss_cons (ps_if (PW.pt (pw_or (pt_not (pt_val (pe_call cIsAddr.G (hr.mono (by first | decide | omega)) (by rfl) cIsAddr.D.g cIsAddr.D.F.kp cIsAddr.D.b .nil pass0 (pa_cons (pv 1) pa_nil)))) (pw_or (pt_cmpR op_lt (pv 2) pe_int (nomark _)) (pw_or1 (pt_not (pt_val (pe_call cIsName.G (hr.mono (by first | decide | omega)) (by rfl) cIsName.D.g cIsName.D.F.kp cIsName.D.b .nil pass0 (pa_cons (pv 3) pa_nil))))))))
        (pss_one ps_never)
        pss_nil)
      (pss_one (ps_if (pt_cmpR op_gt (pe_callB (cr_sum rfl) (by rfl) B.sum (by decide +kernel) (pa_cons (pe_lc (own := [("part", 5)]) (g := gName 5) (by rfl) scGoodInit.nd (pi_tup (pe_fld (pv 0) rfl)) (blkOk_by (N := NGoodInit) (sc := defScope sGoodInit) (by decide +kernel)) (fun _ _ _ _ _ => pg_name (i := 5) scGoodInit.nd rfl (Or.inl rfl)) (fun _ _ _ _ _ => pts_nil) (fun _ _ _ _ _ => pe_prop (pv 5) T.c T.pw T.Gw (hr.mono (by first | decide | omega)) T.bw .nil pass0 rfl)) pa_nil)) (pv 2) (nomark _))
        (pss_one ps_never)
        pss_nil)))))))), ?_⟩
    refine ⟨.str n.h, rfl, .ref x, rfl, x, C, dx, _, rfl, hx, T.c, T.nh, by decide, ?_⟩
    refine ⟨.str n.l, rfl, .ref x, rfl, x, C, dx, _, rfl, upd_same, T.c, T.nl, ?_, ?_⟩
    · exact (by decide : 1 < 1000)
    have hz : sizeLine = 16777216 := rfl
    obtain ⟨nh, nw, nl, nks⟩ := n
    obtain ⟨a1, a2, a3, a4, a5, a6⟩ := hok
    have hA : isAddr nh = true := (isAddr_iff _).mpr a1
    have hN : isName nl = true := (isName_iff _).mpr a2
    have lA := (ad_tx a1).len
    have lN := (nm_tx a2).len
    generalize hH2 : upd (upd H x _) x _ = H2
    have b2 : Bx x H H2 := by
      rw [← hH2]
      exact (Bx.upd (fun _ _ h _ => h)).upd
    have hx2 : H2 x = some (.ins C dx [("heading", .str nh), ("land", .str nl)]) := by
      rw [← hH2]
      exact upd_same
    refine ⟨.ref p, rfl, p, us, rfl, ?_⟩
    rcases hp with hp | hp
    refine .inl ⟨b2.sqL hx hp, fun Tp nT => ?_⟩
    have b3 := b2.new (o := .tup us) nT
    have hx3 := same_upd (o := .tup us) nT _ _ hx2
    have hT : SqT K (upd H2 Tp (.tup us)) Tp us := .inl (.inl upd_same)
    revert b3 hx3 hT
    generalize upd H2 Tp _ = H3
    intro b3 hx3 hT
    rotate_left
    refine .inr ⟨(b2.kd (C := C) hx).t _ _ hp, ?_⟩
    have b3 := b2
    have hx3 := hx2
    have hT := (b2.kd (C := C) hx).t _ _ hp
    revert b3 hx3 hT
    generalize H2 = H3
    intro b3 hx3 hT
    all_goals
      refine ⟨.ref x, rfl, x, C, dx, _, rfl, hx3, T.c, T.np, ?_, ?_⟩
      · exact (by decide : 2 < 1000)
      refine ⟨.str nh, rfl, 2, rfl, nh, rfl, by omega, .ref x, rfl, x, C, dx, _, rfl, upd_same, T.c, T.nc, ?_, ?_⟩
      · exact (by decide : 3 < 1000)
      refine ⟨.int nw, rfl, .ref x, rfl, x, C, dx, _, rfl, upd_same, T.c, T.nw, ?_, ?_⟩
      · exact (by decide : 4 < 1000)
      generalize hH4 : upd (upd (upd H3 x _) x _) x _ = H4
      have b4 : Bx x H H4 := by
        rw [← hH4]
        exact ((b3.upd).upd).upd
      have hT4 : ∃ Tp, SqT K H4 Tp us ∧ H4 x = some (.ins C dx (goodF nh nl nw Tp)) := by
        rw [← hH4]
        exact ⟨_, sqT_ins upd_same (sqT_ins upd_same (sqT_ins hx3 hT)), upd_same⟩
      clear hT hx3 b3 hH4 hH2 hx2 b2 hp
      obtain ⟨Tp, hT4, hx4⟩ := hT4
      refine ⟨.str nh, rfl, nh, rfl, by omega, fun H5 S5 => ⟨_, rfl, ?_⟩⟩
      rw [hA]
      refine ⟨.int nw, rfl, nw, 0, rfl, rfl, _, rfl, ?_⟩
      rw [decide_eq_false (show ¬ nw < 0 by omega)]
      refine ⟨.str nl, rfl, nl, rfl, by omega, fun H6 S6 => ⟨_, rfl, ?_⟩⟩
      rw [hN]
      have S46 : Same H4 H6 := Same.trans S5 S6
      have hks4 : GdsAt K C H4 nks us := GdsAt.go (b4.kd hx) hks
      have hks6 : GdsAt K C H6 nks us := hks4.kg (Same.kg S46)
      refine ⟨.ref x, rfl, x, C, dx, _, .ref Tp, rfl, S46 _ _ hx4, T.c, T.np, fld_nd.2.2.1, Tp, rfl, ⟨us, SqT.kg hT4 (Same.kg S46)⟩, fun D nD => lc_it (walk_tup (K := K) (a := Tp) (xs := us)) (fun i H7 => Same H6 H7 ∧ H7 D = some (.lst (((nks.take i).map Nd.w).map V.int))) ⟨same_upd nD, upd_same⟩ (fun i H7 _ hP => SqT.kg hT4 (Same.kg (Same.trans S46 hP.1))) (fun i v H7 H8 hi hP hy => ?_) (fun H7 hP => ?_)⟩
      · obtain ⟨S7, hD⟩ := hP
        obtain ⟨rfl, ev⟩ := hy
        obtain ⟨k, ek, gk⟩ := (hks6.kg (Same.kg S7)).at ev
        obtain ⟨a, d2, T2, vs2, rfl, ha, _, _⟩ := gk.ref
        refine ⟨rfl, _, rfl, a, d2, _, rfl, ha, a, d2, _, _, rfl, ha, fld_nd.2.2.2.2, _, hD, ?_, ?_, ?_⟩
        · rw [List.length_map, List.length_map, List.length_take]
          omega
        · intro b o hb
          rw [upd_ne (ne_of_none hb nD)]
          exact S7 _ _ hb
        · rw [upd_same, List.take_add_one, ek, List.map_append, List.map_append]
          rfl
      · obtain ⟨S7, hD⟩ := hP
        rw [hks6.len, List.take_length] at hD
        refine ⟨D, nks.map Nd.w, rfl, sqOf hD, .int nw, rfl, _, _, rfl, rfl, _, rfl, ?_⟩
        rw [decide_eq_false (by rw [sumOf_sum]; omega)]
        exact q H7 (fun b o hb hn => S7 _ _ (S46 _ _ (b4 b o hb hn))) ⟨x, dx, Tp, us, rfl, S7 _ _ (S46 _ _ hx4), SqT.kg hT4 (Same.kg (Same.trans S46 S7)), hks6.kg (Same.kg S7)⟩
end
end Tb
namespace Tb
open PySem PySem.Spec PyProof.Rows L2
open ZM (pi_zipM)
theorem pe_fldK {X : Cx} {K : PySem.W.Frag} {e : Expr} {f : Str} {pos : Pos} {ta : TE} (hK : X.K = K) (he : PE X e ta) (hb : attributeBase e f X.env (eval e X.env) = eval e X.env) : PE X (.Attribute e f pos) (tFld K ta f) := by
  subst hK
  exact pe_fld he hb
abbrev sRuling : Stmt := topS 25
abbrev NRuling : List Str := ["good", "share", "lands", "foreign", "greatest", "taken", "part", "land"]
theorem scRuling : FnScope NRuling ["good", "share", "lands"] (defScope sRuling) := ⟨rfl, rfl, rfl, by decide +kernel, rfl, by decide +kernel, by decide +kernel⟩
theorem str_dec {a b : Str} : decide (V.str a = V.str b) = decide (a = b) := by
  rw [Bool.eq_iff_iff, decide_eq_true_eq, decide_eq_true_eq]
  exact ⟨fun h => V.str.inj h, fun h => congrArg V.str h⟩
theorem int_dec {a b : Int} : decide (V.int a = V.int b) = decide (a = b) := by
  rw [Bool.eq_iff_iff, decide_eq_true_eq, decide_eq_true_eq]
  exact ⟨fun h => V.int.inj h, fun h => congrArg V.int h⟩
/-! pairs of a part and a land -/
abbrev Z := V × Nd × Str
def zrow (z : Z) : Row := ⟨chap z.2.1.h, z.2.1.w, z.2.2⟩
def FzAt (H : Hp) : List Z → List V → Prop
  | [], vs => vs = []
  | z :: zs, vs => ∃ t us, vs = .ref t :: us ∧ H t = some (.tup [z.1, .str z.2.2]) ∧ FzAt H zs us
theorem FzAt.same {H H' : Hp} (S : Same H H') : ∀ {zs : List Z} {vs : List V}, FzAt H zs vs → FzAt H' zs vs
  | [], _, h => h
  | _ :: _, _, ⟨t, us, e, h, r⟩ => ⟨t, us, e, S _ _ h, FzAt.same S r⟩
theorem FzAt.kg {H H' : Hp} (k : Kg H H') : ∀ {zs : List Z} {vs : List V}, FzAt H zs vs → FzAt H' zs vs
  | [], _, h => h
  | _ :: _, _, ⟨t, us, e, h, r⟩ => ⟨t, us, e, k _ _ h (fun _ z => by cases z), FzAt.kg k r⟩
theorem FzAt.len {H : Hp} : ∀ {zs : List Z} {vs : List V}, FzAt H zs vs → vs.length = zs.length
  | [], _, h => by
    have e : _ = _ := h
    subst e
    rfl
  | _ :: _, _, ⟨t, us, e, h, r⟩ => by
    subst e
    exact congrArg (· + 1) (FzAt.len r)
theorem FzAt.at {H : Hp} : ∀ {zs : List Z} {vs : List V} {i : Nat} {v : V}, FzAt H zs vs → vs[i]? = some v → ∃ z t, zs[i]? = some z ∧ v = .ref t ∧ H t = some (.tup [z.1, .str z.2.2])
  | [], _, _, _, h, e => by
    have e2 : _ = _ := h
    subst e2
    cases e
  | z :: zs, _, 0, v, ⟨t, us, e, h, r⟩, q => by
    subst e
    cases q
    exact ⟨z, t, rfl, rfl, h⟩
  | z :: zs, _, i + 1, v, ⟨t, us, e, h, r⟩, q => by
    subst e
    exact FzAt.at (zs := zs) (i := i) r q
theorem FzAt.snoc {H : Hp} : ∀ {zs : List Z} {vs : List V} {z : Z} {t : Addr}, FzAt H zs vs → H t = some (.tup [z.1, .str z.2.2]) → FzAt H (zs ++ [z]) (vs ++ [.ref t])
  | [], _, _, _, h, r => by
    have e : _ = _ := h
    subst e
    exact ⟨_, _, rfl, r, rfl⟩
  | _ :: _, _, _, _, ⟨t0, us, e, h, r0⟩, r => by
    subst e
    exact ⟨_, _, rfl, h, FzAt.snoc r0 r⟩
theorem filter_take {α : Type} (p : α → Bool) (xs : List α) {i : Nat} {x : α} (h : xs[i]? = some x) : (xs.take (i + 1)).filter p = (xs.take i).filter p ++ (if p x = true then [x] else []) := by
  rw [List.take_add_one, h, List.filter_append]
  by_cases c : p x = true
  · rw [if_pos c]
    show _ ++ [x].filter p = _
    rw [List.filter_cons_of_pos c, List.filter_nil]
  · rw [if_neg c]
    show _ ++ [x].filter p = _
    rw [List.filter_cons_of_neg c, List.filter_nil]
/-- a comprehension over such a list: [f for part, land in .. if p] -/
theorem lc_F {K : PySem.W.Frag} {a D : Addr} {i j : Nat} {fz : List Z} {vs : List V} {H1 : Hp} {Qd : Hp → Prop} {σ : L2.St} {tt : TT} {te : TE} (p : Z → Bool) (f : Z → V) (ha : H1 a = some (.lst vs)) (hz : FzAt H1 fz vs) (nD : H1 D = none) (hlen : fz.length ≤ 1000)
    (hw : ∀ x y, wipe (((wipe σ [i, j]).set i (some x)).set j (some y)) [i, j] = wipe σ [i, j])
    (ht : ∀ z ∈ fz, ∀ H2, Same H1 H2 → ∀ R : Bool → Hp → Prop, R (p z) H2 → tt (((wipe σ [i, j]).set i (some z.1)).set j (some (.str z.2.2))) H2 R)
    (he : ∀ z ∈ fz, ∀ H2, Same H1 H2 → ∀ R : V → Hp → Prop, R (f z) H2 → te (((wipe σ [i, j]).set i (some z.1)).set j (some (.str z.2.2))) H2 R)
    (hd : ∀ H3, Same H1 H3 → H3 D = some (.lst ((fz.filter p).map f)) → Qd H3) :
    ∃ W : Nat → Nat → Hp → Prop, (∃ m, W 0 m (upd H1 D (.lst []))) ∧ ∀ n m H, W n m H →
      ((Itl K a).stop n H ∧ Qd H) ∨ ((Itl K a).go n H ∧ ∃ Nx : Hp → Prop, (∀ H', Nx H' → ∃ m', m' < m ∧ W (n + 1) m' H') ∧ ∀ x H', (Itl K a).yld n H x H' → gTup K 2 (gCons (gName i) (gCons (gName j) gNil)) x (wipe σ [i, j]) H' fun σ2 H2 => wipe σ2 [i, j] = wipe σ [i, j] ∧ tt σ2 H2 fun b H3 =>
        if b = true then te σ2 H3 fun y H4 => ∃ acc, H4 D = some (.lst acc) ∧ acc.length < sizeLine ∧ Nx (upd H4 D (.lst (acc ++ [y]))) else Nx H3) := by
  refine lc_it (walk_list (K := K) (a := a) (xs := vs)) (fun n H3 => Same H1 H3 ∧ H3 D = some (.lst (((fz.take n).filter p).map f))) ⟨same_upd nD, upd_same⟩ (fun n H3 _ hP => sqOf (hP.1 _ _ ha)) (fun n v H3 H4 hn hP hy => ?_) (fun H3 hP => hd H3 hP.1 ?_)
  · obtain ⟨S3, hD⟩ := hP
    obtain ⟨rfl, ev⟩ := hy
    obtain ⟨z, t, ez, rfl, h4⟩ := (FzAt.same S3 hz).at ev
    have mz : z ∈ fz := List.mem_of_getElem? ez
    refine ⟨t, _, rfl, .inl (.inl h4), rfl, z.1, _, rfl, .str z.2.2, _, rfl, rfl, hw _ _, ht z mz _ S3 _ ?_⟩
    have ft := filter_take p fz ez
    by_cases c : p z = true
    · rw [if_pos c] at ft
      rw [if_pos c]
      refine he z mz _ S3 _ ⟨_, hD, ?_, ?_, ?_⟩
      · rw [List.length_map]
        exact small1000 (Nat.le_trans (List.length_filter_le _ _) (by rw [List.length_take]; omega))
      · intro b o hb
        rw [upd_ne (ne_of_none hb nD)]
        exact S3 _ _ hb
      · rw [upd_same, ft, List.map_append]
        rfl
    · rw [if_neg c] at ft
      rw [if_neg c]
      refine ⟨S3, ?_⟩
      rw [hD, ft, List.append_nil]
  · rw [hP.2, hz.len, List.take_length]
/-! the first of the greatest -/
theorem best_is : ∀ (fs : List Row) (b : Row) (M : Int), (∀ x ∈ b :: fs, x.w ≤ M) → (∃ x ∈ b :: fs, x.w = M) → ((b :: fs).filter fun x => decide (x.w = M)).head? = some (best fs b)
  | [], b, M, h, ⟨x, hx, e⟩ => by
    rw [List.mem_singleton.mp hx] at e
    rw [List.filter_cons_of_pos (p := fun x : Row => decide (x.w = M)) (decide_eq_true e)]
    rfl
  | y :: fs, b, M, h, hx => by
    show _ = some (best fs (if b.w < y.w then y else b))
    by_cases c : b.w < y.w
    · rw [if_pos c]
      have hy := h y (List.mem_cons_of_mem _ (List.mem_cons_self ..))
      rw [List.filter_cons_of_neg (by simp; omega)]
      refine best_is fs y M (fun x q => h x (List.mem_cons_of_mem _ q)) ?_
      obtain ⟨x, hx, e⟩ := hx
      rcases List.mem_cons.mp hx with z | z
      · rw [z] at e
        omega
      · exact ⟨x, z, e⟩
    · rw [if_neg c]
      have ih := best_is fs b M (fun x q => (List.mem_cons.mp q).elim (fun z => h x (z ▸ List.mem_cons_self ..)) fun z => h x (List.mem_cons_of_mem _ (List.mem_cons_of_mem _ z)))
      by_cases e : b.w = M
      · have := ih ⟨b, List.mem_cons_self .., e⟩
        rw [List.filter_cons_of_pos (p := fun x : Row => decide (x.w = M)) (decide_eq_true e)] at this ⊢
        exact this
      · have hb := h b (List.mem_cons_self ..)
        have hy : ¬ y.w = M := by omega
        rw [List.filter_cons_of_neg (by simp; exact e)] at ih ⊢
        rw [List.filter_cons_of_neg (by simp; exact hy)]
        refine ih ?_
        obtain ⟨x, hx, e2⟩ := hx
        rcases List.mem_cons.mp hx with z | z
        · rw [z] at e2; exact absurd e2 e
        · rcases List.mem_cons.mp z with z | z
          · rw [z] at e2; exact absurd e2 hy
          · exact ⟨x, List.mem_cons_of_mem _ z, e2⟩
theorem sqL_same {K : PySem.W.Frag} {H H' : Hp} {a : Addr} {xs : List V} (h : SqL K H a xs) (S : Same H H') : SqL K H' a xs := by
  rcases h with (h | ⟨o, h⟩) | h
  · exact .inl (.inl (S _ _ h))
  · exact .inl (.inr ⟨o, S _ _ h⟩)
  · exact .inr h
def rowsL (ks : List Nd) (ls : List Str) : List Row := (ks.zip ls).map fun p => ⟨chap p.1.h, p.1.w, p.2⟩
theorem rowsL_cert (s : Int) : ∀ ks : List Nd, rowsL ks ((certsOf s ks).map Pp.l) = rowsOf s ks
  | [] => rfl
  | k :: ks => by
    show _ :: rowsL ks ((certsOf s ks).map Pp.l) = _ :: rowsOf s ks
    rw [rowsL_cert s ks]
theorem zip_rows : ∀ {us : List V} {ks : List Nd} {ls : List Str}, us.length = ks.length → ls.length = ks.length → (us.zip (ks.zip ls)).map zrow = rowsL ks ls
  | [], [], [], _, _ => rfl
  | u :: us, k :: ks, l :: ls, h1, h2 => by
    show _ :: (us.zip (ks.zip ls)).map zrow = _ :: rowsL ks ls
    rw [zip_rows (Nat.succ.inj h1) (Nat.succ.inj h2)]
    rfl
  | [], _ :: _, _, h, _ => by cases h
  | _ :: _, [], _, h, _ => by cases h
  | [], [], _ :: _, _, h => by cases h
  | _ :: _, _ :: _, [], _, h => by cases h
theorem far_rows (l : Str) (zs : List Z) : farOf l (zs.map zrow) = (zs.filter fun z => !decide (z.2.2 = l)).map zrow := by
  unfold farOf
  rw [List.filter_map]
  rfl
theorem walk_zipM {K : PySem.W.Frag} {a b : Addr} {xs ys : List V} {n : Nat} (hx : n = xs.length) (hy : n = ys.length) : Walk (ZM.ItzT K a b) n (fun H => SqT K H a xs ∧ SqL K H b ys) (YPair (fun i => xs[i]?) (fun i => ys[i]?)) := by
  refine ⟨fun i _ hi q => ?_, fun _ q => ⟨xs, ys, q.1, q.2, .inl (by omega)⟩, fun i H v H' _ q y => ?_⟩
  · have h1 : i < xs.length := by omega
    have h2 : i < ys.length := by omega
    exact ⟨xs, ys, xs[i], ys[i], q.1, q.2, List.getElem?_eq_getElem h1, List.getElem?_eq_getElem h2⟩
  · obtain ⟨T, x, z, h1, h2, h3, h4, h5⟩ := y
    exact ⟨T, x, z, h1, h2, h3, h4 xs q.1, h5 ys q.2⟩
theorem ruled_wholly {h l : Str} {w s : Int} {xs : List Row} (hx : xs ≠ []) (hf : farOf l xs = []) : ruled h w l s xs = (("wholly" : Str), l) := by
  cases xs with
  | nil => exact absurd rfl hx
  | cons x xs =>
    unfold ruled
    rw [hf]
theorem ruled_far {h l : Str} {w s : Int} {xs : List Row} {f : Row} {fs : List Row} (hx : xs ≠ []) (hf : farOf l xs = f :: fs) : ruled h w l s xs = if (f :: fs).all (fun x => !decide (x.c = chap h)) then (("changed" : Str), l) else if 100 * sumOf ((f :: fs).map Row.w) ≤ s * w then (("value" : Str), l) else (("taken" : Str), (best fs f).l) := by
  cases xs with
  | nil => exact absurd rfl hx
  | cons x xs =>
    unfold ruled
    rw [hf]
theorem filt_true {α : Type} (xs : List α) : (xs.filter fun _ => true) = xs := List.filter_eq_self.mpr fun _ _ => rfl
section
variable {P : Program} {w : World} {K : PySem.W.Frag} {mg : Str → Option Value} {base : Heap} {C pw fw : Addr} {gdw : FuncData}
def spRuling (K : PySem.W.Frag) (C : Addr) : Sp := fun vs H Q _ => ∃ (a : V) (n : Nd) (s : Int) (L : Addr) (ls : List Str), vs = [a, .int s, .ref L] ∧ GdAt K C H n a ∧ n.ok ∧ 0 ≤ s ∧ s ≤ 100 ∧ SqL K H L (ls.map V.str) ∧ ls.length = n.ks.length ∧
  ∀ (t : Addr) (H' : Hp), Same H H' → H t = none → H' t = some (.tup [.str (ruled n.h n.w n.l s (rowsL n.ks ls)).1, .str (ruled n.h n.w n.l s (rowsL n.ks ls)).2]) → Q (.ref t) H'
theorem ok_ruling {f : Addr} {fd : FuncData} (F : Fun K "_ruling" "_ruling" sRuling f fd) (T : GCls K C pw fw gdw) (B : Blt mg) : FnOk P w K mg base CX0 3 f fd ["good", "share", "lands"] (spRuling K C) := by
  refine F.ok scRuling (fun vs H Q E h => ?_) (fun cdv A outer s H vs Q E hr h => ?_)
  · obtain ⟨a, n, sh, L, ls, rfl, _⟩ := h
    rfl
  · obtain ⟨v, n, sh, L, ls, rfl, hv, hok, h0, h1, hL, hl, q⟩ := h
    obtain ⟨a, dx, Tp, us, rfl, ha, hT, hks⟩ := hv.ref
    obtain ⟨nh, nw, nl, ks⟩ := n
    obtain ⟨a1, a2, a3, a4, a5, a6⟩ := hok
    have lu : us.length = ks.length := hks.len
    have hl : ls.length = ks.length := hl
    refine ⟨_, (pss_cons (ps_setLc (i := 3) (own := [("part", 6), ("land", 7)]) (g := gTup K 2 (gCons (gName 6) (gCons (gName 7) gNil))) (by rfl) scRuling.nd rfl rfl (sw_true rfl rfl rfl (by decide +kernel)) (pi_zipM (by rfl) B.zip (pa_cons (pe_fld (pv 0) rfl) (pa_cons (pv 2) pa_nil))) (blkOk_by (N := NRuling) (sc := defScope sRuling) (by decide +kernel)) (fun _ _ _ _ _ => pg_tup (by rfl) (pgs_cons (pg_name (i := 6) scRuling.nd rfl (Or.inl rfl)) (pgs_cons (pg_name (i := 7) scRuling.nd rfl (Or.inl rfl)) pgs_nil))) (fun _ _ _ _ _ => pts_one (pt_cmpR op_ne (pv 7) (pe_fldK (K := K) rfl (pv 0) rfl) (nomark _))) (fun _ _ _ _ _ => pe_tup (pa_cons (pv 6) (pa_cons (pv 7) pa_nil))))
      (pss_cons (ps_if (pt_not (pt_truth (pe_fld (pv 0) rfl) (by intro _; rfl)))
        (pss_one (ps_ret (pe_tup (pa_cons pe_str (pa_cons (pe_fld (pv 0) rfl) pa_nil)))))
        pss_nil)
      (pss_cons (ps_if (pt_not (pt_truth (pv 3) (by intro _; rfl)))
        (pss_one (ps_ret (pe_tup (pa_cons pe_str (pa_cons (pe_fld (pv 0) rfl) pa_nil)))))
        pss_nil)
      (pss_cons (ps_if (pt_val (pe_callB (cr_all rfl) (by rfl) B.all (by decide +kernel) (pa_cons (pe_lc (own := [("part", 6), ("land", 7)]) (g := gTup K 2 (gCons (gName 6) (gCons (gName 7) gNil))) (by rfl) scRuling.nd (pi_list (pv 3)) (blkOk_by (N := NRuling) (sc := defScope sRuling) (by decide +kernel)) (fun _ _ _ _ _ => pg_tup (by rfl) (pgs_cons (pg_name (i := 6) scRuling.nd rfl (Or.inl rfl)) (pgs_cons (pg_name (i := 7) scRuling.nd rfl (Or.inl rfl)) pgs_nil))) (fun _ _ _ _ _ => pts_nil) (fun _ _ _ _ _ => pe_cmpR op_ne (pe_fldK (K := K) rfl (pv 6) rfl) (pe_fldK (K := K) rfl (pv 0) rfl) (nomark _))) pa_nil)))
        (pss_one (ps_ret (pe_tup (pa_cons pe_str (pa_cons (pe_fld (pv 0) rfl) pa_nil)))))
        pss_nil)
      (pss_cons (ps_if (pt_cmpR op_le (pe_op op_mul (pe_callB (cr_sum rfl) (by rfl) B.sum (by decide +kernel) (pa_cons (pe_lc (own := [("part", 6), ("land", 7)]) (g := gTup K 2 (gCons (gName 6) (gCons (gName 7) gNil))) (by rfl) scRuling.nd (pi_list (pv 3)) (blkOk_by (N := NRuling) (sc := defScope sRuling) (by decide +kernel)) (fun _ _ _ _ _ => pg_tup (by rfl) (pgs_cons (pg_name (i := 6) scRuling.nd rfl (Or.inl rfl)) (pgs_cons (pg_name (i := 7) scRuling.nd rfl (Or.inl rfl)) pgs_nil))) (fun _ _ _ _ _ => pts_nil) (fun _ _ _ _ _ => pe_prop (pv 6) T.c T.pw T.Gw (hr.mono (by first | decide | omega)) T.bw .nil pass0 rfl)) pa_nil)) pe_int) (pe_op op_mul (pv 1) (pe_prop (pv 0) T.c T.pw T.Gw (hr.mono (by first | decide | omega)) T.bw .nil pass0 rfl)) (nomark _))
        (pss_one (ps_ret (pe_tup (pa_cons pe_str (pa_cons (pe_fld (pv 0) rfl) pa_nil)))))
        pss_nil)
      (pss_cons (ps_set (i := 4) scRuling.nd rfl (.inr rfl) (pe_callB (cr_max rfl) (by rfl) B.max (by decide +kernel) (pa_cons (pe_lc (own := [("part", 6), ("land", 7)]) (g := gTup K 2 (gCons (gName 6) (gCons (gName 7) gNil))) (by rfl) scRuling.nd (pi_list (pv 3)) (blkOk_by (N := NRuling) (sc := defScope sRuling) (by decide +kernel)) (fun _ _ _ _ _ => pg_tup (by rfl) (pgs_cons (pg_name (i := 6) scRuling.nd rfl (Or.inl rfl)) (pgs_cons (pg_name (i := 7) scRuling.nd rfl (Or.inl rfl)) pgs_nil))) (fun _ _ _ _ _ => pts_nil) (fun _ _ _ _ _ => pe_prop (pv 6) T.c T.pw T.Gw (hr.mono (by first | decide | omega)) T.bw .nil pass0 rfl)) pa_nil)))
      (pss_cons (ps_setLc (i := 5) (own := [("part", 6), ("land", 7)]) (g := gTup K 2 (gCons (gName 6) (gCons (gName 7) gNil))) (by rfl) scRuling.nd rfl rfl (sw_true rfl rfl rfl (by decide +kernel)) (pi_list (pv 3)) (blkOk_by (N := NRuling) (sc := defScope sRuling) (by decide +kernel)) (fun _ _ _ _ _ => pg_tup (by rfl) (pgs_cons (pg_name (i := 6) scRuling.nd rfl (Or.inl rfl)) (pgs_cons (pg_name (i := 7) scRuling.nd rfl (Or.inl rfl)) pgs_nil))) (fun _ _ _ _ _ => pts_one (pt_cmpR op_eq (pe_prop (pv 6) T.c T.pw T.Gw (hr.mono (by first | decide | omega)) T.bw .nil pass0 rfl) (pv 4) (nomark _))) (fun _ _ _ _ _ => pv 7))
      (pss_one (ps_ret (pe_tup (pa_cons pe_str (pa_cons (pe_ix ix_list (pv 5) pe_int (fun _ _ => rfl)) pa_nil)))))))))))), ?_⟩
    obtain ⟨zs, hzs⟩ : ∃ zs : List Z, zs = us.zip (ks.zip ls) := ⟨_, rfl⟩
    have rz : zs.map zrow = rowsL ks ls := by rw [hzs]; exact zip_rows lu hl
    refine ⟨.ref a, rfl, a, C, dx, _, _, rfl, ha, T.c, T.np, fld_nd.2.2.1, .ref L, rfl, Tp, L, us, _, rfl, hT, hL, fun D nD => ?_⟩
    have ez : ∀ {i : Nat} {x : V} {y : V}, us[i]? = some x → (ls.map V.str)[i]? = some y → ∃ k l, y = .str l ∧ zs[i]? = some (x, k, l) := fun {i x y} hx hy => by
      rw [List.getElem?_map] at hy
      cases hl2 : ls[i]? with
      | none => rw [hl2] at hy; cases hy
      | some l =>
        rw [hl2] at hy
        have hi : i < ks.length := by
          rw [← lu]
          exact (List.getElem?_eq_some_iff.mp hx).1
        refine ⟨ks[i], l, (Option.some.inj hy).symm, ?_⟩
        rw [hzs, List.getElem?_zip_eq_some]
        refine ⟨hx, ?_⟩
        rw [List.getElem?_zip_eq_some]
        exact ⟨List.getElem?_eq_getElem hi, hl2⟩
    have lz : zs.length = ks.length := by
      rw [hzs, List.length_zip, List.length_zip]
      omega
    refine lc_it (walk_zipM (K := K) (a := Tp) (b := L) (xs := us) (ys := ls.map V.str) (n := ks.length) lu.symm (by rw [List.length_map]; exact hl.symm)) (fun i H1 => Same H H1 ∧ ∃ ws, H1 D = some (.lst ws) ∧ FzAt H1 ((zs.take i).filter fun z => !decide (z.2.2 = nl)) ws) ⟨same_upd nD, [], upd_same, rfl⟩ (fun i H1 _ hP => ⟨SqT.kg hT (Same.kg hP.1), sqL_same hL hP.1⟩) (fun i v H1 H2 hi hP hy => ?_) (fun H1 hP => ?_)
    · obtain ⟨S1, ws, hD, hF⟩ := hP
      obtain ⟨T1, x, y, rfl, n1, rfl, ex, ey⟩ := hy
      obtain ⟨k, l, rfl, ez⟩ := ez ex ey
      have S2 : Same H (upd H1 T1 (.tup [x, .str l])) := Same.trans S1 (same_upd n1)
      have ft := filter_take (fun z : Z => !decide (z.2.2 = nl)) zs ez
      refine ⟨T1, _, rfl, .inl (.inl upd_same), rfl, x, _, rfl, .str l, _, rfl, rfl, rfl, ?_⟩
      refine ⟨.str l, rfl, .ref a, rfl, a, C, dx, _, _, rfl, S2 _ _ ha, T.c, T.nl, fld_nd.2.1, rfl, _, rfl, ?_⟩
      rw [str_dec]
      refine ite2 (fun c => ?_) (fun c => ?_)
      · rw [if_pos (show (!decide ((x, k, l).2.2 = nl)) = true from c)] at ft
        refine ⟨x, rfl, .str l, rfl, by show 2 ≤ sizeLine; decide, fun t nt => ⟨ws, ?_, ?_, ?_, ws ++ [.ref t], upd_same, ?_⟩⟩
        · rw [upd_ne (ne_of_none (same_upd n1 _ _ hD) nt)]
          exact same_upd n1 _ _ hD
        · rw [hF.len]
          exact small1000 (Nat.le_trans (List.length_filter_le _ _) (by rw [List.length_take]; omega))
        · intro b o hb
          rw [upd_ne (ne_of_none hb nD)]
          exact same_upd nt _ _ (S2 _ _ hb)
        · rw [ft]
          have hDt : ¬ D = t := ne_of_none (same_upd n1 _ _ hD) nt
          refine FzAt.snoc ?_ ?_
          · exact FzAt.kg (Kg.upd (same_upd nt _ _ (same_upd n1 _ _ hD))) (FzAt.same (same_upd nt) (FzAt.same (same_upd n1) hF))
          · rw [upd_ne (Ne.symm hDt)]
            exact upd_same
      · rw [if_neg (show ¬ (!decide ((x, k, l).2.2 = nl)) = true from c), List.append_nil] at ft
        refine ⟨S2, ws, ?_, ?_⟩
        · rw [upd_ne (ne_of_none hD n1)]
          exact hD
        · rw [ft]
          exact FzAt.same (same_upd n1) hF
    obtain ⟨S1, ws, hD, hF⟩ := hP
    rw [← lz, List.take_length] at hF
    obtain ⟨fz, hfz⟩ : ∃ fz : List Z, fz = zs.filter fun z => !decide (z.2.2 = nl) := ⟨_, rfl⟩
    rw [← hfz] at hF
    have far : farOf nl (rowsL ks ls) = fz.map zrow := by rw [← rz, far_rows, hfz]
    have lf : fz.length ≤ 1000 := by rw [hfz]; exact Nat.le_trans (List.length_filter_le _ _) (by omega)
    have gz : ∀ z ∈ fz, GdAt K C H z.2.1 z.1 := fun z hz => by
      rw [hfz] at hz
      have hz := (List.mem_filter.mp hz).1
      rw [hzs] at hz
      obtain ⟨i, hi⟩ := List.mem_iff_getElem?.mp hz
      rw [List.getElem?_zip_eq_some] at hi
      obtain ⟨hi1, hi2⟩ := hi
      rw [List.getElem?_zip_eq_some] at hi2
      obtain ⟨k, e1, e2⟩ := GdsAt.at hks hi1
      have e3 : ks[i]? = some k := e1
      rw [hi2.1] at e3
      cases e3
      exact e2
    refine ⟨.ref a, rfl, a, C, dx, _, _, rfl, S1 _ _ ha, T.c, T.np, fld_nd.2.2.1, !us.isEmpty, .inr (.inl ⟨us, SqT.kg hT (Same.kg S1), rfl⟩), ?_⟩
    have xs0 : rowsL ks ls ≠ [] ↔ us.isEmpty = false := by
      have l1 : (rowsL ks ls).length = ks.length := by
        unfold rowsL
        rw [List.length_map, List.length_zip]
        omega
      constructor
      · intro hx
        cases us with
        | nil => exact absurd (List.length_eq_zero_iff.mp (by rw [l1, ← lu]; rfl)) hx
        | cons => rfl
      · intro hx e
        rw [e] at l1
        cases us with
        | nil => cases hx
        | cons u us => rw [← lu] at l1; cases l1
    have hret : ∀ {H2 : Hp} {t : Addr} {r l : Str}, Same H H2 → H2 t = none → ruled nh nw nl sh (rowsL ks ls) = (r, l) → Q (.ref t) (upd H2 t (.tup [.str r, .str l])) := fun {H2 t r l} S2 nt e => by
      refine q t _ (Same.trans S2 (same_upd nt)) ?_ ?_
      · cases e2 : H t with
        | none => rfl
        | some o => rw [S2 _ _ e2] at nt; cases nt
      · show _ = some (HO.tup [.str (ruled nh nw nl sh (rowsL ks ls)).1, .str (ruled nh nw nl sh (rowsL ks ls)).2])
        rw [upd_same, e]
    refine ite2 (fun c => ?_) (fun c => ?_)
    · refine ⟨.ref a, rfl, a, C, dx, _, _, rfl, S1 _ _ ha, T.c, T.nl, fld_nd.2.1, by show 2 ≤ sizeLine; decide, fun t nt => hret S1 nt ?_⟩
      have hx : rowsL ks ls = [] := Classical.byContradiction fun z => by
        rw [xs0.mp z] at c
        cases c
      rw [hx]
      rfl
    have hx : rowsL ks ls ≠ [] := xs0.mpr (by
      cases e : us.isEmpty with
      | false => rfl
      | true => rw [e] at c; exact absurd rfl c)
    refine ⟨.ref D, rfl, !ws.isEmpty, .inl ⟨ws, sqOf hD, rfl⟩, ?_⟩
    refine ite2 (fun c2 => ?_) (fun c2 => ?_)
    · refine ⟨.ref a, rfl, a, C, dx, _, _, rfl, S1 _ _ ha, T.c, T.nl, fld_nd.2.1, by show 2 ≤ sizeLine; decide, fun t nt => hret S1 nt (ruled_wholly hx ?_)⟩
      rw [far]
      cases fz with
      | nil => rfl
      | cons z zs2 =>
        obtain ⟨t2, us2, e2, _⟩ := hF
        rw [e2] at c2
        cases c2
    obtain ⟨f0, fs0, ef⟩ : ∃ f fs, fz = f :: fs := by
      cases fz with
      | nil =>
        have e2 : ws = [] := hF
        rw [e2] at c2
        exact absurd rfl c2
      | cons z zs2 => exact ⟨_, _, rfl⟩
    have hru := ruled_far (h := nh) (w := nw) (s := sh) hx (far.trans (by rw [ef]; rfl))
    have cz : ∀ z ∈ fz, ∀ H2, Same H1 H2 → ∃ (a2 d2 T2 : Addr), z.1 = .ref a2 ∧ H2 a2 = some (.ins C d2 (goodF z.2.1.h z.2.1.l z.2.1.w T2)) := fun z hz H2 S2 => by
      obtain ⟨a2, d2, T2, _, e2, h2, _⟩ := (gz z hz).ref
      exact ⟨a2, d2, T2, e2, S2 _ _ (S1 _ _ h2)⟩
    refine ⟨.ref D, rfl, D, rfl, ⟨ws, sqOf hD⟩, fun D2 n2 => lc_F (K := K) (i := 6) (j := 7) (fun _ => true) (fun z => .bl (!decide (chap z.2.1.h = chap nh))) hD hF n2 lf (fun _ _ => rfl) (fun z _ H2 _ R h => h) (fun z hz H2 S2 R h => ?_) (fun H2 S2 hD2 => ?_)⟩
    · obtain ⟨a2, d2, T2, e2, h2⟩ := cz z hz H2 S2
      refine ⟨z.1, rfl, a2, C, d2, _, _, e2, h2, T.c, T.nc, fld_nd.2.2.2.1, .ref a, rfl, a, C, dx, _, _, rfl, S2 _ _ (S1 _ _ ha), T.c, T.nc, fld_nd.2.2.2.1, rfl, ?_⟩
      rw [str_dec]
      exact h
    refine ⟨D2, fz.map (fun z => !decide (chap z.2.1.h = chap nh)), rfl, sqOf ?_, _, rfl, ite2 (fun c3 => ?_) (fun c3 => ?_)⟩
    · rw [hD2, filt_true, List.map_map]
      rfl
    · refine ⟨.ref a, rfl, a, C, dx, _, _, rfl, S2 _ _ (S1 _ _ ha), T.c, T.nl, fld_nd.2.1, by show 2 ≤ sizeLine; decide, fun t nt => hret (Same.trans S1 S2) nt ?_⟩
      have e3 : ((zrow f0 :: fs0.map zrow).all fun x => !decide (x.c = chap nh)) = true := by
        show ((f0 :: fs0).map zrow).all _ = _
        rw [← ef, List.all_map, ← c3, List.all_map]
        rfl
      exact hru.trans (if_pos e3)
    have esum : (zrow f0 :: fs0.map zrow).map Row.w = fz.map (fun z => z.2.1.w) := by
      show ((f0 :: fs0).map zrow).map Row.w = _
      rw [← ef, List.map_map]
      rfl
    have c3' : ¬ ((zrow f0 :: fs0.map zrow).all fun x => !decide (x.c = chap nh)) = true := fun z => c3 (by
      rw [← z]
      show _ = ((f0 :: fs0).map zrow).all _
      rw [← ef, List.all_map, List.all_map]
      rfl)
    rw [if_neg c3'] at hru
    have S12 := Same.trans S1 S2
    have hD' := S2 _ _ hD
    have hF' := FzAt.same S2 hF
    have wz : ∀ z ∈ fz, ∀ H3, Same H2 H3 → ∀ R : V → Hp → Prop, R (.int z.2.1.w) H3 → ∃ (a2 d2 : Addr) (fs : List (Str × V)), z.1 = .ref a2 ∧ H3 a2 = some (.ins C d2 fs) ∧ getSp C "_worth" [.ref a2] H3 R E0 := fun z hz H3 S3 R h => by
      obtain ⟨a2, d2, T2, e2, h2⟩ := cz z hz H3 (Same.trans S2 S3)
      exact ⟨a2, d2, _, e2, h2, a2, d2, _, _, rfl, h2, fld_nd.2.2.2.2, h⟩
    refine ⟨.ref D, rfl, D, rfl, ⟨ws, sqOf hD'⟩, fun D3 n3 => lc_F (K := K) (i := 6) (j := 7) (fun _ => true) (fun z => .int z.2.1.w) hD' hF' n3 lf (fun _ _ => rfl) (fun z _ H3 _ R h => h) (fun z hz H3 S3 R h => ⟨z.1, rfl, wz z hz H3 S3 R h⟩) (fun H3 S3 hD3 => ?_)⟩
    refine ⟨D3, fz.map (fun z => z.2.1.w), rfl, sqOf ?_, _, 100, rfl, rfl, .inr ⟨by decide, by decide⟩, ?_⟩
    · rw [hD3, filt_true, List.map_map]
      rfl
    have S13 := Same.trans S12 S3
    refine ⟨.int sh, rfl, .ref a, rfl, a, dx, _, rfl, S13 _ _ ha, a, dx, _, _, rfl, S13 _ _ ha, fld_nd.2.2.2.2, sh, nw, rfl, rfl, .inl ⟨by omega, by omega⟩, _, _, rfl, rfl, _, rfl, ite2 (fun c4 => ?_) (fun c4 => ?_)⟩
    · refine ⟨.ref a, rfl, a, C, dx, _, _, rfl, S13 _ _ ha, T.c, T.nl, fld_nd.2.1, by show 2 ≤ sizeLine; decide, fun t nt => hret S13 nt ?_⟩
      refine hru.trans (if_pos ?_)
      rw [esum]
      have := of_decide_eq_true c4
      rw [sumOf_sum] at this
      omega
    have c4' : ¬ 100 * sumOf ((zrow f0 :: fs0.map zrow).map Row.w) ≤ sh * nw := fun z => c4 (decide_eq_true (by
      rw [esum] at z
      rw [sumOf_sum]
      omega))
    rw [if_neg c4'] at hru
    have hD'' := S3 _ _ hD'
    have hF'' := FzAt.same S3 hF'
    refine ⟨.ref D, rfl, D, rfl, ⟨ws, sqOf hD''⟩, fun D4 n4 => lc_F (K := K) (i := 6) (j := 7) (fun _ => true) (fun z => .int z.2.1.w) hD'' hF'' n4 lf (fun _ _ => rfl) (fun z _ H4 _ R h => h) (fun z hz H4 S4 R h => ⟨z.1, rfl, wz z hz H4 (Same.trans S3 S4) R h⟩) (fun H4 S4 hD4 => ?_)⟩
    refine ⟨D4, fz.map (fun z => z.2.1.w), rfl, sqOf ?_, ?_, fun M mM hM => ?_⟩
    · rw [hD4, filt_true, List.map_map]
      rfl
    · rw [ef]
      exact Nat.succ_pos _
    have S14 := Same.trans S13 S4
    have hD5 := S4 _ _ hD''
    have hF5 := FzAt.same S4 hF''
    have S24 := Same.trans S3 S4
    refine ⟨.ref D, rfl, D, rfl, ⟨ws, sqOf hD5⟩, fun D5 n5 => lc_F (K := K) (i := 6) (j := 7) (fun z => decide (z.2.1.w = M)) (fun z => .str z.2.2) hD5 hF5 n5 lf (fun _ _ => rfl) (fun z hz H5 S5 R h => ⟨z.1, rfl, wz z hz H5 (Same.trans S24 S5) _ ⟨.int M, rfl, rfl, _, rfl, ?_⟩⟩) (fun z hz H5 S5 R h => ⟨_, rfl, h⟩) (fun H5 S5 hDz => ?_)⟩
    · rw [int_dec]
      exact h
    have S15 := Same.trans S14 S5
    have hb : ((fz.filter fun z => decide (z.2.1.w = M)).map zrow).head? = some (best (fs0.map zrow) (zrow f0)) := by
      have b := best_is (fs0.map zrow) (zrow f0) M ?_ ?_
      · rw [← b, ef]
        show _ = (((f0 :: fs0).map zrow).filter _).head?
        rw [List.filter_map]
        rfl
      · intro x hx
        obtain ⟨z, hz, e⟩ := List.mem_map.mp (show x ∈ (f0 :: fs0).map zrow from hx)
        rw [← e]
        exact hM _ (List.mem_map.mpr ⟨z, ef ▸ hz, rfl⟩)
      · obtain ⟨z, hz, e⟩ := List.mem_map.mp mM
        refine ⟨zrow z, ?_, e⟩
        show zrow z ∈ (f0 :: fs0).map zrow
        rw [ef] at hz
        exact List.mem_map.mpr ⟨z, hz, rfl⟩
    cases eg : fz.filter fun z => decide (z.2.1.w = M) with
    | nil => rw [eg] at hb; cases hb
    | cons z zs2 =>
      rw [eg] at hb hDz
      have hb : zrow z = best (fs0.map zrow) (zrow f0) := Option.some.inj hb
      refine ⟨.ref D5, rfl, D5, _, 0, .str z.2.2, rfl, rfl, sqOf hDz, atI_nat (j := 0) rfl, by show 2 ≤ sizeLine; decide, fun t nt => hret S15 nt ?_⟩
      rw [hru, ← hb]
      rfl
end
end Tb
namespace Tb
open PySem PySem.Spec PyProof.Rows L2
open ZM (pi_zipM)
abbrev sOPaper : Stmt := topS 26
abbrev NOPaper : List Str := ["good", "share", "papers", "rule", "land", "part", "paper"]
theorem scOPaper : FnScope NOPaper ["good", "share"] (defScope sOPaper) := ⟨rfl, rfl, rfl, by decide +kernel, rfl, by decide +kernel, by decide +kernel⟩
theorem certsOf_map (s : Int) : ∀ ks : List Nd, certsOf s ks = ks.map (certOf s)
  | [] => rfl
  | k :: ks => congrArg (certOf s k :: ·) (certsOf_map s ks)
/-! a certificate that shares no list -/
mutual
def PpU (S : AS) (H : Hp) : Pp → V → Prop
  | .mk r l ps, v => ∃ (t L : Addr) (vs : List V), v = .ref t ∧ S t ∧ H t = some (.tup [.str r, .str l, .ref L]) ∧ S L ∧ H L = some (.lst vs) ∧ PsU (fun a => S a ∧ a ≠ L) H ps vs
def PsU (S : AS) (H : Hp) : List Pp → List V → Prop
  | [], vs => vs = []
  | p :: ps, vs => ∃ (v : V) (us : List V) (S1 : AS), vs = v :: us ∧ (∀ a, S1 a → S a) ∧ PpU S1 H p v ∧ PsU (fun a => S a ∧ ¬ S1 a) H ps us
end
mutual
theorem PpU.go {S S' : AS} {H H' : Hp} (i : ∀ a, S a → S' a) (k : ∀ b o, S b → H b = some o → H' b = some o) : ∀ {p : Pp} {v : V}, PpU S H p v → PpU S' H' p v
  | .mk r l ps, v, ⟨t, L, vs, e, st, ht, sL, hL, q⟩ => ⟨t, L, vs, e, i _ st, k _ _ st ht, i _ sL, k _ _ sL hL, PsU.go (fun a h => ⟨i _ h.1, h.2⟩) (fun b o h => k b o h.1) q⟩
theorem PsU.go {S S' : AS} {H H' : Hp} (i : ∀ a, S a → S' a) (k : ∀ b o, S b → H b = some o → H' b = some o) : ∀ {ps : List Pp} {vs : List V}, PsU S H ps vs → PsU S' H' ps vs
  | [], _, h => h
  | _ :: _, _, ⟨v, us, S1, e, h, r, t⟩ => ⟨v, us, S1, e, fun a z => i _ (h _ z), PpU.go (fun _ z => z) (fun b o z => k b o (h _ z)) r, PsU.go (fun a z => ⟨i _ z.1, z.2⟩) (fun b o z => k b o z.1) t⟩
end
mutual
theorem PpU.at {S S' : AS} {H : Hp} (i : ∀ a, S a → S' a) : ∀ {p : Pp} {v : V}, PpU S H p v → PpAt S' H p v
  | .mk r l ps, v, ⟨t, L, vs, e, st, ht, sL, hL, q⟩ => ⟨t, L, vs, e, i _ st, ht, i _ sL, hL, PsU.at (fun a h => i _ h.1) q⟩
theorem PsU.at {S S' : AS} {H : Hp} (i : ∀ a, S a → S' a) : ∀ {ps : List Pp} {vs : List V}, PsU S H ps vs → PpsAt S' H ps vs
  | [], _, h => h
  | _ :: _, _, ⟨v, us, S1, e, h, r, t⟩ => ⟨v, us, e, PpU.at (fun a z => i _ (h _ z)) r, PsU.at (fun a z => i _ z.1) t⟩
end
theorem PsU.snoc : ∀ {S S1 S' : AS} {H : Hp} {ps : List Pp} {vs : List V} {p : Pp} {v : V}, PsU S H ps vs → PpU S1 H p v → (∀ a, S1 a → ¬ S a) → (∀ a, S a → S' a) → (∀ a, S1 a → S' a) → PsU S' H (ps ++ [p]) (vs ++ [v])
  | S, S1, S', H, [], vs, p, v, h, r, d, i, j => by
    have e : vs = [] := h
    subst e
    exact ⟨v, [], S1, rfl, j, r, rfl⟩
  | S, S1, S', H, p0 :: ps, vs, p, v, ⟨v0, us, S0, e, h, r0, t⟩, r, d, i, j => by
    subst e
    exact ⟨v0, us ++ [v], S0, rfl, fun a z => i _ (h _ z), r0, PsU.snoc t r (fun a z q => d a z q.1) (fun a z => ⟨i _ z.1, z.2⟩) (fun a z => ⟨j _ z, fun q => d a z (h _ q)⟩)⟩
theorem PsU.len {S : AS} {H : Hp} {ps : List Pp} {vs : List V} (h : PsU S H ps vs) : vs.length = ps.length := (PsU.at (S' := S) (fun _ z => z) h).len
/-- made meanwhile -/
def New (H H' : Hp) : AS := fun a => H a = none ∧ H' a ≠ none
theorem some_ne {H : Hp} {a : Addr} {o : HO} (h : H a = some o) : H a ≠ none := fun e => by
  rw [e] at h
  cases h
theorem same_none {H H' : Hp} (S : Same H H') {a : Addr} (h : H' a = none) : H a = none := by
  cases e : H a with
  | none => rfl
  | some o =>
    rw [S _ _ e] at h
    cases h
theorem same_some {H H' : Hp} (S : Same H H') {a : Addr} (h : H a ≠ none) : H' a ≠ none := fun e => h (same_none S e)
/-! how deep -/
theorem Nd.d_mem : ∀ {ks : List Nd} {k : Nd}, k ∈ ks → k.d ≤ Nd.ds ks
  | k0 :: ks, k, h => by
    show k.d ≤ max k0.d (Nd.ds ks)
    rcases List.mem_cons.mp h with e | e
    · rw [e]
      omega
    · have := Nd.d_mem e
      omega
theorem Nd.d_eq (k : Nd) : k.d = Nd.ds k.ks + 1 := by
  cases k
  rfl
theorem certs_len (s : Int) (ks : List Nd) : (certsOf s ks).length = ks.length := by
  rw [certsOf_map, List.length_map]
section
variable {P : Program} {w : World} {K : PySem.W.Frag} {mg : Str → Option Value} {base : Heap} {C pw fw : Addr} {gdw : FuncData}
abbrev CRuling (P : Program) (w : World) (K : PySem.W.Frag) (mg : Str → Option Value) (base : Heap) (C : Addr) (g : Addr) (gd : FuncData) := C1 P w K mg base "_ruling" sRuling ["good", "share", "lands"] 3 (spRuling K C) g gd
def spOPaper (K : PySem.W.Frag) (C : Addr) (d : Nat) : Sp := fun vs H Q _ => ∃ (v : V) (n : Nd) (s : Int), vs = [v, .int s] ∧ GdAt K C H n v ∧ n.ok ∧ n.d ≤ d ∧ 0 ≤ s ∧ s ≤ 100 ∧ ∀ (t : Addr) (H' : Hp), Same H H' → PpU (New H H') H' (certOf s n) (.ref t) → Q (.ref t) H'
theorem ok_opaper {f g : Addr} {fd gd : FuncData} {dvs : List V} (D0 : DdD K mg "origin_paper" sOPaper ["good", "share"] dvs f fd) (T : GCls K C pw fw gdw) (cRuling : CRuling P w K mg base C g gd) (B : Blt mg) : ∀ d, FnOk P w K mg base CX0 (4 + d) f fd ["good", "share"] (spOPaper K C d)
  | 0 => by
    refine funD_ok D0.F scOPaper (fun vs H Q E h => ?_) (fun cdv A outer s H vs Q E hr h => ?_)
    · obtain ⟨v, n, sh, rfl, _⟩ := h
      rfl
    · obtain ⟨v, n, sh, rfl, _, _, hd, _⟩ := h
      rw [Nd.d_eq] at hd
      exact absurd hd (by omega)
  | d + 1 => by
    have cOPaper : C1D P w K mg base "origin_paper" sOPaper ["good", "share"] dvs (4 + d) (spOPaper K C d) f fd := ⟨D0, ok_opaper D0 T cRuling B d⟩
    refine funD_ok D0.F scOPaper (fun vs H Q E h => ?_) (fun cdv A outer s H vs Q E hr h => ?_)
    · obtain ⟨v, n, sh, rfl, _⟩ := h
      rfl
    · obtain ⟨v, n, sh, rfl, hv, hok, hd, h0, h1, q⟩ := h
      obtain ⟨a, dx, Tp, us, rfl, ha, hT, hks⟩ := hv.ref
      have hr : Room (4 + d) _ := hr
      refine ⟨_, (pss_cons (ps_setLc (i := 2) (own := [("part", 5)]) (g := gName 5) (by rfl) scOPaper.nd rfl rfl (sw_true rfl rfl rfl (by decide +kernel)) (pi_tup (pe_fld (pv 0) rfl)) (blkOk_by (N := NOPaper) (sc := defScope sOPaper) (by decide +kernel)) (fun _ _ _ _ _ => pg_name (i := 5) scOPaper.nd rfl (Or.inl rfl)) (fun _ _ _ _ _ => pts_nil) (fun _ _ _ _ _ => pe_call cOPaper.G (hr.mono (by first | decide | omega)) (by rfl) cOPaper.D.g cOPaper.D.F.kp cOPaper.D.b .nil pass0 (pa_cons (pv 5) (pa_cons (pv 1) pa_nil))))
      (pss_cons (ps_asg (pe_call cRuling.G (hr.mono (by first | decide | omega)) (by rfl) cRuling.D.g cRuling.D.F.kp cRuling.D.b .nil pass0 (pa_cons (pv 0) (pa_cons (pv 1) (pa_cons (pe_lc (own := [("paper", 6)]) (g := gName 6) (by rfl) scOPaper.nd (pi_list (pv 2)) (blkOk_by (N := NOPaper) (sc := defScope sOPaper) (by decide +kernel)) (fun _ _ _ _ _ => pg_name (i := 6) scOPaper.nd rfl (Or.inl rfl)) (fun _ _ _ _ _ => pts_nil) (fun _ _ _ _ _ => pe_ix (r := rIxT K) ix_tup (pv 6) pe_int (fun _ _ => rfl))) pa_nil)))) (pg_tup (by rfl) (pgs_cons (pg_name (i := 3) scOPaper.nd rfl (.inl rfl)) (pgs_cons (pg_name (i := 4) scOPaper.nd rfl (.inl rfl)) pgs_nil))))
      (pss_one (ps_ret (pe_tup (pa_cons (pv 3) (pa_cons (pv 4) (pa_cons (pv 2) pa_nil)))))))), ?_⟩
      obtain ⟨nh, nw, nl, ks⟩ := n
      have hok' := hok
      obtain ⟨a1, a2, a3, a4, a5, a6⟩ := hok'
      have lu : us.length = ks.length := hks.len
      have hd : Nd.ds ks + 1 ≤ d + 1 := hd
      refine ⟨.ref a, rfl, a, C, dx, _, _, rfl, ha, T.c, T.np, fld_nd.2.2.1, Tp, rfl, ⟨us, hT⟩, fun D nD => lc_it (walk_tup (K := K) (a := Tp) (xs := us)) (fun i H1 => Same H H1 ∧ ∃ vs, H1 D = some (.lst vs) ∧ PsU (fun b => (H b = none ∧ b ≠ D) ∧ H1 b ≠ none) H1 ((ks.take i).map (certOf sh)) vs) ⟨same_upd nD, [], upd_same, rfl⟩ (fun i H1 _ hP => SqT.kg hT (Same.kg hP.1)) (fun i v H1 H2 hi hP hy => ?_) (fun H1 hP => ?_)⟩
      · obtain ⟨S1, vs, hD, hU⟩ := hP
        obtain ⟨rfl, ev⟩ := hy
        obtain ⟨k, ek, gk⟩ := GdsAt.at hks ev
        have ek : ks[i]? = some k := ek
        have mk := List.mem_of_getElem? ek
        refine ⟨rfl, v, rfl, .int sh, rfl, v, k, sh, rfl, gk.kg (Same.kg S1), Nd.oks_mem a6 k mk, by have := Nd.d_mem mk; omega, h0, h1, fun t H3 S3 U3 => ⟨vs, S3 _ _ hD, ?_, ?_, vs ++ [.ref t], upd_same, ?_⟩⟩
        · rw [hU.len, List.length_map, List.length_take]
          exact small1000 (by omega)
        · intro b o hb
          rw [upd_ne (ne_of_none hb nD)]
          exact S3 _ _ (S1 _ _ hb)
        · rw [List.take_add_one, ek, List.map_append]
          refine PsU.snoc (S := fun b => (H b = none ∧ b ≠ D) ∧ H2 b ≠ none) (S1 := New H2 H3) ?_ ?_ ?_ ?_ ?_
          · exact PsU.go (fun _ z => z) (fun b o z e => by rw [upd_ne z.1.2]; exact S3 _ _ e) hU
          · exact PpU.go (fun _ z => z) (fun b o z e => by
              rw [upd_ne (fun e2 => by rw [e2] at z; exact absurd hD (by rw [z.1]; exact fun q => by cases q))]
              exact e) U3
          · exact fun b z q => q.2 z.1
          · exact fun b z => ⟨z.1, by rw [upd_ne z.1.2]; exact same_some S3 z.2⟩
          · intro b z
            have hb : b ≠ D := fun e2 => by
              rw [e2] at z
              rw [z.1] at hD
              cases hD
            exact ⟨⟨same_none S1 z.1, hb⟩, by rw [upd_ne hb]; exact z.2⟩
      · obtain ⟨S1, vs, hD, hU⟩ := hP
        rw [lu, List.take_length, ← certsOf_map] at hU
        have hA := PsU.at (S' := fun _ => True) (fun _ _ => trivial) hU
        have lv : vs.length = ks.length := by rw [hU.len, certs_len]
        refine ⟨.ref a, rfl, .int sh, rfl, .ref D, rfl, D, rfl, ⟨vs, sqOf hD⟩, fun D2 n2 => lc_it (walk_list (K := K) (a := D) (xs := vs)) (fun i H2 => Same H1 H2 ∧ H2 D2 = some (.lst ((((certsOf sh ks).take i).map Pp.l).map V.str))) ⟨same_upd n2, upd_same⟩ (fun i H2 _ hP => sqOf (hP.1 _ _ hD)) (fun i v H2 H3 hi hP hy => ?_) (fun H2 hP => ?_)⟩
        · obtain ⟨S2, hD2⟩ := hP
          obtain ⟨rfl, ev⟩ := hy
          obtain ⟨p, ep, gp⟩ := hA.at ev
          obtain ⟨t, L, ws, rfl, _, ht, _⟩ := gp.ref
          refine ⟨rfl, _, rfl, t, _, 1, .str p.l, rfl, rfl, .inl (.inl (S2 _ _ ht)), atI_nat (j := 1) rfl, _, hD2, ?_, ?_, ?_⟩
          · rw [List.length_map, List.length_map, List.length_take]
            exact small1000 (by rw [certs_len]; omega)
          · intro b o hb
            rw [upd_ne (ne_of_none hb n2)]
            exact S2 _ _ hb
          · rw [upd_same, List.take_add_one, ep, List.map_append, List.map_append]
            rfl
        · obtain ⟨S2, hD2⟩ := hP
          rw [lv, ← certs_len sh ks, List.take_length] at hD2
          have S12 := Same.trans S1 S2
          refine ⟨.ref a, .mk nh nw nl ks, sh, D2, (certsOf sh ks).map Pp.l, rfl, hv.kg (Same.kg S12), hok, h0, h1, sqOf hD2, by rw [List.length_map, certs_len]; rfl, fun t H3 S3 nt ht => ?_⟩
          have S13 := Same.trans S12 S3
          have er : rowsL (Nd.mk nh nw nl ks).ks ((certsOf sh ks).map Pp.l) = rowsOf sh ks := rowsL_cert sh ks
          rw [er] at ht
          refine ⟨t, _, rfl, .inl (.inl ht), rfl, _, _, rfl, _, _, rfl, rfl, ?_⟩
          refine ⟨_, rfl, _, rfl, .ref D, rfl, by show 3 ≤ sizeLine; decide, fun t2 nt2 => ?_⟩
          refine q t2 _ (Same.trans S13 (same_upd nt2)) ⟨t2, D, vs, rfl, ⟨same_none S13 nt2, some_ne upd_same⟩, upd_same, ⟨nD, ?_⟩, ?_, ?_⟩
          · exact some_ne (same_upd nt2 _ _ (S3 _ _ (S2 _ _ hD)))
          · exact same_upd nt2 _ _ (S3 _ _ (S2 _ _ hD))
          · exact PsU.go (fun b z => ⟨⟨z.1.1, same_some (same_upd nt2) (same_some S3 (same_some S2 z.2))⟩, z.1.2⟩) (fun b o z e => same_upd nt2 _ _ (S3 _ _ (S2 _ _ e))) hU
end
end Tb
namespace Tb
open PySem PySem.Spec PyProof.Rows L2
abbrev sSign : Stmt := topS 40
abbrev NSign : List Str := []
theorem scSign : FnScope NSign [] (defScope sSign) := ⟨rfl, rfl, rfl, by decide +kernel, rfl, by decide +kernel, by decide +kernel⟩
abbrev sBadN : Stmt := topS 41
abbrev NBadN : List Str := ["box", "least", "way", "name", "at"]
theorem scBadN : FnScope NBadN ["box", "least"] (defScope sBadN) := ⟨rfl, rfl, rfl, by decide +kernel, rfl, by decide +kernel, by decide +kernel⟩
abbrev sBadA : Stmt := topS 42
abbrev NBadA : List Str := ["box", "way", "text", "signs", "at"]
theorem scBadA : FnScope NBadA ["box"] (defScope sBadA) := ⟨rfl, rfl, rfl, by decide +kernel, rfl, by decide +kernel, by decide +kernel⟩
abbrev sHeading : Stmt := topS 43
abbrev NHeading : List Str := ["box", "stem"]
theorem scHeading : FnScope NHeading ["box", "stem"] (defScope sHeading) := ⟨rfl, rfl, rfl, by decide +kernel, rfl, by decide +kernel, by decide +kernel⟩
abbrev sAmount : Stmt := topS 44
abbrev NAmount : List Str := ["box"]
theorem scAmount : FnScope NAmount ["box"] (defScope sAmount) := ⟨rfl, rfl, rfl, by decide +kernel, rfl, by decide +kernel, by decide +kernel⟩
abbrev sBeyond : Stmt := topS 45
abbrev NBeyond : List Str := ["box"]
theorem scBeyond : FnScope NBeyond ["box"] (defScope sBeyond) := ⟨rfl, rfl, rfl, by decide +kernel, rfl, by decide +kernel, by decide +kernel⟩
abbrev odds : Str := (" !\"#$&'()*+,-./:;<=>?@ABCDEFGHIJKLMNOPQRSTUVWXYZ[\\]^_`{|}~" : String)
theorem odds_no : (tl odds).all (fun c => !isIn (letters ++ digits) c) = true ∧ (tl (odds ++ letters)).all (fun c => !isIn digits c) = true ∧ odds.length ≤ 100 ∧ 1 ≤ odds.length := by decide +kernel
theorem dg_not_lt : ∀ c, isIn digits c = true → isIn letters c = false := fun c h => by
  have all : (tl digits).all (fun c => !isIn letters c) = true := by decide +kernel
  have := List.all_eq_true.mp all c (of_decide_eq_true h)
  cases e : isIn letters c with
  | false => rfl
  | true => rw [e] at this; cases this
theorem no_name {z : Str} (h : ¬ Nm (tl z)) : isName z = false := by
  cases e : isName z with
  | false => rfl
  | true => exact absurd ((isName_iff z).mp e) h
theorem no_addr {z : Str} (h : ¬ Ad (tl z)) : isAddr z = false := by
  cases e : isAddr z with
  | false => rfl
  | true => exact absurd ((isAddr_iff z).mp e) h
theorem odd_not {c : Nat} {n : Nat} (h : odds.cps[n]? = some c) : isIn (letters ++ digits) c = false := by
  have m : c ∈ tl odds := Array.mem_toList_iff.mpr (Array.mem_of_getElem? h)
  have := List.all_eq_true.mp odds_no.1 c m
  cases e : isIn (letters ++ digits) c with
  | false => rfl
  | true => rw [e] at this; cases this
theorem odd_not2 {c : Nat} {n : Nat} (h : (odds ++ letters).cps[n]? = some c) : isIn digits c = false := by
  have m : c ∈ tl (odds ++ letters) := Array.mem_toList_iff.mpr (Array.mem_of_getElem? h)
  have := List.all_eq_true.mp odds_no.2.1 c m
  cases e : isIn digits c with
  | false => rfl
  | true => rw [e] at this; cases this
/-- what a draw gives that the word holds of -/
def spInt (ok : Int → Prop) : Sp := fun vs H Q _ => ∃ (p : Addr), vs = [.ref p] ∧ Box H p ∧ ∀ (z : Int) (H' : Hp), ok z → Box H' p → But p H H' → Q (.int z) H'
section
variable {P : Program} {w : World} {K : PySem.W.Frag} {mg : Str → Option Value} {base : Heap}
def spSign : Sp := fun vs H Q _ => vs = [] ∧ Q (.str odds) H
theorem ok_sign {f : Addr} {fd : FuncData} {k : Nat} (F : Fun K "_law_sign" "_law_sign" sSign f fd) : FnOk P w K mg base CX0 (k + 1) f fd [] spSign := by
  refine F.ok scSign (fun vs H Q E h => ?_) (fun cdv A outer s H vs Q E hr h => ?_)
  · obtain ⟨rfl, _⟩ := h
    rfl
  · obtain ⟨rfl, q⟩ := h
    refine ⟨_, (pss_one (ps_ret pe_str)), ?_⟩
    exact q
theorem ok_amount {f g : Addr} {fd gd : FuncData} (F : Fun K "_law_amount" "_law_amount" sAmount f fd) (cDraw : CDraw P w K mg base g gd) : FnOk P w K mg base CX0 2 f fd ["box"] (spInt fun z => 0 ≤ z) := by
  refine F.ok scAmount (fun vs H Q E h => ?_) (fun cdv A outer s H vs Q E hr h => ?_)
  · obtain ⟨p, rfl, _⟩ := h
    rfl
  · obtain ⟨p, rfl, hB, q⟩ := h
    refine ⟨_, (pss_cons (ps_if (pt_cmpR op_gt (pe_call cDraw.G (hr.mono (by first | decide | omega)) (by rfl) cDraw.D.g cDraw.D.F.kp cDraw.D.b .nil pass0 (pa_cons (pv 0) (pa_cons pe_int pa_nil))) pe_int (nomark _))
        (pss_one (ps_ret (pe_call cDraw.G (hr.mono (by first | decide | omega)) (by rfl) cDraw.D.g cDraw.D.F.kp cDraw.D.b .nil pass0 (pa_cons (pv 0) (pa_cons pe_int pa_nil)))))
        pss_nil)
      (pss_one (ps_ret (pe_call cDraw.G (hr.mono (by first | decide | omega)) (by rfl) cDraw.D.g cDraw.D.F.kp cDraw.D.b .nil pass0 (pa_cons (pv 0) (pa_cons (pe_op op_pow pe_int pe_int) pa_nil)))))), ?_⟩
    refine ⟨.ref p, rfl, p, 3, rfl, hB, by decide, fun v H1 v0 v1 B1 b1 => ?_⟩
    refine ⟨_, _, rfl, rfl, _, rfl, ite2 (fun e => ?_) (fun e => ?_)⟩
    · exact ⟨.ref p, rfl, p, 9, rfl, B1, by decide, fun z H2 z0 z1 B2 b2 => q z H2 z0 B2 (b1.trans b2)⟩
    · exact ⟨.ref p, rfl, 10, 12, rfl, rfl, ⟨by decide, by decide, by decide⟩, p, 10 ^ 12, rfl, B1, by decide, fun z H2 z0 z1 B2 b2 => q z H2 z0 B2 (b1.trans b2)⟩
theorem ok_beyond {f g : Addr} {fd gd : FuncData} (F : Fun K "_law_beyond" "_law_beyond" sBeyond f fd) (cDraw : CDraw P w K mg base g gd) : FnOk P w K mg base CX0 2 f fd ["box"] (spInt fun z => 0 ≤ z) := by
  refine F.ok scBeyond (fun vs H Q E h => ?_) (fun cdv A outer s H vs Q E hr h => ?_)
  · obtain ⟨p, rfl, _⟩ := h
    rfl
  · obtain ⟨p, rfl, hB, q⟩ := h
    refine ⟨_, (pss_one (ps_ret (pe_ix ix_list (pe_lst (pa_cons pe_int (pa_cons (pe_call cDraw.G (hr.mono (by first | decide | omega)) (by rfl) cDraw.D.g cDraw.D.F.kp cDraw.D.b .nil pass0 (pa_cons (pv 0) (pa_cons pe_int pa_nil))) (pa_cons (pe_call cDraw.G (hr.mono (by first | decide | omega)) (by rfl) cDraw.D.g cDraw.D.F.kp cDraw.D.b .nil pass0 (pa_cons (pv 0) (pa_cons (pe_op op_pow pe_int pe_int) pa_nil))) pa_nil)))) (pe_call cDraw.G (hr.mono (by first | decide | omega)) (by rfl) cDraw.D.g cDraw.D.F.kp cDraw.D.b .nil pass0 (pa_cons (pv 0) (pa_cons pe_int pa_nil))) (fun _ _ => rfl)))), ?_⟩
    have hz : sizeLine = 16777216 := rfl
    refine ⟨.ref p, rfl, p, 9, rfl, hB, by decide, fun a H1 a0 a1 B1 b1 => ?_⟩
    refine ⟨.ref p, rfl, 10, 12, rfl, rfl, ⟨by decide, by decide, by decide⟩, p, 10 ^ 12, rfl, B1, by decide, fun b H2 b0 b1' B2 b2 => ?_⟩
    refine ⟨by show 3 ≤ sizeLine; omega, fun W nW => ?_⟩
    obtain ⟨B3, b3⟩ := box_new (o := .lst [V.int 0, V.int a, V.int b]) B2 nW
    have Wp : W ≠ p := fun z => by
      obtain ⟨_, _, _, _, e, _⟩ := B2
      rw [z, e] at nW; cases nW
    refine ⟨.ref p, rfl, p, 3, rfl, B3, by decide, fun v H4 v0 v1 B4 b4 => ?_⟩
    have hW := b4 W _ upd_same Wp
    obtain ⟨x, hx, x0⟩ : ∃ x : Int, [V.int 0, V.int a, V.int b][v.toNat]? = some (.int x) ∧ 0 ≤ x := by
      rcases (show v = 0 ∨ v = 1 ∨ v = 2 by omega) with rfl | rfl | rfl
      · exact ⟨0, rfl, by decide⟩
      · exact ⟨a, rfl, a0⟩
      · exact ⟨b, rfl, b0⟩
    exact ⟨W, _, v.toNat, .int x, rfl, congrArg V.int (show v = (v.toNat : Int) by omega), sqOf hW, atI_nat hx, q x H4 x0 B4 (((b1.trans b2).trans b3).trans b4)⟩
def spHeading : Sp := fun vs H Q _ => ∃ (p : Addr) (st : Str), vs = [.ref p, .str st] ∧ Box H p ∧ Stem st ∧ ∀ (z : Str) (H' : Hp), isAddr z = true → Box H' p → But p H H' → Q (.str z) H'
theorem ok_heading {f g g2 : Addr} {fd gd gd2 : FuncData} (F : Fun K "_law_heading" "_law_heading" sHeading f fd) (cDraw : CDraw P w K mg base g gd) (cDigits : CDigits P w K mg base g2 gd2) : FnOk P w K mg base CX0 3 f fd ["box", "stem"] spHeading := by
  refine F.ok scHeading (fun vs H Q E h => ?_) (fun cdv A outer s H vs Q E hr h => ?_)
  · obtain ⟨p, st, rfl, _⟩ := h
    rfl
  · obtain ⟨p, st, rfl, hB, hs, q⟩ := h
    refine ⟨_, (pss_cons (ps_if (pt_cmpR op_gt (pe_call cDraw.G (hr.mono (by first | decide | omega)) (by rfl) cDraw.D.g cDraw.D.F.kp cDraw.D.b .nil pass0 (pa_cons (pv 0) (pa_cons pe_int pa_nil))) pe_int (nomark _))
        (pss_one (ps_ret (pe_slice sl_str (pv 1) po_none (po_some (pe_op op_add pe_int (pe_call cDraw.G (hr.mono (by first | decide | omega)) (by rfl) cDraw.D.g cDraw.D.F.kp cDraw.D.b .nil pass0 (pa_cons (pv 0) (pa_cons pe_int pa_nil))))))))
        pss_nil)
      (pss_one (ps_ret (pe_call cDigits.G (hr.mono (by first | decide | omega)) (by rfl) cDigits.D.g cDigits.D.F.kp cDigits.D.b .nil pass0 (pa_cons (pv 0) (pa_cons (pe_op op_add pe_int (pe_call cDraw.G (hr.mono (by first | decide | omega)) (by rfl) cDraw.D.g cDraw.D.F.kp cDraw.D.b .nil pass0 (pa_cons (pv 0) (pa_cons pe_int pa_nil)))) pa_nil)))))), ?_⟩
    have hz : sizeLine = 16777216 := rfl
    refine ⟨.ref p, rfl, p, 4, rfl, hB, by decide, fun v H1 v0 v1 B1 b1 => ?_⟩
    refine ⟨_, _, rfl, rfl, _, rfl, ite2 (fun e => ?_) (fun e => ?_)⟩
    · refine ⟨.str st, rfl, .ref p, rfl, p, 8, rfl, B1, by decide, fun u H2 u0 u1 B2 b2 => ?_⟩
      exact ⟨1, u, rfl, rfl, _, rfl, st, rfl, by rw [hs.1]; omega, q _ H2 (stem_ad hs (by omega)) B2 (b1.trans b2)⟩
    · refine ⟨.ref p, rfl, .ref p, rfl, p, 8, rfl, B1, by decide, fun u H2 u0 u1 B2 b2 => ⟨1, u, rfl, rfl, ?_⟩⟩
      refine ⟨p, (1 + u).toNat, congrArg (fun x => [V.ref p, V.int x]) (show 1 + u = ((1 + u).toNat : Int) by omega), B2, by omega, fun z H3 lz dz B3 b3 => q z H3 ?_ B3 ((b1.trans b2).trans b3)⟩
      refine (isAddr_iff z).mpr ⟨?_, ?_, dz⟩
      · rw [← len_tl, lz]; omega
      · rw [← len_tl, lz]; omega
abbrev CSign (P : Program) (w : World) (K : PySem.W.Frag) (mg : Str → Option Value) (base : Heap) (g : Addr) (gd : FuncData) := C1 P w K mg base "_law_sign" sSign [] 1 spSign g gd
def spBadN : Sp := fun vs H Q _ => ∃ (p : Addr) (m : Int), vs = [.ref p, .int m] ∧ Box H p ∧ (m = 0 ∨ m = 1) ∧ ∀ (z : Str) (H' : Hp), isName z = false → (m = 1 → z ≠ Str.ofString "") → z.length ≤ 100 → Box H' p → But p H H' → Q (.str z) H'
theorem ok_badn {f g g2 g3 : Addr} {fd gd gd2 gd3 : FuncData} (F : Fun K "_law_bad_name" "_law_bad_name" sBadN f fd) (cDraw : CDraw P w K mg base g gd) (cName : CName P w K mg base g2 gd2) (cSign : CSign P w K mg base g3 gd3) (B : Blt mg) : FnOk P w K mg base CX0 3 f fd ["box", "least"] spBadN := by
  refine F.ok scBadN (fun vs H Q E h => ?_) (fun cdv A outer s H vs Q E hr h => ?_)
  · obtain ⟨p, m, rfl, _⟩ := h
    rfl
  · obtain ⟨p, m, rfl, hB, hm, q⟩ := h
    refine ⟨_, (pss_cons (ps_set (i := 2) scBadN.nd rfl (.inl rfl) (pe_op op_add (pv 1) (pe_call cDraw.G (hr.mono (by first | decide | omega)) (by rfl) cDraw.D.g cDraw.D.F.kp cDraw.D.b .nil pass0 (pa_cons (pv 0) (pa_cons (pe_op op_sub pe_int (pv 1)) pa_nil)))))
      (pss_cons (ps_set (i := 3) scBadN.nd rfl (.inl rfl) (pe_call cName.G (hr.mono (by first | decide | omega)) (by rfl) cName.D.g cName.D.F.kp cName.D.b .nil pass0 (pa_cons (pv 0) pa_nil)))
      (pss_cons (ps_if (pt_cmpR op_eq (pv 2) pe_int (nomark _))
        (pss_one (ps_ret pe_str))
        pss_nil)
      (pss_cons (ps_if (pt_cmpR op_eq (pv 2) pe_int (nomark _))
        (pss_one (ps_ret (pe_slice sl_str (pe_op op_add_str (pv 3) pe_str) po_none (po_some (pe_op op_add pe_int (pe_call cDraw.G (hr.mono (by first | decide | omega)) (by rfl) cDraw.D.g cDraw.D.F.kp cDraw.D.b .nil pass0 (pa_cons (pv 0) (pa_cons pe_int pa_nil))))))))
        pss_nil)
      (pss_cons (ps_if (pt_cmpR op_eq (pv 2) pe_int (nomark _))
        (pss_one (ps_ret (pe_op op_add_str (pe_item_str pe_str (pe_call cDraw.G (hr.mono (by first | decide | omega)) (by rfl) cDraw.D.g cDraw.D.F.kp cDraw.D.b .nil pass0 (pa_cons (pv 0) (pa_cons pe_int pa_nil))) (fun _ _ => rfl)) (pe_slice sl_str (pv 3) po_none (po_some pe_int)))))
        pss_nil)
      (pss_cons (ps_set (i := 3) scBadN.nd rfl (.inl rfl) (pe_slice sl_str (pv 3) po_none (po_some pe_int)))
      (pss_cons (ps_set (i := 4) scBadN.nd rfl (.inl rfl) (pe_call cDraw.G (hr.mono (by first | decide | omega)) (by rfl) cDraw.D.g cDraw.D.F.kp cDraw.D.b .nil pass0 (pa_cons (pv 0) (pa_cons (pe_op op_add (pe_callB call_len_str (by rfl) B.len PySem.boot_len (pa_cons (pv 3) pa_nil)) pe_int) pa_nil))))
      (pss_one (ps_ret (pe_op op_add_str (pe_op op_add_str (pe_slice sl_str (pv 3) po_none (po_some (pv 4))) (pe_item_str (pe_call0 cSign.G (hr.mono (by first | decide | omega)) (by rfl) cSign.D.g cSign.D.F.kp cSign.D.b .nil pass0) (pe_call cDraw.G (hr.mono (by first | decide | omega)) (by rfl) cDraw.D.g cDraw.D.F.kp cDraw.D.b .nil pass0 (pa_cons (pv 0) (pa_cons (pe_callB call_len_str (by rfl) B.len PySem.boot_len (pa_cons (pe_call0 cSign.G (hr.mono (by first | decide | omega)) (by rfl) cSign.D.g cSign.D.F.kp cSign.D.b .nil pass0) pa_nil)) pa_nil))) (fun _ _ => rfl))) (pe_slice sl_str (pv 3) (po_some (pv 4)) po_none))))))))))), ?_⟩
    have hz : sizeLine = 16777216 := rfl
    have ol := odds_no.2.2
    refine ⟨.int m, rfl, .ref p, rfl, .int m, rfl, _, _, rfl, rfl, p, 4 - m, rfl, hB, by omega, fun v H1 v0 v1 B1 b1 => ⟨m, v, rfl, rfl, ?_⟩⟩
    refine ⟨.ref p, rfl, p, rfl, B1, fun nm H2 hn B2 b2 => ?_⟩
    have nl : nm.length ≤ 12 := by rw [len_tl]; exact hn.1
    have b12 := b1.trans b2
    refine ⟨.int (m + v), rfl, rfl, _, rfl, ite2 (fun e => ?_) (fun e => ?_)⟩
    · have e : m + v = 0 := V.int.inj (of_decide_eq_true e)
      exact q _ H2 (by decide +kernel) (fun z => by omega) (by decide) B2 b12
    refine ⟨.int (m + v), rfl, rfl, _, rfl, ite2 (fun e1 => ?_) (fun e1 => ?_)⟩
    · refine ⟨.str nm, rfl, nm, _, rfl, rfl, ?_⟩
      have al : (Str.ofString "abcdefghijklmnopqrstuvwxyz").length = 26 := by decide +kernel
      refine ⟨by rw [al]; omega, .ref p, rfl, p, 8, rfl, B2, by decide, fun u H3 u0 u1 B3 b3 => ⟨13, u, rfl, rfl, _, rfl, _, rfl, ?_, ?_⟩⟩
      · rw [app_len, al]; omega
      have n1 : 1 ≤ nm.length := by
        obtain ⟨c, hc, _⟩ := hn.2.2
        rw [len_tl]
        exact List.length_pos_iff.mpr (fun z => by rw [z] at hc; cases hc)
      obtain ⟨k, hk⟩ : ∃ k : Nat, 13 + u = (k : Int) := ⟨(13 + u).toNat, by omega⟩
      have cl : (cutS (nm ++ Str.ofString "abcdefghijklmnopqrstuvwxyz") none (some (k : Int))).length = min k (nm.length + 26) := by
        rw [len_tl, tl_hi, List.length_take, ← len_tl, app_len, al]
      rw [hk]
      refine q _ H3 (no_name fun h => ?_) (fun _ z => ?_) (by rw [cl]; omega) B3 (b12.trans b3)
      · have := h.1
        rw [← len_tl, cl] at this
        omega
      · rw [z] at cl
        have : (Str.ofString "").length = 0 := rfl
        omega
    refine ⟨.int (m + v), rfl, rfl, _, rfl, ite2 (fun e2 => ?_) (fun e2 => ?_)⟩
    · refine ⟨.ref p, rfl, p, 10, rfl, B2, by decide, fun u H3 u0 u1 B3 b3 => ?_⟩
      have dl := dg_len
      obtain ⟨c, ec⟩ := at_sign (z := digits) (i := u) (by omega) u0
      refine ⟨digits, u, c, rfl, rfl, u0, by omega, by omega, ec, .str nm, rfl, 11, rfl, nm, rfl, by omega, ?_⟩
      have cl : (cutS nm none (some ((11 : Nat) : Int))).length ≤ 12 := by rw [len_tl, tl_hi, List.length_take, ← len_tl]; omega
      refine ⟨_, cutS nm none (some ((11 : Nat) : Int)), rfl, rfl, by rw [one_len]; omega, ?_⟩
      refine q _ H3 (no_name fun h => ?_) (fun _ z => ?_) (by rw [app_len, one_len]; omega) B3 (b12.trans b3)
      · obtain ⟨x, hx, xl⟩ := h.2.2
        rw [tl_app, tl_one] at hx
        cases hx
        rw [dg_not_lt _ (dg_any ec)] at xl
        cases xl
      · have := congrArg (fun z => (tl z).length) z
        rw [tl_app, tl_one] at this
        cases this
    refine ⟨.str nm, rfl, 11, rfl, nm, rfl, by omega, ?_⟩
    obtain ⟨n2, hn2⟩ : ∃ n2, n2 = cutS nm none (some ((11 : Nat) : Int)) := ⟨_, rfl⟩
    have n2l : n2.length ≤ 11 := by rw [hn2, len_tl, tl_hi, List.length_take]; omega
    have n2n : ∀ d ∈ tl n2, isIn (letters ++ digits) d = true := fun d hd => by
      rw [hn2, tl_hi] at hd
      exact hn.2.1 d (List.mem_of_mem_take hd)
    show gName 3 (V.str (cutS nm none (some ((11 : Nat) : Int)))) _ _ _
    rw [← hn2]
    refine ⟨.ref p, rfl, .str n2, rfl, n2, rfl, by omega, _, 1, rfl, rfl, p, (n2.length : Int) + 1, rfl, B2, by omega, fun t H3 t0 t1 B3 b3 => ?_⟩
    obtain ⟨k, hk⟩ : ∃ k : Nat, t = (k : Int) := ⟨t.toNat, by omega⟩
    subst hk
    have la : (cutS n2 none (some (k : Int))).length ≤ 11 := by rw [len_tl, tl_hi, List.length_take, ← len_tl]; omega
    have lb : (cutS n2 (some (k : Int)) none).length ≤ 11 := by rw [len_tl, tl_lo, List.length_drop, ← len_tl]; omega
    refine ⟨.str n2, rfl, .int k, rfl, (k : Int), rfl, n2, rfl, by omega, rfl, ?_⟩
    refine ⟨.ref p, rfl, rfl, odds, rfl, by omega, p, (odds.length : Int), rfl, B3, by omega, fun u H4 u0 u1 B4 b4 => ?_⟩
    obtain ⟨c, ec⟩ := at_sign (z := odds) (i := u) (by omega) u0
    refine ⟨odds, u, c, rfl, rfl, u0, by omega, by omega, ec, cutS n2 none (some (k : Int)), _, rfl, rfl, by rw [one_len]; omega, ?_⟩
    refine ⟨.str n2, rfl, .int k, rfl, (k : Int), rfl, n2, rfl, by omega, _, cutS n2 (some (k : Int)) none, rfl, rfl, by rw [app_len, one_len]; omega, ?_⟩
    refine q _ H4 (no_name fun h => ?_) (fun _ z => ?_) (by rw [app_len, app_len, one_len]; omega) B4 ((b12.trans b3).trans b4)
    · have := h.2.1 c (by rw [tl_app, tl_app, tl_one]; exact List.mem_append_left _ (List.mem_append_right _ List.mem_cons_self))
      rw [odd_not ec] at this
      cases this
    · have := congrArg (fun z => (tl z).length) z
      simp only [tl_app, tl_one, List.length_append, List.length_cons, List.length_nil] at this
      have e0 : (tl (Str.ofString "")).length = 0 := rfl
      omega
def spBadA : Sp := fun vs H Q _ => ∃ (p : Addr), vs = [.ref p] ∧ Box H p ∧ ∀ (z : Str) (H' : Hp), isAddr z = false → z.length ≤ 100 → Box H' p → But p H H' → Q (.str z) H'
theorem ok_bada {f g g2 g3 : Addr} {fd gd gd2 gd3 : FuncData} (F : Fun K "_law_bad_address" "_law_bad_address" sBadA f fd) (cDraw : CDraw P w K mg base g gd) (cDigits : CDigits P w K mg base g2 gd2) (cSign : CSign P w K mg base g3 gd3) (B : Blt mg) : FnOk P w K mg base CX0 3 f fd ["box"] spBadA := by
  refine F.ok scBadA (fun vs H Q E h => ?_) (fun cdv A outer s H vs Q E hr h => ?_)
  · obtain ⟨p, rfl, _⟩ := h
    rfl
  · obtain ⟨p, rfl, hB, q⟩ := h
    refine ⟨_, (pss_cons (ps_set (i := 1) scBadA.nd rfl (.inl rfl) (pe_call cDraw.G (hr.mono (by first | decide | omega)) (by rfl) cDraw.D.g cDraw.D.F.kp cDraw.D.b .nil pass0 (pa_cons (pv 0) (pa_cons pe_int pa_nil))))
      (pss_cons (ps_set (i := 2) scBadA.nd rfl (.inl rfl) (pe_call cDigits.G (hr.mono (by first | decide | omega)) (by rfl) cDigits.D.g cDigits.D.F.kp cDigits.D.b .nil pass0 (pa_cons (pv 0) (pa_cons (pe_op op_add pe_int (pe_call cDraw.G (hr.mono (by first | decide | omega)) (by rfl) cDraw.D.g cDraw.D.F.kp cDraw.D.b .nil pass0 (pa_cons (pv 0) (pa_cons pe_int pa_nil)))) pa_nil))))
      (pss_cons (ps_if (pt_cmpR op_eq (pv 1) pe_int (nomark _))
        (pss_one (ps_ret pe_str))
        pss_nil)
      (pss_cons (ps_if (pt_cmpR op_eq (pv 1) pe_int (nomark _))
        (pss_one (ps_ret (pe_call cDigits.G (hr.mono (by first | decide | omega)) (by rfl) cDigits.D.g cDigits.D.F.kp cDigits.D.b .nil pass0 (pa_cons (pv 0) (pa_cons (pe_op op_add pe_int (pe_call cDraw.G (hr.mono (by first | decide | omega)) (by rfl) cDraw.D.g cDraw.D.F.kp cDraw.D.b .nil pass0 (pa_cons (pv 0) (pa_cons pe_int pa_nil)))) pa_nil)))))
        pss_nil)
      (pss_cons (ps_set (i := 3) scBadA.nd rfl (.inl rfl) (pe_op op_add_str (pe_call0 cSign.G (hr.mono (by first | decide | omega)) (by rfl) cSign.D.g cSign.D.F.kp cSign.D.b .nil pass0) pe_str))
      (pss_cons (ps_set (i := 4) scBadA.nd rfl (.inl rfl) (pe_call cDraw.G (hr.mono (by first | decide | omega)) (by rfl) cDraw.D.g cDraw.D.F.kp cDraw.D.b .nil pass0 (pa_cons (pv 0) (pa_cons (pe_op op_add (pe_callB call_len_str (by rfl) B.len PySem.boot_len (pa_cons (pv 2) pa_nil)) pe_int) pa_nil))))
      (pss_one (ps_ret (pe_op op_add_str (pe_op op_add_str (pe_slice sl_str (pv 2) po_none (po_some (pv 4))) (pe_item_str (pv 3) (pe_call cDraw.G (hr.mono (by first | decide | omega)) (by rfl) cDraw.D.g cDraw.D.F.kp cDraw.D.b .nil pass0 (pa_cons (pv 0) (pa_cons (pe_callB call_len_str (by rfl) B.len PySem.boot_len (pa_cons (pv 3) pa_nil)) pa_nil))) (fun _ _ => rfl))) (pe_slice sl_str (pv 2) (po_some (pv 4)) po_none)))))))))), ?_⟩
    have hz : sizeLine = 16777216 := rfl
    have ol := odds_no.2.2
    have ll := lt_len
    refine ⟨.ref p, rfl, p, 4, rfl, hB, by decide, fun v H1 v0 v1 B1 b1 => ?_⟩
    refine ⟨.ref p, rfl, .ref p, rfl, p, 7, rfl, B1, by decide, fun u H2 u0 u1 B2 b2 => ⟨1, u, rfl, rfl, ?_⟩⟩
    refine ⟨p, (1 + u).toNat, congrArg (fun x => [V.ref p, V.int x]) (show 1 + u = ((1 + u).toNat : Int) by omega), B2, by omega, fun tx H3 lt dt B3 b3 => ?_⟩
    have b13 := (b1.trans b2).trans b3
    refine ⟨.int v, rfl, rfl, _, rfl, ite2 (fun e => ?_) (fun e => ?_)⟩
    · exact q _ H3 (by decide +kernel) (by decide) B3 b13
    refine ⟨.int v, rfl, rfl, _, rfl, ite2 (fun e1 => ?_) (fun e1 => ?_)⟩
    · refine ⟨.ref p, rfl, .ref p, rfl, p, 4, rfl, B3, by decide, fun y H4 y0 y1 B4 b4 => ⟨9, y, rfl, rfl, ?_⟩⟩
      refine ⟨p, (9 + y).toNat, congrArg (fun x => [V.ref p, V.int x]) (show 9 + y = ((9 + y).toNat : Int) by omega), B4, by omega, fun z H5 lz dz B5 b5 => q z H5 (no_addr fun h => ?_) (by omega) B5 ((b13.trans b4).trans b5)⟩
      have := h.2.1
      rw [← len_tl, lz] at this
      omega
    refine ⟨rfl, odds, letters, rfl, rfl, by omega, ?_⟩
    have l7 : tx.length ≤ 7 := by omega
    refine ⟨.ref p, rfl, .str tx, rfl, tx, rfl, by omega, _, 1, rfl, rfl, p, (tx.length : Int) + 1, rfl, B3, by omega, fun t H4 t0 t1 B4 b4 => ?_⟩
    obtain ⟨k, hk⟩ : ∃ k : Nat, t = (k : Int) := ⟨t.toNat, by omega⟩
    subst hk
    have la : (cutS tx none (some (k : Int))).length ≤ 7 := by rw [len_tl, tl_hi, List.length_take, ← len_tl]; omega
    have lb : (cutS tx (some (k : Int)) none).length ≤ 7 := by rw [len_tl, tl_lo, List.length_drop, ← len_tl]; omega
    have lo : (odds ++ letters).length = odds.length + letters.length := app_len _ _
    refine ⟨.str tx, rfl, .int k, rfl, (k : Int), rfl, tx, rfl, by omega, .str (odds ++ letters), rfl, ?_⟩
    refine ⟨.ref p, rfl, .str (odds ++ letters), rfl, odds ++ letters, rfl, by omega, p, ((odds ++ letters).length : Int), rfl, B4, by omega, fun y H5 y0 y1 B5 b5 => ?_⟩
    obtain ⟨c, ec⟩ := at_sign (z := odds ++ letters) (i := y) (by omega) y0
    refine ⟨odds ++ letters, y, c, rfl, rfl, y0, by omega, by omega, ec, cutS tx none (some (k : Int)), _, rfl, rfl, by rw [one_len]; omega, ?_⟩
    refine ⟨.str tx, rfl, .int k, rfl, (k : Int), rfl, tx, rfl, by omega, _, cutS tx (some (k : Int)) none, rfl, rfl, by rw [app_len, one_len]; omega, ?_⟩
    refine q _ H5 (no_addr fun h => ?_) (by rw [app_len, app_len, one_len]; omega) B5 ((b13.trans b4).trans b5)
    have := h.2.2 c (by rw [tl_app, tl_app, tl_one]; exact List.mem_append_left _ (List.mem_append_right _ List.mem_cons_self))
    rw [odd_not2 ec] at this
    cases this
end
end Tb
namespace Tb
open PySem PySem.Spec PyProof.Rows L2
abbrev sNode : Stmt := topS 46
abbrev NNode : List Str := ["box", "stem", "lands", "kids", "k", "worth", "kid"]
theorem scNode : FnScope NNode ["box", "stem", "lands"] (defScope sNode) := ⟨rfl, rfl, rfl, by decide +kernel, rfl, by decide +kernel, by decide +kernel⟩
abbrev All : AS := fun _ => True
theorem NdAt.kp {S : AS} {H H' : Hp} {n : Nd} {v : V} (h : NdAt S H n v) (k : Kp H H') : NdAt S H' n v := NdAt.go (fun b o s e ni => ⟨s, k b o e ni⟩) h
theorem NdAt.all {S : AS} {H : Hp} {n : Nd} {v : V} (h : NdAt S H n v) : NdAt All H n v := NdAt.go (fun b o _ e _ => ⟨trivial, e⟩) h
theorem NdsAt.kp {S : AS} {H H' : Hp} {n : List Nd} {v : List V} (h : NdsAt S H n v) (k : Kp H H') : NdsAt S H' n v := NdsAt.go (fun b o s e ni => ⟨s, k b o e ni⟩) h
theorem NdsAt.all {S : AS} {H : Hp} {n : List Nd} {v : List V} (h : NdsAt S H n v) : NdsAt All H n v := NdsAt.go (fun b o _ e _ => ⟨trivial, e⟩) h
theorem NdsAt.but {S : AS} {H H' : Hp} {ns : List Nd} {vs : List V} (h : NdsAt S H ns vs) (k : ∀ b o, S b → H b = some o → ¬ IntL o → H' b = some o) : NdsAt S H' ns vs := NdsAt.go (fun b o s e ni => ⟨s, k b o s e ni⟩) h
theorem but_free {H H2 : Hp} {p a : Addr} (B : Box H2 p) (b : But p H H2) (n : H2 a = none) : H a = none := by
  cases e : H a with
  | none => rfl
  | some o =>
    by_cases c : a = p
    · obtain ⟨_, _, _, _, hp, _⟩ := B
      rw [c, hp] at n; cases n
    · rw [b a o e c] at n; cases n
theorem sumOf_eq : ∀ l : List Int, sumOf l = l.sum
  | [] => rfl
  | x :: xs => by rw [sumOf, List.sum_cons, sumOf_eq xs]
theorem nd_ws {S : AS} {H : Hp} : ∀ {ks : List Nd} {vs : List V}, NdsAt S H ks vs → ∀ (i : Nat) (v : V), vs[i]? = some v → ∃ (k : Nd) (t L : Addr), ks[i]? = some k ∧ v = .ref t ∧ H t = some (.tup [.str k.h, .int k.w, .str k.l, .ref L]) := fun {ks vs} h i v e => by
  obtain ⟨k, ek, hk⟩ := NdsAt.at h e
  obtain ⟨t, L, us, e2, _, ht, _⟩ := NdAt.ref hk
  exact ⟨k, t, L, ek, e2, ht⟩
abbrev CHeading (P : Program) (w : World) (K : PySem.W.Frag) (mg : Str → Option Value) (base : Heap) (g : Addr) (gd : FuncData) := C1 P w K mg base "_law_heading" sHeading ["box", "stem"] 3 spHeading g gd
abbrev CAmount (P : Program) (w : World) (K : PySem.W.Frag) (mg : Str → Option Value) (base : Heap) (g : Addr) (gd : FuncData) := C1 P w K mg base "_law_amount" sAmount ["box"] 2 (spInt fun z => 0 ≤ z) g gd
section
variable {P : Program} {w : World} {K : PySem.W.Frag} {mg : Str → Option Value} {base : Heap}
def spNode : Sp := fun vs H Q _ => ∃ (p l : Addr) (st : Str) (ls : List Str), vs = [.ref p, .str st, .ref l] ∧ Box H p ∧ Stem st ∧ Lns H l ls ∧ ∀ (v : V) (n : Nd) (H' : Hp), NdAt (fun a => H a = none) H' n v → n.ok → n.d ≤ 2 → n.ks.length ≤ 2 → Box H' p → But p H H' → Q v H'
theorem ok_node {f g1 g2 g3 : Addr} {fd gd1 gd2 gd3 : FuncData} (F : Fun K "_law_node" "_law_node" sNode f fd) (cDraw : CDraw P w K mg base g1 gd1) (cHeading : CHeading P w K mg base g2 gd2) (cAmount : CAmount P w K mg base g3 gd3) (B : Blt mg) : FnOk P w K mg base CX0 4 f fd ["box", "stem", "lands"] spNode := by
  refine F.ok scNode (fun vs H Q E h => ?_) (fun cdv A outer s H vs Q E hr h => ?_)
  · obtain ⟨p, l, st, ls, rfl, _⟩ := h
    rfl
  · obtain ⟨p, l, st, ls, rfl, hB, hs, hL, q⟩ := h
    have hz : sizeLine = 16777216 := rfl
    refine ⟨_, (pss_cons (ps_set (i := 3) scNode.nd rfl (.inl rfl) (pe_lst pa_nil))
      (pss_cons (ps_for PassesOwn.never rfl (pi_range1 (by rfl) B.range (pa_cons (pe_call cDraw.G (hr.mono (by first | decide | omega)) (by rfl) cDraw.D.g cDraw.D.F.kp cDraw.D.b .nil pass0 (pa_cons (pv 0) (pa_cons pe_int pa_nil))) pa_nil)) (pg_name (i := 4) scNode.nd rfl (.inl rfl))
        (pss_one (ps_expr (pe_bm PySem.F.plainAttrs_list PySem.F.slot_list_append PySem.F.type_list_append mt_append (pv 3) (pa_cons (pe_tup (pa_cons (pe_call cHeading.G (hr.mono (by first | decide | omega)) (by rfl) cHeading.D.g cHeading.D.F.kp cHeading.D.b .nil pass0 (pa_cons (pv 0) (pa_cons (pv 1) pa_nil))) (pa_cons (pe_call cAmount.G (hr.mono (by first | decide | omega)) (by rfl) cAmount.D.g cAmount.D.F.kp cAmount.D.b .nil pass0 (pa_cons (pv 0) pa_nil)) (pa_cons (pe_ix ix_list (pv 2) (pe_call cDraw.G (hr.mono (by first | decide | omega)) (by rfl) cDraw.D.g cDraw.D.F.kp cDraw.D.b .nil pass0 (pa_cons (pv 0) (pa_cons pe_int pa_nil))) (fun _ _ => rfl)) (pa_cons (pe_lst pa_nil) pa_nil))))) pa_nil)))))
      (pss_cons (ps_set (i := 5) scNode.nd rfl (.inl rfl) (pe_callB (cr_sum rfl) (by rfl) B.sum (by decide +kernel) (pa_cons (pe_lc (own := [("kid", 6)]) (g := gName 6) (by rfl) scNode.nd (pi_list (pv 3)) (blkOk_by (N := NNode) (sc := defScope sNode) (by decide +kernel)) (fun _ _ _ _ _ => pg_name (i := 6) scNode.nd rfl (Or.inl rfl)) (fun _ _ _ _ _ => pts_nil) (fun _ _ _ _ _ => pe_ix (r := rIxT K) ix_tup (pv 6) pe_int (fun _ _ => rfl))) pa_nil)))
      (C8.pss_cut (ps_if (PW.pt (pw_or (pt_cmpR op_eq (pe_callB call_len_seq (by rfl) B.len PySem.boot_len (pa_cons (pv 3) pa_nil)) pe_int (nomark _)) (pw_or1 (pt_cmpR op_eq (pe_call cDraw.G (hr.mono (by first | decide | omega)) (by rfl) cDraw.D.g cDraw.D.F.kp cDraw.D.b .nil pass0 (pa_cons (pv 0) (pa_cons pe_int pa_nil))) pe_int (nomark _)))))
        (pss_one (ps_set (i := 5) scNode.nd rfl (.inl rfl) (pe_op op_add (pv 5) (pe_call cAmount.G (hr.mono (by first | decide | omega)) (by rfl) cAmount.D.g cAmount.D.F.kp cAmount.D.b .nil pass0 (pa_cons (pv 0) pa_nil)))))
        pss_nil)
      (pss_one (ps_ret (pe_tup (pa_cons (pe_call cHeading.G (hr.mono (by first | decide | omega)) (by rfl) cHeading.D.g cHeading.D.F.kp cHeading.D.b .nil pass0 (pa_cons (pv 0) (pa_cons (pv 1) pa_nil))) (pa_cons (pv 5) (pa_cons (pe_ix ix_list (pv 2) (pe_call cDraw.G (hr.mono (by first | decide | omega)) (by rfl) cDraw.D.g cDraw.D.F.kp cDraw.D.b .nil pass0 (pa_cons (pv 0) (pa_cons pe_int pa_nil))) (fun _ _ => rfl)) (pa_cons (pv 3) pa_nil))))))))))), ?_⟩
    refine ⟨by show 0 ≤ sizeLine; omega, fun L nL => ?_⟩
    obtain ⟨B1, b1⟩ := box_new (o := .lst []) hB nL
    have Lp : L ≠ p := fun z => by
      obtain ⟨_, _, _, _, e, _⟩ := hB
      rw [z, e] at nL; cases nL
    have l2 := hL.n
    refine ⟨.ref p, rfl, p, 3, rfl, B1, by decide, fun v H2 v0 v1 B2 b2 => ⟨v, rfl, by omega, by omega, ?_⟩⟩
    have hL2 := b2 L _ upd_same Lp
    have lp : l ≠ p := B1.ne (same_upd nL _ _ hL.l) (ni_strs ls)
    have hl2 : Lns H2 l ls := ⟨b2 _ _ (same_upd nL _ _ hL.l) lp, hL.n, hL.d⟩
    refine for_range (lo := 0) (n := v.toNat) (fun i σ H3 => ∃ y4 ks vs, σ = [some (.ref p), some (.str st), some (.ref l), some (.ref L), y4, none, none] ∧ Box H3 p ∧ But p H H3 ∧ H3 L = some (.lst vs) ∧ NdsAt (fun a => H a = none ∧ a ≠ L) H3 ks vs ∧ ks.length = i ∧ Nd.oks ks ∧ (∀ k ∈ ks, k.ks = []) ∧ Lns H3 l ls) ⟨none, [], [], rfl, B2, b1.trans b2, hL2, rfl, rfl, trivial, fun _ h => (by cases h), hl2⟩ ?_ ?_
    · rintro i σ H3 hi ⟨y4, ks, vs, rfl, B3, b3, hL3, hK3, lk, ok3, kk3, hl3⟩
      refine ⟨.ref L, rfl, .inl ⟨rfl, _, sqOf hL3⟩, ?_⟩
      refine ⟨.ref p, rfl, .str st, rfl, p, st, rfl, B3, hs, fun hd H4 hhd B4 b4 => ?_⟩
      refine ⟨.ref p, rfl, p, rfl, B4, fun am H5 a0 B5 b5 => ?_⟩
      refine ⟨.ref l, rfl, .ref p, rfl, p, 3, rfl, B5, by decide, fun u H6 u0 u1 B6 b6 => ?_⟩
      have b36 := (b4.trans b5).trans b6
      have hl6 : Lns H6 l ls := ⟨b36 _ _ hl3.l lp, hl3.n, hl3.d⟩
      have lu : u.toNat < ls.length := by omega
      refine ⟨l, _, u.toNat, .str ls[u.toNat], rfl, congrArg V.int (show u = (u.toNat : Int) by omega), sqOf hl6.l, atI_nat (strs_at lu), by show 0 ≤ sizeLine; omega, fun M nM => ?_⟩
      have hL6 := b36 _ _ hL3 Lp
      have ML : M ≠ L := fun z => by rw [z, hL6] at nM; cases nM
      obtain ⟨B7, b7⟩ := box_new (o := .lst []) B6 nM
      have M0 := but_free B6 (b3.trans b36) nM
      refine ⟨by show 4 ≤ sizeLine; omega, fun T nT => ?_⟩
      have hL7 := same_upd (o := .lst []) nM _ _ hL6
      have T0 := but_free B7 ((b3.trans b36).trans b7) nT
      have TL : T ≠ L := fun z => by rw [z, hL7] at nT; cases nT
      obtain ⟨B8, b8⟩ := box_new (o := .tup [V.str hd, V.int am, V.str ls[u.toNat], V.ref M]) B7 nT
      have S8 := (same_upd (o := .lst []) nM).trans (same_upd (o := .tup [V.str hd, V.int am, V.str ls[u.toNat], V.ref M]) nT)
      have hL8 := S8 _ _ hL6
      have lvs := NdsAt.len hK3
      have hM8 := same_upd (o := .tup [V.str hd, V.int am, V.str ls[u.toNat], V.ref M]) nT M _ upd_same
      refine ⟨L, _, .ref T, rfl, rfl, hL8, by omega, ?_⟩
      have hT8 : L2.upd (L2.upd H6 M (.lst [])) T (.tup [V.str hd, V.int am, V.str ls[u.toNat], V.ref M]) T = some (.tup [V.str hd, V.int am, V.str ls[u.toNat], V.ref M]) := upd_same
      generalize L2.upd (L2.upd H6 M (.lst [])) T (.tup [V.str hd, V.int am, V.str ls[u.toNat], V.ref M]) = H8 at B8 b8 S8 hL8 hM8 hT8
      have L0 : H L = none := nL
      refine ⟨_, ks ++ [.mk hd am ls[u.toNat] []], vs ++ [.ref T], rfl, ?_, fun b o e n => ?_, upd_same, NdsAt.snoc (k := .mk hd am ls[u.toNat] []) (v := .ref T) (hK3.but fun b o n e ni => ?_) ⟨T, M, [], rfl, ⟨T0, TL⟩, ?_, ⟨M0, ML⟩, ?_, rfl⟩, by rw [List.length_append, lk]; rfl, Nd.oks_of fun k hk => ?_, fun k hk => ?_, ⟨?_, hl6.n, hl6.d⟩⟩
      · obtain ⟨r, a, b, c, e, rest⟩ := B8
        exact ⟨r, a, b, c, by rw [upd_ne (Ne.symm Lp)]; exact e, rest⟩
      · rw [upd_ne (ne_of_none e L0)]
        exact S8 _ _ (b36 _ _ (b3 _ _ e n) n)
      · rw [upd_ne n.2]
        exact S8 _ _ (b36 _ _ e (B3.ne e ni))
      · rw [upd_ne TL]; exact hT8
      · rw [upd_ne ML]; exact hM8
      · rcases List.mem_append.mp hk with hk | hk
        · exact Nd.oks_mem ok3 k hk
        · rw [List.mem_singleton.mp hk]
          exact ⟨(isAddr_iff _).mp hhd, hl6.d _ (List.getElem_mem lu), a0, a0, Nat.zero_le _, trivial⟩
      · rcases List.mem_append.mp hk with hk | hk
        · exact kk3 k hk
        · rw [List.mem_singleton.mp hk]; rfl
      · rw [upd_ne (ne_of_none hL.l nL)]
        exact S8 _ _ hl6.l
    · rintro σ H3 ⟨y4, ks, vs, rfl, B3, b3, hL3, hK3, lk, ok3, kk3, hl3⟩
      refine ⟨.ref L, rfl, L, rfl, ⟨_, sqOf hL3⟩, fun C nC => ?_⟩
      have lvs := NdsAt.len hK3
      refine lc_it (walk_list (a := L) (xs := vs)) (fun i H' => Same H3 H' ∧ H' C = some (.lst (((ks.take i).map Nd.w).map V.int))) ⟨same_upd nC, upd_same⟩ (fun i H' _ hP => sqOf (hP.1 _ _ hL3)) (fun i v' H' H'' hi hP hy => ?_) (fun H4 hP => ?_)
      · obtain ⟨S', hT⟩ := hP
        obtain ⟨rfl, ev⟩ := hy
        obtain ⟨k, T, M, ek, rfl, hk⟩ := nd_ws hK3 i v' ev
        have sT : SqT K H'' T _ := .of (S' _ _ hk)
        refine ⟨rfl, .ref T, rfl, T, _, 1, .int k.w, rfl, rfl, sT, rfl, _, hT, ?_, fun c o hc => ?_, ?_⟩
        · rw [List.length_map, List.length_map, List.length_take]; omega
        · rw [upd_ne (ne_of_none hc nC)]; exact S' _ _ hc
        · rw [upd_same, List.take_add_one, ek, List.map_append, List.map_append]; rfl
      obtain ⟨S4, hC⟩ := hP
      rw [lvs, List.take_length] at hC
      refine ⟨C, _, rfl, sqOf hC, ?_⟩
      rw [← sumOf_eq]
      have wk : 0 ≤ sumOf (ks.map Nd.w) := by
        have : ∀ l : List Nd, (∀ k ∈ l, 0 ≤ k.w) → 0 ≤ sumOf (l.map Nd.w) := by
          intro l
          induction l with
          | nil => exact fun _ => Int.le_refl 0
          | cons a l ih =>
              intro h
              have h1 := h a List.mem_cons_self
              have h2 := ih fun k hk => h k (List.mem_cons_of_mem _ hk)
              show 0 ≤ a.w + sumOf (l.map Nd.w)
              omega
        refine this ks fun k hk => ?_
        have := Nd.oks_mem ok3 k hk
        cases k
        exact this.2.2.1
      have B4 := B3.same S4
      have hL4 := S4 _ _ hL3
      have hK4 := hK3.but (H' := H4) fun b o _ e _ => S4 _ _ e
      have hl4 : Lns H4 l ls := ⟨S4 _ _ hl3.l, hl3.n, hl3.d⟩
      have b04 := b3.trans (Same.but S4)
      refine ⟨fun σ' H' => ∃ wt : Int, σ' = [some (.ref p), some (.str st), some (.ref l), some (.ref L), y4, some (.int wt), none] ∧ sumOf (ks.map Nd.w) ≤ wt ∧ Box H' p ∧ But p H4 H', ?_, ?_⟩
      · have add : ∀ H5, Box H5 p → But p H4 H5 → (tAsg (tOp (rI0 fun i j => V.int (i + j)) (tVar 5) (tCall (spInt fun z => 0 ≤ z) [] E0 (tCons (tVar 0) tNil))) (gName 5)) ({ nx := fun σ' H' => ∃ wt : Int, σ' = [some (.ref p), some (.str st), some (.ref l), some (.ref L), y4, some (.int wt), none] ∧ sumOf (ks.map Nd.w) ≤ wt ∧ Box H' p ∧ But p H4 H', rt := Q } : Ends) [some (.ref p), some (.str st), some (.ref l), some (.ref L), y4, some (.int (sumOf (ks.map Nd.w))), none] H5 := fun H5 B5 b5 => by
          refine ⟨.int (sumOf (ks.map Nd.w)), rfl, .ref p, rfl, p, rfl, B5, fun z H6 z0 B6 b6 => ⟨_, z, rfl, rfl, ?_⟩⟩
          exact ⟨_, rfl, by omega, B6, b5.trans b6⟩
        refine ⟨.ref L, rfl, L, _, rfl, .inl (sqOf hL4), rfl, _, rfl, ite2 (fun e => ?_) (fun e => ?_)⟩
        · exact add H4 B4 (But.refl _ _)
        · refine ⟨.ref p, rfl, p, 2, rfl, B4, by decide, fun u H5 u0 u1 B5 b5 => ⟨rfl, _, rfl, ite2 (fun e => ?_) (fun e => ?_)⟩⟩
          · exact add H5 B5 b5
          · exact ⟨_, rfl, Int.le_refl _, B5, b5⟩
      · rintro σ' H5 ⟨wt, rfl, lw, B5, b5⟩
        refine ⟨.ref p, rfl, .str st, rfl, p, st, rfl, B5, hs, fun hd H6 hhd B6 b6 => ?_⟩
        refine ⟨.int wt, rfl, .ref l, rfl, .ref p, rfl, p, 3, rfl, B6, by decide, fun u H7 u0 u1 B7 b7 => ?_⟩
        have b47 := (b5.trans b6).trans b7
        have hl7 : Lns H7 l ls := ⟨b47 _ _ hl4.l lp, hl4.n, hl4.d⟩
        have lu : u.toNat < ls.length := by omega
        refine ⟨l, _, u.toNat, .str ls[u.toNat], rfl, congrArg V.int (show u = (u.toNat : Int) by omega), sqOf hl7.l, atI_nat (strs_at lu), .ref L, rfl, by show 4 ≤ sizeLine; omega, fun T nT => ?_⟩
        have hL7 := b47 _ _ hL4 Lp
        have ST := same_upd (o := .tup [V.str hd, V.int wt, V.str ls[u.toNat], V.ref L]) nT
        have hK7 : NdsAt (fun a => H a = none) H7 ks vs := NdsAt.go (fun b o s e ni => ⟨s.1, b47 b o e (B4.ne e ni)⟩) hK4
        have T0 := but_free B7 (b04.trans b47) nT
        have hk2 : ks.length ≤ 2 := by omega
        refine q (.ref T) (.mk hd wt ls[u.toNat] ks) _ ⟨T, L, vs, rfl, T0, upd_same, nL, ST _ _ hL7, hK7.kp (Same.kp ST)⟩ ⟨(isAddr_iff _).mp hhd, hl7.d _ (List.getElem_mem lu), by omega, lw, Nat.le_trans hk2 (by decide), ok3⟩ ?_ hk2 (B7.same ST) ((b04.trans b47).trans (Same.but ST))
        show Nd.ds ks + 1 ≤ 2
        have : ∀ l : List Nd, (∀ k ∈ l, k.ks = []) → Nd.ds l ≤ 1 := by
          intro l
          induction l with
          | nil => exact fun _ => Nat.zero_le _
          | cons a l ih =>
              intro h
              have h1 := h a List.mem_cons_self
              have h2 := ih fun k hk => h k (List.mem_cons_of_mem _ hk)
              have h3 := Nd.d_eq a
              rw [h1] at h3
              show max a.d (Nd.ds l) ≤ 1
              have h4 : Nd.ds [] = 0 := rfl
              omega
        have := this ks kk3
        omega
end
end Tb
namespace Tb
open PySem PySem.Spec PyProof.Rows L2
abbrev sLRows : Stmt := topS 47
abbrev NLRows : List Str := ["box", "stem", "lands", "rows", "k", "prefix", "land", "price", "row"]
theorem scLRows : FnScope NLRows ["box", "stem", "lands"] (defScope sLRows) := ⟨rfl, rfl, rfl, by decide +kernel, rfl, by decide +kernel, by decide +kernel⟩
abbrev sLRate : Stmt := topS 48
abbrev NLRate : List Str := ["rows", "heading", "land", "best", "row"]
theorem scLRate : FnScope NLRate ["rows", "heading", "land"] (defScope sLRate) := ⟨rfl, rfl, rfl, by decide +kernel, rfl, by decide +kernel, by decide +kernel⟩
theorem lane_ks {ks : List Str} (h : ∀ x ∈ ks, Nm (tl x)) {x : Str} (hx : x ∈ ks ++ [Str.ofString ""]) : isLane x = true := by
  unfold isLane
  rcases List.mem_append.mp hx with hx | hx
  · rw [(isName_iff x).mpr (h x hx), Bool.or_true]
  · rw [List.mem_singleton.mp hx]; decide +kernel
theorem ad_cut {x : Str} (h : isAddr x = true) {k : Int} (h0 : 1 ≤ k) : isAddr (cutS x none (some k)) = true := by
  obtain ⟨n, rfl⟩ : ∃ n : Nat, k = (n : Int) := ⟨k.toNat, by omega⟩
  obtain ⟨a, b, c⟩ := (isAddr_iff _).mp h
  refine (isAddr_iff _).mpr ⟨?_, ?_, fun d hd => ?_⟩
  · rw [tl_hi, List.length_take]; omega
  · rw [tl_hi, List.length_take]; omega
  · rw [tl_hi] at hd; exact c d (List.mem_of_mem_take hd)
section
variable {P : Program} {w : World} {K : PySem.W.Frag} {mg : Str → Option Value} {base : Heap}
def spLRows : Sp := fun vs H Q _ => ∃ (p l : Addr) (z : Str) (ks : List Str), vs = [.ref p, .str z, .ref l] ∧ Box H p ∧ Lns H l ks ∧ Stem z ∧ ∀ (a : Addr) (bs : List (Addr × Rw)) (H' : Hp), H a = none → LR H' a bs → Gd (bs.map (·.2)) → 1 ≤ bs.length → bs.length ≤ 6 → Box H' p → But p H H' → Q (.ref a) H'
theorem ok_lrows {f g1 g2 g3 : Addr} {fd gd1 gd2 gd3 : FuncData} (F : Fun K "_law_rows" "_law_rows" sLRows f fd) (cDraw : CDraw P w K mg base g1 gd1) (cHeading : CHeading P w K mg base g2 gd2) (cAmount : CAmount P w K mg base g3 gd3) (B : Blt mg) :
    FnOk P w K mg base CX0 4 f fd ["box", "stem", "lands"] spLRows := by
  refine F.ok scLRows (fun vs H Q E h => ?_) (fun cdv A outer s H vs Q E hr h => ?_)
  · obtain ⟨p, l, z, ks, rfl, _⟩ := h
    rfl
  · obtain ⟨p, l, z, ks, rfl, hB, hL, hS, q⟩ := h
    refine ⟨_, (pss_cons (ps_set (i := 3) scLRows.nd rfl (.inl rfl) (pe_lst pa_nil))
      (pss_cons (ps_for PassesOwn.never rfl (pi_range1 (by rfl) B.range (pa_cons (pe_op op_add pe_int (pe_call cDraw.G (hr.mono (by first | decide | omega)) (by rfl) cDraw.D.g cDraw.D.F.kp cDraw.D.b .nil pass0 (pa_cons (pv 0) (pa_cons pe_int pa_nil)))) pa_nil)) (pg_name (i := 4) scLRows.nd rfl (.inl rfl))
        (pss_cons (ps_set (i := 5) scLRows.nd rfl (.inr rfl) (pe_slice sl_str (pe_call cHeading.G (hr.mono (by first | decide | omega)) (by rfl) cHeading.D.g cHeading.D.F.kp cHeading.D.b .nil pass0 (pa_cons (pv 0) (pa_cons (pv 1) pa_nil))) po_none (po_some (pe_op op_add pe_int (pe_call cDraw.G (hr.mono (by first | decide | omega)) (by rfl) cDraw.D.g cDraw.D.F.kp cDraw.D.b .nil pass0 (pa_cons (pv 0) (pa_cons pe_int pa_nil)))))))
        (pss_cons (ps_set (i := 6) scLRows.nd rfl (.inr rfl) (pe_ix ix_list (pe_op op_cat (pv 2) (pe_lst (pa_cons pe_str pa_nil))) (pe_call cDraw.G (hr.mono (by first | decide | omega)) (by rfl) cDraw.D.g cDraw.D.F.kp cDraw.D.b .nil pass0 (pa_cons (pv 0) (pa_cons pe_int pa_nil))) (fun _ _ => rfl)))
        (pss_cons (ps_set (i := 7) scLRows.nd rfl (.inl rfl) (pe_ix ix_list (pe_lst (pa_cons pe_non (pa_cons pe_non (pa_cons pe_int (pa_cons pe_int pa_nil))))) (pe_call cDraw.G (hr.mono (by first | decide | omega)) (by rfl) cDraw.D.g cDraw.D.F.kp cDraw.D.b .nil pass0 (pa_cons (pv 0) (pa_cons pe_int pa_nil))) (fun _ _ => rfl)))
        (C8.pss_cut (ps_if (pt_cmpR op_notN (pv 7) pe_non (nomark _))
          (pss_one (ps_set (i := 7) scLRows.nd rfl (.inl rfl) (pe_call cAmount.G (hr.mono (by first | decide | omega)) (by rfl) cAmount.D.g cAmount.D.F.kp cAmount.D.b .nil pass0 (pa_cons (pv 0) pa_nil))))
          pss_nil)
        (pss_one (ps_if (pt_cmpR op_eq (pe_callB call_len_seq (by rfl) B.len PySem.boot_len (pa_cons (pe_lc (own := [("row", 8)]) (g := gName 8) (by rfl) scLRows.nd (pi_list (pv 3)) (blkOk_by (N := NLRows) (sc := defScope sLRows) (by decide +kernel)) (fun _ _ _ _ _ => pg_name (i := 8) scLRows.nd rfl (Or.inl rfl)) (fun _ _ _ _ _ => pts_one (PW.pt (pw_and (pt_cmpR op_eq (pe_ix (r := rIxT K) ix_tup (pv 8) pe_int (fun _ _ => rfl)) (pv 5) (nomark _)) (pw_and1 (pt_cmpR op_eq (pe_ix (r := rIxT K) ix_tup (pv 8) pe_int (fun _ _ => rfl)) (pv 6) (nomark _)))))) (fun _ _ _ _ _ => pv 8)) pa_nil)) pe_int (nomark _))
          (pss_one (ps_expr (pe_bm PySem.F.plainAttrs_list PySem.F.slot_list_append PySem.F.type_list_append mt_append (pv 3) (pa_cons (pe_tup (pa_cons (pv 5) (pa_cons (pv 6) (pa_cons (pv 7) pa_nil)))) pa_nil))))
          pss_nil)))))))
      (pss_one (ps_ret (pv 3))))), ?_⟩
    have hz : sizeLine = 16777216 := rfl
    refine ⟨by show 0 ≤ sizeLine; omega, fun D nD => ?_⟩
    have bn := box_new (o := .lst []) hB nD
    have L0 : H D = none := nD
    have Dp : D ≠ p := fun e => by
      obtain ⟨_, _, _, _, e2, _⟩ := hB
      rw [e, e2] at nD; cases nD
    have R0 : LR (upd H D (.lst [])) D [] := ⟨upd_same, nofun⟩
    refine ⟨.ref p, rfl, p, 6, rfl, bn.1, by decide, fun n H1 n0 n1 B1 b1 => ⟨1, n, rfl, rfl, 1 + n, rfl, by omega, by omega, ?_⟩⟩
    have R1 := R0.but bn.1 b1
    refine for_range (lo := 0) (n := (1 + n).toNat) (fun i σ H3 => ∃ bs y4 y5 y6 y7, σ = [some (.ref p), some (.str z), some (.ref l), some (.ref D), y4, y5, y6, y7, none] ∧ Box H3 p ∧ But p H H3 ∧ LR H3 D bs ∧ Gd (bs.map (·.2)) ∧ bs.length ≤ i ∧ (1 ≤ i → 1 ≤ bs.length) ∧ Lns H3 l ks)
      ⟨[], none, none, none, none, rfl, B1, bn.2.trans b1, R1, ⟨nofun, List.nodup_nil⟩, Nat.le_refl _, fun h => h, (hL.kp (But.kp hB (bn.2.trans b1)))⟩ ?_ ?_
    · rintro i σ H3 hi ⟨bs, y4, y5, y6, y7, rfl, B3, b3, R3, g3, ln, l1, L3⟩
      refine ⟨.ref p, rfl, .str z, rfl, p, z, rfl, B3, hS, fun x0 H4 ax0 B4 b4 => ?_⟩
      have R4 := R3.but B3 b4
      have L4 := L3.kp (But.kp B3 b4)
      refine ⟨.ref p, rfl, p, 8, rfl, B4, by decide, fun u H5 u0 u1 B5 b5 => ⟨1, u, rfl, rfl, _, rfl, x0, rfl, by have := addr_small ax0; omega, ?_⟩⟩
      have ax := ad_cut ax0 (k := 1 + u) (by omega)
      generalize cutS x0 none (some (1 + u)) = x at ax
      have R5 := R4.but B4 b5
      have L5 := L4.kp (But.kp B4 b5)
      refine ⟨.ref l, rfl, by show 1 ≤ sizeLine; omega, fun M nM => ?_⟩
      have m5 := box_new (o := .lst [V.str (Str.ofString "")]) B5 nM
      have L6 := L5.kp (Same.kp (same_upd (o := .lst [V.str (Str.ofString "")]) nM))
      refine ⟨l, M, _, _, rfl, rfl, L6.l, upd_same, by rw [List.length_map, L5.n]; show 3 + 1 ≤ _; omega, fun N nN => ?_⟩
      have m6 := box_new (o := .lst (ks.map V.str ++ [V.str (Str.ofString "")])) m5.1 nN
      refine ⟨.ref p, rfl, p, 4, rfl, m6.1, by decide, fun v H7 v0 v1 B7 b7 => ?_⟩
      have hN := b7 N _ upd_same (m6.1.ne upd_same (by have := ni_strs (ks ++ [Str.ofString ""]); rwa [List.map_append] at this))
      have lv : v.toNat < (ks ++ [Str.ofString ""]).length := by rw [List.length_append, L5.n]; show _ < 3 + 1; omega
      refine ⟨N, _, v, _, rfl, rfl, sqOf hN, at_nat v0 (show (ks.map V.str ++ [V.str (Str.ofString "")])[v.toNat]? = _ by rw [show ks.map V.str ++ [V.str (Str.ofString "")] = (ks ++ [Str.ofString ""]).map V.str by rw [List.map_append]; rfl]; exact strs_at lv), ?_⟩
      have hla := lane_ks L5.d (List.getElem_mem lv)
      generalize (ks ++ [Str.ofString ""])[v.toNat] = la at hla
      have b57 := (m5.2.trans m6.2).trans b7
      have R7 := R5.but B5 b57
      have L7 := L5.kp (But.kp B5 b57)
      have b37 := ((b3.trans b4).trans b5).trans b57
      refine ⟨by show 4 ≤ sizeLine; omega, fun W nW => ?_⟩
      have m8 := box_new (o := .lst [V.non, V.non, V.int 0, V.int 0]) B7 nW
      have Wp : W ≠ p := fun e => by
        obtain ⟨_, _, _, _, e2, _⟩ := B7
        rw [e, e2] at nW; cases nW
      refine ⟨.ref p, rfl, p, 4, rfl, m8.1, by decide, fun c H8 c0 c1 B8 b8 => ?_⟩
      have hW := b8 W _ upd_same Wp
      obtain ⟨y, hy, ey⟩ : ∃ y : Option Int, [V.non, V.non, V.int 0, V.int 0][c.toNat]? = some (oI y) ∧ okP y := by
        rcases (show c = 0 ∨ c = 1 ∨ c = 2 ∨ c = 3 by omega) with rfl | rfl | rfl | rfl
        · exact ⟨none, rfl, nofun⟩
        · exact ⟨none, rfl, nofun⟩
        · exact ⟨some 0, rfl, fun i e => by cases e; decide⟩
        · exact ⟨some 0, rfl, fun i e => by cases e; decide⟩
      refine ⟨W, _, c.toNat, oI y, rfl, congrArg V.int (show c = (c.toNat : Int) by omega), sqOf hW, atI_nat hy, ?_⟩
      have b38 := (b37.trans m8.2).trans b8
      have R8 := R7.but B7 (m8.2.trans b8)
      have L8 := L7.kp (But.kp B7 (m8.2.trans b8))
      refine ⟨fun σ' H' => ∃ y : Option Int, okP y ∧ σ' = [some (.ref p), some (.str z), some (.ref l), some (.ref D), some (.int ↑(0 + i)), some (.str x), some (.str la), some (oI y), none] ∧ Box H' p ∧ But p H H' ∧ LR H' D bs ∧ Lns H' l ks, ?_, ?_⟩
      · refine ⟨oI y, rfl, rfl, _, rfl, ite2 (fun e => ?_) (fun e => ?_)⟩
        · refine ⟨.ref p, rfl, p, rfl, B8, fun a H9 a0 B9 b9 => ?_⟩
          exact ⟨some a, fun i e => by cases e; exact a0, rfl, B9, b38.trans b9, R8.but B8 b9, L8.kp (But.kp B8 b9)⟩
        · exact (⟨y, ey, rfl, B8, b38, R8, L8⟩ : ∃ y' : Option Int, okP y' ∧ [some (V.ref p), some (.str z), some (.ref l), some (.ref D), some (.int ↑(0 + i)), some (.str x), some (.str la), some (oI y), none] = [some (.ref p), some (.str z), some (.ref l), some (.ref D), some (.int ↑(0 + i)), some (.str x), some (.str la), some (oI y'), none] ∧ Box H8 p ∧ But p H H8 ∧ LR H8 D bs ∧ Lns H8 l ks)
      clear hW ey hy R8 L8 b38 b8 B8
      rintro σ' H8 ⟨y, ey, rfl, B8, b8, R8, L8⟩
      obtain ⟨r, hr⟩ : ∃ r : Rw, r = ((x, la), y) := ⟨_, rfl⟩
      have r1 : r.1.1 = x := by rw [hr]
      have r2 : r.1.2 = la := by rw [hr]
      refine ⟨.ref D, rfl, D, rfl, ⟨_, sqOf R8.l⟩, fun C nC => ?_⟩
      refine lc_it (walk_list (a := D) (xs := bs.map fun b => V.ref b.1)) (fun i H1 => Same H8 H1 ∧ H1 C = some (.lst (((bs.take i).filter (hitR r.1)).map fun b => V.ref b.1))) ⟨same_upd nC, upd_same⟩ (fun i H1 _ hP => sqOf (hP.1 _ _ R8.l)) (fun i v H1 H2 hi hP hy => ?_) (fun H1 hP => ?_)
      · obtain ⟨S1, hD⟩ := hP
        obtain ⟨rfl, ev⟩ := hy
        obtain ⟨b, eb, rfl⟩ := bs_at ev
        have hb := S1 _ _ (R8.t b (List.mem_of_getElem? eb))
        have ts := take_snoc eb
        have stay : hitR r.1 b = false → Same H8 H2 ∧ H2 C = some (.lst (((bs.take (i + 1)).filter (hitR r.1)).map fun b => V.ref b.1)) := fun e => ⟨S1, by rw [ts, List.filter_append, List.filter_cons_of_neg (by rw [e]; decide), List.filter_nil, List.append_nil]; exact hD⟩
        refine ⟨rfl, .ref b.1, rfl, b.1, _, 0, _, rfl, rfl, .of hb, rfl, .str x, rfl, rfl, _, rfl, ?_⟩
        refine ite2 (fun e1 => ?_) (fun e1 => ?_)
        · refine ⟨.ref b.1, rfl, b.1, _, 1, _, rfl, rfl, .of hb, rfl, .str la, rfl, rfl, _, rfl, ite2 (fun e2 => ?_) (fun e2 => ?_)⟩
          · have hit : hitR r.1 b = true := hit_iff.mpr (Prod.ext (by rw [r1]; simpa using e1) (by rw [r2]; simpa using e2))
            refine ⟨_, rfl, _, hD, ?_, fun c o hc => ?_, ?_⟩
            · rw [List.length_map]
              have := List.length_filter_le (hitR r.1) (bs.take i)
              rw [List.length_take] at this
              omega
            · rw [upd_ne (ne_of_none hc nC)]; exact S1 _ _ hc
            · rw [upd_same, ts, List.filter_append, List.filter_cons_of_pos hit, List.filter_nil, List.map_append]; rfl
          · exact stay (Bool.eq_false_iff.mpr fun h => e2 (by have := hit_iff.mp h; simp [this, r2]))
        · exact stay (Bool.eq_false_iff.mpr fun h => e1 (by have := hit_iff.mp h; simp [this, r1]))
      obtain ⟨S1, hD⟩ := hP
      rw [List.length_map, List.take_length] at hD
      have R9 := R8.same S1
      have B9 := B8.same S1
      have b9 := b8.trans (Same.but S1)
      have L9 := L8.kp (Same.kp S1)
      refine ⟨C, _, rfl, .inl (sqOf hD), rfl, _, rfl, ite2 (fun e => ?_) (fun e => ?_)⟩
      · have e := of_decide_eq_true e
        refine ⟨.ref D, rfl, .inl ⟨rfl, _, sqOf R9.l⟩, .str x, rfl, .str la, rfl, oI y, rfl, by show 3 ≤ sizeLine; omega, fun T nT => ?_⟩
        have S2 := same_upd (o := .tup [V.str x, V.str la, oI y]) nT
        have R10 := R9.same S2
        refine ⟨D, _, .ref T, rfl, rfl, R10.l, by rw [List.length_map]; omega, ?_⟩
        have c : ¬ r.1 ∈ (bs.map (·.2)).map Prod.fst := fun h => by
          rw [List.map_map] at h
          obtain ⟨b, hb, eb⟩ := List.mem_map.mp h
          have : 0 < (bs.filter (hitR r.1)).length := List.length_pos_of_mem (List.mem_filter.mpr ⟨hb, hit_iff.mpr eb⟩)
          have e : ((((bs.filter (hitR r.1)).map fun b => V.ref b.1).length : Nat) : Int) = 0 := V.int.inj e
          rw [List.length_map] at e
          omega
        have B10 := B9.same S2
        refine ⟨bs ++ [(T, r)], _, _, _, _, rfl, ?_, fun b o eb nb => ?_, ⟨by rw [upd_same, List.map_append]; rfl, fun b hb => ?_⟩, ?_, by rw [List.length_append]; show _ + 1 ≤ _; omega, fun _ => by rw [List.length_append]; show 1 ≤ _ + 1; omega, ⟨?_, L9.n, L9.d⟩⟩
        · obtain ⟨r, a, b, c, e, rest⟩ := B10
          exact ⟨r, a, b, c, by rw [upd_ne (Ne.symm Dp)]; exact e, rest⟩
        · rw [upd_ne (ne_of_none eb L0)]
          exact S2 _ _ (b9 _ _ eb nb)
        · rcases List.mem_append.mp hb with hb | hb
          · rw [upd_ne (fun z => by have h1 := R10.t b hb; rw [z, R10.l] at h1; cases h1)]
            exact R10.t b hb
          · rw [List.mem_singleton.mp hb]
            rw [upd_ne (fun z => by have h1 := R9.l; rw [← (show T = D from z), nT] at h1; cases h1)]
            rw [hr]; exact upd_same
        · have g := gd_add (r := r) g3 ⟨by rw [r1]; exact ax, by rw [r2]; exact hla, by rw [hr]; exact ey⟩
          unfold addR at g
          rw [if_neg c] at g
          rw [List.map_append]; exact g
        · rw [upd_ne (ne_of_none hL.l nD)]
          exact S2 _ _ L9.l
      · refine ⟨bs, _, _, _, _, rfl, B9, b9, R9, g3, by omega, fun _ => ?_, L9⟩
        refine Nat.pos_of_ne_zero fun z => e (decide_eq_true ?_)
        rw [List.eq_nil_of_length_eq_zero z]; rfl
    · rintro σ H3 ⟨bs, y4, y5, y6, y7, rfl, B3, b3, R3, g3, ln, l1, L3⟩
      exact ⟨.ref D, rfl, q D bs H3 L0 R3 g3 (l1 (by omega)) (by omega) B3 b3⟩
/-- the best row, ('', '', 0) at first -/
def bR : Option Rw → Rw
  | none => ((Str.ofString "", Str.ofString ""), some 0)
  | some r => r
def spLRate : Sp := fun vs H Q _ => ∃ (a : Addr) (h l : Str) (bs : List (Addr × Rw)), vs = [.ref a, .str h, .str l] ∧ LR H a bs ∧ bs.length ≤ 900 ∧ h.length ≤ 1000 ∧ Gd (bs.map (·.2)) ∧ ∀ (H' : Hp), Same H H' → Q (oI (rate (bs.map (·.2)) h l)) H'
theorem ok_lrate {f : Addr} {fd : FuncData} {k : Nat} (F : Fun K "_law_rate" "_law_rate" sLRate f fd) (B : Blt mg) : FnOk P w K mg base CX0 (k + 1) f fd ["rows", "heading", "land"] spLRate := by
  refine F.ok scLRate (fun vs H Q E h => ?_) (fun cdv A outer s H vs Q E hr h => ?_)
  · obtain ⟨a, h, l, bs, rfl, _⟩ := h
    rfl
  · obtain ⟨a, h, l, bs, rfl, hL, hn, hl, hp, q⟩ := h
    refine ⟨_, (pss_cons (ps_set (i := 3) scLRate.nd rfl (.inl rfl) (pe_tup (pa_cons pe_str (pa_cons pe_str (pa_cons pe_int pa_nil)))))
      (pss_cons (ps_for PassesOwn.never rfl (pi_list (pv 0)) (pg_name (i := 4) scLRate.nd rfl (.inl rfl))
        (pss_one (ps_if (PW.pt (pw_and (pt_val (pe_bm PySem.F.plainAttrs_str PySem.F.slot_str_startswith PySem.F.type_str_startswith mt_startswith (pv 1) (pa_cons (pe_ix ix_tup (pv 4) pe_int (fun _ _ => rfl)) pa_nil))) (pw_and1 (PW.pt (pw_or (pt_cmpR op_eq (pe_ix ix_tup (pv 4) pe_int (fun _ _ => rfl)) (pv 2) (nomark _)) (pw_or1 (pt_cmpR op_eq (pe_ix ix_tup (pv 4) pe_int (fun _ _ => rfl)) pe_str (nomark _))))))))
          (pss_one (ps_if (PW.pt (pw_or (pt_cmpR op_gt (pe_callB call_len_str (by rfl) B.len PySem.boot_len (pa_cons (pe_ix ix_tup (pv 4) pe_int (fun _ _ => rfl)) pa_nil)) (pe_callB call_len_str (by rfl) B.len PySem.boot_len (pa_cons (pe_ix ix_tup (pv 3) pe_int (fun _ _ => rfl)) pa_nil)) (nomark _)) (pw_or1 (PW.pt (pw_and (pt_cmpR op_eq (pe_ix ix_tup (pv 4) pe_int (fun _ _ => rfl)) (pe_ix ix_tup (pv 3) pe_int (fun _ _ => rfl)) (nomark _)) (pw_and1 (pt_cmpR op_eq (pe_ix ix_tup (pv 4) pe_int (fun _ _ => rfl)) (pv 2) (nomark _))))))))
            (pss_one (ps_set (i := 3) scLRate.nd rfl (.inl rfl) (pv 4)))
            pss_nil))
          pss_nil)))
      (pss_one (ps_ret (pe_ix ix_tup (pv 3) pe_int (fun _ _ => rfl)))))), ?_⟩
    have hz : sizeLine = 16777216 := rfl
    refine ⟨by show 3 ≤ sizeLine; omega, fun T nT => ?_⟩
    have S0 := same_upd (o := .tup [V.str (Str.ofString ""), V.str (Str.ofString ""), V.int 0]) nT
    refine ⟨.ref a, rfl, a, rfl, ⟨_, sqOf (S0 _ _ hL.l)⟩, ?_⟩
    refine for_it (walk_list (a := a) (xs := bs.map fun b => V.ref b.1)) (fun i σ H1 => Same H H1 ∧ ∃ y t ob, σ = [some (.ref a), some (.str h), some (.str l), some (.ref t), y] ∧ H1 t = some (.tup (rwV (bR ob))) ∧ (∀ r, ob = some r → isAddr r.1.1 = true) ∧ Best h l ((bs.map (·.2)).take i) ob)
      ⟨S0, none, T, none, rfl, upd_same, nofun, nofun⟩ (fun i σ H1 _ hP => sqOf (hP.1 _ _ hL.l)) (fun i v σ H1 H2 hi hP hy => ?_) (fun σ H1 hP => ?_)
    · obtain ⟨S1, y, t, ob, rfl, ht, ao, best⟩ := hP
      obtain ⟨rfl, ev⟩ := hy
      obtain ⟨b, eb, rfl⟩ := bs_at ev
      have mB := List.mem_of_getElem? eb
      have hb := S1 _ _ (hL.t b mB)
      have gb := hp.1 b.2 (List.mem_map.mpr ⟨b, mB, rfl⟩)
      have hbl := addr_small gb.1
      have ts : (bs.map (·.2)).take (i + 1) = (bs.map (·.2)).take i ++ [b.2] := take_snoc (by rw [List.getElem?_map, eb]; rfl)
      rw [ts]
      have sb : SqT K H2 b.1 (rwV b.2) := .of hb
      have st : SqT K H2 t (rwV (bR ob)) := .of ht
      have tl8 : (bR ob).1.1.length ≤ 8 := by
        cases ob with
        | none => decide
        | some r => exact addr_small (ao r rfl)
      refine tand_at (t := tB _) (u := tOr _ _) (Txt.startswith h b.2.1.1) (decide (b.2.1.2 = l) || decide (b.2.1.2 = Str.ofString "")) (fun Q' q' => ?_) (fun _ Q' q' => ?_) ?_
      · exact ⟨_, rfl, rfl, .ref b.1, rfl, b.1, _, 0, _, rfl, rfl, sb, rfl, h, b.2.1.1, rfl, rfl, _, rfl, q'⟩
      · refine tor_at _ _ (fun Q2 q2 => ?_) (fun _ Q2 q2 => ?_) q'
        · exact ⟨.ref b.1, rfl, b.1, _, 1, _, rfl, rfl, sb, rfl, .str l, rfl, rfl, _, rfl, by simpa using q2⟩
        · exact ⟨.ref b.1, rfl, b.1, _, 1, _, rfl, rfl, sb, rfl, rfl, _, rfl, by simpa using q2⟩
      show if fits h l b.2 = true then _ else _
      refine ite2 (fun ef => ?_) (fun ef => ?_)
      rotate_left
      · exact ⟨S1, _, t, ob, rfl, ht, ao, best_no best (Bool.eq_false_iff.mpr ef)⟩
      refine tor_at (t := tTest _) (u := tAnd _ _) (decide (((bR ob).1.1.length : Int) < (b.2.1.1.length : Int))) (decide (b.2.1.1 = (bR ob).1.1) && decide (b.2.1.2 = l)) (fun Q2 q2 => ?_) (fun _ Q2 q2 => ?_) ?_
      · exact ⟨.ref b.1, rfl, b.1, _, 0, _, rfl, rfl, sb, rfl, b.2.1.1, rfl, by omega, .ref t, rfl, t, _, 0, _, rfl, rfl, st, rfl, (bR ob).1.1, rfl, by omega, _, _, rfl, rfl, _, rfl, q2⟩
      · refine tand_at (decide (b.2.1.1 = (bR ob).1.1)) (decide (b.2.1.2 = l)) (fun Q2 q2 => ?_) (fun _ Q2 q2 => ?_) q2
        · exact ⟨.ref b.1, rfl, b.1, _, 0, _, rfl, rfl, sb, rfl, .ref t, rfl, t, _, 0, _, rfl, rfl, st, rfl, rfl, _, rfl, by simpa using q2⟩
        · exact ⟨.ref b.1, rfl, b.1, _, 1, _, rfl, rfl, sb, rfl, .str l, rfl, rfl, _, rfl, by simpa using q2⟩
      have e1 : (decide (((bR ob).1.1.length : Int) < (b.2.1.1.length : Int)) || (decide (b.2.1.1 = (bR ob).1.1) && decide (b.2.1.2 = l))) = bets l (bR ob) b.2 := by
        unfold bets
        congr 1
        exact decide_eq_decide.mpr (by omega)
      rw [e1]
      have new : bets l (bR ob) b.2 = true → Best h l ((bs.map (·.2)).take i ++ [b.2]) (some b.2) := fun e => by
        cases ob with
        | none => exact best_none best ef
        | some d => exact best_yes (d := d) best ef e
      have old : bets l (bR ob) b.2 = false → Best h l ((bs.map (·.2)).take i ++ [b.2]) ob := fun e => by
        cases ob with
        | none =>
          have : 1 ≤ b.2.1.1.length := by have := ((isAddr_iff _).mp gb.1).1; rw [len_tl]; exact this
          have : bets l (bR none) b.2 = true := by
            unfold bets
            rw [decide_eq_true (show (bR none).1.1.length < b.2.1.1.length from this)]
            rfl
          rw [this] at e; cases e
        | some d => exact best_stay (d := d) best e
      refine ite2 (fun e2 => ?_) (fun e2 => ?_)
      · exact ⟨_, rfl, S1, _, b.1, some b.2, rfl, hb, fun r e => by cases e; exact gb.1, new e2⟩
      · exact ⟨S1, _, t, ob, rfl, ht, ao, old (Bool.eq_false_iff.mpr e2)⟩
    · obtain ⟨S1, y, t, ob, rfl, ht, ao, best⟩ := hP
      rw [List.length_map, ← List.length_map (f := (·.2)) (as := bs), List.take_length] at best
      have er : (bR ob).2 = rate (bs.map (·.2)) h l := rate_uniq hp.2 ⟨ob, best, by cases ob <;> rfl⟩ (rate_is hp h l)
      refine ⟨.ref t, rfl, t, _, 2, _, rfl, rfl, .of ht, rfl, ?_⟩
      show Q (oI (bR ob).2) H1
      rw [er]
      exact q H1 S1
end
end Tb
namespace Tb
open PySem PySem.Spec PyProof.Rows L2
abbrev sLOrig : Stmt := topS 49
abbrev NLOrig : List Str := ["node", "portion", "kid", "far", "best"]
theorem scLOrig : FnScope NLOrig ["node", "portion"] (defScope sLOrig) := ⟨rfl, rfl, rfl, by decide +kernel, rfl, by decide +kernel, by decide +kernel⟩
abbrev sLetIn : Stmt := topS 50
abbrev NLetIn : List Str := ["rows", "portion", "nodes", "node"]
theorem scLetIn : FnScope NLetIn ["rows", "portion", "nodes"] (defScope sLetIn) := ⟨rfl, rfl, rfl, by decide +kernel, rfl, by decide +kernel, by decide +kernel⟩
/-- a comprehension over known items, each of which tells what it tells -/
theorem lc_w {α : Type} {J : It} {G : Hp → Prop} {Y : Nat → Hp → V → Hp → Prop} {D : Addr} {i : Nat} {cs : List α} {e : α → V} {H1 : Hp} {Qd : Hp → Prop} {σ : L2.St} {tt : TT} {te : TE} (p : α → Bool) (f : α → V) (wk : Walk J cs.length G Y) (hG : ∀ H, Same H1 H → G H) (hY : ∀ i H x H', Y i H x H' → H' = H ∧ (cs.map e)[i]? = some x) (nD : H1 D = none) (hlen : cs.length ≤ 1000)
    (hw : ∀ x, wipe ((wipe σ [i]).set i (some x)) [i] = wipe σ [i])
    (ht : ∀ z ∈ cs, ∀ H2, Same H1 H2 → ∀ R : Bool → Hp → Prop, (∀ H3, Same H2 H3 → R (p z) H3) → tt ((wipe σ [i]).set i (some (e z))) H2 R)
    (he : ∀ z ∈ cs, ∀ H2, Same H1 H2 → ∀ R : V → Hp → Prop, (∀ H3, Same H2 H3 → R (f z) H3) → te ((wipe σ [i]).set i (some (e z))) H2 R)
    (hd : ∀ H3, Same H1 H3 → H3 D = some (.lst ((cs.filter p).map f)) → Qd H3) :
    ∃ W : Nat → Nat → Hp → Prop, (∃ m, W 0 m (upd H1 D (.lst []))) ∧ ∀ n m H, W n m H →
      (J.stop n H ∧ Qd H) ∨ (J.go n H ∧ ∃ Nx : Hp → Prop, (∀ H', Nx H' → ∃ m', m' < m ∧ W (n + 1) m' H') ∧ ∀ x H', J.yld n H x H' → gName i x (wipe σ [i]) H' fun σ2 H2 => wipe σ2 [i] = wipe σ [i] ∧ tt σ2 H2 fun b H3 =>
        if b = true then te σ2 H3 fun y H4 => ∃ acc, H4 D = some (.lst acc) ∧ acc.length < sizeLine ∧ Nx (upd H4 D (.lst (acc ++ [y]))) else Nx H3) := by
  refine lc_it wk (fun n H3 => Same H1 H3 ∧ H3 D = some (.lst (((cs.take n).filter p).map f))) ⟨same_upd nD, upd_same⟩ (fun n H3 _ hP => hG H3 hP.1) (fun n v H3 H4 hn hP hy => ?_) (fun H3 hP => hd H3 hP.1 ?_)
  · obtain ⟨S3, hD⟩ := hP
    obtain ⟨rfl, ev⟩ := hY _ _ _ _ hy
    rw [List.getElem?_map] at ev
    cases ez : cs[n]? with
    | none => rw [ez] at ev; cases ev
    | some z =>
    rw [ez] at ev
    cases ev
    have mz : z ∈ cs := List.mem_of_getElem? ez
    refine ⟨hw _, ht z mz _ S3 _ fun H5 S5 => ?_⟩
    have ft := filter_take p cs ez
    have hD5 := S5 _ _ hD
    have S35 := S3.trans S5
    by_cases c : p z = true
    · rw [if_pos c] at ft
      rw [if_pos c]
      refine he z mz _ S35 _ fun H6 S6 => ⟨_, S6 _ _ hD5, ?_, ?_, ?_⟩
      · rw [List.length_map]
        exact small1000 (Nat.le_trans (List.length_filter_le _ _) (by rw [List.length_take]; omega))
      · intro b o hb
        rw [upd_ne (ne_of_none hb nD)]
        exact S6 _ _ (S35 _ _ hb)
      · rw [upd_same, ft, List.map_append]
        rfl
    · rw [if_neg c] at ft
      rw [if_neg c]
      refine ⟨S35, ?_⟩
      rw [hD5, ft, List.append_nil]
  · rw [hP.2, List.take_length]
/-- over a list -/
theorem lc_l {α : Type} {K : PySem.W.Frag} {a D : Addr} {i : Nat} {cs : List α} {e : α → V} {H1 : Hp} {Qd : Hp → Prop} {σ : L2.St} {tt : TT} {te : TE} (p : α → Bool) (f : α → V) (ha : H1 a = some (.lst (cs.map e))) (nD : H1 D = none) (hlen : cs.length ≤ 1000)
    (hw : ∀ x, wipe ((wipe σ [i]).set i (some x)) [i] = wipe σ [i])
    (ht : ∀ z ∈ cs, ∀ H2, Same H1 H2 → ∀ R : Bool → Hp → Prop, (∀ H3, Same H2 H3 → R (p z) H3) → tt ((wipe σ [i]).set i (some (e z))) H2 R)
    (he : ∀ z ∈ cs, ∀ H2, Same H1 H2 → ∀ R : V → Hp → Prop, (∀ H3, Same H2 H3 → R (f z) H3) → te ((wipe σ [i]).set i (some (e z))) H2 R)
    (hd : ∀ H3, Same H1 H3 → H3 D = some (.lst ((cs.filter p).map f)) → Qd H3) :
    ∃ W : Nat → Nat → Hp → Prop, (∃ m, W 0 m (upd H1 D (.lst []))) ∧ ∀ n m H, W n m H →
      ((Itl K a).stop n H ∧ Qd H) ∨ ((Itl K a).go n H ∧ ∃ Nx : Hp → Prop, (∀ H', Nx H' → ∃ m', m' < m ∧ W (n + 1) m' H') ∧ ∀ x H', (Itl K a).yld n H x H' → gName i x (wipe σ [i]) H' fun σ2 H2 => wipe σ2 [i] = wipe σ [i] ∧ tt σ2 H2 fun b H3 =>
        if b = true then te σ2 H3 fun y H4 => ∃ acc, H4 D = some (.lst acc) ∧ acc.length < sizeLine ∧ Nx (upd H4 D (.lst (acc ++ [y]))) else Nx H3) := by
  have wk := walk_list (K := K) (a := a) (xs := cs.map e)
  rw [List.length_map] at wk
  exact lc_w p f wk (fun H S => sqOf (S _ _ ha)) (fun i H x H' h => h) nD hlen hw ht he hd
theorem nds_cs {S : AS} {H : Hp} : ∀ {ks : List Nd} {vs : List V}, NdsAt S H ks vs → ∃ cs : List (Nd × Addr), ks = cs.map (·.1) ∧ vs = cs.map (fun c => V.ref c.2) ∧ ∀ c ∈ cs, NdAt S H c.1 (.ref c.2)
  | [], _, h => ⟨[], rfl, h, nofun⟩
  | k :: ks, _, ⟨v, us, e, r, t⟩ => by
    obtain ⟨cs, e1, e2, h⟩ := nds_cs t
    obtain ⟨t2, L, ws, ev, _⟩ := r.ref
    subst ev
    refine ⟨(k, t2) :: cs, by rw [e1]; rfl, by rw [e, e2]; rfl, fun c hc => ?_⟩
    rcases List.mem_cons.mp hc with rfl | hc
    · exact r
    · exact h c hc
def rwN (k : Nd) : Row := ⟨chap k.h, k.w, k.l⟩
theorem leaf_ks {k : Nd} (h : k.d ≤ 1) : k.ks = [] := by
  cases e : k.ks with
  | nil => rfl
  | cons a l =>
    have h1 := Nd.d_eq k
    rw [e] at h1
    have h2 := Nd.d_eq a
    have h3 : Nd.ds (a :: l) = max a.d (Nd.ds l) := rfl
    omega
theorem leaf_cert {k : Nd} (h : k.d ≤ 1) (s : Int) : (certOf s k).l = k.l := by
  have := leaf_ks h
  cases k
  cases this
  rfl
theorem rows_leaf (s : Int) : ∀ {ks : List Nd}, (∀ k ∈ ks, k.d ≤ 1) → rowsOf s ks = ks.map rwN
  | [], _ => rfl
  | k :: ks, h => by
    show _ :: rowsOf s ks = rwN k :: ks.map rwN
    rw [rows_leaf s fun x hx => h x (List.mem_cons_of_mem _ hx), leaf_cert (h k List.mem_cons_self)]
    rfl
theorem cert_l (s : Int) : ∀ {n : Nd}, n.d ≤ 2 → (certOf s n).l = (ruled n.h n.w n.l s (n.ks.map rwN)).2
  | .mk h w l ks, hd => by
    show (ruled h w l s (rowsOf s ks)).2 = (ruled h w l s (ks.map rwN)).2
    rw [rows_leaf s fun k hk => Nat.le_trans (Nd.d_mem hk) (Nat.le_of_succ_le_succ hd)]
theorem ruled_l {h l : Str} {w s : Int} {xs : List Row} : (ruled h w l s xs).2 = if ((farOf l xs).filter fun x => decide (x.c = chap h)).length = 0 then l else if 100 * sumOf ((farOf l xs).map Row.w) ≤ s * w then l else match farOf l xs with | [] => l | f :: fs => (best fs f).l := by
  cases xs with
  | nil => rfl
  | cons x xs =>
    cases e : farOf l (x :: xs) with
    | nil =>
      show (match farOf l (x :: xs) with | [] => _ | f :: fs => _ : Str × Str).2 = _
      rw [e]; rfl
    | cons f fs =>
      rw [ruled_far (by simp) e]
      have q : ((f :: fs).all fun x => !decide (x.c = chap h)) = true ↔ ((f :: fs).filter fun x => decide (x.c = chap h)).length = 0 := by
        rw [List.length_eq_zero_iff, List.filter_eq_nil_iff, List.all_eq_true]
        exact ⟨fun k a ha hb => (by have := k a ha; rw [hb] at this; cases this), fun k a ha => by simpa using k a ha⟩
      by_cases c : ((f :: fs).filter fun x => decide (x.c = chap h)).length = 0
      · rw [if_pos c, if_pos (q.mpr c)]
      · rw [if_neg c, if_neg (fun z => c (q.mp z))]
        split <;> rfl
def farC (l : Str) (cs : List (Nd × Addr)) : List (Nd × Addr) := cs.filter fun c => !decide (c.1.l = l)
theorem far_cs (l : Str) (cs : List (Nd × Addr)) : farOf l ((cs.map (·.1)).map rwN) = (farC l cs).map fun c => rwN c.1 := by
  unfold farOf farC
  rw [List.map_map, List.filter_map]
  rfl
theorem best_snoc : ∀ (l : List Row) (b x : Row), best (l ++ [x]) b = if (best l b).w < x.w then x else best l b
  | [], b, x => rfl
  | y :: l, b, x => best_snoc l _ x
theorem best_self (l : List Row) (b : Row) : best (b :: l) b = best l b := by
  show best l (if b.w < b.w then b else b) = _
  rw [if_neg (Int.lt_irrefl _)]
def letIn (rs : List Rw) (s : Int) (ns : List Nd) : Bool := ns.all fun n => !decide (rate rs n.h (certOf s n).l = none)
section
variable {P : Program} {w : World} {K : PySem.W.Frag} {mg : Str → Option Value} {base : Heap}
def spLOrig : Sp := fun vs H Q _ => ∃ (v : V) (n : Nd) (s : Int), vs = [v, .int s] ∧ NdAt All H n v ∧ n.ok ∧ n.d ≤ 2 ∧ 0 ≤ s ∧ s ≤ 100 ∧ ∀ H', Same H H' → Q (.str (certOf s n).l) H'
theorem ok_lorig {f : Addr} {fd : FuncData} {k : Nat} (F : Fun K "_law_origin" "_law_origin" sLOrig f fd) (B : Blt mg) : FnOk P w K mg base CX0 (k + 1) f fd ["node", "portion"] spLOrig := by
  refine F.ok scLOrig (fun vs H Q E h => ?_) (fun cdv A outer s H vs Q E hr h => ?_)
  · obtain ⟨v, n, s, rfl, _⟩ := h
    rfl
  · obtain ⟨v, n, pt, rfl, hN, hok, hd, p0, p1, q⟩ := h
    refine ⟨_, (pss_cons (ps_setLc (i := 3) (own := [("kid", 2)]) (g := gName 2) (by rfl) scLOrig.nd rfl rfl (sw_true rfl rfl rfl (by decide +kernel)) (pi_list (pe_ix ix_tup (pv 0) pe_int (fun _ _ => rfl))) (blkOk_by (N := NLOrig) (sc := defScope sLOrig) (by decide +kernel)) (fun _ _ _ _ _ => pg_name (i := 2) scLOrig.nd rfl (Or.inl rfl)) (fun _ _ _ _ _ => pts_one (pt_cmpR op_ne (pe_ix (r := rIxT K) ix_tup (pv 2) pe_int (fun _ _ => rfl)) (pe_ix (r := rIxT K) ix_tup (pv 0) pe_int (fun _ _ => rfl)) (nomark _))) (fun _ _ _ _ _ => pv 2))
      (pss_cons (ps_if (pt_cmpR op_eq (pe_callB call_len_seq (by rfl) B.len PySem.boot_len (pa_cons (pe_lc (own := [("kid", 2)]) (g := gName 2) (by rfl) scLOrig.nd (pi_list (pv 3)) (blkOk_by (N := NLOrig) (sc := defScope sLOrig) (by decide +kernel)) (fun _ _ _ _ _ => pg_name (i := 2) scLOrig.nd rfl (Or.inl rfl)) (fun _ _ _ _ _ => pts_one (pt_cmpR op_eq (pe_slice sl_str (pe_ix (r := rIxT K) ix_tup (pv 2) pe_int (fun _ _ => rfl)) po_none (po_some pe_int)) (pe_slice sl_str (pe_ix (r := rIxT K) ix_tup (pv 0) pe_int (fun _ _ => rfl)) po_none (po_some pe_int)) (nomark _))) (fun _ _ _ _ _ => pv 2)) pa_nil)) pe_int (nomark _))
        (pss_one (ps_ret (pe_ix ix_tup (pv 0) pe_int (fun _ _ => rfl))))
        pss_nil)
      (pss_cons (ps_if (pt_cmpR op_le (pe_op op_mul pe_int (pe_callB (cr_sum rfl) (by rfl) B.sum (by decide +kernel) (pa_cons (pe_lc (own := [("kid", 2)]) (g := gName 2) (by rfl) scLOrig.nd (pi_list (pv 3)) (blkOk_by (N := NLOrig) (sc := defScope sLOrig) (by decide +kernel)) (fun _ _ _ _ _ => pg_name (i := 2) scLOrig.nd rfl (Or.inl rfl)) (fun _ _ _ _ _ => pts_nil) (fun _ _ _ _ _ => pe_ix (r := rIxT K) ix_tup (pv 2) pe_int (fun _ _ => rfl))) pa_nil))) (pe_op op_mul (pv 1) (pe_ix ix_tup (pv 0) pe_int (fun _ _ => rfl))) (nomark _))
        (pss_one (ps_ret (pe_ix ix_tup (pv 0) pe_int (fun _ _ => rfl))))
        pss_nil)
      (pss_cons (ps_set (i := 4) scLOrig.nd rfl (.inl rfl) (pe_ix ix_list (pv 3) pe_int (fun _ _ => rfl)))
      (pss_cons (ps_for PassesOwn.never rfl (pi_list (pv 3)) (pg_name (i := 2) scLOrig.nd rfl (.inl rfl))
        (pss_one (ps_if (pt_cmpR op_gt (pe_ix ix_tup (pv 2) pe_int (fun _ _ => rfl)) (pe_ix ix_tup (pv 4) pe_int (fun _ _ => rfl)) (nomark _))
          (pss_one (ps_set (i := 4) scLOrig.nd rfl (.inl rfl) (pv 2)))
          pss_nil)))
      (pss_one (ps_ret (pe_ix ix_tup (pv 4) pe_int (fun _ _ => rfl))))))))), ?_⟩
    have hz : sizeLine = 16777216 := rfl
    rw [cert_l pt hd, ruled_l] at q
    obtain ⟨t, L, vs, rfl, _, ht, _, hL, hks⟩ := hN.ref
    obtain ⟨cs, ek, rfl, hcs⟩ := nds_cs hks
    rw [ek, far_cs] at q
    obtain ⟨nh, nw, nl, nks⟩ := n
    have q : ∀ H', Same H H' → Q (.str (if (((farC nl cs).map fun c => rwN c.1).filter fun x => decide (x.c = chap nh)).length = 0 then nl else if 100 * sumOf (((farC nl cs).map fun c => rwN c.1).map Row.w) ≤ pt * nw then nl else match (farC nl cs).map fun c => rwN c.1 with | [] => nl | f :: fs => (best fs f).l)) H' := q
    have l8 : cs.length ≤ 8 := by
      have := hok.2.2.2.2.1
      have e : nks = cs.map (·.1) := ek
      rw [e, List.length_map] at this; exact this
    have nok : ∀ c ∈ cs, c.1.h.length ≤ sizeLine := fun c hc => by
      have := Nd.oks_mem hok.2.2.2.2.2 c.1 (by have e : nks = cs.map (·.1) := ek
                                               rw [e]; exact List.mem_map.mpr ⟨c, hc, rfl⟩)
      obtain ⟨⟨h, _⟩, _⟩ := c
      have := this.1.2.1
      show h.length ≤ _
      rw [len_tl]; omega
    have nhl : nh.length ≤ sizeLine := by have := hok.1.2.1; rw [len_tl]; omega
    have nt : ∀ c ∈ cs, ∀ H2, Same H H2 → ∃ (t M : Addr), V.ref c.2 = .ref t ∧ H2 t = some (.tup [.str c.1.h, .int c.1.w, .str c.1.l, .ref M]) := fun c hc H2 S2 => by
      obtain ⟨t2, M, _, e, _, h2, _⟩ := (hcs c hc).ref
      exact ⟨t2, M, e, S2 _ _ h2⟩
    refine ⟨.ref t, rfl, t, _, 3, _, rfl, rfl, .of ht, rfl, L, rfl, ⟨_, sqOf hL⟩, fun D nD => lc_l (fun c => !decide (c.1.l = nl)) (fun c => V.ref c.2) hL nD (by omega) (fun _ => rfl) (fun c hc H2 S2 R hR => ?_) (fun c hc H2 S2 R hR => ⟨_, rfl, hR H2 (Same.refl _)⟩) (fun H1 S1 hD => ?_)⟩
    · obtain ⟨t2, M, e, h2⟩ := nt c hc H2 S2
      refine ⟨.ref c.2, rfl, t2, _, 2, _, e, rfl, .of h2, rfl, .ref t, rfl, t, _, 2, _, rfl, rfl, .of (S2 _ _ ht), rfl, rfl, _, rfl, ?_⟩
      rw [str_dec]
      exact hR H2 (Same.refl _)
    have mf : ∀ c ∈ farC nl cs, c ∈ cs := fun c hc => (List.mem_filter.mp hc).1
    have lf : (farC nl cs).length ≤ 1000 := Nat.le_trans (List.length_filter_le _ _) (by omega)
    change H1 D = some (.lst ((farC nl cs).map fun c => V.ref c.2)) at hD
    refine ⟨.ref D, rfl, D, rfl, ⟨_, sqOf hD⟩, fun D2 n2 => lc_l (fun c => decide (chap c.1.h = chap nh)) (fun c => V.ref c.2) hD n2 lf (fun _ => rfl) (fun c hc H2 S2 R hR => ?_) (fun c hc H2 S2 R hR => ⟨_, rfl, hR H2 (Same.refl _)⟩) (fun H2 S2 hD2 => ?_)⟩
    · obtain ⟨t2, M, e, h2⟩ := nt c (mf c hc) H2 (S1.trans S2)
      refine ⟨.ref c.2, rfl, t2, _, 0, _, e, rfl, .of h2, rfl, 2, rfl, c.1.h, rfl, nok c (mf c hc), .ref t, rfl, t, _, 0, _, rfl, rfl, .of (S2 _ _ (S1 _ _ ht)), rfl, 2, rfl, nh, rfl, nhl, rfl, _, rfl, ?_⟩
      rw [str_dec]
      exact hR H2 (Same.refl _)
    have e1 : ((((farC nl cs).map fun c => rwN c.1).filter fun x => decide (x.c = chap nh)).length : Nat) = ((farC nl cs).filter fun c => decide (chap c.1.h = chap nh)).length := by
      rw [List.filter_map, List.length_map]; rfl
    have S12 := S1.trans S2
    refine ⟨D2, _, rfl, .inl (sqOf hD2), rfl, _, rfl, ite2 (fun e => ?_) (fun e => ?_)⟩
    · have e : (((((farC nl cs).filter fun c => decide (chap c.1.h = chap nh)).map fun c => V.ref c.2).length : Nat) : Int) = 0 := V.int.inj (of_decide_eq_true e)
      rw [List.length_map, ← e1] at e
      refine ⟨.ref t, rfl, t, _, 2, _, rfl, rfl, .of (S12 _ _ ht), rfl, ?_⟩
      have := q H2 S12
      rw [if_pos (show _ = 0 by exact Int.ofNat.inj e)] at this
      exact this
    have ne : ¬ ((((farC nl cs).map fun c => rwN c.1).filter fun x => decide (x.c = chap nh)).length : Nat) = 0 := fun z => e (decide_eq_true (by
      rw [e1] at z
      rw [List.length_map, z]; rfl))
    rw [if_neg ne] at q
    have hD' := S2 _ _ hD
    refine ⟨.ref D, rfl, D, rfl, ⟨_, sqOf hD'⟩, fun D3 n3 => lc_l (fun _ => true) (fun c => .int c.1.w) hD' n3 lf (fun _ => rfl) (fun c hc H3 S3 R hR => hR H3 (Same.refl _)) (fun c hc H3 S3 R hR => ?_) (fun H3 S3 hD3 => ?_)⟩
    · obtain ⟨t2, M, e, h2⟩ := nt c (mf c hc) H3 (S12.trans S3)
      exact ⟨.ref c.2, rfl, t2, _, 1, _, e, rfl, .of h2, rfl, hR H3 (Same.refl _)⟩
    have es : sumOf (((farC nl cs).map fun c => rwN c.1).map Row.w) = ((farC nl cs).map fun c => c.1.w).sum := by
      rw [sumOf_eq, List.map_map]; rfl
    rw [es] at q
    have S13 := S12.trans S3
    refine ⟨D3, (farC nl cs).map (fun c => c.1.w), rfl, sqOf ?_, 100, _, rfl, rfl, .inl ⟨by decide, by decide⟩, ?_⟩
    · rw [hD3, filt_true, List.map_map]
      rfl
    refine ⟨.int pt, rfl, .ref t, rfl, t, _, 1, _, rfl, rfl, .of (S13 _ _ ht), rfl, pt, nw, rfl, rfl, .inl ⟨by omega, by omega⟩, _, _, rfl, rfl, _, rfl, ite2 (fun e => ?_) (fun e => ?_)⟩
    · refine ⟨.ref t, rfl, t, _, 2, _, rfl, rfl, .of (S13 _ _ ht), rfl, ?_⟩
      have := q H3 S13
      rw [if_pos (of_decide_eq_true e)] at this
      exact this
    rw [if_neg (fun z => e (decide_eq_true z))] at q
    have hD3' := S3 _ _ hD'
    obtain ⟨c0, fs, ef⟩ : ∃ c0 fs, farC nl cs = c0 :: fs := by
      cases h : farC nl cs with
      | nil => rw [h] at ne; exact absurd rfl ne
      | cons c fs => exact ⟨c, fs, rfl⟩
    rw [ef] at q hD3'
    have q : ∀ H', Same H H' → Q (.str (best (fs.map fun c => rwN c.1) (rwN c0.1)).l) H' := q
    have mf2 : ∀ c ∈ c0 :: fs, c ∈ cs := fun c hc => mf c (by rw [ef]; exact hc)
    refine ⟨.ref D, rfl, D, _, 0, .ref c0.2, rfl, rfl, sqOf hD3', atI_nat (j := 0) rfl, ?_⟩
    refine ⟨.ref D, rfl, D, rfl, ⟨_, sqOf hD3'⟩, ?_⟩
    refine for_it (walk_list (a := D) (xs := (c0 :: fs).map fun c => V.ref c.2)) (fun i σ H4 => H4 = H3 ∧ ∃ y b, σ = [some (.ref t), some (.int pt), y, some (.ref D), some (.ref b.2)] ∧ b ∈ c0 :: fs ∧ rwN b.1 = best (((c0 :: fs).take i).map fun c => rwN c.1) (rwN c0.1)) ⟨rfl, none, c0, rfl, List.mem_cons_self, rfl⟩ (fun i σ H4 _ hP => by rw [hP.1]; exact sqOf hD3') (fun i v σ H4 H5 hi hP hy => ?_) (fun σ H4 hP => ?_)
    · obtain ⟨rfl, y, b, rfl, mb, hb⟩ := hP
      obtain ⟨rfl, ev⟩ := hy
      rw [List.getElem?_map] at ev
      cases ec : (c0 :: fs)[i]? with
      | none => rw [ec] at ev; cases ev
      | some c =>
      rw [ec] at ev
      cases ev
      have mc := List.mem_of_getElem? ec
      have nxt : best (((c0 :: fs).take (i + 1)).map fun c => rwN c.1) (rwN c0.1) = if b.1.w < c.1.w then rwN c.1 else rwN b.1 := by
        rw [take_snoc ec, List.map_append, List.map_cons, List.map_nil, best_snoc, ← hb]
        rfl
      obtain ⟨t1, M1, x1, h1⟩ := nt c (mf2 c mc) H5 S13
      obtain ⟨t2, M2, x2, h2⟩ := nt b (mf2 b mb) H5 S13
      refine ⟨.ref c.2, rfl, t1, _, 1, _, x1, rfl, .of h1, rfl, .ref b.2, rfl, t2, _, 1, _, x2, rfl, .of h2, rfl, _, _, rfl, rfl, _, rfl, ite2 (fun e => ?_) (fun e => ?_)⟩
      · exact ⟨_, rfl, rfl, _, c, rfl, mc, by rw [nxt, if_pos (of_decide_eq_true e)]⟩
      · exact ⟨rfl, _, b, rfl, mb, by rw [nxt, if_neg (fun z => e (decide_eq_true z))]⟩
    · obtain ⟨rfl, y, b, rfl, mb, hb⟩ := hP
      rw [List.length_map, List.take_length, List.map_cons, best_self] at hb
      obtain ⟨t2, M2, x2, h2⟩ := nt b (mf2 b mb) H4 S13
      refine ⟨.ref b.2, rfl, t2, _, 2, _, x2, rfl, .of h2, rfl, ?_⟩
      have := q H4 S13
      rw [← hb] at this
      exact this
def spLetIn : Sp := fun vs H Q _ => ∃ (a L : Addr) (s : Int) (bs : List (Addr × Rw)) (ns : List Nd) (us : List V), vs = [.ref a, .int s, .ref L] ∧ LR H a bs ∧ Gd (bs.map (·.2)) ∧ bs.length ≤ 900 ∧ H L = some (.lst us) ∧ NdsAt All H ns us ∧ (∀ n ∈ ns, n.ok ∧ n.d ≤ 2) ∧ ns.length ≤ 1000 ∧ 0 ≤ s ∧ s ≤ 100 ∧ ∀ H', Same H H' → Q (.bl (letIn (bs.map (·.2)) s ns)) H'
abbrev CLRate (P : Program) (w : World) (K : PySem.W.Frag) (mg : Str → Option Value) (base : Heap) (g : Addr) (gd : FuncData) := C1 P w K mg base "_law_rate" sLRate ["rows", "heading", "land"] 1 spLRate g gd
abbrev CLOrig (P : Program) (w : World) (K : PySem.W.Frag) (mg : Str → Option Value) (base : Heap) (g : Addr) (gd : FuncData) := C1 P w K mg base "_law_origin" sLOrig ["node", "portion"] 1 spLOrig g gd
theorem ok_letin {f g1 g2 : Addr} {fd gd1 gd2 : FuncData} (F : Fun K "_law_let_in" "_law_let_in" sLetIn f fd) (cLRate : CLRate P w K mg base g1 gd1) (cLOrig : CLOrig P w K mg base g2 gd2) (B : Blt mg) : FnOk P w K mg base CX0 2 f fd ["rows", "portion", "nodes"] spLetIn := by
  refine F.ok scLetIn (fun vs H Q E h => ?_) (fun cdv A outer s H vs Q E hr h => ?_)
  · obtain ⟨a, L, s, bs, ns, us, rfl, _⟩ := h
    rfl
  · obtain ⟨a, L, pt, bs, ns, us, rfl, hR, g, ln, hL, hN, ok, l1, p0, p1, q⟩ := h
    refine ⟨_, (pss_one (ps_ret (pe_cmpR op_eq (pe_callB call_len_seq (by rfl) B.len PySem.boot_len (pa_cons (pe_lc (own := [("node", 3)]) (g := gName 3) (by rfl) scLetIn.nd (pi_list (pv 2)) (blkOk_by (N := NLetIn) (sc := defScope sLetIn) (by decide +kernel)) (fun _ _ _ _ _ => pg_name (i := 3) scLetIn.nd rfl (Or.inl rfl)) (fun _ _ _ _ _ => pts_one (pt_cmpR op_isN (pe_call cLRate.G (hr.mono (by first | decide | omega)) (by rfl) cLRate.D.g cLRate.D.F.kp cLRate.D.b .nil pass0 (pa_cons (pv 0) (pa_cons (pe_ix (r := rIxT K) ix_tup (pv 3) pe_int (fun _ _ => rfl)) (pa_cons (pe_call cLOrig.G (hr.mono (by first | decide | omega)) (by rfl) cLOrig.D.g cLOrig.D.F.kp cLOrig.D.b .nil pass0 (pa_cons (pv 3) (pa_cons (pv 1) pa_nil))) pa_nil)))) pe_non (nomark _))) (fun _ _ _ _ _ => pv 3)) pa_nil)) pe_int (nomark _)))), ?_⟩
    have hz : sizeLine = 16777216 := rfl
    obtain ⟨cs, ek, rfl, hcs⟩ := nds_cs hN
    have lc : cs.length ≤ 1000 := by rw [ek, List.length_map] at l1; exact l1
    refine ⟨.ref L, rfl, L, rfl, ⟨_, sqOf hL⟩, fun D nD => lc_l (fun c => decide (rate (bs.map (·.2)) c.1.h (certOf pt c.1).l = none)) (fun c => V.ref c.2) hL nD lc (fun _ => rfl) (fun c hc H2 S2 R hR2 => ?_) (fun c hc H2 S2 R hR => ⟨_, rfl, hR H2 (Same.refl _)⟩) (fun H2 S2 hD => ?_)⟩
    · obtain ⟨t2, M, _, e, _, h2, _⟩ := (hcs c hc).ref
      have okc := ok c.1 (by rw [ek]; exact List.mem_map.mpr ⟨c, hc, rfl⟩)
      have h2' := S2 _ _ h2
      have R2 := hR.same S2
      refine ⟨.ref a, rfl, .ref c.2, rfl, t2, _, 0, _, e, rfl, .of h2', rfl, .ref c.2, rfl, .int pt, rfl, .ref c.2, c.1, pt, rfl, (hcs c hc).kp (Same.kp S2), okc.1, okc.2, p0, p1, fun H3 S3 => ?_⟩
      refine ⟨a, c.1.h, (certOf pt c.1).l, bs, rfl, R2.same S3, ln, ?_, g, fun H4 S4 => ?_⟩
      · have := okc.1
        cases hh : c.1
        rw [hh] at this
        have := this.1.2.1
        show Str.length _ ≤ _
        rw [len_tl]
        exact Nat.le_trans this (by decide)
      · refine ⟨rfl, _, rfl, ?_⟩
        have e : decide (oI (rate (bs.map (·.2)) c.1.h (certOf pt c.1).l) = V.non) = decide (rate (bs.map (·.2)) c.1.h (certOf pt c.1).l = none) := by
          cases rate (bs.map (·.2)) c.1.h (certOf pt c.1).l with
          | none => rfl
          | some i => rfl
        rw [e]
        exact hR2 H4 (S3.trans S4)
    refine ⟨D, _, rfl, .inl (sqOf hD), rfl, ?_⟩
    have e : decide (V.int (((cs.filter fun c => decide (rate (bs.map (·.2)) c.1.h (certOf pt c.1).l = none)).map fun c => V.ref c.2).length : Int) = V.int 0) = letIn (bs.map (·.2)) pt ns := by
      rw [List.length_map, ek]
      unfold letIn
      rw [List.all_map, Bool.eq_iff_iff, decide_eq_true_eq, List.all_eq_true]
      constructor
      · intro h c hc
        have h : (((cs.filter fun c => decide (rate (bs.map (·.2)) c.1.h (certOf pt c.1).l = none)).length : Nat) : Int) = 0 := V.int.inj h
        have h := List.eq_nil_of_length_eq_zero (Int.ofNat.inj h)
        have := List.filter_eq_nil_iff.mp h c hc
        simpa using this
      · intro h
        rw [List.filter_eq_nil_iff.mpr fun c hc => by have := h c hc; simpa using this]
        rfl
    show Q (.bl _) H2
    rw [e]
    exact q H2 S2
end
end Tb
namespace Tb
open PySem PySem.Spec PyProof.Rows L2
abbrev sGInit : Stmt := inClass (topS 24) 0
abbrev NGInit : List Str := ["self", "heading", "worth", "land", "parts", "part"]
theorem scGInit : FnScope NGInit ["self", "heading", "worth", "land", "parts"] (defScope sGInit) := ⟨rfl, rfl, rfl, by decide +kernel, rfl, by decide +kernel, by decide +kernel⟩
/-- .. of a tuple of classes -/
def rIsXT (K : PySem.W.Frag) (D a : Addr) (cls : Value) (d : Option Addr) : List V → Hp → VK → Prop := fun xs H Q => cls = .ref D ∧ ∃ (tp : Addr) (cs : List V) (us : List Value) (b : Bool) (dd : Addr) (fs : List (Str × V)), xs = [.ref a, .ref tp] ∧ H tp = some (.tup cs) ∧ Paired ClsV cs us ∧ d = some dd ∧ H dd = some (.xd fs) ∧ PySem.W.kitAny K (.ref D) us = some b ∧ Q (.bl b) H
/-! ### making and calling where the errors that may come depend on the slots (in a try) -/
section
variable {X : Cx} {CX : CXT} {k : Nat} {f C : Addr} {fd : FuncData} {ps : List Str} {sp : Sp} {E : L2.St → XK} {x m : Str} {p pos apos : Pos} {e o : Expr} {es : List Expr} {ta : TE} {t : TA}
theorem run_makeS {pins : List (Addr × Obj)} {σ : L2.St} {H : Hp} {s : Shared} {Q : VK} {us : List Value} {vs : List V} (M : Mk X.K C f) (F : FnR X.prog X.w X.K X.mg X.base CX k f sp) (hr : Room (k + 1) X.A) (hx : PassesAt CX X σ (E σ)) (I : Inv X pins σ H s) (r : Vals vs us)
    (h : ∀ x dx, H x = Option.none → H dx = Option.none → dx ≠ x → sp (V.ref x :: vs) (L2.upd (L2.upd H dx (.own x)) x (.ins C dx [])) (fun v H2 => v = .non ∧ Q (.ref x) H2) (E σ)) :
    wpAny (model X.prog X.w) X.A (call (.ref C) us) (EP X pins σ Q) X.xe s := by
  have hq := h (s.heap.objs.size + 1) s.heap.objs.size (I.hok.fresh (Nat.le_succ _)) (I.hok.fresh (Nat.le_refl _)) (Nat.ne_of_lt (Nat.lt_succ_self _))
  have I2 := Inv.made (C := C) I
  have r2 : Vals (V.ref (s.heap.objs.size + 1) :: vs) (Value.ref (s.heap.objs.size + 1) :: us) := .cons rfl r
  refine wpAny_call (make_map (f := f) I.kIn M.makes M.init (beq_iff_eq.mp M.fn) (codeAny_mono (F _ X.stack _ _ (Value.ref (s.heap.objs.size + 1) :: us) _ _ (E σ) (hr.make C us []) (I2.env0.make C us []) r2 hq) fun r s' hq' => ?_))
  cases r with
  | error e => exact hx pins _ _ e s' I2 hq'
  | ok fl =>
    cases fl with
    | ret u =>
      obtain ⟨v, H', I3, rv, ev, q3⟩ := I2.after hq'
      subst ev
      exact ⟨rv, ⟨V.ref (s.heap.objs.size + 1), H', I3, rfl, q3⟩⟩
    | next => exact False.elim hq'
    | brk => exact False.elim hq'
    | cont => exact False.elim hq'
def tMakeS (C : Addr) (sp : Sp) (E : L2.St → XK) (t : TA) : TE := fun σ H Q => t σ H fun vs H1 => ∀ x dx, H1 x = Option.none → H1 dx = Option.none → dx ≠ x →
  sp (V.ref x :: vs) (L2.upd (L2.upd H1 dx (.own x)) x (.ins C dx [])) (fun v H2 => v = .non ∧ Q (.ref x) H2) (E σ)
theorem pe_makeS (M : Mk X.K C f) (F : FnR X.prog X.w X.K X.mg X.base CX k f sp) (hr : Room (k + 1) X.A) (hg : Gl X x) (hm : X.mg x = some (.ref C)) (hx : ∀ σ, PassesAt CX X σ (E σ)) (ha : PA X (e :: es) t) (hdb : (x == ("__debug__" : Str)) = false := by decide)
    (he : starEach (e :: es) X.env = (false, eval e X.env) :: starEach es X.env := by rfl) (hpl : (backTo pos (starEach es X.env)).any (·.1) = false := by rfl) : PE X (.Call (.Name x p) (e :: es) [] pos) (tMakeS C sp E t) := by
  refine ⟨fun pins s σ H Q I h => ?_⟩
  refine wpAny_Call_Name_kw (ld_glob I hg hm ?_ hdb)
  refine PySem.W.callWith_K (h₀ := X.base) I.ok.mod.kin M.kp (thn (ha.run pos pins s σ H _ I h) fun us s1 ⟨vs, H1, I1, r, q⟩ => ⟨I1.kIn, ?_⟩) he hpl
  exact run_makeS M F hr (hx σ) I1 r q
/-- the same with keywords -/
def tMakeKS (C : Addr) (n m : Nat) (sp : Sp) (gV : List V → List V → List V) (E : L2.St → XK) (t tk : TA) : TE := fun σ H Q => t σ H fun vs H1 => tk σ H1 fun zs H2 => vs.length = n ∧ zs.length = m ∧ ∀ x dx, H2 x = Option.none → H2 dx = Option.none → dx ≠ x →
  sp (gV (.ref x :: vs) zs) (L2.upd (L2.upd H2 dx (.own x)) x (.ins C dx [])) (fun v H3 => v = .non ∧ Q (.ref x) H3) (E σ)
theorem run_makeKS {n : Nat} {ks : List Str} {g : List Value → List Value → List Value} {gV : List V → List V → List V} {pins : List (Addr × Obj)} {σ : L2.St} {H : Hp} {s : Shared} {Q : VK} {us ws : List Value} {vs zs : List V} (M : Mk X.K C f) (F : FnOk X.prog X.w X.K X.mg X.base CX k f fd ps sp) (hr : Room (k + 1) X.A) (hb : KBn X.K fd ps (n + 1) ks g gV) (hx : PassesAt CX X σ (E σ))
    (I : Inv X pins σ H s) (r : Vals vs us) (rz : Vals zs ws) (l1 : vs.length = n) (l2 : zs.length = ks.length)
    (h : ∀ x dx, H x = Option.none → H dx = Option.none → dx ≠ x → sp (gV (V.ref x :: vs) zs) (L2.upd (L2.upd H dx (.own x)) x (.ins C dx [])) (fun v H2 => v = .non ∧ Q (.ref x) H2) (E σ)) :
    wpAny (model X.prog X.w) X.A (call (.ref C) us (ks.zip ws)) (EP X pins σ Q) X.xe s := by
  have hq := h (s.heap.objs.size + 1) s.heap.objs.size (I.hok.fresh (Nat.le_succ _)) (I.hok.fresh (Nat.le_refl _)) (Nat.ne_of_lt (Nat.lt_succ_self _))
  have I2 := Inv.made (C := C) I
  have r1 : Vals (V.ref (s.heap.objs.size + 1) :: vs) (Value.ref (s.heap.objs.size + 1) :: us) := .cons rfl r
  have n1 : (Value.ref (s.heap.objs.size + 1) :: us).length = n + 1 := by rw [List.length_cons, ← r.length, l1]
  refine wpAny_call (make_map (f := f) I.kIn M.makes M.init (beq_iff_eq.mp M.fn) (codeAny_mono (F.run _ X.stack _ _ ⟨Value.ref (s.heap.objs.size + 1) :: us, ks.zip ws⟩ (g (Value.ref (s.heap.objs.size + 1) :: us) ws) _ _ (E σ) (hr.make C us (ks.zip ws))
    (I2.env0.make C us (ks.zip ws)) (hb.to _ (Value.ref (s.heap.objs.size + 1) :: us) ws I2.kIn n1 (rz.length.symm.trans l2)) (hb.rel r1 rz) hq) fun r s' hq' => ?_))
  cases r with
  | error e => exact hx pins _ _ e s' I2 hq'
  | ok fl =>
    cases fl with
    | ret u =>
      obtain ⟨v, H', I3, rv, ev, q3⟩ := I2.after hq'
      subst ev
      exact ⟨rv, ⟨V.ref (s.heap.objs.size + 1), H', I3, rfl, q3⟩⟩
    | next => exact False.elim hq'
    | brk => exact False.elim hq'
    | cont => exact False.elim hq'
theorem pe_makeKS {n : Nat} {ks : List Str} {kws : List Keyword} {tk : TA} {g : List Value → List Value → List Value} {gV : List V → List V → List V} (M : Mk X.K C f) (F : FnOk X.prog X.w X.K X.mg X.base CX k f fd ps sp) (hr : Room (k + 1) X.A) (hg : Gl X x) (hm : X.mg x = some (.ref C)) (hb : KBn X.K fd ps (n + 1) ks g gV) (hx : ∀ σ, PassesAt CX X σ (E σ)) (ha : PA X (e :: es) t) (hkw : PK X kws tk)
    (hall : (backToKw pos (keywordEach kws X.env)).all (·.1.isSome) = true := by rfl) (hks : (backToKw pos (keywordEach kws X.env)).filterMap (·.1) = ks := by rfl) (hdb : (x == ("__debug__" : Str)) = false := by decide)
    (he : starEach (e :: es) X.env = (false, eval e X.env) :: starEach es X.env := by rfl) (hpl : ((backTo pos (starEach (e :: es) X.env)).any (·.1) || (backToKw pos (keywordEach kws X.env)).any (·.1.isNone)) = false := by rfl) :
    PE X (.Call (.Name x p) (e :: es) kws pos) (tMakeKS C n ks.length sp gV E t tk) := by
  refine ⟨fun pins s σ H Q I h => ?_⟩
  refine wpAny_Call_Name_kw (ld_glob I hg hm ?_ hdb)
  refine PySem.W.callWith_KW (h₀ := X.base) I.ok.mod.kin M.kp hall (thn (ha.run pos pins s σ H _ I h) fun us s1 ⟨vs, H1, I1, r, q⟩ => ?_) hpl he
  refine thn (hkw.run pos pins s1 σ H1 _ I1 q) fun ws s2 ⟨zs, H2, I2, rz, l1, l2, q2⟩ => ⟨I2.kIn, ?_⟩
  rw [hks]
  exact run_makeKS M F hr hb (hx σ) I2 r rz l1 l2 q2
end
section
variable {X : Cx} {a D : Addr} {oe : Obj} {pn : List (Addr × Obj)} {d : Option Addr} {cls : Value}
theorem call_isXT {fI : Addr} {n : Str} (T : ErrC X.K D fI n) (hz : Zc cls d oe) (hf : ∃ vs, oe.data = .fields vs) : CallR (X.suite a ((a, oe) :: pn)) (.builtin "isinstance") (rIsXT X.K D a cls d) := by
  intro pins s σ H xs us Q I r h
  obtain ⟨rfl, tp, cs, ws, b, dd, fs, rfl, hT, hk, rfl, hdd, e, q⟩ := h
  obtain ⟨u1, u2, rfl, r1, r2⟩ := vals2 r
  cases (show u1 = Value.ref a from r1)
  cases (show u2 = Value.ref tp from r2)
  obtain ⟨od, J⟩ := inst_at hz hf I hdd
  obtain ⟨_, its, rv, o, h1, h2, n', h3⟩ := (show ObjOk X.prog X.w H s.heap tp (.tup cs) from I.hok tp _ hT)
  have e3 := ClsV.all hk rv
  subst e3
  obtain ⟨oc, od', dt, sl⟩ := o
  simp only at h2 h3
  subst h2 h3
  exact PySem.W.kia_tup (PySem.W.kitx_exc T.cl T.xf.ga T.xf.gg T.xf.exC T.ha T.hn T.tk T.hm) I.kIn J h1 e (fun z => nomatch z) fun tk => ⟨.bl b, H, I.tok tk, rfl, q⟩
end
theorem passE0 {X : Cx} {σ : L2.St} : PassesAt (L2.CX X.prog X.w) X σ E0 := fun _ _ _ _ _ _ c => by
  obtain ⟨_, _, _, _, _, _, _, _, _, _, _, _, h⟩ := c
  exact h.elim
/-- a def of the text that may raise, and what it promises -/
structure C1X (P : Program) (w : World) (K : PySem.W.Frag) (mg : Str → Option Value) (base : Heap) (x : Str) (st : Stmt) (ps : List Str) (l : Nat) (sp : Sp) (g : Addr) (gd : FuncData) : Prop where
  D : Dd K mg x st ps g gd
  G : FnOk P w K mg base (L2.CX P w) l g gd ps sp
abbrev wGood : Str := ("good" : String)
abbrev wTariff : Str := ("tariff" : String)
abbrev wParcel : Str := ("parcel" : String)
def okG (h : Str) (w : Int) (l : Str) (ks : List Nd) : Prop := isAddr h = true ∧ 0 ≤ w ∧ isName l = true ∧ sumOf (ks.map Nd.w) ≤ w
section
variable {P : Program} {w : World} {K : PySem.W.Frag} {mg : Str → Option Value} {base : Heap} {C pw fw : Addr} {gdw : FuncData}
/-- Good.__init__: a good, or the error -/
def spGoodX (K : PySem.W.Frag) (C CI : Addr) : Sp := fun vs H Q E => ∃ (x dx p : Addr) (h l : Str) (w : Int) (ks : List Nd) (us : List V), vs = [.ref x, .str h, .int w, .str l, .ref p] ∧ H x = some (.ins C dx []) ∧ h.length ≤ 1000 ∧ l.length ≤ 1000 ∧ ks.length ≤ 900 ∧ (SqL K H p us ∨ SqT K H p us) ∧ GdsAt K C H ks us ∧
  (okG h w l ks → ∀ H', Bx x H H' → GdAt K C H' (.mk h w l ks) (.ref x) → Q .non H') ∧
  (¬ okG h w l ks → ∀ e H', Bx x H H' → H' e = some (.xd [(wWhat, .str wGood)]) → E (.ref CI) (some e) H')
theorem bx_same {x : Addr} {H H1 H2 : Hp} (b : Bx x H H1) (S : Same H1 H2) : Bx x H H2 := fun c o h n => S c o (b c o h n)
theorem ok_goodInitX {f g g2 CI gI : Addr} {fd gd gd2 gdI : FuncData} {dvs : List V} (F : FunDf K "__init__" "Good.__init__" sGInit dvs f fd) (T : GCls K C pw fw gdw) (cIsAddr : CIsAddr P w K mg base g gd) (cIsName : CIsName P w K mg base g2 gd2) (R : EInv K mg CI gI gdI) (B : Blt mg) : FnOk P w K mg base (L2.CX P w) 5 f fd ["self", "heading", "worth", "land", "parts"] (spGoodX K C CI) := by
  have GI : FnOk P w K mg base CX0 1 gI gdI ["self", "what"] (spErr K wWhat) := ok_inv R.M.F
  refine F.ok scGInit (fun vs H Q E h => ?_) (fun cdv A outer s H vs Q E hr h => ?_)
  · obtain ⟨x, dx, p, h, l, w, ks, us, rfl, _⟩ := h
    rfl
  · obtain ⟨x, dx, p, nh, nl, nw, nks, us, rfl, hx, lh, ll, lk, hp, hks, qG, qB⟩ := h
    have hr2 : Room 2 _ := hr.mono (show 2 ≤ 4 by decide)
    refine ⟨_, (pss_cons (ps_fld (pv 0) (pv 1) rfl)
      (pss_cons (ps_fld (pv 0) (pv 3) rfl)
      (pss_cons (ps_fld (pv 0) (pe_callTy call_tuple_of (by rfl) B.tuple PyProof.Rows.boot_tuple (pa_cons (pv 4) pa_nil)) rfl)
      (pss_cons (ps_fld (pv 0) (pe_slice sl_str (pv 1) po_none (po_some pe_int)) rfl)
      (pss_cons (ps_fld (pv 0) (pv 2) rfl)
      (pss_cons (ps_if (PW.pt (pw_or (pt_not (pt_val (pe_call cIsAddr.G (hr.mono (by first | decide | omega)) (by rfl) cIsAddr.D.g cIsAddr.D.F.kp cIsAddr.D.b .nil pass0 (pa_cons (pv 1) pa_nil)))) (pw_or (pt_cmpR op_lt (pv 2) pe_int (nomark _)) (pw_or1 (pt_not (pt_val (pe_call cIsName.G (hr.mono (by first | decide | omega)) (by rfl) cIsName.D.g cIsName.D.F.kp cIsName.D.b .nil pass0 (pa_cons (pv 3) pa_nil))))))))
        (pss_one (ps_raise rfl (takes_of rfl rfl rfl rfl) (pmk_oex R.T.ox R.T.iC R.T.tI GI hr2 R.M.b .nil pass0 (by rfl) R.g (pa_cons pe_str pa_nil))))
        pss_nil)
      (pss_one (ps_if (pt_cmpR op_gt (pe_callB (cr_sum rfl) (by rfl) B.sum (by decide +kernel) (pa_cons (pe_lc (own := [("part", 5)]) (g := gName 5) (by rfl) scGInit.nd (pi_tup (pe_fld (pv 0) rfl)) (blkOk_by (N := NGInit) (sc := defScope sGInit) (by decide +kernel)) (fun _ _ _ _ _ => pg_name (i := 5) scGInit.nd rfl (Or.inl rfl)) (fun _ _ _ _ _ => pts_nil) (fun _ _ _ _ _ => pe_prop (pv 5) T.c T.pw T.Gw (hr.mono (by first | decide | omega)) T.bw .nil pass0 rfl)) pa_nil)) (pv 2) (nomark _))
        (pss_one (ps_raise rfl (takes_of rfl rfl rfl rfl) (pmk_oex R.T.ox R.T.iC R.T.tI GI hr2 R.M.b .nil pass0 (by rfl) R.g (pa_cons pe_str pa_nil))))
        pss_nil)))))))), ?_⟩
    have hz : sizeLine = 16777216 := rfl
    refine ⟨.str nh, rfl, .ref x, rfl, x, C, dx, _, rfl, hx, T.c, T.nh, by decide, ?_⟩
    refine ⟨.str nl, rfl, .ref x, rfl, x, C, dx, _, rfl, upd_same, T.c, T.nl, ?_, ?_⟩
    · exact (by decide : 1 < 1000)
    generalize hH2 : upd (upd H x _) x _ = H2
    have b2 : Bx x H H2 := by
      rw [← hH2]
      exact (Bx.upd (fun _ _ h _ => h)).upd
    have hx2 : H2 x = some (.ins C dx [("heading", .str nh), ("land", .str nl)]) := by
      rw [← hH2]
      exact upd_same
    refine ⟨.ref p, rfl, p, us, rfl, ?_⟩
    rcases hp with hp | hp
    refine .inl ⟨b2.sqL hx hp, fun Tp nT => ?_⟩
    have b3 := b2.new (o := .tup us) nT
    have hx3 := same_upd (o := .tup us) nT _ _ hx2
    have hT : SqT K (upd H2 Tp (.tup us)) Tp us := .inl (.inl upd_same)
    revert b3 hx3 hT
    generalize upd H2 Tp _ = H3
    intro b3 hx3 hT
    rotate_left
    refine .inr ⟨(b2.kd (C := C) hx).t _ _ hp, ?_⟩
    have b3 := b2
    have hx3 := hx2
    have hT := (b2.kd (C := C) hx).t _ _ hp
    revert b3 hx3 hT
    generalize H2 = H3
    intro b3 hx3 hT
    all_goals
      refine ⟨.ref x, rfl, x, C, dx, _, rfl, hx3, T.c, T.np, ?_, ?_⟩
      · exact (by decide : 2 < 1000)
      refine ⟨.str nh, rfl, 2, rfl, nh, rfl, by omega, .ref x, rfl, x, C, dx, _, rfl, upd_same, T.c, T.nc, ?_, ?_⟩
      · exact (by decide : 3 < 1000)
      refine ⟨.int nw, rfl, .ref x, rfl, x, C, dx, _, rfl, upd_same, T.c, T.nw, ?_, ?_⟩
      · exact (by decide : 4 < 1000)
      generalize hH4 : upd (upd (upd H3 x _) x _) x _ = H4
      have b4 : Bx x H H4 := by
        rw [← hH4]
        exact ((b3.upd).upd).upd
      have hT4 : ∃ Tp, SqT K H4 Tp us ∧ H4 x = some (.ins C dx (goodF nh nl nw Tp)) := by
        rw [← hH4]
        exact ⟨_, sqT_ins upd_same (sqT_ins upd_same (sqT_ins hx3 hT)), upd_same⟩
      clear hT hx3 b3 hH4 hH2 hx2 b2 hp
      obtain ⟨Tp, hT4, hx4⟩ := hT4
      have hks4 : GdsAt K C H4 nks us := GdsAt.go (b4.kd hx) hks
      refine ⟨.str nh, rfl, nh, rfl, by omega, fun H5 S5 => ⟨_, rfl, ?_⟩⟩
      cases hA : isAddr nh with
      | false => exact ite2 (fun _ => ite2 (fun _ => ⟨by decide, err_made R.T (Q := E) fun e2 H9 S9 hd9 => qB (fun g => by rw [g.1] at hA; cases hA) e2 H9 (bx_same b4 (S5.trans S9)) hd9⟩) (fun z => absurd rfl z)) (fun z => absurd rfl z)
      | true =>
      refine ⟨.int nw, rfl, nw, 0, rfl, rfl, _, rfl, ?_⟩
      by_cases hw : nw < 0
      · rw [decide_eq_true hw]
        exact ite2 (fun _ => ite2 (fun _ => ⟨by decide, err_made R.T (Q := E) fun e2 H9 S9 hd9 => qB (fun g => by have := g.2.1; omega) e2 H9 (bx_same b4 (S5.trans S9)) hd9⟩) (fun z => absurd rfl z)) (fun z => absurd rfl z)
      rw [decide_eq_false hw]
      refine ⟨.str nl, rfl, nl, rfl, by omega, fun H6 S6 => ⟨_, rfl, ?_⟩⟩
      have S46 : Same H4 H6 := Same.trans S5 S6
      cases hN : isName nl with
      | false => exact ite2 (fun _ => ⟨by decide, err_made R.T (Q := E) fun e2 H9 S9 hd9 => qB (fun g => by rw [g.2.2.1] at hN; cases hN) e2 H9 (bx_same b4 (S46.trans S9)) hd9⟩) (fun z => absurd rfl z)
      | true =>
      have hks6 : GdsAt K C H6 nks us := hks4.kg (Same.kg S46)
      refine ⟨.ref x, rfl, x, C, dx, _, .ref Tp, rfl, S46 _ _ hx4, T.c, T.np, fld_nd.2.2.1, Tp, rfl, ⟨us, SqT.kg hT4 (Same.kg S46)⟩, fun D nD => lc_it (walk_tup (K := K) (a := Tp) (xs := us)) (fun i H7 => Same H6 H7 ∧ H7 D = some (.lst (((nks.take i).map Nd.w).map V.int))) ⟨same_upd nD, upd_same⟩ (fun i H7 _ hP => SqT.kg hT4 (Same.kg (Same.trans S46 hP.1))) (fun i v H7 H8 hi hP hy => ?_) (fun H7 hP => ?_)⟩
      · obtain ⟨S7, hD⟩ := hP
        obtain ⟨rfl, ev⟩ := hy
        obtain ⟨k, ek, gk⟩ := (hks6.kg (Same.kg S7)).at ev
        obtain ⟨a, d2, T2, vs2, rfl, ha, _, _⟩ := gk.ref
        refine ⟨rfl, _, rfl, a, d2, _, rfl, ha, a, d2, _, _, rfl, ha, fld_nd.2.2.2.2, _, hD, ?_, ?_, ?_⟩
        · rw [List.length_map, List.length_map, List.length_take]
          omega
        · intro b o hb
          rw [upd_ne (ne_of_none hb nD)]
          exact S7 _ _ hb
        · rw [upd_same, List.take_add_one, ek, List.map_append, List.map_append]
          rfl
      · obtain ⟨S7, hD⟩ := hP
        rw [hks6.len, List.take_length] at hD
        refine ⟨D, nks.map Nd.w, rfl, sqOf hD, .int nw, rfl, _, _, rfl, rfl, _, rfl, ?_⟩
        rw [sumOf_sum]
        have S47 := S46.trans S7
        by_cases hs : nw < sumOf (nks.map Nd.w)
        · rw [decide_eq_true hs]
          exact ite2 (fun _ => ⟨by decide, err_made R.T (Q := E) fun e2 H9 S9 hd9 => qB (fun g => by have := g.2.2.2; omega) e2 H9 (bx_same b4 (S47.trans S9)) hd9⟩) (fun z => absurd rfl z)
        · rw [decide_eq_false hs]
          exact qG ⟨hA, by omega, hN, by omega⟩ H7 (bx_same b4 S47) ⟨x, dx, Tp, us, rfl, S47 _ _ hx4, SqT.kg hT4 (Same.kg S47), hks6.kg (Same.kg S7)⟩
end
end Tb
namespace Tb
open PySem PySem.Spec PyProof.Rows L2
abbrev sLIs : Stmt := topS 51
abbrev NLIs : List Str := ["told", "due"]
theorem scLIs : FnScope NLIs ["told", "due"] (defScope sLIs) := ⟨rfl, rfl, rfl, by decide +kernel, rfl, by decide +kernel, by decide +kernel⟩
abbrev sGoodIs : Stmt := topS 52
abbrev NGoodIs : List Str := ["good", "node", "k"]
theorem scGoodIs : FnScope NGoodIs ["good", "node"] (defScope sGoodIs) := ⟨rfl, rfl, rfl, by decide +kernel, rfl, by decide +kernel, by decide +kernel⟩
abbrev sLMade : Stmt := topS 53
abbrev NLMade : List Str := ["node", "stranger", "parts", "good", "kid"]
theorem scLMade : FnScope NLMade ["node", "stranger"] (defScope sLMade) := ⟨rfl, rfl, rfl, by decide +kernel, rfl, by decide +kernel, by decide +kernel⟩
section
variable {P : Program} {w : World} {K : PySem.W.Frag} {mg : Str → Option Value} {base : Heap} {C pw fw CI fI t0 : Addr} {gdw gdI : FuncData} {ds0 : List Value}
abbrev psGood : List Str := ["self", "heading", "worth", "land", "parts"]
/-- the class Good, to be called -/
structure GoodX (P : Program) (w : World) (K : PySem.W.Frag) (mg : Str → Option Value) (base : Heap) (C CI fI t0 : Addr) (gdI : FuncData) (ds0 : List Value) : Prop where
  MK : Mk K C fI
  G : FnOk P w K mg base (L2.CX P w) 5 fI gdI psGood (spGoodX K C CI)
  g : mg "Good" = some (.ref C)
  b : Binds K gdI psGood []
  e0 : ∀ H, SqT K H t0 []
  vd : Vals [.ref t0] ds0
  bd : Binds K gdI psGood ds0
theorem GoodX.R4 (T : GoodX P w K mg base C CI fI t0 gdI ds0) : FnR P w K mg base (L2.CX P w) 5 fI (spGoodX K C CI) := (T.G.raw T.b .nil).imp fun vs H Q E h => by rw [List.append_nil]; exact h
theorem GoodX.R3 (T : GoodX P w K mg base C CI fI t0 gdI ds0) : FnR P w K mg base (L2.CX P w) 5 fI (fun vs H Q E => spGoodX K C CI (vs ++ [.ref t0]) H Q E) := (T.G.raw T.bd T.vd).imp fun vs H Q E h => h
theorem ix0 {n : Nat} (h : 0 < n) : ixN n 0 = some 0 := by
  unfold ixN
  rw [if_pos (by decide), if_pos (by omega)]; rfl
theorem sqT_ty {K : PySem.W.Frag} {H : Hp} {a : Addr} {xs : List V} (h : SqT K H a xs) : TyX K H (.ref a) (.type "tuple") := by
  rcases h with (h | ⟨o, h⟩) | ⟨o, its, n, h, c, _⟩
  · exact .base (.tup h)
  · exact .fTuple h
  · exact .kTuple h c
def Smp (v : V) : Prop := v = .non ∨ (∃ z, v = .str z) ∨ ∃ i, v = .int i
def spIs : Sp := fun vs H Q _ => ∃ v, vs = [v, v] ∧ Smp v ∧ Q (.bl true) H
theorem ok_lis {f : Addr} {fd : FuncData} {k : Nat} (F : Fun K "_law_is" "_law_is" sLIs f fd) (B : Blt mg) : FnOk P w K mg base CX0 (k + 1) f fd ["told", "due"] spIs := by
  refine F.ok scLIs (fun vs H Q E h => ?_) (fun cdv A outer s H vs Q E hr h => ?_)
  · obtain ⟨v, rfl, _⟩ := h
    rfl
  · obtain ⟨v, rfl, hv, q⟩ := h
    refine ⟨_, (pss_cons (ps_if (pt_cmpR op_isN (pv 1) pe_non (nomark _))
        (pss_one (ps_ret (pe_cmpR op_isN (pv 0) pe_non (nomark _))))
        pss_nil)
      (pss_cons (ps_if (pt_val (pe_callB call_isi (by rfl) B.isi (by decide +kernel) (pa_cons (pv 1) (pa_cons (pe_bltn (by rfl) B.str PyProof.Rows.boot_str (v := .ty "str") (u := .type "str") rfl) pa_nil))))
        (pss_one (ps_ret (pe_and (pe_callB call_isi (by rfl) B.isi (by decide +kernel) (pa_cons (pv 0) (pa_cons (pe_bltn (by rfl) B.str PyProof.Rows.boot_str (v := .ty "str") (u := .type "str") rfl) pa_nil))) (pe_one (pe_cmpR op_eq (pv 0) (pv 1) (nomark _))))))
        pss_nil)
      (pss_one (ps_ret (pe_and (pe_callB call_isi (by rfl) B.isi (by decide +kernel) (pa_cons (pv 0) (pa_cons (pe_bltn (by rfl) B.int PyProof.Rows.boot_int (v := .ty "int") (u := .type "int") rfl) pa_nil))) (pe_and (pe_not (pe_callB call_isi (by rfl) B.isi (by decide +kernel) (pa_cons (pv 0) (pa_cons (pe_bltn (by rfl) B.bool (by decide +kernel) (v := .ty "bool") (u := .type "bool") rfl) pa_nil)))) (pe_one (pe_cmpR op_eq (pv 0) (pv 1) (nomark _))))))))), ?_⟩
    rcases hv with rfl | ⟨z, rfl⟩ | ⟨i, rfl⟩
    · exact ⟨.non, rfl, rfl, _, rfl, ite2 (fun _ => ⟨.non, rfl, rfl, q⟩) (fun e => absurd rfl e)⟩
    · refine ⟨.str z, rfl, rfl, _, rfl, ite2 (fun e => by cases e) (fun _ => ?_)⟩
      refine ⟨.str z, rfl, .str z, .ty "str", .type "str", .type "str", true, rfl, .ty _, .base (.str _), kit_ty (by decide +kernel), true, rfl, ite2 (fun _ => ?_) (fun e => absurd rfl e)⟩
      refine ⟨.str z, rfl, .str z, .ty "str", .type "str", .type "str", true, rfl, .ty _, .base (.str _), kit_ty (by decide +kernel), true, rfl, ?_⟩
      refine ⟨.str z, rfl, .str z, rfl, rfl, ?_⟩
      rw [decide_eq_true rfl]
      exact q
    · refine ⟨.int i, rfl, rfl, _, rfl, ite2 (fun e => by cases e) (fun _ => ?_)⟩
      refine ⟨.int i, rfl, .int i, .ty "str", .type "int", .type "str", false, rfl, .ty _, .base (.int _), kit_ty (by decide +kernel), false, rfl, ite2 (fun e => by cases e) (fun _ => ?_)⟩
      refine ⟨.int i, rfl, .int i, .ty "int", .type "int", .type "int", true, rfl, .ty _, .base (.int _), kit_ty (by decide +kernel), true, rfl, ?_⟩
      refine ⟨.int i, rfl, .int i, .ty "bool", .type "int", .type "bool", false, rfl, .ty _, .base (.int _), kit_ty (by decide +kernel), false, rfl, ?_⟩
      refine ⟨_, rfl, ?_⟩
      refine ⟨.int i, rfl, .int i, rfl, rfl, ?_⟩
      rw [decide_eq_true rfl]
      exact q
abbrev CLIs (P : Program) (w : World) (K : PySem.W.Frag) (mg : Str → Option Value) (base : Heap) (g : Addr) (gd : FuncData) := C1 P w K mg base "_law_is" sLIs ["told", "due"] 1 spIs g gd
def spGoodIs (K : PySem.W.Frag) (C : Addr) (d : Nat) : Sp := fun vs H Q _ => ∃ (gv nv : V) (n : Nd), vs = [gv, nv] ∧ GdAt K C H n gv ∧ NdAt All H n nv ∧ n.ok ∧ n.d ≤ d ∧ Q (.bl true) H
theorem ok_goodis {f g : Addr} {fd gd : FuncData} (D0 : Dd K mg "_law_good_is" sGoodIs ["good", "node"] f fd) (cLIs : CLIs P w K mg base g gd) (T : GCls K C pw fw gdw) (B : Blt mg) : ∀ d, FnOk P w K mg base CX0 (2 + d) f fd ["good", "node"] (spGoodIs K C d)
  | 0 => by
    refine D0.F.ok scGoodIs (fun vs H Q E h => ?_) (fun cdv A outer s H vs Q E hr h => ?_)
    · obtain ⟨gv, nv, n, rfl, _⟩ := h
      rfl
    · obtain ⟨gv, nv, n, rfl, _, _, _, hd, _⟩ := h
      rw [Nd.d_eq] at hd
      exact absurd hd (by omega)
  | d + 1 => by
    have cGoodIs : C1 P w K mg base "_law_good_is" sGoodIs ["good", "node"] (2 + d) (spGoodIs K C d) f fd := ⟨D0, ok_goodis D0 cLIs T B d⟩
    refine D0.F.ok scGoodIs (fun vs H Q E h => ?_) (fun cdv A outer s H vs Q E hr h => ?_)
    · obtain ⟨gv, nv, n, rfl, _⟩ := h
      rfl
    · obtain ⟨gv, nv, n, rfl, hg, hn, hok, hd, q⟩ := h
      have hr : Room (2 + d) _ := hr
      refine ⟨_, (pss_cons (ps_if (PW.pt (pw_or (pt_not (pt_val (pe_call cLIs.G (hr.mono (by first | decide | omega)) (by rfl) cLIs.D.g cLIs.D.F.kp cLIs.D.b .nil pass0 (pa_cons (pe_fld (pv 0) rfl) (pa_cons (pe_ix ix_tup (pv 1) pe_int (fun _ _ => rfl)) pa_nil))))) (pw_or1 (pt_not (pt_val (pe_call cLIs.G (hr.mono (by first | decide | omega)) (by rfl) cLIs.D.g cLIs.D.F.kp cLIs.D.b .nil pass0 (pa_cons (pe_fld (pv 0) rfl) (pa_cons (pe_slice sl_str (pe_ix ix_tup (pv 1) pe_int (fun _ _ => rfl)) po_none (po_some pe_int)) pa_nil))))))))
        (pss_one (ps_ret pe_bl))
        pss_nil)
      (pss_cons (ps_if (PW.pt (pw_or (pt_not (pt_val (pe_call cLIs.G (hr.mono (by first | decide | omega)) (by rfl) cLIs.D.g cLIs.D.F.kp cLIs.D.b .nil pass0 (pa_cons (pe_prop (pv 0) T.c T.pw T.Gw (hr.mono (by first | decide | omega)) T.bw .nil pass0 rfl) (pa_cons (pe_ix ix_tup (pv 1) pe_int (fun _ _ => rfl)) pa_nil))))) (pw_or1 (pt_not (pt_val (pe_call cLIs.G (hr.mono (by first | decide | omega)) (by rfl) cLIs.D.g cLIs.D.F.kp cLIs.D.b .nil pass0 (pa_cons (pe_fld (pv 0) rfl) (pa_cons (pe_ix ix_tup (pv 1) pe_int (fun _ _ => rfl)) pa_nil))))))))
        (pss_one (ps_ret pe_bl))
        pss_nil)
      (pss_cons (ps_if (pt_not (pt_val (pe_callB call_isi (by rfl) B.isi (by decide +kernel) (pa_cons (pe_fld (pv 0) rfl) (pa_cons (pe_bltn (by rfl) B.tuple (by decide +kernel) (v := .ty "tuple") (u := .type "tuple") rfl) pa_nil)))))
        (pss_one (ps_ret pe_bl))
        pss_nil)
      (pss_cons (ps_if (pt_cmpR op_ne (pe_callB call_len_seq (by rfl) B.len PySem.boot_len (pa_cons (pe_fld (pv 0) rfl) pa_nil)) (pe_callB call_len_seq (by rfl) B.len PySem.boot_len (pa_cons (pe_ix ix_tup (pv 1) pe_int (fun _ _ => rfl)) pa_nil)) (nomark _))
        (pss_one (ps_ret pe_bl))
        pss_nil)
      (pss_cons (ps_for PassesOwn.never rfl (pi_range1 (by rfl) B.range (pa_cons (pe_callB call_len_seq (by rfl) B.len PySem.boot_len (pa_cons (pe_ix ix_tup (pv 1) pe_int (fun _ _ => rfl)) pa_nil)) pa_nil)) (pg_name (i := 2) scGoodIs.nd rfl (.inl rfl))
        (pss_one (ps_if (pt_not (pt_val (pe_call cGoodIs.G (hr.mono (by first | decide | omega)) (by rfl) cGoodIs.D.g cGoodIs.D.F.kp cGoodIs.D.b .nil pass0 (pa_cons (pe_ix ix_tup (pe_fld (pv 0) rfl) (pv 2) (fun _ _ => rfl)) (pa_cons (pe_ix ix_list (pe_ix ix_tup (pv 1) pe_int (fun _ _ => rfl)) (pv 2) (fun _ _ => rfl)) pa_nil)))))
          (pss_one (ps_ret pe_bl))
          pss_nil)))
      (pss_one (ps_ret pe_bl))))))), ?_⟩
      obtain ⟨a, dx, T0, us, rfl, ha, hT, hks⟩ := hg.ref
      obtain ⟨t, L, vs, rfl, _, ht, _, hL, hns⟩ := hn.ref
      have hz : sizeLine = 16777216 := rfl
      have lh : n.h.length ≤ sizeLine := by
        cases n
        have := hok.1.2.1
        show Str.length _ ≤ _
        rw [len_tl]; exact Nat.le_trans this (by decide)
      have l8 : n.ks.length ≤ 8 := by cases n; exact hok.2.2.2.2.1
      have oks : Nd.oks n.ks := by cases n; exact hok.2.2.2.2.2
      have lu := hks.len
      have lv := hns.len
      refine ⟨.ref a, rfl, a, C, dx, _, _, rfl, ha, T.c, T.nh, fld_nd.1, .ref t, rfl, t, _, 0, _, rfl, rfl, .of ht, rfl, .str n.h, rfl, .inr (.inl ⟨_, rfl⟩), _, rfl, ?_⟩
      refine ⟨.ref a, rfl, a, C, dx, _, _, rfl, ha, T.c, T.nc, fld_nd.2.2.2.1, .ref t, rfl, t, _, 0, _, rfl, rfl, .of ht, rfl, 2, rfl, n.h, rfl, lh, .str (chap n.h), rfl, .inr (.inl ⟨_, rfl⟩), _, rfl, ?_⟩
      refine ite2 (fun z => by cases z) (fun _ => ?_)
      refine ⟨.ref a, rfl, a, dx, _, rfl, ha, a, dx, _, _, rfl, ha, fld_nd.2.2.2.2, .ref t, rfl, t, _, 1, _, rfl, rfl, .of ht, rfl, .int n.w, rfl, .inr (.inr ⟨_, rfl⟩), _, rfl, ?_⟩
      refine ⟨.ref a, rfl, a, C, dx, _, _, rfl, ha, T.c, T.nl, fld_nd.2.1, .ref t, rfl, t, _, 2, _, rfl, rfl, .of ht, rfl, .str n.l, rfl, .inr (.inl ⟨_, rfl⟩), _, rfl, ?_⟩
      refine ite2 (fun z => by cases z) (fun _ => ?_)
      refine ⟨.ref a, rfl, a, C, dx, _, _, rfl, ha, T.c, T.np, fld_nd.2.2.1, .ref T0, .ty "tuple", .type "tuple", .type "tuple", true, rfl, .ty _, sqT_ty hT, kit_ty (by decide +kernel), _, rfl, ?_⟩
      refine ite2 (fun z => by cases z) (fun _ => ?_)
      refine ⟨.ref a, rfl, a, C, dx, _, _, rfl, ha, T.c, T.np, fld_nd.2.2.1, T0, us, rfl, .inr hT, .ref t, rfl, t, _, 3, .ref L, rfl, rfl, .of ht, rfl, L, vs, rfl, .inl (sqOf hL), rfl, _, rfl, ite2 (fun z => ?_) (fun _ => ?_)⟩
      · rw [lu, lv, decide_eq_true rfl] at z; cases z
      refine ⟨.ref t, rfl, t, _, 3, .ref L, rfl, rfl, .of ht, rfl, L, vs, rfl, .inl (sqOf hL), _, rfl, by omega, by omega, ?_⟩
      refine for_range (lo := 0) (n := ((vs.length : Nat) : Int).toNat) (fun i σ H1 => H1 = H ∧ ∃ y, σ = [some (.ref a), some (.ref t), y]) ⟨rfl, none, rfl⟩ ?_ ?_
      · rintro i σ H1 hi ⟨rfl, y, rfl⟩
        have hi : i < n.ks.length := by omega
        have en := List.getElem?_eq_getElem hi
        obtain ⟨v1, e1, g1⟩ := hns.get en
        have eu := List.getElem?_eq_getElem (show i < us.length by omega)
        obtain ⟨k2, e2, g2⟩ := hks.at eu
        rw [en] at e2
        cases e2
        have mk := List.getElem_mem hi
        have ek : (0 : Int) + (i : Int) = (i : Int) := by omega
        rw [ek]
        refine ⟨.ref a, rfl, a, C, dx, _, _, rfl, ha, T.c, T.np, fld_nd.2.2.1, .int (i : Int), rfl, T0, us, i, us[i], rfl, rfl, hT, atI_nat eu, .ref t, rfl, t, _, 3, .ref L, rfl, rfl, .of ht, rfl, .int (i : Int), rfl, L, vs, i, v1, rfl, rfl, sqOf hL, atI_nat e1, ?_⟩
        refine ⟨us[i], v1, n.ks[i], rfl, g2, g1, Nd.oks_mem oks _ mk, by have := Nd.d_mem mk; have := Nd.d_eq n; omega, true, rfl, ite2 (fun z => by cases z) (fun _ => ⟨rfl, _, rfl⟩)⟩
      · rintro σ H1 ⟨rfl, y, rfl⟩
        exact q
theorem made_same {C : Addr} {H : Hp} {x dx : Addr} (nx : H x = none) (ndx : H dx = none) (ne : dx ≠ x) : Same H (upd (upd H dx (.own x)) x (.ins C dx [])) :=
  (Same.trans (same_upd ndx) (same_upd (by rw [upd_ne (Ne.symm ne)]; exact nx)))
theorem made_bx {H H1 H2 : Hp} {x : Addr} (nx : H x = none) (S : Same H H1) (b : Bx x H1 H2) : Same H H2 := fun c o h => b c o (S c o h) (ne_of_none h nx)
def spLMade (K : PySem.W.Frag) (C : Addr) (d : Nat) : Sp := fun vs H Q _ => ∃ (v : V) (n : Nd) (x : Addr), vs = [v, .ref x] ∧ NdAt All H n v ∧ n.ok ∧ n.d ≤ d ∧ ∀ (a : Addr) (H' : Hp), Same H H' → GdAt K C H' n (.ref a) → Q (.ref a) H'
theorem ok_lmade {f : Addr} {fd : FuncData} (D0 : Dd K mg "_law_made" sLMade ["node", "stranger"] f fd) (TG : GoodX P w K mg base C CI fI t0 gdI ds0) (B : Blt mg) : ∀ d, FnOk P w K mg base CX0 (8 + d) f fd ["node", "stranger"] (spLMade K C d)
  | 0 => by
    refine D0.F.ok scLMade (fun vs H Q E h => ?_) (fun cdv A outer s H vs Q E hr h => ?_)
    · obtain ⟨v, n, x, rfl, _⟩ := h
      rfl
    · obtain ⟨v, n, x, rfl, _, _, hd, _⟩ := h
      rw [Nd.d_eq] at hd
      exact absurd hd (by omega)
  | d + 1 => by
    have cLMade : C1 P w K mg base "_law_made" sLMade ["node", "stranger"] (8 + d) (spLMade K C d) f fd := ⟨D0, ok_lmade D0 TG B d⟩
    refine D0.F.ok scLMade (fun vs H Q E h => ?_) (fun cdv A outer s H vs Q E hr h => ?_)
    · obtain ⟨v, n, x, rfl, _⟩ := h
      rfl
    · obtain ⟨v, n, x, rfl, hv, hok, hd, q⟩ := h
      have hr : Room (8 + d) _ := hr
      have hz : sizeLine = 16777216 := rfl
      refine ⟨_, (pss_cons (ps_if (pt_cmpR op_eq (pe_callB call_len_seq (by rfl) B.len PySem.boot_len (pa_cons (pe_ix ix_tup (pv 0) pe_int (fun _ _ => rfl)) pa_nil)) pe_int (nomark _))
        (pss_one (ps_ret (pe_makeS TG.MK TG.R3 (hr.mono (by first | decide | omega)) (by rfl) TG.g (fun _ => passE0) (pa_cons (pe_ix ix_tup (pv 0) pe_int (fun _ _ => rfl)) (pa_cons (pe_ix ix_tup (pv 0) pe_int (fun _ _ => rfl)) (pa_cons (pe_ix ix_tup (pv 0) pe_int (fun _ _ => rfl)) pa_nil))))))
        pss_nil)
      (pss_cons (ps_setLc (i := 2) (own := [("kid", 4)]) (g := gName 4) (by rfl) scLMade.nd rfl rfl (sw_true rfl rfl rfl (by decide +kernel)) (pi_list (pe_ix ix_tup (pv 0) pe_int (fun _ _ => rfl))) (blkOk_by (N := NLMade) (sc := defScope sLMade) (by decide +kernel)) (fun _ _ _ _ _ => pg_name (i := 4) scLMade.nd rfl (Or.inl rfl)) (fun _ _ _ _ _ => pts_nil) (fun _ _ _ _ _ => pe_call cLMade.G (hr.mono (by first | decide | omega)) (by rfl) cLMade.D.g cLMade.D.F.kp cLMade.D.b .nil pass0 (pa_cons (pv 4) (pa_cons (pv 1) pa_nil))))
      (pss_cons (ps_set (i := 3) scLMade.nd rfl (.inl rfl) (pe_makeS TG.MK TG.R4 (hr.mono (by first | decide | omega)) (by rfl) TG.g (fun _ => passE0) (pa_cons (pe_ix ix_tup (pv 0) pe_int (fun _ _ => rfl)) (pa_cons (pe_ix ix_tup (pv 0) pe_int (fun _ _ => rfl)) (pa_cons (pe_ix ix_tup (pv 0) pe_int (fun _ _ => rfl)) (pa_cons (pv 2) pa_nil))))))
      (pss_cons (ps_expr (pe_bm PySem.F.plainAttrs_list PySem.F.slot_list_append PySem.F.type_list_append mt_append (pv 2) (pa_cons (pv 1) pa_nil)))
      (pss_cons (ps_asg (pv 1) (pg_sub (pv 2) pe_int set_list))
      (pss_one (ps_ret (pv 3)))))))), ?_⟩
      obtain ⟨t, L, vs, rfl, _, ht, _, hL, hks⟩ := hv.ref
      have hd1 : Nd.ds n.ks + 1 ≤ d + 1 := by rw [← Nd.d_eq]; exact hd
      have lv := hks.len
      obtain ⟨nh, nw, nl, ks⟩ := n
      have hd1 : Nd.ds ks + 1 ≤ d + 1 := hd1
      have hok' := hok
      obtain ⟨a1, a2, a3, a4, l8, oks⟩ := hok'
      have gk : okG nh nw nl ks := ⟨(isAddr_iff _).mpr a1, a3, (isName_iff _).mpr a2, a4⟩
      have lh : nh.length ≤ 1000 := by rw [len_tl]; exact Nat.le_trans a1.2.1 (by decide)
      have ll : nl.length ≤ 1000 := by rw [len_tl]; exact Nat.le_trans a2.1 (by decide)
      have make : ∀ (H2 : Hp) (T : Addr) (ws : List V) (R : VK) (y dx : Addr), (SqL K H2 T ws ∨ SqT K H2 T ws) → GdsAt K C H2 ks ws → H2 y = none → H2 dx = none → dx ≠ y → (∀ H3, Same H2 H3 → GdAt K C H3 (.mk nh nw nl ks) (.ref y) → R .non H3) → spGoodX K C CI [.ref y, .str nh, .int nw, .str nl, .ref T] (upd (upd H2 dx (.own y)) y (.ins C dx [])) R E0 := fun H2 T ws R y dx hT hg ny ndy ne r => by
        have S0 := made_same (C := C) ny ndy ne
        refine ⟨y, dx, T, nh, nl, nw, ks, ws, rfl, upd_same, lh, ll, by omega, hT.imp (fun h => sqL_same h S0) (fun h => SqT.kg h (Same.kg S0)), hg.kg (Same.kg S0), fun _ H3 bx gd => r H3 (made_bx ny S0 bx) gd, fun ng => absurd gk ng⟩
      refine ⟨.ref t, rfl, t, _, 3, .ref L, rfl, rfl, .of ht, rfl, L, vs, rfl, .inl (sqOf hL), rfl, _, rfl, ite2 (fun e => ?_) (fun e => ?_)⟩
      · have e0 : ((vs.length : Nat) : Int) = 0 := V.int.inj (of_decide_eq_true e)
        have hn : ks = [] := List.length_eq_zero_iff.mp (by have : vs.length = ks.length := lv; omega)
        refine ⟨.ref t, rfl, t, _, 0, _, rfl, rfl, .of ht, rfl, .ref t, rfl, t, _, 1, _, rfl, rfl, .of ht, rfl, .ref t, rfl, t, _, 2, _, rfl, rfl, .of ht, rfl, fun y dx ny ndy ne => ?_⟩
        exact make H t0 [] _ y dx (.inr (TG.e0 _)) (by rw [hn]; rfl) ny ndy ne fun H3 S3 g3 => ⟨rfl, q y H3 S3 g3⟩
      refine ⟨.ref t, rfl, t, _, 3, .ref L, rfl, rfl, .of ht, rfl, L, rfl, ⟨_, sqOf hL⟩, fun D nD => ?_⟩
      refine lc_it (walk_list (a := L) (xs := vs)) (fun i H1 => Same H H1 ∧ ∃ us, H1 D = some (.lst us) ∧ GdsAt K C H1 (ks.take i) us) ⟨same_upd nD, [], upd_same, rfl⟩ (fun i H1 _ hP => sqOf (hP.1 _ _ hL)) (fun i v H1 H2 hi hP hy => ?_) (fun H1 hP => ?_)
      · obtain ⟨S1, us, hD, hU⟩ := hP
        obtain ⟨rfl, ev⟩ := hy
        obtain ⟨k, ek, gk1⟩ := hks.at ev
        have ek : ks[i]? = some k := ek
        have mk := List.mem_of_getElem? ek
        refine ⟨rfl, v, rfl, .ref x, rfl, v, k, x, rfl, gk1.kp (Same.kp S1), Nd.oks_mem oks k mk, by have := Nd.d_mem mk; omega, fun a1 H3 S3 g3 => ⟨us, S3 _ _ hD, ?_, ?_, us ++ [.ref a1], upd_same, ?_⟩⟩
        · rw [hU.len, List.length_take]
          exact small1000 (by omega)
        · intro b o hb
          rw [upd_ne (ne_of_none hb nD)]
          exact S3 _ _ (S1 _ _ hb)
        · have kg : Kg H3 (L2.upd H3 D (.lst (us ++ [.ref a1]))) := Kg.upd (S3 _ _ hD)
          rw [take_snoc ek]
          exact GdsAt.snoc ((hU.kg (Same.kg S3)).kg kg) (g3.kg kg)
      obtain ⟨S1, us, hD, hU⟩ := hP
      have lv : vs.length = ks.length := lv
      rw [lv, List.take_length] at hU
      have lu := hU.len
      have ht1 := S1 _ _ ht
      refine ⟨.ref t, rfl, t, _, 0, _, rfl, rfl, .of ht1, rfl, .ref t, rfl, t, _, 1, _, rfl, rfl, .of ht1, rfl, .ref t, rfl, t, _, 2, _, rfl, rfl, .of ht1, rfl, .ref D, rfl, fun y dx ny ndy ne => ?_⟩
      refine make H1 D us _ y dx (.inl (sqOf hD)) hU ny ndy ne fun H3 S3 g3 => ?_
      have hD3 := S3 _ _ hD
      have e1 : ¬ vs.length = 0 := fun z => e (decide_eq_true (by rw [z]; rfl))
      refine ⟨rfl, ?_⟩
      refine ⟨.ref D, rfl, .inl ⟨rfl, _, sqOf hD3⟩, .ref x, rfl, D, us, .ref x, rfl, rfl, hD3, small1000 (by omega), ?_⟩
      have S13 := S1.trans S3
      refine ⟨.ref x, rfl, .ref D, rfl, D, us ++ [.ref x], 0, 0, rfl, rfl, upd_same, ix0 (by rw [List.length_append]; show 0 < _ + 1; omega), ?_⟩
      refine ⟨.ref y, rfl, q y _ (fun b o hb => ?_) ?_⟩
      · rw [upd_ne (ne_of_none hb nD), upd_ne (ne_of_none hb nD)]
        exact S13 _ _ hb
      · exact (g3.kg (Kg.upd hD3)).kg (Kg.upd upd_same)
end
end Tb
namespace Tb
open PySem PySem.Spec PyProof.Rows L2
abbrev sGRef : Stmt := topS 57
abbrev NGRef : List Str := ["heading", "worth", "land", "parts", "e", "word", "base", "other"]
theorem scGRef : FnScope NGRef ["heading", "worth", "land", "parts"] (defScope sGRef) := ⟨rfl, rfl, rfl, by decide +kernel, rfl, by decide +kernel, by decide +kernel⟩
abbrev sGHold : Stmt := topS 60
abbrev NGHold : List Str := ["box", "node", "stranger", "parts", "whole", "kid"]
theorem scGHold : FnScope NGHold ["box", "node", "stranger"] (defScope sGHold) := ⟨rfl, rfl, rfl, by decide +kernel, rfl, by decide +kernel, by decide +kernel⟩
/-- the errors' classes, as the module has them -/
structure Errs (K : PySem.W.Frag) (mg : Str → Option Value) (CI gI : Addr) (gdI : FuncData) (CP c1 c2 c3 c4 c5 c6 c7 : Addr) : Prop where
  I : EInv K mg CI gI gdI
  gP : mg "ParcelError" = some (.ref CP)
  ve : mg "ValueError" = none
  g1 : mg "BadLine" = some (.ref c1)
  g2 : mg "BadManifest" = some (.ref c2)
  g3 : mg "Contradiction" = some (.ref c3)
  g4 : mg "Late" = some (.ref c4)
  g5 : mg "Refused" = some (.ref c5)
  g6 : mg "TooMany" = some (.ref c6)
  g7 : mg "Unknown" = some (.ref c7)
  kP : PySem.W.kitOne K (.ref CI) (.ref CP) = some true
  kV : PySem.W.kitOne K (.ref CI) (.type "ValueError") = some true
  kO : PySem.W.kitAny K (.ref CI) [.ref c1, .ref c2, .ref c3, .ref c4, .ref c5, .ref c6, .ref c7] = some false
  ex : PySem.W.exmOne K (.ref CI) (.ref CI) = some true
section
variable {P : Program} {w : World} {K : PySem.W.Frag} {mg : Str → Option Value} {base : Heap} {C pw fw CI fI t0 : Addr} {gdw fdI : FuncData} {ds0 : List Value} {gI CP c1 c2 c3 c4 c5 c6 c7 : Addr} {gdI : FuncData}
def spGRef (K : PySem.W.Frag) (C : Addr) : Sp := fun vs H Q _ => ∃ (p : Addr) (h l : Str) (w : Int) (ks : List Nd) (us : List V), vs = [.str h, .int w, .str l, .ref p] ∧ h.length ≤ 1000 ∧ l.length ≤ 1000 ∧ ks.length ≤ 900 ∧ (SqL K H p us ∨ SqT K H p us) ∧ GdsAt K C H ks us ∧ ¬ okG h w l ks ∧ ∀ H', Same H H' → Q (.bl true) H'
theorem ok_gref {f : Addr} {fd : FuncData} (F : Fun K "_law_good_refused" "_law_good_refused" sGRef f fd) (TG : GoodX P w K mg base C CI fI t0 fdI ds0) (R : Errs K mg CI gI gdI CP c1 c2 c3 c4 c5 c6 c7) (B : Blt mg) : FnOk P w K mg base CX0 7 f fd ["heading", "worth", "land", "parts"] (spGRef K C) := by
  refine F.ok scGRef (fun vs H Q E h => ?_) (fun cdv A outer s H vs Q E hr h => ?_)
  · obtain ⟨p, h, l, w, ks, us, rfl, _⟩ := h
    rfl
  · obtain ⟨p, nh, nl, nw, ks, us, rfl, lh, ll, lk, hp, hg, ng, q⟩ := h
    have hr6 : Room 6 _ := hr
    refine ⟨_, pss_cons (ps_try_as (i := 4) rfl rfl scGRef.nd rfl rfl ⟨rfl, by decide, .inl R.I.g⟩ takes0
        (fun W pn xe tk _ => pss_one (ps_expr (pe_makeS TG.MK TG.R4 hr6 (by rfl) TG.g (fun σ => passAt tk σ) (pa_cons (pv 0) (pa_cons (pv 1) (pa_cons (pv 2) (pa_cons (pv 3) pa_nil)))))))
        (fun a oe cls d pn hz hf => pss_cons (ps_set (i := 5) scGRef.nd rfl (.inl rfl) (pe_and (pe_callB (id := "isinstance") (r := rIsi K) call_isi (by rfl) B.isi (by decide +kernel) (pa_cons (pe_xf R.I.T.xf R.I.T.no hz hf (pv 4)) (pa_cons (pe_bltn (by rfl) B.str PyProof.Rows.boot_str (v := .ty "str") rfl) pa_nil))) (pe_one (pe_cmpR op_eq (pe_xf R.I.T.xf R.I.T.no hz hf (pv 4)) pe_str (nomark _)))))
          (pss_cons (ps_set (i := 6) scGRef.nd rfl (.inl rfl) (pe_and (pe_callB (id := "isinstance") (r := rIsX K CI a cls d) (call_isX R.I.T hz hf) (by rfl) B.isi (by decide +kernel) (pa_cons (pv 4) (pa_cons (pe_glob (by rfl) R.gP (v := .ref CP) rfl) pa_nil))) (pe_one (pe_callB (id := "isinstance") (r := rIsX K CI a cls d) (call_isX R.I.T hz hf) (by rfl) B.isi (by decide +kernel) (pa_cons (pv 4) (pa_cons (pe_bltn (by rfl) R.ve (by decide +kernel) (v := .ty "ValueError") (u := .type "ValueError") rfl) pa_nil))))))
          (pss_cons (ps_set (i := 7) scGRef.nd rfl (.inl rfl) (pe_callB (id := "isinstance") (r := rIsXT K CI a cls d) (call_isXT R.I.T hz hf) (by rfl) B.isi (by decide +kernel) (pa_cons (pv 4) (pa_cons (pe_tup (pa_cons (pe_glob (by rfl) R.g1 (v := .ref c1) rfl) (pa_cons (pe_glob (by rfl) R.g2 (v := .ref c2) rfl) (pa_cons (pe_glob (by rfl) R.g3 (v := .ref c3) rfl) (pa_cons (pe_glob (by rfl) R.g4 (v := .ref c4) rfl) (pa_cons (pe_glob (by rfl) R.g5 (v := .ref c5) rfl) (pa_cons (pe_glob (by rfl) R.g6 (v := .ref c6) rfl) (pa_cons (pe_glob (by rfl) R.g7 (v := .ref c7) rfl) pa_nil)))))))) pa_nil))))
          (pss_one (ps_ret (pe_and (pv 5) (pe_and (pv 6) (pe_one (pe_not (pv 7)))))))))))
      (pss_one (ps_ret pe_bl)), ?_⟩
    refine ⟨.str nh, rfl, .int nw, rfl, .str nl, rfl, .ref p, rfl, fun x dx nx ndx ne => ?_⟩
    have S0 := made_same (C := C) nx ndx ne
    refine ⟨x, dx, p, nh, nl, nw, ks, us, rfl, upd_same, lh, ll, lk, hp.imp (fun h => sqL_same h S0) (fun h => SqT.kg h (Same.kg S0)), hg.kg (Same.kg S0), fun g => absurd g ng, fun _ e H1 bx he => ?_⟩
    have S1 := made_bx nx S0 bx
    refine ⟨true, R.ex, fun _ a ha => ?_, fun z => by cases z⟩
    clear ha
    have lw : List.lookup wWhat [(wWhat, V.str wGood)] = some (.str wGood) := rfl
    refine ⟨.ref a, rfl, rfl, rfl, e, _, .str wGood, rfl, he, lw, .str wGood, .ty "str", .type "str", .type "str", true, rfl, .ty _, .base (.str _), kit_ty (by decide +kernel), true, rfl, ?_⟩
    refine ⟨.ref a, rfl, rfl, rfl, e, _, .str wGood, rfl, he, lw, rfl, ?_⟩
    rw [decide_eq_true rfl]
    refine ⟨.ref a, rfl, rfl, .ref CP, .ref CP, true, e, _, rfl, .own _, rfl, he, R.kP, true, rfl, ?_⟩
    refine ⟨.ref a, rfl, rfl, .ty "ValueError", .type "ValueError", true, e, _, rfl, .ty _, rfl, he, R.kV, ?_⟩
    refine ⟨.ref a, rfl, by show 7 ≤ sizeLine; decide, fun tp ntp => ?_⟩
    have hd2 : ∀ o, (upd H1 tp o) e = some (.xd [(wWhat, .str wGood)]) := fun o => by rw [upd_ne (ne_of_none he ntp)]; exact he
    refine ⟨rfl, tp, _, [.ref c1, .ref c2, .ref c3, .ref c4, .ref c5, .ref c6, .ref c7], false, e, _, rfl, upd_same, .cons (.own _) (.cons (.own _) (.cons (.own _) (.cons (.own _) (.cons (.own _) (.cons (.own _) (.cons (.own _) .nil)))))), rfl, hd2 _, R.kO, ?_⟩
    exact ⟨.bl true, rfl, true, rfl, .bl true, rfl, true, rfl, .bl false, rfl, false, rfl, q _ (S1.trans (same_upd ntp))⟩

abbrev CBeyond (P : Program) (w : World) (K : PySem.W.Frag) (mg : Str → Option Value) (base : Heap) (g : Addr) (gd : FuncData) := C1 P w K mg base "_law_beyond" sBeyond ["box"] 2 (spInt fun z => 0 ≤ z) g gd
abbrev CBadN (P : Program) (w : World) (K : PySem.W.Frag) (mg : Str → Option Value) (base : Heap) (g : Addr) (gd : FuncData) := C1 P w K mg base "_law_bad_name" sBadN ["box", "least"] 3 spBadN g gd
abbrev CBadA (P : Program) (w : World) (K : PySem.W.Frag) (mg : Str → Option Value) (base : Heap) (g : Addr) (gd : FuncData) := C1 P w K mg base "_law_bad_address" sBadA ["box"] 3 spBadA g gd
abbrev CGoodIs (P : Program) (w : World) (K : PySem.W.Frag) (mg : Str → Option Value) (base : Heap) (C : Addr) (g : Addr) (gd : FuncData) := C1 P w K mg base "_law_good_is" sGoodIs ["good", "node"] 5 (spGoodIs K C 3) g gd
abbrev CLMade (P : Program) (w : World) (K : PySem.W.Frag) (mg : Str → Option Value) (base : Heap) (C : Addr) (g : Addr) (gd : FuncData) := C1 P w K mg base "_law_made" sLMade ["node", "stranger"] 11 (spLMade K C 3) g gd
abbrev CGRef (P : Program) (w : World) (K : PySem.W.Frag) (mg : Str → Option Value) (base : Heap) (C : Addr) (g : Addr) (gd : FuncData) := C1 P w K mg base "_law_good_refused" sGRef ["heading", "worth", "land", "parts"] 7 (spGRef K C) g gd
theorem box_kg {H H' : Hp} {p : Addr} (B : Box H p) (b : But p H H') : Kg H H' := by
  obtain ⟨_, _, _, _, e, _⟩ := B
  exact But.kg e b
theorem GdsAt.ins {K : PySem.W.Frag} {C : Addr} {H : Hp} {k : Nd} {v : V} : ∀ {i : Nat} {ks : List Nd} {us : List V}, GdsAt K C H ks us → GdAt K C H k v → GdsAt K C H (ks.take i ++ [k] ++ ks.drop i) (us.take i ++ [v] ++ us.drop i)
  | 0, _, us, h, r => ⟨v, us, rfl, r, h⟩
  | i + 1, [], us, h, r => by
    have e : us = [] := h
    subst e
    exact ⟨v, [], rfl, r, rfl⟩
  | i + 1, k0 :: ks, _, ⟨v0, us, e, r0, t⟩, r => by
    subst e
    exact ⟨v0, _, rfl, r0, GdsAt.ins t r⟩
theorem sum_ins {ks : List Nd} {k : Nd} {i : Nat} : sumOf ((ks.take i ++ [k] ++ ks.drop i).map Nd.w) = sumOf (ks.map Nd.w) + k.w := by
  have e : (ks.map Nd.w).sum = ((ks.take i).map Nd.w).sum + ((ks.drop i).map Nd.w).sum := by
    rw [← List.sum_append, ← List.map_append, List.take_append_drop]
  rw [sumOf_eq, sumOf_eq, e, List.map_append, List.map_append, List.sum_append, List.sum_append, List.map_cons, List.map_nil, List.sum_cons, List.sum_nil]
  omega
def spGHold (K : PySem.W.Frag) (C : Addr) : Sp := fun vs H Q _ => ∃ (p x : Addr) (v : V) (n : Nd), vs = [.ref p, v, .ref x] ∧ Box H p ∧ NdAt All H n v ∧ n.ok ∧ n.d ≤ 2 ∧ ∀ H', Box H' p → But p H H' → Q (.bl true) H'
theorem ok_ghold {f g1 g2 g3 g4 g5 g6 g7 : Addr} {fd gd1 gd2 gd3 gd4 gd5 gd6 gd7 : FuncData} (F : Fun K "_law_goods_hold" "_law_goods_hold" sGHold f fd) (T : GCls K C pw fw gdw) (TG : GoodX P w K mg base C CI fI t0 fdI ds0) (cDraw : CDraw P w K mg base g1 gd1) (cBadN : CBadN P w K mg base g2 gd2) (cBadA : CBadA P w K mg base g3 gd3) (cBeyond : CBeyond P w K mg base g4 gd4) (cGoodIs : CGoodIs P w K mg base C g5 gd5) (cLMade : CLMade P w K mg base C g6 gd6) (cGRef : CGRef P w K mg base C g7 gd7) (B : Blt mg) : FnOk P w K mg base CX0 12 f fd ["box", "node", "stranger"] (spGHold K C) := by
  refine F.ok scGHold (fun vs H Q E h => ?_) (fun cdv A outer s H vs Q E hr h => ?_)
  · obtain ⟨p, x, v, n, rfl, _⟩ := h
    rfl
  · obtain ⟨p, x, v, n, rfl, hB, hN, hok, hd, q⟩ := h
    refine ⟨_, (pss_cons (ps_setLc (i := 3) (own := [("kid", 5)]) (g := gName 5) (by rfl) scGHold.nd rfl rfl (sw_true rfl rfl rfl (by decide +kernel)) (pi_list (pe_ix ix_tup (pv 1) pe_int (fun _ _ => rfl))) (blkOk_by (N := NGHold) (sc := defScope sGHold) (by decide +kernel)) (fun _ _ _ _ _ => pg_name (i := 5) scGHold.nd rfl (Or.inl rfl)) (fun _ _ _ _ _ => pts_nil) (fun _ _ _ _ _ => pe_call cLMade.G (hr.mono (by first | decide | omega)) (by rfl) cLMade.D.g cLMade.D.F.kp cLMade.D.b .nil pass0 (pa_cons (pv 5) (pa_cons (pv 2) pa_nil))))
      (pss_cons (ps_set (i := 4) scGHold.nd rfl (.inl rfl) (pe_callB (cr_sum rfl) (by rfl) B.sum (by decide +kernel) (pa_cons (pe_lc (own := [("kid", 5)]) (g := gName 5) (by rfl) scGHold.nd (pi_list (pe_ix ix_tup (pv 1) pe_int (fun _ _ => rfl))) (blkOk_by (N := NGHold) (sc := defScope sGHold) (by decide +kernel)) (fun _ _ _ _ _ => pg_name (i := 5) scGHold.nd rfl (Or.inl rfl)) (fun _ _ _ _ _ => pts_nil) (fun _ _ _ _ _ => pe_ix (r := rIxT K) ix_tup (pv 5) pe_int (fun _ _ => rfl))) pa_nil)))
      (pss_cons (ps_if (pt_not (pt_val (pe_call cGoodIs.G (hr.mono (by first | decide | omega)) (by rfl) cGoodIs.D.g cGoodIs.D.F.kp cGoodIs.D.b .nil pass0 (pa_cons (pe_makeS TG.MK TG.R4 (hr.mono (by first | decide | omega)) (by rfl) TG.g (fun _ => passE0) (pa_cons (pe_ix ix_tup (pv 1) pe_int (fun _ _ => rfl)) (pa_cons (pe_ix ix_tup (pv 1) pe_int (fun _ _ => rfl)) (pa_cons (pe_ix ix_tup (pv 1) pe_int (fun _ _ => rfl)) (pa_cons (pe_callTy call_tuple_of (by rfl) B.tuple PyProof.Rows.boot_tuple (pa_cons (pv 3) pa_nil)) pa_nil))))) (pa_cons (pv 1) pa_nil)))))
        (pss_one (ps_ret pe_bl))
        pss_nil)
      (pss_cons (ps_if (pt_not (pt_val (pe_call cGRef.G (hr.mono (by first | decide | omega)) (by rfl) cGRef.D.g cGRef.D.F.kp cGRef.D.b .nil pass0 (pa_cons (pe_call cBadA.G (hr.mono (by first | decide | omega)) (by rfl) cBadA.D.g cBadA.D.F.kp cBadA.D.b .nil pass0 (pa_cons (pv 0) pa_nil)) (pa_cons (pe_ix ix_tup (pv 1) pe_int (fun _ _ => rfl)) (pa_cons (pe_ix ix_tup (pv 1) pe_int (fun _ _ => rfl)) (pa_cons (pe_callTy call_list_of (by rfl) B.list PyProof.Rows.boot_list (pa_cons (pv 3) pa_nil)) pa_nil)))))))
        (pss_one (ps_ret pe_bl))
        pss_nil)
      (pss_cons (ps_if (pt_not (pt_val (pe_call cGRef.G (hr.mono (by first | decide | omega)) (by rfl) cGRef.D.g cGRef.D.F.kp cGRef.D.b .nil pass0 (pa_cons (pe_ix ix_tup (pv 1) pe_int (fun _ _ => rfl)) (pa_cons (pe_ix ix_tup (pv 1) pe_int (fun _ _ => rfl)) (pa_cons (pe_call cBadN.G (hr.mono (by first | decide | omega)) (by rfl) cBadN.D.g cBadN.D.F.kp cBadN.D.b .nil pass0 (pa_cons (pv 0) (pa_cons pe_int pa_nil))) (pa_cons (pe_callTy call_tuple_of (by rfl) B.tuple PyProof.Rows.boot_tuple (pa_cons (pv 3) pa_nil)) pa_nil)))))))
        (pss_one (ps_ret pe_bl))
        pss_nil)
      (pss_cons (ps_if (pt_not (pt_val (pe_call cGRef.G (hr.mono (by first | decide | omega)) (by rfl) cGRef.D.g cGRef.D.F.kp cGRef.D.b .nil pass0 (pa_cons (pe_ix ix_tup (pv 1) pe_int (fun _ _ => rfl)) (pa_cons (pe_op op_sub (pe_un un_neg pe_int) (pe_call cBeyond.G (hr.mono (by first | decide | omega)) (by rfl) cBeyond.D.g cBeyond.D.F.kp cBeyond.D.b .nil pass0 (pa_cons (pv 0) pa_nil))) (pa_cons (pe_ix ix_tup (pv 1) pe_int (fun _ _ => rfl)) (pa_cons (pe_lst pa_nil) pa_nil)))))))
        (pss_one (ps_ret pe_bl))
        pss_nil)
      (pss_cons (ps_expr (pe_bm PySem.F.plainAttrs_list PySem.F.slot_list_insert PySem.F.type_list_insert mt_insert (pv 3) (pa_cons (pe_call cDraw.G (hr.mono (by first | decide | omega)) (by rfl) cDraw.D.g cDraw.D.F.kp cDraw.D.b .nil pass0 (pa_cons (pv 0) (pa_cons (pe_op op_add (pe_callB call_len_seq (by rfl) B.len PySem.boot_len (pa_cons (pv 3) pa_nil)) pe_int) pa_nil))) (pa_cons (pe_makeS TG.MK TG.R3 (hr.mono (by first | decide | omega)) (by rfl) TG.g (fun _ => passE0) (pa_cons (pe_ix ix_tup (pv 1) pe_int (fun _ _ => rfl)) (pa_cons (pe_op op_sub (pe_op op_add pe_int (pe_ix ix_tup (pv 1) pe_int (fun _ _ => rfl))) (pv 4)) (pa_cons (pe_ix ix_tup (pv 1) pe_int (fun _ _ => rfl)) pa_nil)))) pa_nil))))
      (pss_cons (ps_if (pt_not (pt_val (pe_call cGRef.G (hr.mono (by first | decide | omega)) (by rfl) cGRef.D.g cGRef.D.F.kp cGRef.D.b .nil pass0 (pa_cons (pe_ix ix_tup (pv 1) pe_int (fun _ _ => rfl)) (pa_cons (pe_ix ix_tup (pv 1) pe_int (fun _ _ => rfl)) (pa_cons (pe_ix ix_tup (pv 1) pe_int (fun _ _ => rfl)) (pa_cons (pv 3) pa_nil)))))))
        (pss_one (ps_ret pe_bl))
        pss_nil)
      (pss_one (ps_ret (pe_call cGoodIs.G (hr.mono (by first | decide | omega)) (by rfl) cGoodIs.D.g cGoodIs.D.F.kp cGoodIs.D.b .nil pass0 (pa_cons (pe_makeS TG.MK TG.R4 (hr.mono (by first | decide | omega)) (by rfl) TG.g (fun _ => passE0) (pa_cons (pe_ix ix_tup (pv 1) pe_int (fun _ _ => rfl)) (pa_cons (pe_ix ix_tup (pv 1) pe_int (fun _ _ => rfl)) (pa_cons (pe_ix ix_tup (pv 1) pe_int (fun _ _ => rfl)) (pa_cons (pe_lst pa_nil) pa_nil))))) (pa_cons (pe_tup (pa_cons (pe_ix ix_tup (pv 1) pe_int (fun _ _ => rfl)) (pa_cons (pe_ix ix_tup (pv 1) pe_int (fun _ _ => rfl)) (pa_cons (pe_ix ix_tup (pv 1) pe_int (fun _ _ => rfl)) (pa_cons (pe_lst pa_nil) pa_nil))))) pa_nil))))))))))))), ?_⟩
    have hz : sizeLine = 16777216 := rfl
    obtain ⟨t, L, vs, rfl, _, ht, _, hL, hks⟩ := hN.ref
    have hd1 : Nd.ds n.ks + 1 ≤ 2 := by rw [← Nd.d_eq]; exact hd
    obtain ⟨nh, nw, nl, ks⟩ := n
    have hd1 : Nd.ds ks + 1 ≤ 2 := hd1
    have hok' := hok
    obtain ⟨a1, a2, a3, a4, l8, oks⟩ := hok'
    have hA := (isAddr_iff _).mpr a1
    have hNm := (isName_iff _).mpr a2
    have gk : okG nh nw nl ks := ⟨hA, a3, hNm, a4⟩
    have lh : nh.length ≤ 1000 := by rw [len_tl]; exact Nat.le_trans a1.2.1 (by decide)
    have ll : nl.length ≤ 1000 := by rw [len_tl]; exact Nat.le_trans a2.1 (by decide)
    have lv : vs.length = ks.length := hks.len
    have hks : NdsAt All H ks vs := hks
    have make : ∀ (H2 : Hp) (T : Addr) (w' : Int) (ks' : List Nd) (ws : List V) (R : VK) (y dx : Addr), okG nh w' nl ks' → ks'.length ≤ 900 → (SqL K H2 T ws ∨ SqT K H2 T ws) → GdsAt K C H2 ks' ws → H2 y = none → H2 dx = none → dx ≠ y → (∀ H3, Same H2 H3 → GdAt K C H3 (.mk nh w' nl ks') (.ref y) → R .non H3) → spGoodX K C CI [.ref y, .str nh, .int w', .str nl, .ref T] (upd (upd H2 dx (.own y)) y (.ins C dx [])) R E0 := fun H2 T w' ks' ws R y dx gk l9 hT hg ny ndy ne r => by
      have S0 := made_same (C := C) ny ndy ne
      exact ⟨y, dx, T, nh, nl, w', ks', ws, rfl, upd_same, lh, ll, l9, hT.imp (fun h => sqL_same h S0) (fun h => SqT.kg h (Same.kg S0)), hg.kg (Same.kg S0), fun _ H3 bx gd => r H3 (made_bx ny S0 bx) gd, fun ng => absurd gk ng⟩
    refine ⟨.ref t, rfl, t, _, 3, .ref L, rfl, rfl, .of ht, rfl, L, rfl, ⟨_, sqOf hL⟩, fun D nD => ?_⟩
    refine lc_it (walk_list (a := L) (xs := vs)) (fun i H1 => Same H H1 ∧ ∃ us, H1 D = some (.lst us) ∧ GdsAt K C H1 (ks.take i) us) ⟨same_upd nD, [], upd_same, rfl⟩ (fun i H1 _ hP => sqOf (hP.1 _ _ hL)) (fun i v H1 H2 hi hP hy => ?_) (fun H1 hP => ?_)
    · obtain ⟨S1, us, hD, hU⟩ := hP
      obtain ⟨rfl, ev⟩ := hy
      obtain ⟨k, ek, gk1⟩ := hks.at ev
      have ek : ks[i]? = some k := ek
      have mk := List.mem_of_getElem? ek
      refine ⟨rfl, v, rfl, .ref x, rfl, v, k, x, rfl, gk1.kp (Same.kp S1), Nd.oks_mem oks k mk, by have := Nd.d_mem mk; omega, fun a1 H3 S3 g3 => ⟨us, S3 _ _ hD, ?_, ?_, us ++ [.ref a1], upd_same, ?_⟩⟩
      · rw [hU.len, List.length_take]
        exact small1000 (by omega)
      · intro b o hb
        rw [upd_ne (ne_of_none hb nD)]
        exact S3 _ _ (S1 _ _ hb)
      · have kg : Kg H3 (L2.upd H3 D (.lst (us ++ [.ref a1]))) := Kg.upd (S3 _ _ hD)
        rw [take_snoc ek]
        exact GdsAt.snoc ((hU.kg (Same.kg S3)).kg kg) (g3.kg kg)
    obtain ⟨S1, us, hD, hU⟩ := hP
    rw [lv, List.take_length] at hU
    have lu := hU.len
    have ht1 := S1 _ _ ht
    have hL1 := S1 _ _ hL
    have hks1 := hks.kp (Same.kp S1)
    obtain ⟨cs, ek, evs, hcs⟩ := nds_cs hks1
    rw [evs] at hL1
    have lcs : cs.length ≤ 1000 := by rw [ek, List.length_map] at l8; omega
    refine ⟨.ref t, rfl, t, _, 3, .ref L, rfl, rfl, .of ht1, rfl, L, rfl, ⟨_, sqOf hL1⟩, fun D2 nD2 => lc_l (fun _ => true) (fun c => .int c.1.w) hL1 nD2 lcs (fun _ => rfl) (fun c hc H3 S3 R hR => hR H3 (Same.refl _)) (fun c hc H3 S3 R hR => ?_) (fun H2 S2 hD2 => ?_)⟩
    · obtain ⟨t2, M, _, e, _, h2, _⟩ := (hcs c hc).ref
      exact ⟨.ref c.2, rfl, t2, _, 1, _, e, rfl, .of (S3 _ _ h2), rfl, hR H3 (Same.refl _)⟩
    refine ⟨D2, cs.map (fun c => c.1.w), rfl, sqOf ?_, ?_⟩
    · rw [hD2, filt_true, List.map_map]
      rfl
    have ew : (cs.map fun c => c.1.w).sum = sumOf (ks.map Nd.w) := by
      rw [sumOf_eq, ek, List.map_map]; rfl
    rw [ew]
    have hD' := S2 _ _ hD
    have hU2 := hU.kg (Same.kg S2)
    have ht2 := S2 _ _ ht1
    have B2 := hB.same (S1.trans S2)
    have b2 : But p H H2 := Same.but (S1.trans S2)
    have hN2 : NdAt All H2 (.mk nh nw nl ks) (.ref t) := hN.kp (Same.kp (S1.trans S2))
    clear hD2 hD hU hL1 hks1 hcs ek evs
    refine ⟨.ref t, rfl, t, _, 0, _, rfl, rfl, .of ht2, rfl, .ref t, rfl, t, _, 1, _, rfl, rfl, .of ht2, rfl, .ref t, rfl, t, _, 2, _, rfl, rfl, .of ht2, rfl, .ref D, rfl, D, us, rfl, .inl ⟨sqOf hD', fun T1 nT1 y dx ny ndy ne => ?_⟩⟩
    refine make _ T1 nw ks us _ y dx gk (by omega) (.inr (.of upd_same)) (hU2.kg (Same.kg (same_upd nT1))) ny ndy ne fun H3 S3 g3 => ⟨rfl, ?_⟩
    have S23 := (same_upd (o := .tup us) nT1).trans S3
    refine ⟨.ref t, rfl, .ref y, .ref t, .mk nh nw nl ks, rfl, g3, hN2.kp (Same.kp S23), hok, by omega, true, rfl, ite2 (fun z => by cases z) (fun _ => ?_)⟩
    have B3 := B2.same S23
    have b3 := b2.trans (Same.but S23)
    have hD3 := S23 _ _ hD'
    have hU3 := hU2.kg (Same.kg S23)
    have ht3 := S23 _ _ ht2
    have Dp : D ≠ p := fun e => by
      obtain ⟨_, _, _, _, e2, _⟩ := hB
      rw [e, e2] at nD; cases nD
    clear hU2 hD' g3 hN2
    refine ⟨.ref p, rfl, p, rfl, B3, fun z H4 hz4 lz B4 b34 => ?_⟩
    have tp : ∀ {H3 : Hp}, Box H3 p → H3 t = some (.tup [.str nh, .int nw, .str nl, .ref L]) → t ≠ p := fun B h => B.ne h (ni_tup _)
    have hD4 := b34 _ _ hD3 Dp
    have ht4 := b34 _ _ ht3 (tp B3 ht3)
    have hU4 := hU3.kg (box_kg B3 b34)
    have b4 := b3.trans b34
    refine ⟨.ref t, rfl, t, _, 1, _, rfl, rfl, .of ht4, rfl, .ref t, rfl, t, _, 2, _, rfl, rfl, .of ht4, rfl, .ref D, rfl, D, us, rfl, .inl (sqOf hD4), fun M nM => ?_⟩
    have S45 := same_upd (o := .lst us) nM
    refine ⟨M, z, nl, nw, ks, us, rfl, by omega, ll, by omega, .inl (sqOf upd_same), hU4.kg (Same.kg S45), fun g => (by rw [g.1] at hz4; cases hz4), fun H6 S6 => ⟨true, rfl, ite2 (fun z => by cases z) (fun _ => ?_)⟩⟩
    have S46 := S45.trans S6
    have B6 := B4.same S46
    have b6 := b4.trans (Same.but S46)
    have hD6 := S46 _ _ hD4
    have ht6 := S46 _ _ ht4
    have hU6 := hU4.kg (Same.kg S46)
    clear hU3 hU4 ht3 ht4 hD3 hD4 B3 B4 b3 b4 b34 ht2 ht1 B2 b2
    refine ⟨.ref t, rfl, t, _, 0, _, rfl, rfl, .of ht6, rfl, .ref t, rfl, t, _, 1, _, rfl, rfl, .of ht6, rfl, .ref p, rfl, p, 0, rfl, B6, .inl rfl, fun z H7 hz7 _ lz7 B7 b67 => ?_⟩
    have hD7 := b67 _ _ hD6 Dp
    have ht7 := b67 _ _ ht6 (tp B6 ht6)
    have hU7 := hU6.kg (box_kg B6 b67)
    have b7 := b6.trans b67
    refine ⟨.ref D, rfl, D, us, rfl, .inl ⟨sqOf hD7, fun M nM => ?_⟩⟩
    have S78 := same_upd (o := .tup us) nM
    refine ⟨M, nh, z, nw, ks, us, rfl, lh, by omega, by omega, .inr (.of upd_same), hU7.kg (Same.kg S78), fun g => (by rw [g.2.2.1] at hz7; cases hz7), fun H9 S9 => ⟨true, rfl, ite2 (fun z => by cases z) (fun _ => ?_)⟩⟩
    have S79 := S78.trans S9
    have B9 := B7.same S79
    have b9 := b7.trans (Same.but S79)
    have hD9 := S79 _ _ hD7
    have ht9 := S79 _ _ ht7
    have hU9 := hU7.kg (Same.kg S79)
    clear hU6 hU7 ht6 ht7 hD6 hD7 B6 B7 b6 b7 b67
    refine ⟨.ref t, rfl, t, _, 0, _, rfl, rfl, .of ht9, rfl, ?_⟩
    refine ⟨1, rfl, .ref p, rfl, p, rfl, B9, fun b H10 b0 B10 b910 => ⟨_, b, rfl, rfl, ?_⟩⟩
    have ht10 := b910 _ _ ht9 (tp B9 ht9)
    have hD10 := b910 _ _ hD9 Dp
    have hU10 := hU9.kg (box_kg B9 b910)
    have b10 := b9.trans b910
    refine ⟨.ref t, rfl, t, _, 2, _, rfl, rfl, .of ht10, rfl, by show 0 ≤ sizeLine; omega, fun M nM => ?_⟩
    have S11 := same_upd (o := .lst []) nM
    refine ⟨M, nh, nl, -1 - b, [], [], rfl, lh, ll, by decide, .inl (sqOf upd_same), rfl, fun g => absurd g.2.1 (by omega), fun H12 S12' => ⟨true, rfl, ite2 (fun z => by cases z) (fun _ => ?_)⟩⟩
    have S12 := S11.trans S12'
    have B12 := B10.same S12
    have b12 := b10.trans (Same.but S12)
    have hD12 := S12 _ _ hD10
    have ht12 := S12 _ _ ht10
    have hU12 := hU10.kg (Same.kg S12)
    clear hU9 hU10 ht9 ht10 hD9 hD10 B9 B10 b9 b10 b910
    refine ⟨.ref D, rfl, .inl ⟨rfl, _, sqOf hD12⟩, ?_⟩
    refine ⟨.ref p, rfl, .ref D, rfl, D, us, rfl, .inl (sqOf hD12), _, _, rfl, rfl, p, (us.length : Int) + 1, rfl, B12, by omega, fun j H13 j0 j1 B13 b13' => ?_⟩
    have hD13 := b13' _ _ hD12 Dp
    have ht13 := b13' _ _ ht12 (tp B12 ht12)
    have hU13 := hU12.kg (box_kg B12 b13')
    have b13 := b12.trans b13'
    refine ⟨.ref t, rfl, t, _, 0, _, rfl, rfl, .of ht13, rfl, .ref t, rfl, t, _, 1, _, rfl, rfl, .of ht13, rfl, _, _, rfl, rfl, .int (sumOf (ks.map Nd.w)), rfl, _, _, rfl, rfl, .ref t, rfl, t, _, 2, _, rfl, rfl, .of ht13, rfl, fun y dx ny ndy ne => ?_⟩
    refine make H13 t0 _ [] [] _ y dx ⟨hA, by show 0 ≤ 1 + nw - sumOf (ks.map Nd.w); omega, hNm, by show (0 : Int) ≤ 1 + nw - sumOf (ks.map Nd.w); omega⟩ (by decide) (.inr (TG.e0 _)) rfl ny ndy ne fun H14 S14 g14 => ⟨rfl, ?_⟩
    have hD14 := S14 _ _ hD13
    have ht14 := S14 _ _ ht13
    have hU14 := hU13.kg (Same.kg S14)
    have b14 := b13.trans (Same.but S14)
    have B14 := B13.same S14
    refine ⟨D, us, j, .ref y, rfl, rfl, hD14, by omega, by omega, by omega, ?_⟩
    have kg15 : Kg H14 (L2.upd H14 D (.lst (us.take j.toNat ++ [.ref y] ++ us.drop j.toNat))) := Kg.upd hD14
    have hU15 := (hU14.ins (i := j.toNat) g14).kg kg15
    have ht15 : L2.upd H14 D (.lst (us.take j.toNat ++ [.ref y] ++ us.drop j.toNat)) t = some (.tup [.str nh, .int nw, .str nl, .ref L]) := by
      rw [upd_ne (fun e => by rw [e, hD14] at ht14; cases ht14)]; exact ht14
    have b15 : But p H (L2.upd H14 D (.lst (us.take j.toNat ++ [.ref y] ++ us.drop j.toNat))) := fun c o hc nc => by
      rw [upd_ne (ne_of_none hc nD)]; exact b14 c o hc nc
    have B15 : Box (L2.upd H14 D (.lst (us.take j.toNat ++ [.ref y] ++ us.drop j.toNat))) p := by
      obtain ⟨r, a, b, c, e, rest⟩ := B14
      exact ⟨r, a, b, c, by rw [upd_ne (Ne.symm Dp)]; exact e, rest⟩
    have hD15 : L2.upd H14 D (.lst (us.take j.toNat ++ [.ref y] ++ us.drop j.toNat)) D = some (.lst (us.take j.toNat ++ [.ref y] ++ us.drop j.toNat)) := upd_same
    generalize L2.upd H14 D (.lst (us.take j.toNat ++ [.ref y] ++ us.drop j.toNat)) = H15 at hU15 ht15 b15 B15 hD15
    clear hU14 hU13 hU12 hD14 hD13 hD12 ht14 ht13 ht12 B14 B13 B12 b12 b13 b14 b13' kg15 g14 S14
    refine ⟨.ref t, rfl, t, _, 0, _, rfl, rfl, .of ht15, rfl, .ref t, rfl, t, _, 1, _, rfl, rfl, .of ht15, rfl, .ref t, rfl, t, _, 2, _, rfl, rfl, .of ht15, rfl, .ref D, rfl, ?_⟩
    refine ⟨D, nh, nl, nw, _, _, rfl, lh, ll, ?_, .inl (sqOf hD15), hU15, fun g => ?_, fun H16 S16 => ⟨true, rfl, ite2 (fun z => by cases z) (fun _ => ?_)⟩⟩
    · have := hU15.len
      rw [← this, List.length_append, List.length_append, List.length_take, List.length_drop]
      show _ + 1 + _ ≤ 900
      omega
    · have := g.2.2.2
      rw [sum_ins] at this
      have this : sumOf (ks.map Nd.w) + (1 + nw - sumOf (ks.map Nd.w)) ≤ nw := this
      omega
    have ht16 := S16 _ _ ht15
    have B16 := B15.same S16
    have b16 := b15.trans (Same.but S16)
    refine ⟨.ref t, rfl, t, _, 0, _, rfl, rfl, .of ht16, rfl, .ref t, rfl, t, _, 1, _, rfl, rfl, .of ht16, rfl, .ref t, rfl, t, _, 2, _, rfl, rfl, .of ht16, rfl, by show 0 ≤ sizeLine; omega, fun M2 nM2 y2 dx2 ny2 ndy2 ne2 => ?_⟩
    refine make _ M2 nw [] [] _ y2 dx2 ⟨hA, a3, hNm, a3⟩ (by decide) (.inl (sqOf upd_same)) rfl ny2 ndy2 ne2 fun H17 S17' g17 => ⟨rfl, ?_⟩
    have S17 := (same_upd (o := .lst []) nM2).trans S17'
    have ht17 := S17 _ _ ht16
    refine ⟨.ref t, rfl, t, _, 0, _, rfl, rfl, .of ht17, rfl, .ref t, rfl, t, _, 1, _, rfl, rfl, .of ht17, rfl, .ref t, rfl, t, _, 2, _, rfl, rfl, .of ht17, rfl, by show 0 ≤ sizeLine; omega, fun M3 nM3 => ⟨by show 4 ≤ sizeLine; omega, fun T nT => ?_⟩⟩
    have S18 := (same_upd (o := .lst []) nM3).trans (same_upd (o := .tup [.str nh, .int nw, .str nl, .ref M3]) nT)
    have S168 := S17.trans S18
    refine ⟨.ref y2, .ref T, .mk nh nw nl [], rfl, g17.kg (Same.kg S18), ⟨T, M3, [], rfl, trivial, upd_same, trivial, same_upd nT _ _ upd_same, rfl⟩, ⟨a1, a2, a3, a3, by decide, trivial⟩, by show 0 + 1 ≤ 3; decide, ?_⟩
    exact q _ (B16.same S168) (b16.trans (Same.but S168))
end
end Tb
namespace Tb
open PySem PySem.Spec PyProof.Rows L2
open PySem.W (EachIs AllAlike Sortable dataLe)
abbrev sIsRow : Stmt := topS 30
abbrev NIsRow : List Str := ["prefix", "land", "rate"]
theorem scIsRow : FnScope NIsRow ["prefix", "land", "rate"] (defScope sIsRow) := ⟨rfl, rfl, rfl, by decide +kernel, rfl, by decide +kernel, by decide +kernel⟩
abbrev FunK (K : PySem.W.Frag) (f : Addr) (fd : FuncData) : Prop := FunD K "__init__" "Tariff.__init__" (defArgs sTInit) (defBody sTInit) (defScope sTInit) [] [("free", .int 0), ("share", .int 50)] f fd
/-- rows in a list (b) or a tuple -/
structure RIn (H : Hp) (r : Addr) (b : Bool) (bs : List (Addr × Rw)) : Prop where
  l : H r = some (if b = true then .lst (bs.map fun b => V.ref b.1) else .tup (bs.map fun b => V.ref b.1))
  t : ∀ b ∈ bs, H b.1 = some (.tup (rwV b.2))
theorem RIn.same {H H' : Hp} {r : Addr} {b : Bool} {bs : List (Addr × Rw)} (R : RIn H r b bs) (h : Same H H') : RIn H' r b bs := ⟨h _ _ R.l, fun b m => h _ _ (R.t b m)⟩
theorem RIn.but {H H' : Hp} {r x C dx : Addr} {b : Bool} {fs : List (Str × V)} {bs : List (Addr × Rw)} (R : RIn H r b bs) (hx : H x = some (.ins C dx fs)) (h : But x H H') : RIn H' r b bs := by
  refine ⟨h _ _ R.l fun e => ?_, fun c m => h _ _ (R.t c m) fun e => ?_⟩
  · have := R.l
    rw [e, hx] at this
    cases b <;> cases this
  · have := R.t c m
    rw [e, hx] at this
    cases this
theorem RIn.sq {K : PySem.W.Frag} {H : Hp} {r : Addr} {b : Bool} {bs : List (Addr × Rw)} (R : RIn H r b bs) : SqAny K H r b (bs.map fun b => V.ref b.1) := by
  have := R.l
  cases b with
  | true => exact sqOf this
  | false => exact .of this
def kk (p : Pr) : List Key := [Sum.inr p.1, Sum.inr p.2]
theorem kvR_keys (rs : List Rw) : (kvR rs).map Prod.fst = (rs.map Prod.fst).map kk := by
  unfold kvR
  rw [List.map_map, List.map_map]; rfl
theorem sort_kk (ps : List Pr) : (ps.map kk).mergeSort (dataLe false encT) = (ps.mergeSort le2).map kk := by
  rw [List.map_mergeSort]
  intro a _ b _
  rfl
/-- the rows by their keys -/
def sortR (rs : List Rw) : List Rw := rs.mergeSort fun x y => le2 x.1 y.1
theorem sortR_keys (rs : List Rw) : (sortR rs).map Prod.fst = (rs.map Prod.fst).mergeSort le2 := by
  unfold sortR
  rw [List.map_mergeSort]
  intro a _ b _
  rfl
theorem sortR_perm (rs : List Rw) : (sortR rs).Perm rs := List.mergeSort_perm _ _
theorem sortR_srt (rs : List Rw) : SrtR (sortR rs) := by
  have := PySem.W.sort_pairwise (le := fun x y : Rw => le2 x.1 y.1) ⟨fun a b c h1 h2 => le2_total.trans _ _ _ h1 h2, fun a b => le2_total.total _ _⟩ rs
  exact this
theorem sortR_at {rs : List Rw} (g : (rs.map Prod.fst).Nodup) {i : Nat} {k : Pr} (h : ((rs.map Prod.fst).mergeSort le2)[i]? = some k) : ∃ r, (sortR rs)[i]? = some r ∧ r.1 = k ∧ r ∈ rs ∧ lk ((sortR rs).take i) k = none := by
  rw [← sortR_keys, List.getElem?_map] at h
  cases e : (sortR rs)[i]? with
  | none => rw [e] at h; cases h
  | some r =>
    rw [e] at h
    have ek : r.1 = k := Option.some.inj h
    subst ek
    refine ⟨r, rfl, rfl, (sortR_perm rs).mem_iff.mp (List.mem_of_getElem? e), ?_⟩
    cases e2 : lk ((sortR rs).take i) r.1 with
    | none => rfl
    | some y =>
      exfalso
      obtain ⟨c, hc, ec, _⟩ := lk_some e2
      have nd : ((sortR rs).map Prod.fst).Nodup := ((sortR_perm rs).map Prod.fst).nodup_iff.mpr g
      rw [split_at e, List.map_append, List.map_cons, List.nodup_append] at nd
      exact nd.2.2 c.1 (List.mem_map.mpr ⟨c, hc, rfl⟩) r.1 List.mem_cons_self ec
theorem lk_mem {rs : List Rw} (g : (rs.map Prod.fst).Nodup) {r : Rw} (h : r ∈ rs) : lk rs r.1 = some r.2 := by
  cases e : lk rs r.1 with
  | none => exact absurd rfl (lk_none e h)
  | some x =>
    obtain ⟨c, hc, ec, rfl⟩ := lk_some e
    rw [key_one g hc h ec]
theorem kvR_none {rs : List Rw} {k : Pr} (h : lk rs k = none) : valV (kvR rs) (kk k) = none := by
  show valV (kvR rs) [Sum.inr k.1, Sum.inr k.2] = none
  rw [kvR_val, h]; rfl
theorem kvR_put {rs : List Rw} {r : Rw} (h : lk rs r.1 = none) : putK (kvR rs) (kk r.1) (oI r.2) = kvR (rs ++ [r]) := by
  rw [putK_new _ (kvR_none h)]
  unfold kvR
  rw [List.map_append]; rfl
theorem lk_take {rs : List Rw} (g : (rs.map Prod.fst).Nodup) {i : Nat} {r : Rw} (h : rs[i]? = some r) : lk (rs.take i) r.1 = none := by
  cases e2 : lk (rs.take i) r.1 with
  | none => rfl
  | some y =>
    exfalso
    obtain ⟨c, hc, ec, _⟩ := lk_some e2
    rw [split_at h, List.map_append, List.map_cons, List.nodup_append] at g
    exact g.2.2 c.1 (List.mem_map.mpr ⟨c, hc, rfl⟩) r.1 List.mem_cons_self ec

/-- a tariff with all that it has -/
structure TarX (C : Addr) (H : Hp) (j : Addr) (l : Str) (fr sh : Int) (rs : List Rw) : Prop where
  ex : ∃ dx d ss, H j = some (.ins C dx (tarF (.str l) (.int fr) (.int sh) d)) ∧ H d = some (.dT (kvR ss)) ∧ ss.Perm rs ∧ SrtR ss
  g : Gd rs
  n : rs.length ≤ 50
theorem TarX.of {C : Addr} {H : Hp} {j : Addr} {l : Str} {fr sh : Int} {rs : List Rw} (T : TarX C H j l fr sh rs) : TarOf C H j rs := by
  obtain ⟨⟨dx, d, ss, h1, h2⟩, g, n⟩ := T
  exact ⟨⟨dx, _, _, _, d, ss, h1, h2⟩, g, n⟩
theorem TarX.kp {C : Addr} {H H' : Hp} {j : Addr} {l : Str} {fr sh : Int} {rs : List Rw} (T : TarX C H j l fr sh rs) (h : Kp H H') : TarX C H' j l fr sh rs := by
  obtain ⟨⟨dx, d, ss, h1, h2, h3⟩, g, n⟩ := T
  exact ⟨⟨dx, d, ss, h _ _ h1 ni_ins, h _ _ h2 ni_dT, h3⟩, g, n⟩
theorem TarX.same {C : Addr} {H H' : Hp} {j : Addr} {l : Str} {fr sh : Int} {rs : List Rw} (T : TarX C H j l fr sh rs) (h : Same H H') : TarX C H' j l fr sh rs := T.kp (Same.kp h)
def rowB (r : Rw) : Bool := isAddr r.1.1 && (isLane r.1.2 && (match r.2 with | none => true | some i => decide (0 ≤ i)))
theorem rowB_iff {r : Rw} : rowB r = true ↔ okR r := by
  unfold rowB okR okP
  rw [Bool.and_eq_true, Bool.and_eq_true]
  cases r.2 with
  | none => exact ⟨fun h => ⟨h.1, h.2.1, nofun⟩, fun h => ⟨h.1, h.2.1, rfl⟩⟩
  | some i => exact ⟨fun h => ⟨h.1, h.2.1, fun j e => by cases e; exact of_decide_eq_true h.2.2⟩, fun h => ⟨h.1, h.2.1, decide_eq_true (h.2.2 i rfl)⟩⟩
def okT (l : Str) (fr sh : Int) (rs : List Rw) : Prop := isName l = true ∧ 0 ≤ fr ∧ 0 ≤ sh ∧ sh ≤ 100 ∧ Gd rs
theorem gd_snoc {rs : List Rw} {i : Nat} {r : Rw} (g : Gd (rs.take i)) (e : rs[i]? = some r) (ok : okR r) (n : lk (rs.take i) r.1 = none) : Gd (rs.take (i + 1)) := by
  rw [take_snoc e]
  refine ⟨fun x hx => ?_, ?_⟩
  · rcases List.mem_append.mp hx with hx | hx
    · exact g.1 x hx
    · rw [List.mem_singleton.mp hx]; exact ok
  · rw [List.map_append, List.nodup_append]
    refine ⟨g.2, by simp, fun a ha b hb z => ?_⟩
    have eb : b = r.1 := by simpa using hb
    rw [z, eb] at ha
    obtain ⟨c, hc, ec⟩ := List.mem_map.mp ha
    exact lk_none n hc ec
theorem no_gd {rs : List Rw} {i : Nat} {r : Rw} {y : Option Int} (e : rs[i]? = some r) (n : lk (rs.take i) r.1 = some y) : ¬ Gd rs := fun g => by
  have := lk_take g.2 e
  rw [n] at this; cases this
section
variable {P : Program} {w : World} {K : PySem.W.Frag} {mg : Str → Option Value} {base : Heap}
def spIsRow : Sp := fun vs H Q _ => ∃ r : Rw, vs = [.str r.1.1, .str r.1.2, oI r.2] ∧ r.1.1.length ≤ 1000 ∧ r.1.2.length ≤ 1000 ∧ ∀ H', Same H H' → Q (.bl (rowB r)) H'
theorem ok_isrow {f g1 g2 : Addr} {fd gd1 gd2 : FuncData} (F : Fun K "_is_row" "_is_row" sIsRow f fd) (B : Blt mg) (cIsAddr : CIsAddr P w K mg base g1 gd1) (cIsName : CIsName P w K mg base g2 gd2) : FnOk P w K mg base CX0 4 f fd ["prefix", "land", "rate"] spIsRow := by
  refine F.ok scIsRow (fun vs H Q E h => ?_) (fun cdv A outer s H vs Q E hr h => ?_)
  · obtain ⟨r, rfl, _⟩ := h
    rfl
  · obtain ⟨r, rfl, a1, a2, q⟩ := h
    refine ⟨_, (pss_one (ps_ret (pe_and (pe_call cIsAddr.G (hr.mono (by first | decide | omega)) (by rfl) cIsAddr.D.g cIsAddr.D.F.kp cIsAddr.D.b .nil pass0 (pa_cons (pv 0) pa_nil)) (pe_and (pe_or (pe_cmpR op_eq (pv 1) ((pe_txt (by rfl) B.hr)) (nomark _)) (pe_one (pe_call cIsName.G (hr.mono (by first | decide | omega)) (by rfl) cIsName.D.g cIsName.D.F.kp cIsName.D.b .nil pass0 (pa_cons (pv 1) pa_nil)))) (pe_one (pe_or (pe_cmpR op_eq (pv 2) ((pe_glob (by rfl) B.br (v := .non) rfl)) (nomark _)) (pe_one (pe_cmpR op_ge (pv 2) pe_int (nomark _))))))))), ?_⟩
    refine ⟨.str r.1.1, rfl, r.1.1, rfl, by omega, fun H1 S1 => ⟨_, rfl, ?_⟩⟩
    unfold rowB at q
    cases e1 : isAddr r.1.1 with
    | false =>
      rw [e1] at q
      exact ite2 (fun z => by cases z) (fun _ => q H1 S1)
    | true =>
    rw [e1, Bool.true_and] at q
    refine ite2 (fun _ => ?_) (fun z => absurd rfl z)
    have last : ∀ H2, Same H H2 → isLane r.1.2 = true → tOrV (tOp rEq (tVar 2) (tC .non)) (tOp (rI0 fun i j => .bl (decide (j ≤ i))) (tVar 2) (tC (.int 0))) [some (.str r.1.1), some (.str r.1.2), some (oI r.2)] H2 Q := fun H2 S2 e2 => by
      rw [e2, Bool.true_and] at q
      cases e : r.2 with
      | none =>
        rw [e] at q
        exact ⟨_, rfl, rfl, _, rfl, by show Q (.bl true) H2; exact q H2 S2⟩
      | some i =>
        rw [e] at q
        refine ⟨_, rfl, rfl, _, rfl, ?_⟩
        refine ite2 (fun z => by simp [oI] at z) (fun _ => ?_)
        exact ⟨_, rfl, i, 0, rfl, rfl, q H2 S2⟩
    refine ⟨_, rfl, rfl, _, rfl, ?_⟩
    refine ite2 (fun e => ?_) (fun e => ?_)
    · refine ⟨true, rfl, ite2 (fun _ => last H1 S1 ?_) (fun z => absurd rfl z)⟩
      unfold isLane
      rw [Bool.or_eq_true]
      exact .inl (by simpa using e)
    · refine ⟨.str r.1.2, rfl, r.1.2, rfl, by omega, fun H2 S2 => ⟨_, rfl, ?_⟩⟩
      have el : isLane r.1.2 = isName r.1.2 := by
        unfold isLane
        rw [decide_eq_false (fun z => e (by rw [z]; exact decide_eq_true rfl)), Bool.false_or]
      refine ite2 (fun n => last H2 (S1.trans S2) (by rw [el]; exact n)) (fun n => ?_)
      rw [el, Bool.eq_false_iff.mpr n] at q
      exact q H2 (S1.trans S2)
abbrev CIsRow (P : Program) (w : World) (K : PySem.W.Frag) (mg : Str → Option Value) (base : Heap) (g : Addr) (gd : FuncData) := C1 P w K mg base "_is_row" sIsRow ["prefix", "land", "rate"] 4 spIsRow g gd
/-- Tariff.__init__: a tariff, or the error -/
def spTInitX (C CI : Addr) : Sp := fun vs H Q E => ∃ (x dx r : Addr) (l : Str) (fr sh : Int) (b : Bool) (bs : List (Addr × Rw)), vs = [.ref x, .str l, .ref r, .int fr, .int sh] ∧ H x = some (.ins C dx []) ∧ RIn H r b bs ∧ bs.length ≤ 50 ∧ l.length ≤ 1000 ∧ (∀ c ∈ bs, c.2.1.1.length ≤ 1000 ∧ c.2.1.2.length ≤ 1000) ∧
  (okT l fr sh (bs.map (·.2)) → ∀ H', But x H H' → TarX C H' x l fr sh (bs.map (·.2)) → Q .non H') ∧
  (¬ okT l fr sh (bs.map (·.2)) → ∀ e H', But x H H' → H' e = some (.xd [(wWhat, .str wTariff)]) → E (.ref CI) (some e) H')
theorem ok_tinitX {f g1 g2 C CI gI : Addr} {fd gd1 gd2 gdI : FuncData} (F : FunK K f fd) (B : Blt mg) (TC : TCls K C) (cIsName : CIsName P w K mg base g1 gd1) (cIsRow : CIsRow P w K mg base g2 gd2) (R : EInv K mg CI gI gdI) : FnOk P w K mg base (L2.CX P w) 5 f fd ["self", "land", "rows", "free", "share"] (spTInitX C CI) := by
  have GI : FnOk P w K mg base CX0 1 gI gdI ["self", "what"] (spErr K wWhat) := ok_inv R.M.F
  refine F.ok scTInit (fun vs H Q E h => ?_) (fun cdv A outer s H vs Q E hr h => ?_)
  · obtain ⟨x, dx, r, l, fr, sh, b, bs, rfl, _⟩ := h
    rfl
  · obtain ⟨x, dx, r, l, fr, sh, b, bs, rfl, hx, hR, hn, ll, lr, qG, qB⟩ := h
    have hr2 : Room 2 _ := hr.mono (show 2 ≤ 4 by decide)
    have hu := hu_of hr
    have hz : sizeLine = 16777216 := rfl
    refine ⟨_, (pss_cons (ps_fld (pv 0) (pv 1) rfl)
      (pss_cons (ps_fld (pv 0) (pv 3) rfl)
      (pss_cons (ps_fld (pv 0) (pv 4) rfl)
      (pss_cons (ps_if (PW.pt (pw_or (pt_not (pt_val (pe_call cIsName.G (hr.mono (by first | decide | omega)) (by rfl) cIsName.D.g cIsName.D.F.kp cIsName.D.b .nil pass0 (pa_cons (pv 1) pa_nil)))) (pw_or (pt_cmpR op_lt (pv 3) pe_int (nomark _)) (pw_or1 (pt_not (pt_chain op_le op_le pe_int (pv 4) pe_int))))))
        (pss_one (ps_raise rfl (takes_of rfl rfl rfl rfl) (pmk_oex R.T.ox R.T.iC R.T.tI GI hr2 R.M.b .nil pass0 (by rfl) R.g (pa_cons pe_str pa_nil))))
        pss_nil)
      (pss_cons (ps_set (i := 5) scTInit.nd rfl (.inr rfl) pe_dnewT)
      (pss_cons (ps_for (passes_of rfl) rfl (pi_any (pv 2)) (pg_tup (by rfl) (pgs_cons (pg_name (i := 6) scTInit.nd rfl (.inl rfl)) (pgs_cons (pg_name (i := 7) scTInit.nd rfl (.inl rfl)) (pgs_cons (pg_name (i := 8) scTInit.nd rfl (.inl rfl)) pgs_nil))))
        (pss_cons (ps_if (PW.pt (pw_or (pt_not (pt_val (pe_call cIsRow.G (hr.mono (by first | decide | omega)) (by rfl) cIsRow.D.g cIsRow.D.F.kp cIsRow.D.b .nil pass0 (pa_cons (pv 6) (pa_cons (pv 7) (pa_cons (pv 8) pa_nil)))))) (pw_or1 (pt_cmp (pc_din hu (pe_tup (pa_cons (pv 6) (pa_cons (pv 7) pa_nil))) (pv 5))))))
          (pss_one (ps_raise rfl (takes_of rfl rfl rfl rfl) (pmk_oex R.T.ox R.T.iC R.T.tI GI hr2 R.M.b .nil pass0 (by rfl) R.g (pa_cons pe_str pa_nil))))
          pss_nil)
        (pss_one (ps_dput hu (pv 5) (pe_tup (pa_cons (pv 6) (pa_cons (pv 7) pa_nil))) (pv 8) (by rfl)))))
      (pss_one (ps_fld (pv 0) (pe_dcT (own := [("key", 9)]) (g := gName 9) (by rfl) hu scTInit.nd (pi_list (pe_callB (cr_sortedDT rfl hr.units) (by rfl) B.sorted PyProof.Rows.boot_sorted (pa_cons (pv 5) pa_nil))) (blkOk_by (N := NTInit) (sc := defScope sTInit) (by decide +kernel)) (fun _ _ _ _ _ => pg_name (i := 9) scTInit.nd rfl (Or.inl rfl))  (fun _ _ _ _ _ => pv 9) (fun _ _ _ _ _ => pe_dget hu (pv 5) (pv 9) (fun _ _ => rfl))) rfl)))))))), ?_⟩
    refine ⟨.str l, rfl, .ref x, rfl, x, C, dx, _, rfl, hx, TC.c, TC.n1, by decide, ?_⟩
    refine ⟨.int fr, rfl, .ref x, rfl, x, C, dx, _, rfl, upd_same, TC.c, TC.n2, (show (1 : Nat) < 1000 by decide), ?_⟩
    refine ⟨.int sh, rfl, .ref x, rfl, x, C, dx, _, rfl, upd_same, TC.c, TC.n3, (show (2 : Nat) < 1000 by decide), ?_⟩
    generalize eH : upd (upd (upd H x _) x _) x _ = H1
    have b1 : But x H H1 := by rw [← eH]; exact (But.upd.trans But.upd).trans But.upd
    have hx1 : H1 x = some (.ins C dx [(wLand, .str l), (wFree, .int fr), (wShare, .int sh)]) := by rw [← eH]; exact upd_same
    refine ⟨.str l, rfl, l, rfl, by omega, fun H2 S2 => ⟨_, rfl, ?_⟩⟩
    have er : ¬ okT l fr sh (bs.map (·.2)) → ∀ e2 H9, Same H2 H9 → H9 e2 = some (.xd [(wWhat, .str wTariff)]) → E (.ref CI) (some e2) H9 := fun ng e2 H9 S9 h9 => qB ng e2 H9 (b1.trans (Same.but (S2.trans S9))) h9
    cases nl : isName l with
    | false => exact ite2 (fun _ => ite2 (fun _ => ⟨by decide, err_made R.T (Q := E) fun e2 H9 S9 hd9 => er (fun g => by rw [g.1] at nl; cases nl) e2 H9 S9 hd9⟩) (fun z => absurd rfl z)) (fun z => absurd rfl z)
    | true =>
    refine ite2 (fun z => by cases z) (fun _ => ?_)
    refine ⟨.int fr, rfl, fr, 0, rfl, rfl, _, rfl, ?_⟩
    by_cases f0 : 0 ≤ fr
    rotate_left
    · rw [decide_eq_true (show fr < 0 by omega)]
      exact ite2 (fun _ => ite2 (fun _ => ⟨by decide, err_made R.T (Q := E) fun e2 H9 S9 hd9 => er (fun g => f0 g.2.1) e2 H9 S9 hd9⟩) (fun z => absurd rfl z)) (fun z => absurd rfl z)
    rw [decide_eq_false (show ¬ fr < 0 by omega)]
    refine ite2 (fun z => by cases z) (fun _ => ?_)
    refine ⟨.int sh, rfl, 0, sh, rfl, rfl, _, rfl, ?_⟩
    by_cases s0 : 0 ≤ sh
    rotate_left
    · rw [decide_eq_false s0]
      exact ite2 (fun z => by cases z) (fun _ => ⟨_, rfl, ite2 (fun _ => ⟨by decide, err_made R.T (Q := E) fun e2 H9 S9 hd9 => er (fun g => s0 g.2.2.1) e2 H9 S9 hd9⟩) (fun z => absurd rfl z)⟩)
    rw [decide_eq_true s0]
    refine ite2 (fun _ => ?_) (fun z => absurd rfl z)
    refine ⟨sh, 100, rfl, rfl, _, rfl, ?_⟩
    by_cases s1 : sh ≤ 100
    rotate_left
    · rw [decide_eq_false s1]
      exact ite2 (fun _ => ⟨by decide, err_made R.T (Q := E) fun e2 H9 S9 hd9 => er (fun g => s1 g.2.2.2.1) e2 H9 S9 hd9⟩) (fun z => absurd rfl z)
    rw [decide_eq_true s1]
    refine ite2 (fun z => by cases z) (fun _ => ?_)
    have b2 : But x H H2 := b1.trans (Same.but S2)
    have hx2 := S2 _ _ hx1
    intro D nD
    have Dx : x ≠ D := ne_of_none hx2 nD
    have b3 : But x H (upd H2 D (.dT [])) := b2.trans (Same.but (same_upd nD))
    have D0 : H D = none := by
      cases e : H D with
      | none => rfl
      | some o => rw [b2 D o e (Ne.symm Dx)] at nD; cases nD
    refine ⟨.ref r, rfl, r, b, rfl, ⟨_, (hR.but hx b3).sq⟩, ?_⟩
    refine for_it (walk_any (a := r) (b := b) (xs := bs.map fun b => V.ref b.1)) (fun i σ H' => (∃ y6 y7 y8, σ = [some (.ref x), some (.str l), some (.ref r), some (.int fr), some (.int sh), some (.ref D), y6, y7, y8, none]) ∧ But x H H' ∧ H' x = some (.ins C dx [(wLand, .str l), (wFree, .int fr), (wShare, .int sh)]) ∧ H' D = some (.dT (kvR ((bs.map (·.2)).take i))) ∧ Gd ((bs.map (·.2)).take i))
      ⟨⟨none, none, none, rfl⟩, b3, by rw [upd_ne Dx]; exact hx2, upd_same, nofun, List.nodup_nil⟩ (fun i σ H' _ hP => (hR.but hx hP.2.1).sq) (fun i v σ H3 H4 hi hP hy => ?_) (fun σ H3 hP => ?_)
    · obtain ⟨⟨y6, y7, y8, rfl⟩, b4, hx4, hD4, g4⟩ := hP
      obtain ⟨rfl, ev⟩ := hy
      obtain ⟨w1, ew, rfl⟩ := bs_at ev
      have er : (bs.map (·.2))[i]? = some w1.2 := by rw [List.getElem?_map, ew]; rfl
      have mw := List.mem_of_getElem? er
      have hw := (hR.but hx b4).t w1 (List.mem_of_getElem? ew)
      have le := lr w1 (List.mem_of_getElem? ew)
      have er4 : ¬ Gd (bs.map (·.2)) → ∀ e2 H9, Same H4 H9 → H9 e2 = some (.xd [(wWhat, .str wTariff)]) → E (.ref CI) (some e2) H9 := fun ng e2 H9 S9 h9 => qB (fun g => ng g.2.2.2.2) e2 H9 (b4.trans (Same.but S9)) h9
      refine ⟨w1.1, _, rfl, .of hw, rfl, .str w1.2.1.1, _, rfl, .str w1.2.1.2, _, rfl, oI w1.2.2, _, rfl, rfl, ?_⟩
      refine ⟨_, rfl, _, rfl, _, rfl, w1.2, rfl, le.1, le.2, fun H5 S5 => ⟨_, rfl, ?_⟩⟩
      cases rb : rowB w1.2 with
      | false => exact ite2 (fun _ => ite2 (fun _ => ⟨by decide, err_made R.T (Q := E) fun e2 H9 S9 hd9 => er4 (fun g => by rw [rowB_iff.mpr (g.1 _ mw)] at rb; cases rb) e2 H9 (S5.trans S9) hd9⟩) (fun z => absurd rfl z)) (fun z => absurd rfl z)
      | true =>
      refine ite2 (fun z => by cases z) (fun _ => ?_)
      refine ⟨_, rfl, _, rfl, by show 2 ≤ sizeLine; omega, fun T nT => ?_⟩
      have S6 := S5.trans (same_upd (o := .tup [.str w1.2.1.1, .str w1.2.1.2]) nT)
      have hD6 := S6 _ _ hD4
      refine ⟨.ref D, rfl, D, _, rfl, DGet.t (k := kk w1.2.1) hD6 upd_same, ?_⟩
      cases lt : lk ((bs.map (·.2)).take i) w1.2.1 with
      | some y =>
        have ev : valV (kvR ((bs.map (·.2)).take i)) (kk w1.2.1) = some (oI y) := by
          show valV (kvR _) [Sum.inr w1.2.1.1, Sum.inr w1.2.1.2] = _
          rw [kvR_val, lt]; rfl
        rw [ev]
        exact ⟨_, rfl, ite2 (fun _ => ⟨by decide, err_made R.T (Q := E) fun e2 H9 S9 hd9 => er4 (no_gd er lt) e2 H9 (S6.trans S9) hd9⟩) (fun z => absurd rfl z)⟩
      | none =>
      rw [kvR_none lt]
      refine ⟨_, rfl, ?_⟩
      refine ite2 (fun z => by cases z) (fun _ => ?_)
      refine ⟨_, rfl, .ref D, rfl, _, rfl, _, rfl, by show 2 ≤ sizeLine; omega, fun T2 nT2 => ?_⟩
      have S7 := S6.trans (same_upd (o := .tup [.str w1.2.1.1, .str w1.2.1.2]) nT2)
      have hD7 := S7 _ _ hD4
      refine ⟨D, _, rfl, DPut.t (k := kk w1.2.1) (v := oI w1.2.2) hD7 upd_same (by rw [kvR_len, List.length_take, List.length_map]; omega), ?_⟩
      refine ⟨⟨_, _, _, rfl⟩, fun c o hc n => ?_, ?_, ?_, ?_⟩
      · rw [upd_ne (ne_of_none hc D0)]
        exact S7 _ _ (b4 c o hc n)
      · rw [upd_ne Dx]; exact S7 _ _ hx4
      · rw [upd_same, kvR_put lt, take_snoc er]
      · exact gd_snoc g4 er (rowB_iff.mp rb) lt
    · obtain ⟨⟨y6, y7, y8, rfl⟩, b4, hx4, hD4, g4⟩ := hP
      have ln : (bs.map fun b => V.ref b.1).length = (bs.map (·.2)).length := by rw [List.length_map, List.length_map]
      rw [ln, List.take_length] at hD4 g4
      have q := qG ⟨nl, f0, s0, s1, g4⟩
      have hg := g4
      clear qG qB er
      generalize ers : bs.map (·.2) = rs at hD4 hg q
      have lrs : rs.length ≤ 50 := by rw [← ers, List.length_map]; exact hn
      have emap : (kvR rs).map (fun kv => encT kv.1) = (rs.map Prod.fst).map enc2 := by
        unfold kvR
        rw [List.map_map, List.map_map]; rfl
      refine ⟨.ref D, rfl, D, kvR rs, rfl, .of hD4, by rw [kvR_len]; omega, by rw [emap]; exact alike2 _, by rw [emap]; exact sortable2 _, fun kv hkv => ?_, fun p cs np ecs hcs => ?_⟩
      · obtain ⟨r0, _, rfl⟩ := List.mem_map.mp hkv
        exact Nat.le_trans (depth2 r0.1) (by decide)
      rw [kvR_keys, sort_kk] at ecs
      have lcs : cs.length = rs.length := by
        have := congrArg List.length ecs
        rw [List.length_map, List.length_map, List.length_mergeSort, List.length_map] at this
        exact this
      have Sp := same_upd (o := .lst (cs.map fun c => V.ref c.1)) np
      refine ⟨p, rfl, ⟨_, sqOf upd_same⟩, fun D2 nD2 => ?_⟩
      have S2' := Sp.trans (same_upd (o := .dT []) nD2)
      have hp2 : upd (upd H3 p (.lst (cs.map fun c => V.ref c.1))) D2 (.dT []) p = some (.lst (cs.map fun c => V.ref c.1)) := same_upd nD2 _ _ upd_same
      have D2n : H3 D2 = none := Sp.free nD2
      refine in_it (walk_list (a := p) (xs := cs.map fun c => V.ref c.1)) (fun i H' => Same H3 H' ∧ H' p = some (.lst (cs.map fun c => V.ref c.1)) ∧ H' D2 = some (.dT (kvR ((sortR rs).take i)))) ⟨S2', hp2, upd_same⟩ (fun i H' _ hP => sqOf hP.2.1) (fun i v H5 H6 hi hP hy => ?_) (fun H5 hP => ?_)
      · obtain ⟨S5, hp5, hD5⟩ := hP
        obtain ⟨rfl, ev⟩ := hy
        rw [List.getElem?_map] at ev
        cases ec : cs[i]? with
        | none => rw [ec] at ev; cases ev
        | some c =>
        rw [ec] at ev
        cases (Option.some.inj ev)
        have ek : (((rs.map Prod.fst).mergeSort le2).map kk)[i]? = some c.2 := by rw [← ecs, List.getElem?_map, ec]; rfl
        rw [List.getElem?_map] at ek
        cases e0 : ((rs.map Prod.fst).mergeSort le2)[i]? with
        | none => rw [e0] at ek; cases ek
        | some k0 =>
        rw [e0] at ek
        have ek : kk k0 = c.2 := Option.some.inj ek
        obtain ⟨r0, er0, rk, mr, ln0⟩ := sortR_at hg.2 e0
        subst rk
        have hc5 := S5 _ _ (hcs c (List.mem_of_getElem? ec))
        rw [← ek] at hc5
        refine ⟨rfl, .ref c.1, rfl, .ref D, rfl, .ref c.1, rfl, D, oI r0.2, rfl, ?_, ?_⟩
        · have ev2 : valV (kvR rs) (kk r0.1) = some (oI r0.2) := by
            show valV (kvR rs) [Sum.inr r0.1.1, Sum.inr r0.1.2] = _
            rw [kvR_val, lk_mem hg.2 mr]; rfl
          rw [← ev2]
          exact DGet.t (S5 _ _ hD4) hc5
        · refine ⟨kvR ((sortR rs).take i), kk r0.1, c.1, rfl, hc5, hD5, by rw [kvR_len, List.length_take, (sortR_perm rs).length_eq]; omega, fun b o hb => ?_, ?_, ?_⟩
          · rw [upd_ne (ne_of_none hb D2n)]; exact S5 _ _ hb
          · rw [upd_ne (fun z => by rw [z, hD5] at hp5; cases hp5)]; exact hp5
          · rw [upd_same, kvR_put ln0, take_snoc er0]
      · obtain ⟨S5, hp5, hD5⟩ := hP
        rw [List.length_map, lcs, ← (sortR_perm rs).length_eq, List.take_length] at hD5
        have hx5 := S5 _ _ hx4
        refine ⟨.ref x, rfl, x, C, dx, _, rfl, hx5, TC.c, TC.n4, (show (3 : Nat) < 1000 by decide), ?_⟩
        refine q _ ((b4.trans (Same.but S5)).trans But.upd) ⟨⟨dx, D2, sortR rs, upd_same, ?_, sortR_perm rs, sortR_srt rs⟩, hg, lrs⟩
        rw [upd_ne (fun z => by rw [z, hx5] at hD5; cases hD5)]
        exact hD5
end
end Tb
namespace Tb
open PySem PySem.Spec PyProof.Rows L2
abbrev sTRateOf : Stmt := inClass (topS 31) 4
abbrev NTRateOf : List Str := ["self", "good"]
theorem scTRateOf : FnScope NTRateOf ["self", "good"] (defScope sTRateOf) := ⟨rfl, rfl, rfl, by decide +kernel, rfl, by decide +kernel, by decide +kernel⟩
abbrev sTAdmits : Stmt := inClass (topS 31) 3
abbrev NTAdmits : List Str := ["self", "goods", "good"]
theorem scTAdmits : FnScope NTAdmits ["self", "goods"] (defScope sTAdmits) := ⟨rfl, rfl, rfl, by decide +kernel, rfl, by decide +kernel, by decide +kernel⟩
abbrev sTRef : Stmt := topS 58
abbrev NTRef : List Str := ["land", "rows", "limit", "portion", "e", "word", "base", "other"]
theorem scTRef : FnScope NTRef ["land", "rows", "limit", "portion"] (defScope sTRef) := ⟨rfl, rfl, rfl, by decide +kernel, rfl, by decide +kernel, by decide +kernel⟩
abbrev sTariffIs : Stmt := topS 56
abbrev NTariffIs : List Str := ["tariff", "land", "rows", "limit", "portion", "due", "k", "told"]
theorem scTariffIs : FnScope NTariffIs ["tariff", "land", "rows", "limit", "portion"] (defScope sTariffIs) := ⟨rfl, rfl, rfl, by decide +kernel, rfl, by decide +kernel, by decide +kernel⟩
abbrev psT : List Str := ["self", "land", "rows", "free", "share"]
theorem kb_both {K : PySem.W.Frag} {f : Addr} {fd : FuncData} (F : FunK K f fd) : ∃ g, KBn K fd psT 3 ["free", "share"] g (fun vs zs => vs ++ zs) := by
  obtain ⟨mv, h⟩ := F.kbinds0 (ps := psT) 3 ["free", "share"] [] (fun us _ ws => us ++ ws) (List.cons_ne_nil _ _) nofun (fun r1 _ r3 => r1.append r3) fun D doc pm an cdv ct us mv ws l1 l2 l3 => match us, ws, l1, l3 with
    | [_, _, _], [_, _], _, _ => rfl
  exact ⟨_, h⟩
theorem bindsT {K : PySem.W.Frag} {f : Addr} {fd : FuncData} (F : FunK K f fd) : ∃ ds, Vals [V.int 0, V.int 50] ds ∧ Binds K fd psT ds :=
  F.binds0 (ps := psT) 3 (List.cons_ne_nil _ _) rfl fun D doc pm an cdv ct us ks l1 l2 => match us, ks, l1, l2 with
    | [_, _, _], [_, _], _, _ => ⟨_, _, _, _, _, _, rfl, rfl, ⟨_, _, _, _, _, _, rfl, rfl, rfl⟩⟩
theorem tarF_land {a b c : V} {d : Addr} : (tarF a b c d).lookup wLand = some a := by
  unfold tarF
  rw [List.lookup_cons, beq_self_eq_true]
theorem tarF_free {a b c : V} {d : Addr} : (tarF a b c d).lookup wFree = some b := by
  unfold tarF
  rw [List.lookup_cons, show (wFree == wLand) = false by decide +kernel, List.lookup_cons, beq_self_eq_true]
theorem tarF_share {a b c : V} {d : Addr} : (tarF a b c d).lookup wShare = some c := by
  unfold tarF
  rw [List.lookup_cons, show (wShare == wLand) = false by decide +kernel, List.lookup_cons, show (wShare == wFree) = false by decide +kernel, List.lookup_cons, beq_self_eq_true]
theorem gds_cs {K : PySem.W.Frag} {C : Addr} {H : Hp} : ∀ {ks : List Nd} {vs : List V}, GdsAt K C H ks vs → ∃ cs : List (Nd × Addr), ks = cs.map (·.1) ∧ vs = cs.map (fun c => V.ref c.2) ∧ ∀ c ∈ cs, GdAt K C H c.1 (.ref c.2)
  | [], _, h => ⟨[], rfl, h, nofun⟩
  | k :: ks, _, ⟨v, us, e, r, t⟩ => by
    obtain ⟨cs, e1, e2, h⟩ := gds_cs t
    obtain ⟨t2, _, _, _, ev, _⟩ := r.ref
    subst ev
    refine ⟨(k, t2) :: cs, by rw [e1]; rfl, by rw [e, e2]; rfl, fun c hc => ?_⟩
    rcases List.mem_cons.mp hc with rfl | hc
    · exact r
    · exact h c hc
theorem sqAny_same {K : PySem.W.Frag} {H H' : Hp} {p : Addr} {b : Bool} {us : List V} (h : SqAny K H p b us) (S : Same H H') : SqAny K H' p b us := by
  cases b with
  | true => exact sqL_same h S
  | false => exact SqT.kg h (Same.kg S)
theorem flat_oI (xs : List (Option Int)) : (xs.map oI).all flatV = true := by
  rw [List.all_eq_true]
  intro v hv
  obtain ⟨x, _, rfl⟩ := List.mem_map.mp hv
  cases x <;> rfl
theorem in_oI (xs : List (Option Int)) : (!inV .non (xs.map oI)) = xs.all fun x => !decide (x = none) := by
  unfold inV
  rw [List.any_map, List.all_eq_not_any_not]
  congr 1
  congr 1
  funext x
  cases x <;> rfl
theorem smp_oI (x : Option Int) : Smp (oI x) := by
  cases x with
  | none => exact .inl rfl
  | some i => exact .inr (.inr ⟨i, rfl⟩)
theorem rows_one {rs ps qs : List Rw} (g : Gd rs) (p1 : ps.Perm rs) (p2 : qs.Perm rs) (s1 : SrtR ps) (s2 : SrtR qs) : ps = qs :=
  List.Perm.eq_of_pairwise (le := fun x y : Rw => le2 x.1 y.1 = true) (fun x y mx my h1 h2 => key_one g.2 (p1.mem_iff.mp mx) (p2.mem_iff.mp my) (le2_anti h1 h2)) s1 s2 (p1.trans p2.symm)
section
variable {P : Program} {w : World} {K : PySem.W.Frag} {mg : Str → Option Value} {base : Heap} {C pw fw CI fI t0 : Addr} {gdw fdI : FuncData} {ds0 : List Value} {gI CP c1 c2 c3 c4 c5 c6 c7 : Addr} {gdI : FuncData} {CT fT : Addr} {fdT : FuncData}
/-- the class Tariff, to be called -/
structure TarC (P : Program) (w : World) (K : PySem.W.Frag) (mg : Str → Option Value) (base : Heap) (CT CI fT : Addr) (fdT : FuncData) : Prop where
  MK : Mk K CT fT
  F : FunK K fT fdT
  G : FnOk P w K mg base (L2.CX P w) 5 fT fdT psT (spTInitX CT CI)
  g : mg "Tariff" = some (.ref CT)
theorem TarC.R2 (T : TarC P w K mg base CT CI fT fdT) : FnR P w K mg base (L2.CX P w) 5 fT (fun vs H Q E => spTInitX CT CI (vs ++ [.int 0, .int 50]) H Q E) := by
  obtain ⟨ds, v, b⟩ := bindsT T.F
  exact (T.G.raw b v).imp fun vs H Q E h => h
def spTRef : Sp := fun vs H Q _ => ∃ (r : Addr) (l : Str) (fr sh : Int) (b : Bool) (bs : List (Addr × Rw)), vs = [.str l, .ref r, .int fr, .int sh] ∧ RIn H r b bs ∧ bs.length ≤ 50 ∧ l.length ≤ 1000 ∧ (∀ c ∈ bs, c.2.1.1.length ≤ 1000 ∧ c.2.1.2.length ≤ 1000) ∧ ¬ okT l fr sh (bs.map (·.2)) ∧ ∀ H', Same H H' → Q (.bl true) H'
theorem ok_tref {f : Addr} {fd : FuncData} (F : Fun K "_law_tariff_refused" "_law_tariff_refused" sTRef f fd) (TT' : TarC P w K mg base CT CI fT fdT) (R : Errs K mg CI gI gdI CP c1 c2 c3 c4 c5 c6 c7) (B : Blt mg) : FnOk P w K mg base CX0 7 f fd ["land", "rows", "limit", "portion"] spTRef := by
  obtain ⟨gk, kb⟩ := kb_both TT'.F
  refine F.ok scTRef (fun vs H Q E h => ?_) (fun cdv A outer s H vs Q E hr h => ?_)
  · obtain ⟨r, l, fr, sh, b, bs, rfl, _⟩ := h
    rfl
  · obtain ⟨r, l, fr, sh, b, bs, rfl, hR, hn, ll, lr, ng, q⟩ := h
    have hr6 : Room 6 _ := hr
    refine ⟨_, pss_cons (ps_try_as (i := 4) rfl rfl scTRef.nd rfl rfl ⟨rfl, by decide, .inl R.I.g⟩ takes0
        (fun W pn xe tk _ => pss_one (ps_expr (pe_makeKS TT'.MK TT'.G hr6 (by rfl) TT'.g kb (fun σ => passAt tk σ) (pa_cons (pv 0) (pa_cons (pv 1) pa_nil)) (pk_cons (pv 2) (pk_cons (pv 3) pk_nil)))))
        (fun a oe cls d pn hz hf => pss_cons (ps_set (i := 5) scTRef.nd rfl (.inl rfl) (pe_and (pe_callB (id := "isinstance") (r := rIsi K) call_isi (by rfl) B.isi (by decide +kernel) (pa_cons (pe_xf R.I.T.xf R.I.T.no hz hf (pv 4)) (pa_cons (pe_bltn (by rfl) B.str PyProof.Rows.boot_str (v := .ty "str") rfl) pa_nil))) (pe_one (pe_cmpR op_eq (pe_xf R.I.T.xf R.I.T.no hz hf (pv 4)) pe_str (nomark _)))))
          (pss_cons (ps_set (i := 6) scTRef.nd rfl (.inl rfl) (pe_and (pe_callB (id := "isinstance") (r := rIsX K CI a cls d) (call_isX R.I.T hz hf) (by rfl) B.isi (by decide +kernel) (pa_cons (pv 4) (pa_cons (pe_glob (by rfl) R.gP (v := .ref CP) rfl) pa_nil))) (pe_one (pe_callB (id := "isinstance") (r := rIsX K CI a cls d) (call_isX R.I.T hz hf) (by rfl) B.isi (by decide +kernel) (pa_cons (pv 4) (pa_cons (pe_bltn (by rfl) R.ve (by decide +kernel) (v := .ty "ValueError") (u := .type "ValueError") rfl) pa_nil))))))
          (pss_cons (ps_set (i := 7) scTRef.nd rfl (.inl rfl) (pe_callB (id := "isinstance") (r := rIsXT K CI a cls d) (call_isXT R.I.T hz hf) (by rfl) B.isi (by decide +kernel) (pa_cons (pv 4) (pa_cons (pe_tup (pa_cons (pe_glob (by rfl) R.g1 (v := .ref c1) rfl) (pa_cons (pe_glob (by rfl) R.g2 (v := .ref c2) rfl) (pa_cons (pe_glob (by rfl) R.g3 (v := .ref c3) rfl) (pa_cons (pe_glob (by rfl) R.g4 (v := .ref c4) rfl) (pa_cons (pe_glob (by rfl) R.g5 (v := .ref c5) rfl) (pa_cons (pe_glob (by rfl) R.g6 (v := .ref c6) rfl) (pa_cons (pe_glob (by rfl) R.g7 (v := .ref c7) rfl) pa_nil)))))))) pa_nil))))
          (pss_one (ps_ret (pe_and (pv 5) (pe_and (pv 6) (pe_one (pe_not (pv 7)))))))))))
      (pss_one (ps_ret pe_bl)), ?_⟩
    refine ⟨.str l, rfl, .ref r, rfl, .int fr, rfl, .int sh, rfl, rfl, rfl, fun x dx nx ndx ne => ?_⟩
    have S0 := made_same (C := CT) nx ndx ne
    refine ⟨x, dx, r, l, fr, sh, b, bs, rfl, upd_same, hR.same S0, hn, ll, lr, fun g => absurd g ng, fun _ e H1 bx he => ?_⟩
    have S1 : Same H H1 := made_bx nx S0 bx
    refine ⟨true, R.ex, fun _ a ha => ?_, fun z => by cases z⟩
    clear ha
    have lw : List.lookup wWhat [(wWhat, V.str wTariff)] = some (.str wTariff) := rfl
    refine ⟨.ref a, rfl, rfl, rfl, e, _, .str wTariff, rfl, he, lw, .str wTariff, .ty "str", .type "str", .type "str", true, rfl, .ty _, .base (.str _), kit_ty (by decide +kernel), true, rfl, ?_⟩
    refine ⟨.ref a, rfl, rfl, rfl, e, _, .str wTariff, rfl, he, lw, rfl, ?_⟩
    rw [decide_eq_true rfl]
    refine ⟨.ref a, rfl, rfl, .ref CP, .ref CP, true, e, _, rfl, .own _, rfl, he, R.kP, true, rfl, ?_⟩
    refine ⟨.ref a, rfl, rfl, .ty "ValueError", .type "ValueError", true, e, _, rfl, .ty _, rfl, he, R.kV, ?_⟩
    refine ⟨.ref a, rfl, by show 7 ≤ sizeLine; decide, fun tp ntp => ?_⟩
    have hd2 : ∀ o, (upd H1 tp o) e = some (.xd [(wWhat, .str wTariff)]) := fun o => by rw [upd_ne (ne_of_none he ntp)]; exact he
    refine ⟨rfl, tp, _, [.ref c1, .ref c2, .ref c3, .ref c4, .ref c5, .ref c6, .ref c7], false, e, _, rfl, upd_same, .cons (.own _) (.cons (.own _) (.cons (.own _) (.cons (.own _) (.cons (.own _) (.cons (.own _) (.cons (.own _) .nil)))))), rfl, hd2 _, R.kO, ?_⟩
    exact ⟨.bl true, rfl, true, rfl, .bl true, rfl, true, rfl, .bl false, rfl, false, rfl, q _ (S1.trans (same_upd ntp))⟩

variable {pTs fTs fTr fTo : Addr} {dTs dTr dTo dO gO : FuncData} {aO : Addr} {dvO : List V}
def spRateOf (K : PySem.W.Frag) (C CG : Addr) : Sp := fun vs H Q _ => ∃ (j : Addr) (v : V) (n : Nd) (l : Str) (fr sh : Int) (rs : List Rw), vs = [.ref j, v] ∧ TarX C H j l fr sh rs ∧ GdAt K CG H n v ∧ n.ok ∧ n.d ≤ 3 ∧ 0 ≤ sh ∧ sh ≤ 100 ∧ ∀ H', Same H H' → Q (oI (rate rs n.h (certOf sh n).l)) H'
theorem ok_rateof {f : Addr} {fd : FuncData} (F : Fun K "_rate_of" "Tariff._rate_of" sTRateOf f fd) (T : GCls K C pw fw gdw) (TC : TCls K CT) (TRm : Meth K CT "rate" fTr) (bTr : Binds K dTr ["self", "heading", "origin"] []) (FTr : FnOk P w K mg base CX0 1 fTr dTr ["self", "heading", "origin"] (spTRate CT)) (cOPaper : C1D P w K mg base "origin_paper" sOPaper ["good", "share"] dvO 7 (spOPaper K C 3) aO dO) : FnOk P w K mg base CX0 8 f fd ["self", "good"] (spRateOf K CT C) := by
  refine F.ok scTRateOf (fun vs H Q E h => ?_) (fun cdv A outer s H vs Q E hr h => ?_)
  · obtain ⟨j, v, n, l, fr, sh, rs, rfl, _⟩ := h
    rfl
  · obtain ⟨j, v, n, l, fr, sh, rs, rfl, hT, hG, hok, hd, s0, s1, q⟩ := h
    refine ⟨_, (pss_one (ps_ret (pe_meth (pv 0) TC.c TRm FTr (hr.mono (by first | decide | omega)) bTr .nil pass0 (pa_cons (pe_fld (pv 1) rfl) (pa_cons (pe_ix ix_tup (pe_call cOPaper.G (hr.mono (by first | decide | omega)) (by rfl) cOPaper.D.g cOPaper.D.F.kp cOPaper.D.b .nil pass0 (pa_cons (pv 1) (pa_cons (pe_fld (pv 0) rfl) pa_nil))) pe_int (fun _ _ => rfl)) pa_nil))))), ?_⟩
    obtain ⟨a, dg, Tp, us, rfl, ha, hTp, hks⟩ := hG.ref
    obtain ⟨dx, d, ss, hj, hd2, hp, hs⟩ := hT.ex
    refine ⟨.ref j, rfl, j, dx, _, rfl, hj, rfl, .ref a, rfl, a, C, dg, _, _, rfl, ha, T.c, T.nh, fld_nd.1, .ref a, rfl, .ref j, rfl, j, CT, dx, _, _, rfl, hj, TC.c, TC.n3, tarF_share, ?_⟩
    refine ⟨.ref a, n, sh, rfl, hG, hok, hd, s0, s1, fun t H1 S1 hU => ?_⟩
    obtain ⟨t', L, ws, e, _, ht, _⟩ := (PpU.at (S' := All) (fun _ _ => trivial) hU).ref
    cases e
    refine ⟨t, _, 1, _, rfl, rfl, .of ht, rfl, ?_⟩
    have lh : n.h.length ≤ 1000 := by
      cases n
      have := hok.1.2.1
      show Str.length _ ≤ _
      rw [len_tl]; exact Nat.le_trans this (by decide)
    exact ⟨j, n.h, (certOf sh n).l, rs, rfl, (hT.same S1).of, lh, fun H2 S2 => q H2 (S1.trans S2)⟩
def spAdmits (K : PySem.W.Frag) (C CG : Addr) : Sp := fun vs H Q _ => ∃ (j p : Addr) (b : Bool) (ns : List Nd) (us : List V) (l : Str) (fr sh : Int) (rs : List Rw), vs = [.ref j, .ref p] ∧ TarX C H j l fr sh rs ∧ SqAny K H p b us ∧ GdsAt K CG H ns us ∧ (∀ n ∈ ns, n.ok ∧ n.d ≤ 2) ∧ ns.length ≤ 900 ∧ 0 ≤ sh ∧ sh ≤ 100 ∧ ∀ H', Same H H' → Q (.bl (letIn rs sh ns)) H'
theorem ok_admits {f : Addr} {fd : FuncData} (F : Fun K "admits" "Tariff.admits" sTAdmits f fd) (TC : TCls K CT) (TOm : Meth K CT "_rate_of" fTo) (bTo : Binds K dTo ["self", "good"] []) (FTo : FnOk P w K mg base CX0 8 fTo dTo ["self", "good"] (spRateOf K CT C)) (B : Blt mg) : FnOk P w K mg base CX0 9 f fd ["self", "goods"] (spAdmits K CT C) := by
  refine F.ok scTAdmits (fun vs H Q E h => ?_) (fun cdv A outer s H vs Q E hr h => ?_)
  · obtain ⟨j, p, b, ns, us, l, fr, sh, rs, rfl, _⟩ := h
    rfl
  · obtain ⟨j, p, b, ns, us, l, fr, sh, rs, rfl, hT, hp, hG, hok, ln, s0, s1, q⟩ := h
    refine ⟨_, (pss_one (ps_ret (pe_cmpR op_notIn_seq ((pe_glob (by rfl) B.br (v := .non) rfl)) (pe_lc (own := [("good", 2)]) (g := gName 2) (by rfl) scTAdmits.nd (pi_any (pv 1)) (blkOk_by (N := NTAdmits) (sc := defScope sTAdmits) (by decide +kernel)) (fun _ _ _ _ _ => pg_name (i := 2) scTAdmits.nd rfl (Or.inl rfl)) (fun _ _ _ _ _ => pts_nil) (fun _ _ _ _ _ => pe_meth (pv 0) TC.c TOm FTo (hr.mono (by first | decide | omega)) bTo .nil pass0 (pa_cons (pv 2) pa_nil))) (by rfl)))), ?_⟩
    obtain ⟨cs, ek, rfl, hcs⟩ := gds_cs hG
    have lc : cs.length ≤ 1000 := by rw [ek, List.length_map] at ln; omega
    obtain ⟨dx, d, ss, hj, hd2, hpm, hs⟩ := hT.ex
    have wk := walk_any (K := K) (a := p) (b := b) (xs := cs.map fun c => V.ref c.2)
    rw [List.length_map] at wk
    refine ⟨.ref p, rfl, p, b, rfl, ⟨_, hp⟩, fun D nD => lc_w (fun _ => true) (fun c => oI (rate rs c.1.h (certOf sh c.1).l)) wk (fun H' S => sqAny_same hp S) (fun i H' x H'' h => h) nD lc (fun _ => rfl) (fun c hc H3 S3 R hR => hR H3 (Same.refl _)) (fun c hc H3 S3 R hR => ?_) (fun H1 S1 hD => ?_)⟩
    · have okc := hok c.1 (by rw [ek]; exact List.mem_map.mpr ⟨c, hc, rfl⟩)
      refine ⟨.ref j, rfl, j, dx, _, rfl, S3 _ _ hj, rfl, .ref c.2, rfl, j, .ref c.2, c.1, l, fr, sh, rs, rfl, hT.same S3, (hcs c hc).kg (Same.kg S3), okc.1, by omega, s0, s1, fun H4 S4 => hR H4 S4⟩
    have ed : (cs.filter fun _ => true).map (fun c => oI (rate rs c.1.h (certOf sh c.1).l)) = (cs.map fun c => rate rs c.1.h (certOf sh c.1).l).map oI := by
      rw [filt_true, List.map_map]; rfl
    rw [ed] at hD
    refine ⟨D, _, rfl, .inl (sqOf hD), rfl, flat_oI _, ?_⟩
    show Q (.bl (!inV .non _)) H1
    rw [in_oI]
    have : ((cs.map fun c => rate rs c.1.h (certOf sh c.1).l).all fun x => !decide (x = none)) = letIn rs sh ns := by
      unfold letIn
      rw [ek, List.all_map, List.all_map]; rfl
    rw [this]
    exact q H1 S1
abbrev CTRef (P : Program) (w : World) (K : PySem.W.Frag) (mg : Str → Option Value) (base : Heap) (g : Addr) (gd : FuncData) := C1 P w K mg base "_law_tariff_refused" sTRef ["land", "rows", "limit", "portion"] 7 spTRef g gd
def spTarIs (C : Addr) : Sp := fun vs H Q _ => ∃ (j a : Addr) (l : Str) (fr sh : Int) (bs : List (Addr × Rw)), vs = [.ref j, .str l, .ref a, .int fr, .int sh] ∧ TarX C H j l fr sh (bs.map (·.2)) ∧ LR H a bs ∧ ∀ H', Same H H' → Q (.bl true) H'
theorem ok_taris {f g1 : Addr} {fd gd1 : FuncData} (F : Fun K "_law_tariff_is" "_law_tariff_is" sTariffIs f fd) (TC : TCls K CT) (cLIs : CLIs P w K mg base g1 gd1) (TRp : PropOf K CT "rows" pTs fTs) (bTs : Binds K dTs ["self"] []) (FTs : FnOk P w K mg base CX0 1 fTs dTs ["self"] (spTRows CT)) (B : Blt mg) : FnOk P w K mg base CX0 3 f fd ["tariff", "land", "rows", "limit", "portion"] (spTarIs CT) := by
  refine F.ok scTariffIs (fun vs H Q E h => ?_) (fun cdv A outer s H vs Q E hr h => ?_)
  · obtain ⟨j, a, l, fr, sh, bs, rfl, _⟩ := h
    rfl
  · obtain ⟨j, a, l, fr, sh, bs, rfl, hT, hR, q⟩ := h
    have hz : sizeLine = 16777216 := rfl
    refine ⟨_, (pss_cons (ps_if (PW.pt (pw_or (pt_not (pt_val (pe_call cLIs.G (hr.mono (by first | decide | omega)) (by rfl) cLIs.D.g cLIs.D.F.kp cLIs.D.b .nil pass0 (pa_cons (pe_fld (pv 0) rfl) (pa_cons (pv 1) pa_nil))))) (pw_or1 (pt_not (pt_val (pe_call cLIs.G (hr.mono (by first | decide | omega)) (by rfl) cLIs.D.g cLIs.D.F.kp cLIs.D.b .nil pass0 (pa_cons (pe_fld (pv 0) rfl) (pa_cons (pv 3) pa_nil))))))))
        (pss_one (ps_ret pe_bl))
        pss_nil)
      (pss_cons (ps_if (pt_not (pt_val (pe_call cLIs.G (hr.mono (by first | decide | omega)) (by rfl) cLIs.D.g cLIs.D.F.kp cLIs.D.b .nil pass0 (pa_cons (pe_fld (pv 0) rfl) (pa_cons (pv 4) pa_nil)))))
        (pss_one (ps_ret pe_bl))
        pss_nil)
      (pss_cons (ps_set (i := 5) scTariffIs.nd rfl (.inl rfl) (pe_callB cr_sortRw (by rfl) B.sorted PyProof.Rows.boot_sorted (pa_cons (pv 2) pa_nil)))
      (pss_cons (ps_if (PW.pt (pw_or (pt_not (pt_val (pe_callB call_isi (by rfl) B.isi (by decide +kernel) (pa_cons (pe_prop (pv 0) TC.c TRp FTs (hr.mono (by first | decide | omega)) bTs .nil pass0 (by rfl)) (pa_cons (pe_bltn (by rfl) B.tuple (by decide +kernel) (v := .ty "tuple") (u := .type "tuple") rfl) pa_nil))))) (pw_or1 (pt_cmpR op_ne (pe_callB call_len_seq (by rfl) B.len PySem.boot_len (pa_cons (pe_prop (pv 0) TC.c TRp FTs (hr.mono (by first | decide | omega)) bTs .nil pass0 (by rfl)) pa_nil)) (pe_callB call_len_seq (by rfl) B.len PySem.boot_len (pa_cons (pv 5) pa_nil)) (nomark _)))))
        (pss_one (ps_ret pe_bl))
        pss_nil)
      (pss_cons (ps_for PassesOwn.never rfl (pi_range1 (by rfl) B.range (pa_cons (pe_callB call_len_seq (by rfl) B.len PySem.boot_len (pa_cons (pv 5) pa_nil)) pa_nil)) (pg_name (i := 6) scTariffIs.nd rfl (.inl rfl))
        (pss_cons (ps_set (i := 7) scTariffIs.nd rfl (.inl rfl) (pe_ix ix_tup (pe_prop (pv 0) TC.c TRp FTs (hr.mono (by first | decide | omega)) bTs .nil pass0 (by rfl)) (pv 6) (fun _ _ => rfl)))
        (pss_cons (ps_if (PW.pt (pw_or (pt_not (pt_val (pe_callB call_isi (by rfl) B.isi (by decide +kernel) (pa_cons (pv 7) (pa_cons (pe_bltn (by rfl) B.tuple (by decide +kernel) (v := .ty "tuple") (u := .type "tuple") rfl) pa_nil))))) (pw_or (pt_cmpR op_ne (pe_callB call_len_seq (by rfl) B.len PySem.boot_len (pa_cons (pv 7) pa_nil)) pe_int (nomark _)) (pw_or1 (pt_not (pt_val (pe_call cLIs.G (hr.mono (by first | decide | omega)) (by rfl) cLIs.D.g cLIs.D.F.kp cLIs.D.b .nil pass0 (pa_cons (pe_ix ix_tup (pv 7) pe_int (fun _ _ => rfl)) (pa_cons (pe_ix ix_tup (pe_ix ix_list (pv 5) (pv 6) (fun _ _ => rfl)) pe_int (fun _ _ => rfl)) pa_nil)))))))))
          (pss_one (ps_ret pe_bl))
          pss_nil)
        (pss_one (ps_if (PW.pt (pw_or (pt_not (pt_val (pe_call cLIs.G (hr.mono (by first | decide | omega)) (by rfl) cLIs.D.g cLIs.D.F.kp cLIs.D.b .nil pass0 (pa_cons (pe_ix ix_tup (pv 7) pe_int (fun _ _ => rfl)) (pa_cons (pe_ix ix_tup (pe_ix ix_list (pv 5) (pv 6) (fun _ _ => rfl)) pe_int (fun _ _ => rfl)) pa_nil))))) (pw_or1 (pt_not (pt_val (pe_call cLIs.G (hr.mono (by first | decide | omega)) (by rfl) cLIs.D.g cLIs.D.F.kp cLIs.D.b .nil pass0 (pa_cons (pe_ix ix_tup (pv 7) pe_int (fun _ _ => rfl)) (pa_cons (pe_ix ix_tup (pe_ix ix_list (pv 5) (pv 6) (fun _ _ => rfl)) pe_int (fun _ _ => rfl)) pa_nil))))))))
          (pss_one (ps_ret pe_bl))
          pss_nil)))))
      (pss_one (ps_ret pe_bl))))))), ?_⟩
    obtain ⟨dx, d, ss, hj, hd2, hpm, hs⟩ := hT.ex
    have g := hT.g
    have n50 := hT.n
    refine ⟨.ref j, rfl, j, CT, dx, _, _, rfl, hj, TC.c, TC.n1, tarF_land, .str l, rfl, .str l, rfl, .inr (.inl ⟨_, rfl⟩), _, rfl, ?_⟩
    refine ⟨.ref j, rfl, j, CT, dx, _, _, rfl, hj, TC.c, TC.n2, tarF_free, .int fr, rfl, .int fr, rfl, .inr (.inr ⟨_, rfl⟩), _, rfl, ?_⟩
    refine ite2 (fun z => by cases z) (fun _ => ?_)
    refine ⟨.ref j, rfl, j, CT, dx, _, _, rfl, hj, TC.c, TC.n3, tarF_share, .int sh, rfl, .int sh, rfl, .inr (.inr ⟨_, rfl⟩), _, rfl, ?_⟩
    refine ite2 (fun z => by cases z) (fun _ => ?_)
    refine ⟨.ref a, rfl, a, bs, rfl, sqOf hR.l, hR.t, fun b mb c mc e => key_one g.2 (List.mem_map.mpr ⟨b, mb, rfl⟩) (List.mem_map.mpr ⟨c, mc, rfl⟩) e, fun D ds nD pd sd => ?_⟩
    have S1 := same_upd (o := .lst (ds.map fun b => V.ref b.1)) nD
    have hD : upd H D (.lst (ds.map fun b => V.ref b.1)) D = some (.lst (ds.map fun b => V.ref b.1)) := upd_same
    have hd : ∀ b ∈ ds, upd H D (.lst (ds.map fun b => V.ref b.1)) b.1 = some (.tup (rwV b.2)) := fun b m => S1 _ _ (hR.t b (pd.mem_iff.mp m))
    generalize upd H D (.lst (ds.map fun b => V.ref b.1)) = H1 at S1 hD hd
    have pd2 : (ds.map (·.2)).Perm (bs.map (·.2)) := pd.map (·.2)
    have sd2 : SrtR (ds.map (·.2)) := List.pairwise_map.mpr sd
    have lds : ds.length ≤ 50 := by rw [pd.length_eq, ← List.length_map (f := (·.2))]; exact n50
    have rows : ∀ (H2 : Hp) (R : VK), Same H1 H2 → (∀ (p : Addr) (es : List (Addr × Rw)) (H3 : Hp), Same H2 H3 → H3 p = some (.tup (es.map fun b => V.ref b.1)) → (∀ b ∈ es, H3 b.1 = some (.tup (rwV b.2))) → es.map (·.2) = ds.map (·.2) → R (.ref p) H3) → spTRows CT [.ref j] H2 R E0 := fun H2 R S2 k =>
      ⟨j, bs.map (·.2), rfl, (hT.same (S1.trans S2)).of, fun p es H3 S3 hp he pe se => k p es H3 S3 hp he (rows_one g pe pd2 se sd2)⟩
    refine ⟨.ref j, rfl, j, dx, _, rfl, S1 _ _ hj, ?_⟩
    refine rows H1 _ (Same.refl _) fun p es H2 S2 hp he ee => ?_
    refine ⟨.ref p, .ty "tuple", .type "tuple", .type "tuple", true, rfl, .ty _, .base (.tup hp), kit_ty (by decide +kernel), _, rfl, ?_⟩
    clear hp he ee
    refine ⟨.ref j, rfl, j, dx, _, rfl, S2 _ _ (S1 _ _ hj), ?_⟩
    refine rows H2 _ S2 fun p es H3 S3 hp he ee => ?_
    have S13 := S2.trans S3
    have hD3 := S13 _ _ hD
    have les : es.length = ds.length := by
      have := congrArg List.length ee
      rwa [List.length_map, List.length_map] at this
    refine ⟨p, _, rfl, .inr (.of hp), .ref D, rfl, D, _, rfl, .inl (sqOf hD3), rfl, _, rfl, ?_⟩
    rw [List.length_map, List.length_map, les]
    refine ite2 (fun z => by simp at z) (fun _ => ?_)
    clear hp he ee les
    refine ⟨.ref D, rfl, D, _, rfl, .inl (sqOf hD3), _, rfl, by rw [List.length_map]; omega, by rw [List.length_map]; omega, ?_⟩
    refine for_range (lo := 0) (n := (((ds.map fun b => V.ref b.1).length : Nat) : Int).toNat) (fun i σ H' => Same H1 H' ∧ ∃ y6 y7, σ = [some (.ref j), some (.str l), some (.ref a), some (.int fr), some (.int sh), some (.ref D), y6, y7]) ⟨S13, none, none, rfl⟩ ?_ ?_
    · rintro i σ H4 hi ⟨S4, y6, y7, rfl⟩
      have hi : i < ds.length := by rw [List.length_map] at hi; omega
      obtain ⟨e, ee⟩ : ∃ e, ds[i]? = some e := ⟨ds[i], List.getElem?_eq_getElem hi⟩
      have i0 : ((0 : Int) + (i : Int)).toNat = i := by omega
      have ve : atI (ds.map fun b => V.ref b.1) ((0 : Int) + (i : Int)) = some (.ref e.1) := at_nat (by omega) (by rw [i0, List.getElem?_map, ee]; rfl)
      refine ⟨.ref j, rfl, j, dx, _, rfl, S4 _ _ (S1 _ _ hj), ?_⟩
      refine rows H4 _ S4 fun p es H5 S5 hp he es2 => ?_
      have S15 := S4.trans S5
      obtain ⟨b, eb⟩ : ∃ b, es[i]? = some b := by
        have := congrArg List.length es2
        rw [List.length_map, List.length_map] at this
        exact ⟨es[i], List.getElem?_eq_getElem (by omega)⟩
      have eq : b.2 = e.2 := by
        have a1 : (es.map (·.2))[i]? = some b.2 := by rw [List.getElem?_map, eb]; rfl
        rw [es2, List.getElem?_map, ee] at a1
        exact (Option.some.inj a1).symm
      have vb : atI (es.map fun b => V.ref b.1) ((0 : Int) + (i : Int)) = some (.ref b.1) := at_nat (by omega) (by rw [i0, List.getElem?_map, eb]; rfl)
      have hb := he b (List.mem_of_getElem? eb)
      rw [eq] at hb
      have hD5 := S15 _ _ hD
      have he5 := S15 _ _ (hd e (List.mem_of_getElem? ee))
      refine ⟨.int (0 + (i : Int)), rfl, p, _, _, _, rfl, rfl, .of hp, vb, ?_⟩
      refine ⟨.ref b.1, rfl, .ref b.1, .ty "tuple", .type "tuple", .type "tuple", true, rfl, .ty _, .base (.tup hb), kit_ty (by decide +kernel), _, rfl, ?_⟩
      refine ⟨.ref b.1, rfl, b.1, _, rfl, .inr (.of hb), rfl, _, rfl, ?_⟩
      refine ite2 (fun z => by simp [rwV] at z) (fun _ => ?_)
      refine ⟨.ref b.1, rfl, b.1, _, 2, _, rfl, rfl, .of hb, rfl, .ref D, rfl, .int (0 + (i : Int)), rfl, D, _, _, .ref e.1, rfl, rfl, sqOf hD5, ve, e.1, _, 2, _, rfl, rfl, .of he5, rfl, oI e.2.2, rfl, smp_oI _, _, rfl, ?_⟩
      refine ite2 (fun z => by cases z) (fun _ => ?_)
      refine ⟨.ref b.1, rfl, b.1, _, 0, _, rfl, rfl, .of hb, rfl, .ref D, rfl, .int (0 + (i : Int)), rfl, D, _, _, .ref e.1, rfl, rfl, sqOf hD5, ve, e.1, _, 0, _, rfl, rfl, .of he5, rfl, .str e.2.1.1, rfl, .inr (.inl ⟨_, rfl⟩), _, rfl, ?_⟩
      refine ⟨.ref b.1, rfl, b.1, _, 1, _, rfl, rfl, .of hb, rfl, .ref D, rfl, .int (0 + (i : Int)), rfl, D, _, _, .ref e.1, rfl, rfl, sqOf hD5, ve, e.1, _, 1, _, rfl, rfl, .of he5, rfl, .str e.2.1.2, rfl, .inr (.inl ⟨_, rfl⟩), _, rfl, ?_⟩
      exact ite2 (fun z => by cases z) (fun _ => ⟨S15, _, _, rfl⟩)
    · rintro σ H4 ⟨S4, y6, y7, rfl⟩
      exact q H4 (S1.trans S4)
end
end Tb
namespace Tb
open PySem PySem.Spec PyProof.Rows L2
abbrev sTHold : Stmt := topS 61
abbrev NTHold : List Str := ["box", "land", "rows", "limit", "portion", "at", "row", "bad", "odd", "spoilt", "twice"]
theorem scTHold : FnScope NTHold ["box", "land", "rows", "limit", "portion"] (defScope sTHold) := ⟨rfl, rfl, rfl, by decide +kernel, rfl, by decide +kernel, by decide +kernel⟩
theorem no_dup {ps qs : List (Addr × Rw)} {T : Addr} {x r : Rw} (e : x.1 = r.1) (m : r ∈ (ps ++ qs).map (·.2)) : ¬ Gd ((ps ++ [(T, x)] ++ qs).map (·.2)) := fun g => by
  have n := g.2
  rw [List.map_append, List.map_append, List.map_append, List.map_append, List.nodup_append, List.nodup_append] at n
  rw [List.map_append] at m
  rcases List.mem_append.mp m with m | m
  · exact n.1.2.2 r.1 (List.mem_map.mpr ⟨r, m, rfl⟩) x.1 (by simp) e.symm
  · exact n.2.2 x.1 (by simp) r.1 (List.mem_map.mpr ⟨r, m, rfl⟩) e
theorem no_set {bs : List (Addr × Rw)} {i : Nat} {T : Addr} {x : Rw} (hi : i < bs.length) (n : ¬ okR x) : ¬ Gd ((bs.set i (T, x)).map (·.2)) := fun g => n (g.1 x (by
  refine List.mem_map.mpr ⟨(T, x), ?_, rfl⟩
  exact List.mem_set hi (T, x)))
theorem rin_set {H : Hp} {M T : Addr} {x : Rw} {bs : List (Addr × Rw)} {i : Nat} (hM : H M = some (.lst ((bs.map fun b => V.ref b.1).set i (.ref T)))) (hb : ∀ b ∈ bs, H b.1 = some (.tup (rwV b.2))) (hT : H T = some (.tup (rwV x))) : RIn H M true (bs.set i (T, x)) := by
  refine ⟨?_, fun b hb2 => ?_⟩
  · rw [if_pos rfl, hM, List.map_set]
  · rcases List.mem_or_eq_of_mem_set hb2 with h | h
    · exact hb b h
    · rw [h]; exact hT
theorem row_lens {r : Rw} (h : okR r) : r.1.1.length ≤ 1000 ∧ r.1.2.length ≤ 1000 := ⟨by have := addr_small h.1; omega, by have := lane_small h.2.1; omega⟩
theorem set_lens {bs : List (Addr × Rw)} {i : Nat} {T : Addr} {x : Rw} (h : ∀ c ∈ bs, c.2.1.1.length ≤ 1000 ∧ c.2.1.2.length ≤ 1000) (hx : x.1.1.length ≤ 1000 ∧ x.1.2.length ≤ 1000) : ∀ c ∈ bs.set i (T, x), c.2.1.1.length ≤ 1000 ∧ c.2.1.2.length ≤ 1000 := fun c hc => by
  rcases List.mem_or_eq_of_mem_set hc with h' | h'
  · exact h c h'
  · rw [h']; exact hx
theorem rin_ins {H : Hp} {M T : Addr} {x : Rw} {bs : List (Addr × Rw)} {i : Nat} (hM : H M = some (.lst ((bs.map fun b => V.ref b.1).take i ++ [.ref T] ++ (bs.map fun b => V.ref b.1).drop i))) (hb : ∀ b ∈ bs, H b.1 = some (.tup (rwV b.2))) (hT : H T = some (.tup (rwV x))) : RIn H M true (bs.take i ++ [(T, x)] ++ bs.drop i) := by
  refine ⟨?_, fun b hb2 => ?_⟩
  · rw [if_pos rfl, hM, List.map_append, List.map_append, List.map_take, List.map_drop]; rfl
  · rcases List.mem_append.mp hb2 with h | h
    · rcases List.mem_append.mp h with h | h
      · exact hb b (List.mem_of_mem_take h)
      · rw [List.mem_singleton.mp h]; exact hT
    · exact hb b (List.mem_of_mem_drop h)
theorem ins_lens {bs : List (Addr × Rw)} {i : Nat} {T : Addr} {x : Rw} (h : ∀ c ∈ bs, c.2.1.1.length ≤ 1000 ∧ c.2.1.2.length ≤ 1000) (hx : x.1.1.length ≤ 1000 ∧ x.1.2.length ≤ 1000) : ∀ c ∈ bs.take i ++ [(T, x)] ++ bs.drop i, c.2.1.1.length ≤ 1000 ∧ c.2.1.2.length ≤ 1000 := fun c hc => by
  rcases List.mem_append.mp hc with h' | h'
  · rcases List.mem_append.mp h' with h' | h'
    · exact h c (List.mem_of_mem_take h')
    · rw [List.mem_singleton.mp h']; exact hx
  · exact h c (List.mem_of_mem_drop h')
theorem rin_lst {H : Hp} {M a : Addr} {bs : List (Addr × Rw)} (R : LR H a bs) (hM : H M = some (.lst (bs.map fun b => V.ref b.1))) : RIn H M true bs := ⟨by rw [if_pos rfl]; exact hM, R.t⟩
theorem rin_tup {H : Hp} {M a : Addr} {bs : List (Addr × Rw)} (R : LR H a bs) (hM : H M = some (.tup (bs.map fun b => V.ref b.1))) : RIn H M false bs := ⟨by rw [if_neg (by decide)]; exact hM, R.t⟩
theorem ix_nat {n i : Nat} (h : i < n) : ixN n (i : Int) = some i := by
  unfold ixN
  rw [if_pos (by omega), if_pos (by omega)]; rfl
section
variable {P : Program} {w : World} {K : PySem.W.Frag} {mg : Str → Option Value} {base : Heap} {C pw fw CI fI t0 : Addr} {gdw fdI : FuncData} {ds0 : List Value} {CT fT : Addr} {fdT : FuncData}
abbrev CTariffIs (P : Program) (w : World) (K : PySem.W.Frag) (mg : Str → Option Value) (base : Heap) (CT : Addr) (g : Addr) (gd : FuncData) := C1 P w K mg base "_law_tariff_is" sTariffIs ["tariff", "land", "rows", "limit", "portion"] 3 (spTarIs CT) g gd
def spTHold : Sp := fun vs H Q _ => ∃ (p a : Addr) (l : Str) (fr sh : Int) (bs : List (Addr × Rw)), vs = [.ref p, .str l, .ref a, .int fr, .int sh] ∧ Box H p ∧ LR H a bs ∧ Gd (bs.map (·.2)) ∧ 1 ≤ bs.length ∧ bs.length ≤ 6 ∧ isName l = true ∧ ∀ H', Box H' p → But p H H' → Q (.bl true) H'
theorem ok_thold {f g1 g2 g3 g4 g5 g6 : Addr} {fd gd1 gd2 gd3 gd4 gd5 gd6 : FuncData} (F : Fun K "_law_tariffs_hold" "_law_tariffs_hold" sTHold f fd) (TT' : TarC P w K mg base CT CI fT fdT) (cDraw : CDraw P w K mg base g1 gd1) (cBadN : CBadN P w K mg base g2 gd2) (cBadA : CBadA P w K mg base g3 gd3) (cBeyond : CBeyond P w K mg base g4 gd4) (cTRef : CTRef P w K mg base g5 gd5) (cTariffIs : CTariffIs P w K mg base CT g6 gd6) (B : Blt mg) : FnOk P w K mg base CX0 8 f fd ["box", "land", "rows", "limit", "portion"] spTHold := by
  refine F.ok scTHold (fun vs H Q E h => ?_) (fun cdv A outer s H vs Q E hr h => ?_)
  · obtain ⟨p, a, l, fr, sh, bs, rfl, _⟩ := h
    rfl
  · obtain ⟨p, a, l, fr, sh, bs, rfl, hB, hR, hg, n1, n6, nl, q⟩ := h
    have hz : sizeLine = 16777216 := rfl
    refine ⟨_, (pss_cons (ps_set (i := 5) scTHold.nd rfl (.inl rfl) (pe_call cDraw.G (hr.mono (by first | decide | omega)) (by rfl) cDraw.D.g cDraw.D.F.kp cDraw.D.b .nil pass0 (pa_cons (pv 0) (pa_cons (pe_callB call_len_seq (by rfl) B.len PySem.boot_len (pa_cons (pv 2) pa_nil)) pa_nil))))
      (pss_cons (ps_set (i := 6) scTHold.nd rfl (.inl rfl) (pe_ix ix_list (pv 2) (pv 5) (fun _ _ => rfl)))
      (pss_cons (ps_set (i := 7) scTHold.nd rfl (.inl rfl) (pe_lst (pa_cons (pe_tup (pa_cons (pe_call cBadA.G (hr.mono (by first | decide | omega)) (by rfl) cBadA.D.g cBadA.D.F.kp cBadA.D.b .nil pass0 (pa_cons (pv 0) pa_nil)) (pa_cons (pe_ix ix_tup (pv 6) pe_int (fun _ _ => rfl)) (pa_cons (pe_ix ix_tup (pv 6) pe_int (fun _ _ => rfl)) pa_nil)))) (pa_cons (pe_tup (pa_cons (pe_ix ix_tup (pv 6) pe_int (fun _ _ => rfl)) (pa_cons (pe_call cBadN.G (hr.mono (by first | decide | omega)) (by rfl) cBadN.D.g cBadN.D.F.kp cBadN.D.b .nil pass0 (pa_cons (pv 0) (pa_cons pe_int pa_nil))) (pa_cons (pe_ix ix_tup (pv 6) pe_int (fun _ _ => rfl)) pa_nil)))) pa_nil))))
      (pss_cons (ps_expr (pe_bm PySem.F.plainAttrs_list PySem.F.slot_list_append PySem.F.type_list_append mt_append (pv 7) (pa_cons (pe_tup (pa_cons (pe_ix ix_tup (pv 6) pe_int (fun _ _ => rfl)) (pa_cons (pe_ix ix_tup (pv 6) pe_int (fun _ _ => rfl)) (pa_cons (pe_op op_sub (pe_un un_neg pe_int) (pe_call cBeyond.G (hr.mono (by first | decide | omega)) (by rfl) cBeyond.D.g cBeyond.D.F.kp cBeyond.D.b .nil pass0 (pa_cons (pv 0) pa_nil))) pa_nil)))) pa_nil)))
      (pss_cons (ps_for PassesOwn.never rfl (pi_list (pv 7)) (pg_name (i := 8) scTHold.nd rfl (.inl rfl))
        (pss_cons (ps_set (i := 9) scTHold.nd rfl (.inl rfl) (pe_callTy call_list_of (by rfl) B.list PyProof.Rows.boot_list (pa_cons (pv 2) pa_nil)))
        (pss_cons (ps_asg (pv 8) (pg_sub (pv 9) (pv 5) set_list))
        (pss_one (ps_if (pt_not (pt_val (pe_call cTRef.G (hr.mono (by first | decide | omega)) (by rfl) cTRef.D.g cTRef.D.F.kp cTRef.D.b .nil pass0 (pa_cons (pv 1) (pa_cons (pv 9) (pa_cons (pv 3) (pa_cons (pv 4) pa_nil)))))))
          (pss_one (ps_ret pe_bl))
          pss_nil)))))
      (pss_cons (ps_set (i := 10) scTHold.nd rfl (.inl rfl) (pe_callTy call_list_of (by rfl) B.list PyProof.Rows.boot_list (pa_cons (pv 2) pa_nil)))
      (pss_cons (ps_expr (pe_bm PySem.F.plainAttrs_list PySem.F.slot_list_insert PySem.F.type_list_insert mt_insert (pv 10) (pa_cons (pe_call cDraw.G (hr.mono (by first | decide | omega)) (by rfl) cDraw.D.g cDraw.D.F.kp cDraw.D.b .nil pass0 (pa_cons (pv 0) (pa_cons (pe_op op_add (pe_callB call_len_seq (by rfl) B.len PySem.boot_len (pa_cons (pv 2) pa_nil)) pe_int) pa_nil))) (pa_cons (pe_tup (pa_cons (pe_ix ix_tup (pv 6) pe_int (fun _ _ => rfl)) (pa_cons (pe_ix ix_tup (pv 6) pe_int (fun _ _ => rfl)) (pa_cons (pe_ix ix_list (pe_lst (pa_cons pe_non (pa_cons (pe_ix ix_tup (pv 6) pe_int (fun _ _ => rfl)) (pa_cons pe_int pa_nil)))) (pe_call cDraw.G (hr.mono (by first | decide | omega)) (by rfl) cDraw.D.g cDraw.D.F.kp cDraw.D.b .nil pass0 (pa_cons (pv 0) (pa_cons pe_int pa_nil))) (fun _ _ => rfl)) pa_nil)))) pa_nil))))
      (pss_cons (ps_if (pt_not (pt_val (pe_call cTRef.G (hr.mono (by first | decide | omega)) (by rfl) cTRef.D.g cTRef.D.F.kp cTRef.D.b .nil pass0 (pa_cons (pv 1) (pa_cons (pv 10) (pa_cons (pv 3) (pa_cons (pv 4) pa_nil)))))))
        (pss_one (ps_ret pe_bl))
        pss_nil)
      (pss_cons (ps_if (pt_not (pt_val (pe_call cTRef.G (hr.mono (by first | decide | omega)) (by rfl) cTRef.D.g cTRef.D.F.kp cTRef.D.b .nil pass0 (pa_cons (pe_call cBadN.G (hr.mono (by first | decide | omega)) (by rfl) cBadN.D.g cBadN.D.F.kp cBadN.D.b .nil pass0 (pa_cons (pv 0) (pa_cons pe_int pa_nil))) (pa_cons (pe_callTy call_tuple_of (by rfl) B.tuple PyProof.Rows.boot_tuple (pa_cons (pv 2) pa_nil)) (pa_cons (pv 3) (pa_cons (pv 4) pa_nil)))))))
        (pss_one (ps_ret pe_bl))
        pss_nil)
      (pss_cons (ps_if (pt_not (pt_val (pe_call cTRef.G (hr.mono (by first | decide | omega)) (by rfl) cTRef.D.g cTRef.D.F.kp cTRef.D.b .nil pass0 (pa_cons (pv 1) (pa_cons (pe_callTy call_list_of (by rfl) B.list PyProof.Rows.boot_list (pa_cons (pv 2) pa_nil)) (pa_cons (pe_op op_sub (pe_un un_neg pe_int) (pe_call cBeyond.G (hr.mono (by first | decide | omega)) (by rfl) cBeyond.D.g cBeyond.D.F.kp cBeyond.D.b .nil pass0 (pa_cons (pv 0) pa_nil))) (pa_cons (pv 4) pa_nil)))))))
        (pss_one (ps_ret pe_bl))
        pss_nil)
      (pss_cons (ps_set (i := 8) scTHold.nd rfl (.inl rfl) (pe_ix ix_list (pe_lst (pa_cons (pe_op op_sub (pe_un un_neg pe_int) (pe_call cBeyond.G (hr.mono (by first | decide | omega)) (by rfl) cBeyond.D.g cBeyond.D.F.kp cBeyond.D.b .nil pass0 (pa_cons (pv 0) pa_nil))) (pa_cons (pe_op op_add pe_int (pe_call cBeyond.G (hr.mono (by first | decide | omega)) (by rfl) cBeyond.D.g cBeyond.D.F.kp cBeyond.D.b .nil pass0 (pa_cons (pv 0) pa_nil))) pa_nil))) (pe_call cDraw.G (hr.mono (by first | decide | omega)) (by rfl) cDraw.D.g cDraw.D.F.kp cDraw.D.b .nil pass0 (pa_cons (pv 0) (pa_cons pe_int pa_nil))) (fun _ _ => rfl)))
      (pss_cons (ps_if (pt_not (pt_val (pe_call cTRef.G (hr.mono (by first | decide | omega)) (by rfl) cTRef.D.g cTRef.D.F.kp cTRef.D.b .nil pass0 (pa_cons (pv 1) (pa_cons (pe_callTy call_list_of (by rfl) B.list PyProof.Rows.boot_list (pa_cons (pv 2) pa_nil)) (pa_cons (pv 3) (pa_cons (pv 8) pa_nil)))))))
        (pss_one (ps_ret pe_bl))
        pss_nil)
      (pss_cons (ps_if (pt_not (pt_val (pe_call cTRef.G (hr.mono (by first | decide | omega)) (by rfl) cTRef.D.g cTRef.D.F.kp cTRef.D.b .nil pass0 (pa_cons (pv 1) (pa_cons (pe_lst pa_nil) (pa_cons (pv 3) (pa_cons (pv 8) pa_nil)))))))
        (pss_one (ps_ret pe_bl))
        pss_nil)
      (pss_one (ps_ret (pe_call cTariffIs.G (hr.mono (by first | decide | omega)) (by rfl) cTariffIs.D.g cTariffIs.D.F.kp cTariffIs.D.b .nil pass0 (pa_cons (pe_makeS TT'.MK TT'.R2 (hr.mono (by first | decide | omega)) (by rfl) TT'.g (fun _ => passE0) (pa_cons (pv 1) (pa_cons (pe_tup pa_nil) pa_nil))) (pa_cons (pv 1) (pa_cons (pe_lst pa_nil) (pa_cons pe_int (pa_cons pe_int pa_nil))))))))))))))))))))), ?_⟩
    have ll : l.length ≤ 1000 := by rw [len_tl]; exact Nat.le_trans ((isName_iff l).mp nl).1 (by decide)
    have lens : ∀ c ∈ bs, c.2.1.1.length ≤ 1000 ∧ c.2.1.2.length ≤ 1000 := fun c hc => row_lens (hg.1 c.2 (List.mem_map.mpr ⟨c, hc, rfl⟩))
    have lm : (bs.map fun b => V.ref b.1).length = bs.length := List.length_map _
    refine ⟨.ref p, rfl, .ref a, rfl, a, _, rfl, .inl (sqOf hR.l), p, (bs.length : Int), by rw [lm]; rfl, hB, by omega, fun v0 H1 v0' v1 B1 b1 => ?_⟩
    obtain ⟨v, rfl⟩ : ∃ v : Nat, v0 = (v : Int) := ⟨v0.toNat, by omega⟩
    have hv : v < bs.length := by omega
    have R1 := hR.but hB b1
    obtain ⟨⟨rA, r⟩, er⟩ : ∃ b, bs[v]? = some b := ⟨bs[v], List.getElem?_eq_getElem hv⟩
    have mr := List.mem_of_getElem? er
    have mr2 : r ∈ bs.map (·.2) := List.mem_map.mpr ⟨_, mr, rfl⟩
    have okr := hg.1 r mr2
    have lr := row_lens okr
    refine ⟨.ref a, rfl, .int v, rfl, a, _, v, .ref rA, rfl, rfl, sqOf R1.l, atI_nat (by rw [List.getElem?_map, er]; rfl), ?_⟩
    have h1 := R1.t _ mr
    have keep : ∀ {H H' : Hp}, Box H p → But p H H' → H rA = some (.tup (rwV r)) → H' rA = some (.tup (rwV r)) := fun B b h => b _ _ h (B.ne h (ni_tup _))
    refine ⟨.ref p, rfl, p, rfl, B1, fun z H2 hz2 lz B2 b12 => ?_⟩
    have h2 := keep B1 b12 h1
    refine ⟨.ref rA, rfl, rA, _, 1, _, rfl, rfl, .of h2, rfl, .ref rA, rfl, rA, _, 2, _, rfl, rfl, .of h2, rfl, by show 3 ≤ sizeLine; omega, fun T1 nT1 => ?_⟩
    have m3 := box_new (o := .tup [.str z, .str r.1.2, oI r.2]) B2 nT1
    have hT1 : L2.upd H2 T1 (.tup [.str z, .str r.1.2, oI r.2]) T1 = some (.tup (rwV ((z, r.1.2), r.2))) := upd_same
    have h3 := same_upd (o := .tup [.str z, .str r.1.2, oI r.2]) nT1 _ _ h2
    have R3 := ((R1.but B1 b12)).but B2 m3.2
    have b3 := (b1.trans b12).trans m3.2
    have B3 := m3.1
    generalize L2.upd H2 T1 (.tup [.str z, .str r.1.2, oI r.2]) = H3 at hT1 h3 R3 b3 B3
    refine ⟨.ref rA, rfl, rA, _, 0, _, rfl, rfl, .of h3, rfl, .ref p, rfl, p, 1, rfl, B3, .inr rfl, fun z2 H4 hz4 ne4 lz2 B4 b34 => ?_⟩
    have h4 := keep B3 b34 h3
    refine ⟨.ref rA, rfl, rA, _, 2, _, rfl, rfl, .of h4, rfl, by show 3 ≤ sizeLine; omega, fun T2 nT2 => ?_⟩
    have hT14 := b34 _ _ hT1 (B3.ne hT1 (ni_tup _))
    have m5 := box_new (o := .tup [.str r.1.1, .str z2, oI r.2]) B4 nT2
    have hT2 : L2.upd H4 T2 (.tup [.str r.1.1, .str z2, oI r.2]) T2 = some (.tup (rwV ((r.1.1, z2), r.2))) := upd_same
    have h5 := same_upd (o := .tup [.str r.1.1, .str z2, oI r.2]) nT2 _ _ h4
    have hT15 := same_upd (o := .tup [.str r.1.1, .str z2, oI r.2]) nT2 _ _ hT14
    have R5 := (R3.but B3 b34).but B4 m5.2
    have b5 := (b3.trans b34).trans m5.2
    have B5 := m5.1
    generalize L2.upd H4 T2 (.tup [.str r.1.1, .str z2, oI r.2]) = H5 at hT2 h5 R5 b5 B5 hT15
    refine ⟨by show 2 ≤ sizeLine; omega, fun D nD => ?_⟩
    have S6 := same_upd (o := .lst [V.ref T1, V.ref T2]) nD
    have hD6 : L2.upd H5 D (.lst [V.ref T1, V.ref T2]) D = some (.lst [V.ref T1, V.ref T2]) := upd_same
    have D0 : H D = none := but_free B5 b5 nD
    have h6 := S6 _ _ h5
    have hT16 := S6 _ _ hT15
    have hT26 := S6 _ _ hT2
    have R6 := R5.same S6
    have b6 := b5.trans (Same.but S6)
    have B6 := B5.same S6
    have Dp : D ≠ p := fun e => by
      obtain ⟨_, _, _, _, e2, _⟩ := hB
      rw [e, e2] at D0; cases D0
    generalize L2.upd H5 D (.lst [V.ref T1, V.ref T2]) = H6 at hD6 h6 hT16 hT26 R6 b6 B6
    refine ⟨.ref D, rfl, .inl ⟨rfl, _, sqOf hD6⟩, .ref rA, rfl, rA, _, 0, _, rfl, rfl, .of h6, rfl, .ref rA, rfl, rA, _, 1, _, rfl, rfl, .of h6, rfl, 1, rfl, .ref p, rfl, p, rfl, B6, fun bz H7 bz0 B7 b67 => ⟨_, bz, rfl, rfl, by show 3 ≤ sizeLine; omega, fun T3 nT3 => ?_⟩⟩
    have S8 := same_upd (o := .tup [.str r.1.1, .str r.1.2, .int (-1 - bz)]) nT3
    have hT3 : L2.upd H7 T3 (.tup [.str r.1.1, .str r.1.2, .int (-1 - bz)]) T3 = some (.tup (rwV (r.1, some (-1 - bz)))) := upd_same
    have hD8 := S8 _ _ (b67 _ _ hD6 Dp)
    have hT18 := S8 _ _ (b67 _ _ hT16 (B6.ne hT16 (ni_tup _)))
    have hT28 := S8 _ _ (b67 _ _ hT26 (B6.ne hT26 (ni_tup _)))
    have h8 := S8 _ _ (keep B6 b67 h6)
    have R8 := (R6.but B6 b67).same S8
    have b8 := (b6.trans b67).trans (Same.but S8)
    have B8 := B7.same S8
    refine ⟨D, _, .ref T3, rfl, rfl, hD8, by show 2 < sizeLine; omega, ?_⟩
    generalize L2.upd H7 T3 (.tup [.str r.1.1, .str r.1.2, .int (-1 - bz)]) = H8 at hT3 hD8 hT18 hT28 h8 R8 b8 B8
    obtain ⟨bds, ebd⟩ : ∃ bds : List (Addr × Rw), bds = [(T1, ((z, r.1.2), r.2)), (T2, ((r.1.1, z2), r.2)), (T3, (r.1, some (-1 - bz)))] := ⟨_, rfl⟩
    have hDs : ∀ {b : Addr} {u : HO}, H8 b = some u → b ≠ D → L2.upd H8 D (.lst ([V.ref T1, V.ref T2] ++ [V.ref T3])) b = some u := fun h n => by rw [upd_ne n]; exact h
    have nDt : ∀ {b : Addr} {xs : List V}, H8 b = some (.tup xs) → b ≠ D := fun h e => by rw [e, hD8] at h; cases h
    have bad : LR (L2.upd H8 D (.lst ([V.ref T1, V.ref T2] ++ [V.ref T3]))) D bds := by
      refine ⟨by rw [upd_same, ebd]; rfl, fun b hb => ?_⟩
      rw [ebd] at hb
      rcases List.mem_cons.mp hb with rfl | hb
      · exact hDs hT18 (nDt hT18)
      rcases List.mem_cons.mp hb with rfl | hb
      · exact hDs hT28 (nDt hT28)
      · rw [List.mem_singleton.mp hb]; exact hDs hT3 (nDt hT3)
    have noR : ∀ b ∈ bds, ¬ okR b.2 ∧ b.2.1.1.length ≤ 1000 ∧ b.2.1.2.length ≤ 1000 := fun b hb => by
      rw [ebd] at hb
      rcases List.mem_cons.mp hb with rfl | hb
      · exact ⟨fun ok => (by rw [show isAddr z = true from ok.1] at hz2; cases hz2), by show z.length ≤ 1000; omega, lr.2⟩
      rcases List.mem_cons.mp hb with rfl | hb
      · refine ⟨fun ok => ?_, lr.1, by show z2.length ≤ 1000; omega⟩
        have := ok.2.1
        unfold isLane at this
        rw [Bool.or_eq_true] at this
        rcases this with h | h
        · exact ne4 rfl (of_decide_eq_true h)
        · rw [hz4] at h; cases h
      · rw [List.mem_singleton.mp hb]
        exact ⟨fun ok => by have := ok.2.2 _ rfl; omega, lr⟩
    have aD : a ≠ D := ne_of_none hR.l D0
    have R9 : LR (L2.upd H8 D (.lst ([V.ref T1, V.ref T2] ++ [V.ref T3]))) a bs := ⟨hDs R8.l aD, fun b hb => hDs (R8.t b hb) (nDt (R8.t b hb))⟩
    have b9 : But p H (L2.upd H8 D (.lst ([V.ref T1, V.ref T2] ++ [V.ref T3]))) := fun b o e n => hDs (b8 b o e n) (ne_of_none e D0)
    have B9 : Box (L2.upd H8 D (.lst ([V.ref T1, V.ref T2] ++ [V.ref T3]))) p := by
      obtain ⟨r, a, b, c, e, rest⟩ := B8
      exact ⟨r, a, b, c, hDs e (Ne.symm Dp), rest⟩
    generalize L2.upd H8 D (.lst ([V.ref T1, V.ref T2] ++ [V.ref T3])) = H9 at bad R9 b9 B9
    clear hDs nDt hT3 hD8 hT18 hT28 h8 R8 b8 B8 b67 hD6 h6 hT16 hT26 R6 b6 B6 hT2 h5 R5 b5 B5 hT15 hT14 h4 b34 hT1 h3 R3 b3 B3 m3 m5 h2 b12 B2 B4 B7 ebd
    refine ⟨.ref D, rfl, D, rfl, ⟨_, sqOf bad.l⟩, ?_⟩
    refine for_it (walk_list (a := D) (xs := bds.map fun b => V.ref b.1)) (fun i σ H' => (∃ y8 y9, σ = [some (.ref p), some (.str l), some (.ref a), some (.int fr), some (.int sh), some (.int v), some (.ref rA), some (.ref D), y8, y9, none]) ∧ Same H9 H') ⟨⟨none, none, rfl⟩, Same.refl _⟩ (fun i σ H' _ hP => sqOf (hP.2 _ _ bad.l)) (fun i v' σ H3 H4 hi hP hy => ?_) (fun σ H3 hP => ?_)
    · obtain ⟨⟨y8, y9, rfl⟩, S3⟩ := hP
      obtain ⟨rfl, ev⟩ := hy
      obtain ⟨c, ec, rfl⟩ := bs_at ev
      have mc := List.mem_of_getElem? ec
      have nc := noR c mc
      have R4 := R9.same S3
      refine ⟨.ref a, rfl, a, _, rfl, .inl (sqOf R4.l), fun M nM => ?_⟩
      have S4 := same_upd (o := .lst (bs.map fun b => V.ref b.1)) nM
      refine ⟨.ref c.1, rfl, .ref M, rfl, .int v, rfl, M, _, v, v, rfl, rfl, upd_same, ix_nat (by rw [lm]; exact hv), ?_⟩
      have Su : Same H4 (L2.upd (L2.upd H4 M (.lst (bs.map fun b => V.ref b.1))) M (.lst ((bs.map fun b => V.ref b.1).set v (.ref c.1)))) := fun b o hb => by
        rw [upd_ne (ne_of_none hb nM)]; exact S4 _ _ hb
      have R5 := R4.same Su
      refine ⟨.str l, rfl, .ref M, rfl, .int fr, rfl, .int sh, rfl, M, l, fr, sh, true, bs.set v (c.1, c.2), rfl, rin_set upd_same R5.t (Su _ _ (S3 _ _ (bad.t c mc))), by rw [List.length_set]; omega, ll, set_lens lens nc.2, fun g => no_set hv nc.1 g.2.2.2.2, fun H6 S6 => ⟨true, rfl, ite2 (fun z => by cases z) (fun _ => ⟨⟨_, _, rfl⟩, (S3.trans Su).trans S6⟩)⟩⟩
    obtain ⟨⟨y8, y9, rfl⟩, S3⟩ := hP
    obtain ⟨σH, eσH⟩ : ∃ σH, σH = H3 := ⟨_, rfl⟩
    subst eσH
    have R10 := R9.same S3
    have B10 := B9.same S3
    have b10 := b9.trans (Same.but S3)
    have h10 := R10.t _ mr
    clear R9 B9 b9 S3 bad noR
    refine ⟨.ref a, rfl, a, _, rfl, .inl (sqOf R10.l), fun M nM => ?_⟩
    have S11 := same_upd (o := .lst (bs.map fun b => V.ref b.1)) nM
    have R11 := R10.same S11
    have B11 := B10.same S11
    have b11 := b10.trans (Same.but S11)
    have h11 := S11 _ _ h10
    have hM11 : L2.upd σH M (.lst (bs.map fun b => V.ref b.1)) M = some (.lst (bs.map fun b => V.ref b.1)) := upd_same
    have M0 : H M = none := but_free B10 b10 nM
    have Mp : M ≠ p := fun e => by
      obtain ⟨_, _, _, _, e2, _⟩ := hB
      rw [e, e2] at M0; cases M0
    generalize L2.upd σH M (.lst (bs.map fun b => V.ref b.1)) = H11 at S11 R11 B11 b11 h11 hM11
    refine ⟨.ref M, rfl, .inl ⟨rfl, _, sqOf hM11⟩, .ref p, rfl, .ref a, rfl, a, _, rfl, .inl (sqOf R11.l), _, _, rfl, rfl, p, (bs.length : Int) + 1, by rw [lm]; rfl, B11, by omega, fun j H12 j0 j1 B12 b112 => ?_⟩
    have h12 := keep B11 b112 h11
    have hM12 := b112 _ _ hM11 Mp
    have R12 := R11.but B11 b112
    have b12 := b11.trans b112
    refine ⟨.ref rA, rfl, rA, _, 0, _, rfl, rfl, .of h12, rfl, .ref rA, rfl, rA, _, 1, _, rfl, rfl, .of h12, rfl, .ref rA, rfl, rA, _, 2, _, rfl, rfl, .of h12, rfl, by show 3 ≤ sizeLine; omega, fun W nW => ?_⟩
    have m13 := box_new (o := .lst [.non, oI r.2, .int 7]) B12 nW
    have S13 := same_upd (o := .lst [.non, oI r.2, .int 7]) nW
    have Wp : W ≠ p := fun e => by
      obtain ⟨_, _, _, _, e2, _⟩ := B12
      rw [e, e2] at nW; cases nW
    refine ⟨.ref p, rfl, p, 3, rfl, m13.1, by decide, fun c H14 c0 c1 B14 b134 => ?_⟩
    have hW := b134 W _ upd_same Wp
    obtain ⟨y, hy⟩ : ∃ y : Option Int, [V.non, oI r.2, V.int 7][c.toNat]? = some (oI y) := by
      rcases (show c = 0 ∨ c = 1 ∨ c = 2 by omega) with rfl | rfl | rfl
      · exact ⟨none, rfl⟩
      · exact ⟨r.2, rfl⟩
      · exact ⟨some 7, rfl⟩
    refine ⟨W, _, c.toNat, oI y, rfl, congrArg V.int (show c = (c.toNat : Int) by omega), sqOf hW, atI_nat hy, by show 3 ≤ sizeLine; omega, fun T nT => ?_⟩
    have S15 := same_upd (o := .tup [.str r.1.1, .str r.1.2, oI y]) nT
    have hT15 : L2.upd H14 T (.tup [.str r.1.1, .str r.1.2, oI y]) T = some (.tup (rwV (r.1, y))) := upd_same
    have hM15 := S15 _ _ (b134 _ _ (S13 _ _ hM12) Mp)
    have R15 := ((R12.same S13).but m13.1 b134).same S15
    have B15 := B14.same S15
    have b15 := ((b12.trans m13.2).trans b134).trans (Same.but S15)
    generalize L2.upd H14 T (.tup [.str r.1.1, .str r.1.2, oI y]) = H15 at hT15 hM15 R15 B15 b15
    refine ⟨M, _, j, .ref T, rfl, rfl, hM15, by rw [lm]; omega, j0, by omega, ?_⟩
    have hMs : ∀ {b : Addr} {u : HO}, H15 b = some u → b ≠ M → L2.upd H15 M (.lst ((bs.map fun b => V.ref b.1).take j.toNat ++ [.ref T] ++ (bs.map fun b => V.ref b.1).drop j.toNat)) b = some u := fun h n => by rw [upd_ne n]; exact h
    have nMt : ∀ {b : Addr} {xs : List V}, H15 b = some (.tup xs) → b ≠ M := fun h e => by rw [e, hM15] at h; cases h
    have aM : a ≠ M := ne_of_none hR.l M0
    have R16 : LR (L2.upd H15 M (.lst ((bs.map fun b => V.ref b.1).take j.toNat ++ [.ref T] ++ (bs.map fun b => V.ref b.1).drop j.toNat))) a bs := ⟨hMs R15.l aM, fun b hb => hMs (R15.t b hb) (nMt (R15.t b hb))⟩
    have b16 : But p H (L2.upd H15 M (.lst ((bs.map fun b => V.ref b.1).take j.toNat ++ [.ref T] ++ (bs.map fun b => V.ref b.1).drop j.toNat))) := fun b o e n => hMs (b15 b o e n) (ne_of_none e M0)
    have B16 : Box (L2.upd H15 M (.lst ((bs.map fun b => V.ref b.1).take j.toNat ++ [.ref T] ++ (bs.map fun b => V.ref b.1).drop j.toNat))) p := by
      obtain ⟨r, a, b, c, e, rest⟩ := B15
      exact ⟨r, a, b, c, hMs e (Ne.symm Mp), rest⟩
    have I16 := rin_ins (x := (r.1, y)) (i := j.toNat) (T := T) (bs := bs) (M := M) (H := L2.upd H15 M (.lst ((bs.map fun b => V.ref b.1).take j.toNat ++ [.ref T] ++ (bs.map fun b => V.ref b.1).drop j.toNat))) upd_same R16.t (hMs hT15 (nMt hT15))
    generalize L2.upd H15 M (.lst ((bs.map fun b => V.ref b.1).take j.toNat ++ [.ref T] ++ (bs.map fun b => V.ref b.1).drop j.toNat)) = H16 at R16 b16 B16 I16
    clear hMs nMt hM15 R15 B15 b15 hT15 hW b134 B14 m13 h12 hM12 R12 b12 B12 b112 R11 B11 b11 h11 hM11 S11 R10 B10 b10 h10
    have mem_td : r ∈ (bs.take j.toNat ++ bs.drop j.toNat).map (·.2) := by rw [List.take_append_drop]; exact mr2
    refine ⟨.str l, rfl, .ref M, rfl, .int fr, rfl, .int sh, rfl, M, l, fr, sh, true, _, rfl, I16, by rw [List.length_append, List.length_append, List.length_take, List.length_drop]; show _ + 1 + _ ≤ 50; omega, ll, ins_lens lens lr, fun g => no_dup (x := (r.1, y)) (T := T) (r := r) rfl mem_td g.2.2.2.2, fun H17 S17 => ⟨true, rfl, ite2 (fun z => by cases z) (fun _ => ?_)⟩⟩
    have R17 := R16.same S17
    have B17 := B16.same S17
    have b17 := b16.trans (Same.but S17)
    clear I16 R16 B16 b16 S17
    refine ⟨.ref p, rfl, p, 0, rfl, B17, .inl rfl, fun z3 H18 hz18 _ lz3 B18 b178 => ?_⟩
    have R18 := R17.but B17 b178
    have b18 := b17.trans b178
    refine ⟨.ref a, rfl, a, _, rfl, .inl ⟨sqOf R18.l, fun U nU => ?_⟩⟩
    have S19 := same_upd (o := .tup (bs.map fun b => V.ref b.1)) nU
    refine ⟨.int fr, rfl, .int sh, rfl, U, z3, fr, sh, false, bs, rfl, rin_tup (R18.same S19) upd_same, by omega, by omega, lens, fun g => (by rw [g.1] at hz18; cases hz18), fun H20 S20 => ⟨true, rfl, ite2 (fun z => by cases z) (fun _ => ?_)⟩⟩
    have R20 := R18.same (S19.trans S20)
    have B20 := B18.same (S19.trans S20)
    have b20 := b18.trans (Same.but (S19.trans S20))
    clear R17 B17 b17 b178 R18 B18 b18
    refine ⟨.str l, rfl, .ref a, rfl, a, _, rfl, .inl (sqOf R20.l), fun U2 nU2 => ?_⟩
    have S21 := same_upd (o := .lst (bs.map fun b => V.ref b.1)) nU2
    have R21 := R20.same S21
    have B21 := B20.same S21
    have b21 := b20.trans (Same.but S21)
    have U2p : U2 ≠ p := fun e => by
      obtain ⟨_, _, _, _, e2, _⟩ := B20
      rw [e, e2] at nU2; cases nU2
    refine ⟨1, rfl, .ref p, rfl, p, rfl, B21, fun x1 H22 x10 B22 b212 => ⟨_, x1, rfl, rfl, ?_⟩⟩
    have hU22 := b212 _ _ upd_same U2p
    have R22 := R21.but B21 b212
    have b22 := b21.trans b212
    refine ⟨.int sh, rfl, U2, l, -1 - x1, sh, true, bs, rfl, rin_lst R22 hU22, by omega, ll, lens, fun g => absurd g.2.1 (by omega), fun H23 S23 => ⟨true, rfl, ite2 (fun z => by cases z) (fun _ => ?_)⟩⟩
    have R23 := R22.same S23
    have B23 := B22.same S23
    have b23 := b22.trans (Same.but S23)
    clear R20 B20 b20 R21 B21 b21 b212 R22 B22 b22 hU22
    refine ⟨1, rfl, .ref p, rfl, p, rfl, B23, fun x2 H24 x20 B24 b234 => ⟨_, x2, rfl, rfl, ?_⟩⟩
    refine ⟨.ref p, rfl, p, rfl, B24, fun x3 H25 x30 B25 b245 => ⟨101, x3, rfl, rfl, by show 2 ≤ sizeLine; omega, fun W2 nW2 => ?_⟩⟩
    have m26 := box_new (o := .lst [.int (-1 - x2), .int (101 + x3)]) B25 nW2
    have W2p : W2 ≠ p := fun e => by
      obtain ⟨_, _, _, _, e2, _⟩ := B25
      rw [e, e2] at nW2; cases nW2
    refine ⟨.ref p, rfl, p, 2, rfl, m26.1, by decide, fun c2 H27 c20 c21 B27 b267 => ?_⟩
    have hW2 := b267 W2 _ upd_same W2p
    obtain ⟨od, hod, nod⟩ : ∃ od : Int, [V.int (-1 - x2), V.int (101 + x3)][c2.toNat]? = some (.int od) ∧ ¬ (0 ≤ od ∧ od ≤ 100) := by
      rcases (show c2 = 0 ∨ c2 = 1 by omega) with rfl | rfl
      · exact ⟨_, rfl, by omega⟩
      · exact ⟨_, rfl, by omega⟩
    refine ⟨W2, _, c2.toNat, .int od, rfl, congrArg V.int (show c2 = (c2.toNat : Int) by omega), sqOf hW2, atI_nat hod, ?_⟩
    have R27 := (((R23.but B23 b234).but B24 b245).but B25 m26.2).but m26.1 b267
    have b27 := (((b23.trans b234).trans b245).trans m26.2).trans b267
    clear R23 B23 b23 b234 B24 b245 B25 m26 hW2 b267 nW2
    refine ⟨.str l, rfl, .ref a, rfl, a, _, rfl, .inl (sqOf R27.l), fun U3 nU3 => ?_⟩
    have S28 := same_upd (o := .lst (bs.map fun b => V.ref b.1)) nU3
    refine ⟨.int fr, rfl, .int od, rfl, U3, l, fr, od, true, bs, rfl, rin_lst (R27.same S28) upd_same, by omega, ll, lens, fun g => nod ⟨g.2.2.1, g.2.2.2.1⟩, fun H29 S29 => ⟨true, rfl, ite2 (fun z => by cases z) (fun _ => ?_)⟩⟩
    have B29 := B27.same (S28.trans S29)
    have b29 := b27.trans (Same.but (S28.trans S29))
    clear R27 B27 b27
    refine ⟨.str l, rfl, by show 0 ≤ sizeLine; omega, fun U4 nU4 => ?_⟩
    have S30 := same_upd (o := .lst []) nU4
    refine ⟨.int fr, rfl, .int od, rfl, U4, l, fr, od, true, [], rfl, ⟨upd_same, nofun⟩, by decide, ll, nofun, fun g => nod ⟨g.2.2.1, g.2.2.2.1⟩, fun H31 S31 => ⟨true, rfl, ite2 (fun z => by cases z) (fun _ => ?_)⟩⟩
    have B31 := B29.same (S30.trans S31)
    have b31 := b29.trans (Same.but (S30.trans S31))
    clear B29 b29
    refine ⟨.str l, rfl, by show 0 ≤ sizeLine; omega, fun U5 nU5 x dx nx ndx ne => ?_⟩
    have S32 := same_upd (o := .tup []) nU5
    have S33 := made_same (C := CT) nx ndx ne
    refine ⟨x, dx, U5, l, 0, 50, false, [], rfl, upd_same, ⟨S33 _ _ upd_same, nofun⟩, by decide, ll, nofun, fun _ H34 bx34 tx => ⟨rfl, ?_⟩, fun ng => absurd ⟨nl, by decide, by decide, by decide, nofun, List.nodup_nil⟩ ng⟩
    have S34 := S32.trans (made_bx nx S33 bx34)
    have B34 := B31.same S34
    have b34 := b31.trans (Same.but S34)
    refine ⟨.str l, rfl, by show 0 ≤ sizeLine; omega, fun U6 nU6 => ?_⟩
    have S35 := same_upd (o := .lst []) nU6
    exact ⟨x, U6, l, 0, 50, [], rfl, tx.same S35, ⟨upd_same, nofun⟩, fun H36 S36 => q H36 (B34.same (S35.trans S36)) (b34.trans (Same.but (S35.trans S36)))⟩
end
end Tb
namespace Tb
open PySem PySem.Spec PyProof.Rows L2
abbrev sPInit : Stmt := inClass (topS 22) 0
abbrev NPInit : List Str := ["self", "ticket", "address", "start", "taken", "weight", "days", "sender", "receiver", "goods", "name"]
theorem scPInit : FnScope NPInit ["self", "ticket", "address", "start", "taken", "weight", "days", "sender", "receiver", "goods"] (defScope sPInit) := ⟨rfl, rfl, rfl, by decide +kernel, rfl, by decide +kernel, by decide +kernel⟩
abbrev sPWorth : Stmt := inClass (topS 22) 1
abbrev NPWorth : List Str := ["self", "good"]
theorem scPWorth : FnScope NPWorth ["self"] (defScope sPWorth) := ⟨rfl, rfl, rfl, by decide +kernel, rfl, by decide +kernel, by decide +kernel⟩
abbrev sPDue : Stmt := inClass (topS 22) 2
abbrev NPDue : List Str := ["self"]
theorem scPDue : FnScope NPDue ["self"] (defScope sPDue) := ⟨rfl, rfl, rfl, by decide +kernel, rfl, by decide +kernel, by decide +kernel⟩
theorem pe_gint {X : Cx} {x : Str} {z : Int} {pos : Pos} (hg : Gl X x) (h : ∃ t, X.mg x = some (.int z t)) (hd : (x == ("__debug__" : Str)) = false := by decide) : PE X (.Name x pos) (tC (.int z)) := by
  obtain ⟨t, h⟩ := h
  exact pe_glob hg h (show RelV (.int z) (.int z t) from ⟨t, rfl⟩) hd
structure Pc where
  t : Int
  a : Str
  s : Str
  k : Int
  w : Int
  d : Option Int
  f : Str
  r : Str
def parF (c : Pc) (Tp : Addr) : List (Str × V) := [("ticket", .int c.t), ("address", .str c.a), ("start", .str c.s), ("taken", .int c.k), ("weight", .int c.w), ("days", oI c.d), ("sender", .str c.f), ("receiver", .str c.r), ("goods", .ref Tp)]
def PcAt (K : PySem.W.Frag) (CP CG : Addr) (H : Hp) (j : Addr) (c : Pc) (ns : List Nd) : Prop := ∃ (dx Tp : Addr) (us : List V), H j = some (.ins CP dx (parF c Tp)) ∧ SqT K H Tp us ∧ GdsAt K CG H ns us
def okPc (c : Pc) : Prop := isAddr c.a = true ∧ isName c.s = true ∧ isName c.f = true ∧ isName c.r = true ∧ 1 ≤ c.t ∧ 0 ≤ c.k ∧ 1 ≤ c.w ∧ ∀ i, c.d = some i → 0 ≤ i
/-- of the class Parcel itself -/
structure PCls (K : PySem.W.Frag) (C : Addr) : Prop where
  c : Cls K C
  n1 : NoAttr K C "ticket"
  n2 : NoAttr K C "address"
  n3 : NoAttr K C "start"
  n4 : NoAttr K C "taken"
  n5 : NoAttr K C "weight"
  n6 : NoAttr K C "days"
  n7 : NoAttr K C "sender"
  n8 : NoAttr K C "receiver"
  n9 : NoAttr K C "goods"
section
variable {P : Program} {w : World} {K : PySem.W.Frag} {mg : Str → Option Value} {base : Heap} {C pw fw CI fI t0 : Addr} {gdw fdI : FuncData} {ds0 : List Value} {gI CP c1 c2 c3 c4 c5 c6 c7 : Addr} {gdI : FuncData} {CQ fQ : Addr} {fdQ : FuncData}
abbrev psP : List Str := ["self", "ticket", "address", "start", "taken", "weight", "days", "sender", "receiver", "goods"]
/-- Parcel.__init__: a parcel, or the error -/
def spPInitX (K : PySem.W.Frag) (CQ CG CI : Addr) : Sp := fun vs H Q E => ∃ (x dx g : Addr) (c : Pc) (ns : List Nd) (us : List V), vs = [.ref x, .int c.t, .str c.a, .str c.s, .int c.k, .int c.w, oI c.d, .str c.f, .str c.r, .ref g] ∧ H x = some (.ins CQ dx []) ∧ c.a.length ≤ 1000 ∧ c.s.length ≤ 1000 ∧ c.f.length ≤ 1000 ∧ c.r.length ≤ 1000 ∧ (SqL K H g us ∨ SqT K H g us) ∧ GdsAt K CG H ns us ∧
  (okPc c → ∀ H', Bx x H H' → PcAt K CQ CG H' x c ns → Q .non H') ∧
  (¬ okPc c → ∀ e H', Bx x H H' → H' e = some (.xd [(wWhat, .str wParcel)]) → E (.ref CI) (some e) H')
abbrev FunP (K : PySem.W.Frag) (t1 : Addr) (f : Addr) (fd : FuncData) : Prop := FunD K "__init__" "Parcel.__init__" (defArgs sPInit) (defBody sPInit) (defScope sPInit) [] [("weight", .int 1), ("days", .non), ("sender", .str ("sender" : String)), ("receiver", .str ("receiver" : String)), ("goods", .ref t1)] f fd
theorem ok_pinitX {f g1 g2 t1 : Addr} {fd gd1 gd2 : FuncData} (F : FunP K t1 f fd) (B : Blt mg) (PC : PCls K CQ) (cIsAddr : CIsAddr P w K mg base g1 gd1) (cIsName : CIsName P w K mg base g2 gd2) (R : EInv K mg CI gI gdI) : FnOk P w K mg base (L2.CX P w) 5 f fd psP (spPInitX K CQ C CI) := by
  have GI : FnOk P w K mg base CX0 1 gI gdI ["self", "what"] (spErr K wWhat) := ok_inv R.M.F
  refine F.ok scPInit (fun vs H Q E h => ?_) (fun cdv A outer s H vs Q E hr h => ?_)
  · obtain ⟨x, dx, g, c, ns, us, rfl, _⟩ := h
    rfl
  · obtain ⟨x, dx, g, c, ns, us, rfl, hx, la, ls, lf, lr, hg, hG, qG, qB⟩ := h
    have hr2 : Room 2 _ := hr.mono (show 2 ≤ 4 by decide)
    have hz : sizeLine = 16777216 := rfl
    refine ⟨_, (pss_cons (ps_fld (pv 0) (pv 1) rfl)
      (pss_cons (ps_fld (pv 0) (pv 2) rfl)
      (pss_cons (ps_fld (pv 0) (pv 3) rfl)
      (pss_cons (ps_fld (pv 0) (pv 4) rfl)
      (pss_cons (ps_fld (pv 0) (pv 5) rfl)
      (pss_cons (ps_fld (pv 0) (pv 6) rfl)
      (pss_cons (ps_fld (pv 0) (pv 7) rfl)
      (pss_cons (ps_fld (pv 0) (pv 8) rfl)
      (pss_cons (ps_fld (pv 0) (pe_callTy call_tuple_of (by rfl) B.tuple PyProof.Rows.boot_tuple (pa_cons (pv 9) pa_nil)) rfl)
      (pss_cons (ps_if (PW.pt (pw_or (pt_not (pt_val (pe_call cIsAddr.G (hr.mono (by first | decide | omega)) (by rfl) cIsAddr.D.g cIsAddr.D.F.kp cIsAddr.D.b .nil pass0 (pa_cons (pv 2) pa_nil)))) (pw_or1 (pt_not (pt_val (pe_callB (cr_all rfl) (by rfl) B.all (by decide +kernel) (pa_cons (pe_lc (own := [("name", 10)]) (g := gName 10) (by rfl) scPInit.nd (pi_tup (pe_tup (pa_cons (pv 3) (pa_cons (pv 7) (pa_cons (pv 8) pa_nil))))) (blkOk_by (N := NPInit) (sc := defScope sPInit) (by decide +kernel)) (fun _ _ _ _ _ => pg_name (i := 10) scPInit.nd rfl (Or.inl rfl)) (fun _ _ _ _ _ => pts_nil) (fun _ _ _ _ _ => pe_call cIsName.G (hr.mono (by first | decide | omega)) (by rfl) cIsName.D.g cIsName.D.F.kp cIsName.D.b .nil pass0 (pa_cons (pv 10) pa_nil))) pa_nil)))))))
        (pss_one (ps_raise rfl (takes_of rfl rfl rfl rfl) (pmk_oex R.T.ox R.T.iC R.T.tI GI hr2 R.M.b .nil pass0 (by rfl) R.g (pa_cons pe_str pa_nil))))
        pss_nil)
      (pss_one (ps_if (PW.pt (pw_or (pt_cmpR op_lt (pv 1) pe_int (nomark _)) (pw_or (pt_cmpR op_lt (pv 4) pe_int (nomark _)) (pw_or (pt_cmpR op_lt (pv 5) pe_int (nomark _)) (pw_or1 (PW.pt (pw_and (pt_cmpR op_notN (pv 6) pe_non (nomark _)) (pw_and1 (pt_cmpR op_lt (pv 6) pe_int (nomark _))))))))))
        (pss_one (ps_raise rfl (takes_of rfl rfl rfl rfl) (pmk_oex R.T.ox R.T.iC R.T.tI GI hr2 R.M.b .nil pass0 (by rfl) R.g (pa_cons pe_str pa_nil))))
        pss_nil)))))))))))), ?_⟩
    obtain ⟨t, a, s0, k, wt, d, sf, sr⟩ := c
    refine ⟨.int t, rfl, .ref x, rfl, x, CQ, dx, _, rfl, hx, PC.c, PC.n1, (show (0 : Nat) < 1000 by decide), ?_⟩
    refine ⟨.str a, rfl, .ref x, rfl, x, CQ, dx, _, rfl, upd_same, PC.c, PC.n2, (show (1 : Nat) < 1000 by decide), ?_⟩
    refine ⟨.str s0, rfl, .ref x, rfl, x, CQ, dx, _, rfl, upd_same, PC.c, PC.n3, (show (2 : Nat) < 1000 by decide), ?_⟩
    refine ⟨.int k, rfl, .ref x, rfl, x, CQ, dx, _, rfl, upd_same, PC.c, PC.n4, (show (3 : Nat) < 1000 by decide), ?_⟩
    refine ⟨.int wt, rfl, .ref x, rfl, x, CQ, dx, _, rfl, upd_same, PC.c, PC.n5, (show (4 : Nat) < 1000 by decide), ?_⟩
    refine ⟨oI d, rfl, .ref x, rfl, x, CQ, dx, _, rfl, upd_same, PC.c, PC.n6, (show (5 : Nat) < 1000 by decide), ?_⟩
    refine ⟨.str sf, rfl, .ref x, rfl, x, CQ, dx, _, rfl, upd_same, PC.c, PC.n7, (show (6 : Nat) < 1000 by decide), ?_⟩
    refine ⟨.str sr, rfl, .ref x, rfl, x, CQ, dx, _, rfl, upd_same, PC.c, PC.n8, (show (7 : Nat) < 1000 by decide), ?_⟩
    generalize hH2 : upd (upd (upd (upd (upd (upd (upd (upd H x _) x _) x _) x _) x _) x _) x _) x _ = H2
    have b2 : Bx x H H2 := by
      rw [← hH2]
      exact ((((((((Bx.upd (fun _ _ h _ => h)).upd).upd).upd).upd).upd).upd).upd)
    have hx2 : H2 x = some (.ins CQ dx [("ticket", .int t), ("address", .str a), ("start", .str s0), ("taken", .int k), ("weight", .int wt), ("days", oI d), ("sender", .str sf), ("receiver", .str sr)]) := by
      rw [← hH2]
      exact upd_same
    refine ⟨.ref g, rfl, g, us, rfl, ?_⟩
    rcases hg with hg | hg
    refine .inl ⟨b2.sqL hx hg, fun Tp nT => ?_⟩
    have b3 := b2.new (o := .tup us) nT
    have hx3 := same_upd (o := .tup us) nT _ _ hx2
    have hT : SqT K (upd H2 Tp (.tup us)) Tp us := .inl (.inl upd_same)
    revert b3 hx3 hT
    generalize upd H2 Tp _ = H3
    intro b3 hx3 hT
    rotate_left
    refine .inr ⟨(b2.kd (C := C) hx).t _ _ hg, ?_⟩
    have b3 := b2
    have hx3 := hx2
    have hT := (b2.kd (C := C) hx).t _ _ hg
    revert b3 hx3 hT
    generalize H2 = H3
    intro b3 hx3 hT
    all_goals
      refine ⟨.ref x, rfl, x, CQ, dx, _, rfl, hx3, PC.c, PC.n9, (show (8 : Nat) < 1000 by decide), ?_⟩
      generalize hH4 : upd H3 x _ = H4
      have b4 : Bx x H H4 := by
        rw [← hH4]
        exact b3.upd
      have hT4 : ∃ Tp, SqT K H4 Tp us ∧ H4 x = some (.ins CQ dx (parF ⟨t, a, s0, k, wt, d, sf, sr⟩ Tp)) := by
        rw [← hH4]
        exact ⟨_, sqT_ins hx3 hT, upd_same⟩
      clear hT hx3 b3 hH4 hH2 hx2 b2 hg
      obtain ⟨Tp, hT4, hx4⟩ := hT4
      have hks4 : GdsAt K C H4 ns us := GdsAt.go (b4.kd hx) hG
      have la : a.length ≤ 1000 := la
      have ls : s0.length ≤ 1000 := ls
      have lf : sf.length ≤ 1000 := lf
      have lr : sr.length ≤ 1000 := lr
      refine ⟨.str a, rfl, a, rfl, by omega, fun H5 S5 => ⟨_, rfl, ?_⟩⟩
      cases hA : isAddr a with
      | false => exact ite2 (fun _ => ite2 (fun _ => ⟨by decide, err_made R.T (Q := E) fun e2 H9 S9 hd9 => qB (fun ok => by rw [show isAddr a = true from ok.1] at hA; cases hA) e2 H9 (bx_same b4 (S5.trans S9)) hd9⟩) (fun z => absurd rfl z)) (fun z => absurd rfl z)
      | true =>
      refine ite2 (fun z => by cases z) (fun _ => ?_)
      refine ⟨.str s0, rfl, .str sf, rfl, .str sr, rfl, by show 3 ≤ sizeLine; omega, fun Tn nTn => ?_⟩
      have S6 := S5.trans (same_upd (o := .tup [.str s0, .str sf, .str sr]) nTn)
      have hTn : L2.upd H5 Tn (.tup [.str s0, .str sf, .str sr]) Tn = some (.tup ([s0, sf, sr].map V.str)) := upd_same
      generalize L2.upd H5 Tn (.tup [.str s0, .str sf, .str sr]) = H6 at S6 hTn
      refine ⟨Tn, rfl, ⟨_, .of hTn⟩, fun D nD => lc_w (cs := [s0, sf, sr]) (e := V.str) (fun _ => true) (fun z => .bl (isName z)) (walk_tup (K := K) (a := Tn) (xs := [s0, sf, sr].map V.str)) (fun H' S => .of (S _ _ hTn)) (fun i H x H' h => h) nD (show 3 ≤ 1000 by decide) (fun _ => rfl) (fun c hc H3 S3 R hR => hR H3 (Same.refl _)) (fun z hz H3 S3 R hR => ?_) (fun H7 S7 hD => ?_)⟩
      · refine ⟨.str z, rfl, z, rfl, ?_, fun H8 S8 => hR H8 S8⟩
        rcases List.mem_cons.mp hz with rfl | hz
        · exact ls
        rcases List.mem_cons.mp hz with rfl | hz
        · exact lf
        · rw [List.mem_singleton.mp hz]; exact lr
      have S47 := S6.trans S7
      refine ⟨D, [isName s0, isName sf, isName sr], rfl, sqOf hD, _, rfl, ?_⟩
      cases hN : ([isName s0, isName sf, isName sr].all id) with
      | false => exact ite2 (fun _ => ⟨by decide, err_made R.T (Q := E) fun e2 H9 S9 hd9 => qB (fun ok => by have e : ([isName s0, isName sf, isName sr].all id) = true := (by show (isName s0 && (isName sf && (isName sr && true))) = true; rw [show isName s0 = true from ok.2.1, show isName sf = true from ok.2.2.1, show isName sr = true from ok.2.2.2.1]; rfl); rw [e] at hN; cases hN) e2 H9 (bx_same b4 (S47.trans S9)) hd9⟩) (fun z => absurd rfl z)
      | true =>
      have hN3 : isName s0 = true ∧ isName sf = true ∧ isName sr = true := by
        have h : (isName s0 && (isName sf && (isName sr && true))) = true := hN
        rw [Bool.and_eq_true, Bool.and_eq_true, Bool.and_eq_true] at h
        exact ⟨h.1, h.2.1, h.2.2.1⟩
      refine ite2 (fun z => by cases z) (fun _ => ?_)
      refine ⟨.int t, rfl, t, 1, rfl, rfl, _, rfl, ?_⟩
      by_cases ht : 1 ≤ t
      rotate_left
      · rw [decide_eq_true (show t < 1 by omega)]
        exact ite2 (fun _ => ite2 (fun _ => ⟨by decide, err_made R.T (Q := E) fun e2 H9 S9 hd9 => qB (fun ok => ht ok.2.2.2.2.1) e2 H9 (bx_same b4 (S47.trans S9)) hd9⟩) (fun z => absurd rfl z)) (fun z => absurd rfl z)
      rw [decide_eq_false (show ¬ t < 1 by omega)]
      refine ite2 (fun z => by cases z) (fun _ => ?_)
      refine ⟨.int k, rfl, k, 0, rfl, rfl, _, rfl, ?_⟩
      by_cases hk : 0 ≤ k
      rotate_left
      · rw [decide_eq_true (show k < 0 by omega)]
        exact ite2 (fun _ => ite2 (fun _ => ⟨by decide, err_made R.T (Q := E) fun e2 H9 S9 hd9 => qB (fun ok => hk ok.2.2.2.2.2.1) e2 H9 (bx_same b4 (S47.trans S9)) hd9⟩) (fun z => absurd rfl z)) (fun z => absurd rfl z)
      rw [decide_eq_false (show ¬ k < 0 by omega)]
      refine ite2 (fun z => by cases z) (fun _ => ?_)
      refine ⟨.int wt, rfl, wt, 1, rfl, rfl, _, rfl, ?_⟩
      by_cases hw : 1 ≤ wt
      rotate_left
      · rw [decide_eq_true (show wt < 1 by omega)]
        exact ite2 (fun _ => ite2 (fun _ => ⟨by decide, err_made R.T (Q := E) fun e2 H9 S9 hd9 => qB (fun ok => hw ok.2.2.2.2.2.2.1) e2 H9 (bx_same b4 (S47.trans S9)) hd9⟩) (fun z => absurd rfl z)) (fun z => absurd rfl z)
      rw [decide_eq_false (show ¬ wt < 1 by omega)]
      refine ite2 (fun z => by cases z) (fun _ => ?_)
      refine ⟨oI d, rfl, rfl, _, rfl, ?_⟩
      have fin : (∀ i, d = some i → 0 ≤ i) → Q .non H7 := fun hd => qG ⟨hA, hN3.1, hN3.2.1, hN3.2.2, ht, hk, hw, hd⟩ H7 (bx_same b4 S47) ⟨dx, Tp, us, S47 _ _ hx4, SqT.kg hT4 (Same.kg S47), hks4.kg (Same.kg S47)⟩
      cases d with
      | none => exact ite2 (fun z => by cases z) (fun _ => ite2 (fun z => by cases z) (fun _ => fin nofun))
      | some i =>
      refine ite2 (fun _ => ?_) (fun z => absurd rfl z)
      refine ⟨.int i, rfl, i, 0, rfl, rfl, _, rfl, ?_⟩
      by_cases hi : 0 ≤ i
      rotate_left
      · rw [decide_eq_true (show i < 0 by omega)]
        exact ite2 (fun _ => ⟨by decide, err_made R.T (Q := E) fun e2 H9 S9 hd9 => qB (fun ok => hi (ok.2.2.2.2.2.2.2 i rfl)) e2 H9 (bx_same b4 (S47.trans S9)) hd9⟩) (fun z => absurd rfl z)
      rw [decide_eq_false (show ¬ i < 0 by omega)]
      exact ite2 (fun z => by cases z) (fun _ => fin fun j e => by cases e; exact hi)
theorem parF_at {c : Pc} {Tp : Addr} : (parF c Tp).lookup ("ticket" : Str) = some (.int c.t) ∧ (parF c Tp).lookup ("address" : Str) = some (.str c.a) ∧ (parF c Tp).lookup ("start" : Str) = some (.str c.s) ∧ (parF c Tp).lookup ("taken" : Str) = some (.int c.k) ∧ (parF c Tp).lookup ("weight" : Str) = some (.int c.w) ∧ (parF c Tp).lookup ("days" : Str) = some (oI c.d) ∧ (parF c Tp).lookup ("sender" : Str) = some (.str c.f) ∧ (parF c Tp).lookup ("receiver" : Str) = some (.str c.r) ∧ (parF c Tp).lookup ("goods" : Str) = some (.ref Tp) :=
  ⟨rfl, rfl, rfl, rfl, rfl, rfl, rfl, rfl, rfl⟩
def spPWorth (K : PySem.W.Frag) (CQ CG : Addr) : Sp := fun vs H Q _ => ∃ (j : Addr) (c : Pc) (ns : List Nd), vs = [.ref j] ∧ PcAt K CQ CG H j c ns ∧ ns.length ≤ 900 ∧ ∀ H', Same H H' → Q (.int (sumOf (ns.map Nd.w))) H'
theorem ok_pworth {f : Addr} {fd : FuncData} {n : Nat} (F : Fun K "worth" "Parcel.worth" sPWorth f fd) (B : Blt mg) (PC : PCls K CQ) (T : GCls K C pw fw gdw) : FnOk P w K mg base CX0 3 f fd ["self"] (spPWorth K CQ C) := by
  refine F.ok scPWorth (fun vs H Q E h => ?_) (fun cdv A outer s H vs Q E hr h => ?_)
  · obtain ⟨j, c, ns, rfl, _⟩ := h
    rfl
  · obtain ⟨j, c, ns, rfl, hP, ln, q⟩ := h
    obtain ⟨dx, Tp, us, hj, hT, hG⟩ := hP
    refine ⟨_, (pss_one (ps_ret (pe_callB (cr_sum rfl) (by rfl) B.sum (by decide +kernel) (pa_cons (pe_lc (own := [("good", 1)]) (g := gName 1) (by rfl) scPWorth.nd (pi_tup (pe_fld (pv 0) rfl)) (blkOk_by (N := NPWorth) (sc := defScope sPWorth) (by decide +kernel)) (fun _ _ _ _ _ => pg_name (i := 1) scPWorth.nd rfl (Or.inl rfl)) (fun _ _ _ _ _ => pts_nil) (fun _ _ _ _ _ => pe_prop (pv 1) T.c T.pw T.Gw (hr.mono (by first | decide | omega)) T.bw .nil pass0 rfl)) pa_nil)))), ?_⟩
    obtain ⟨cs, ek, rfl, hcs⟩ := gds_cs hG
    have lc : cs.length ≤ 1000 := by rw [ek, List.length_map] at ln; omega
    have wk := walk_tup (K := K) (a := Tp) (xs := cs.map fun c => V.ref c.2)
    rw [List.length_map] at wk
    refine ⟨.ref j, rfl, j, CQ, dx, _, _, rfl, hj, PC.c, PC.n9, parF_at.2.2.2.2.2.2.2.2, Tp, rfl, ⟨_, hT⟩, fun D nD => lc_w (fun _ => true) (fun c => .int c.1.w) wk (fun H' S => SqT.kg hT (Same.kg S)) (fun i H' x H'' h => h) nD lc (fun _ => rfl) (fun c hc H3 S3 R hR => hR H3 (Same.refl _)) (fun c hc H3 S3 R hR => ?_) (fun H1 S1 hD => ?_)⟩
    · obtain ⟨a, d2, T2, _, e, ha, _, _⟩ := (hcs c hc).ref
      exact ⟨.ref c.2, rfl, a, d2, _, e, S3 _ _ ha, a, d2, _, _, rfl, S3 _ _ ha, fld_nd.2.2.2.2, hR H3 (Same.refl _)⟩
    refine ⟨D, cs.map (fun c => c.1.w), rfl, sqOf ?_, ?_⟩
    · rw [hD, filt_true, List.map_map]
      rfl
    have ew : (cs.map fun c => c.1.w).sum = sumOf (ns.map Nd.w) := by
      rw [sumOf_eq, ek, List.map_map]; rfl
    rw [ew]
    exact q H1 S1
def spPDue (K : PySem.W.Frag) (CQ CG : Addr) : Sp := fun vs H Q _ => ∃ (j : Addr) (c : Pc) (ns : List Nd), vs = [.ref j] ∧ PcAt K CQ CG H j c ns ∧ 0 ≤ c.k ∧ Q (oI (c.d.map fun d => 24 * (c.k / 24 + d) + 23)) H
theorem ok_pdue {f : Addr} {fd : FuncData} {k : Nat} (F : Fun K "due" "Parcel.due" sPDue f fd) (B : Blt mg) (PC : PCls K CQ) : FnOk P w K mg base CX0 (k + 1) f fd ["self"] (spPDue K CQ C) := by
  refine F.ok scPDue (fun vs H Q E h => ?_) (fun cdv A outer s H vs Q E hr h => ?_)
  · obtain ⟨j, c, ns, rfl, _⟩ := h
    rfl
  · obtain ⟨j, c, ns, rfl, hP, k0, q⟩ := h
    obtain ⟨dx, Tp, us, hj, hT, hG⟩ := hP
    refine ⟨_, (pss_cons (ps_if (pt_cmpR op_isN (pe_fld (pv 0) rfl) pe_non (nomark _))
        (pss_one (ps_ret pe_non))
        pss_nil)
      (pss_one (ps_ret (pe_op op_sub (pe_op op_add (pe_op op_mul ((pe_gint (by rfl) B.day)) (pe_op op_add (pe_op op_fdivW (pe_fld (pv 0) rfl) ((pe_gint (by rfl) B.day))) (pe_fld (pv 0) rfl))) ((pe_gint (by rfl) B.day))) pe_int)))), ?_⟩
    refine ⟨.ref j, rfl, j, CQ, dx, _, _, rfl, hj, PC.c, PC.n6, parF_at.2.2.2.2.2.1, rfl, _, rfl, ?_⟩
    cases hd : c.d with
    | none =>
      rw [hd] at q
      exact ite2 (fun _ => q) (fun z => absurd rfl z)
    | some i =>
      rw [hd] at q
      refine ite2 (fun z => by cases z) (fun _ => ?_)
      have pd : (parF c Tp).lookup ("days" : Str) = some (.int i) := by rw [parF_at.2.2.2.2.2.1, hd]; rfl
      refine ⟨.ref j, rfl, j, CQ, dx, _, _, rfl, hj, PC.c, PC.n4, parF_at.2.2.2.1, c.k, 24, rfl, rfl, ?_, .ref j, rfl, j, CQ, dx, _, _, rfl, hj, PC.c, PC.n6, pd, _, _, rfl, rfl, 24, _, rfl, rfl, .inl ⟨by decide, by decide⟩, _, _, rfl, rfl, _, _, rfl, rfl, ?_⟩
      · exact ⟨by decide, by decide +kernel⟩
      have e : 24 * (c.k / 24 + i) + 24 - 1 = 24 * (c.k / 24 + i) + 23 := by omega
      show Q (.int (24 * (c.k / 24 + i) + 24 - 1)) H
      rw [e]
      exact q
end
end Tb
namespace Tb
open PySem PySem.Spec PyProof.Rows L2
abbrev sLParcel : Stmt := topS 54
abbrev NLParcel : List Str := ["values"]
theorem scLParcel : FnScope NLParcel ["values"] (defScope sLParcel) := ⟨rfl, rfl, rfl, by decide +kernel, rfl, by decide +kernel, by decide +kernel⟩
abbrev sPRef : Stmt := topS 59
abbrev NPRef : List Str := ["values", "e", "word", "base", "other"]
theorem scPRef : FnScope NPRef ["values"] (defScope sPRef) := ⟨rfl, rfl, rfl, by decide +kernel, rfl, by decide +kernel, by decide +kernel⟩
abbrev sSays : Stmt := topS 64
abbrev NSays : List Str := ["told", "due"]
theorem scSays : FnScope NSays ["told", "due"] (defScope sSays) := ⟨rfl, rfl, rfl, by decide +kernel, rfl, by decide +kernel, by decide +kernel⟩
abbrev sParcelIs : Stmt := topS 55
abbrev NParcelIs : List Str := ["parcel", "values", "nodes", "told", "due", "node", "k"]
theorem scParcelIs : FnScope NParcelIs ["parcel", "values", "nodes"] (defScope sParcelIs) := ⟨rfl, rfl, rfl, by decide +kernel, rfl, by decide +kernel, by decide +kernel⟩
section
variable {P : Program} {w : World} {K : PySem.W.Frag} {mg : Str → Option Value} {base : Heap} {C pw fw CI fI t0 t1 : Addr} {gdw fdI : FuncData} {ds0 : List Value} {gI CP c1 c2 c3 c4 c5 c6 c7 : Addr} {gdI : FuncData} {CQ fQ : Addr} {fdQ : FuncData}
theorem kb_five {f : Addr} {fd : FuncData} (F : FunP K t1 f fd) : ∃ g, KBn K fd psP 5 ["weight", "days", "sender", "receiver", "goods"] g (fun vs zs => vs ++ zs) := by
  obtain ⟨mv, h⟩ := F.kbinds0 (ps := psP) 5 ["weight", "days", "sender", "receiver", "goods"] [] (fun us _ ws => us ++ ws) (List.cons_ne_nil _ _) nofun (fun r1 _ r3 => r1.append r3) fun D doc pm an cdv ct us mv ws l1 l2 l3 => match us, ws, l1, l3 with
    | [_, _, _, _, _], [_, _, _, _, _], _, _ => rfl
  exact ⟨_, h⟩
def dvP (t1 : Addr) : List V := [.int 1, .non, .str ("sender" : String), .str ("receiver" : String), .ref t1]
theorem bindsP5 {f : Addr} {fd : FuncData} (F : FunP K t1 f fd) : ∃ ds, Vals (dvP t1) ds ∧ Binds K fd psP ds :=
  F.binds0 (ps := psP) 5 (List.cons_ne_nil _ _) rfl fun D doc pm an cdv ct us ks l1 l2 => match us, ks, l1, l2 with
    | [_, _, _, _, _], [_, _, _, _, _], _, _ => ⟨_, _, _, _, _, _, rfl, rfl, ⟨_, _, _, _, _, _, rfl, rfl, ⟨_, _, _, _, _, _, rfl, rfl, ⟨_, _, _, _, _, _, rfl, rfl, ⟨_, _, _, _, _, _, rfl, rfl, rfl⟩⟩⟩⟩⟩
/-- the class Parcel, to be called -/
structure ParC (P : Program) (w : World) (K : PySem.W.Frag) (mg : Str → Option Value) (base : Heap) (CQ CG CI t1 fQ : Addr) (fdQ : FuncData) : Prop where
  MK : Mk K CQ fQ
  F : FunP K t1 fQ fdQ
  G : FnOk P w K mg base (L2.CX P w) 5 fQ fdQ psP (spPInitX K CQ CG CI)
  g : mg "Parcel" = some (.ref CQ)
  e0 : ∀ H, SqT K H t1 []
theorem ParC.R4 (T : ParC P w K mg base CQ C CI t1 fQ fdQ) : FnR P w K mg base (L2.CX P w) 5 fQ (fun vs H Q E => spPInitX K CQ C CI (vs ++ dvP t1) H Q E) := by
  obtain ⟨ds, v, b⟩ := bindsP5 T.F
  exact (T.G.raw b v).imp fun vs H Q E h => h
theorem PcAt.kg {K : PySem.W.Frag} {CP CG : Addr} {H H' : Hp} {j : Addr} {c : Pc} {ns : List Nd} (h : PcAt K CP CG H j c ns) (k : Kg H H') : PcAt K CP CG H' j c ns := by
  obtain ⟨dx, Tp, us, h1, h2, h3⟩ := h
  exact ⟨dx, Tp, us, k _ _ h1 (fun _ e => by cases e), SqT.kg h2 k, h3.kg k⟩
def pcV (c : Pc) : List V := [.int c.t, .str c.a, .str c.s, .int c.k, .int c.w, oI c.d, .str c.f, .str c.r]
def PcL (c : Pc) : Prop := c.a.length ≤ 1000 ∧ c.s.length ≤ 1000 ∧ c.f.length ≤ 1000 ∧ c.r.length ≤ 1000
def spLPar (K : PySem.W.Frag) (CQ CG CI : Addr) : Sp := fun vs H Q E => ∃ (vl g : Addr) (c : Pc) (ns : List Nd) (us : List V), vs = [.ref vl] ∧ H vl = some (.lst (pcV c ++ [.ref g])) ∧ PcL c ∧ (SqL K H g us ∨ SqT K H g us) ∧ GdsAt K CG H ns us ∧
  (okPc c → ∀ x H', Same H H' → PcAt K CQ CG H' x c ns → Q (.ref x) H') ∧
  (¬ okPc c → ∀ e H', Same H H' → H' e = some (.xd [(wWhat, .str wParcel)]) → E (.ref CI) (some e) H')
theorem ok_lpar {f : Addr} {fd : FuncData} (F : Fun K "_law_parcel" "_law_parcel" sLParcel f fd) (PT : ParC P w K mg base CQ C CI t1 fQ fdQ) : FnOk P w K mg base (L2.CX P w) 7 f fd ["values"] (spLPar K CQ C CI) := by
  obtain ⟨gk, kb⟩ := kb_five PT.F
  refine F.okX scLParcel (fun vs H Q E h => ?_) (fun cdv A outer s H vs Q E hr h => ?_)
  · obtain ⟨vl, g, c, ns, us, rfl, _⟩ := h
    rfl
  · obtain ⟨vl, g, c, ns, us, rfl, hv, hc, hg, hG, qG, qB⟩ := h
    have hr6 : Room 6 _ := hr
    refine ⟨_, pss_one (ps_ret (pe_makeK PT.MK PT.G hr6 (by rfl) PT.g kb (passes_call (takes_of rfl rfl rfl rfl) fun _ _ _ _ h => h)
      (pa_cons (pe_ix ix_list (pv 0) pe_int (fun _ _ => rfl)) (pa_cons (pe_ix ix_list (pv 0) pe_int (fun _ _ => rfl)) (pa_cons (pe_ix ix_list (pv 0) pe_int (fun _ _ => rfl)) (pa_cons (pe_ix ix_list (pv 0) pe_int (fun _ _ => rfl)) pa_nil))))
      (pk_cons (pe_ix ix_list (pv 0) pe_int (fun _ _ => rfl)) (pk_cons (pe_ix ix_list (pv 0) pe_int (fun _ _ => rfl)) (pk_cons (pe_ix ix_list (pv 0) pe_int (fun _ _ => rfl)) (pk_cons (pe_ix ix_list (pv 0) pe_int (fun _ _ => rfl)) (pk_cons (pe_ix ix_list (pv 0) pe_int (fun _ _ => rfl)) pk_nil))))))), ?_⟩
    refine ⟨.ref vl, rfl, vl, _, 0, _, rfl, rfl, sqOf hv, atI_nat (j := 0) rfl, .ref vl, rfl, vl, _, 1, _, rfl, rfl, sqOf hv, atI_nat (j := 1) rfl, .ref vl, rfl, vl, _, 2, _, rfl, rfl, sqOf hv, atI_nat (j := 2) rfl, .ref vl, rfl, vl, _, 3, _, rfl, rfl, sqOf hv, atI_nat (j := 3) rfl, .ref vl, rfl, vl, _, 4, _, rfl, rfl, sqOf hv, atI_nat (j := 4) rfl, .ref vl, rfl, vl, _, 5, _, rfl, rfl, sqOf hv, atI_nat (j := 5) rfl, .ref vl, rfl, vl, _, 6, _, rfl, rfl, sqOf hv, atI_nat (j := 6) rfl, .ref vl, rfl, vl, _, 7, _, rfl, rfl, sqOf hv, atI_nat (j := 7) rfl, .ref vl, rfl, vl, _, 8, _, rfl, rfl, sqOf hv, atI_nat (j := 8) rfl, rfl, rfl, fun x dx nx ndx ne => ?_⟩
    have S0 := made_same (C := CQ) nx ndx ne
    exact ⟨x, dx, g, c, ns, us, rfl, upd_same, hc.1, hc.2.1, hc.2.2.1, hc.2.2.2, hg.imp (fun h => sqL_same h S0) (fun h => SqT.kg h (Same.kg S0)), hG.kg (Same.kg S0), fun ok H' bx hp => ⟨rfl, qG ok x H' (made_bx nx S0 bx) hp⟩, fun ng e H' bx he => qB ng e H' (made_bx nx S0 bx) he⟩
abbrev CLParcel (P : Program) (w : World) (K : PySem.W.Frag) (mg : Str → Option Value) (base : Heap) (CQ CG CI : Addr) (g : Addr) (gd : FuncData) := C1X P w K mg base "_law_parcel" sLParcel ["values"] 7 (spLPar K CQ CG CI) g gd
def spPRef (K : PySem.W.Frag) (CG : Addr) : Sp := fun vs H Q _ => ∃ (vl g : Addr) (c : Pc) (ns : List Nd) (us : List V), vs = [.ref vl] ∧ H vl = some (.lst (pcV c ++ [.ref g])) ∧ PcL c ∧ (SqL K H g us ∨ SqT K H g us) ∧ GdsAt K CG H ns us ∧ ¬ okPc c ∧ ∀ H', Same H H' → Q (.bl true) H'
theorem ok_pref {f g1 : Addr} {fd gd1 : FuncData} (F : Fun K "_law_parcel_refused" "_law_parcel_refused" sPRef f fd) (cLParcel : CLParcel P w K mg base CQ C CI g1 gd1) (R : Errs K mg CI gI gdI CP c1 c2 c3 c4 c5 c6 c7) (B : Blt mg) : FnOk P w K mg base CX0 8 f fd ["values"] (spPRef K C) := by
  refine F.ok scPRef (fun vs H Q E h => ?_) (fun cdv A outer s H vs Q E hr h => ?_)
  · obtain ⟨vl, g, c, ns, us, rfl, _⟩ := h
    rfl
  · obtain ⟨vl, g, c, ns, us, rfl, hv, hc, hg, hG, ng, q⟩ := h
    refine ⟨_, pss_cons (ps_try_as (i := 1) rfl rfl scPRef.nd rfl rfl ⟨rfl, by decide, .inl R.I.g⟩ takes0
        (fun W pn xe tk _ => pss_one (ps_expr (pe_callS cLParcel.G (hr.mono (by first | decide | omega)) (by rfl) cLParcel.D.g cLParcel.D.F.kp cLParcel.D.b (fun σ => passAt tk σ) (pa_cons (pv 0) pa_nil))))
        (fun a oe cls d pn hz hf => pss_cons (ps_set (i := 2) scPRef.nd rfl (.inl rfl) (pe_and (pe_callB (id := "isinstance") (r := rIsi K) call_isi (by rfl) B.isi (by decide +kernel) (pa_cons (pe_xf R.I.T.xf R.I.T.no hz hf (pv 1)) (pa_cons (pe_bltn (by rfl) B.str PyProof.Rows.boot_str (v := .ty "str") rfl) pa_nil))) (pe_one (pe_cmpR op_eq (pe_xf R.I.T.xf R.I.T.no hz hf (pv 1)) pe_str (nomark _)))))
          (pss_cons (ps_set (i := 3) scPRef.nd rfl (.inl rfl) (pe_and (pe_callB (id := "isinstance") (r := rIsX K CI a cls d) (call_isX R.I.T hz hf) (by rfl) B.isi (by decide +kernel) (pa_cons (pv 1) (pa_cons (pe_glob (by rfl) R.gP (v := .ref CP) rfl) pa_nil))) (pe_one (pe_callB (id := "isinstance") (r := rIsX K CI a cls d) (call_isX R.I.T hz hf) (by rfl) B.isi (by decide +kernel) (pa_cons (pv 1) (pa_cons (pe_bltn (by rfl) R.ve (by decide +kernel) (v := .ty "ValueError") (u := .type "ValueError") rfl) pa_nil))))))
          (pss_cons (ps_set (i := 4) scPRef.nd rfl (.inl rfl) (pe_callB (id := "isinstance") (r := rIsXT K CI a cls d) (call_isXT R.I.T hz hf) (by rfl) B.isi (by decide +kernel) (pa_cons (pv 1) (pa_cons (pe_tup (pa_cons (pe_glob (by rfl) R.g1 (v := .ref c1) rfl) (pa_cons (pe_glob (by rfl) R.g2 (v := .ref c2) rfl) (pa_cons (pe_glob (by rfl) R.g3 (v := .ref c3) rfl) (pa_cons (pe_glob (by rfl) R.g4 (v := .ref c4) rfl) (pa_cons (pe_glob (by rfl) R.g5 (v := .ref c5) rfl) (pa_cons (pe_glob (by rfl) R.g6 (v := .ref c6) rfl) (pa_cons (pe_glob (by rfl) R.g7 (v := .ref c7) rfl) pa_nil)))))))) pa_nil))))
          (pss_one (ps_ret (pe_and (pv 2) (pe_and (pv 3) (pe_one (pe_not (pv 4)))))))))))
      (pss_one (ps_ret pe_bl)), ?_⟩
    refine ⟨.ref vl, rfl, vl, g, c, ns, us, rfl, hv, hc, hg, hG, fun ok => absurd ok ng, fun _ e H1 S1 he => ?_⟩
    refine ⟨true, R.ex, fun _ a ha => ?_, fun z => by cases z⟩
    clear ha
    have lw : List.lookup wWhat [(wWhat, V.str wParcel)] = some (.str wParcel) := rfl
    refine ⟨.ref a, rfl, rfl, rfl, e, _, .str wParcel, rfl, he, lw, .str wParcel, .ty "str", .type "str", .type "str", true, rfl, .ty _, .base (.str _), kit_ty (by decide +kernel), true, rfl, ?_⟩
    refine ⟨.ref a, rfl, rfl, rfl, e, _, .str wParcel, rfl, he, lw, rfl, ?_⟩
    rw [decide_eq_true rfl]
    refine ⟨.ref a, rfl, rfl, .ref CP, .ref CP, true, e, _, rfl, .own _, rfl, he, R.kP, true, rfl, ?_⟩
    refine ⟨.ref a, rfl, rfl, .ty "ValueError", .type "ValueError", true, e, _, rfl, .ty _, rfl, he, R.kV, ?_⟩
    refine ⟨.ref a, rfl, by show 7 ≤ sizeLine; decide, fun tp ntp => ?_⟩
    have hd2 : ∀ o, (upd H1 tp o) e = some (.xd [(wWhat, .str wParcel)]) := fun o => by rw [upd_ne (ne_of_none he ntp)]; exact he
    refine ⟨rfl, tp, _, [.ref c1, .ref c2, .ref c3, .ref c4, .ref c5, .ref c6, .ref c7], false, e, _, rfl, upd_same, .cons (.own _) (.cons (.own _) (.cons (.own _) (.cons (.own _) (.cons (.own _) (.cons (.own _) (.cons (.own _) .nil)))))), rfl, hd2 _, R.kO, ?_⟩
    exact ⟨.bl true, rfl, true, rfl, .bl true, rfl, true, rfl, .bl false, rfl, false, rfl, q _ (S1.trans (same_upd ntp))⟩

def spSays : Sp := fun vs H Q _ => ∃ b : Bool, vs = [.bl b, .bl b] ∧ Q (.bl true) H
theorem ok_says {f : Addr} {fd : FuncData} {k : Nat} (F : Fun K "_law_says" "_law_says" sSays f fd) (B : Blt mg) : FnOk P w K mg base CX0 (k + 1) f fd ["told", "due"] spSays := by
  refine F.ok scSays (fun vs H Q E h => ?_) (fun cdv A outer s H vs Q E hr h => ?_)
  · obtain ⟨b, rfl, _⟩ := h
    rfl
  · obtain ⟨b, rfl, q⟩ := h
    refine ⟨_, (pss_one (ps_ret (pe_and (pe_or (pe_cmpR op_is_bl (pv 0) pe_bl (nomark _)) (pe_one (pe_cmpR op_is_bl (pv 0) pe_bl (nomark _)))) (pe_one (pe_cmpR op_eq (pv 0) (pv 1) (nomark _)))))), ?_⟩
    cases b with
    | true =>
      refine ⟨.bl true, rfl, true, true, rfl, rfl, _, rfl, ite2 (fun _ => ⟨_, rfl, ite2 (fun _ => ⟨.bl true, rfl, .bl true, rfl, rfl, ?_⟩) (fun z => absurd rfl z)⟩) (fun z => absurd rfl z)⟩
      rw [decide_eq_true rfl]
      exact q
    | false =>
      refine ⟨.bl false, rfl, false, true, rfl, rfl, _, rfl, ite2 (fun z => by cases z) (fun _ => ⟨.bl false, rfl, false, false, rfl, rfl, _, rfl, ite2 (fun _ => ⟨.bl false, rfl, .bl false, rfl, rfl, ?_⟩) (fun z => absurd rfl z)⟩)⟩
      rw [decide_eq_true rfl]
      exact q
variable {PWp PDp fPw fPd : Addr} {dPw dPd : FuncData}
def spParIs (K : PySem.W.Frag) (CQ CG : Addr) : Sp := fun vs H Q _ => ∃ (j vl nl : Addr) (c : Pc) (ns : List Nd) (rest us : List V), vs = [.ref j, .ref vl, .ref nl] ∧ PcAt K CQ CG H j c ns ∧ 0 ≤ c.k ∧ H vl = some (.lst (pcV c ++ rest)) ∧ rest.length ≤ 10 ∧ H nl = some (.lst us) ∧ NdsAt All H ns us ∧ (∀ n ∈ ns, n.ok ∧ n.d ≤ 2) ∧ ns.length ≤ 900 ∧ ∀ H', Same H H' → Q (.bl true) H'
theorem ok_paris {f g1 g2 : Addr} {fd gd1 gd2 : FuncData} (F : Fun K "_law_parcel_is" "_law_parcel_is" sParcelIs f fd) (PC : PCls K CQ) (cLIs : CLIs P w K mg base g1 gd1) (cGoodIs : CGoodIs P w K mg base C g2 gd2) (PWq : PropOf K CQ "worth" PWp fPw) (bPw : Binds K dPw ["self"] []) (FPw : FnOk P w K mg base CX0 3 fPw dPw ["self"] (spPWorth K CQ C)) (PDq : PropOf K CQ "due" PDp fPd) (bPd : Binds K dPd ["self"] []) (FPd : FnOk P w K mg base CX0 1 fPd dPd ["self"] (spPDue K CQ C)) (B : Blt mg) : FnOk P w K mg base CX0 6 f fd ["parcel", "values", "nodes"] (spParIs K CQ C) := by
  refine F.ok scParcelIs (fun vs H Q E h => ?_) (fun cdv A outer s H vs Q E hr h => ?_)
  · obtain ⟨j, vl, nl, c, ns, rest, us, rfl, _⟩ := h
    rfl
  · obtain ⟨j, vl, nl, c, ns, rest, us, rfl, hP, k0, hv, lr, hL, hN, ok, ln, q⟩ := h
    have hz : sizeLine = 16777216 := rfl
    refine ⟨_, (pss_cons (ps_set (i := 3) scParcelIs.nd rfl (.inr rfl) (pe_lst (pa_cons (pe_fld (pv 0) rfl) (pa_cons (pe_fld (pv 0) rfl) (pa_cons (pe_fld (pv 0) rfl) (pa_cons (pe_fld (pv 0) rfl) (pa_cons (pe_fld (pv 0) rfl) (pa_cons (pe_fld (pv 0) rfl) pa_nil))))))))
      (pss_cons (ps_set (i := 3) scParcelIs.nd rfl (.inr rfl) (pe_op op_cat (pv 3) (pe_lst (pa_cons (pe_fld (pv 0) rfl) (pa_cons (pe_fld (pv 0) rfl) (pa_cons (pe_prop (pv 0) PC.c PWq FPw (hr.mono (by first | decide | omega)) bPw .nil pass0 rfl) (pa_cons (pe_prop (pv 0) PC.c PDq FPd (hr.mono (by first | decide | omega)) bPd .nil pass0 rfl) pa_nil)))))))
      (pss_cons (ps_set (i := 4) scParcelIs.nd rfl (.inr rfl) (pe_op op_cat (pe_slice sl_list (pv 1) po_none (po_some pe_int)) (pe_lst (pa_cons (pe_callB (cr_sum rfl) (by rfl) B.sum (by decide +kernel) (pa_cons (pe_lc (own := [("node", 5)]) (g := gName 5) (by rfl) scParcelIs.nd (pi_list (pv 2)) (blkOk_by (N := NParcelIs) (sc := defScope sParcelIs) (by decide +kernel)) (fun _ _ _ _ _ => pg_name (i := 5) scParcelIs.nd rfl (Or.inl rfl)) (fun _ _ _ _ _ => pts_nil) (fun _ _ _ _ _ => pe_ix (r := rIxT K) ix_tup (pv 5) pe_int (fun _ _ => rfl))) pa_nil)) (pa_cons pe_non pa_nil)))))
      (C8.pss_cut (ps_if (pt_cmpR op_notN (pe_ix ix_list (pv 1) pe_int (fun _ _ => rfl)) pe_non (nomark _))
        (pss_one (ps_asg (pe_op op_add (pe_op op_mul pe_int (pe_op op_add (pe_op op_fdiv (pe_ix ix_list (pv 1) pe_int (fun _ _ => rfl)) pe_int) (pe_ix ix_list (pv 1) pe_int (fun _ _ => rfl)))) pe_int) (pg_sub (pv 4) pe_int set_list)))
        pss_nil)
      (pss_cons (ps_if (pt_cmpR op_gt (pe_callB call_len_seq (by rfl) B.len PySem.boot_len (pa_cons (pe_lc (own := [("k", 6)]) (g := gName 6) (by rfl) scParcelIs.nd (pi_range1 (by rfl) B.range (pa_cons pe_int pa_nil)) (blkOk_by (N := NParcelIs) (sc := defScope sParcelIs) (by decide +kernel)) (fun _ _ _ _ _ => pg_name (i := 6) scParcelIs.nd rfl (Or.inl rfl)) (fun _ _ _ _ _ => pts_one (pt_not (pt_val (pe_call cLIs.G (hr.mono (by first | decide | omega)) (by rfl) cLIs.D.g cLIs.D.F.kp cLIs.D.b .nil pass0 (pa_cons (pe_ix (r := rIxL K) ix_list (pv 3) (pv 6) (fun _ _ => rfl)) (pa_cons (pe_ix (r := rIxL K) ix_list (pv 4) (pv 6) (fun _ _ => rfl)) pa_nil)))))) (fun _ _ _ _ _ => pv 6)) pa_nil)) pe_int (nomark _))
        (pss_one (ps_ret pe_bl))
        pss_nil)
      (pss_cons (ps_if (PW.pt (pw_or (pt_not (pt_val (pe_callB call_isi (by rfl) B.isi (by decide +kernel) (pa_cons (pe_fld (pv 0) rfl) (pa_cons (pe_bltn (by rfl) B.tuple (by decide +kernel) (v := .ty "tuple") (u := .type "tuple") rfl) pa_nil))))) (pw_or1 (pt_cmpR op_ne (pe_callB call_len_seq (by rfl) B.len PySem.boot_len (pa_cons (pe_fld (pv 0) rfl) pa_nil)) (pe_callB call_len_seq (by rfl) B.len PySem.boot_len (pa_cons (pv 2) pa_nil)) (nomark _)))))
        (pss_one (ps_ret pe_bl))
        pss_nil)
      (pss_one (ps_ret (pe_cmpR op_eq (pe_callB call_len_seq (by rfl) B.len PySem.boot_len (pa_cons (pe_lc (own := [("k", 6)]) (g := gName 6) (by rfl) scParcelIs.nd (pi_range1 (by rfl) B.range (pa_cons (pe_callB call_len_seq (by rfl) B.len PySem.boot_len (pa_cons (pv 2) pa_nil)) pa_nil)) (blkOk_by (N := NParcelIs) (sc := defScope sParcelIs) (by decide +kernel)) (fun _ _ _ _ _ => pg_name (i := 6) scParcelIs.nd rfl (Or.inl rfl)) (fun _ _ _ _ _ => pts_one (pt_not (pt_val (pe_call cGoodIs.G (hr.mono (by first | decide | omega)) (by rfl) cGoodIs.D.g cGoodIs.D.F.kp cGoodIs.D.b .nil pass0 (pa_cons (pe_ix (r := rIxT K) ix_tup (pe_fldK (K := K) rfl (pv 0) rfl) (pv 6) (fun _ _ => rfl)) (pa_cons (pe_ix (r := rIxL K) ix_list (pv 2) (pv 6) (fun _ _ => rfl)) pa_nil)))))) (fun _ _ _ _ _ => pv 6)) pa_nil)) pe_int (nomark _)))))))))), ?_⟩
    obtain ⟨dx, Tp, gs, hj, hT, hG⟩ := hP
    have hP : PcAt K CQ C H j c ns := ⟨dx, Tp, gs, hj, hT, hG⟩
    refine ⟨.ref j, rfl, j, CQ, dx, _, _, rfl, hj, PC.c, PC.n1, parF_at.1, .ref j, rfl, j, CQ, dx, _, _, rfl, hj, PC.c, PC.n2, parF_at.2.1, .ref j, rfl, j, CQ, dx, _, _, rfl, hj, PC.c, PC.n3, parF_at.2.2.1, .ref j, rfl, j, CQ, dx, _, _, rfl, hj, PC.c, PC.n4, parF_at.2.2.2.1, .ref j, rfl, j, CQ, dx, _, _, rfl, hj, PC.c, PC.n5, parF_at.2.2.2.2.1, .ref j, rfl, j, CQ, dx, _, _, rfl, hj, PC.c, PC.n6, parF_at.2.2.2.2.2.1, by show 6 ≤ sizeLine; omega, fun A1 nA1 => ?_⟩
    have S1 := same_upd (o := .lst [.int c.t, .str c.a, .str c.s, .int c.k, .int c.w, oI c.d]) nA1
    have hA1 : L2.upd H A1 (.lst [.int c.t, .str c.a, .str c.s, .int c.k, .int c.w, oI c.d]) A1 = some (.lst [.int c.t, .str c.a, .str c.s, .int c.k, .int c.w, oI c.d]) := upd_same
    generalize L2.upd H A1 (.lst [.int c.t, .str c.a, .str c.s, .int c.k, .int c.w, oI c.d]) = H1 at S1 hA1
    have hj1 := S1 _ _ hj
    refine ⟨.ref A1, rfl, .ref j, rfl, j, CQ, dx, _, _, rfl, hj1, PC.c, PC.n7, parF_at.2.2.2.2.2.2.1, .ref j, rfl, j, CQ, dx, _, _, rfl, hj1, PC.c, PC.n8, parF_at.2.2.2.2.2.2.2.1, .ref j, rfl, j, dx, _, rfl, hj1, j, c, ns, rfl, hP.kg (Same.kg S1), ln, fun H2 S2 => ?_⟩
    have S02 := S1.trans S2
    have hA12 := S2 _ _ hA1
    refine ⟨.ref j, rfl, j, dx, _, rfl, S02 _ _ hj, j, c, ns, rfl, hP.kg (Same.kg S02), k0, by show 4 ≤ sizeLine; omega, fun A2 nA2 => ?_⟩
    obtain ⟨du, edu⟩ : ∃ du : Option Int, du = c.d.map fun d => 24 * (c.k / 24 + d) + 23 := ⟨_, rfl⟩
    obtain ⟨W, eW⟩ : ∃ W : Int, W = sumOf (ns.map Nd.w) := ⟨_, rfl⟩
    rw [← edu, ← eW]
    have S3 := S02.trans (same_upd (o := .lst [.str c.f, .str c.r, .int W, oI du]) nA2)
    have hA13 := same_upd (o := .lst [.str c.f, .str c.r, .int W, oI du]) nA2 _ _ hA12
    have hA23 : L2.upd H2 A2 (.lst [.str c.f, .str c.r, .int W, oI du]) A2 = some (.lst [.str c.f, .str c.r, .int W, oI du]) := upd_same
    generalize L2.upd H2 A2 (.lst [.str c.f, .str c.r, .int W, oI du]) = H3 at S3 hA13 hA23
    refine ⟨A1, A2, _, _, rfl, rfl, hA13, hA23, by show 6 + 4 ≤ sizeLine; omega, fun A3 nA3 => ?_⟩
    obtain ⟨L, eL⟩ : ∃ L : List V, L = pcV c ++ [.int W, oI du] := ⟨_, rfl⟩
    have eL2 : ([.int c.t, .str c.a, .str c.s, .int c.k, .int c.w, oI c.d] ++ [.str c.f, .str c.r, .int W, oI du] : List V) = L := by rw [eL]; rfl
    rw [eL2]
    have S4 := S3.trans (same_upd (o := .lst L) nA3)
    have hA3 : L2.upd H3 A3 (.lst L) A3 = some (.lst L) := upd_same
    generalize L2.upd H3 A3 (.lst L) = H4 at S4 hA3
    clear hA13 hA23 hA12 hA1 S3 S02 S2 S1 hj1
    refine ⟨.ref vl, rfl, 8, rfl, vl, _, rfl, sqOf (S4 _ _ hv), fun N nN => ?_⟩
    have e8 : cutV (pcV c ++ rest) none (some 8) = pcV c := by
      rw [show (8 : Int) = ((8 : Nat) : Int) from rfl, cut_hi]
      rfl
    rw [e8]
    have S5 := S4.trans (same_upd (o := .lst (pcV c)) nN)
    have hA35 := same_upd (o := .lst (pcV c)) nN _ _ hA3
    have hN5 : L2.upd H4 N (.lst (pcV c)) N = some (.lst (pcV c)) := upd_same
    generalize L2.upd H4 N (.lst (pcV c)) = H5 at S5 hA35 hN5
    obtain ⟨cs, ek, rfl, hcs⟩ := nds_cs hN
    have lc : cs.length ≤ 1000 := by rw [ek, List.length_map] at ln; omega
    refine ⟨.ref nl, rfl, nl, rfl, ⟨_, sqOf (S5 _ _ hL)⟩, fun D nD => lc_l (fun _ => true) (fun c => .int c.1.w) (S5 _ _ hL) nD lc (fun _ => rfl) (fun c hc H3 S3 R hR => hR H3 (Same.refl _)) (fun c' hc H6 S6 R hR => ?_) (fun H6 S6' hD => ?_)⟩
    · obtain ⟨t2, M, _, e, _, h2, _⟩ := (hcs c' hc).ref
      exact ⟨.ref c'.2, rfl, t2, _, 1, _, e, rfl, .of (S6 _ _ (S5 _ _ h2)), rfl, hR H6 (Same.refl _)⟩
    refine ⟨D, cs.map (fun c => c.1.w), rfl, sqOf ?_, by show 2 ≤ sizeLine; omega, fun D2 nD2 => ?_⟩
    · rw [hD, filt_true, List.map_map]
      rfl
    have ew : (cs.map fun c => c.1.w).sum = W := by
      rw [eW, sumOf_eq, ek, List.map_map]; rfl
    rw [ew]
    have S6 := S5.trans S6'
    have S7 := S6.trans (same_upd (o := .lst [.int W, .non]) nD2)
    have hA37 := same_upd (o := .lst [.int W, .non]) nD2 _ _ (S6' _ _ hA35)
    have hN7 := same_upd (o := .lst [.int W, .non]) nD2 _ _ (S6' _ _ hN5)
    have hD27 : L2.upd H6 D2 (.lst [.int W, .non]) D2 = some (.lst [.int W, .non]) := upd_same
    generalize L2.upd H6 D2 (.lst [.int W, .non]) = H7 at S7 hA37 hN7 hD27
    refine ⟨N, D2, _, _, rfl, rfl, hN7, hD27, by show 8 + 2 ≤ sizeLine; omega, fun A4 nA4 => ?_⟩
    have S8 := S7.trans (same_upd (o := .lst (pcV c ++ [.int W, .non])) nA4)
    have hA38 := same_upd (o := .lst (pcV c ++ [.int W, .non])) nA4 _ _ hA37
    have hA48 : L2.upd H7 A4 (.lst (pcV c ++ [.int W, .non])) A4 = some (.lst (pcV c ++ [.int W, .non])) := upd_same
    have nA4' : H A4 = none := S7.free nA4
    have A43 : A3 ≠ A4 := ne_of_none hA37 nA4
    generalize L2.upd H7 A4 (.lst (pcV c ++ [.int W, .non])) = H8 at S8 hA38 hA48
    clear hA37 hN7 hD27 S7 S6 S6' hD hN5 hA35 S5 S4 hA3
    refine ⟨fun σ' H' => (∃ y5 y6, σ' = [some (.ref j), some (.ref vl), some (.ref nl), some (.ref A3), some (.ref A4), y5, y6]) ∧ Same H H' ∧ H' A3 = some (.lst L) ∧ H' A4 = some (.lst L), ?_, ?_⟩
    · refine ⟨.ref vl, rfl, vl, _, 5, _, rfl, rfl, sqOf (S8 _ _ hv), atI_nat (j := 5) rfl, rfl, _, rfl, ?_⟩
      cases hd : c.d with
      | none =>
        have hdu : du = none := by rw [edu, hd]; rfl
        refine ite2 (fun z => by cases z) (fun _ => ?_)
        refine ⟨⟨_, _, rfl⟩, S8, hA38, ?_⟩
        rw [hA48, eL, hdu]
        rfl
      | some i =>
        have hdu : du = some (24 * (c.k / 24 + i) + 23) := by rw [edu, hd]; rfl
        refine ite2 (fun _ => ?_) (fun z => absurd rfl z)
        have e5 : (pcV c ++ rest)[5]? = some (.int i) := by show some (oI c.d) = _; rw [hd]; rfl
        refine ⟨.ref vl, rfl, vl, _, 3, _, rfl, rfl, sqOf (S8 _ _ hv), atI_nat (j := 3) rfl, c.k, 24, rfl, rfl, ⟨by decide, by decide +kernel⟩, .ref vl, rfl, vl, _, 5, _, rfl, rfl, sqOf (S8 _ _ hv), atI_nat (j := 5) e5, _, _, rfl, rfl, 24, _, rfl, rfl, .inl ⟨by decide, by decide⟩, _, _, rfl, rfl, ?_⟩
        refine ⟨.ref A4, rfl, A4, _, 9, 9, rfl, rfl, hA48, rfl, ?_⟩
        refine ⟨⟨_, _, rfl⟩, fun b o hb => by rw [upd_ne (ne_of_none hb nA4')]; exact S8 _ _ hb, by rw [upd_ne A43]; exact hA38, ?_⟩
        rw [upd_same, eL, hdu]
        rfl
    rintro σ' H9 ⟨⟨y5, y6, rfl⟩, S9, hA3, hA4⟩
    clear hA48 hA38 S8 eL2 e8
    have smp : ∀ v ∈ L, Smp v := fun v hv => by
      rw [eL] at hv
      unfold pcV at hv
      simp only [List.cons_append, List.nil_append, List.mem_cons, List.not_mem_nil, or_false] at hv
      rcases hv with rfl | rfl | rfl | rfl | rfl | rfl | rfl | rfl | rfl | rfl
      · exact .inr (.inr ⟨_, rfl⟩)
      · exact .inr (.inl ⟨_, rfl⟩)
      · exact .inr (.inl ⟨_, rfl⟩)
      · exact .inr (.inr ⟨_, rfl⟩)
      · exact .inr (.inr ⟨_, rfl⟩)
      · exact smp_oI _
      · exact .inr (.inl ⟨_, rfl⟩)
      · exact .inr (.inl ⟨_, rfl⟩)
      · exact .inr (.inr ⟨_, rfl⟩)
      · exact smp_oI _
    have lL : L.length = 10 := by rw [eL]; rfl
    refine ⟨10, rfl, by decide, by decide, fun D nD => ?_⟩
    refine lc_it (walk_range (lo := 0) (n := Int.toNat 10)) (fun i H' => Same H9 H' ∧ H' D = some (.lst [])) ⟨same_upd nD, upd_same⟩ (fun _ _ _ _ => trivial) (fun i v H1 H2 hi hP hy => ?_) (fun H10 hP => ?_)
    · obtain ⟨S1, hD⟩ := hP
      obtain ⟨rfl, rfl⟩ := hy
      have hi : i < 10 := hi
      obtain ⟨v, ev⟩ : ∃ v, L[i]? = some v := ⟨L[i], List.getElem?_eq_getElem (by omega)⟩
      have i0 : (0 : Int) + (i : Int) = (i : Int) := by omega
      show gName 6 (V.int ((0 : Int) + (i : Int))) _ _ _
      rw [i0]
      exact ⟨rfl, .ref A3, rfl, .int (i : Int), rfl, A3, L, _, v, rfl, rfl, sqOf (S1 _ _ hA3), atI_nat ev, .ref A4, rfl, .int (i : Int), rfl, A4, L, _, v, rfl, rfl, sqOf (S1 _ _ hA4), atI_nat ev, v, rfl, smp v (List.mem_of_getElem? ev), _, rfl, ite2 (fun z => by cases z) (fun _ => ⟨S1, hD⟩)⟩
    obtain ⟨S10, hD⟩ := hP
    refine ⟨D, [], rfl, .inl (sqOf hD), _, _, rfl, rfl, _, rfl, ite2 (fun z => by simp at z) (fun _ => ?_)⟩
    have S := S9.trans S10
    have hj1 := S _ _ hj
    have hT1 := SqT.kg hT (Same.kg S)
    have hL1 := S _ _ hL
    have lg : gs.length = cs.length := by rw [hG.len, ek, List.length_map]
    refine ⟨.ref j, rfl, j, CQ, dx, _, _, rfl, hj1, PC.c, PC.n9, parF_at.2.2.2.2.2.2.2.2, .ref Tp, .ty "tuple", .type "tuple", .type "tuple", true, rfl, .ty _, sqT_ty hT1, kit_ty (by decide +kernel), _, rfl, ?_⟩
    refine ⟨.ref j, rfl, j, CQ, dx, _, _, rfl, hj1, PC.c, PC.n9, parF_at.2.2.2.2.2.2.2.2, Tp, gs, rfl, .inr hT1, .ref nl, rfl, nl, _, rfl, .inl (sqOf hL1), rfl, _, rfl, ?_⟩
    rw [List.length_map, lg]
    refine ite2 (fun z => by simp at z) (fun _ => ?_)
    refine ⟨.ref nl, rfl, nl, _, rfl, .inl (sqOf hL1), _, rfl, by rw [List.length_map]; omega, by rw [List.length_map]; omega, fun D5 nD5 => ?_⟩
    refine lc_it (walk_range (lo := 0) (n := (((cs.map fun c => V.ref c.2).length : Nat) : Int).toNat)) (fun i H' => Same H10 H' ∧ H' D5 = some (.lst [])) ⟨same_upd nD5, upd_same⟩ (fun _ _ _ _ => trivial) (fun i v H1 H2 hi hP hy => ?_) (fun H11 hP => ?_)
    · obtain ⟨S1, hD1⟩ := hP
      obtain ⟨rfl, rfl⟩ := hy
      have hi : i < cs.length := by rw [List.length_map] at hi; omega
      have ec := List.getElem?_eq_getElem hi
      have evn : (cs.map fun c => V.ref c.2)[i]? = some (.ref cs[i].2) := by rw [List.getElem?_map, ec]; rfl
      have eg := List.getElem?_eq_getElem (show i < gs.length by omega)
      obtain ⟨k2, ek2, g2⟩ := hG.at eg
      have ek3 : ns[i]? = some cs[i].1 := by rw [ek, List.getElem?_map, ec]; rfl
      rw [ek3] at ek2
      cases ek2
      have S11 := S.trans S1
      have mk : cs[i].1 ∈ ns := List.mem_of_getElem? ek3
      have okk := ok _ mk
      have i0 : (0 : Int) + (i : Int) = (i : Int) := by omega
      show gName 6 (V.int ((0 : Int) + (i : Int))) _ _ _
      rw [i0]
      exact ⟨rfl, .ref j, rfl, j, CQ, dx, _, _, rfl, S1 _ _ hj1, PC.c, PC.n9, parF_at.2.2.2.2.2.2.2.2, .int (i : Int), rfl, Tp, gs, _, gs[i], rfl, rfl, SqT.kg hT1 (Same.kg S1), atI_nat eg, .ref nl, rfl, .int (i : Int), rfl, nl, _, _, .ref cs[i].2, rfl, rfl, sqOf (S1 _ _ hL1), atI_nat evn, gs[i], .ref cs[i].2, cs[i].1, rfl, g2.kg (Same.kg S11), (hcs _ (List.getElem_mem hi)).kp (Same.kp S11), okk.1, by omega, _, rfl, ite2 (fun z => by cases z) (fun _ => ⟨S1, hD1⟩)⟩
    obtain ⟨S11, hD5⟩ := hP
    refine ⟨D5, [], rfl, .inl (sqOf hD5), rfl, ?_⟩
    exact q H11 (S.trans S11)
end
end Tb
namespace Tb
open PySem PySem.Spec PyProof.Rows L2
abbrev sValues : Stmt := topS 63
abbrev NValues : List Str := ["box", "taken", "ticket", "values", "most"]
theorem scValues : FnScope NValues ["box"] (defScope sValues) := ⟨rfl, rfl, rfl, by decide +kernel, rfl, by decide +kernel, by decide +kernel⟩
abbrev sClears : Stmt := topS 33
abbrev NClears : List Str := ["tariffs", "land", "parcel"]
theorem scClears : FnScope NClears ["tariffs", "land", "parcel"] (defScope sClears) := ⟨rfl, rfl, rfl, by decide +kernel, rfl, by decide +kernel, by decide +kernel⟩
abbrev sAHold : Stmt := topS 65
abbrev NAHold : List Str := ["tariff", "rows", "portion", "nodes", "things", "k"]
theorem scAHold : FnScope NAHold ["tariff", "rows", "portion", "nodes", "things"] (defScope sAHold) := ⟨rfl, rfl, rfl, by decide +kernel, rfl, by decide +kernel, by decide +kernel⟩
abbrev sCHold : Stmt := topS 66
abbrev NCHold : List Str := ["tariffs", "dues", "lands", "parcel", "keys", "land"]
theorem scCHold : FnScope NCHold ["tariffs", "dues", "lands", "parcel"] (defScope sCHold) := ⟨rfl, rfl, rfl, by decide +kernel, rfl, by decide +kernel, by decide +kernel⟩
section
variable {P : Program} {w : World} {K : PySem.W.Frag} {mg : Str → Option Value} {base : Heap} {C pw fw CI fI t0 t1 : Addr} {gdw fdI : FuncData} {ds0 : List Value} {CQ fQ : Addr} {fdQ : FuncData} {CT fT : Addr} {fdT : FuncData}
def spValues : Sp := fun vs H Q _ => ∃ (p : Addr), vs = [.ref p] ∧ Box H p ∧ ∀ (vl : Addr) (c : Pc) (H' : Hp), H vl = none → H' vl = some (.lst (pcV c)) → okPc c → PcL c → Box H' p → But p H H' → Q (.ref vl) H'
theorem ok_values {f g1 g2 g3 : Addr} {fd gd1 gd2 gd3 : FuncData} (F : Fun K "_law_values" "_law_values" sValues f fd) (cDraw : CDraw P w K mg base g1 gd1) (cDigits : CDigits P w K mg base g2 gd2) (cName : CName P w K mg base g3 gd3) (B : Blt mg) : FnOk P w K mg base CX0 3 f fd ["box"] spValues := by
  refine F.ok scValues (fun vs H Q E h => ?_) (fun cdv A outer s H vs Q E hr h => ?_)
  · obtain ⟨p, rfl, _⟩ := h
    rfl
  · obtain ⟨p, rfl, hB, q⟩ := h
    have hz : sizeLine = 16777216 := rfl
    refine ⟨_, (pss_cons (ps_set (i := 1) scValues.nd rfl (.inl rfl) (pe_lst (pa_cons pe_int (pa_cons (pe_call cDraw.G (hr.mono (by first | decide | omega)) (by rfl) cDraw.D.g cDraw.D.F.kp cDraw.D.b .nil pass0 (pa_cons (pv 0) (pa_cons pe_int pa_nil))) (pa_cons (pe_op op_add (pe_op op_mul pe_int (pe_call cDraw.G (hr.mono (by first | decide | omega)) (by rfl) cDraw.D.g cDraw.D.F.kp cDraw.D.b .nil pass0 (pa_cons (pv 0) (pa_cons pe_int pa_nil)))) pe_int) (pa_cons (pe_call cDraw.G (hr.mono (by first | decide | omega)) (by rfl) cDraw.D.g cDraw.D.F.kp cDraw.D.b .nil pass0 (pa_cons (pv 0) (pa_cons pe_int pa_nil))) pa_nil))))))
      (pss_cons (ps_set (i := 1) scValues.nd rfl (.inl rfl) (pe_ix ix_list (pv 1) (pe_call cDraw.G (hr.mono (by first | decide | omega)) (by rfl) cDraw.D.g cDraw.D.F.kp cDraw.D.b .nil pass0 (pa_cons (pv 0) (pa_cons pe_int pa_nil))) (fun _ _ => rfl)))
      (pss_cons (ps_set (i := 2) scValues.nd rfl (.inl rfl) (pe_ix ix_list (pe_lst (pa_cons pe_int (pa_cons (pe_op op_add pe_int (pe_call cDraw.G (hr.mono (by first | decide | omega)) (by rfl) cDraw.D.g cDraw.D.F.kp cDraw.D.b .nil pass0 (pa_cons (pv 0) (pa_cons pe_int pa_nil)))) (pa_cons pe_int (pa_cons (pe_op op_add pe_int (pe_call cDraw.G (hr.mono (by first | decide | omega)) (by rfl) cDraw.D.g cDraw.D.F.kp cDraw.D.b .nil pass0 (pa_cons (pv 0) (pa_cons pe_int pa_nil)))) pa_nil))))) (pe_call cDraw.G (hr.mono (by first | decide | omega)) (by rfl) cDraw.D.g cDraw.D.F.kp cDraw.D.b .nil pass0 (pa_cons (pv 0) (pa_cons pe_int pa_nil))) (fun _ _ => rfl)))
      (pss_cons (ps_set (i := 3) scValues.nd rfl (.inl rfl) (pe_lst (pa_cons (pv 2) (pa_cons (pe_call cDigits.G (hr.mono (by first | decide | omega)) (by rfl) cDigits.D.g cDigits.D.F.kp cDigits.D.b .nil pass0 (pa_cons (pv 0) (pa_cons (pe_op op_add pe_int (pe_call cDraw.G (hr.mono (by first | decide | omega)) (by rfl) cDraw.D.g cDraw.D.F.kp cDraw.D.b .nil pass0 (pa_cons (pv 0) (pa_cons pe_int pa_nil)))) pa_nil))) (pa_cons (pe_call cName.G (hr.mono (by first | decide | omega)) (by rfl) cName.D.g cName.D.F.kp cName.D.b .nil pass0 (pa_cons (pv 0) pa_nil)) (pa_cons (pv 1) pa_nil))))))
      (pss_cons (ps_expr (pe_bm PySem.F.plainAttrs_list PySem.F.slot_list_append PySem.F.type_list_append mt_append (pv 3) (pa_cons (pe_ix ix_list (pe_lst (pa_cons pe_int (pa_cons (pe_op op_add pe_int (pe_call cDraw.G (hr.mono (by first | decide | omega)) (by rfl) cDraw.D.g cDraw.D.F.kp cDraw.D.b .nil pass0 (pa_cons (pv 0) (pa_cons (pe_op op_pow pe_int pe_int) pa_nil)))) pa_nil))) (pe_call cDraw.G (hr.mono (by first | decide | omega)) (by rfl) cDraw.D.g cDraw.D.F.kp cDraw.D.b .nil pass0 (pa_cons (pv 0) (pa_cons pe_int pa_nil))) (fun _ _ => rfl)) pa_nil)))
      (pss_cons (ps_set (i := 4) scValues.nd rfl (.inl rfl) (pe_op op_sub pe_int (pe_op op_fdiv (pv 1) pe_int)))
      (pss_cons (ps_expr (pe_bm PySem.F.plainAttrs_list PySem.F.slot_list_append PySem.F.type_list_append mt_append (pv 3) (pa_cons (pe_ix ix_list (pe_lst (pa_cons pe_non (pa_cons pe_int (pa_cons (pe_call cDraw.G (hr.mono (by first | decide | omega)) (by rfl) cDraw.D.g cDraw.D.F.kp cDraw.D.b .nil pass0 (pa_cons (pv 0) (pa_cons (pe_callB (call_min2 rfl) (by rfl) B.min (by decide +kernel) (pa_cons pe_int (pa_cons (pv 4) pa_nil))) pa_nil))) (pa_cons (pe_call cDraw.G (hr.mono (by first | decide | omega)) (by rfl) cDraw.D.g cDraw.D.F.kp cDraw.D.b .nil pass0 (pa_cons (pv 0) (pa_cons (pv 4) pa_nil))) pa_nil))))) (pe_call cDraw.G (hr.mono (by first | decide | omega)) (by rfl) cDraw.D.g cDraw.D.F.kp cDraw.D.b .nil pass0 (pa_cons (pv 0) (pa_cons pe_int pa_nil))) (fun _ _ => rfl)) pa_nil)))
      (pss_one (ps_ret (pe_op op_cat (pv 3) (pe_lst (pa_cons (pe_call cName.G (hr.mono (by first | decide | omega)) (by rfl) cName.D.g cName.D.F.kp cName.D.b .nil pass0 (pa_cons (pv 0) pa_nil)) (pa_cons (pe_call cName.G (hr.mono (by first | decide | omega)) (by rfl) cName.D.g cName.D.F.kp cName.D.b .nil pass0 (pa_cons (pv 0) pa_nil)) pa_nil))))))))))))), ?_⟩
    have np : ∀ {H' : Hp} {D : Addr}, Box H' p → H' D = none → D ≠ p := fun B nD e => by
      obtain ⟨_, _, _, _, e2, _⟩ := B
      rw [e, e2] at nD; cases nD
    refine ⟨.ref p, rfl, p, 49, rfl, hB, by decide, fun x1 H1 x10 x11 B1 b1 => ?_⟩
    refine ⟨.ref p, rfl, p, 41666, rfl, B1, by decide, fun x2 H2 x20 x21 B2 b2 => ⟨24, x2, rfl, rfl, .inl ⟨by decide, by decide⟩, _, 23, rfl, rfl, ?_⟩⟩
    refine ⟨.ref p, rfl, p, 999984, rfl, B2, by decide, fun x3 H3 x30 x31 B3 b3 => ⟨by show 4 ≤ sizeLine; omega, fun W nW => ?_⟩⟩
    have m4 := box_new (o := .lst [.int 0, .int x1, .int (24 * x2 + 23), .int x3]) B3 nW
    have Wp := np B3 nW
    refine ⟨.ref W, rfl, .ref p, rfl, p, 4, rfl, m4.1, by decide, fun c H4 c0 c1 B4 b4 => ?_⟩
    have hW := b4 W _ upd_same Wp
    obtain ⟨k, hk, k0, k1⟩ : ∃ k : Int, [V.int 0, .int x1, .int (24 * x2 + 23), .int x3][c.toNat]? = some (.int k) ∧ 0 ≤ k ∧ k ≤ 999983 := by
      rcases (show c = 0 ∨ c = 1 ∨ c = 2 ∨ c = 3 by omega) with rfl | rfl | rfl | rfl
      · exact ⟨0, rfl, by decide, by decide⟩
      · exact ⟨x1, rfl, x10, by omega⟩
      · exact ⟨_, rfl, by omega, by omega⟩
      · exact ⟨x3, rfl, x30, by omega⟩
    refine ⟨W, _, c.toNat, .int k, rfl, congrArg V.int (show c = (c.toNat : Int) by omega), sqOf hW, atI_nat hk, ?_⟩
    have b04 := (((b1.trans b2).trans b3).trans m4.2).trans b4
    clear hW m4 b1 b2 b3 b4 B1 B2 B3 nW Wp
    refine ⟨.ref p, rfl, p, 20, rfl, B4, by decide, fun y1 H5 y10 y11 B5 b5 => ⟨1, y1, rfl, rfl, ?_⟩⟩
    refine ⟨.ref p, rfl, p, 999999999, rfl, B5, by decide, fun y2 H6 y20 y21 B6 b6 => ⟨1, y2, rfl, rfl, by show 4 ≤ sizeLine; omega, fun W nW => ?_⟩⟩
    have m7 := box_new (o := .lst [.int 1, .int (1 + y1), .int 999999999, .int (1 + y2)]) B6 nW
    have Wp := np B6 nW
    refine ⟨.ref p, rfl, p, 4, rfl, m7.1, by decide, fun c H7 c0 c1 B7 b7 => ?_⟩
    have hW := b7 W _ upd_same Wp
    obtain ⟨t, ht, t0⟩ : ∃ t : Int, [V.int 1, .int (1 + y1), .int 999999999, .int (1 + y2)][c.toNat]? = some (.int t) ∧ 1 ≤ t := by
      rcases (show c = 0 ∨ c = 1 ∨ c = 2 ∨ c = 3 by omega) with rfl | rfl | rfl | rfl
      · exact ⟨1, rfl, by decide⟩
      · exact ⟨_, rfl, by omega⟩
      · exact ⟨_, rfl, by decide⟩
      · exact ⟨_, rfl, by omega⟩
    refine ⟨W, _, c.toNat, .int t, rfl, congrArg V.int (show c = (c.toNat : Int) by omega), sqOf hW, atI_nat ht, ?_⟩
    have b07 := (((b04.trans b5).trans b6).trans m7.2).trans b7
    clear hW m7 b04 b5 b6 b7 B4 B5 B6 nW Wp
    refine ⟨.int t, rfl, .ref p, rfl, .ref p, rfl, p, 8, rfl, B7, by decide, fun u H8 u0 u1 B8 b8 => ⟨1, u, rfl, rfl, ?_⟩⟩
    refine ⟨p, (1 + u).toNat, congrArg (fun x => [V.ref p, V.int x]) (show 1 + u = ((1 + u).toNat : Int) by omega), B8, by omega, fun z H9 lz dz B9 b9 => ?_⟩
    have az : isAddr z = true := by
      refine (isAddr_iff z).mpr ⟨?_, ?_, dz⟩
      · rw [← len_tl, lz]; omega
      · rw [← len_tl, lz]; omega
    refine ⟨.ref p, rfl, p, rfl, B9, fun s0 H10 hs0 B10 b10 => ⟨.int k, rfl, by show 4 ≤ sizeLine; omega, fun D nD => ?_⟩⟩
    have Dp := np B10 nD
    have m11 := box_new (o := .lst [.int t, .str z, .str s0, .int k]) B10 nD
    have b011 := (((b07.trans b8).trans b9).trans b10).trans m11.2
    have D0 : H D = none := but_free B10 (((b07.trans b8).trans b9).trans b10) nD
    have hD : L2.upd H10 D (.lst [.int t, .str z, .str s0, .int k]) D = some (.lst [.int t, .str z, .str s0, .int k]) := upd_same
    have B11 := m11.1
    generalize L2.upd H10 D (.lst [.int t, .str z, .str s0, .int k]) = H11 at b011 hD B11
    clear m11 b07 b8 b9 b10 B7 B8 B9 B10 nD
    have grow : ∀ {H1 : Hp} {xs : List V}, Box H1 p → But p H H1 → Box (L2.upd H1 D (.lst xs)) p ∧ But p H (L2.upd H1 D (.lst xs)) := fun {H1 xs} B b => by
      refine ⟨?_, fun c o e n => ?_⟩
      · obtain ⟨r, a, b, c, e, rest⟩ := B
        exact ⟨r, a, b, c, by rw [upd_ne (Ne.symm Dp)]; exact e, rest⟩
      · rw [upd_ne (ne_of_none e D0)]; exact b c o e n
    refine ⟨.ref D, rfl, .inl ⟨rfl, _, sqOf hD⟩, ?_⟩
    refine ⟨.ref p, rfl, 10, 6, rfl, rfl, ⟨by decide, by decide, by decide⟩, p, 10 ^ 6, rfl, B11, by decide, fun w1 H12 w10 w11 B12 b12 => ⟨1, w1, rfl, rfl, by show 2 ≤ sizeLine; omega, fun W nW => ?_⟩⟩
    have m13 := box_new (o := .lst [.int 1, .int (1 + w1)]) B12 nW
    have Wp := np B12 nW
    refine ⟨.ref p, rfl, p, 2, rfl, m13.1, by decide, fun c H13 c0 c1 B13 b13 => ?_⟩
    have hW := b13 W _ upd_same Wp
    obtain ⟨wt, hwt, wt0⟩ : ∃ wt : Int, [V.int 1, .int (1 + w1)][c.toNat]? = some (.int wt) ∧ 1 ≤ wt := by
      rcases (show c = 0 ∨ c = 1 by omega) with rfl | rfl
      · exact ⟨1, rfl, by decide⟩
      · exact ⟨_, rfl, by omega⟩
    have b1113 := (b12.trans m13.2).trans b13
    refine ⟨W, _, c.toNat, .int wt, rfl, congrArg V.int (show c = (c.toNat : Int) by omega), sqOf hW, atI_nat hwt, D, _, .int wt, rfl, rfl, b1113 _ _ hD Dp, by show 4 < sizeLine; omega, ?_⟩
    have g14 := grow (xs := [.int t, .str z, .str s0, .int k] ++ [.int wt]) B13 (b011.trans b1113)
    have hD14 : L2.upd H13 D (.lst ([.int t, .str z, .str s0, .int k] ++ [.int wt])) D = some (.lst [.int t, .str z, .str s0, .int k, .int wt]) := upd_same
    generalize L2.upd H13 D (.lst ([.int t, .str z, .str s0, .int k] ++ [.int wt])) = H14 at g14 hD14
    obtain ⟨B14, b14⟩ := g14
    clear hW m13 b12 b13 b1113 b011 hD B11 B12 B13 nW Wp
    refine ⟨.int k, rfl, k, 24, rfl, rfl, ⟨by decide, by decide⟩, 41666, _, rfl, rfl, ?_⟩
    refine ⟨.ref D, rfl, .inl ⟨rfl, _, sqOf hD14⟩, ?_⟩
    refine ⟨.ref p, rfl, .int (41666 - k / 24), rfl, 40, _, rfl, p, _, rfl, B14, by split <;> omega, fun d1 H15 d10 d11 B15 b15 => ?_⟩
    refine ⟨.ref p, rfl, .int (41666 - k / 24), rfl, p, _, rfl, B15, by omega, fun d2 H16 d20 d21 B16 b16 => ⟨by show 4 ≤ sizeLine; omega, fun W nW => ?_⟩⟩
    have m17 := box_new (o := .lst [.non, .int 0, .int d1, .int d2]) B16 nW
    have Wp := np B16 nW
    refine ⟨.ref p, rfl, p, 4, rfl, m17.1, by decide, fun c H17 c0 c1 B17 b17 => ?_⟩
    have hW := b17 W _ upd_same Wp
    obtain ⟨d, hd, d0⟩ : ∃ d : Option Int, [V.non, .int 0, .int d1, .int d2][c.toNat]? = some (oI d) ∧ ∀ i, d = some i → 0 ≤ i := by
      rcases (show c = 0 ∨ c = 1 ∨ c = 2 ∨ c = 3 by omega) with rfl | rfl | rfl | rfl
      · exact ⟨none, rfl, nofun⟩
      · exact ⟨some 0, rfl, fun i e => by cases e; decide⟩
      · exact ⟨some d1, rfl, fun i e => by cases e; exact d10⟩
      · exact ⟨some d2, rfl, fun i e => by cases e; exact d20⟩
    have b1417 := ((b15.trans b16).trans m17.2).trans b17
    refine ⟨W, _, c.toNat, oI d, rfl, congrArg V.int (show c = (c.toNat : Int) by omega), sqOf hW, atI_nat hd, D, _, oI d, rfl, rfl, b1417 _ _ hD14 Dp, by show 5 < sizeLine; omega, ?_⟩
    have g18 := grow (xs := [.int t, .str z, .str s0, .int k, .int wt] ++ [oI d]) B17 (b14.trans b1417)
    have hD18 : L2.upd H17 D (.lst ([.int t, .str z, .str s0, .int k, .int wt] ++ [oI d])) D = some (.lst [.int t, .str z, .str s0, .int k, .int wt, oI d]) := upd_same
    generalize L2.upd H17 D (.lst ([.int t, .str z, .str s0, .int k, .int wt] ++ [oI d])) = H18 at g18 hD18
    obtain ⟨B18, b18⟩ := g18
    clear hW m17 b15 b16 b17 b1417 b14 hD14 B14 B15 B16 B17 nW Wp
    refine ⟨.ref D, rfl, .ref p, rfl, p, rfl, B18, fun sf H19 hsf B19 b19 => ?_⟩
    refine ⟨.ref p, rfl, p, rfl, B19, fun sr H20 hsr B20 b20 => ⟨by show 2 ≤ sizeLine; omega, fun M nM => ?_⟩⟩
    have S21 := same_upd (o := .lst [.str sf, .str sr]) nM
    have hD20 := b20 _ _ (b19 _ _ hD18 Dp) Dp
    refine ⟨D, M, _, _, rfl, rfl, S21 _ _ hD20, upd_same, by show 6 + 2 ≤ sizeLine; omega, fun N nN => ?_⟩
    have S22 := S21.trans (same_upd (o := .lst ([.int t, .str z, .str s0, .int k, .int wt, oI d] ++ [.str sf, .str sr])) nN)
    have b20' := (b18.trans b19).trans b20
    have nl : ∀ {x : Str}, Nm (tl x) → x.length ≤ 1000 := fun h => by rw [len_tl]; exact Nat.le_trans h.1 (by decide)
    refine q N ⟨t, z, s0, k, wt, d, sf, sr⟩ _ (but_free B20 b20' (S21.free nN)) upd_same ⟨az, (isName_iff _).mpr hs0, (isName_iff _).mpr hsf, (isName_iff _).mpr hsr, t0, k0, wt0, d0⟩ ⟨?_, nl hs0, nl hsf, nl hsr⟩ (B20.same S22) (b20'.trans (Same.but S22))
    have := addr_small az
    show z.length ≤ 1000
    omega
def spClears (K : PySem.W.Frag) (CT CQ C : Addr) : Sp := fun vs H Q _ => ∃ (d j : Addr) (l : Str) (kvs : List (Key × V)) (c : Pc) (ns : List Nd) (r : Bool), vs = [.ref d, .str l, .ref j] ∧ H d = some (.dK kvs) ∧ PcAt K CQ C H j c ns ∧ (∀ n ∈ ns, n.ok ∧ n.d ≤ 2) ∧ ns.length ≤ 900 ∧
  (match valV kvs (Sum.inr l) with | none => r = true | some v => ∃ (x : Addr) (l2 : Str) (fr sh : Int) (rs : List Rw), v = .ref x ∧ TarX CT H x l2 fr sh rs ∧ 0 ≤ sh ∧ sh ≤ 100 ∧ r = letIn rs sh ns) ∧ ∀ H', Same H H' → Q (.bl r) H'
theorem ok_clears {f fTa : Addr} {fd dTa : FuncData} (F : Fun K "clears" "clears" sClears f fd) (PC : PCls K CQ) (TC : TCls K CT) (TAm : Meth K CT "admits" fTa) (bTa : Binds K dTa ["self", "goods"] []) (FTa : FnOk P w K mg base CX0 9 fTa dTa ["self", "goods"] (spAdmits K CT C)) : FnOk P w K mg base CX0 10 f fd ["tariffs", "land", "parcel"] (spClears K CT CQ C) := by
  refine F.ok scClears (fun vs H Q E h => ?_) (fun cdv A outer s H vs Q E hr h => ?_)
  · obtain ⟨d, j, l, kvs, c, ns, r, rfl, _⟩ := h
    rfl
  · obtain ⟨d, j, l, kvs, c, ns, r, rfl, hd, hP, ok, ln, hr2, q⟩ := h
    have hu := hu_of hr
    refine ⟨_, (pss_one (ps_ret (pe_or (pe_cmp (pc_dnotin hu (pv 1) (pv 0))) (pe_one (pe_meth (pe_dget hu (pv 0) (pv 1) (fun _ _ => rfl)) TC.c TAm FTa (hr.mono (by first | decide | omega)) bTa .nil pass0 (pa_cons (pe_fld (pv 2) rfl) pa_nil)))))), ?_⟩
    obtain ⟨dx, Tp, us, hj, hT, hG⟩ := hP
    refine ⟨.str l, rfl, .ref d, rfl, d, _, rfl, DGet.k (k := Sum.inr l) hd, ?_⟩
    cases ev : valV kvs (Sum.inr l) with
    | none =>
      rw [ev] at hr2
      refine ⟨_, rfl, ite2 (fun _ => ?_) (fun z => absurd rfl z)⟩
      have hr2 : r = true := hr2
      rw [hr2] at q
      exact q H (Same.refl _)
    | some v =>
      rw [ev] at hr2
      obtain ⟨x, l2, fr, sh, rs, rfl, hT2, s0, s1, rfl⟩ := hr2
      obtain ⟨dx2, dd, ss, hx, _⟩ := hT2.ex
      refine ⟨_, rfl, ite2 (fun z => by cases z) (fun _ => ?_)⟩
      have dg : DGet H d (.str l) (some (.ref x)) := by
        rw [← ev]
        exact DGet.k (k := Sum.inr l) hd
      exact ⟨.ref d, rfl, .str l, rfl, d, .ref x, rfl, dg, x, dx2, _, rfl, hx, rfl, .ref j, rfl, j, CQ, dx, _, _, rfl, hj, PC.c, PC.n9, parF_at.2.2.2.2.2.2.2.2, x, Tp, false, ns, us, l2, fr, sh, rs, rfl, hT2, hT, hG, ok, ln, s0, s1, fun H2 S2 => q H2 S2⟩
abbrev CLetIn (P : Program) (w : World) (K : PySem.W.Frag) (mg : Str → Option Value) (base : Heap) (g : Addr) (gd : FuncData) := C1 P w K mg base "_law_let_in" sLetIn ["rows", "portion", "nodes"] 2 spLetIn g gd
abbrev CSays (P : Program) (w : World) (K : PySem.W.Frag) (mg : Str → Option Value) (base : Heap) (g : Addr) (gd : FuncData) := C1 P w K mg base "_law_says" sSays ["told", "due"] 1 spSays g gd
abbrev CClears (P : Program) (w : World) (K : PySem.W.Frag) (mg : Str → Option Value) (base : Heap) (CT CQ C : Addr) (g : Addr) (gd : FuncData) := C1 P w K mg base "clears" sClears ["tariffs", "land", "parcel"] 10 (spClears K CT CQ C) g gd
def spAHold (K : PySem.W.Frag) (CT C : Addr) : Sp := fun vs H Q _ => ∃ (j a nl tl' : Addr) (l : Str) (fr sh : Int) (bs : List (Addr × Rw)) (ns : List Nd) (us ts : List V), vs = [.ref j, .ref a, .int sh, .ref nl, .ref tl'] ∧ TarX CT H j l fr sh (bs.map (·.2)) ∧ LR H a bs ∧ H nl = some (.lst us) ∧ NdsAt All H ns us ∧ H tl' = some (.lst ts) ∧ GdsAt K C H ns ts ∧ (∀ n ∈ ns, n.ok ∧ n.d ≤ 2) ∧ ns.length ≤ 900 ∧ 0 ≤ sh ∧ sh ≤ 100 ∧ ∀ H', Same H H' → Q (.bl true) H'
theorem ok_ahold {f g1 g2 fTa : Addr} {fd gd1 gd2 dTa : FuncData} (F : Fun K "_law_admits_hold" "_law_admits_hold" sAHold f fd) (TC : TCls K CT) (TAm : Meth K CT "admits" fTa) (bTa : Binds K dTa ["self", "goods"] []) (FTa : FnOk P w K mg base CX0 9 fTa dTa ["self", "goods"] (spAdmits K CT C)) (cLetIn : CLetIn P w K mg base g1 gd1) (cSays : CSays P w K mg base g2 gd2) (B : Blt mg) : FnOk P w K mg base CX0 10 f fd ["tariff", "rows", "portion", "nodes", "things"] (spAHold K CT C) := by
  refine F.ok scAHold (fun vs H Q E h => ?_) (fun cdv A outer s H vs Q E hr h => ?_)
  · obtain ⟨j, a, nl, tl', l, fr, sh, bs, ns, us, ts, rfl, _⟩ := h
    rfl
  · obtain ⟨j, a, nl, tl', l, fr, sh, bs, ns, us, ts, rfl, hT, hR, hL, hN, hS, hG, ok, ln, s0, s1, q⟩ := h
    have hz : sizeLine = 16777216 := rfl
    refine ⟨_, (pss_cons (ps_if (pt_not (pt_val (pe_call cSays.G (hr.mono (by first | decide | omega)) (by rfl) cSays.D.g cSays.D.F.kp cSays.D.b .nil pass0 (pa_cons (pe_meth (pv 0) TC.c TAm FTa (hr.mono (by first | decide | omega)) bTa .nil pass0 (pa_cons (pe_callTy call_list_of (by rfl) B.list PyProof.Rows.boot_list (pa_cons (pv 4) pa_nil)) pa_nil)) (pa_cons (pe_call cLetIn.G (hr.mono (by first | decide | omega)) (by rfl) cLetIn.D.g cLetIn.D.F.kp cLetIn.D.b .nil pass0 (pa_cons (pv 1) (pa_cons (pv 2) (pa_cons (pv 3) pa_nil)))) pa_nil)))))
        (pss_one (ps_ret pe_bl))
        pss_nil)
      (pss_cons (ps_if (pt_not (pt_val (pe_call cSays.G (hr.mono (by first | decide | omega)) (by rfl) cSays.D.g cSays.D.F.kp cSays.D.b .nil pass0 (pa_cons (pe_meth (pv 0) TC.c TAm FTa (hr.mono (by first | decide | omega)) bTa .nil pass0 (pa_cons (pe_lst pa_nil) pa_nil)) (pa_cons pe_bl pa_nil)))))
        (pss_one (ps_ret pe_bl))
        pss_nil)
      (pss_cons (ps_for PassesOwn.never rfl (pi_range1 (by rfl) B.range (pa_cons (pe_callB call_len_seq (by rfl) B.len PySem.boot_len (pa_cons (pv 3) pa_nil)) pa_nil)) (pg_name (i := 5) scAHold.nd rfl (.inl rfl))
        (pss_one (ps_if (pt_not (pt_val (pe_call cSays.G (hr.mono (by first | decide | omega)) (by rfl) cSays.D.g cSays.D.F.kp cSays.D.b .nil pass0 (pa_cons (pe_meth (pv 0) TC.c TAm FTa (hr.mono (by first | decide | omega)) bTa .nil pass0 (pa_cons (pe_tup (pa_cons (pe_ix ix_list (pv 4) (pv 5) (fun _ _ => rfl)) pa_nil)) pa_nil)) (pa_cons (pe_call cLetIn.G (hr.mono (by first | decide | omega)) (by rfl) cLetIn.D.g cLetIn.D.F.kp cLetIn.D.b .nil pass0 (pa_cons (pv 1) (pa_cons (pv 2) (pa_cons (pe_lst (pa_cons (pe_ix ix_list (pv 3) (pv 5) (fun _ _ => rfl)) pa_nil)) pa_nil)))) pa_nil)))))
          (pss_one (ps_ret pe_bl))
          pss_nil)))
      (pss_one (ps_ret (pe_call cSays.G (hr.mono (by first | decide | omega)) (by rfl) cSays.D.g cSays.D.F.kp cSays.D.b .nil pass0 (pa_cons (pe_meth (pv 0) TC.c TAm FTa (hr.mono (by first | decide | omega)) bTa .nil pass0 (pa_cons (pe_callTy call_tuple_of (by rfl) B.tuple PyProof.Rows.boot_tuple (pa_cons (pv 4) pa_nil)) pa_nil)) (pa_cons (pe_call cLetIn.G (hr.mono (by first | decide | omega)) (by rfl) cLetIn.D.g cLetIn.D.F.kp cLetIn.D.b .nil pass0 (pa_cons (pv 1) (pa_cons (pv 2) (pa_cons (pv 3) pa_nil)))) pa_nil)))))))), ?_⟩
    obtain ⟨dx, dd, ss, hj, hT2⟩ := hT.ex
    have ln50 : bs.length ≤ 900 := by have := hT.n; rw [List.length_map] at this; omega
    refine ⟨.ref j, rfl, j, dx, _, rfl, hj, rfl, .ref tl', rfl, tl', ts, rfl, .inl (sqOf hS), fun M nM => ?_⟩
    have S1 := same_upd (o := .lst ts) nM
    refine ⟨j, M, true, ns, ts, l, fr, sh, _, rfl, hT.same S1, sqOf upd_same, hG.kg (Same.kg S1), ok, ln, s0, s1, fun H2 S2 => ?_⟩
    have S02 := S1.trans S2
    refine ⟨.ref a, rfl, .int sh, rfl, .ref nl, rfl, a, nl, sh, bs, ns, us, rfl, hR.same S02, hT.g, ln50, S02 _ _ hL, hN.kp (Same.kp S02), ok, by omega, s0, s1, fun H3 S3 => ⟨_, rfl, true, rfl, ite2 (fun z => by cases z) (fun _ => ?_)⟩⟩
    have S03 := S02.trans S3
    refine ⟨.ref j, rfl, j, dx, _, rfl, S03 _ _ hj, rfl, by show 0 ≤ sizeLine; omega, fun M2 nM2 => ?_⟩
    have S4 := S03.trans (same_upd (o := .lst []) nM2)
    refine ⟨j, M2, true, [], [], l, fr, sh, _, rfl, hT.same S4, sqOf upd_same, rfl, nofun, by decide, s0, s1, fun H5 S5 => ?_⟩
    refine ⟨true, rfl, true, rfl, ite2 (fun z => by cases z) (fun _ => ?_)⟩
    have S05 := S4.trans S5
    have lu := hN.len
    have lt := hG.len
    refine ⟨.ref nl, rfl, nl, us, rfl, .inl (sqOf (S05 _ _ hL)), _, rfl, by omega, by omega, ?_⟩
    refine for_range (lo := 0) (n := ((us.length : Nat) : Int).toNat) (fun i σ H' => Same H H' ∧ ∃ y5, σ = [some (.ref j), some (.ref a), some (.int sh), some (.ref nl), some (.ref tl'), y5]) ⟨S05, none, rfl⟩ ?_ ?_
    · rintro i σ H6 hi ⟨S6, y5, rfl⟩
      have hi : i < ns.length := by omega
      have en := List.getElem?_eq_getElem hi
      obtain ⟨v1, e1, g1⟩ := hN.get en
      have et := List.getElem?_eq_getElem (show i < ts.length by omega)
      obtain ⟨k2, e2, g2⟩ := hG.at et
      rw [en] at e2
      cases e2
      have ok1 : ∀ n ∈ [ns[i]], n.ok ∧ n.d ≤ 2 := fun n hn => by rw [List.mem_singleton.mp hn]; exact ok _ (List.getElem_mem hi)
      have i0 : (0 : Int) + (i : Int) = (i : Int) := by omega
      rw [i0]
      refine ⟨.ref j, rfl, j, dx, _, rfl, S6 _ _ hj, rfl, .ref tl', rfl, .int (i : Int), rfl, tl', ts, _, ts[i], rfl, rfl, sqOf (S6 _ _ hS), atI_nat et, by show 1 ≤ sizeLine; omega, fun U nU => ?_⟩
      have S7 := S6.trans (same_upd (o := .tup [ts[i]]) nU)
      refine ⟨j, U, false, [ns[i]], [ts[i]], l, fr, sh, _, rfl, hT.same S7, .of upd_same, ⟨_, _, rfl, g2.kg (Same.kg S7), rfl⟩, ok1, by show 1 ≤ 900; decide, s0, s1, fun H8 S8 => ?_⟩
      have S08 := S7.trans S8
      refine ⟨.ref a, rfl, .int sh, rfl, .ref nl, rfl, .int (i : Int), rfl, nl, us, _, v1, rfl, rfl, sqOf (S08 _ _ hL), atI_nat e1, by show 1 ≤ sizeLine; omega, fun V nV => ?_⟩
      have S9 := S08.trans (same_upd (o := .lst [v1]) nV)
      exact ⟨a, V, sh, bs, [ns[i]], [v1], rfl, hR.same S9, hT.g, ln50, upd_same, ⟨_, _, rfl, g1.kp (Same.kp S9), rfl⟩, ok1, by show 1 ≤ 1000; decide, s0, s1, fun H10 S10 => ⟨_, rfl, true, rfl, ite2 (fun z => by cases z) (fun _ => ⟨S9.trans S10, _, rfl⟩)⟩⟩
    · rintro σ H6 ⟨S6, y5, rfl⟩
      refine ⟨.ref j, rfl, j, dx, _, rfl, S6 _ _ hj, rfl, .ref tl', rfl, tl', ts, rfl, .inl ⟨sqOf (S6 _ _ hS), fun U nU => ?_⟩⟩
      have S7 := S6.trans (same_upd (o := .tup ts) nU)
      refine ⟨j, U, false, ns, ts, l, fr, sh, _, rfl, hT.same S7, .of upd_same, hG.kg (Same.kg S7), ok, ln, s0, s1, fun H8 S8 => ?_⟩
      have S08 := S7.trans S8
      exact ⟨.ref a, rfl, .int sh, rfl, .ref nl, rfl, a, nl, sh, bs, ns, us, rfl, hR.same S08, hT.g, ln50, S08 _ _ hL, hN.kp (Same.kp S08), ok, by omega, s0, s1, fun H9 S9 => ⟨_, rfl, q H9 (S08.trans S9)⟩⟩
end
end Tb
namespace Tb
open PySem PySem.Spec PyProof.Rows L2
abbrev sPHold : Stmt := topS 62
abbrev NPHold : List Str := ["box", "values", "nodes", "at", "spoilt", "parcel", "bare"]
theorem scPHold : FnScope NPHold ["box", "values", "nodes"] (defScope sPHold) := ⟨rfl, rfl, rfl, by decide +kernel, rfl, by decide +kernel, by decide +kernel⟩
abbrev sShutOut : Stmt := topS 67
abbrev NShutOut : List Str := ["box", "node", "stranger", "values", "land", "good", "one", "two", "parcel", "tariffs"]
theorem scShutOut : FnScope NShutOut ["box", "node", "stranger", "values", "land"] (defScope sShutOut) := ⟨rfl, rfl, rfl, by decide +kernel, rfl, by decide +kernel, by decide +kernel⟩
theorem gd_one {r : Rw} (h : okR r) : Gd [r] := ⟨fun x hx => by rw [List.mem_singleton.mp hx]; exact h, by simp⟩
theorem rate_one {h l : Str} {m : Nat} {x : Option Int} (g : Gd [((pre h m, Str.ofString ""), x)]) (hm : m ≤ h.length) : rate [((pre h m, Str.ofString ""), x)] h l = x := by
  refine rate_uniq g.2 (rate_is g h l) ⟨some ((pre h m, Str.ofString ""), x), ⟨List.mem_cons_self, ?_, fun c hc f => ?_⟩, rfl⟩
  · unfold fits
    rw [(pre_starts hm).1, Bool.true_and, Bool.or_eq_true]
    exact .inr (decide_eq_true rfl)
  · rw [List.mem_singleton.mp hc]
    exact .inr ⟨rfl, id⟩
section
variable {P : Program} {w : World} {K : PySem.W.Frag} {mg : Str → Option Value} {base : Heap} {C pw fw CI fI t0 t1 : Addr} {gdw fdI : FuncData} {ds0 : List Value} {CQ fQ : Addr} {fdQ : FuncData} {CT fT : Addr} {fdT : FuncData}
abbrev CPRef (P : Program) (w : World) (K : PySem.W.Frag) (mg : Str → Option Value) (base : Heap) (C : Addr) (g : Addr) (gd : FuncData) := C1 P w K mg base "_law_parcel_refused" sPRef ["values"] 8 (spPRef K C) g gd
abbrev CParcelIs (P : Program) (w : World) (K : PySem.W.Frag) (mg : Str → Option Value) (base : Heap) (CQ C : Addr) (g : Addr) (gd : FuncData) := C1 P w K mg base "_law_parcel_is" sParcelIs ["parcel", "values", "nodes"] 6 (spParIs K CQ C) g gd
def spPHold (K : PySem.W.Frag) (CQ C : Addr) : Sp := fun vs H Q _ => ∃ (p vl g nl : Addr) (c : Pc) (ns : List Nd) (gs us : List V), vs = [.ref p, .ref vl, .ref nl] ∧ Box H p ∧ H vl = some (.lst (pcV c ++ [.ref g])) ∧ okPc c ∧ PcL c ∧ SqT K H g gs ∧ GdsAt K C H ns gs ∧ H nl = some (.lst us) ∧ nl ≠ p ∧ NdsAt All H ns us ∧ (∀ n ∈ ns, n.ok ∧ n.d ≤ 2) ∧ ns.length ≤ 900 ∧ ∀ H', Box H' p → But p H H' → Q (.bl true) H'
theorem ok_phold {f g1 g2 g3 g4 g5 g6 : Addr} {fd gd1 gd2 gd3 gd4 gd5 gd6 : FuncData} (F : Fun K "_law_parcels_hold" "_law_parcels_hold" sPHold f fd) (PT : ParC P w K mg base CQ C CI t1 fQ fdQ) (cBadN : CBadN P w K mg base g1 gd1) (cBadA : CBadA P w K mg base g2 gd2) (cBeyond : CBeyond P w K mg base g3 gd3) (cLParcel : CLParcel P w K mg base CQ C CI g4 gd4) (cPRef : CPRef P w K mg base C g5 gd5) (cParcelIs : CParcelIs P w K mg base CQ C g6 gd6) (B : Blt mg) : FnOk P w K mg base CX0 9 f fd ["box", "values", "nodes"] (spPHold K CQ C) := by
  refine F.ok scPHold (fun vs H Q E h => ?_) (fun cdv A outer s H vs Q E hr h => ?_)
  · obtain ⟨p, vl, g, nl, c, ns, gs, us, rfl, _⟩ := h
    rfl
  · obtain ⟨p, vl, g, nl, c, ns, gs, us, rfl, hB, hv, hc, hl, hg, hG, hL, Lp, hN, ok, ln, q⟩ := h
    have hz : sizeLine = 16777216 := rfl
    refine ⟨_, (pss_cons (ps_for PassesOwn.never rfl (pi_range1 (by rfl) B.range (pa_cons pe_int pa_nil)) (pg_name (i := 3) scPHold.nd rfl (.inl rfl))
        (pss_cons (ps_set (i := 4) scPHold.nd rfl (.inl rfl) (pe_callTy call_list_of (by rfl) B.list PyProof.Rows.boot_list (pa_cons (pv 1) pa_nil)))
        (C8.pss_cut (ps_if (pt_cmpR op_eq (pv 3) pe_int (nomark _))
          (pss_one (ps_asg (pe_call cBadA.G (hr.mono (by first | decide | omega)) (by rfl) cBadA.D.g cBadA.D.F.kp cBadA.D.b .nil pass0 (pa_cons (pv 0) pa_nil)) (pg_sub (pv 4) (pv 3) set_list)))
          (pss_one (ps_if (PW.pt (pw_or (pt_cmpR op_eq (pv 3) pe_int (nomark _)) (pw_or1 (pt_cmpR op_gt (pv 3) pe_int (nomark _)))))
            (pss_one (ps_asg (pe_call cBadN.G (hr.mono (by first | decide | omega)) (by rfl) cBadN.D.g cBadN.D.F.kp cBadN.D.b .nil pass0 (pa_cons (pv 0) (pa_cons pe_int pa_nil))) (pg_sub (pv 4) (pv 3) set_list)))
            (pss_one (ps_if (PW.pt (pw_or (pt_cmpR op_eq (pv 3) pe_int (nomark _)) (pw_or1 (pt_cmpR op_eq (pv 3) pe_int (nomark _)))))
              (pss_one (ps_asg (pe_un un_neg (pe_call cBeyond.G (hr.mono (by first | decide | omega)) (by rfl) cBeyond.D.g cBeyond.D.F.kp cBeyond.D.b .nil pass0 (pa_cons (pv 0) pa_nil))) (pg_sub (pv 4) (pv 3) set_list)))
              (pss_one (ps_asg (pe_op op_sub (pe_un un_neg pe_int) (pe_call cBeyond.G (hr.mono (by first | decide | omega)) (by rfl) cBeyond.D.g cBeyond.D.F.kp cBeyond.D.b .nil pass0 (pa_cons (pv 0) pa_nil))) (pg_sub (pv 4) (pv 3) set_list))))))))
        (pss_one (ps_if (pt_not (pt_val (pe_call cPRef.G (hr.mono (by first | decide | omega)) (by rfl) cPRef.D.g cPRef.D.F.kp cPRef.D.b .nil pass0 (pa_cons (pv 4) pa_nil))))
          (pss_one (ps_ret pe_bl))
          pss_nil)))))
      (pss_cons (ps_set (i := 5) scPHold.nd rfl (.inl rfl) (pe_makeS PT.MK PT.R4 (hr.mono (by first | decide | omega)) (by rfl) PT.g (fun _ => passE0) (pa_cons (pe_ix ix_list (pv 1) pe_int (fun _ _ => rfl)) (pa_cons (pe_ix ix_list (pv 1) pe_int (fun _ _ => rfl)) (pa_cons (pe_ix ix_list (pv 1) pe_int (fun _ _ => rfl)) (pa_cons (pe_ix ix_list (pv 1) pe_int (fun _ _ => rfl)) pa_nil))))))
      (pss_cons (ps_set (i := 6) scPHold.nd rfl (.inl rfl) (pe_op op_cat (pe_slice sl_list (pv 1) po_none (po_some pe_int)) (pe_lst (pa_cons pe_int (pa_cons pe_non (pa_cons pe_str (pa_cons pe_str (pa_cons (pe_lst pa_nil) pa_nil))))))))
      (pss_one (ps_ret (pe_and (pe_call cParcelIs.G (hr.mono (by first | decide | omega)) (by rfl) cParcelIs.D.g cParcelIs.D.F.kp cParcelIs.D.b .nil pass0 (pa_cons (pv 5) (pa_cons (pv 6) (pa_cons (pe_lst pa_nil) pa_nil)))) (pe_one (pe_call cParcelIs.G (hr.mono (by first | decide | omega)) (by rfl) cParcelIs.D.g cParcelIs.D.F.kp cParcelIs.D.b .nil pass0 (pa_cons (pe_callS cLParcel.G (hr.mono (by first | decide | omega)) (by rfl) cLParcel.D.g cLParcel.D.F.kp cLParcel.D.b (fun _ => passE0) (pa_cons (pv 1) pa_nil)) (pa_cons (pv 1) (pa_cons (pv 2) pa_nil))))))))))), ?_⟩
    have vp : vl ≠ p := fun e => by
      obtain ⟨_, _, _, _, e2, _⟩ := hB
      rw [e, e2] at hv
      have := congrArg List.length (HO.lst.inj (Option.some.inj hv))
      simp [pcV] at this
    refine ⟨8, rfl, by decide, by decide, ?_⟩
    refine for_range (lo := 0) (n := Int.toNat 8) (fun i σ H' => (∃ y3 y4, σ = [some (.ref p), some (.ref vl), some (.ref nl), y3, y4, none, none]) ∧ Box H' p ∧ But p H H') ⟨⟨none, none, rfl⟩, hB, But.refl _ _⟩ ?_ ?_
    · rintro i σ H3 hi ⟨⟨y3, y4, rfl⟩, B3, b3⟩
      have hi : i < 8 := hi
      refine ⟨.ref vl, rfl, vl, _, rfl, .inl (sqOf (b3 _ _ hv vp)), fun M nM => ?_⟩
      have m4 := box_new (o := .lst (pcV c ++ [.ref g])) B3 nM
      have M0 : H M = none := but_free B3 b3 nM
      have Mp : M ≠ p := fun e => by
        obtain ⟨_, _, _, _, e2, _⟩ := hB
        rw [e, e2] at M0; cases M0
      have hM : L2.upd H3 M (.lst (pcV c ++ [.ref g])) M = some (.lst (pcV c ++ [.ref g])) := upd_same
      have b4 := b3.trans m4.2
      have B4 := m4.1
      generalize L2.upd H3 M (.lst (pcV c ++ [.ref g])) = H4 at hM b4 B4
      clear m4 B3 b3 nM
      have grow : ∀ {H1 : Hp} {xs : List V}, Box H1 p → But p H H1 → Box (L2.upd H1 M (.lst xs)) p ∧ But p H (L2.upd H1 M (.lst xs)) := fun {H1 xs} B b => by
        refine ⟨?_, fun c o e n => ?_⟩
        · obtain ⟨r, a, b, c, e, rest⟩ := B
          exact ⟨r, a, b, c, by rw [upd_ne (Ne.symm Mp)]; exact e, rest⟩
        · rw [upd_ne (ne_of_none e M0)]; exact b c o e n
      refine ⟨fun σ' H' => ∃ c' : Pc, σ' = [some (.ref p), some (.ref vl), some (.ref nl), some (.int (0 + (i : Int))), some (.ref M), none, none] ∧ Box H' p ∧ But p H H' ∧ H' M = some (.lst (pcV c' ++ [.ref g])) ∧ PcL c' ∧ ¬ okPc c', ?_, ?_⟩
      · rcases (show i = 0 ∨ i = 1 ∨ i = 2 ∨ i = 3 ∨ i = 4 ∨ i = 5 ∨ i = 6 ∨ i = 7 by omega) with rfl | rfl | rfl | rfl | rfl | rfl | rfl | rfl
        · exact ⟨.int (0 + (0 : Nat)), rfl, rfl, _, rfl, ite2 (fun z => absurd (V.int.inj (of_decide_eq_true z)) (by omega)) (fun _ => ⟨.int (0 + (0 : Nat)), rfl, rfl, _, rfl, ite2 (fun z => absurd (V.int.inj (of_decide_eq_true z)) (by omega)) (fun _ => ⟨.int (0 + (0 : Nat)), rfl, _, 5, rfl, rfl, _, rfl, ite2 (fun z => absurd (of_decide_eq_true z) (by omega)) (fun _ => ⟨.int (0 + (0 : Nat)), rfl, rfl, _, rfl, ite2 (fun _ => ite2 (fun _ => ⟨.ref p, rfl, p, rfl, B4, fun b H5 b0 B5 b45 => ⟨b, rfl, ⟨.ref M, rfl, .int (0 + (0 : Nat)), rfl, M, _, (0 + (0 : Nat)), 0, rfl, rfl, b45 _ _ hM Mp, rfl, ⟨{ c with t := -b }, rfl, (grow B5 (b4.trans b45)).1, (grow B5 (b4.trans b45)).2, upd_same, hl, fun ok => by have : (1 : Int) ≤ -b := ok.2.2.2.2.1; omega⟩⟩⟩⟩) (fun z => absurd rfl z)) (fun z => absurd (decide_eq_true rfl) z)⟩)⟩)⟩)⟩
        · exact ⟨.int (0 + (1 : Nat)), rfl, rfl, _, rfl, ite2 (fun _ => ⟨.ref p, rfl, p, rfl, B4, fun z H5 hz' lz B5 b45 => ⟨.ref M, rfl, .int (0 + (1 : Nat)), rfl, M, _, (0 + (1 : Nat)), 1, rfl, rfl, b45 _ _ hM Mp, rfl, ⟨{ c with a := z }, rfl, (grow B5 (b4.trans b45)).1, (grow B5 (b4.trans b45)).2, upd_same, ⟨by show z.length ≤ 1000; omega, hl.2⟩, fun ok => by rw [show isAddr z = true from ok.1] at hz'; cases hz'⟩⟩⟩) (fun z => absurd (decide_eq_true rfl) z)⟩
        · exact ⟨.int (0 + (2 : Nat)), rfl, rfl, _, rfl, ite2 (fun z => absurd (V.int.inj (of_decide_eq_true z)) (by omega)) (fun _ => ⟨.int (0 + (2 : Nat)), rfl, rfl, _, rfl, ite2 (fun _ => ite2 (fun _ => ⟨.ref p, rfl, p, 0, rfl, B4, .inl rfl, fun z H5 hz' _ lz B5 b45 => ⟨.ref M, rfl, .int (0 + (2 : Nat)), rfl, M, _, (0 + (2 : Nat)), 2, rfl, rfl, b45 _ _ hM Mp, rfl, ⟨{ c with s := z }, rfl, (grow B5 (b4.trans b45)).1, (grow B5 (b4.trans b45)).2, upd_same, ⟨hl.1, by show z.length ≤ 1000; omega, hl.2.2⟩, fun ok => by rw [show isName z = true from ok.2.1] at hz'; cases hz'⟩⟩⟩) (fun z => absurd rfl z)) (fun z => absurd (decide_eq_true rfl) z)⟩)⟩
        · exact ⟨.int (0 + (3 : Nat)), rfl, rfl, _, rfl, ite2 (fun z => absurd (V.int.inj (of_decide_eq_true z)) (by omega)) (fun _ => ⟨.int (0 + (3 : Nat)), rfl, rfl, _, rfl, ite2 (fun z => absurd (V.int.inj (of_decide_eq_true z)) (by omega)) (fun _ => ⟨.int (0 + (3 : Nat)), rfl, _, 5, rfl, rfl, _, rfl, ite2 (fun z => absurd (of_decide_eq_true z) (by omega)) (fun _ => ⟨.int (0 + (3 : Nat)), rfl, rfl, _, rfl, ite2 (fun z => absurd (V.int.inj (of_decide_eq_true z)) (by omega)) (fun _ => ⟨.int (0 + (3 : Nat)), rfl, rfl, _, rfl, ite2 (fun z => absurd (V.int.inj (of_decide_eq_true z)) (by omega)) (fun _ => ⟨1, rfl, .ref p, rfl, p, rfl, B4, fun b H5 b0 B5 b45 => ⟨_, b, rfl, rfl, ⟨.ref M, rfl, .int (0 + (3 : Nat)), rfl, M, _, (0 + (3 : Nat)), 3, rfl, rfl, b45 _ _ hM Mp, rfl, ⟨{ c with k := -1 - b }, rfl, (grow B5 (b4.trans b45)).1, (grow B5 (b4.trans b45)).2, upd_same, hl, fun ok => by have : (0 : Int) ≤ -1 - b := ok.2.2.2.2.2.1; omega⟩⟩⟩⟩)⟩)⟩)⟩)⟩)⟩
        · exact ⟨.int (0 + (4 : Nat)), rfl, rfl, _, rfl, ite2 (fun z => absurd (V.int.inj (of_decide_eq_true z)) (by omega)) (fun _ => ⟨.int (0 + (4 : Nat)), rfl, rfl, _, rfl, ite2 (fun z => absurd (V.int.inj (of_decide_eq_true z)) (by omega)) (fun _ => ⟨.int (0 + (4 : Nat)), rfl, _, 5, rfl, rfl, _, rfl, ite2 (fun z => absurd (of_decide_eq_true z) (by omega)) (fun _ => ⟨.int (0 + (4 : Nat)), rfl, rfl, _, rfl, ite2 (fun z => absurd (V.int.inj (of_decide_eq_true z)) (by omega)) (fun _ => ⟨.int (0 + (4 : Nat)), rfl, rfl, _, rfl, ite2 (fun _ => ⟨.ref p, rfl, p, rfl, B4, fun b H5 b0 B5 b45 => ⟨b, rfl, ⟨.ref M, rfl, .int (0 + (4 : Nat)), rfl, M, _, (0 + (4 : Nat)), 4, rfl, rfl, b45 _ _ hM Mp, rfl, ⟨{ c with w := -b }, rfl, (grow B5 (b4.trans b45)).1, (grow B5 (b4.trans b45)).2, upd_same, hl, fun ok => by have : (1 : Int) ≤ -b := ok.2.2.2.2.2.2.1; omega⟩⟩⟩⟩) (fun z => absurd (decide_eq_true rfl) z)⟩)⟩)⟩)⟩)⟩
        · exact ⟨.int (0 + (5 : Nat)), rfl, rfl, _, rfl, ite2 (fun z => absurd (V.int.inj (of_decide_eq_true z)) (by omega)) (fun _ => ⟨.int (0 + (5 : Nat)), rfl, rfl, _, rfl, ite2 (fun z => absurd (V.int.inj (of_decide_eq_true z)) (by omega)) (fun _ => ⟨.int (0 + (5 : Nat)), rfl, _, 5, rfl, rfl, _, rfl, ite2 (fun z => absurd (of_decide_eq_true z) (by omega)) (fun _ => ⟨.int (0 + (5 : Nat)), rfl, rfl, _, rfl, ite2 (fun z => absurd (V.int.inj (of_decide_eq_true z)) (by omega)) (fun _ => ⟨.int (0 + (5 : Nat)), rfl, rfl, _, rfl, ite2 (fun z => absurd (V.int.inj (of_decide_eq_true z)) (by omega)) (fun _ => ⟨1, rfl, .ref p, rfl, p, rfl, B4, fun b H5 b0 B5 b45 => ⟨_, b, rfl, rfl, ⟨.ref M, rfl, .int (0 + (5 : Nat)), rfl, M, _, (0 + (5 : Nat)), 5, rfl, rfl, b45 _ _ hM Mp, rfl, ⟨{ c with d := some (-1 - b) }, rfl, (grow B5 (b4.trans b45)).1, (grow B5 (b4.trans b45)).2, upd_same, hl, fun ok => by have : (0 : Int) ≤ -1 - b := ok.2.2.2.2.2.2.2 _ rfl; omega⟩⟩⟩⟩)⟩)⟩)⟩)⟩)⟩
        · exact ⟨.int (0 + (6 : Nat)), rfl, rfl, _, rfl, ite2 (fun z => absurd (V.int.inj (of_decide_eq_true z)) (by omega)) (fun _ => ⟨.int (0 + (6 : Nat)), rfl, rfl, _, rfl, ite2 (fun z => absurd (V.int.inj (of_decide_eq_true z)) (by omega)) (fun _ => ⟨.int (0 + (6 : Nat)), rfl, _, 5, rfl, rfl, _, rfl, ite2 (fun _ => ⟨.ref p, rfl, p, 0, rfl, B4, .inl rfl, fun z H5 hz' _ lz B5 b45 => ⟨.ref M, rfl, .int (0 + (6 : Nat)), rfl, M, _, (0 + (6 : Nat)), 6, rfl, rfl, b45 _ _ hM Mp, rfl, ⟨{ c with f := z }, rfl, (grow B5 (b4.trans b45)).1, (grow B5 (b4.trans b45)).2, upd_same, ⟨hl.1, hl.2.1, by show z.length ≤ 1000; omega, hl.2.2.2⟩, fun ok => by rw [show isName z = true from ok.2.2.1] at hz'; cases hz'⟩⟩⟩) (fun z => absurd (decide_eq_true (by omega)) z)⟩)⟩)⟩
        · exact ⟨.int (0 + (7 : Nat)), rfl, rfl, _, rfl, ite2 (fun z => absurd (V.int.inj (of_decide_eq_true z)) (by omega)) (fun _ => ⟨.int (0 + (7 : Nat)), rfl, rfl, _, rfl, ite2 (fun z => absurd (V.int.inj (of_decide_eq_true z)) (by omega)) (fun _ => ⟨.int (0 + (7 : Nat)), rfl, _, 5, rfl, rfl, _, rfl, ite2 (fun _ => ⟨.ref p, rfl, p, 0, rfl, B4, .inl rfl, fun z H5 hz' _ lz B5 b45 => ⟨.ref M, rfl, .int (0 + (7 : Nat)), rfl, M, _, (0 + (7 : Nat)), 7, rfl, rfl, b45 _ _ hM Mp, rfl, ⟨{ c with r := z }, rfl, (grow B5 (b4.trans b45)).1, (grow B5 (b4.trans b45)).2, upd_same, ⟨hl.1, hl.2.1, hl.2.2.1, by show z.length ≤ 1000; omega⟩, fun ok => by rw [show isName z = true from ok.2.2.2.1] at hz'; cases hz'⟩⟩⟩) (fun z => absurd (decide_eq_true (by omega)) z)⟩)⟩)⟩
      · rintro σ' H5 ⟨c', rfl, B5, b5, hM5, hl', nok⟩
        exact ⟨.ref M, rfl, M, g, c', ns, gs, rfl, hM5, hl', .inr (SqT.kg hg (box_kg hB b5)), hG.kg (box_kg hB b5), nok, fun H6 S6 => ⟨true, rfl, ite2 (fun z => by cases z) (fun _ => ⟨⟨_, _, rfl⟩, B5.same S6, b5.trans (Same.but S6)⟩)⟩⟩
    · rintro σ H3 ⟨⟨y3, y4, rfl⟩, B3, b3⟩
      have hv3 := b3 _ _ hv vp
      have hg3 := SqT.kg hg (box_kg hB b3)
      have hG3 := hG.kg (box_kg hB b3)
      have hL3 := b3 _ _ hL Lp
      have hN3 := hN.kp (But.kp hB b3)
      refine ⟨.ref vl, rfl, vl, _, 0, _, rfl, rfl, sqOf hv3, atI_nat (j := 0) rfl, .ref vl, rfl, vl, _, 1, _, rfl, rfl, sqOf hv3, atI_nat (j := 1) rfl, .ref vl, rfl, vl, _, 2, _, rfl, rfl, sqOf hv3, atI_nat (j := 2) rfl, .ref vl, rfl, vl, _, 3, _, rfl, rfl, sqOf hv3, atI_nat (j := 3) rfl, fun x dx nx ndx ne => ?_⟩
      have S0 := made_same (C := CQ) nx ndx ne
      obtain ⟨c2, ec2⟩ : ∃ c2 : Pc, c2 = ⟨c.t, c.a, c.s, c.k, 1, none, ("sender" : String), ("receiver" : String)⟩ := ⟨_, rfl⟩
      have ok2 : okPc c2 := by
        rw [ec2]
        exact ⟨hc.1, hc.2.1, (by decide +kernel : isName (Str.ofString "sender") = true), (by decide +kernel : isName (Str.ofString "receiver") = true), hc.2.2.2.2.1, hc.2.2.2.2.2.1, (by decide : (1 : Int) ≤ 1), nofun⟩
      refine ⟨x, dx, t1, c2, [], [], by rw [ec2]; rfl, upd_same, by rw [ec2]; exact hl.1, by rw [ec2]; exact hl.2.1, by rw [ec2]; exact (by decide : (Str.ofString "sender").length ≤ 1000), by rw [ec2]; exact (by decide : (Str.ofString "receiver").length ≤ 1000), .inr (PT.e0 _), rfl, fun _ H4 bx4 hp4 => ⟨rfl, ?_⟩, fun ng => absurd ok2 ng⟩
      have S4 := made_bx nx S0 bx4
      have hv4 := S4 _ _ hv3
      refine ⟨.ref vl, rfl, 4, rfl, vl, _, rfl, sqOf hv4, fun N nN => ?_⟩
      have e4 : cutV (pcV c ++ [.ref g]) none (some 4) = [.int c.t, .str c.a, .str c.s, .int c.k] := by
        rw [show (4 : Int) = ((4 : Nat) : Int) from rfl, cut_hi]
        rfl
      rw [e4]
      have S5 := S4.trans (same_upd (o := .lst [.int c.t, .str c.a, .str c.s, .int c.k]) nN)
      have S45 := same_upd (o := .lst [.int c.t, .str c.a, .str c.s, .int c.k]) nN
      have hN5 : L2.upd H4 N (.lst [.int c.t, .str c.a, .str c.s, .int c.k]) N = some (.lst [.int c.t, .str c.a, .str c.s, .int c.k]) := upd_same
      generalize L2.upd H4 N (.lst [.int c.t, .str c.a, .str c.s, .int c.k]) = H5 at S5 S45 hN5
      refine ⟨by show 0 ≤ sizeLine; omega, fun U nU => ⟨by show 5 ≤ sizeLine; omega, fun M nM => ?_⟩⟩
      have S6 := same_upd (o := .lst []) nU
      have S7 := same_upd (o := .lst [.int 1, .non, .str (Str.ofString "sender"), .str (Str.ofString "receiver"), .ref U]) nM
      refine ⟨N, M, _, _, rfl, rfl, S7 _ _ (S6 _ _ hN5), upd_same, by show 4 + 5 ≤ sizeLine; omega, fun A2 nA => ?_⟩
      have S8 := same_upd (o := .lst ([.int c.t, .str c.a, .str c.s, .int c.k] ++ [.int 1, .non, .str (Str.ofString "sender"), .str (Str.ofString "receiver"), .ref U])) nA
      have S58 := (S6.trans S7).trans S8
      have S48 := S45.trans S58
      have S38 := S4.trans S48
      have hA : L2.upd (L2.upd (L2.upd H5 U (.lst [])) M (.lst [.int 1, .non, .str (Str.ofString "sender"), .str (Str.ofString "receiver"), .ref U])) A2 (.lst ([.int c.t, .str c.a, .str c.s, .int c.k] ++ [.int 1, .non, .str (Str.ofString "sender"), .str (Str.ofString "receiver"), .ref U])) A2 = some (.lst (pcV c2 ++ [.ref U])) := by rw [upd_same, ec2]; rfl
      generalize L2.upd (L2.upd (L2.upd H5 U (.lst [])) M (.lst [.int 1, .non, .str (Str.ofString "sender"), .str (Str.ofString "receiver"), .ref U])) A2 (.lst ([.int c.t, .str c.a, .str c.s, .int c.k] ++ [.int 1, .non, .str (Str.ofString "sender"), .str (Str.ofString "receiver"), .ref U])) = H8 at S8 S58 S48 S38 hA
      refine ⟨.ref x, rfl, .ref A2, rfl, by show 0 ≤ sizeLine; omega, fun U2 nU2 => ?_⟩
      have S9 := same_upd (o := .lst []) nU2
      refine ⟨x, A2, U2, c2, [], [.ref U], [], rfl, hp4.kg (Same.kg (S48.trans S9)), ok2.2.2.2.2.2.1, S9 _ _ hA, (show 1 ≤ 10 by decide), upd_same, rfl, nofun, by decide, fun H10 S10 => ⟨true, rfl, ite2 (fun _ => ?_) (fun z => absurd rfl z)⟩⟩
      have S310 := (S38.trans S9).trans S10
      refine ⟨.ref vl, rfl, vl, g, c, ns, gs, rfl, S310 _ _ hv3, hl, .inr (SqT.kg hg3 (Same.kg S310)), hG3.kg (Same.kg S310), fun _ x2 H11 S11 hp => ?_, fun ng => absurd hc ng⟩
      have S311 := S310.trans S11
      exact ⟨.ref vl, rfl, .ref nl, rfl, x2, vl, nl, c, ns, [.ref g], us, rfl, hp, hc.2.2.2.2.2.1, S311 _ _ hv3, (show 1 ≤ 10 by decide), S311 _ _ hL3, hN3.kp (Same.kp S311), ok, ln, fun H12 S12 => q H12 (B3.same (S311.trans S12)) (b3.trans (Same.but (S311.trans S12)))⟩
def spShut (K : PySem.W.Frag) (C : Addr) : Sp := fun vs H Q _ => ∃ (p x vl : Addr) (v sv : V) (n sn : Nd) (c : Pc) (l : Str), vs = [.ref p, v, .ref x, .ref vl, .str l] ∧ Box H p ∧ NdAt All H n v ∧ n.ok ∧ n.d ≤ 2 ∧ GdAt K C H sn (.ref x) ∧ sn.ok ∧ sn.d ≤ 2 ∧ H vl = some (.lst (pcV c)) ∧ okPc c ∧ PcL c ∧ l.length ≤ 1000 ∧ ∀ H', Box H' p → But p H H' → Q (.bl true) H'
theorem ok_shut {f g1 g2 g3 g4 g5 g6 fTa : Addr} {fd gd1 gd2 gd3 gd4 gd5 gd6 dTa : FuncData} (F : Fun K "_law_shut_out" "_law_shut_out" sShutOut f fd) (TT' : TarC P w K mg base CT CI fT fdT) (TC : TCls K CT) (TAm : Meth K CT "admits" fTa) (bTa : Binds K dTa ["self", "goods"] []) (FTa : FnOk P w K mg base CX0 9 fTa dTa ["self", "goods"] (spAdmits K CT C)) (cDraw : CDraw P w K mg base g1 gd1) (cAmount : CAmount P w K mg base g2 gd2) (cLMade : CLMade P w K mg base C g3 gd3) (cLParcel : CLParcel P w K mg base CQ C CI g4 gd4) (cSays : CSays P w K mg base g5 gd5) (cClears : CClears P w K mg base CT CQ C g6 gd6) (B : Blt mg) : FnOk P w K mg base CX0 12 f fd ["box", "node", "stranger", "values", "land"] (spShut K C) := by
  refine F.ok scShutOut (fun vs H Q E h => ?_) (fun cdv A outer s H vs Q E hr h => ?_)
  · obtain ⟨p, x, vl, v, sv, n, sn, c, l, rfl, _⟩ := h
    rfl
  · obtain ⟨p, x, vl, v, sv, n, sn, c, l, rfl, hB, hN, hok, hd, hS, sok, sd, hv, hc, hl, ll, q⟩ := h
    have hz : sizeLine = 16777216 := rfl
    have hu := hu_of hr
    refine ⟨_, (pss_cons (ps_set (i := 5) scShutOut.nd rfl (.inl rfl) (pe_call cLMade.G (hr.mono (by first | decide | omega)) (by rfl) cLMade.D.g cLMade.D.F.kp cLMade.D.b .nil pass0 (pa_cons (pv 1) (pa_cons (pv 2) pa_nil))))
      (pss_cons (ps_set (i := 6) scShutOut.nd rfl (.inl rfl) (pe_makeS TT'.MK TT'.R2 (hr.mono (by first | decide | omega)) (by rfl) TT'.g (fun _ => passE0) (pa_cons (pe_ix ix_list (pv 3) pe_int (fun _ _ => rfl)) (pa_cons (pe_lst (pa_cons (pe_tup (pa_cons (pe_slice sl_str (pe_ix ix_tup (pv 1) pe_int (fun _ _ => rfl)) po_none (po_some (pe_op op_add pe_int (pe_call cDraw.G (hr.mono (by first | decide | omega)) (by rfl) cDraw.D.g cDraw.D.F.kp cDraw.D.b .nil pass0 (pa_cons (pv 0) (pa_cons (pe_callB call_len_str (by rfl) B.len PySem.boot_len (pa_cons (pe_ix ix_tup (pv 1) pe_int (fun _ _ => rfl)) pa_nil)) pa_nil)))))) (pa_cons pe_str (pa_cons pe_non pa_nil)))) pa_nil)) pa_nil))))
      (pss_cons (ps_set (i := 7) scShutOut.nd rfl (.inl rfl) (pe_makeS TT'.MK TT'.R2 (hr.mono (by first | decide | omega)) (by rfl) TT'.g (fun _ => passE0) (pa_cons (pe_ix ix_list (pv 3) pe_int (fun _ _ => rfl)) (pa_cons (pe_lst (pa_cons (pe_tup (pa_cons (pe_slice sl_str (pe_ix ix_tup (pv 1) pe_int (fun _ _ => rfl)) po_none (po_some (pe_op op_add pe_int (pe_call cDraw.G (hr.mono (by first | decide | omega)) (by rfl) cDraw.D.g cDraw.D.F.kp cDraw.D.b .nil pass0 (pa_cons (pv 0) (pa_cons (pe_callB call_len_str (by rfl) B.len PySem.boot_len (pa_cons (pe_ix ix_tup (pv 1) pe_int (fun _ _ => rfl)) pa_nil)) pa_nil)))))) (pa_cons pe_str (pa_cons (pe_call cAmount.G (hr.mono (by first | decide | omega)) (by rfl) cAmount.D.g cAmount.D.F.kp cAmount.D.b .nil pass0 (pa_cons (pv 0) pa_nil)) pa_nil)))) pa_nil)) pa_nil))))
      (pss_cons (ps_set (i := 8) scShutOut.nd rfl (.inl rfl) (pe_callS cLParcel.G (hr.mono (by first | decide | omega)) (by rfl) cLParcel.D.g cLParcel.D.F.kp cLParcel.D.b (fun _ => passE0) (pa_cons (pe_op op_cat (pv 3) (pe_lst (pa_cons (pe_lst (pa_cons (pv 5) pa_nil)) pa_nil))) pa_nil)))
      (pss_cons (ps_if (PW.pt (pw_or (pt_not (pt_val (pe_call cSays.G (hr.mono (by first | decide | omega)) (by rfl) cSays.D.g cSays.D.F.kp cSays.D.b .nil pass0 (pa_cons (pe_meth (pv 6) TC.c TAm FTa (hr.mono (by first | decide | omega)) bTa .nil pass0 (pa_cons (pe_lst (pa_cons (pv 2) (pa_cons (pv 5) pa_nil))) pa_nil)) (pa_cons pe_bl pa_nil))))) (pw_or1 (pt_not (pt_val (pe_call cSays.G (hr.mono (by first | decide | omega)) (by rfl) cSays.D.g cSays.D.F.kp cSays.D.b .nil pass0 (pa_cons (pe_meth (pv 7) TC.c TAm FTa (hr.mono (by first | decide | omega)) bTa .nil pass0 (pa_cons (pe_lst (pa_cons (pv 5) pa_nil)) pa_nil)) (pa_cons pe_bl pa_nil))))))))
        (pss_one (ps_ret pe_bl))
        pss_nil)
      (pss_cons (ps_set (i := 9) scShutOut.nd rfl (.inl rfl) pe_dnewK)
      (pss_cons (ps_dput hu (pv 9) (pv 4) (pv 6) (by rfl))
      (pss_cons (ps_if (pt_not (pt_val (pe_call cSays.G (hr.mono (by first | decide | omega)) (by rfl) cSays.D.g cSays.D.F.kp cSays.D.b .nil pass0 (pa_cons (pe_call cClears.G (hr.mono (by first | decide | omega)) (by rfl) cClears.D.g cClears.D.F.kp cClears.D.b .nil pass0 (pa_cons (pv 9) (pa_cons (pv 4) (pa_cons (pv 8) pa_nil)))) (pa_cons pe_bl pa_nil)))))
        (pss_one (ps_ret pe_bl))
        pss_nil)
      (pss_cons (ps_dput hu (pv 9) (pv 4) (pv 7) (by rfl))
      (pss_one (ps_ret (pe_call cSays.G (hr.mono (by first | decide | omega)) (by rfl) cSays.D.g cSays.D.F.kp cSays.D.b .nil pass0 (pa_cons (pe_call cClears.G (hr.mono (by first | decide | omega)) (by rfl) cClears.D.g cClears.D.F.kp cClears.D.b .nil pass0 (pa_cons (pv 9) (pa_cons (pv 4) (pa_cons (pv 8) pa_nil)))) (pa_cons pe_bl pa_nil)))))))))))))), ?_⟩
    obtain ⟨t, L, vs', rfl, _, ht, _, hL', hks⟩ := hN.ref
    have lh : n.h.length ≤ sizeLine := by
      cases n
      have := hok.1.2.1
      show Str.length _ ≤ _
      rw [len_tl]; exact Nat.le_trans this (by decide)
    have l1 : 1 ≤ n.h.length := by
      cases n
      have := hok.1.1
      show 1 ≤ Str.length _
      rw [len_tl]; exact this
    have ah : isAddr n.h = true := by cases n; exact (isAddr_iff _).mpr hok.1
    have vp : vl ≠ p := fun e => by
      obtain ⟨_, _, _, _, e2, _⟩ := hB
      rw [e, e2] at hv
      have := congrArg List.length (HO.lst.inj (Option.some.inj hv))
      simp [pcV] at this
    have okr : ∀ (u : Int) (y : Option Int), 0 ≤ u → okP y → okR ((pre n.h (1 + u).toNat, Str.ofString ""), y) := fun u y u0 hy => by
      refine ⟨?_, (by decide +kernel : isLane (Str.ofString "") = true), hy⟩
      have := ad_cut ah (k := (((1 + u).toNat : Nat) : Int)) (by omega)
      exact this
    have ln1 : ∀ (u : Int) (y : Option Int), 0 ≤ u → okP y → (pre n.h (1 + u).toNat).length ≤ 1000 ∧ (Str.ofString "").length ≤ 1000 := fun u y u0 hy => row_lens (okr u y u0 hy)
    refine ⟨.ref t, rfl, .ref x, rfl, .ref t, n, x, rfl, hN, hok, by omega, fun a H1 S1 ga => ?_⟩
    have B1 := hB.same S1
    have b1 : But p H H1 := Same.but S1
    refine ⟨.ref vl, rfl, vl, _, 2, _, rfl, rfl, sqOf (S1 _ _ hv), atI_nat (j := 2) rfl, .ref t, rfl, t, _, 0, _, rfl, rfl, .of (S1 _ _ ht), rfl, .ref p, rfl, .ref t, rfl, t, _, 0, _, rfl, rfl, .of (S1 _ _ ht), rfl, n.h, rfl, lh, p, (n.h.length : Int), rfl, B1, by have : n.h.length ≤ 16777216 := lh; omega, fun u H2 u0 u1 B2 b12 => ⟨1, u, rfl, rfl, _, rfl, n.h, rfl, lh, by show 3 ≤ sizeLine; omega, fun T1 nT1 => ⟨by show 1 ≤ sizeLine; omega, fun D1 nD1 y dy ny ndy ney => ?_⟩⟩⟩
    have eu : (1 + u) = (((1 + u).toNat : Nat) : Int) := by omega
    rw [eu] at nD1 ny ndy ⊢
    have hm1 : (1 + u).toNat ≤ n.h.length := by omega
    have g1 := gd_one (okr u none u0 nofun)
    have e1 := fun lx => rate_one (l := lx) g1 hm1
    have S3 := (same_upd (o := .tup [.str (pre n.h (1 + u).toNat), .str (Str.ofString ""), .non]) nT1).trans (same_upd (o := .lst [.ref T1]) nD1)
    have h3T := same_upd (o := .lst [.ref T1]) nD1 _ _ (upd_same (H := H2) (a := T1) (o := .tup [.str (pre n.h (1 + u).toNat), .str (Str.ofString ""), .non]))
    have S4 := made_same (C := CT) ny ndy ney
    have okt1 : okT c.s 0 50 [((pre n.h (1 + u).toNat, Str.ofString ""), none)] := ⟨hc.2.1, by decide, by decide, by decide, g1⟩
    refine ⟨y, dy, D1, c.s, 0, 50, true, [(T1, ((pre n.h (1 + u).toNat, Str.ofString ""), none))], rfl, upd_same, ⟨S4 _ _ upd_same, fun b hb => by rw [List.mem_singleton.mp hb]; exact S4 _ _ h3T⟩, (show 1 ≤ 50 by decide), hl.2.1, fun b hb => by rw [List.mem_singleton.mp hb]; exact ln1 u none u0 nofun, fun _ H5 bx5 tx => ⟨rfl, ?_⟩, fun ng => absurd okt1 ng⟩
    have S25 := S3.trans (made_bx ny S4 bx5)
    have B5 := B2.same S25
    have b5 := (b1.trans b12).trans (Same.but S25)
    have ht5 := S25 _ _ (b12 _ _ (S1 _ _ ht) (B1.ne (S1 _ _ ht) (ni_tup _)))
    have hv5 := S25 _ _ (b12 _ _ (S1 _ _ hv) vp)
    have ga5 := (ga.kg (box_kg B1 b12)).kg (Same.kg S25)
    have tx : TarX CT H5 y c.s 0 50 [((pre n.h (1 + u).toNat, Str.ofString ""), none)] := tx
    clear S3 h3T S4 bx5 S25 B2 b12 B1 b1 ga nT1 nD1 ny ndy ney S1
    refine ⟨.ref vl, rfl, vl, _, 2, _, rfl, rfl, sqOf hv5, atI_nat (j := 2) rfl, .ref t, rfl, t, _, 0, _, rfl, rfl, .of ht5, rfl, .ref p, rfl, .ref t, rfl, t, _, 0, _, rfl, rfl, .of ht5, rfl, n.h, rfl, lh, p, (n.h.length : Int), rfl, B5, by have : n.h.length ≤ 16777216 := lh; omega, fun u2 H6 u20 u21 B6 b56 => ⟨1, u2, rfl, rfl, _, rfl, n.h, rfl, lh, ?_⟩⟩
    refine ⟨.ref p, rfl, p, rfl, B6, fun am H7 am0 B7 b67 => ⟨by show 3 ≤ sizeLine; omega, fun T2 nT2 => ⟨by show 1 ≤ sizeLine; omega, fun D2 nD2 z dz nz ndz nez => ?_⟩⟩⟩
    have eu2 : (1 + u2) = (((1 + u2).toNat : Nat) : Int) := by omega
    rw [eu2] at nD2 nz ndz ⊢
    have hm2 : (1 + u2).toNat ≤ n.h.length := by omega
    have oka : okP (some am) := fun i e => by cases e; exact am0
    have g2 := gd_one (okr u2 (some am) u20 oka)
    have e2 := fun lx => rate_one (l := lx) g2 hm2
    have S8 := (same_upd (o := .tup [.str (pre n.h (1 + u2).toNat), .str (Str.ofString ""), .int am]) nT2).trans (same_upd (o := .lst [.ref T2]) nD2)
    have h8T := same_upd (o := .lst [.ref T2]) nD2 _ _ (upd_same (H := H7) (a := T2) (o := .tup [.str (pre n.h (1 + u2).toNat), .str (Str.ofString ""), .int am]))
    have S9 := made_same (C := CT) nz ndz nez
    have okt2 : okT c.s 0 50 [((pre n.h (1 + u2).toNat, Str.ofString ""), some am)] := ⟨hc.2.1, by decide, by decide, by decide, g2⟩
    refine ⟨z, dz, D2, c.s, 0, 50, true, [(T2, ((pre n.h (1 + u2).toNat, Str.ofString ""), some am))], rfl, upd_same, ⟨S9 _ _ upd_same, fun b hb => by rw [List.mem_singleton.mp hb]; exact S9 _ _ h8T⟩, (show 1 ≤ 50 by decide), hl.2.1, fun b hb => by rw [List.mem_singleton.mp hb]; exact ln1 u2 (some am) u20 oka, fun _ H10 bx10 tz => ⟨rfl, ?_⟩, fun ng => absurd okt2 ng⟩
    have S70 := S8.trans (made_bx nz S9 bx10)
    have b510 := (b56.trans b67).trans (Same.but S70)
    have B10 := B7.same S70
    have b10 := b5.trans b510
    have tz : TarX CT H10 z c.s 0 50 [((pre n.h (1 + u2).toNat, Str.ofString ""), some am)] := tz
    have tx10 := tx.kp (But.kp B5 b510)
    have hv10 := b510 _ _ hv5 vp
    have ga10 := ga5.kg (box_kg B5 b510)
    clear S8 h8T S9 bx10 S70 b510 B7 b67 B6 b56 B5 b5 tx ga5 hv5 ht5 nT2 nD2 nz ndz nez
    refine ⟨.ref vl, rfl, .ref a, rfl, by show 1 ≤ sizeLine; omega, fun E1 nE => ⟨by show 1 ≤ sizeLine; omega, fun M nM => ?_⟩⟩
    have Sa := same_upd (o := .lst [.ref a]) nE
    have Sb := Sa.trans (same_upd (o := .lst [.ref E1]) nM)
    refine ⟨vl, M, _, _, rfl, rfl, Sb _ _ hv10, upd_same, by show 8 + 1 ≤ sizeLine; omega, fun A2 nA => ?_⟩
    have Sc := Sb.trans (same_upd (o := .lst (pcV c ++ [.ref E1])) nA)
    have hE : L2.upd (L2.upd (L2.upd H10 E1 (.lst [.ref a])) M (.lst [.ref E1])) A2 (.lst (pcV c ++ [.ref E1])) E1 = some (.lst [.ref a]) := same_upd nA _ _ (same_upd nM _ _ upd_same)
    refine ⟨A2, E1, c, [n], [.ref a], rfl, upd_same, hl, .inl (sqOf hE), ⟨_, _, rfl, ga10.kg (Same.kg Sc), rfl⟩, fun _ j H11 S11' hp => ?_, fun ng => absurd hc ng⟩
    have S11 := Sc.trans S11'
    clear hE Sa Sb nE nM nA
    have tx11 := tx10.same S11
    have tz11 := tz.same S11
    have ga11 := ga10.kg (Same.kg S11)
    have hS11 := (hS.kg (box_kg hB b10)).kg (Same.kg S11)
    have okn : ∀ m ∈ [n], m.ok ∧ m.d ≤ 2 := fun m hm => by rw [List.mem_singleton.mp hm]; exact ⟨hok, hd⟩
    have oksn : ∀ m ∈ [sn, n], m.ok ∧ m.d ≤ 2 := fun m hm => by
      rcases List.mem_cons.mp hm with rfl | hm
      · exact ⟨sok, sd⟩
      · exact okn m hm
    have f1 : letIn [((pre n.h (1 + u).toNat, Str.ofString ""), none)] 50 [sn, n] = false := by
      show (_ && (!decide (rate _ n.h (certOf 50 n).l = none) && true)) = false
      rw [e1]
      simp
    have f1' : letIn [((pre n.h (1 + u).toNat, Str.ofString ""), none)] 50 [n] = false := by
      show (!decide (rate _ n.h (certOf 50 n).l = none) && true) = false
      rw [e1]
      simp
    have f2 : letIn [((pre n.h (1 + u2).toNat, Str.ofString ""), some am)] 50 [n] = true := by
      show (!decide (rate _ n.h (certOf 50 n).l = none) && true) = true
      rw [e2]
      simp
    obtain ⟨dy1, dd1, ss1, hy, _⟩ := tx11.ex
    obtain ⟨dz1, dd2, ss2, hz2, _⟩ := tz11.ex
    refine ⟨.ref y, rfl, y, dy1, _, rfl, hy, rfl, .ref x, rfl, .ref a, rfl, by show 2 ≤ sizeLine; omega, fun U nU => ?_⟩
    have S12 := same_upd (o := .lst [.ref x, .ref a]) nU
    refine ⟨y, U, true, [sn, n], [.ref x, .ref a], c.s, 0, 50, _, rfl, tx11.same S12, sqOf upd_same, ⟨_, _, rfl, hS11.kg (Same.kg S12), _, _, rfl, ga11.kg (Same.kg S12), rfl⟩, oksn, (show 2 ≤ 900 by decide), by decide, by decide, fun H13 S13 => ⟨false, by rw [f1]; rfl, _, rfl, ?_⟩⟩
    have S113 := S12.trans S13
    refine ⟨.ref z, rfl, z, dz1, _, rfl, S113 _ _ hz2, rfl, .ref a, rfl, by show 1 ≤ sizeLine; omega, fun U2 nU2 => ?_⟩
    have S14 := S113.trans (same_upd (o := .lst [.ref a]) nU2)
    refine ⟨z, U2, true, [n], [.ref a], c.s, 0, 50, _, rfl, tz11.same S14, sqOf upd_same, ⟨_, _, rfl, ga11.kg (Same.kg S14), rfl⟩, okn, (show 1 ≤ 900 by decide), by decide, by decide, fun H15 S15 => ⟨true, by rw [f2]; rfl, _, rfl, ite2 (fun w => by cases w) (fun _ => ?_)⟩⟩
    have S16 := S14.trans S15
    intro D nD
    have D0 := S16.free nD
    have D00 : H D = none := but_free B10 b10 (S11.free D0)
    refine ⟨.ref y, rfl, .ref D, rfl, .str l, rfl, D, _, rfl, DPut.k (k := Sum.inr l) (v := .ref y) upd_same (by decide), ?_⟩
    have S18 : Same H11 (L2.upd (L2.upd H15 D (.dK [])) D (.dK (putK [] (Sum.inr l) (.ref y)))) := fun b o hb => by
      rw [upd_ne (ne_of_none hb D0), upd_ne (ne_of_none hb D0)]
      exact S16 _ _ hb
    have hD18 : L2.upd (L2.upd H15 D (.dK [])) D (.dK (putK [] (Sum.inr l) (.ref y))) D = some (.dK (putK [] (Sum.inr l) (.ref y))) := upd_same
    generalize L2.upd (L2.upd H15 D (.dK [])) D (.dK (putK [] (Sum.inr l) (.ref y))) = H18 at S18 hD18
    refine ⟨.ref D, rfl, .str l, rfl, .ref j, rfl, D, j, l, _, c, [n], false, rfl, hD18, hp.kg (Same.kg S18), okn, (show 1 ≤ 900 by decide), ?_, fun H19 S19 => ⟨false, rfl, _, rfl, ite2 (fun w => by cases w) (fun _ => ?_)⟩⟩
    · rw [valV_put, if_pos rfl]
      exact ⟨y, c.s, 0, 50, _, rfl, tx11.same S18, by decide, by decide, f1'.symm⟩
    have hD19 := S19 _ _ hD18
    have S119 := S18.trans S19
    refine ⟨.ref z, rfl, .ref D, rfl, .str l, rfl, D, _, rfl, DPut.k (k := Sum.inr l) (v := .ref z) hD19 (by show 1 < sizeLine; omega), ?_⟩
    have S20 : Same H11 (L2.upd H19 D (.dK (putK (putK [] (Sum.inr l) (.ref y)) (Sum.inr l) (.ref z)))) := fun b o hb => by
      rw [upd_ne (ne_of_none hb D0)]
      exact S119 _ _ hb
    have hD20 : L2.upd H19 D (.dK (putK (putK [] (Sum.inr l) (.ref y)) (Sum.inr l) (.ref z))) D = some (.dK (putK (putK [] (Sum.inr l) (.ref y)) (Sum.inr l) (.ref z))) := upd_same
    generalize L2.upd H19 D (.dK (putK (putK [] (Sum.inr l) (.ref y)) (Sum.inr l) (.ref z))) = H20 at S20 hD20
    refine ⟨.ref D, rfl, .str l, rfl, .ref j, rfl, D, j, l, _, c, [n], true, rfl, hD20, hp.kg (Same.kg S20), okn, (show 1 ≤ 900 by decide), ?_, fun H21 S21 => ⟨true, rfl, ?_⟩⟩
    · rw [valV_put, if_pos rfl]
      exact ⟨z, c.s, 0, 50, _, rfl, tz11.same S20, by decide, by decide, f2.symm⟩
    have Sf := S11.trans (S20.trans S21)
    exact q H21 (B10.same Sf) (b10.trans (Same.but Sf))
end
end Tb
namespace L2
open PySem PySem.Spec PyProof.Rows
/-- list(e.keys()) -/
def tListKeys (te : TE) : TE := fun σ H Q => te σ H fun x H1 => ∃ (d : Addr) (kvs : List (Key × V)), x = .ref d ∧ H1 d = some (.dK kvs) ∧ ∀ p, H1 p = none → Q (.ref p) (upd H1 p (.lst (kvs.map fun kv => kV kv.1)))
section
variable {X : Cx} {e : Expr} {te : TE} {p pos apos cpos : Pos}
theorem pe_listKeys (hc : X.calm = true) (he : PE X e te) (hg : Gl X "list") (hm : X.mg "list" = none) (hv : bootBuiltins "list" = some (.type "list")) (hbase : attributeBase e "keys" X.env (eval e X.env) = eval e X.env := by rfl) (hline : (apos.endLine == cpos.line) = true := by rfl)
    (hs : starEach [.Call (.Attribute e "keys" apos) [] [] cpos] X.env = (false, eval (.Call (.Attribute e "keys" apos) [] [] cpos) X.env) :: starEach [] X.env := by rfl) :
    PE X (.Call (.Name "list" p) [.Call (.Attribute e "keys" apos) [] [] cpos] [] pos) (tListKeys te) := by
  refine ⟨fun pins s σ H Q I hq => ?_⟩
  refine wpAny_Call_Name_kw (ld_blt I hg hm hv ?_)
  refine PyProof.Rows.callWith_type1 ?_ hs rfl
  rw [hs]
  show wpAny _ _ (spliced ((false, eval (.Call (.Attribute e "keys" apos) [] [] cpos) X.env) :: backTo pos (starEach [] X.env))) _ _ s
  refine Calls.spliced_cons ?_
  refine wpAny_Call_method (T := "dict") (id := "dict.keys") hbase rfl hline F.plainAttrs_dict F.slot_dict_keys F.type_dict_keys (thn (he.run pins s σ H _ I hq) fun u s1 ⟨x, H1, I1, rx, d, kvs, ex, hd, q⟩ => ?_)
  subst ex
  obtain rfl : u = Value.ref d := rx
  obtain ⟨hz, hs0, vs, kv, hdo⟩ := I1.hok d _ hd
  obtain ⟨ep, hat⟩ := hdo.dictAt
  have lk : kvs.length = vs.length := Paired.length kv
  have I2 : Inv X pins σ H1 { s1 with heap := s1.heap.push { cls := .type "dict_keys", data := .fields #[.ref d] } } := I1.kept (t' := s1.toks) fun b ob q => Heap.get?_push_of_some _ q
  refine ⟨hdo.typeIs, hdo.mapOf.noDict, ?_⟩
  show wpAny _ _ (callWith cpos (.builtin "dict.keys") [.ref d] [] []) _ X.xe s1
  refine method_meetsIn F.slot_dict_keys F.entry_dict_keys rfl (PySem.evalArgs_none ⟨rfl, hdo.typeIs, F.args_dict_keys_1 _, _, PySem.W.kdl_meets_keys (mixKind X.prog X.w) d hs0, ⟨vs, hdo⟩, ?_⟩)
  refine Calls.spliced_nil ?_
  refine PySem.W.kdl_call (PySem.W.kdl_keys (knd := mixKind X.prog X.w) (kvs := vs) (ep := ep) (d := d)) (I1.ok.hd hc) ⟨⟨_, Heap.get?_push_size _ rfl, rfl, rfl⟩, hat.push _⟩ (by omega) fun h' tk acc c hk hS hacc => ?_
  have ek : (kvs.map fun kv => kV kv.1) = vs.map fun p => kV p.1 := by
    have e := congrArg (List.map kV) (KV.keys kv)
    rw [List.map_map, List.map_map] at e
    exact e
  have hv : Vals (vs.map fun p => kV p.1) acc.toList := keys_at (by rw [Array.length_toList]; exact hacc.1) fun j v e => hacc.2 j v (by rw [← Array.getElem?_toList]; exact e)
  have I3 := I2.laid (a := (s1.heap.push { cls := .type "dict_keys", data := .fields #[.ref d] }).objs.size) (o := .lst (kvs.map fun kv => kV kv.1)) (t' := tk) hk (Nat.le_refl _)
    (show ObjOk X.prog X.w _ _ _ (.lst (kvs.map fun kv => kV kv.1)) from ⟨by rw [List.length_map]; exact hz, acc.toList, c, by rw [ek]; exact hv, by rw [Array.toArray_toList]; exact hS⟩)
  exact ⟨.ref _, _, I3, rfl, q _ (I2.hok.fresh (Nat.le_refl _))⟩
end
end L2
namespace Tb
open PySem PySem.Spec PyProof.Rows L2
section
variable {P : Program} {w : World} {K : PySem.W.Frag} {mg : Str → Option Value} {base : Heap} {C : Addr} {CQ CT : Addr}
/-- the tariffs and what they answer: the same names in the same order -/
def TarsAt (CT : Addr) (H : Hp) (ns : List Nd) (es : List (Str × Addr × Bool)) : Prop := ∀ e ∈ es, ∃ (l : Str) (fr sh : Int) (rs : List Rw), TarX CT H e.2.1 l fr sh rs ∧ 0 ≤ sh ∧ sh ≤ 100 ∧ e.2.2 = letIn rs sh ns
def kvT1 (es : List (Str × Addr × Bool)) : List (Key × V) := es.map fun e => (Sum.inr e.1, .ref e.2.1)
def kvT2 (es : List (Str × Addr × Bool)) : List (Key × V) := es.map fun e => (Sum.inr e.1, .bl e.2.2)
def fnd (es : List (Str × Addr × Bool)) (x : Str) : Option (Str × Addr × Bool) := es.find? fun e => decide ((Sum.inr e.1 : Key) = Sum.inr x)
def rOf (es : List (Str × Addr × Bool)) (x : Str) : Bool := match fnd es x with | none => true | some e => e.2.2
theorem val1 (es : List (Str × Addr × Bool)) (x : Str) : valV (kvT1 es) (Sum.inr x) = (fnd es x).map fun e => V.ref e.2.1 := by
  unfold valV kvT1 fnd
  rw [List.find?_map, Option.map_map]; rfl
theorem val2 (es : List (Str × Addr × Bool)) (x : Str) : valV (kvT2 es) (Sum.inr x) = (fnd es x).map fun e => V.bl e.2.2 := by
  unfold valV kvT2 fnd
  rw [List.find?_map, Option.map_map]; rfl
theorem eqv_same {d : PyData} (h : SeqAt.shaped d = true) : PyData.eqv d d = true := SeqAt.eqv_refl _ (SeqAt.canLay_of_shaped h)
theorem alike_s (ks : List Str) : PySem.W.AllAlike (ks.map PyData.str) := fun d hd d' hd' => by
  obtain ⟨x, _, rfl⟩ := List.mem_map.mp hd
  obtain ⟨y, _, rfl⟩ := List.mem_map.mp hd'
  simp [PySem.W.alike]
theorem sortable_s (ks : List Str) : PySem.W.Sortable (ks.map PyData.str) := .inr fun d hd => by
  obtain ⟨x, _, rfl⟩ := List.mem_map.mp hd
  exact ⟨nofun, nofun⟩
def spCHold (K : PySem.W.Frag) (CT CQ C : Addr) : Sp := fun vs H Q _ => ∃ (d1 d2 l j : Addr) (es : List (Str × Addr × Bool)) (ks : List Str) (c : Pc) (ns : List Nd), vs = [.ref d1, .ref d2, .ref l, .ref j] ∧ H d1 = some (.dK (kvT1 es)) ∧ H d2 = some (.dK (kvT2 es)) ∧ TarsAt CT H ns es ∧ es.length ≤ 10 ∧ (∀ e ∈ es, Tx e.1) ∧ H l = some (.lst (ks.map V.str)) ∧ 1 ≤ ks.length ∧ ks.length ≤ 10 ∧ PcAt K CQ C H j c ns ∧ (∀ n ∈ ns, n.ok ∧ n.d ≤ 2) ∧ ns.length ≤ 900 ∧ ∀ H', Same H H' → Q (.bl true) H'
theorem ok_chold {f g1 g2 : Addr} {fd gd1 gd2 : FuncData} (F : Fun K "_law_clears_hold" "_law_clears_hold" sCHold f fd) (cSays : CSays P w K mg base g1 gd1) (cClears : CClears P w K mg base CT CQ C g2 gd2) (B : Blt mg) : FnOk P w K mg base CX0 11 f fd ["tariffs", "dues", "lands", "parcel"] (spCHold K CT CQ C) := by
  refine F.ok scCHold (fun vs H Q E h => ?_) (fun cdv A outer s H vs Q E hr h => ?_)
  · obtain ⟨d1, d2, l, j, es, ks, c, ns, rfl, _⟩ := h
    rfl
  · obtain ⟨d1, d2, l, j, es, ks, c, ns, rfl, hd1, hd2, hT, le, lle, hL, k1, k10, hP, ok, ln, q⟩ := h
    have hz : sizeLine = 16777216 := rfl
    have hu := hu_of hr
    refine ⟨_, (pss_cons (ps_set (i := 4) scCHold.nd rfl (.inl rfl) (pe_callB (cr_sortedDt hr.units) (by rfl) B.sorted PyProof.Rows.boot_sorted (pa_cons (pe_listKeys rfl (pv 1) (by rfl) B.list PyProof.Rows.boot_list) pa_nil)))
      (pss_cons (ps_for PassesOwn.never rfl (pi_list (pv 2)) (pg_name (i := 5) scCHold.nd rfl (.inl rfl))
        (pss_one (ps_if (pt_not (pt_val (pe_call cSays.G (hr.mono (by first | decide | omega)) (by rfl) cSays.D.g cSays.D.F.kp cSays.D.b .nil pass0 (pa_cons (pe_call cClears.G (hr.mono (by first | decide | omega)) (by rfl) cClears.D.g cClears.D.F.kp cClears.D.b .nil pass0 (pa_cons (pv 0) (pa_cons (pv 5) (pa_cons (pv 3) pa_nil)))) (pa_cons (pe_dget2 hu (pv 1) (pv 5) pe_bl ⟨rfl, by rfl, rfl, rfl⟩) pa_nil)))))
          (pss_one (ps_ret pe_bl))
          pss_nil)))
      (pss_one (ps_ret (pe_and (pe_cmpR (op_eqD hr.units) (pe_callB (cr_sortedDt hr.units) (by rfl) B.sorted PyProof.Rows.boot_sorted (pa_cons (pe_listKeys rfl (pv 0) (by rfl) B.list PyProof.Rows.boot_list) pa_nil)) (pv 4) (nomark _)) (pe_one (pe_call cSays.G (hr.mono (by first | decide | omega)) (by rfl) cSays.D.g cSays.D.F.kp cSays.D.b .nil pass0 (pa_cons (pe_call cClears.G (hr.mono (by first | decide | omega)) (by rfl) cClears.D.g cClears.D.F.kp cClears.D.b .nil pass0 (pa_cons pe_dnewK (pa_cons (pe_ix ix_list (pv 2) pe_int (fun _ _ => rfl)) (pa_cons (pv 3) pa_nil)))) (pa_cons pe_bl pa_nil))))))))), ?_⟩
    obtain ⟨ts, ets⟩ : ∃ ts : List Str, ts = es.map (·.1) := ⟨_, rfl⟩
    obtain ⟨bs, ebs⟩ : ∃ bs : List (V × PyData), bs = ts.map fun x => (V.str x, PyData.str x) := ⟨_, rfl⟩
    have q1 : (kvT1 es).map (fun kv => kV kv.1) = bs.map Prod.fst := by
      rw [ebs, ets]; unfold kvT1
      rw [List.map_map, List.map_map, List.map_map]; rfl
    have q2 : (kvT2 es).map (fun kv => kV kv.1) = bs.map Prod.fst := by
      rw [ebs, ets]; unfold kvT2
      rw [List.map_map, List.map_map, List.map_map]; rfl
    have esnd : bs.map Prod.snd = ts.map PyData.str := by rw [ebs, List.map_map]; rfl
    obtain ⟨N, pN, eN⟩ := perm_map (cs := bs.mergeSort (PySem.W.dataLe false Prod.snd)) (g := fun x => (V.str x, PyData.str x)) (M := ts) (by rw [← ebs]; exact List.mergeSort_perm _ _)
    have eN2 : (bs.mergeSort (PySem.W.dataLe false Prod.snd)).map Prod.fst = N.map V.str := by rw [eN, List.map_map]; rfl
    have txN : ∀ x ∈ N, Tx x := fun x hx => by
      have := pN.mem_iff.mp hx
      rw [ets] at this
      obtain ⟨e, he, rfl⟩ := List.mem_map.mp this
      exact lle e he
    have al : PySem.W.AllAlike (bs.map Prod.snd) := by rw [esnd]; exact alike_s _
    have so : PySem.W.Sortable (bs.map Prod.snd) := by rw [esnd]; exact sortable_s _
    have dpb : ∀ {H2 : Hp}, ∀ b ∈ bs, Dp K H2 b.1 b.2 := fun {H2} b hb => by
      rw [ebs] at hb
      obtain ⟨x, _, rfl⟩ := List.mem_map.mp hb
      exact .str x
    have dep : ∀ b ∈ bs, b.2.depth ≤ 10 := fun b hb => by
      rw [ebs] at hb
      obtain ⟨x, _, rfl⟩ := List.mem_map.mp hb
      show PyData.depth (.str x) ≤ 10
      simp [PyData.depth]
    refine ⟨.ref d2, rfl, d2, _, rfl, hd2, fun p0 np0 => ?_⟩
    have S1 := same_upd (o := .lst ((kvT2 es).map fun kv => kV kv.1)) np0
    refine ⟨p0, bs, rfl, sqOf (by rw [upd_same, q2]), dpb, al, so, dep, fun p1 np1 => ?_⟩
    rw [eN2]
    have S2 := S1.trans (same_upd (o := .lst (N.map V.str)) np1)
    have hp1 : L2.upd (L2.upd H p0 (.lst ((kvT2 es).map fun kv => kV kv.1))) p1 (.lst (N.map V.str)) p1 = some (.lst (N.map V.str)) := upd_same
    generalize L2.upd (L2.upd H p0 (.lst ((kvT2 es).map fun kv => kV kv.1))) p1 (.lst (N.map V.str)) = H2 at S2 hp1
    refine ⟨.ref l, rfl, l, rfl, ⟨_, sqOf (S2 _ _ hL)⟩, ?_⟩
    refine for_it (walk_list (a := l) (xs := ks.map V.str)) (fun i σ H' => (∃ y5, σ = [some (.ref d1), some (.ref d2), some (.ref l), some (.ref j), some (.ref p1), y5]) ∧ Same H H' ∧ H' p1 = some (.lst (N.map V.str))) ⟨⟨none, rfl⟩, S2, hp1⟩ (fun i σ H' _ hP => sqOf (hP.2.1 _ _ hL)) (fun i v' σ H3 H4 hi hP hy => ?_) (fun σ H3 hP => ?_)
    · obtain ⟨⟨y5, rfl⟩, S3, hp3⟩ := hP
      obtain ⟨rfl, ev⟩ := hy
      rw [List.getElem?_map] at ev
      obtain ⟨x, ex, rfl⟩ := Option.map_eq_some_iff.mp ev
      refine ⟨.ref d1, rfl, .str x, rfl, .ref j, rfl, d1, j, x, kvT1 es, c, ns, rOf es x, rfl, S3 _ _ hd1, hP.kg (Same.kg S3), ok, ln, ?_, fun H5 S5 => ?_⟩
      · rw [val1]
        unfold rOf
        cases ef : fnd es x with
        | none => rfl
        | some e =>
          obtain ⟨lx, fr, sh, rs, tx, s0, s1, er⟩ := hT e (List.mem_of_find?_eq_some ef)
          exact ⟨e.2.1, lx, fr, sh, rs, rfl, tx.same S3, s0, s1, er⟩
      · have S35 := S3.trans S5
        have dg : DGet H5 d2 (.str x) ((fnd es x).map fun e => V.bl e.2.2) := by
          rw [← val2]
          exact DGet.k (k := Sum.inr x) (S35 _ _ hd2)
        have e2 : ((fnd es x).map fun e => V.bl e.2.2).getD (.bl true) = .bl (rOf es x) := by
          unfold rOf
          cases fnd es x <;> rfl
        refine ⟨.ref d2, rfl, d2, rfl, .inl ⟨_, .of (S35 _ _ hd2)⟩, .str x, rfl, _, dg, ?_⟩
        rw [e2]
        exact ⟨_, rfl, true, rfl, ite2 (fun z => by cases z) (fun _ => ⟨⟨_, rfl⟩, S35, S5 _ _ hp3⟩)⟩
    · obtain ⟨⟨y5, rfl⟩, S3, hp3⟩ := hP
      refine ⟨.ref d1, rfl, d1, _, rfl, S3 _ _ hd1, fun p4 np4 => ?_⟩
      have S4 := same_upd (o := .lst ((kvT1 es).map fun kv => kV kv.1)) np4
      refine ⟨p4, bs, rfl, sqOf (by rw [upd_same, q1]), dpb, al, so, dep, fun p5 np5 => ?_⟩
      rw [eN2]
      have S5 := S4.trans (same_upd (o := .lst (N.map V.str)) np5)
      have hp5 : L2.upd (L2.upd H3 p4 (.lst ((kvT1 es).map fun kv => kV kv.1))) p5 (.lst (N.map V.str)) p5 = some (.lst (N.map V.str)) := upd_same
      have hp15 := S5 _ _ hp3
      have S05 := S3.trans S5
      generalize L2.upd (L2.upd H3 p4 (.lst ((kvT1 es).map fun kv => kV kv.1))) p5 (.lst (N.map V.str)) = H5 at S05 hp5 hp15
      refine ⟨.ref p1, rfl, .list (N.map PyData.str), .list (N.map PyData.str), .lst (sqOf hp5) (dp_strs N), .lst (sqOf hp15) (dp_strs N), shaped_strs txN, shaped_strs txN, ?_⟩
      rw [eqv_same (shaped_strs txN)]
      refine ⟨true, rfl, ite2 (fun _ => ?_) (fun z => absurd rfl z)⟩
      intro D nD
      have S6 := S05.trans (same_upd (o := .dK []) nD)
      obtain ⟨x0, ks', ek⟩ : ∃ x ys, ks = x :: ys := by
        cases ks with
        | nil => exact absurd k1 (by decide)
        | cons x ys => exact ⟨x, ys, rfl⟩
      refine ⟨.ref l, rfl, l, _, 0, .str x0, rfl, rfl, sqOf (S6 _ _ hL), atI_nat (j := 0) (by rw [ek]; rfl), .ref j, rfl, ?_⟩
      exact ⟨D, j, x0, [], c, ns, true, rfl, upd_same, hP.kg (Same.kg S6), ok, ln, rfl, fun H7 S7 => ⟨true, rfl, q H7 (S6.trans S7)⟩⟩
end
end Tb
namespace Tb
open PySem PySem.Spec PyProof.Rows L2
section
variable {CT : Addr}
/-- a name's tariff and answer in their place, or at the end -/
def putE (es : List (Str × Addr × Bool)) (e : Str × Addr × Bool) : List (Str × Addr × Bool) :=
  if (es.any fun a => decide ((Sum.inr a.1 : Key) = Sum.inr e.1)) = true then es.map (fun a => if (Sum.inr a.1 : Key) = Sum.inr e.1 then (a.1, e.2) else a) else es ++ [e]
theorem put_T1 (es : List (Str × Addr × Bool)) (e : Str × Addr × Bool) : putK (kvT1 es) (Sum.inr e.1) (.ref e.2.1) = kvT1 (putE es e) := by
  unfold putK putE kvT1
  rw [List.any_map]
  show (if (es.any fun a => decide ((Sum.inr a.1 : Key) = Sum.inr e.1)) = true then _ else _) = _
  by_cases h : (es.any fun a => decide ((Sum.inr a.1 : Key) = Sum.inr e.1)) = true
  · rw [if_pos h, if_pos h, List.map_map, List.map_map]
    refine List.map_congr_left fun a _ => ?_
    show (if (Sum.inr a.1 : Key) = Sum.inr e.1 then ((Sum.inr a.1 : Key), V.ref e.2.1) else ((Sum.inr a.1 : Key), V.ref a.2.1)) = ((Sum.inr (if (Sum.inr a.1 : Key) = Sum.inr e.1 then (a.1, e.2) else a).1 : Key), V.ref (if (Sum.inr a.1 : Key) = Sum.inr e.1 then (a.1, e.2) else a).2.1)
    by_cases h2 : (Sum.inr a.1 : Key) = Sum.inr e.1
    · rw [if_pos h2, if_pos h2]
    · rw [if_neg h2, if_neg h2]
  · rw [if_neg h, if_neg h, List.map_append]; rfl
theorem put_T2 (es : List (Str × Addr × Bool)) (e : Str × Addr × Bool) : putK (kvT2 es) (Sum.inr e.1) (.bl e.2.2) = kvT2 (putE es e) := by
  unfold putK putE kvT2
  rw [List.any_map]
  show (if (es.any fun a => decide ((Sum.inr a.1 : Key) = Sum.inr e.1)) = true then _ else _) = _
  by_cases h : (es.any fun a => decide ((Sum.inr a.1 : Key) = Sum.inr e.1)) = true
  · rw [if_pos h, if_pos h, List.map_map, List.map_map]
    refine List.map_congr_left fun a _ => ?_
    show (if (Sum.inr a.1 : Key) = Sum.inr e.1 then ((Sum.inr a.1 : Key), V.bl e.2.2) else ((Sum.inr a.1 : Key), V.bl a.2.2)) = ((Sum.inr (if (Sum.inr a.1 : Key) = Sum.inr e.1 then (a.1, e.2) else a).1 : Key), V.bl (if (Sum.inr a.1 : Key) = Sum.inr e.1 then (a.1, e.2) else a).2.2)
    by_cases h2 : (Sum.inr a.1 : Key) = Sum.inr e.1
    · rw [if_pos h2, if_pos h2]
    · rw [if_neg h2, if_neg h2]
  · rw [if_neg h, if_neg h, List.map_append]; rfl
theorem put_mem {es : List (Str × Addr × Bool)} {e b : Str × Addr × Bool} (h : b ∈ putE es e) : b ∈ es ∨ b = e := by
  unfold putE at h
  split at h
  · obtain ⟨a, ha, rfl⟩ := List.mem_map.mp h
    by_cases h2 : (Sum.inr a.1 : Key) = Sum.inr e.1
    · rw [if_pos h2, Sum.inr.inj h2]; exact .inr rfl
    · rw [if_neg h2]; exact .inl ha
  · rcases List.mem_append.mp h with h | h
    · exact .inl h
    · exact .inr (List.mem_singleton.mp h)
theorem put_len (es : List (Str × Addr × Bool)) (e : Str × Addr × Bool) : (putE es e).length ≤ es.length + 1 := by
  unfold putE
  split
  · rw [List.length_map]; omega
  · rw [List.length_append]; exact Nat.le_refl _
theorem TarsAt.kp {H H' : Hp} {ns : List Nd} {es : List (Str × Addr × Bool)} (T : TarsAt CT H ns es) (h : Kp H H') : TarsAt CT H' ns es := fun e he =>
  let ⟨l, fr, sh, rs, t, q⟩ := T e he
  ⟨l, fr, sh, rs, t.kp h, q⟩
theorem TarsAt.put {H : Hp} {ns : List Nd} {es : List (Str × Addr × Bool)} (T : TarsAt CT H ns es) (x : Str) {j : Addr} {l : Str} {fr sh : Int} {rs : List Rw} (t : TarX CT H j l fr sh rs) (s0 : 0 ≤ sh) (s1 : sh ≤ 100) : TarsAt CT H ns (putE es (x, j, letIn rs sh ns)) := fun b hb => by
  rcases put_mem hb with hb | rfl
  · exact T b hb
  · exact ⟨l, fr, sh, rs, t, s0, s1, rfl⟩
/-- both dicts, at a heap where nothing else is asked -/
structure Ds (CT : Addr) (H : Hp) (E1 E2 : Addr) (ns : List Nd) (es : List (Str × Addr × Bool)) (n : Nat) : Prop where
  h1 : H E1 = some (.dK (kvT1 es))
  h2 : H E2 = some (.dK (kvT2 es))
  t : TarsAt CT H ns es
  l : es.length ≤ n
  x : ∀ e ∈ es, Tx e.1
theorem ni_dK (kvs : List (Key × V)) : ¬ IntL (.dK kvs) := by
  rintro ⟨_, _, e⟩; cases e
theorem Ds.kp {H H' : Hp} {E1 E2 : Addr} {ns : List Nd} {es : List (Str × Addr × Bool)} {n : Nat} (D : Ds CT H E1 E2 ns es n) (h : Kp H H') : Ds CT H' E1 E2 ns es n := ⟨h _ _ D.h1 (ni_dK _), h _ _ D.h2 (ni_dK _), D.t.kp h, D.l, D.x⟩
theorem tarX_dk {C : Addr} {H : Hp} {E : Addr} {kvs : List (Key × V)} {o : HO} {j : Addr} {l : Str} {fr sh : Int} {rs : List Rw} (T : TarX C H j l fr sh rs) (e : H E = some (.dK kvs)) : TarX C (upd H E o) j l fr sh rs := by
  obtain ⟨⟨dx, d, ss, h1, h2, h3⟩, g, n⟩ := T
  exact ⟨⟨dx, d, ss, by rw [upd_ne (fun z => by rw [z, e] at h1; cases h1)]; exact h1, by rw [upd_ne (fun z => by rw [z, e] at h2; cases h2)]; exact h2, h3⟩, g, n⟩
/-- one name's two entries are put -/
theorem Ds.put {H : Hp} {E1 E2 : Addr} {ns : List Nd} {es : List (Str × Addr × Bool)} {n : Nat} (D : Ds CT H E1 E2 ns es n) (ne : E1 ≠ E2) {x : Str} (tx : Tx x) {j : Addr} {l : Str} {fr sh : Int} {rs : List Rw} (t : TarX CT H j l fr sh rs) (s0 : 0 ≤ sh) (s1 : sh ≤ 100) {H2 : Hp} (S : Same (upd H E1 (.dK (putK (kvT1 es) (Sum.inr x) (.ref j)))) H2) :
    Ds CT (upd H2 E2 (.dK (putK (kvT2 es) (Sum.inr x) (.bl (letIn rs sh ns))))) E1 E2 ns (putE es (x, j, letIn rs sh ns)) (n + 1) := by
  have e2 : H2 E2 = some (.dK (kvT2 es)) := S _ _ (by rw [upd_ne (Ne.symm ne)]; exact D.h2)
  refine ⟨?_, ?_, ?_, ?_, ?_⟩
  · rw [upd_ne ne, ← put_T1 es (x, j, letIn rs sh ns)]; exact S _ _ upd_same
  · rw [upd_same, ← put_T2 es (x, j, letIn rs sh ns)]
  · refine TarsAt.put (fun e he => ?_) x (tarX_dk ((tarX_dk t D.h1).same S) e2) s0 s1
    obtain ⟨l, fr, sh, rs, t, q⟩ := D.t e he
    exact ⟨l, fr, sh, rs, tarX_dk ((tarX_dk t D.h1).same S) e2, q⟩
  · exact Nat.le_trans (put_len _ _) (Nat.succ_le_succ D.l)
  · intro e he
    rcases put_mem he with he | rfl
    · exact D.x e he
    · exact tx
theorem Ds.le {H : Hp} {E1 E2 : Addr} {ns : List Nd} {es : List (Str × Addr × Bool)} {n m : Nat} (D : Ds CT H E1 E2 ns es n) (h : n ≤ m) : Ds CT H E1 E2 ns es m := ⟨D.h1, D.h2, D.t, Nat.le_trans D.l h, D.x⟩
/-- another tariff, when both entries have been put -/
theorem Ds.tar {H : Hp} {E1 E2 : Addr} {ns : List Nd} {es : List (Str × Addr × Bool)} {n : Nat} (D : Ds CT H E1 E2 ns es n) (ne : E1 ≠ E2) {o1 o2 : HO} {H2 : Hp} (S : Same (upd H E1 o1) H2) {j : Addr} {l : Str} {fr sh : Int} {rs : List Rw} (t : TarX CT H j l fr sh rs) : TarX CT (upd H2 E2 o2) j l fr sh rs :=
  tarX_dk ((tarX_dk t D.h1).same S) (S _ _ (by rw [upd_ne (Ne.symm ne)]; exact D.h2))
theorem same_puts {H0 H1 H2 : Hp} {E1 E2 : Addr} (S : Same H0 H1) (f1 : H0 E1 = none) (f2 : H0 E2 = none) {o1 o2 : HO} (S2 : Same (upd H1 E1 o1) H2) : Same H0 (upd H2 E2 o2) := fun b o hb => by
  rw [upd_ne (ne_of_none hb f2)]
  exact S2 _ _ (by rw [upd_ne (ne_of_none hb f1)]; exact S _ _ hb)
theorem same_put {H0 H1 : Hp} {E1 : Addr} (S : Same H0 H1) (f1 : H0 E1 = none) {o1 : HO} : Same H0 (upd H1 E1 o1) := fun b o hb => by
  rw [upd_ne (ne_of_none hb f1)]
  exact S _ _ hb
end
end Tb
set_option maxHeartbeats 4000000
namespace Tb
open PySem PySem.Spec PyProof.Rows L2
abbrev sLaw : Stmt := topS 68
abbrev NLaw : List Str := ["script", "box", "stem", "lands", "many", "nodes", "stranger", "rows", "other", "limit", "portion", "home", "node", "values", "things", "passed", "parcel", "listed", "tariff", "second", "tariffs", "dues", "k", "one"]
theorem scLaw : FnScope NLaw ["script"] (defScope sLaw) := ⟨rfl, rfl, rfl, by decide +kernel, rfl, by decide +kernel, by decide +kernel⟩
section
variable {P : Program} {w : World} {K : PySem.W.Frag} {mg : Str → Option Value} {base : Heap} {C pw fw CI fI t0 t1 : Addr} {gdw fdI : FuncData} {ds0 : List Value} {CQ fQ : Addr} {fdQ : FuncData} {CT fT : Addr} {fdT : FuncData}
abbrev CLRows (P : Program) (w : World) (K : PySem.W.Frag) (mg : Str → Option Value) (base : Heap) (g : Addr) (gd : FuncData) := C1 P w K mg base "_law_rows" sLRows ["box", "stem", "lands"] 4 spLRows g gd
abbrev CNode (P : Program) (w : World) (K : PySem.W.Frag) (mg : Str → Option Value) (base : Heap) (g : Addr) (gd : FuncData) := C1 P w K mg base "_law_node" sNode ["box", "stem", "lands"] 4 spNode g gd
abbrev CValues (P : Program) (w : World) (K : PySem.W.Frag) (mg : Str → Option Value) (base : Heap) (g : Addr) (gd : FuncData) := C1 P w K mg base "_law_values" sValues ["box"] 3 spValues g gd
abbrev CGHold (P : Program) (w : World) (K : PySem.W.Frag) (mg : Str → Option Value) (base : Heap) (C : Addr) (g : Addr) (gd : FuncData) := C1 P w K mg base "_law_goods_hold" sGHold ["box", "node", "stranger"] 12 (spGHold K C) g gd
abbrev CTHold (P : Program) (w : World) (K : PySem.W.Frag) (mg : Str → Option Value) (base : Heap) (g : Addr) (gd : FuncData) := C1 P w K mg base "_law_tariffs_hold" sTHold ["box", "land", "rows", "limit", "portion"] 8 spTHold g gd
abbrev CPHold (P : Program) (w : World) (K : PySem.W.Frag) (mg : Str → Option Value) (base : Heap) (CQ C : Addr) (g : Addr) (gd : FuncData) := C1 P w K mg base "_law_parcels_hold" sPHold ["box", "values", "nodes"] 9 (spPHold K CQ C) g gd
abbrev CShutOut (P : Program) (w : World) (K : PySem.W.Frag) (mg : Str → Option Value) (base : Heap) (C : Addr) (g : Addr) (gd : FuncData) := C1 P w K mg base "_law_shut_out" sShutOut ["box", "node", "stranger", "values", "land"] 12 (spShut K C) g gd
abbrev CAHold (P : Program) (w : World) (K : PySem.W.Frag) (mg : Str → Option Value) (base : Heap) (CT C : Addr) (g : Addr) (gd : FuncData) := C1 P w K mg base "_law_admits_hold" sAHold ["tariff", "rows", "portion", "nodes", "things"] 10 (spAHold K CT C) g gd
abbrev CCHold (P : Program) (w : World) (K : PySem.W.Frag) (mg : Str → Option Value) (base : Heap) (CT CQ C : Addr) (g : Addr) (gd : FuncData) := C1 P w K mg base "_law_clears_hold" sCHold ["tariffs", "dues", "lands", "parcel"] 11 (spCHold K CT CQ C) g gd
theorem same_but {H H1 H2 : Hp} {p : Addr} (S : Same H H1) (n : H p = none) (b : But p H1 H2) : Same H H2 := fun x o e => b x o (S x o e) fun z => by rw [z, n] at e; cases e
theorem TarX.kg {C : Addr} {H H' : Hp} {j : Addr} {l : Str} {fr sh : Int} {rs : List Rw} (T : TarX C H j l fr sh rs) (k : Kg H H') : TarX C H' j l fr sh rs := by
  obtain ⟨⟨dx, d, ss, h1, h2, h3⟩, g, n⟩ := T
  exact ⟨⟨dx, d, ss, k _ _ h1 (fun _ e => by cases e), k _ _ h2 (fun _ e => by cases e), h3⟩, g, n⟩
def spLaw (K : PySem.W.Frag) : Sp := fun vs H Q _ => ∃ (a : Addr) (xs : List Int), vs = [.ref a] ∧ SqL K H a (xs.map V.int) ∧ ∀ H', Q (.bl true) H'
theorem ok_law {f a1 a2 a3 a4 a5 a6 a7 a8 a9 a10 a11 a12 a13 a14 a15 a16 a17 a18 a19 a20 : Addr} {fd d1 d2 d3 d4 d5 d6 d7 d8 d9 d10 d11 d12 d13 d14 d15 d16 d17 d18 d19 d20 : FuncData} (F : Fun K "law" "law" sLaw f fd) (TG : GoodX P w K mg base C CI fI t0 fdI ds0) (TT' : TarC P w K mg base CT CI fT fdT)
    (cBox : C1 P w K mg base "_law_box" sBox ["script", "k"] 2 (spBox K) a1 d1) (cDraw : CDraw P w K mg base a2 d2) (cDigits : CDigits P w K mg base a3 d3) (cName : CName P w K mg base a4 d4) (cAmount : CAmount P w K mg base a5 d5) (cBeyond : CBeyond P w K mg base a6 d6) (cNode : CNode P w K mg base a7 d7) (cLRows : CLRows P w K mg base a8 d8) (cLetIn : CLetIn P w K mg base a9 d9) (cLMade : CLMade P w K mg base C a10 d10) (cLParcel : CLParcel P w K mg base CQ C CI a11 d11) (cParcelIs : CParcelIs P w K mg base CQ C a12 d12) (cTariffIs : CTariffIs P w K mg base CT a13 d13) (cGHold : CGHold P w K mg base C a14 d14) (cTHold : CTHold P w K mg base a15 d15) (cPHold : CPHold P w K mg base CQ C a16 d16) (cValues : CValues P w K mg base a17 d17) (cShutOut : CShutOut P w K mg base C a18 d18) (cAHold : CAHold P w K mg base CT C a19 d19) (cCHold : CCHold P w K mg base CT CQ C a20 d20) (B : Blt mg) : FnOk P w K mg base CX0 14 f fd ["script"] (spLaw K) := by
  obtain ⟨gk, kb⟩ := kb_both TT'.F
  refine F.ok scLaw (fun vs H Q E h => ?_) (fun cdv A outer s H vs Q E hr h => ?_)
  · obtain ⟨a, xs, rfl, _⟩ := h
    rfl
  · obtain ⟨a, xs, rfl, ha, q⟩ := h
    have hz : sizeLine = 16777216 := rfl
    have hu := hu_of hr
    refine ⟨_, (pss_cons (ps_set (i := 1) scLaw.nd rfl (.inr rfl) (pe_call cBox.G (hr.mono (by first | decide | omega)) (by rfl) cBox.D.g cBox.D.F.kp cBox.D.b .nil pass0 (pa_cons (pv 0) (pa_cons pe_int pa_nil))))
      (pss_cons (ps_set (i := 2) scLaw.nd rfl (.inr rfl) (pe_call cDigits.G (hr.mono (by first | decide | omega)) (by rfl) cDigits.D.g cDigits.D.F.kp cDigits.D.b .nil pass0 (pa_cons (pv 1) (pa_cons pe_int pa_nil))))
      (pss_cons (ps_set (i := 3) scLaw.nd rfl (.inr rfl) (pe_lst (pa_cons (pe_call cName.G (hr.mono (by first | decide | omega)) (by rfl) cName.D.g cName.D.F.kp cName.D.b .nil pass0 (pa_cons (pv 1) pa_nil)) (pa_cons (pe_call cName.G (hr.mono (by first | decide | omega)) (by rfl) cName.D.g cName.D.F.kp cName.D.b .nil pass0 (pa_cons (pv 1) pa_nil)) (pa_cons (pe_call cName.G (hr.mono (by first | decide | omega)) (by rfl) cName.D.g cName.D.F.kp cName.D.b .nil pass0 (pa_cons (pv 1) pa_nil)) pa_nil)))))
      (pss_cons (ps_set (i := 4) scLaw.nd rfl (.inl rfl) (pe_call cDraw.G (hr.mono (by first | decide | omega)) (by rfl) cDraw.D.g cDraw.D.F.kp cDraw.D.b .nil pass0 (pa_cons (pv 1) (pa_cons pe_int pa_nil))))
      (C8.pss_cut (ps_if (pt_cmpR op_eq (pe_call cDraw.G (hr.mono (by first | decide | omega)) (by rfl) cDraw.D.g cDraw.D.F.kp cDraw.D.b .nil pass0 (pa_cons (pv 1) (pa_cons pe_int pa_nil))) pe_int (nomark _))
        (pss_one (ps_set (i := 4) scLaw.nd rfl (.inl rfl) (pe_op op_add pe_int (pe_call cDraw.G (hr.mono (by first | decide | omega)) (by rfl) cDraw.D.g cDraw.D.F.kp cDraw.D.b .nil pass0 (pa_cons (pv 1) (pa_cons pe_int pa_nil))))))
        pss_nil)
      (pss_cons (ps_setLc (i := 5) (own := [("k", 22)]) (g := gName 22) (by rfl) scLaw.nd rfl rfl (sw_true rfl rfl rfl (by decide +kernel)) (pi_range1 (by rfl) B.range (pa_cons (pv 4) pa_nil)) (blkOk_by (N := NLaw) (sc := defScope sLaw) (by decide +kernel)) (fun _ _ _ _ _ => pg_name (i := 22) scLaw.nd rfl (Or.inl rfl)) (fun _ _ _ _ _ => pts_nil) (fun _ _ _ _ _ => pe_call cNode.G (hr.mono (by first | decide | omega)) (by rfl) cNode.D.g cNode.D.F.kp cNode.D.b .nil pass0 (pa_cons (pv 1) (pa_cons (pv 2) (pa_cons (pv 3) pa_nil)))))
      (pss_cons (ps_set (i := 6) scLaw.nd rfl (.inr rfl) (pe_makeS TG.MK TG.R3 (hr.mono (by first | decide | omega)) (by rfl) TG.g (fun _ => passE0) (pa_cons (pv 2) (pa_cons (pe_call cAmount.G (hr.mono (by first | decide | omega)) (by rfl) cAmount.D.g cAmount.D.F.kp cAmount.D.b .nil pass0 (pa_cons (pv 1) pa_nil)) (pa_cons (pe_ix ix_list (pv 3) pe_int (fun _ _ => rfl)) pa_nil)))))
      (pss_cons (ps_set (i := 1) scLaw.nd rfl (.inr rfl) (pe_call cBox.G (hr.mono (by first | decide | omega)) (by rfl) cBox.D.g cBox.D.F.kp cBox.D.b .nil pass0 (pa_cons (pv 0) (pa_cons pe_int pa_nil))))
      (pss_cons (ps_set (i := 7) scLaw.nd rfl (.inl rfl) (pe_call cLRows.G (hr.mono (by first | decide | omega)) (by rfl) cLRows.D.g cLRows.D.F.kp cLRows.D.b .nil pass0 (pa_cons (pv 1) (pa_cons (pv 2) (pa_cons (pv 3) pa_nil)))))
      (pss_cons (ps_set (i := 8) scLaw.nd rfl (.inl rfl) (pe_call cLRows.G (hr.mono (by first | decide | omega)) (by rfl) cLRows.D.g cLRows.D.F.kp cLRows.D.b .nil pass0 (pa_cons (pv 1) (pa_cons (pv 2) (pa_cons (pv 3) pa_nil)))))
      (pss_cons (ps_set (i := 9) scLaw.nd rfl (.inl rfl) (pe_call cBeyond.G (hr.mono (by first | decide | omega)) (by rfl) cBeyond.D.g cBeyond.D.F.kp cBeyond.D.b .nil pass0 (pa_cons (pv 1) pa_nil)))
      (pss_cons (ps_set (i := 10) scLaw.nd rfl (.inl rfl) (pe_ix ix_list (pe_lst (pa_cons pe_int (pa_cons pe_int (pa_cons pe_int (pa_cons (pe_call cDraw.G (hr.mono (by first | decide | omega)) (by rfl) cDraw.D.g cDraw.D.F.kp cDraw.D.b .nil pass0 (pa_cons (pv 1) (pa_cons pe_int pa_nil))) pa_nil))))) (pe_call cDraw.G (hr.mono (by first | decide | omega)) (by rfl) cDraw.D.g cDraw.D.F.kp cDraw.D.b .nil pass0 (pa_cons (pv 1) (pa_cons pe_int pa_nil))) (fun _ _ => rfl)))
      (pss_cons (ps_set (i := 11) scLaw.nd rfl (.inl rfl) (pe_call cName.G (hr.mono (by first | decide | omega)) (by rfl) cName.D.g cName.D.F.kp cName.D.b .nil pass0 (pa_cons (pv 1) pa_nil)))
      (pss_cons (ps_set (i := 1) scLaw.nd rfl (.inr rfl) (pe_call cBox.G (hr.mono (by first | decide | omega)) (by rfl) cBox.D.g cBox.D.F.kp cBox.D.b .nil pass0 (pa_cons (pv 0) (pa_cons pe_int pa_nil))))
      (pss_cons (ps_set (i := 12) scLaw.nd rfl (.inl rfl) (pe_call cNode.G (hr.mono (by first | decide | omega)) (by rfl) cNode.D.g cNode.D.F.kp cNode.D.b .nil pass0 (pa_cons (pv 1) (pa_cons (pv 2) (pa_cons (pv 3) pa_nil)))))
      (pss_cons (ps_set (i := 13) scLaw.nd rfl (.inl rfl) (pe_call cValues.G (hr.mono (by first | decide | omega)) (by rfl) cValues.D.g cValues.D.F.kp cValues.D.b .nil pass0 (pa_cons (pv 1) pa_nil)))
      (pss_cons (ps_setLc (i := 14) (own := [("one", 23)]) (g := gName 23) (by rfl) scLaw.nd rfl rfl (sw_true rfl rfl rfl (by decide +kernel)) (pi_list (pv 5)) (blkOk_by (N := NLaw) (sc := defScope sLaw) (by decide +kernel)) (fun _ _ _ _ _ => pg_name (i := 23) scLaw.nd rfl (Or.inl rfl)) (fun _ _ _ _ _ => pts_nil) (fun _ _ _ _ _ => pe_call cLMade.G (hr.mono (by first | decide | omega)) (by rfl) cLMade.D.g cLMade.D.F.kp cLMade.D.b .nil pass0 (pa_cons (pv 23) (pa_cons (pv 6) pa_nil))))
      (pss_cons (ps_set (i := 15) scLaw.nd rfl (.inl rfl) (pe_callTy call_list_of (by rfl) B.list PyProof.Rows.boot_list (pa_cons (pv 14) pa_nil)))
      (pss_cons (ps_set (i := 16) scLaw.nd rfl (.inl rfl) (pe_callS cLParcel.G (hr.mono (by first | decide | omega)) (by rfl) cLParcel.D.g cLParcel.D.F.kp cLParcel.D.b (fun _ => passE0) (pa_cons (pe_op op_cat (pv 13) (pe_lst (pa_cons (pv 15) pa_nil))) pa_nil)))
      (C8.pss_cut (ps_expr (pe_bm0 PySem.F.plainAttrs_list PySem.F.slot_list_reverse PySem.F.type_list_reverse mt_reverse (pv 15)))
      (pss_cons (ps_expr (pe_bm PySem.F.plainAttrs_list PySem.F.slot_list_append PySem.F.type_list_append mt_append (pv 15) (pa_cons (pv 6) pa_nil)))
      (pss_cons (ps_set (i := 17) scLaw.nd rfl (.inl rfl) (pe_callTy call_list_of (by rfl) B.list PyProof.Rows.boot_list (pa_cons (pv 7) pa_nil)))
      (pss_cons (ps_set (i := 18) scLaw.nd rfl (.inl rfl) (pe_makeKS TT'.MK TT'.G (hr.mono (show 6 ≤ 13 by decide)) (by rfl) TT'.g kb (fun _ => passE0) (pa_cons (pv 11) (pa_cons (pv 17) pa_nil)) (pk_cons (pv 9) (pk_cons (pv 10) pk_nil))))
      (C8.pss_cut (ps_expr (pe_bm0 PySem.F.plainAttrs_list PySem.F.slot_list_reverse PySem.F.type_list_reverse mt_reverse (pv 17)))
      (pss_cons (ps_expr (pe_bm PySem.F.plainAttrs_list PySem.F.slot_list_append PySem.F.type_list_append mt_append (pv 17) (pa_cons (pe_tup (pa_cons pe_str (pa_cons pe_str (pa_cons pe_int pa_nil)))) pa_nil)))
      (C8.pss_cut (ps_if (PW.pt (pw_or (pt_not (pt_val (pe_call cParcelIs.G (hr.mono (by first | decide | omega)) (by rfl) cParcelIs.D.g cParcelIs.D.F.kp cParcelIs.D.b .nil pass0 (pa_cons (pv 16) (pa_cons (pv 13) (pa_cons (pv 5) pa_nil)))))) (pw_or1 (pt_not (pt_val (pe_call cTariffIs.G (hr.mono (by first | decide | omega)) (by rfl) cTariffIs.D.g cTariffIs.D.F.kp cTariffIs.D.b .nil pass0 (pa_cons (pv 18) (pa_cons (pv 11) (pa_cons (pv 7) (pa_cons (pv 9) (pa_cons (pv 10) pa_nil)))))))))))
        (pss_one (ps_ret pe_bl))
        pss_nil)
      (pss_cons (ps_set (i := 1) scLaw.nd rfl (.inr rfl) (pe_call cBox.G (hr.mono (by first | decide | omega)) (by rfl) cBox.D.g cBox.D.F.kp cBox.D.b .nil pass0 (pa_cons (pv 0) (pa_cons pe_int pa_nil))))
      (C8.pss_cut (ps_if (PW.pt (pw_or (pt_not (pt_val (pe_call cGHold.G (hr.mono (by first | decide | omega)) (by rfl) cGHold.D.g cGHold.D.F.kp cGHold.D.b .nil pass0 (pa_cons (pv 1) (pa_cons (pv 12) (pa_cons (pv 6) pa_nil)))))) (pw_or1 (pt_not (pt_val (pe_call cTHold.G (hr.mono (by first | decide | omega)) (by rfl) cTHold.D.g cTHold.D.F.kp cTHold.D.b .nil pass0 (pa_cons (pv 1) (pa_cons (pv 11) (pa_cons (pv 7) (pa_cons (pv 9) (pa_cons (pv 10) pa_nil)))))))))))
        (pss_one (ps_ret pe_bl))
        pss_nil)
      (C8.pss_cut (ps_if (pt_not (pt_val (pe_call cPHold.G (hr.mono (by first | decide | omega)) (by rfl) cPHold.D.g cPHold.D.F.kp cPHold.D.b .nil pass0 (pa_cons (pv 1) (pa_cons (pe_op op_cat (pv 13) (pe_lst (pa_cons (pe_callTy call_tuple_of (by rfl) B.tuple PyProof.Rows.boot_tuple (pa_cons (pv 14) pa_nil)) pa_nil))) (pa_cons (pv 5) pa_nil))))))
        (pss_one (ps_ret pe_bl))
        pss_nil)
      (C8.pss_cut (ps_if (pt_not (pt_val (pe_call cShutOut.G (hr.mono (by first | decide | omega)) (by rfl) cShutOut.D.g cShutOut.D.F.kp cShutOut.D.b .nil pass0 (pa_cons (pv 1) (pa_cons (pv 12) (pa_cons (pv 6) (pa_cons (pv 13) (pa_cons (pe_ix ix_list (pv 3) pe_int (fun _ _ => rfl)) pa_nil))))))))
        (pss_one (ps_ret pe_bl))
        pss_nil)
      (pss_cons (ps_set (i := 19) scLaw.nd rfl (.inl rfl) (pe_makeS TT'.MK TT'.R2 (hr.mono (by first | decide | omega)) (by rfl) TT'.g (fun _ => passE0) (pa_cons (pe_ix ix_list (pv 3) pe_int (fun _ _ => rfl)) (pa_cons (pe_callTy call_tuple_of (by rfl) B.tuple PyProof.Rows.boot_tuple (pa_cons (pv 8) pa_nil)) pa_nil))))
      (C8.pss_cut (ps_if (pt_not (pt_val (pe_call cAHold.G (hr.mono (by first | decide | omega)) (by rfl) cAHold.D.g cAHold.D.F.kp cAHold.D.b .nil pass0 (pa_cons (pv 18) (pa_cons (pv 7) (pa_cons (pv 10) (pa_cons (pv 5) (pa_cons (pv 14) pa_nil))))))))
        (pss_one (ps_ret pe_bl))
        pss_nil)
      (C8.pss_cut (ps_if (pt_not (pt_val (pe_call cAHold.G (hr.mono (by first | decide | omega)) (by rfl) cAHold.D.g cAHold.D.F.kp cAHold.D.b .nil pass0 (pa_cons (pv 19) (pa_cons (pv 8) (pa_cons pe_int (pa_cons (pv 5) (pa_cons (pv 14) pa_nil))))))))
        (pss_one (ps_ret pe_bl))
        pss_nil)
      (pss_cons (ps_set (i := 20) scLaw.nd rfl (.inl rfl) pe_dnewK)
      (pss_cons (ps_set (i := 21) scLaw.nd rfl (.inl rfl) pe_dnewK)
      (C8.pss_cut (ps_if (pt_cmpR op_eq (pe_call cDraw.G (hr.mono (by first | decide | omega)) (by rfl) cDraw.D.g cDraw.D.F.kp cDraw.D.b .nil pass0 (pa_cons (pv 1) (pa_cons pe_int pa_nil))) pe_int (nomark _))
        (pss_cons (ps_dput hu (pv 20) (pe_ix ix_list (pv 3) pe_int (fun _ _ => rfl)) (pv 19) (by rfl))
        (pss_one (ps_dput hu (pv 21) (pe_ix ix_list (pv 3) pe_int (fun _ _ => rfl)) (pe_call cLetIn.G (hr.mono (by first | decide | omega)) (by rfl) cLetIn.D.g cLetIn.D.F.kp cLetIn.D.b .nil pass0 (pa_cons (pv 8) (pa_cons pe_int (pa_cons (pv 5) pa_nil)))) (by rfl))))
        pss_nil)
      (pss_cons (ps_dput hu (pv 20) (pe_ix ix_list (pv 3) pe_int (fun _ _ => rfl)) (pv 18) (by rfl))
      (pss_cons (ps_dput hu (pv 21) (pe_ix ix_list (pv 3) pe_int (fun _ _ => rfl)) (pe_call cLetIn.G (hr.mono (by first | decide | omega)) (by rfl) cLetIn.D.g cLetIn.D.F.kp cLetIn.D.b .nil pass0 (pa_cons (pv 7) (pa_cons (pv 10) (pa_cons (pv 5) pa_nil)))) (by rfl))
      (pss_cons (ps_dput hu (pv 20) (pe_ix ix_list (pv 3) pe_int (fun _ _ => rfl)) (pv 19) (by rfl))
      (pss_cons (ps_dput hu (pv 21) (pe_ix ix_list (pv 3) pe_int (fun _ _ => rfl)) (pe_call cLetIn.G (hr.mono (by first | decide | omega)) (by rfl) cLetIn.D.g cLetIn.D.F.kp cLetIn.D.b .nil pass0 (pa_cons (pv 8) (pa_cons pe_int (pa_cons (pv 5) pa_nil)))) (by rfl))
      (C8.pss_cut (ps_if (pt_not (pt_val (pe_call cCHold.G (hr.mono (by first | decide | omega)) (by rfl) cCHold.D.g cCHold.D.F.kp cCHold.D.b .nil pass0 (pa_cons (pv 20) (pa_cons (pv 21) (pa_cons (pe_op op_cat (pv 3) (pe_lst (pa_cons (pv 11) pa_nil))) (pa_cons (pv 16) pa_nil)))))))
        (pss_one (ps_ret pe_bl))
        pss_nil)
      (pss_one (ps_ret (pe_and (pe_call cParcelIs.G (hr.mono (by first | decide | omega)) (by rfl) cParcelIs.D.g cParcelIs.D.F.kp cParcelIs.D.b .nil pass0 (pa_cons (pv 16) (pa_cons (pv 13) (pa_cons (pv 5) pa_nil)))) (pe_one (pe_call cTariffIs.G (hr.mono (by first | decide | omega)) (by rfl) cTariffIs.D.g cTariffIs.D.F.kp cTariffIs.D.b .nil pass0 (pa_cons (pv 18) (pa_cons (pv 11) (pa_cons (pv 7) (pa_cons (pv 9) (pa_cons (pv 10) pa_nil))))))))))))))))))))))))))))))))))))))))))))))))))), ?_⟩
    have spl : ∀ {H1 : Hp}, Same H H1 → SqL K H1 a (xs.map V.int) := fun S => sqL_same ha S
    refine ⟨.ref a, rfl, a, xs, 0, rfl, ha, by decide, fun p H1 np B1 S1 => ?_⟩
    refine ⟨.ref p, rfl, p, 8, rfl, B1, by decide, fun st H2 lst dst B2 b12 => ?_⟩
    have hst : Stem st := ⟨lst, dst⟩
    have ast : isAddr st = true := by
      refine (isAddr_iff st).mpr ⟨?_, ?_, dst⟩
      · rw [← len_tl, lst]; decide
      · rw [← len_tl, lst]; decide
    refine ⟨.ref p, rfl, p, rfl, B2, fun n1 H3 hn1 B3 b23 => ?_⟩
    refine ⟨.ref p, rfl, p, rfl, B3, fun n2 H4 hn2 B4 b34 => ?_⟩
    refine ⟨.ref p, rfl, p, rfl, B4, fun n3 H5 hn3 B5 b45 => ⟨by show 3 ≤ sizeLine; omega, fun l nl => ?_⟩⟩
    have m6 := box_new (o := .lst [.str n1, .str n2, .str n3]) B5 nl
    have L6 : Lns (L2.upd H5 l (.lst [.str n1, .str n2, .str n3])) l [n1, n2, n3] := ⟨upd_same, rfl, fun x hx => mem3 (p := fun x => Nm (tl x)) hx hn1 hn2 hn3⟩
    have b06 := (((b12.trans b23).trans b34).trans b45).trans m6.2
    have B6 := m6.1
    generalize L2.upd H5 l (.lst [.str n1, .str n2, .str n3]) = H6 at L6 b06 B6
    have S06 : Same H H6 := same_but S1 np b06
    clear m6 b12 b23 b34 b45 B2 B3 B4 B5 b06 S1 B1
    refine ⟨.ref p, rfl, p, 4, rfl, B6, by decide, fun m0 H7 m00 m01 B7 b67 => ?_⟩
    refine ⟨fun σ' H' => ∃ m : Int, 0 ≤ m ∧ m ≤ 8 ∧ σ' = [some (V.ref a), some (V.ref p), some (V.str st), some (V.ref l), some (V.int m), none, none, none, none, none, none, none, none, none, none, none, none, none, none, none, none, none, none, none] ∧ Box H' p ∧ But p H6 H', ?_, ?_⟩
    · refine ⟨.ref p, rfl, p, 8, rfl, B7, by decide, fun u H8 u0 u1 B8 b78 => ⟨rfl, _, rfl, ite2 (fun _ => ?_) (fun _ => ?_)⟩⟩
      · exact ⟨.ref p, rfl, p, 5, rfl, B8, by decide, fun v H9 v0 v1 B9 b89 => ⟨4, v, rfl, rfl, 4 + v, by omega, by omega, rfl, B9, (b67.trans b78).trans b89⟩⟩
      · exact (⟨m0, m00, by omega, rfl, B8, b67.trans b78⟩ : ∃ m' : Int, 0 ≤ m' ∧ m' ≤ 8 ∧ [some (V.ref a), some (V.ref p), some (V.str st), some (V.ref l), some (V.int m0), none, none, none, none, none, none, none, none, none, none, none, none, none, none, none, none, none, none, none] = [some (V.ref a), some (V.ref p), some (V.str st), some (V.ref l), some (V.int m'), none, none, none, none, none, none, none, none, none, none, none, none, none, none, none, none, none, none, none] ∧ Box H8 p ∧ But p H6 H8)
    rintro σ' H8 ⟨m, mn, m8, rfl, B8, b68⟩
    clear b67 B7
    refine ⟨.int m, rfl, m, rfl, by omega, by omega, fun D nD => ?_⟩
    have Dp : D ≠ p := fun e => by
      obtain ⟨_, _, _, _, e2, _⟩ := B8
      rw [e, e2] at nD; cases nD
    have D0 : H6 D = none := but_free B8 b68 nD
    have mD := box_new (o := .lst []) B8 nD
    refine lc_it (walk_range (lo := 0) (n := m.toNat)) (fun i H' => Box H' p ∧ But p H6 H' ∧ ∃ ks us, H' D = some (.lst us) ∧ NdsAt (fun b => b ≠ D) H' ks us ∧ ks.length = i ∧ ∀ n ∈ ks, n.ok ∧ n.d ≤ 2) ⟨mD.1, b68.trans mD.2, [], [], upd_same, rfl, rfl, nofun⟩ (fun _ _ _ _ => trivial) (fun i v0 H9 H10 hi hP hy => ?_) (fun H9 hP => ?_)
    · obtain ⟨B9, b69, ks, us, hD, hK, lk, okk⟩ := hP
      obtain ⟨rfl, rfl⟩ := hy
      refine ⟨rfl, .ref p, rfl, .str st, rfl, .ref l, rfl, p, l, st, [n1, n2, n3], rfl, B9, hst, L6.kp (But.kp B6 b69), fun v n H11 hN hok hd _ B11 b911 => ?_⟩
      have hD11 := b911 _ _ hD Dp
      have lu := hK.len
      refine ⟨us, hD11, small1000 (by omega), ⟨?_, fun c o e nc => ?_, ks ++ [n], us ++ [v], upd_same, ?_, by rw [List.length_append, lk]; rfl, fun x hx => ?_⟩⟩
      · obtain ⟨r, a, b, c, e, rest⟩ := B11
        exact ⟨r, a, b, c, by rw [upd_ne (Ne.symm Dp)]; exact e, rest⟩
      · rw [upd_ne (ne_of_none e D0)]; exact b911 _ _ (b69 c o e nc) nc
      · refine NdsAt.snoc (NdsAt.go (fun b o s e ni => ⟨s, ?_⟩) hK) (NdAt.go (fun b o s e ni => ⟨fun z => ?_, ?_⟩) hN)
        · rw [upd_ne s]; exact b911 _ _ e (B9.ne e ni)
        · rw [z, hD] at s; cases s
        · rw [upd_ne (fun z => by rw [z, hD] at s; cases s)]; exact e
      · rcases List.mem_append.mp hx with h | h
        · exact okk x h
        · rw [List.mem_singleton.mp h]; exact ⟨hok, hd⟩
    obtain ⟨B9, b69, ks, us, hD, hK, lk, okk⟩ := hP
    have lk8 : ks.length ≤ 8 := by omega
    have hn1' := (isName_iff n1).mpr hn1
    have L9 := L6.kp (But.kp B6 b69)
    refine ⟨.str st, rfl, .ref p, rfl, p, rfl, B9, fun am H10 am0 B10 b910 => ?_⟩
    have L10 := L9.kp (But.kp B9 b910)
    refine ⟨.ref l, rfl, l, _, 0, .str n1, rfl, rfl, sqOf L10.l, atI_nat (j := 0) rfl, fun x dx nx ndx ne => ?_⟩
    have hK10 : NdsAt All H10 ks us := hK.all.kp (But.kp B9 b910)
    have hD10 := b910 _ _ hD Dp
    have S0 := made_same (C := C) nx ndx ne
    refine ⟨x, dx, t0, st, n1, am, [], [], rfl, upd_same, by rw [lst]; decide, by rw [len_tl]; exact Nat.le_trans hn1.1 (by decide), by decide, .inr (TG.e0 _), rfl, fun _ H11 bx gx => ⟨rfl, ?_⟩, fun ng => absurd ⟨ast, am0, hn1', am0⟩ ng⟩
    have S10 := made_bx nx S0 bx
    have L11 := L10.kp (Same.kp S10)
    have hK11 := hK10.kp (Same.kp S10)
    have hD11 := S10 _ _ hD10
    have S011 : Same H H11 := (same_but S06 np (b69.trans b910)).trans S10
    have gx : GdAt K C H11 (.mk st am n1 []) (.ref x) := gx
    clear S10 S0 bx nx ndx ne hK10 hD10 L10 L9 hD hK b910 B10 B9 b69 mD D0 b68 B8 nD Dp S06 B6 L6
    refine ⟨.ref a, rfl, a, xs, 1, rfl, spl S011, by decide, fun p1 H12 np1 B12 S12 => ?_⟩
    have L12 := L11.kp (Same.kp S12)
    refine ⟨.ref p1, rfl, .str st, rfl, .ref l, rfl, p1, l, st, [n1, n2, n3], rfl, B12, L12, hst, fun r1 bs H13 nr1 R13 g1 lo1 hi1 B13 b123 => ?_⟩
    have L13 := L12.kp (But.kp B12 b123)
    refine ⟨.ref p1, rfl, .str st, rfl, .ref l, rfl, p1, l, st, [n1, n2, n3], rfl, B13, L13, hst, fun r2 cs H14 nr2 R14 g2 lo2 hi2 B14 b134 => ?_⟩
    refine ⟨.ref p1, rfl, p1, rfl, B14, fun fr H15 fr0 B15 b145 => ?_⟩
    refine ⟨.ref p1, rfl, p1, 101, rfl, B15, by decide, fun y0 H16 y00 y01 B16 b156 => ⟨by show 4 ≤ sizeLine; omega, fun W nW => ?_⟩⟩
    have mW := box_new (o := .lst [.int 0, .int 100, .int 50, .int y0]) B16 nW
    have Wp : W ≠ p1 := fun e => by
      obtain ⟨_, _, _, _, e2, _⟩ := B16
      rw [e, e2] at nW; cases nW
    refine ⟨.ref p1, rfl, p1, 4, rfl, mW.1, by decide, fun c0 H17 c00 c01 B17 b167 => ?_⟩
    have hW := b167 W _ upd_same Wp
    obtain ⟨sh, hsh, sh0, sh1⟩ : ∃ sh : Int, [V.int 0, .int 100, .int 50, .int y0][c0.toNat]? = some (.int sh) ∧ 0 ≤ sh ∧ sh ≤ 100 := by
      rcases (show c0 = 0 ∨ c0 = 1 ∨ c0 = 2 ∨ c0 = 3 by omega) with rfl | rfl | rfl | rfl
      · exact ⟨0, rfl, by decide, by decide⟩
      · exact ⟨100, rfl, by decide, by decide⟩
      · exact ⟨50, rfl, by decide, by decide⟩
      · exact ⟨y0, rfl, y00, by omega⟩
    refine ⟨W, _, c0.toNat, .int sh, rfl, congrArg V.int (show c0 = (c0.toNat : Int) by omega), sqOf hW, atI_nat hsh, ?_⟩
    refine ⟨.ref p1, rfl, p1, rfl, B17, fun hm H18 hhm B18 b178 => ?_⟩
    have b1418 := (((b145.trans b156).trans mW.2).trans b167).trans b178
    have b1318 := b134.trans b1418
    have S1118 : Same H11 H18 := same_but S12 np1 (b123.trans b1318)
    have R13 := R13.but B13 b1318
    have R14 := R14.but B14 b1418
    clear b1318 b1418 hW mW nW Wp b167 b178 b156 b145 b134 b123 B12 B13 B14 B15 B16 B17 B18 L13 L12 nr1 nr2
    have S018 := S011.trans S1118
    refine ⟨.ref a, rfl, a, xs, 2, rfl, spl S018, by decide, fun p2 H19 np2 B19 S19 => ?_⟩
    refine ⟨.ref p2, rfl, .str st, rfl, .ref l, rfl, p2, l, st, [n1, n2, n3], rfl, B19, hst, L11.kp (Same.kp (S1118.trans S19)), fun v n H20 hN hok hd _ B20 b190 => ?_⟩
    refine ⟨.ref p2, rfl, p2, rfl, B20, fun vl c H21 nvl hv okc pcl B21 b201 => ?_⟩
    have S1821 : Same H18 H21 := same_but S19 np2 (b190.trans b201)
    have S1121 := S1118.trans S1821
    have S021 := S018.trans S1821
    have L := L11.kp (Same.kp S1121)
    have hK := hK11.kp (Same.kp S1121)
    have hD := S1121 _ _ hD11
    have gx := gx.kg (Same.kg S1121)
    have R1 := R13.same S1821
    have R2 := R14.same S1821
    have hN : NdAt All H21 n v := hN.all.kp (But.kp B20 b201)
    clear S1121 S1821 b201 b190 B21 B20 nvl B19 S19 np2 S018 R13 R14 S1118 S12 np1 L11 hK11 hD11 S011 np
    refine ⟨.ref D, rfl, D, rfl, ⟨_, sqOf hD⟩, fun T nT => ?_⟩
    have lu := hK.len
    refine lc_it (walk_list (a := D) (xs := us)) (fun i H1 => Same H21 H1 ∧ ∃ ts, H1 T = some (.lst ts) ∧ GdsAt K C H1 (ks.take i) ts) ⟨same_upd nT, [], upd_same, rfl⟩ (fun i H1 _ hP => sqOf (hP.1 _ _ hD)) (fun i v1 H1 H2 hi hP hy => ?_) (fun H22 hP => ?_)
    · obtain ⟨S1, ts, hT, hU⟩ := hP
      obtain ⟨rfl, ev⟩ := hy
      obtain ⟨k, ek, gk1⟩ := hK.at ev
      have mk := List.mem_of_getElem? ek
      refine ⟨rfl, v1, rfl, .ref x, rfl, v1, k, x, rfl, gk1.kp (Same.kp S1), (okk k mk).1, by have := (okk k mk).2; omega, fun a1 H3 S3 g3 => ⟨ts, S3 _ _ hT, ?_, ?_, ts ++ [.ref a1], upd_same, ?_⟩⟩
      · rw [hU.len, List.length_take]
        exact small1000 (by omega)
      · intro b o hb
        rw [upd_ne (ne_of_none hb nT)]
        exact S3 _ _ (S1 _ _ hb)
      · have kg : Kg H3 (L2.upd H3 T (.lst (ts ++ [.ref a1]))) := Kg.upd (S3 _ _ hT)
        rw [take_snoc ek]
        exact GdsAt.snoc ((hU.kg (Same.kg S3)).kg kg) (g3.kg kg)
    obtain ⟨S22, ts, hT, hU⟩ := hP
    rw [lu, List.take_length] at hU
    have lt := hU.len
    refine ⟨.ref T, rfl, T, ts, rfl, .inl (sqOf hT), fun Pd nPd => ?_⟩
    have Sp := same_upd (o := .lst ts) nPd
    have S23 := S22.trans Sp
    have hT23 := Sp _ _ hT
    have hU23 := hU.kg (Same.kg Sp)
    have hP23 : L2.upd H22 Pd (.lst ts) Pd = some (.lst ts) := upd_same
    have Pd0 : H21 Pd = none := S22.free nPd
    have TP : T ≠ Pd := ne_of_none hT nPd
    generalize L2.upd H22 Pd (.lst ts) = H23 at S23 hT23 hU23 hP23
    clear Sp hU hT nPd S22
    refine ⟨.ref vl, rfl, .ref Pd, rfl, by show 1 ≤ sizeLine; omega, fun M nM => ?_⟩
    have Sm := same_upd (o := .lst [.ref Pd]) nM
    refine ⟨vl, M, _, _, rfl, rfl, Sm _ _ (S23 _ _ hv), upd_same, by show 8 + 1 ≤ sizeLine; omega, fun A2 nA => ?_⟩
    have Sn := Sm.trans (same_upd (o := .lst (pcV c ++ [.ref Pd])) nA)
    refine ⟨A2, Pd, c, ks, ts, rfl, upd_same, pcl, .inl (sqOf (Sn _ _ hP23)), hU23.kg (Same.kg Sn), fun _ j H24 S24' hp => ?_, fun ng => absurd okc ng⟩
    have Sq := Sn.trans S24'
    have S24 := S23.trans Sq
    have hT24 := Sq _ _ hT23
    have hU24 := hU23.kg (Same.kg Sq)
    have hP24 := Sq _ _ hP23
    clear Sq Sn Sm nM nA S24' S23 hT23 hU23 hP23
    refine ⟨fun σ' H' => σ' = [some (V.ref a), some (V.ref p2), some (V.str st), some (V.ref l), some (V.int m), some (V.ref D), some (V.ref x), some (V.ref r1), some (V.ref r2), some (V.int fr), some (V.int sh), some (V.str hm), some v, some (V.ref vl), some (V.ref T), some (V.ref Pd), some (V.ref j), none, none, none, none, none, none, none] ∧ H' = L2.upd H24 Pd (.lst ts.reverse), ⟨.ref Pd, rfl, .inl ⟨rfl, _, sqOf hP24⟩, Pd, ts, rfl, rfl, hP24, rfl, rfl⟩, ?_⟩
    rintro σ' H' ⟨rfl, rfl⟩
    have k25 : Kg H24 (L2.upd H24 Pd (.lst ts.reverse)) := Kg.upd hP24
    refine ⟨.ref Pd, rfl, .inl ⟨rfl, _, sqOf upd_same⟩, .ref x, rfl, Pd, _, .ref x, rfl, rfl, upd_same, by rw [List.length_reverse]; exact small1000 (by omega), ?_⟩
    have k26 := k25.trans (Kg.upd (o := .lst (ts.reverse ++ [.ref x])) (upd_same (H := H24) (a := Pd) (o := .lst ts.reverse)))
    have S26 : Same H21 (L2.upd (L2.upd H24 Pd (.lst ts.reverse)) Pd (.lst (ts.reverse ++ [.ref x]))) := fun b o hb => by
      rw [upd_ne (ne_of_none hb Pd0), upd_ne (ne_of_none hb Pd0)]
      exact S24 _ _ hb
    have hT26 : L2.upd (L2.upd H24 Pd (.lst ts.reverse)) Pd (.lst (ts.reverse ++ [.ref x])) T = some (.lst ts) := by
      rw [upd_ne TP, upd_ne TP]; exact hT24
    have hU26 := hU24.kg k26
    have hp26 := hp.kg k26
    generalize L2.upd (L2.upd H24 Pd (.lst ts.reverse)) Pd (.lst (ts.reverse ++ [.ref x])) = H26 at S26 hT26 hU26 hp26
    clear k26 k25 hP24 hU24 hT24 S24 hp Pd0 TP
    refine ⟨.ref r1, rfl, r1, _, rfl, .inl (sqOf (R1.same S26).l), fun Ld nLd => ?_⟩
    have SL := same_upd (o := .lst (bs.map fun b => V.ref b.1)) nLd
    have S27 := S26.trans SL
    have hLd : L2.upd H26 Ld (.lst (bs.map fun b => V.ref b.1)) Ld = some (.lst (bs.map fun b => V.ref b.1)) := upd_same
    have Ld0 : H21 Ld = none := S26.free nLd
    have TL : T ≠ Ld := ne_of_none hT26 nLd
    have hT27 := SL _ _ hT26
    have hU27 := hU26.kg (Same.kg SL)
    have hp27 := hp26.kg (Same.kg SL)
    generalize L2.upd H26 Ld (.lst (bs.map fun b => V.ref b.1)) = H27 at S27 hLd hT27 hU27 hp27
    clear SL nLd hT26 hU26 hp26 S26
    have lens1 : ∀ b ∈ bs, b.2.1.1.length ≤ 1000 ∧ b.2.1.2.length ≤ 1000 := fun b hb => row_lens (g1.1 b.2 (List.mem_map.mpr ⟨b, hb, rfl⟩))
    have lens2 : ∀ b ∈ cs, b.2.1.1.length ≤ 1000 ∧ b.2.1.2.length ≤ 1000 := fun b hb => row_lens (g2.1 b.2 (List.mem_map.mpr ⟨b, hb, rfl⟩))
    have nml : ∀ {z : Str}, Nm (tl z) → z.length ≤ 1000 := fun h => by rw [len_tl]; exact Nat.le_trans h.1 (by decide)
    have ihm := (isName_iff hm).mpr hhm
    have okt : okT hm fr sh (bs.map (·.2)) := ⟨ihm, fr0, sh0, sh1, g1⟩
    refine ⟨.str hm, rfl, .ref Ld, rfl, .int fr, rfl, .int sh, rfl, rfl, rfl, fun y dy ny ndy ney => ?_⟩
    have S0 := made_same (C := CT) ny ndy ney
    refine ⟨y, dy, Ld, hm, fr, sh, true, bs, rfl, upd_same, rin_lst ((R1.same S27).same S0) (S0 _ _ hLd), by omega, nml hhm, lens1, fun _ H28 bx tx => ⟨rfl, ?_⟩, fun ng => absurd okt ng⟩
    have Sx := made_bx ny S0 bx
    have tx : TarX CT H28 y hm fr sh (bs.map (·.2)) := tx
    have S28 := S27.trans Sx
    have hLd28 := Sx _ _ hLd
    have hT28 := Sx _ _ hT27
    have hU28 := hU27.kg (Same.kg Sx)
    have hp28 := hp27.kg (Same.kg Sx)
    clear Sx S0 bx ny ndy ney S27 hLd hT27 hU27 hp27
    refine ⟨fun σ' H' => σ' = [some (V.ref a), some (V.ref p2), some (V.str st), some (V.ref l), some (V.int m), some (V.ref D), some (V.ref x), some (V.ref r1), some (V.ref r2), some (V.int fr), some (V.int sh), some (V.str hm), some v, some (V.ref vl), some (V.ref T), some (V.ref Pd), some (V.ref j), some (V.ref Ld), some (V.ref y), none, none, none, none, none] ∧ H' = L2.upd H28 Ld (.lst (bs.map fun b => V.ref b.1).reverse), ⟨.ref Ld, rfl, .inl ⟨rfl, _, sqOf hLd28⟩, Ld, _, rfl, rfl, hLd28, rfl, rfl⟩, ?_⟩
    rintro σ' H' ⟨rfl, rfl⟩
    refine ⟨.ref Ld, rfl, .inl ⟨rfl, _, sqOf upd_same⟩, by show 3 ≤ sizeLine; omega, fun T7 nT7 => ⟨Ld, _, .ref T7, rfl, rfl, same_upd nT7 _ _ upd_same, by rw [List.length_reverse, List.length_map]; omega, ?_⟩⟩
    have k28 : Kg H28 (L2.upd (L2.upd (L2.upd H28 Ld (.lst (bs.map fun b => V.ref b.1).reverse)) T7 (.tup [.str (Str.ofString "0"), .str (Str.ofString ""), .int 7])) Ld (.lst ((bs.map fun b => V.ref b.1).reverse ++ [.ref T7]))) := (Kg.upd hLd28).trans ((Same.kg (same_upd nT7)).trans (Kg.upd (same_upd nT7 _ _ upd_same)))
    have S29 : Same H21 (L2.upd (L2.upd (L2.upd H28 Ld (.lst (bs.map fun b => V.ref b.1).reverse)) T7 (.tup [.str (Str.ofString "0"), .str (Str.ofString ""), .int 7])) Ld (.lst ((bs.map fun b => V.ref b.1).reverse ++ [.ref T7]))) := fun b o hb => by
      rw [upd_ne (ne_of_none hb Ld0)]
      exact same_upd nT7 _ _ (by rw [upd_ne (ne_of_none hb Ld0)]; exact S28 _ _ hb)
    have hT29 : L2.upd (L2.upd (L2.upd H28 Ld (.lst (bs.map fun b => V.ref b.1).reverse)) T7 (.tup [.str (Str.ofString "0"), .str (Str.ofString ""), .int 7])) Ld (.lst ((bs.map fun b => V.ref b.1).reverse ++ [.ref T7])) T = some (.lst ts) := by
      rw [upd_ne TL]
      exact same_upd nT7 _ _ (by rw [upd_ne TL]; exact hT28)
    have hU29 := hU28.kg k28
    have hp29 := hp28.kg k28
    have tx29 := tx.kg k28
    generalize L2.upd (L2.upd (L2.upd H28 Ld (.lst (bs.map fun b => V.ref b.1).reverse)) T7 (.tup [.str (Str.ofString "0"), .str (Str.ofString ""), .int 7])) Ld (.lst ((bs.map fun b => V.ref b.1).reverse ++ [.ref T7])) = H29 at S29 hT29 hU29 hp29 tx29
    clear k28 tx hp28 hU28 hT28 hLd28 S28 TL Ld0 nT7
    have ln8 : ks.length ≤ 900 := by omega
    have k0 : 0 ≤ c.k := okc.2.2.2.2.2.1
    refine ⟨fun σ' H' => σ' = [some (V.ref a), some (V.ref p2), some (V.str st), some (V.ref l), some (V.int m), some (V.ref D), some (V.ref x), some (V.ref r1), some (V.ref r2), some (V.int fr), some (V.int sh), some (V.str hm), some v, some (V.ref vl), some (V.ref T), some (V.ref Pd), some (V.ref j), some (V.ref Ld), some (V.ref y), none, none, none, none, none] ∧ Same H29 H', ?_, ?_⟩
    · refine ⟨.ref j, rfl, .ref vl, rfl, .ref D, rfl, j, vl, D, c, ks, [], us, rfl, hp29, k0, by rw [List.append_nil]; exact S29 _ _ hv, (show 0 ≤ 10 by decide), S29 _ _ hD, hK.kp (Same.kp S29), okk, ln8, fun H30 S30 => ⟨_, rfl, ?_⟩⟩
      exact ⟨.ref y, rfl, .str hm, rfl, .ref r1, rfl, .int fr, rfl, .int sh, rfl, y, r1, hm, fr, sh, bs, rfl, tx29.same S30, R1.same (S29.trans S30), fun H31 S31 => ⟨_, rfl, ite2 (fun z => by cases z) (fun _ => ⟨rfl, S30.trans S31⟩)⟩⟩
    rintro σ' H31 ⟨rfl, S2931⟩
    have S31' := S29.trans S2931
    have hT31 := S2931 _ _ hT29
    have hU31 := hU29.kg (Same.kg S2931)
    have hp31 := hp29.kg (Same.kg S2931)
    have tx31 := tx29.same S2931
    have hv31 := S31' _ _ hv
    have hD31 := S31' _ _ hD
    have hK31 := hK.kp (Same.kp S31')
    have L31 := L.kp (Same.kp S31')
    have R131 := R1.same S31'
    have R231 := R2.same S31'
    have gx31 := gx.kg (Same.kg S31')
    have hN31 := hN.kp (Same.kp S31')
    have S031 := S021.trans S31'
    clear S2931 S31' hT29 hU29 hp29 tx29 S29 hv hD hK L R1 R2 gx hN S021
    refine ⟨.ref a, rfl, a, xs, 3, rfl, spl S031, by decide, fun p3 H32 np3 B32 S32 => ?_⟩
    have Dp3 : D ≠ p3 := fun e => by rw [← e, hD31] at np3; cases np3
    have vp3 : vl ≠ p3 := fun e => by rw [← e, hv31] at np3; cases np3
    have Tp3 : T ≠ p3 := fun e => by rw [← e, hT31] at np3; cases np3
    have nd := hn1
    have snk : (Nd.mk st am n1 []).ok := ⟨(isAddr_iff st).mp ast, hn1, am0, am0, by decide, trivial⟩
    have snd' : (Nd.mk st am n1 []).d ≤ 2 := by show 0 + 1 ≤ 2; decide
    refine ⟨fun σ' H' => σ' = [some (V.ref a), some (V.ref p3), some (V.str st), some (V.ref l), some (V.int m), some (V.ref D), some (V.ref x), some (V.ref r1), some (V.ref r2), some (V.int fr), some (V.int sh), some (V.str hm), some v, some (V.ref vl), some (V.ref T), some (V.ref Pd), some (V.ref j), some (V.ref Ld), some (V.ref y), none, none, none, none, none] ∧ Box H' p3 ∧ But p3 H32 H', ?_, ?_⟩
    · refine ⟨.ref p3, rfl, v, rfl, .ref x, rfl, p3, x, v, n, rfl, B32, hN31.kp (Same.kp S32), hok, hd, fun H33 B33 b33 => ⟨_, rfl, ?_⟩⟩
      exact ⟨.ref p3, rfl, .str hm, rfl, .ref r1, rfl, .int fr, rfl, .int sh, rfl, p3, r1, hm, fr, sh, bs, rfl, B33, (R131.same S32).but B32 b33, g1, lo1, hi1, ihm, fun H34 B34 b34 => ⟨_, rfl, ite2 (fun z => by cases z) (fun _ => ⟨rfl, B34, b33.trans b34⟩)⟩⟩
    rintro σ' H34 ⟨rfl, B34, b324⟩
    have S314 : Same H31 H34 := same_but S32 np3 b324
    refine ⟨fun σ' H' => σ' = [some (V.ref a), some (V.ref p3), some (V.str st), some (V.ref l), some (V.int m), some (V.ref D), some (V.ref x), some (V.ref r1), some (V.ref r2), some (V.int fr), some (V.int sh), some (V.str hm), some v, some (V.ref vl), some (V.ref T), some (V.ref Pd), some (V.ref j), some (V.ref Ld), some (V.ref y), none, none, none, none, none] ∧ Box H' p3 ∧ Same H31 H', ?_, ?_⟩
    · refine ⟨.ref p3, rfl, .ref vl, rfl, .ref T, rfl, T, ts, rfl, .inl ⟨sqOf (S314 _ _ hT31), fun Tt nTt => ⟨by show 1 ≤ sizeLine; omega, fun M nM => ?_⟩⟩⟩
      have Sa := (same_upd (o := .tup ts) nTt).trans (same_upd (o := .lst [.ref Tt]) nM)
      refine ⟨vl, M, _, _, rfl, rfl, Sa _ _ (S314 _ _ hv31), upd_same, by show 8 + 1 ≤ sizeLine; omega, fun A2 nA => ?_⟩
      have Sb := Sa.trans (same_upd (o := .lst (pcV c ++ [.ref Tt])) nA)
      have hTt : SqT K (L2.upd (L2.upd (L2.upd H34 Tt (.tup ts)) M (.lst [.ref Tt])) A2 (.lst (pcV c ++ [.ref Tt]))) Tt ts := .of (same_upd nA _ _ (same_upd nM _ _ upd_same))
      have Sc := S314.trans Sb
      refine ⟨.ref D, rfl, p3, A2, Tt, D, c, ks, ts, us, rfl, B34.same Sb, upd_same, okc, pcl, hTt, hU31.kg (Same.kg Sc), Sc _ _ hD31, Dp3, hK31.kp (Same.kp Sc), okk, ln8, fun H35 B35 b35 => ⟨_, rfl, ite2 (fun z => by cases z) (fun _ => ⟨rfl, B35, ?_⟩)⟩⟩
      exact fun b o e => b35 _ _ (Sc _ _ e) (fun z => by rw [z] at e; have := Sc _ _ e; have h0 := S32; rw [np3] at e; cases e)
    rintro σ' H35 ⟨rfl, B35, S315⟩
    refine ⟨fun σ' H' => σ' = [some (V.ref a), some (V.ref p3), some (V.str st), some (V.ref l), some (V.int m), some (V.ref D), some (V.ref x), some (V.ref r1), some (V.ref r2), some (V.int fr), some (V.int sh), some (V.str hm), some v, some (V.ref vl), some (V.ref T), some (V.ref Pd), some (V.ref j), some (V.ref Ld), some (V.ref y), none, none, none, none, none] ∧ Box H' p3 ∧ Same H31 H', ?_, ?_⟩
    · refine ⟨.ref p3, rfl, v, rfl, .ref x, rfl, .ref vl, rfl, .ref l, rfl, l, _, 2, .str n3, rfl, rfl, sqOf (L31.kp (Same.kp S315)).l, atI_nat (j := 2) rfl, p3, x, vl, v, v, n, .mk st am n1 [], c, n3, rfl, B35, hN31.kp (Same.kp S315), hok, hd, gx31.kg (Same.kg S315), snk, snd', S315 _ _ hv31, okc, pcl, nml hn3, fun H36 B36 b36 => ⟨_, rfl, ite2 (fun z => by cases z) (fun _ => ⟨rfl, B36, ?_⟩)⟩⟩
      exact fun b o e => b36 _ _ (S315 _ _ e) (fun z => by rw [z, np3] at e; cases e)
    rintro σ' H36 ⟨rfl, B36, S316⟩
    refine ⟨.ref l, rfl, l, _, 0, .str n1, rfl, rfl, sqOf (L31.kp (Same.kp S316)).l, atI_nat (j := 0) rfl, .ref r2, rfl, r2, _, rfl, .inl ⟨sqOf (R231.same S316).l, fun U nU z dz nz ndz nez => ?_⟩⟩
    have SU := same_upd (o := .tup (cs.map fun b => V.ref b.1)) nU
    have S0 := made_same (C := CT) nz ndz nez
    have okt2 : okT n1 0 50 (cs.map (·.2)) := ⟨hn1', by decide, by decide, by decide, g2⟩
    refine ⟨z, dz, U, n1, 0, 50, false, cs, rfl, upd_same, (rin_tup ((R231.same S316).same SU) upd_same).same S0, by omega, nml hn1, lens2, fun _ H37 bx tz => ⟨rfl, ?_⟩, fun ng => absurd okt2 ng⟩
    have Sx := SU.trans (made_bx nz S0 bx)
    have S317 := S316.trans Sx
    have B37 := B36.same Sx
    have tz : TarX CT H37 z n1 0 50 (cs.map (·.2)) := tz
    clear Sx S0 bx nz ndz nez SU nU B36 S316 B35 S315 B34 b324 S314 B32 S32
    refine ⟨fun σ' H' => σ' = [some (V.ref a), some (V.ref p3), some (V.str st), some (V.ref l), some (V.int m), some (V.ref D), some (V.ref x), some (V.ref r1), some (V.ref r2), some (V.int fr), some (V.int sh), some (V.str hm), some v, some (V.ref vl), some (V.ref T), some (V.ref Pd), some (V.ref j), some (V.ref Ld), some (V.ref y), some (V.ref z), none, none, none, none] ∧ Same H37 H', ?_, ?_⟩
    · exact ⟨.ref y, rfl, .ref r1, rfl, .int sh, rfl, .ref D, rfl, .ref T, rfl, y, r1, D, T, hm, fr, sh, bs, ks, us, ts, rfl, tx31.same S317, R131.same S317, S317 _ _ hD31, hK31.kp (Same.kp S317), S317 _ _ hT31, hU31.kg (Same.kg S317), okk, ln8, sh0, sh1, fun H38 S38 => ⟨_, rfl, ite2 (fun w => by cases w) (fun _ => ⟨rfl, S38⟩)⟩⟩
    rintro σ' H38 ⟨rfl, S38⟩
    have S318 := S317.trans S38
    refine ⟨fun σ' H' => σ' = [some (V.ref a), some (V.ref p3), some (V.str st), some (V.ref l), some (V.int m), some (V.ref D), some (V.ref x), some (V.ref r1), some (V.ref r2), some (V.int fr), some (V.int sh), some (V.str hm), some v, some (V.ref vl), some (V.ref T), some (V.ref Pd), some (V.ref j), some (V.ref Ld), some (V.ref y), some (V.ref z), none, none, none, none] ∧ Same H38 H', ?_, ?_⟩
    · exact ⟨.ref z, rfl, .ref r2, rfl, .ref D, rfl, .ref T, rfl, z, r2, D, T, n1, 0, 50, cs, ks, us, ts, rfl, tz.same S38, R231.same S318, S318 _ _ hD31, hK31.kp (Same.kp S318), S318 _ _ hT31, hU31.kg (Same.kg S318), okk, ln8, by decide, by decide, fun H39 S39 => ⟨_, rfl, ite2 (fun w => by cases w) (fun _ => ⟨rfl, S39⟩)⟩⟩
    rintro σ' H39 ⟨rfl, S39⟩
    have S379 := S38.trans S39
    have S319 := S318.trans S39
    have B39 := B37.same S379
    intro E1 nE1
    intro E2 nE2
    have e12 : E1 ≠ E2 := fun e => by rw [← e, upd_same] at nE2; cases nE2
    have Sa := same_upd (o := .dK []) nE1
    have Sb := Sa.trans (same_upd (o := .dK []) nE2)
    have E1f : H31 E1 = none := S319.free nE1
    have E2f : H31 E2 = none := (S319.trans Sa).free nE2
    have D0 : Ds CT (L2.upd (L2.upd H39 E1 (.dK [])) E2 (.dK [])) E1 E2 ks [] 0 := ⟨by rw [upd_ne e12]; exact upd_same, upd_same, nofun, Nat.le_refl _, nofun⟩
    have S310 := S319.trans Sb
    have tz40 := tz.same (S379.trans Sb)
    have B40 := B39.same Sb
    generalize L2.upd (L2.upd H39 E1 (.dK [])) E2 (.dK []) = H40 at D0 S310 tz40 B40
    clear Sa Sb nE1 nE2 S319 S379 S318 S38 S39 S317 B39 B37 tz
    have t1 : Tx n1 := nm_tx hn1
    have t2 : Tx n2 := nm_tx hn2
    have l1 : bs.length ≤ 900 := by omega
    have l2 : cs.length ≤ 900 := by omega
    have l3 : ks.length ≤ 1000 := by omega
    refine ⟨fun σ' H' => σ' = [some (V.ref a), some (V.ref p3), some (V.str st), some (V.ref l), some (V.int m), some (V.ref D), some (V.ref x), some (V.ref r1), some (V.ref r2), some (V.int fr), some (V.int sh), some (V.str hm), some v, some (V.ref vl), some (V.ref T), some (V.ref Pd), some (V.ref j), some (V.ref Ld), some (V.ref y), some (V.ref z), some (V.ref E1), some (V.ref E2), none, none] ∧ ∃ es, Same H31 H' ∧ TarX CT H' z n1 0 50 (cs.map (·.2)) ∧ Ds CT H' E1 E2 ks es 1, ?_, ?_⟩
    · refine ⟨.ref p3, rfl, p3, 2, rfl, B40, by decide, fun u H41 u0 u1 B41 b401 => ⟨rfl, _, rfl, ite2 (fun _ => ?_) (fun _ => ?_)⟩⟩
      · have S41 := same_but S310 np3 b401
        have D1 := D0.kp (But.kp B40 b401)
        have tz41 := tz40.kp (But.kp B40 b401)
        refine ⟨.ref z, rfl, .ref E1, rfl, .ref l, rfl, l, _, 1, .str n2, rfl, rfl, sqOf (L31.kp (Same.kp S41)).l, atI_nat (j := 1) rfl, E1, _, rfl, DPut.k (k := Sum.inr n2) (v := .ref z) D1.h1 (by decide), ?_⟩
        have S42 := same_put (o1 := .dK (putK (kvT1 []) (Sum.inr n2) (.ref z))) S41 E1f
        refine ⟨.ref r2, rfl, .ref D, rfl, r2, D, 50, cs, ks, us, rfl, R231.same S42, g2, l2, S42 _ _ hD31, hK31.kp (Same.kp S42), okk, l3, by decide, by decide, fun H43 S43 => ?_⟩
        have S413 := S42.trans S43
        exact ⟨.ref E2, rfl, .ref l, rfl, l, _, 1, .str n2, rfl, rfl, sqOf (L31.kp (Same.kp S413)).l, atI_nat (j := 1) rfl, E2, _, rfl, DPut.k (k := Sum.inr n2) (v := .bl _) (S43 _ _ (by rw [upd_ne (Ne.symm e12)]; exact D1.h2)) (by decide), rfl, _, same_puts S41 E1f E2f S43, D1.tar e12 S43 tz41, D1.put e12 t2 tz41 (by decide) (by decide) S43⟩
      · exact ⟨rfl, [], same_but S310 np3 b401, tz40.kp (But.kp B40 b401), (D0.kp (But.kp B40 b401)).le (by decide)⟩
    rintro σ' H44 ⟨rfl, es, S44, tz44, D4⟩
    clear B40 S310 D0 tz40
    have le4 := D4.l
    have lk1 : (kvT1 es).length < sizeLine := by unfold kvT1; rw [List.length_map]; omega
    have lk2 : (kvT2 es).length < sizeLine := by unfold kvT2; rw [List.length_map]; omega
    have ty44 := tx31.same S44
    refine ⟨.ref y, rfl, .ref E1, rfl, .ref l, rfl, l, _, 0, .str n1, rfl, rfl, sqOf (L31.kp (Same.kp S44)).l, atI_nat (j := 0) rfl, E1, _, rfl, DPut.k (k := Sum.inr n1) (v := .ref y) D4.h1 lk1, ?_⟩
    have S45 := same_put (o1 := .dK (putK (kvT1 es) (Sum.inr n1) (.ref y))) S44 E1f
    refine ⟨.ref r1, rfl, .int sh, rfl, .ref D, rfl, r1, D, sh, bs, ks, us, rfl, R131.same S45, g1, l1, S45 _ _ hD31, hK31.kp (Same.kp S45), okk, l3, sh0, sh1, fun H46 S46 => ?_⟩
    have S456 := S45.trans S46
    refine ⟨.ref E2, rfl, .ref l, rfl, l, _, 0, .str n1, rfl, rfl, sqOf (L31.kp (Same.kp S456)).l, atI_nat (j := 0) rfl, E2, _, rfl, DPut.k (k := Sum.inr n1) (v := .bl _) (S46 _ _ (by rw [upd_ne (Ne.symm e12)]; exact D4.h2)) lk2, ?_⟩
    have S47 := same_puts (o2 := .dK (putK (kvT2 es) (Sum.inr n1) (.bl (letIn (bs.map (·.2)) sh ks)))) S44 E1f E2f S46
    have tz47 := D4.tar (o2 := .dK (putK (kvT2 es) (Sum.inr n1) (.bl (letIn (bs.map (·.2)) sh ks)))) e12 S46 tz44
    have D7 := D4.put e12 t1 ty44 sh0 sh1 S46
    generalize L2.upd H46 E2 (.dK (putK (kvT2 es) (Sum.inr n1) (.bl (letIn (bs.map (·.2)) sh ks)))) = H47 at S47 tz47 D7
    generalize putE es (n1, y, letIn (bs.map (·.2)) sh ks) = es2 at D7
    clear S456 S46 S45 ty44 tz44 D4 S44 lk1 lk2 le4
    have le7 := D7.l
    have lk1 : (kvT1 es2).length < sizeLine := by unfold kvT1; rw [List.length_map]; omega
    have lk2 : (kvT2 es2).length < sizeLine := by unfold kvT2; rw [List.length_map]; omega
    refine ⟨.ref z, rfl, .ref E1, rfl, .ref l, rfl, l, _, 1, .str n2, rfl, rfl, sqOf (L31.kp (Same.kp S47)).l, atI_nat (j := 1) rfl, E1, _, rfl, DPut.k (k := Sum.inr n2) (v := .ref z) D7.h1 lk1, ?_⟩
    have S48 := same_put (o1 := .dK (putK (kvT1 es2) (Sum.inr n2) (.ref z))) S47 E1f
    refine ⟨.ref r2, rfl, .ref D, rfl, r2, D, 50, cs, ks, us, rfl, R231.same S48, g2, l2, S48 _ _ hD31, hK31.kp (Same.kp S48), okk, l3, by decide, by decide, fun H49 S49 => ?_⟩
    have S489 := S48.trans S49
    refine ⟨.ref E2, rfl, .ref l, rfl, l, _, 1, .str n2, rfl, rfl, sqOf (L31.kp (Same.kp S489)).l, atI_nat (j := 1) rfl, E2, _, rfl, DPut.k (k := Sum.inr n2) (v := .bl _) (S49 _ _ (by rw [upd_ne (Ne.symm e12)]; exact D7.h2)) lk2, ?_⟩
    have S50 := same_puts (o2 := .dK (putK (kvT2 es2) (Sum.inr n2) (.bl (letIn (cs.map (·.2)) 50 ks)))) S47 E1f E2f S49
    have D9 := D7.put e12 t2 tz47 (show (0 : Int) ≤ 50 by decide) (show (50 : Int) ≤ 100 by decide) S49
    generalize L2.upd H49 E2 (.dK (putK (kvT2 es2) (Sum.inr n2) (.bl (letIn (cs.map (·.2)) 50 ks)))) = H50 at S50 D9
    generalize putE es2 (n2, z, letIn (cs.map (·.2)) 50 ks) = es3 at D9
    clear S489 S49 S48 S47 tz47 D7 lk1 lk2 le7
    have le9 := D9.l
    refine ⟨fun σ' H' => σ' = [some (V.ref a), some (V.ref p3), some (V.str st), some (V.ref l), some (V.int m), some (V.ref D), some (V.ref x), some (V.ref r1), some (V.ref r2), some (V.int fr), some (V.int sh), some (V.str hm), some v, some (V.ref vl), some (V.ref T), some (V.ref Pd), some (V.ref j), some (V.ref Ld), some (V.ref y), some (V.ref z), some (V.ref E1), some (V.ref E2), none, none] ∧ Same H31 H', ?_, ?_⟩
    · refine ⟨.ref E1, rfl, .ref E2, rfl, .ref l, rfl, .str hm, rfl, by show 1 ≤ sizeLine; omega, fun M nM => ?_⟩
      have Sm := same_upd (o := .lst [.str hm]) nM
      refine ⟨l, M, _, _, rfl, rfl, Sm _ _ (L31.kp (Same.kp S50)).l, upd_same, by show 3 + 1 ≤ sizeLine; omega, fun A2 nA => ?_⟩
      have Sn := Sm.trans (same_upd (o := .lst [.str n1, .str n2, .str n3, .str hm]) nA)
      have D10 := D9.kp (Same.kp Sn)
      refine ⟨.ref j, rfl, E1, E2, A2, j, es3, [n1, n2, n3, hm], c, ks, rfl, D10.h1, D10.h2, D10.t, by omega, D10.x, upd_same, by show 1 ≤ 4; decide, by show 4 ≤ 10; decide, hp31.kg (Same.kg (S50.trans Sn)), okk, ln8, fun H51 S51 => ⟨_, rfl, ite2 (fun w => by cases w) (fun _ => ⟨rfl, (S50.trans Sn).trans S51⟩)⟩⟩
    rintro σ' H52 ⟨rfl, S52⟩
    refine ⟨.ref j, rfl, .ref vl, rfl, .ref D, rfl, j, vl, D, c, ks, [], us, rfl, hp31.kg (Same.kg S52), k0, by rw [List.append_nil]; exact S52 _ _ hv31, (show 0 ≤ 10 by decide), S52 _ _ hD31, hK31.kp (Same.kp S52), okk, ln8, fun H53 S53 => ⟨_, rfl, ?_⟩⟩
    rw [if_pos rfl]
    exact ⟨.ref y, rfl, .str hm, rfl, .ref r1, rfl, .int fr, rfl, .int sh, rfl, y, r1, hm, fr, sh, bs, rfl, tx31.same (S52.trans S53), R131.same (S52.trans S53), fun H54 S54 => q H54⟩
end
end Tb
namespace Tb
open PySem PySem.Spec PyProof.Rows L2
section
variable {K : PySem.W.Frag} {f TO : Addr} {oc kV dc pm cd ct ot : Value} {od an oo : Option Addr} {sl ss : Array (Option Value)} {nn : Nat}
theorem funD_mk {x qual : Str} {st : Stmt} {dvs : List V} {its : List Value} (l : K.lookup f = some ⟨oc, od, .func (PySem.W.fnOf x qual (defArgs st) (defBody st) (defScope st) (.ref TO) kV dc pm an cd ct), sl⟩) (c : PySem.W.codeIn K cd qual = true) (k : PySem.W.keepIn K (.ref f) = true)
    (t : K.lookup TO = some ⟨ot, oo, .seq its.toArray nn, ss⟩) (r : Vals dvs its) (hd : dvs ≠ []) : FunDf K x qual st dvs f (PySem.W.fnOf x qual (defArgs st) (defBody st) (defScope st) (.ref TO) kV dc pm an cd ct) :=
  ⟨⟨oc, od, .ref TO, kV, dc, pm, an, cd, ct, sl, rfl, l, c, .inr ⟨hd, TO, _, its, nn, rfl, t, rfl, r⟩, .inl rfl⟩, k⟩
theorem bindsP {fd : FuncData} (F : FunDf K "origin_paper" "origin_paper" sOPaper [.int 50] f fd) : (∃ ds, Vals [V.int 50] ds ∧ Binds K fd ["good", "share"] ds) ∧ Binds K fd ["good", "share"] [] := by
  constructor
  · exact F.binds1 (ps := ["good", "share"]) 1 0 (List.cons_ne_nil _ _) rfl fun T kV doc pm an cdv ct us its hu hi => match us, its, hu, hi with
      | [_], [_], _, _ => ⟨_, rfl, rfl⟩
  · obtain ⟨ds, v, b⟩ := F.binds1 (ps := ["good", "share"]) 2 1 (List.cons_ne_nil _ _) rfl fun T kV doc pm an cdv ct us its hu hi => match us, its, hu, hi with
      | [_, _], [_], _, _ => ⟨_, rfl, rfl⟩
    cases v
    exact b
theorem bindsG {fd : FuncData} {t0 : Addr} (F : FunDf K "__init__" "Good.__init__" sGInit [.ref t0] f fd) : (∃ ds, Vals [V.ref t0] ds ∧ Binds K fd psGood ds) ∧ Binds K fd psGood [] := by
  constructor
  · exact F.binds1 (ps := psGood) 4 0 (List.cons_ne_nil _ _) rfl fun T kV doc pm an cdv ct us its hu hi => match us, its, hu, hi with
      | [_, _, _, _], [_], _, _ => ⟨_, rfl, rfl⟩
  · obtain ⟨ds, v, b⟩ := F.binds1 (ps := psGood) 5 1 (List.cons_ne_nil _ _) rfl fun T kV doc pm an cdv ct us its hu hi => match us, its, hu, hi with
      | [_, _, _, _, _], [_], _, _ => ⟨_, rfl, rfl⟩
    cases v
    exact b
end
end Tb
set_option maxHeartbeats 0
namespace Tb
open PySem PySem.Spec PyProof.Rows L2
theorem cls_some {K : PySem.W.Frag} {C : Addr} (h : PySem.W.hasDictIn K C = true) : (PySem.W.clsIn K C).isSome = true := by
  obtain ⟨cd, hc, _⟩ := PySem.W.any_some h
  rw [hc]
  rfl
theorem kit_refC {K : PySem.W.Frag} {t : Value} {C : Addr} {b : Bool} (hd : PySem.W.hasDictIn K C = true) (ht : PySem.W.typeIn K (.ref C) = some (.type "type")) (hs : PySem.W.subIn K t (.ref C) = some b) : PySem.W.kitCls K t (.ref C) = some b := by
  have e2 : ((PySem.W.clsIn K C).isSome && PySem.W.typeIn K (.ref C) == some (.type "type")) = true := by rw [cls_some hd, ht]; rfl
  show (if ((PySem.W.clsIn K C).isSome && PySem.W.typeIn K (.ref C) == some (.type "type")) = true then PySem.W.subIn K t (.ref C) else none) = some b
  rw [if_pos e2]
  exact hs
theorem kit_tyC {K : PySem.W.Frag} {t : Value} {T : String} {b : Bool} (hT : PySem.W.kitMeta T = true) (hs : PySem.W.subIn K t (.type T) = some b) : PySem.W.kitCls K t (.type T) = some b := by
  show (if PySem.W.kitMeta T = true then PySem.W.subIn K t (.type T) else none) = some b
  rw [if_pos hT]
  exact hs
theorem kit_t {K : PySem.W.Frag} {t c : Value} (h : PySem.W.kitCls K t c = some true) : PySem.W.kitOne K t c = some true := by
  unfold PySem.W.kitOne
  by_cases e : (t == c) = true
  · rw [if_pos e]
  · rw [if_neg e]
    exact h
theorem kit_f {K : PySem.W.Frag} {t c : Value} (e : (t == c) = false) (h : PySem.W.kitCls K t c = some false) : PySem.W.kitOne K t c = some false := by
  unfold PySem.W.kitOne
  rw [if_neg (by rw [e]; exact Bool.false_ne_true)]
  exact h
theorem kit_nil {K : PySem.W.Frag} {t : Value} : PySem.W.kitAny K t [] = some false := rfl
theorem kit_no {K : PySem.W.Frag} {t c : Value} {r : List Value} (h : PySem.W.kitOne K t c = some false) (hr : PySem.W.kitAny K t r = some false) : PySem.W.kitAny K t (c :: r) = some false := by
  show (match PySem.W.kitOne K t c with | some true => some true | some false => PySem.W.kitAny K t r | none => none) = some false
  rw [h]
  exact hr
theorem all_mk {l : PySem.W.OpenLaw} {w : World} {K : PySem.W.Frag} {h : Heap} {mg : Str → Option Value} {fa f1 f2 f3 f4 f5 f6 f7 f8 f9 f10 f11 f12 f13 f14 f15 f16 f17 f18 f19 f20 f21 f22 f23 f24 f25 f26 f27 f28 f29 f30 f31 f32 f33 f34 f35 f36 f37 f38 f39 f40 f41 CI mI CP Co0 Co1 Co2 Co3 Co4 Co5 Co6 fOP TOP C pGw mGw mGI t0 TGI CT mTI KD pTR mTR mTr mTo mTa CQ t1 mQI KQ pQw mQw pQd mQd : Addr} (X : K.In h) (G : h.Ns mainGlobals mg) (hfa : mg "law" = some (.ref fa))
    {od1 an1 od2 an2 od3 an3 od4 an4 od5 an5 od6 an6 od7 an7 od8 an8 od9 an9 od10 an10 od11 an11 od12 an12 od13 an13 od14 an14 od15 an15 od16 an16 od17 an17 od18 an18 od19 an19 od20 an20 od21 an21 od22 an22 od23 an23 od24 an24 od25 an25 od26 an26 od27 an27 od28 an28 od29 an29 od30 an30 od31 an31 od32 an32 od33 an33 od34 an34 od35 an35 od36 an36 od37 an37 od38 an38 od39 an39 od40 an40 od41 an41 odmI anmI odOP anOP ooOP odmGw anmGw odGI anGI ooGI odTI anTI odmTR anmTR odmTr anmTr odmTo anmTo odmTa anmTa odQI anQI odmQw anmQw odmQd anmQd : Option Addr} {sl1 sl2 sl3 sl4 sl5 sl6 sl7 sl8 sl9 sl10 sl11 sl12 sl13 sl14 sl15 sl16 sl17 sl18 sl19 sl20 sl21 sl22 sl23 sl24 sl25 sl26 sl27 sl28 sl29 sl30 sl31 sl32 sl33 sl34 sl35 sl36 sl37 sl38 sl39 sl40 sl41 slmI slOP ssOP slmGw slGI ssGI slTI slmTR slmTr slmTo slmTa slQI slmQw slmQd : Array (Option Value)} {oc1 kV1 dc1 pm1 cd1 ct1 oc2 kV2 dc2 pm2 cd2 ct2 oc3 kV3 dc3 pm3 cd3 ct3 oc4 kV4 dc4 pm4 cd4 ct4 oc5 kV5 dc5 pm5 cd5 ct5 oc6 kV6 dc6 pm6 cd6 ct6 oc7 kV7 dc7 pm7 cd7 ct7 oc8 kV8 dc8 pm8 cd8 ct8 oc9 kV9 dc9 pm9 cd9 ct9 oc10 kV10 dc10 pm10 cd10 ct10 oc11 kV11 dc11 pm11 cd11 ct11 oc12 kV12 dc12 pm12 cd12 ct12 oc13 kV13 dc13 pm13 cd13 ct13 oc14 kV14 dc14 pm14 cd14 ct14 oc15 kV15 dc15 pm15 cd15 ct15 oc16 kV16 dc16 pm16 cd16 ct16 oc17 kV17 dc17 pm17 cd17 ct17 oc18 kV18 dc18 pm18 cd18 ct18 oc19 kV19 dc19 pm19 cd19 ct19 oc20 kV20 dc20 pm20 cd20 ct20 oc21 kV21 dc21 pm21 cd21 ct21 oc22 kV22 dc22 pm22 cd22 ct22 oc23 kV23 dc23 pm23 cd23 ct23 oc24 kV24 dc24 pm24 cd24 ct24 oc25 kV25 dc25 pm25 cd25 ct25 oc26 kV26 dc26 pm26 cd26 ct26 oc27 kV27 dc27 pm27 cd27 ct27 oc28 kV28 dc28 pm28 cd28 ct28 oc29 kV29 dc29 pm29 cd29 ct29 oc30 kV30 dc30 pm30 cd30 ct30 oc31 kV31 dc31 pm31 cd31 ct31 oc32 kV32 dc32 pm32 cd32 ct32 oc33 kV33 dc33 pm33 cd33 ct33 oc34 kV34 dc34 pm34 cd34 ct34 oc35 kV35 dc35 pm35 cd35 ct35 oc36 kV36 dc36 pm36 cd36 ct36 oc37 kV37 dc37 pm37 cd37 ct37 oc38 kV38 dc38 pm38 cd38 ct38 oc39 kV39 dc39 pm39 cd39 ct39 oc40 kV40 dc40 pm40 cd40 ct40 oc41 kV41 dc41 pm41 cd41 ct41 ocmI kVmI dcmI pmmI cdmI ctmI ocOP kVOP dcOP pmOP cdOP ctOP otOP ocmGw kVmGw dcmGw pmmGw cdmGw ctmGw ocGI kVGI dcGI pmGI cdGI ctGI otGI ocTI dcTI pmTI cdTI ctTI ocmTR kVmTR dcmTR pmmTR cdmTR ctmTR ocmTr kVmTr dcmTr pmmTr cdmTr ctmTr ocmTo kVmTo dcmTo pmmTo cdmTo ctmTo ocmTa kVmTa dcmTa pmmTa cdmTa ctmTa ocQI dcQI pmQI cdQI ctQI ocmQw kVmQw dcmQw pmmQw cdmQw ctmQw ocmQd kVmQd dcmQd pmmQd cdmQd ctmQd : Value}
    {tDG tLT tHR tDY tk0 tk1 tq1 tq3 tq4 tkO : Tok}
    {nmI qI} {NI} {bsI} {bmI} {snI} {subI} {abI} {colI} {ddI} {k0I} {k1I} {k2I} {k3I} {k5I}
    {nnOP : Nat}
    {restGw : List Value}
    {d00 d01 : Option Addr} {n00 n01 : Nat} {s00 s01 : Array (Option Value)}
    {nnGI : Nat}
    {restTR : List Value}
    {restQw : List Value}
    {restQd : List Value}
    (a1 : PySem.W.nsIn K mainGlobals "made_of" = some (some (.ref f1)))
    (l1 : K.lookup f1 = some ⟨oc1, od1, .func (PySem.W.fnOf "made_of" "made_of" (defArgs sMade) (defBody sMade) (defScope sMade) .none kV1 dc1 pm1 an1 cd1 ct1), sl1⟩)
    (c1 : PySem.W.codeIn K cd1 "made_of" = true)
    (k1 : PySem.W.keepIn K (.ref f1) = true)
    (a2 : PySem.W.nsIn K mainGlobals "spells_address" = some (some (.ref f2)))
    (l2 : K.lookup f2 = some ⟨oc2, od2, .func (PySem.W.fnOf "spells_address" "spells_address" (defArgs sSpells) (defBody sSpells) (defScope sSpells) .none kV2 dc2 pm2 an2 cd2 ct2), sl2⟩)
    (c2 : PySem.W.codeIn K cd2 "spells_address" = true)
    (k2 : PySem.W.keepIn K (.ref f2) = true)
    (a3 : PySem.W.nsIn K mainGlobals "is_name" = some (some (.ref f3)))
    (l3 : K.lookup f3 = some ⟨oc3, od3, .func (PySem.W.fnOf "is_name" "is_name" (defArgs sIsName) (defBody sIsName) (defScope sIsName) .none kV3 dc3 pm3 an3 cd3 ct3), sl3⟩)
    (c3 : PySem.W.codeIn K cd3 "is_name" = true)
    (k3 : PySem.W.keepIn K (.ref f3) = true)
    (a4 : PySem.W.nsIn K mainGlobals "is_address" = some (some (.ref f4)))
    (l4 : K.lookup f4 = some ⟨oc4, od4, .func (PySem.W.fnOf "is_address" "is_address" (defArgs sIsAddr) (defBody sIsAddr) (defScope sIsAddr) .none kV4 dc4 pm4 an4 cd4 ct4), sl4⟩)
    (c4 : PySem.W.codeIn K cd4 "is_address" = true)
    (k4 : PySem.W.keepIn K (.ref f4) = true)
    (a5 : PySem.W.nsIn K mainGlobals "_ruling" = some (some (.ref f5)))
    (l5 : K.lookup f5 = some ⟨oc5, od5, .func (PySem.W.fnOf "_ruling" "_ruling" (defArgs sRuling) (defBody sRuling) (defScope sRuling) .none kV5 dc5 pm5 an5 cd5 ct5), sl5⟩)
    (c5 : PySem.W.codeIn K cd5 "_ruling" = true)
    (k5 : PySem.W.keepIn K (.ref f5) = true)
    (a6 : PySem.W.nsIn K mainGlobals "_is_row" = some (some (.ref f6)))
    (l6 : K.lookup f6 = some ⟨oc6, od6, .func (PySem.W.fnOf "_is_row" "_is_row" (defArgs sIsRow) (defBody sIsRow) (defScope sIsRow) .none kV6 dc6 pm6 an6 cd6 ct6), sl6⟩)
    (c6 : PySem.W.codeIn K cd6 "_is_row" = true)
    (k6 : PySem.W.keepIn K (.ref f6) = true)
    (a7 : PySem.W.nsIn K mainGlobals "clears" = some (some (.ref f7)))
    (l7 : K.lookup f7 = some ⟨oc7, od7, .func (PySem.W.fnOf "clears" "clears" (defArgs sClears) (defBody sClears) (defScope sClears) .none kV7 dc7 pm7 an7 cd7 ct7), sl7⟩)
    (c7 : PySem.W.codeIn K cd7 "clears" = true)
    (k7 : PySem.W.keepIn K (.ref f7) = true)
    (a8 : PySem.W.nsIn K mainGlobals "_law_cell" = some (some (.ref f8)))
    (l8 : K.lookup f8 = some ⟨oc8, od8, .func (PySem.W.fnOf "_law_cell" "_law_cell" (defArgs sCell) (defBody sCell) (defScope sCell) .none kV8 dc8 pm8 an8 cd8 ct8), sl8⟩)
    (c8 : PySem.W.codeIn K cd8 "_law_cell" = true)
    (k8 : PySem.W.keepIn K (.ref f8) = true)
    (a9 : PySem.W.nsIn K mainGlobals "_law_box" = some (some (.ref f9)))
    (l9 : K.lookup f9 = some ⟨oc9, od9, .func (PySem.W.fnOf "_law_box" "_law_box" (defArgs sBox) (defBody sBox) (defScope sBox) .none kV9 dc9 pm9 an9 cd9 ct9), sl9⟩)
    (c9 : PySem.W.codeIn K cd9 "_law_box" = true)
    (k9 : PySem.W.keepIn K (.ref f9) = true)
    (a10 : PySem.W.nsIn K mainGlobals "_law_draw" = some (some (.ref f10)))
    (l10 : K.lookup f10 = some ⟨oc10, od10, .func (PySem.W.fnOf "_law_draw" "_law_draw" (defArgs sDraw) (defBody sDraw) (defScope sDraw) .none kV10 dc10 pm10 an10 cd10 ct10), sl10⟩)
    (c10 : PySem.W.codeIn K cd10 "_law_draw" = true)
    (k10 : PySem.W.keepIn K (.ref f10) = true)
    (a11 : PySem.W.nsIn K mainGlobals "_law_digits" = some (some (.ref f11)))
    (l11 : K.lookup f11 = some ⟨oc11, od11, .func (PySem.W.fnOf "_law_digits" "_law_digits" (defArgs sDigits) (defBody sDigits) (defScope sDigits) .none kV11 dc11 pm11 an11 cd11 ct11), sl11⟩)
    (c11 : PySem.W.codeIn K cd11 "_law_digits" = true)
    (k11 : PySem.W.keepIn K (.ref f11) = true)
    (a12 : PySem.W.nsIn K mainGlobals "_law_name" = some (some (.ref f12)))
    (l12 : K.lookup f12 = some ⟨oc12, od12, .func (PySem.W.fnOf "_law_name" "_law_name" (defArgs sName) (defBody sName) (defScope sName) .none kV12 dc12 pm12 an12 cd12 ct12), sl12⟩)
    (c12 : PySem.W.codeIn K cd12 "_law_name" = true)
    (k12 : PySem.W.keepIn K (.ref f12) = true)
    (a13 : PySem.W.nsIn K mainGlobals "_law_sign" = some (some (.ref f13)))
    (l13 : K.lookup f13 = some ⟨oc13, od13, .func (PySem.W.fnOf "_law_sign" "_law_sign" (defArgs sSign) (defBody sSign) (defScope sSign) .none kV13 dc13 pm13 an13 cd13 ct13), sl13⟩)
    (c13 : PySem.W.codeIn K cd13 "_law_sign" = true)
    (k13 : PySem.W.keepIn K (.ref f13) = true)
    (a14 : PySem.W.nsIn K mainGlobals "_law_amount" = some (some (.ref f14)))
    (l14 : K.lookup f14 = some ⟨oc14, od14, .func (PySem.W.fnOf "_law_amount" "_law_amount" (defArgs sAmount) (defBody sAmount) (defScope sAmount) .none kV14 dc14 pm14 an14 cd14 ct14), sl14⟩)
    (c14 : PySem.W.codeIn K cd14 "_law_amount" = true)
    (k14 : PySem.W.keepIn K (.ref f14) = true)
    (a15 : PySem.W.nsIn K mainGlobals "_law_beyond" = some (some (.ref f15)))
    (l15 : K.lookup f15 = some ⟨oc15, od15, .func (PySem.W.fnOf "_law_beyond" "_law_beyond" (defArgs sBeyond) (defBody sBeyond) (defScope sBeyond) .none kV15 dc15 pm15 an15 cd15 ct15), sl15⟩)
    (c15 : PySem.W.codeIn K cd15 "_law_beyond" = true)
    (k15 : PySem.W.keepIn K (.ref f15) = true)
    (a16 : PySem.W.nsIn K mainGlobals "_law_heading" = some (some (.ref f16)))
    (l16 : K.lookup f16 = some ⟨oc16, od16, .func (PySem.W.fnOf "_law_heading" "_law_heading" (defArgs sHeading) (defBody sHeading) (defScope sHeading) .none kV16 dc16 pm16 an16 cd16 ct16), sl16⟩)
    (c16 : PySem.W.codeIn K cd16 "_law_heading" = true)
    (k16 : PySem.W.keepIn K (.ref f16) = true)
    (a17 : PySem.W.nsIn K mainGlobals "_law_bad_name" = some (some (.ref f17)))
    (l17 : K.lookup f17 = some ⟨oc17, od17, .func (PySem.W.fnOf "_law_bad_name" "_law_bad_name" (defArgs sBadN) (defBody sBadN) (defScope sBadN) .none kV17 dc17 pm17 an17 cd17 ct17), sl17⟩)
    (c17 : PySem.W.codeIn K cd17 "_law_bad_name" = true)
    (k17 : PySem.W.keepIn K (.ref f17) = true)
    (a18 : PySem.W.nsIn K mainGlobals "_law_bad_address" = some (some (.ref f18)))
    (l18 : K.lookup f18 = some ⟨oc18, od18, .func (PySem.W.fnOf "_law_bad_address" "_law_bad_address" (defArgs sBadA) (defBody sBadA) (defScope sBadA) .none kV18 dc18 pm18 an18 cd18 ct18), sl18⟩)
    (c18 : PySem.W.codeIn K cd18 "_law_bad_address" = true)
    (k18 : PySem.W.keepIn K (.ref f18) = true)
    (a19 : PySem.W.nsIn K mainGlobals "_law_node" = some (some (.ref f19)))
    (l19 : K.lookup f19 = some ⟨oc19, od19, .func (PySem.W.fnOf "_law_node" "_law_node" (defArgs sNode) (defBody sNode) (defScope sNode) .none kV19 dc19 pm19 an19 cd19 ct19), sl19⟩)
    (c19 : PySem.W.codeIn K cd19 "_law_node" = true)
    (k19 : PySem.W.keepIn K (.ref f19) = true)
    (a20 : PySem.W.nsIn K mainGlobals "_law_rows" = some (some (.ref f20)))
    (l20 : K.lookup f20 = some ⟨oc20, od20, .func (PySem.W.fnOf "_law_rows" "_law_rows" (defArgs sLRows) (defBody sLRows) (defScope sLRows) .none kV20 dc20 pm20 an20 cd20 ct20), sl20⟩)
    (c20 : PySem.W.codeIn K cd20 "_law_rows" = true)
    (k20 : PySem.W.keepIn K (.ref f20) = true)
    (a21 : PySem.W.nsIn K mainGlobals "_law_rate" = some (some (.ref f21)))
    (l21 : K.lookup f21 = some ⟨oc21, od21, .func (PySem.W.fnOf "_law_rate" "_law_rate" (defArgs sLRate) (defBody sLRate) (defScope sLRate) .none kV21 dc21 pm21 an21 cd21 ct21), sl21⟩)
    (c21 : PySem.W.codeIn K cd21 "_law_rate" = true)
    (k21 : PySem.W.keepIn K (.ref f21) = true)
    (a22 : PySem.W.nsIn K mainGlobals "_law_origin" = some (some (.ref f22)))
    (l22 : K.lookup f22 = some ⟨oc22, od22, .func (PySem.W.fnOf "_law_origin" "_law_origin" (defArgs sLOrig) (defBody sLOrig) (defScope sLOrig) .none kV22 dc22 pm22 an22 cd22 ct22), sl22⟩)
    (c22 : PySem.W.codeIn K cd22 "_law_origin" = true)
    (k22 : PySem.W.keepIn K (.ref f22) = true)
    (a23 : PySem.W.nsIn K mainGlobals "_law_let_in" = some (some (.ref f23)))
    (l23 : K.lookup f23 = some ⟨oc23, od23, .func (PySem.W.fnOf "_law_let_in" "_law_let_in" (defArgs sLetIn) (defBody sLetIn) (defScope sLetIn) .none kV23 dc23 pm23 an23 cd23 ct23), sl23⟩)
    (c23 : PySem.W.codeIn K cd23 "_law_let_in" = true)
    (k23 : PySem.W.keepIn K (.ref f23) = true)
    (a24 : PySem.W.nsIn K mainGlobals "_law_is" = some (some (.ref f24)))
    (l24 : K.lookup f24 = some ⟨oc24, od24, .func (PySem.W.fnOf "_law_is" "_law_is" (defArgs sLIs) (defBody sLIs) (defScope sLIs) .none kV24 dc24 pm24 an24 cd24 ct24), sl24⟩)
    (c24 : PySem.W.codeIn K cd24 "_law_is" = true)
    (k24 : PySem.W.keepIn K (.ref f24) = true)
    (a25 : PySem.W.nsIn K mainGlobals "_law_good_is" = some (some (.ref f25)))
    (l25 : K.lookup f25 = some ⟨oc25, od25, .func (PySem.W.fnOf "_law_good_is" "_law_good_is" (defArgs sGoodIs) (defBody sGoodIs) (defScope sGoodIs) .none kV25 dc25 pm25 an25 cd25 ct25), sl25⟩)
    (c25 : PySem.W.codeIn K cd25 "_law_good_is" = true)
    (k25 : PySem.W.keepIn K (.ref f25) = true)
    (a26 : PySem.W.nsIn K mainGlobals "_law_made" = some (some (.ref f26)))
    (l26 : K.lookup f26 = some ⟨oc26, od26, .func (PySem.W.fnOf "_law_made" "_law_made" (defArgs sLMade) (defBody sLMade) (defScope sLMade) .none kV26 dc26 pm26 an26 cd26 ct26), sl26⟩)
    (c26 : PySem.W.codeIn K cd26 "_law_made" = true)
    (k26 : PySem.W.keepIn K (.ref f26) = true)
    (a27 : PySem.W.nsIn K mainGlobals "_law_good_refused" = some (some (.ref f27)))
    (l27 : K.lookup f27 = some ⟨oc27, od27, .func (PySem.W.fnOf "_law_good_refused" "_law_good_refused" (defArgs sGRef) (defBody sGRef) (defScope sGRef) .none kV27 dc27 pm27 an27 cd27 ct27), sl27⟩)
    (c27 : PySem.W.codeIn K cd27 "_law_good_refused" = true)
    (k27 : PySem.W.keepIn K (.ref f27) = true)
    (a28 : PySem.W.nsIn K mainGlobals "_law_goods_hold" = some (some (.ref f28)))
    (l28 : K.lookup f28 = some ⟨oc28, od28, .func (PySem.W.fnOf "_law_goods_hold" "_law_goods_hold" (defArgs sGHold) (defBody sGHold) (defScope sGHold) .none kV28 dc28 pm28 an28 cd28 ct28), sl28⟩)
    (c28 : PySem.W.codeIn K cd28 "_law_goods_hold" = true)
    (k28 : PySem.W.keepIn K (.ref f28) = true)
    (a29 : PySem.W.nsIn K mainGlobals "_law_tariff_refused" = some (some (.ref f29)))
    (l29 : K.lookup f29 = some ⟨oc29, od29, .func (PySem.W.fnOf "_law_tariff_refused" "_law_tariff_refused" (defArgs sTRef) (defBody sTRef) (defScope sTRef) .none kV29 dc29 pm29 an29 cd29 ct29), sl29⟩)
    (c29 : PySem.W.codeIn K cd29 "_law_tariff_refused" = true)
    (k29 : PySem.W.keepIn K (.ref f29) = true)
    (a30 : PySem.W.nsIn K mainGlobals "_law_tariff_is" = some (some (.ref f30)))
    (l30 : K.lookup f30 = some ⟨oc30, od30, .func (PySem.W.fnOf "_law_tariff_is" "_law_tariff_is" (defArgs sTariffIs) (defBody sTariffIs) (defScope sTariffIs) .none kV30 dc30 pm30 an30 cd30 ct30), sl30⟩)
    (c30 : PySem.W.codeIn K cd30 "_law_tariff_is" = true)
    (k30 : PySem.W.keepIn K (.ref f30) = true)
    (a31 : PySem.W.nsIn K mainGlobals "_law_tariffs_hold" = some (some (.ref f31)))
    (l31 : K.lookup f31 = some ⟨oc31, od31, .func (PySem.W.fnOf "_law_tariffs_hold" "_law_tariffs_hold" (defArgs sTHold) (defBody sTHold) (defScope sTHold) .none kV31 dc31 pm31 an31 cd31 ct31), sl31⟩)
    (c31 : PySem.W.codeIn K cd31 "_law_tariffs_hold" = true)
    (k31 : PySem.W.keepIn K (.ref f31) = true)
    (a32 : PySem.W.nsIn K mainGlobals "_law_parcel" = some (some (.ref f32)))
    (l32 : K.lookup f32 = some ⟨oc32, od32, .func (PySem.W.fnOf "_law_parcel" "_law_parcel" (defArgs sLParcel) (defBody sLParcel) (defScope sLParcel) .none kV32 dc32 pm32 an32 cd32 ct32), sl32⟩)
    (c32 : PySem.W.codeIn K cd32 "_law_parcel" = true)
    (k32 : PySem.W.keepIn K (.ref f32) = true)
    (a33 : PySem.W.nsIn K mainGlobals "_law_parcel_refused" = some (some (.ref f33)))
    (l33 : K.lookup f33 = some ⟨oc33, od33, .func (PySem.W.fnOf "_law_parcel_refused" "_law_parcel_refused" (defArgs sPRef) (defBody sPRef) (defScope sPRef) .none kV33 dc33 pm33 an33 cd33 ct33), sl33⟩)
    (c33 : PySem.W.codeIn K cd33 "_law_parcel_refused" = true)
    (k33 : PySem.W.keepIn K (.ref f33) = true)
    (a34 : PySem.W.nsIn K mainGlobals "_law_says" = some (some (.ref f34)))
    (l34 : K.lookup f34 = some ⟨oc34, od34, .func (PySem.W.fnOf "_law_says" "_law_says" (defArgs sSays) (defBody sSays) (defScope sSays) .none kV34 dc34 pm34 an34 cd34 ct34), sl34⟩)
    (c34 : PySem.W.codeIn K cd34 "_law_says" = true)
    (k34 : PySem.W.keepIn K (.ref f34) = true)
    (a35 : PySem.W.nsIn K mainGlobals "_law_parcel_is" = some (some (.ref f35)))
    (l35 : K.lookup f35 = some ⟨oc35, od35, .func (PySem.W.fnOf "_law_parcel_is" "_law_parcel_is" (defArgs sParcelIs) (defBody sParcelIs) (defScope sParcelIs) .none kV35 dc35 pm35 an35 cd35 ct35), sl35⟩)
    (c35 : PySem.W.codeIn K cd35 "_law_parcel_is" = true)
    (k35 : PySem.W.keepIn K (.ref f35) = true)
    (a36 : PySem.W.nsIn K mainGlobals "_law_values" = some (some (.ref f36)))
    (l36 : K.lookup f36 = some ⟨oc36, od36, .func (PySem.W.fnOf "_law_values" "_law_values" (defArgs sValues) (defBody sValues) (defScope sValues) .none kV36 dc36 pm36 an36 cd36 ct36), sl36⟩)
    (c36 : PySem.W.codeIn K cd36 "_law_values" = true)
    (k36 : PySem.W.keepIn K (.ref f36) = true)
    (a37 : PySem.W.nsIn K mainGlobals "_law_admits_hold" = some (some (.ref f37)))
    (l37 : K.lookup f37 = some ⟨oc37, od37, .func (PySem.W.fnOf "_law_admits_hold" "_law_admits_hold" (defArgs sAHold) (defBody sAHold) (defScope sAHold) .none kV37 dc37 pm37 an37 cd37 ct37), sl37⟩)
    (c37 : PySem.W.codeIn K cd37 "_law_admits_hold" = true)
    (k37 : PySem.W.keepIn K (.ref f37) = true)
    (a38 : PySem.W.nsIn K mainGlobals "_law_parcels_hold" = some (some (.ref f38)))
    (l38 : K.lookup f38 = some ⟨oc38, od38, .func (PySem.W.fnOf "_law_parcels_hold" "_law_parcels_hold" (defArgs sPHold) (defBody sPHold) (defScope sPHold) .none kV38 dc38 pm38 an38 cd38 ct38), sl38⟩)
    (c38 : PySem.W.codeIn K cd38 "_law_parcels_hold" = true)
    (k38 : PySem.W.keepIn K (.ref f38) = true)
    (a39 : PySem.W.nsIn K mainGlobals "_law_shut_out" = some (some (.ref f39)))
    (l39 : K.lookup f39 = some ⟨oc39, od39, .func (PySem.W.fnOf "_law_shut_out" "_law_shut_out" (defArgs sShutOut) (defBody sShutOut) (defScope sShutOut) .none kV39 dc39 pm39 an39 cd39 ct39), sl39⟩)
    (c39 : PySem.W.codeIn K cd39 "_law_shut_out" = true)
    (k39 : PySem.W.keepIn K (.ref f39) = true)
    (a40 : PySem.W.nsIn K mainGlobals "_law_clears_hold" = some (some (.ref f40)))
    (l40 : K.lookup f40 = some ⟨oc40, od40, .func (PySem.W.fnOf "_law_clears_hold" "_law_clears_hold" (defArgs sCHold) (defBody sCHold) (defScope sCHold) .none kV40 dc40 pm40 an40 cd40 ct40), sl40⟩)
    (c40 : PySem.W.codeIn K cd40 "_law_clears_hold" = true)
    (k40 : PySem.W.keepIn K (.ref f40) = true)
    (a41 : PySem.W.nsIn K mainGlobals "law" = some (some (.ref f41)))
    (l41 : K.lookup f41 = some ⟨oc41, od41, .func (PySem.W.fnOf "law" "law" (defArgs sLaw) (defBody sLaw) (defScope sLaw) .none kV41 dc41 pm41 an41 cd41 ct41), sl41⟩)
    (c41 : PySem.W.codeIn K cd41 "law" = true)
    (k41 : PySem.W.keepIn K (.ref f41) = true)
    (z_len : PySem.W.nsIn K mainGlobals "len" = some none)
    (z_int : PySem.W.nsIn K mainGlobals "int" = some none)
    (z_str : PySem.W.nsIn K mainGlobals "str" = some none)
    (z_list : PySem.W.nsIn K mainGlobals "list" = some none)
    (z_tuple : PySem.W.nsIn K mainGlobals "tuple" = some none)
    (z_dict : PySem.W.nsIn K mainGlobals "dict" = some none)
    (z_bool : PySem.W.nsIn K mainGlobals "bool" = some none)
    (z_range : PySem.W.nsIn K mainGlobals "range" = some none)
    (z_sorted : PySem.W.nsIn K mainGlobals "sorted" = some none)
    (z_all : PySem.W.nsIn K mainGlobals "all" = some none)
    (z_isinstance : PySem.W.nsIn K mainGlobals "isinstance" = some none)
    (z_sum : PySem.W.nsIn K mainGlobals "sum" = some none)
    (z_set : PySem.W.nsIn K mainGlobals "set" = some none)
    (z_zip : PySem.W.nsIn K mainGlobals "zip" = some none)
    (z_max : PySem.W.nsIn K mainGlobals "max" = some none)
    (z_min : PySem.W.nsIn K mainGlobals "min" = some none)
    (z_ValueError : PySem.W.nsIn K mainGlobals "ValueError" = some none)
    (oHn : PySem.W.specialIn K (.builtin "object.__class__") "__get__" = some (some (.builtin "getset_descriptor.__get__")))
    (oTk : PySem.W.takesIn K (.builtin "object.__class__") = some true)
    (gDG : PySem.W.nsIn K mainGlobals "DIGITS" = some (some (.str ("0123456789" : String) tDG)))
    (gLT : PySem.W.nsIn K mainGlobals "LETTERS" = some (some (.str ("abcdefghijklmnopqrstuvwxyz" : String) tLT)))
    (gHR : PySem.W.nsIn K mainGlobals "ANY" = some (some (.str ("" : String) tHR)))
    (gBR : PySem.W.nsIn K mainGlobals "BARRED" = some (some .none))
    (gDY : PySem.W.nsIn K mainGlobals "DAY" = some (some (.int 24 tDY)))
    (aIc : PySem.W.nsIn K mainGlobals "Invalid" = some (some (.ref CI)))
    (xIl : K.lookup CI = some (excClassObj nmI qI CI NI bsI bmI true snI subI abI colI ddI k0I k1I k2I k3I k5I "ValueError.__new__"))
    (xIv : PySem.HandSPX.refsVE bmI = true)
    (xIi : PySem.W.findIn K (.ref CI) "__init__" = some (some (.ref mI)))
    (xIs : PySem.W.findIn K (.ref CI) "__setattr__" = some (some (.builtin "object.__setattr__")))
    (xIe : PySem.W.subIn K (.ref CI) (.type "BaseException") = some true)
    (xIt : PySem.W.typeIn K (.ref CI) = some (.type "type"))
    (xIk : PySem.W.keepIn K (.ref CI) = true)
    (xIg : PySem.W.findIn K (.ref CI) "__getattribute__" = some (some (.builtin "BaseException.__getattribute__")))
    (xIa : PySem.W.findIn K (.ref CI) "__getattr__" = some none)
    (xIh : PySem.W.hasDictIn K CI = true)
    (xIn : PySem.W.findIn K (.ref CI) "what" = some none)
    (xIy : PySem.W.typeIn K (.ref mI) = some (.type "function"))
    (xIo : PySem.W.findIn K (.ref CI) "__class__" = some (some (.builtin "object.__class__")))
    (xIm : PySem.W.mroIn K CI (.type "object") = some true)
    (lmI : K.lookup mI = some ⟨ocmI, odmI, .func (PySem.W.fnOf "__init__" "Invalid.__init__" (defArgs sInv) (defBody sInv) (defScope sInv) .none kVmI dcmI pmmI anmI cdmI ctmI), slmI⟩)
    (cmI : PySem.W.codeIn K cdmI "Invalid.__init__" = true)
    (kmI : PySem.W.keepIn K (.ref mI) = true)
    (aPc : PySem.W.nsIn K mainGlobals "ParcelError" = some (some (.ref CP)))
    (xPh : PySem.W.hasDictIn K CP = true)
    (xPt : PySem.W.typeIn K (.ref CP) = some (.type "type"))
    (sIP : PySem.W.subIn K (.ref CI) (.ref CP) = some true)
    (sIV : PySem.W.subIn K (.ref CI) (.type "ValueError") = some true)
    (sII : PySem.W.subIn K (.ref CI) (.ref CI) = some true)
    (ao0c : PySem.W.nsIn K mainGlobals "BadLine" = some (some (.ref Co0)))
    (xo0h : PySem.W.hasDictIn K Co0 = true)
    (xo0t : PySem.W.typeIn K (.ref Co0) = some (.type "type"))
    (so0 : PySem.W.subIn K (.ref CI) (.ref Co0) = some false)
    (nso0 : (Value.ref CI == Value.ref Co0) = false)
    (ao1c : PySem.W.nsIn K mainGlobals "BadManifest" = some (some (.ref Co1)))
    (xo1h : PySem.W.hasDictIn K Co1 = true)
    (xo1t : PySem.W.typeIn K (.ref Co1) = some (.type "type"))
    (so1 : PySem.W.subIn K (.ref CI) (.ref Co1) = some false)
    (nso1 : (Value.ref CI == Value.ref Co1) = false)
    (ao2c : PySem.W.nsIn K mainGlobals "Contradiction" = some (some (.ref Co2)))
    (xo2h : PySem.W.hasDictIn K Co2 = true)
    (xo2t : PySem.W.typeIn K (.ref Co2) = some (.type "type"))
    (so2 : PySem.W.subIn K (.ref CI) (.ref Co2) = some false)
    (nso2 : (Value.ref CI == Value.ref Co2) = false)
    (ao3c : PySem.W.nsIn K mainGlobals "Late" = some (some (.ref Co3)))
    (xo3h : PySem.W.hasDictIn K Co3 = true)
    (xo3t : PySem.W.typeIn K (.ref Co3) = some (.type "type"))
    (so3 : PySem.W.subIn K (.ref CI) (.ref Co3) = some false)
    (nso3 : (Value.ref CI == Value.ref Co3) = false)
    (ao4c : PySem.W.nsIn K mainGlobals "Refused" = some (some (.ref Co4)))
    (xo4h : PySem.W.hasDictIn K Co4 = true)
    (xo4t : PySem.W.typeIn K (.ref Co4) = some (.type "type"))
    (so4 : PySem.W.subIn K (.ref CI) (.ref Co4) = some false)
    (nso4 : (Value.ref CI == Value.ref Co4) = false)
    (ao5c : PySem.W.nsIn K mainGlobals "TooMany" = some (some (.ref Co5)))
    (xo5h : PySem.W.hasDictIn K Co5 = true)
    (xo5t : PySem.W.typeIn K (.ref Co5) = some (.type "type"))
    (so5 : PySem.W.subIn K (.ref CI) (.ref Co5) = some false)
    (nso5 : (Value.ref CI == Value.ref Co5) = false)
    (ao6c : PySem.W.nsIn K mainGlobals "Unknown" = some (some (.ref Co6)))
    (xo6h : PySem.W.hasDictIn K Co6 = true)
    (xo6t : PySem.W.typeIn K (.ref Co6) = some (.type "type"))
    (so6 : PySem.W.subIn K (.ref CI) (.ref Co6) = some false)
    (nso6 : (Value.ref CI == Value.ref Co6) = false)
    (aOP : PySem.W.nsIn K mainGlobals "origin_paper" = some (some (.ref fOP)))
    (lOP : K.lookup fOP = some ⟨ocOP, odOP, .func (PySem.W.fnOf "origin_paper" "origin_paper" (defArgs sOPaper) (defBody sOPaper) (defScope sOPaper) (.ref TOP) kVOP dcOP pmOP anOP cdOP ctOP), slOP⟩)
    (cOP : PySem.W.codeIn K cdOP "origin_paper" = true)
    (kOP : PySem.W.keepIn K (.ref fOP) = true)
    (tOP : K.lookup TOP = some ⟨otOP, ooOP, .seq #[.int 50 tkO] nnOP, ssOP⟩)
    (hG : PySem.W.nsIn K mainGlobals "Good" = some (some (.ref C)))
    (hPg : PySem.W.plainGet K C Str.empty = true)
    (hHd : PySem.W.hasDictIn K C = true)
    (hPo : PySem.W.plainOver K C = true)
    (hSa : PySem.W.findIn K (.ref C) "__setattr__" = some (some (.builtin "object.__setattr__")))
    (hN0 : PySem.W.findIn K (.ref C) "heading" = some none)
    (hN1 : PySem.W.findIn K (.ref C) "land" = some none)
    (hN2 : PySem.W.findIn K (.ref C) "parts" = some none)
    (hN3 : PySem.W.findIn K (.ref C) "chapter" = some none)
    (hN4 : PySem.W.findIn K (.ref C) "_worth" = some none)
    (hMk : PySem.W.makesIn K C = true)
    (hKp : PySem.W.keepIn K (.ref C) = true)
    (hGw : PySem.W.findIn K (.ref C) "worth" = some (some (.ref pGw)))
    (hGwg : PySem.W.specialIn K (.ref pGw) "__get__" = some (some (.builtin "property.__get__")))
    (hGwt : PySem.W.takesIn K (.ref pGw) = some true)
    (hGwr : PySem.W.recIn K pGw "property" = some (.ref mGw :: restGw))
    (lmGw : K.lookup mGw = some ⟨ocmGw, odmGw, .func (PySem.W.fnOf "worth" "Good.worth" (defArgs sGoodWorth) (defBody sGoodWorth) (defScope sGoodWorth) .none kVmGw dcmGw pmmGw anmGw cdmGw ctmGw), slmGw⟩)
    (cmGw : PySem.W.codeIn K cdmGw "Good.worth" = true)
    (kmGw : PySem.W.keepIn K (.ref mGw) = true)
    (hI : PySem.W.findIn K (.ref C) "__init__" = some (some (.ref mGI)))
    (lGI : K.lookup mGI = some ⟨ocGI, odGI, .func (PySem.W.fnOf "__init__" "Good.__init__" (defArgs sGInit) (defBody sGInit) (defScope sGInit) (.ref TGI) kVGI dcGI pmGI anGI cdGI ctGI), slGI⟩)
    (cGI : PySem.W.codeIn K cdGI "Good.__init__" = true)
    (kGI : PySem.W.keepIn K (.ref mGI) = true)
    (tGI : K.lookup TGI = some ⟨otGI, ooGI, .seq #[.ref t0] nnGI, ssGI⟩)
    (hIn : PySem.W.isFn K (.ref mGI) = true)
    (e00 : K.lookup t0 = some ⟨.type "tuple", d00, .seq #[] n00, s00⟩)
    (tG : PySem.W.nsIn K mainGlobals "Tariff" = some (some (.ref CT)))
    (tPg : PySem.W.plainGet K CT Str.empty = true)
    (tHd : PySem.W.hasDictIn K CT = true)
    (tPo : PySem.W.plainOver K CT = true)
    (tSa : PySem.W.findIn K (.ref CT) "__setattr__" = some (some (.builtin "object.__setattr__")))
    (tN0 : PySem.W.findIn K (.ref CT) "land" = some none)
    (tN1 : PySem.W.findIn K (.ref CT) "free" = some none)
    (tN2 : PySem.W.findIn K (.ref CT) "share" = some none)
    (tN3 : PySem.W.findIn K (.ref CT) "_rates" = some none)
    (tMk : PySem.W.makesIn K CT = true)
    (tKp : PySem.W.keepIn K (.ref CT) = true)
    (tI : PySem.W.findIn K (.ref CT) "__init__" = some (some (.ref mTI)))
    (lTI : K.lookup mTI = some ⟨ocTI, odTI, .func (PySem.W.fnOf "__init__" "Tariff.__init__" (defArgs sTInit) (defBody sTInit) (defScope sTInit) .none (.ref KD) dcTI pmTI anTI cdTI ctTI), slTI⟩)
    (cTI : PySem.W.codeIn K cdTI "Tariff.__init__" = true)
    (kTI : PySem.W.keepIn K (.ref mTI) = true)
    (tIn : PySem.W.isFn K (.ref mTI) = true)
    (tD0 : PySem.W.nsIn K KD "free" = some (some (.int 0 tk0)))
    (tD1 : PySem.W.nsIn K KD "share" = some (some (.int 50 tk1)))
    (tTR : PySem.W.findIn K (.ref CT) "rows" = some (some (.ref pTR)))
    (tTRg : PySem.W.specialIn K (.ref pTR) "__get__" = some (some (.builtin "property.__get__")))
    (tTRt : PySem.W.takesIn K (.ref pTR) = some true)
    (tTRr : PySem.W.recIn K pTR "property" = some (.ref mTR :: restTR))
    (lmTR : K.lookup mTR = some ⟨ocmTR, odmTR, .func (PySem.W.fnOf "rows" "Tariff.rows" (defArgs sTRows) (defBody sTRows) (defScope sTRows) .none kVmTR dcmTR pmmTR anmTR cdmTR ctmTR), slmTR⟩)
    (cmTR : PySem.W.codeIn K cdmTR "Tariff.rows" = true)
    (kmTR : PySem.W.keepIn K (.ref mTR) = true)
    (tTr : PySem.W.findIn K (.ref CT) "rate" = some (some (.ref mTr)))
    (lmTr : K.lookup mTr = some ⟨ocmTr, odmTr, .func (PySem.W.fnOf "rate" "Tariff.rate" (defArgs sTRate) (defBody sTRate) (defScope sTRate) .none kVmTr dcmTr pmmTr anmTr cdmTr ctmTr), slmTr⟩)
    (cmTr : PySem.W.codeIn K cdmTr "Tariff.rate" = true)
    (kmTr : PySem.W.keepIn K (.ref mTr) = true)
    (nTr : PySem.W.isFn K (.ref mTr) = true)
    (tTo : PySem.W.findIn K (.ref CT) "_rate_of" = some (some (.ref mTo)))
    (lmTo : K.lookup mTo = some ⟨ocmTo, odmTo, .func (PySem.W.fnOf "_rate_of" "Tariff._rate_of" (defArgs sTRateOf) (defBody sTRateOf) (defScope sTRateOf) .none kVmTo dcmTo pmmTo anmTo cdmTo ctmTo), slmTo⟩)
    (cmTo : PySem.W.codeIn K cdmTo "Tariff._rate_of" = true)
    (kmTo : PySem.W.keepIn K (.ref mTo) = true)
    (nTo : PySem.W.isFn K (.ref mTo) = true)
    (tTa : PySem.W.findIn K (.ref CT) "admits" = some (some (.ref mTa)))
    (lmTa : K.lookup mTa = some ⟨ocmTa, odmTa, .func (PySem.W.fnOf "admits" "Tariff.admits" (defArgs sTAdmits) (defBody sTAdmits) (defScope sTAdmits) .none kVmTa dcmTa pmmTa anmTa cdmTa ctmTa), slmTa⟩)
    (cmTa : PySem.W.codeIn K cdmTa "Tariff.admits" = true)
    (kmTa : PySem.W.keepIn K (.ref mTa) = true)
    (nTa : PySem.W.isFn K (.ref mTa) = true)
    (qG : PySem.W.nsIn K mainGlobals "Parcel" = some (some (.ref CQ)))
    (qPg : PySem.W.plainGet K CQ Str.empty = true)
    (qHd : PySem.W.hasDictIn K CQ = true)
    (qPo : PySem.W.plainOver K CQ = true)
    (qSa : PySem.W.findIn K (.ref CQ) "__setattr__" = some (some (.builtin "object.__setattr__")))
    (qN0 : PySem.W.findIn K (.ref CQ) "ticket" = some none)
    (qN1 : PySem.W.findIn K (.ref CQ) "address" = some none)
    (qN2 : PySem.W.findIn K (.ref CQ) "start" = some none)
    (qN3 : PySem.W.findIn K (.ref CQ) "taken" = some none)
    (qN4 : PySem.W.findIn K (.ref CQ) "weight" = some none)
    (qN5 : PySem.W.findIn K (.ref CQ) "days" = some none)
    (qN6 : PySem.W.findIn K (.ref CQ) "sender" = some none)
    (qN7 : PySem.W.findIn K (.ref CQ) "receiver" = some none)
    (qN8 : PySem.W.findIn K (.ref CQ) "goods" = some none)
    (qMk : PySem.W.makesIn K CQ = true)
    (qKp : PySem.W.keepIn K (.ref CQ) = true)
    (qI : PySem.W.findIn K (.ref CQ) "__init__" = some (some (.ref mQI)))
    (lQI : K.lookup mQI = some ⟨ocQI, odQI, .func (PySem.W.fnOf "__init__" "Parcel.__init__" (defArgs sPInit) (defBody sPInit) (defScope sPInit) .none (.ref KQ) dcQI pmQI anQI cdQI ctQI), slQI⟩)
    (cQI : PySem.W.codeIn K cdQI "Parcel.__init__" = true)
    (kQI : PySem.W.keepIn K (.ref mQI) = true)
    (qIn : PySem.W.isFn K (.ref mQI) = true)
    (qD0 : PySem.W.nsIn K KQ "weight" = some (some (.int 1 tq1)))
    (qD1 : PySem.W.nsIn K KQ "days" = some (some .none))
    (qD2 : PySem.W.nsIn K KQ "sender" = some (some (.str ("sender" : String) tq3)))
    (qD3 : PySem.W.nsIn K KQ "receiver" = some (some (.str ("receiver" : String) tq4)))
    (qD4 : PySem.W.nsIn K KQ "goods" = some (some (.ref t1)))
    (e01 : K.lookup t1 = some ⟨.type "tuple", d01, .seq #[] n01, s01⟩)
    (qQw : PySem.W.findIn K (.ref CQ) "worth" = some (some (.ref pQw)))
    (qQwg : PySem.W.specialIn K (.ref pQw) "__get__" = some (some (.builtin "property.__get__")))
    (qQwt : PySem.W.takesIn K (.ref pQw) = some true)
    (qQwr : PySem.W.recIn K pQw "property" = some (.ref mQw :: restQw))
    (lmQw : K.lookup mQw = some ⟨ocmQw, odmQw, .func (PySem.W.fnOf "worth" "Parcel.worth" (defArgs sPWorth) (defBody sPWorth) (defScope sPWorth) .none kVmQw dcmQw pmmQw anmQw cdmQw ctmQw), slmQw⟩)
    (cmQw : PySem.W.codeIn K cdmQw "Parcel.worth" = true)
    (kmQw : PySem.W.keepIn K (.ref mQw) = true)
    (qQd : PySem.W.findIn K (.ref CQ) "due" = some (some (.ref pQd)))
    (qQdg : PySem.W.specialIn K (.ref pQd) "__get__" = some (some (.builtin "property.__get__")))
    (qQdt : PySem.W.takesIn K (.ref pQd) = some true)
    (qQdr : PySem.W.recIn K pQd "property" = some (.ref mQd :: restQd))
    (lmQd : K.lookup mQd = some ⟨ocmQd, odmQd, .func (PySem.W.fnOf "due" "Parcel.due" (defArgs sPDue) (defBody sPDue) (defScope sPDue) .none kVmQd dcmQd pmmQd anmQd cdmQd ctmQd), slmQd⟩)
    (cmQd : PySem.W.codeIn K cdmQd "Parcel.due" = true)
    (kmQd : PySem.W.keepIn K (.ref mQd) = true)
    : ∃ fd : FuncData, (∀ (s : Shared) (v : Value), BindsTo s fd ⟨[v], []⟩ [("script", v)]) ∧ ∀ base : Heap, K.In base → base.Ns mainGlobals mg → FnOk l.prog w K mg base CX0 14 fa fd ["script"] (spLaw K) := by
  have e := hfa.symm.trans (PySem.W.mg_of X G a41)
  cases e
  have F1 := fun_mk (st := sMade) l1 c1 k1
  have b1 := F1.binds (ps := ["text", "signs", "most"]) fun _ _ _ _ _ _ us hl => match us, hl with | [_, _, _], _ => rfl
  have D1 : Dd K mg "made_of" sMade ["text", "signs", "most"] f1 _ := ⟨F1, b1, PySem.W.mg_of X G a1⟩
  have F2 := fun_mk (st := sSpells) l2 c2 k2
  have b2 := F2.binds (ps := ["text"]) fun _ _ _ _ _ _ us hl => match us, hl with | [_], _ => rfl
  have D2 : Dd K mg "spells_address" sSpells ["text"] f2 _ := ⟨F2, b2, PySem.W.mg_of X G a2⟩
  have F3 := fun_mk (st := sIsName) l3 c3 k3
  have b3 := F3.binds (ps := ["text"]) fun _ _ _ _ _ _ us hl => match us, hl with | [_], _ => rfl
  have D3 : Dd K mg "is_name" sIsName ["text"] f3 _ := ⟨F3, b3, PySem.W.mg_of X G a3⟩
  have F4 := fun_mk (st := sIsAddr) l4 c4 k4
  have b4 := F4.binds (ps := ["text"]) fun _ _ _ _ _ _ us hl => match us, hl with | [_], _ => rfl
  have D4 : Dd K mg "is_address" sIsAddr ["text"] f4 _ := ⟨F4, b4, PySem.W.mg_of X G a4⟩
  have F5 := fun_mk (st := sRuling) l5 c5 k5
  have b5 := F5.binds (ps := ["good", "share", "lands"]) fun _ _ _ _ _ _ us hl => match us, hl with | [_, _, _], _ => rfl
  have D5 : Dd K mg "_ruling" sRuling ["good", "share", "lands"] f5 _ := ⟨F5, b5, PySem.W.mg_of X G a5⟩
  have F6 := fun_mk (st := sIsRow) l6 c6 k6
  have b6 := F6.binds (ps := ["prefix", "land", "rate"]) fun _ _ _ _ _ _ us hl => match us, hl with | [_, _, _], _ => rfl
  have D6 : Dd K mg "_is_row" sIsRow ["prefix", "land", "rate"] f6 _ := ⟨F6, b6, PySem.W.mg_of X G a6⟩
  have F7 := fun_mk (st := sClears) l7 c7 k7
  have b7 := F7.binds (ps := ["tariffs", "land", "parcel"]) fun _ _ _ _ _ _ us hl => match us, hl with | [_, _, _], _ => rfl
  have D7 : Dd K mg "clears" sClears ["tariffs", "land", "parcel"] f7 _ := ⟨F7, b7, PySem.W.mg_of X G a7⟩
  have F8 := fun_mk (st := sCell) l8 c8 k8
  have b8 := F8.binds (ps := ["script", "k"]) fun _ _ _ _ _ _ us hl => match us, hl with | [_, _], _ => rfl
  have D8 : Dd K mg "_law_cell" sCell ["script", "k"] f8 _ := ⟨F8, b8, PySem.W.mg_of X G a8⟩
  have F9 := fun_mk (st := sBox) l9 c9 k9
  have b9 := F9.binds (ps := ["script", "k"]) fun _ _ _ _ _ _ us hl => match us, hl with | [_, _], _ => rfl
  have D9 : Dd K mg "_law_box" sBox ["script", "k"] f9 _ := ⟨F9, b9, PySem.W.mg_of X G a9⟩
  have F10 := fun_mk (st := sDraw) l10 c10 k10
  have b10 := F10.binds (ps := ["box", "size"]) fun _ _ _ _ _ _ us hl => match us, hl with | [_, _], _ => rfl
  have D10 : Dd K mg "_law_draw" sDraw ["box", "size"] f10 _ := ⟨F10, b10, PySem.W.mg_of X G a10⟩
  have F11 := fun_mk (st := sDigits) l11 c11 k11
  have b11 := F11.binds (ps := ["box", "size"]) fun _ _ _ _ _ _ us hl => match us, hl with | [_, _], _ => rfl
  have D11 : Dd K mg "_law_digits" sDigits ["box", "size"] f11 _ := ⟨F11, b11, PySem.W.mg_of X G a11⟩
  have F12 := fun_mk (st := sName) l12 c12 k12
  have b12 := F12.binds (ps := ["box"]) fun _ _ _ _ _ _ us hl => match us, hl with | [_], _ => rfl
  have D12 : Dd K mg "_law_name" sName ["box"] f12 _ := ⟨F12, b12, PySem.W.mg_of X G a12⟩
  have F13 := fun_mk (st := sSign) l13 c13 k13
  have b13 := F13.binds (ps := []) fun _ _ _ _ _ _ us hl => match us, hl with | [], _ => rfl
  have D13 : Dd K mg "_law_sign" sSign [] f13 _ := ⟨F13, b13, PySem.W.mg_of X G a13⟩
  have F14 := fun_mk (st := sAmount) l14 c14 k14
  have b14 := F14.binds (ps := ["box"]) fun _ _ _ _ _ _ us hl => match us, hl with | [_], _ => rfl
  have D14 : Dd K mg "_law_amount" sAmount ["box"] f14 _ := ⟨F14, b14, PySem.W.mg_of X G a14⟩
  have F15 := fun_mk (st := sBeyond) l15 c15 k15
  have b15 := F15.binds (ps := ["box"]) fun _ _ _ _ _ _ us hl => match us, hl with | [_], _ => rfl
  have D15 : Dd K mg "_law_beyond" sBeyond ["box"] f15 _ := ⟨F15, b15, PySem.W.mg_of X G a15⟩
  have F16 := fun_mk (st := sHeading) l16 c16 k16
  have b16 := F16.binds (ps := ["box", "stem"]) fun _ _ _ _ _ _ us hl => match us, hl with | [_, _], _ => rfl
  have D16 : Dd K mg "_law_heading" sHeading ["box", "stem"] f16 _ := ⟨F16, b16, PySem.W.mg_of X G a16⟩
  have F17 := fun_mk (st := sBadN) l17 c17 k17
  have b17 := F17.binds (ps := ["box", "least"]) fun _ _ _ _ _ _ us hl => match us, hl with | [_, _], _ => rfl
  have D17 : Dd K mg "_law_bad_name" sBadN ["box", "least"] f17 _ := ⟨F17, b17, PySem.W.mg_of X G a17⟩
  have F18 := fun_mk (st := sBadA) l18 c18 k18
  have b18 := F18.binds (ps := ["box"]) fun _ _ _ _ _ _ us hl => match us, hl with | [_], _ => rfl
  have D18 : Dd K mg "_law_bad_address" sBadA ["box"] f18 _ := ⟨F18, b18, PySem.W.mg_of X G a18⟩
  have F19 := fun_mk (st := sNode) l19 c19 k19
  have b19 := F19.binds (ps := ["box", "stem", "lands"]) fun _ _ _ _ _ _ us hl => match us, hl with | [_, _, _], _ => rfl
  have D19 : Dd K mg "_law_node" sNode ["box", "stem", "lands"] f19 _ := ⟨F19, b19, PySem.W.mg_of X G a19⟩
  have F20 := fun_mk (st := sLRows) l20 c20 k20
  have b20 := F20.binds (ps := ["box", "stem", "lands"]) fun _ _ _ _ _ _ us hl => match us, hl with | [_, _, _], _ => rfl
  have D20 : Dd K mg "_law_rows" sLRows ["box", "stem", "lands"] f20 _ := ⟨F20, b20, PySem.W.mg_of X G a20⟩
  have F21 := fun_mk (st := sLRate) l21 c21 k21
  have b21 := F21.binds (ps := ["rows", "heading", "land"]) fun _ _ _ _ _ _ us hl => match us, hl with | [_, _, _], _ => rfl
  have D21 : Dd K mg "_law_rate" sLRate ["rows", "heading", "land"] f21 _ := ⟨F21, b21, PySem.W.mg_of X G a21⟩
  have F22 := fun_mk (st := sLOrig) l22 c22 k22
  have b22 := F22.binds (ps := ["node", "portion"]) fun _ _ _ _ _ _ us hl => match us, hl with | [_, _], _ => rfl
  have D22 : Dd K mg "_law_origin" sLOrig ["node", "portion"] f22 _ := ⟨F22, b22, PySem.W.mg_of X G a22⟩
  have F23 := fun_mk (st := sLetIn) l23 c23 k23
  have b23 := F23.binds (ps := ["rows", "portion", "nodes"]) fun _ _ _ _ _ _ us hl => match us, hl with | [_, _, _], _ => rfl
  have D23 : Dd K mg "_law_let_in" sLetIn ["rows", "portion", "nodes"] f23 _ := ⟨F23, b23, PySem.W.mg_of X G a23⟩
  have F24 := fun_mk (st := sLIs) l24 c24 k24
  have b24 := F24.binds (ps := ["told", "due"]) fun _ _ _ _ _ _ us hl => match us, hl with | [_, _], _ => rfl
  have D24 : Dd K mg "_law_is" sLIs ["told", "due"] f24 _ := ⟨F24, b24, PySem.W.mg_of X G a24⟩
  have F25 := fun_mk (st := sGoodIs) l25 c25 k25
  have b25 := F25.binds (ps := ["good", "node"]) fun _ _ _ _ _ _ us hl => match us, hl with | [_, _], _ => rfl
  have D25 : Dd K mg "_law_good_is" sGoodIs ["good", "node"] f25 _ := ⟨F25, b25, PySem.W.mg_of X G a25⟩
  have F26 := fun_mk (st := sLMade) l26 c26 k26
  have b26 := F26.binds (ps := ["node", "stranger"]) fun _ _ _ _ _ _ us hl => match us, hl with | [_, _], _ => rfl
  have D26 : Dd K mg "_law_made" sLMade ["node", "stranger"] f26 _ := ⟨F26, b26, PySem.W.mg_of X G a26⟩
  have F27 := fun_mk (st := sGRef) l27 c27 k27
  have b27 := F27.binds (ps := ["heading", "worth", "land", "parts"]) fun _ _ _ _ _ _ us hl => match us, hl with | [_, _, _, _], _ => rfl
  have D27 : Dd K mg "_law_good_refused" sGRef ["heading", "worth", "land", "parts"] f27 _ := ⟨F27, b27, PySem.W.mg_of X G a27⟩
  have F28 := fun_mk (st := sGHold) l28 c28 k28
  have b28 := F28.binds (ps := ["box", "node", "stranger"]) fun _ _ _ _ _ _ us hl => match us, hl with | [_, _, _], _ => rfl
  have D28 : Dd K mg "_law_goods_hold" sGHold ["box", "node", "stranger"] f28 _ := ⟨F28, b28, PySem.W.mg_of X G a28⟩
  have F29 := fun_mk (st := sTRef) l29 c29 k29
  have b29 := F29.binds (ps := ["land", "rows", "limit", "portion"]) fun _ _ _ _ _ _ us hl => match us, hl with | [_, _, _, _], _ => rfl
  have D29 : Dd K mg "_law_tariff_refused" sTRef ["land", "rows", "limit", "portion"] f29 _ := ⟨F29, b29, PySem.W.mg_of X G a29⟩
  have F30 := fun_mk (st := sTariffIs) l30 c30 k30
  have b30 := F30.binds (ps := ["tariff", "land", "rows", "limit", "portion"]) fun _ _ _ _ _ _ us hl => match us, hl with | [_, _, _, _, _], _ => rfl
  have D30 : Dd K mg "_law_tariff_is" sTariffIs ["tariff", "land", "rows", "limit", "portion"] f30 _ := ⟨F30, b30, PySem.W.mg_of X G a30⟩
  have F31 := fun_mk (st := sTHold) l31 c31 k31
  have b31 := F31.binds (ps := ["box", "land", "rows", "limit", "portion"]) fun _ _ _ _ _ _ us hl => match us, hl with | [_, _, _, _, _], _ => rfl
  have D31 : Dd K mg "_law_tariffs_hold" sTHold ["box", "land", "rows", "limit", "portion"] f31 _ := ⟨F31, b31, PySem.W.mg_of X G a31⟩
  have F32 := fun_mk (st := sLParcel) l32 c32 k32
  have b32 := F32.binds (ps := ["values"]) fun _ _ _ _ _ _ us hl => match us, hl with | [_], _ => rfl
  have D32 : Dd K mg "_law_parcel" sLParcel ["values"] f32 _ := ⟨F32, b32, PySem.W.mg_of X G a32⟩
  have F33 := fun_mk (st := sPRef) l33 c33 k33
  have b33 := F33.binds (ps := ["values"]) fun _ _ _ _ _ _ us hl => match us, hl with | [_], _ => rfl
  have D33 : Dd K mg "_law_parcel_refused" sPRef ["values"] f33 _ := ⟨F33, b33, PySem.W.mg_of X G a33⟩
  have F34 := fun_mk (st := sSays) l34 c34 k34
  have b34 := F34.binds (ps := ["told", "due"]) fun _ _ _ _ _ _ us hl => match us, hl with | [_, _], _ => rfl
  have D34 : Dd K mg "_law_says" sSays ["told", "due"] f34 _ := ⟨F34, b34, PySem.W.mg_of X G a34⟩
  have F35 := fun_mk (st := sParcelIs) l35 c35 k35
  have b35 := F35.binds (ps := ["parcel", "values", "nodes"]) fun _ _ _ _ _ _ us hl => match us, hl with | [_, _, _], _ => rfl
  have D35 : Dd K mg "_law_parcel_is" sParcelIs ["parcel", "values", "nodes"] f35 _ := ⟨F35, b35, PySem.W.mg_of X G a35⟩
  have F36 := fun_mk (st := sValues) l36 c36 k36
  have b36 := F36.binds (ps := ["box"]) fun _ _ _ _ _ _ us hl => match us, hl with | [_], _ => rfl
  have D36 : Dd K mg "_law_values" sValues ["box"] f36 _ := ⟨F36, b36, PySem.W.mg_of X G a36⟩
  have F37 := fun_mk (st := sAHold) l37 c37 k37
  have b37 := F37.binds (ps := ["tariff", "rows", "portion", "nodes", "things"]) fun _ _ _ _ _ _ us hl => match us, hl with | [_, _, _, _, _], _ => rfl
  have D37 : Dd K mg "_law_admits_hold" sAHold ["tariff", "rows", "portion", "nodes", "things"] f37 _ := ⟨F37, b37, PySem.W.mg_of X G a37⟩
  have F38 := fun_mk (st := sPHold) l38 c38 k38
  have b38 := F38.binds (ps := ["box", "values", "nodes"]) fun _ _ _ _ _ _ us hl => match us, hl with | [_, _, _], _ => rfl
  have D38 : Dd K mg "_law_parcels_hold" sPHold ["box", "values", "nodes"] f38 _ := ⟨F38, b38, PySem.W.mg_of X G a38⟩
  have F39 := fun_mk (st := sShutOut) l39 c39 k39
  have b39 := F39.binds (ps := ["box", "node", "stranger", "values", "land"]) fun _ _ _ _ _ _ us hl => match us, hl with | [_, _, _, _, _], _ => rfl
  have D39 : Dd K mg "_law_shut_out" sShutOut ["box", "node", "stranger", "values", "land"] f39 _ := ⟨F39, b39, PySem.W.mg_of X G a39⟩
  have F40 := fun_mk (st := sCHold) l40 c40 k40
  have b40 := F40.binds (ps := ["tariffs", "dues", "lands", "parcel"]) fun _ _ _ _ _ _ us hl => match us, hl with | [_, _, _, _], _ => rfl
  have D40 : Dd K mg "_law_clears_hold" sCHold ["tariffs", "dues", "lands", "parcel"] f40 _ := ⟨F40, b40, PySem.W.mg_of X G a40⟩
  have F41 := fun_mk (st := sLaw) l41 c41 k41
  have FmI := fun_mk (st := sInv) lmI cmI kmI
  have bmI := FmI.binds (ps := ["self", "what"]) fun _ _ _ _ _ _ us hl => match us, hl with | [_, _], _ => rfl
  have EI : ErrC K CI mI "what" := ⟨⟨⟨_, _, _, _, _, _, _, _, _, _, _, _, _, _, _, xIl, xIv⟩, xIs, xIe, xIt, xIk⟩, ⟨xIg, xIa, xIe, xIh⟩, xIn, xIi, xIy, cls_some xIh, xIo, xIm, oHn, oTk⟩
  have MI : Mm K "__init__" "Invalid.__init__" sInv ["self", "what"] mI _ := ⟨FmI, bmI⟩
  have FmGw := fun_mk (st := sGoodWorth) lmGw cmGw kmGw
  have bmGw := FmGw.binds (ps := ["self"]) fun _ _ _ _ _ _ us hl => match us, hl with | [_], _ => rfl
  have FmTR := fun_mk (st := sTRows) lmTR cmTR kmTR
  have bmTR := FmTR.binds (ps := ["self"]) fun _ _ _ _ _ _ us hl => match us, hl with | [_], _ => rfl
  have FmTr := fun_mk (st := sTRate) lmTr cmTr kmTr
  have bmTr := FmTr.binds (ps := ["self", "heading", "origin"]) fun _ _ _ _ _ _ us hl => match us, hl with | [_, _, _], _ => rfl
  have FmTo := fun_mk (st := sTRateOf) lmTo cmTo kmTo
  have bmTo := FmTo.binds (ps := ["self", "good"]) fun _ _ _ _ _ _ us hl => match us, hl with | [_, _], _ => rfl
  have FmTa := fun_mk (st := sTAdmits) lmTa cmTa kmTa
  have bmTa := FmTa.binds (ps := ["self", "goods"]) fun _ _ _ _ _ _ us hl => match us, hl with | [_, _], _ => rfl
  have FmQw := fun_mk (st := sPWorth) lmQw cmQw kmQw
  have bmQw := FmQw.binds (ps := ["self"]) fun _ _ _ _ _ _ us hl => match us, hl with | [_], _ => rfl
  have FmQd := fun_mk (st := sPDue) lmQd cmQd kmQd
  have bmQd := FmQd.binds (ps := ["self"]) fun _ _ _ _ _ _ us hl => match us, hl with | [_], _ => rfl
  have FOP : FunDf K "origin_paper" "origin_paper" sOPaper [.int 50] fOP _ := funD_mk (its := [.int 50 tkO]) lOP cOP kOP tOP (.cons ⟨tkO, rfl⟩ .nil) (List.cons_ne_nil _ _)
  have DOP : DdD K mg "origin_paper" sOPaper ["good", "share"] [.int 50] fOP _ := ⟨FOP, (bindsP FOP).2, (bindsP FOP).1, PySem.W.mg_of X G aOP⟩
  have FGI : FunDf K "__init__" "Good.__init__" sGInit [.ref t0] mGI _ := funD_mk (its := [.ref t0]) lGI cGI kGI tGI (.cons rfl .nil) (List.cons_ne_nil _ _)
  obtain ⟨⟨dsG, vG, bGd⟩, bG⟩ := bindsG FGI
  refine ⟨PySem.W.fnOf "law" "law" (defArgs sLaw) (defBody sLaw) (defScope sLaw) .none kV41 dc41 pm41 an41 cd41 ct41, fun s v => .of_eq rfl, fun base _ _ => ?_⟩
  have B : Blt mg := ⟨PySem.W.mg_none_of X G z_len, PySem.W.mg_none_of X G z_int, PySem.W.mg_none_of X G z_str, PySem.W.mg_none_of X G z_list, PySem.W.mg_none_of X G z_tuple, PySem.W.mg_none_of X G z_dict, PySem.W.mg_none_of X G z_bool, PySem.W.mg_none_of X G z_range, PySem.W.mg_none_of X G z_sorted, PySem.W.mg_none_of X G z_all, PySem.W.mg_none_of X G z_isinstance, ⟨_, PySem.W.mg_of X G gDG⟩, ⟨_, PySem.W.mg_of X G gLT⟩, ⟨_, PySem.W.mg_of X G gHR⟩, PySem.W.mg_none_of X G z_sum, PySem.W.mg_none_of X G z_set, PySem.W.mg_of X G gBR, PySem.W.mg_none_of X G z_zip, PySem.W.mg_none_of X G z_max, PySem.W.mg_none_of X G z_min, ⟨_, PySem.W.mg_of X G gDY⟩⟩
  have RI : EInv K mg CI mI _ := ⟨EI, MI, PySem.W.mg_of X G aIc⟩
  have R : Errs K mg CI mI _ CP Co0 Co1 Co2 Co3 Co4 Co5 Co6 := ⟨RI, PySem.W.mg_of X G aPc, PySem.W.mg_none_of X G z_ValueError, PySem.W.mg_of X G ao0c, PySem.W.mg_of X G ao1c, PySem.W.mg_of X G ao2c, PySem.W.mg_of X G ao3c, PySem.W.mg_of X G ao4c, PySem.W.mg_of X G ao5c, PySem.W.mg_of X G ao6c, kit_t (kit_refC xPh xPt sIP), kit_t (kit_tyC rfl sIV), kit_no (kit_f nso0 (kit_refC xo0h xo0t so0)) (kit_no (kit_f nso1 (kit_refC xo1h xo1t so1)) (kit_no (kit_f nso2 (kit_refC xo2h xo2t so2)) (kit_no (kit_f nso3 (kit_refC xo3h xo3t so3)) (kit_no (kit_f nso4 (kit_refC xo4h xo4t so4)) (kit_no (kit_f nso5 (kit_refC xo5h xo5t so5)) (kit_no (kit_f nso6 (kit_refC xo6h xo6t so6)) (kit_nil))))))), PySem.W.exm_ref xIe xIh xIt sII⟩
  have T : GCls K C pGw mGw _ := ⟨⟨hPg, hHd, hPo, hSa⟩, hN0, hN1, hN2, hN3, hN4, ⟨hGw, hGwg, hGwt, ⟨_, hGwr⟩⟩, FmGw, bmGw⟩
  have TC : TCls K CT := ⟨⟨tPg, tHd, tPo, tSa⟩, tN0, tN1, tN2, tN3⟩
  have PC : PCls K CQ := ⟨⟨qPg, qHd, qPo, qSa⟩, qN0, qN1, qN2, qN3, qN4, qN5, qN6, qN7, qN8⟩
  have cIsAddr : C1 l.prog w K mg base "is_address" sIsAddr ["text"] 3 (spT isAddr) _ _ := ⟨D4, ok_isAddr D4.F D2 D1 B⟩
  have cIsName : C1 l.prog w K mg base "is_name" sIsName ["text"] 2 (spT isName) _ _ := ⟨D3, ok_isName D3.F D1 B⟩
  have TG : GoodX l.prog w K mg base C CI mGI t0 _ dsG := ⟨⟨hMk, hI, hIn, hKp⟩, ok_goodInitX FGI T cIsAddr cIsName RI B, PySem.W.mg_of X G hG, bG, fun H => .inr ⟨_, #[], n00, e00, rfl, rfl, Nat.zero_le _, .nil⟩, vG, bGd⟩
  have cIsRow : C1 l.prog w K mg base "_is_row" sIsRow ["prefix", "land", "rate"] 4 (spIsRow) _ _ := ⟨D6, ok_isrow D6.F B cIsAddr cIsName⟩
  have FK : FunK K mTI _ := ⟨⟨ocTI, odTI, .none, .ref KD, dcTI, pmTI, anTI, cdTI, ctTI, slTI, rfl, lTI, cTI, .inl ⟨rfl, rfl⟩, .inr ⟨KD, rfl, fun q hq => by
    rcases List.mem_cons.mp hq with rfl | hq
    · exact ⟨_, tD0, tk0, rfl⟩
    rw [List.mem_singleton.mp hq]
    exact ⟨_, tD1, tk1, rfl⟩⟩⟩, kTI⟩
  have TT : TarC l.prog w K mg base CT CI mTI _ := ⟨⟨tMk, tI, tIn, tKp⟩, FK, ok_tinitX FK B TC cIsName cIsRow RI, PySem.W.mg_of X G tG⟩
  have FQ : FunP K t1 mQI _ := ⟨⟨ocQI, odQI, .none, .ref KQ, dcQI, pmQI, anQI, cdQI, ctQI, slQI, rfl, lQI, cQI, .inl ⟨rfl, rfl⟩, .inr ⟨KQ, rfl, fun q hq => by
    rcases List.mem_cons.mp hq with rfl | hq
    · exact ⟨_, qD0, tq1, rfl⟩
    rcases List.mem_cons.mp hq with rfl | hq
    · exact ⟨_, qD1, rfl⟩
    rcases List.mem_cons.mp hq with rfl | hq
    · exact ⟨_, qD2, tq3, rfl⟩
    rcases List.mem_cons.mp hq with rfl | hq
    · exact ⟨_, qD3, tq4, rfl⟩
    rw [List.mem_singleton.mp hq]
    exact ⟨_, qD4, rfl⟩⟩⟩, kQI⟩
  have PT : ParC l.prog w K mg base CQ C CI t1 mQI _ := ⟨⟨qMk, qI, qIn, qKp⟩, FQ, ok_pinitX FQ B PC cIsAddr cIsName RI, PySem.W.mg_of X G qG, fun H => .inr ⟨_, #[], n01, e01, rfl, rfl, Nat.zero_le _, .nil⟩⟩
  have cRuling : C1 l.prog w K mg base "_ruling" sRuling ["good", "share", "lands"] 3 (spRuling K C) _ _ := ⟨D5, ok_ruling D5.F T B⟩
  have cOPaper : C1D l.prog w K mg base "origin_paper" sOPaper ["good", "share"] [.int 50] 7 (spOPaper K C 3) fOP _ := ⟨DOP, ok_opaper DOP T cRuling B 3⟩
  have GTr : FnOk l.prog w K mg base CX0 1 mTr _ ["self", "heading", "origin"] (spTRate CT) := ok_trate FmTr B TC
  have GTs : FnOk l.prog w K mg base CX0 1 mTR _ ["self"] (spTRows CT) := ok_trows FmTR B TC
  have GTo : FnOk l.prog w K mg base CX0 8 mTo _ ["self", "good"] (spRateOf K CT C) := ok_rateof FmTo T TC ⟨tTr, nTr, kmTr⟩ bmTr GTr cOPaper
  have GTa : FnOk l.prog w K mg base CX0 9 mTa _ ["self", "goods"] (spAdmits K CT C) := ok_admits FmTa TC ⟨tTo, nTo, kmTo⟩ bmTo GTo B
  have GPw : FnOk l.prog w K mg base CX0 3 mQw _ ["self"] (spPWorth K CQ C) := ok_pworth (n := 0) FmQw B PC T
  have GPd : FnOk l.prog w K mg base CX0 1 mQd _ ["self"] (spPDue K CQ C) := ok_pdue FmQd B PC
  have cClears : C1 l.prog w K mg base "clears" sClears ["tariffs", "land", "parcel"] 10 (spClears K CT CQ C) _ _ := ⟨D7, ok_clears D7.F PC TC ⟨tTa, nTa, kmTa⟩ bmTa GTa⟩
  have cLBox : C1 l.prog w K mg base "_law_box" sBox ["script", "k"] 2 (spBox K) _ _ := ⟨D9, ok_box D9.F D8 B⟩
  have cDraw : C1 l.prog w K mg base "_law_draw" sDraw ["box", "size"] 1 (spDraw) _ _ := ⟨D10, ok_draw D10.F B⟩
  have cDigits : C1 l.prog w K mg base "_law_digits" sDigits ["box", "size"] 2 (spDigits) _ _ := ⟨D11, ok_digits D11.F cDraw B⟩
  have cName : C1 l.prog w K mg base "_law_name" sName ["box"] 2 (spName) _ _ := ⟨D12, ok_name D12.F cDraw B⟩
  have cSign : C1 l.prog w K mg base "_law_sign" sSign [] 1 (spSign) _ _ := ⟨D13, ok_sign D13.F⟩
  have cAmount : C1 l.prog w K mg base "_law_amount" sAmount ["box"] 2 (spInt fun z => 0 ≤ z) _ _ := ⟨D14, ok_amount D14.F cDraw⟩
  have cBeyond : C1 l.prog w K mg base "_law_beyond" sBeyond ["box"] 2 (spInt fun z => 0 ≤ z) _ _ := ⟨D15, ok_beyond D15.F cDraw⟩
  have cHeading : C1 l.prog w K mg base "_law_heading" sHeading ["box", "stem"] 3 (spHeading) _ _ := ⟨D16, ok_heading D16.F cDraw cDigits⟩
  have cBadN : C1 l.prog w K mg base "_law_bad_name" sBadN ["box", "least"] 3 (spBadN) _ _ := ⟨D17, ok_badn D17.F cDraw cName cSign B⟩
  have cBadA : C1 l.prog w K mg base "_law_bad_address" sBadA ["box"] 3 (spBadA) _ _ := ⟨D18, ok_bada D18.F cDraw cDigits cSign B⟩
  have cNode : C1 l.prog w K mg base "_law_node" sNode ["box", "stem", "lands"] 4 (spNode) _ _ := ⟨D19, ok_node D19.F cDraw cHeading cAmount B⟩
  have cLRows : C1 l.prog w K mg base "_law_rows" sLRows ["box", "stem", "lands"] 4 (spLRows) _ _ := ⟨D20, ok_lrows D20.F cDraw cHeading cAmount B⟩
  have cLRate : C1 l.prog w K mg base "_law_rate" sLRate ["rows", "heading", "land"] 1 (spLRate) _ _ := ⟨D21, ok_lrate D21.F B⟩
  have cLOrig : C1 l.prog w K mg base "_law_origin" sLOrig ["node", "portion"] 1 (spLOrig) _ _ := ⟨D22, ok_lorig D22.F B⟩
  have cLetIn : C1 l.prog w K mg base "_law_let_in" sLetIn ["rows", "portion", "nodes"] 2 (spLetIn) _ _ := ⟨D23, ok_letin D23.F cLRate cLOrig B⟩
  have cLIs : C1 l.prog w K mg base "_law_is" sLIs ["told", "due"] 1 (spIs) _ _ := ⟨D24, ok_lis D24.F B⟩
  have cGoodIs : C1 l.prog w K mg base "_law_good_is" sGoodIs ["good", "node"] 5 (spGoodIs K C 3) _ _ := ⟨D25, ok_goodis D25 cLIs T B 3⟩
  have cLMade : C1 l.prog w K mg base "_law_made" sLMade ["node", "stranger"] 11 (spLMade K C 3) _ _ := ⟨D26, ok_lmade D26 TG B 3⟩
  have cGRef : C1 l.prog w K mg base "_law_good_refused" sGRef ["heading", "worth", "land", "parts"] 7 (spGRef K C) _ _ := ⟨D27, ok_gref D27.F TG R B⟩
  have cGHold : C1 l.prog w K mg base "_law_goods_hold" sGHold ["box", "node", "stranger"] 12 (spGHold K C) _ _ := ⟨D28, ok_ghold D28.F T TG cDraw cBadN cBadA cBeyond cGoodIs cLMade cGRef B⟩
  have cTRef : C1 l.prog w K mg base "_law_tariff_refused" sTRef ["land", "rows", "limit", "portion"] 7 (spTRef) _ _ := ⟨D29, ok_tref D29.F TT R B⟩
  have cTariffIs : C1 l.prog w K mg base "_law_tariff_is" sTariffIs ["tariff", "land", "rows", "limit", "portion"] 3 (spTarIs CT) _ _ := ⟨D30, ok_taris D30.F TC cLIs ⟨tTR, tTRg, tTRt, ⟨_, tTRr⟩⟩ bmTR GTs B⟩
  have cTHold : C1 l.prog w K mg base "_law_tariffs_hold" sTHold ["box", "land", "rows", "limit", "portion"] 8 (spTHold) _ _ := ⟨D31, ok_thold D31.F TT cDraw cBadN cBadA cBeyond cTRef cTariffIs B⟩
  have cLParcel : C1X l.prog w K mg base "_law_parcel" sLParcel ["values"] 7 (spLPar K CQ C CI) _ _ := ⟨D32, ok_lpar D32.F PT⟩
  have cPRef : C1 l.prog w K mg base "_law_parcel_refused" sPRef ["values"] 8 (spPRef K C) _ _ := ⟨D33, ok_pref D33.F cLParcel R B⟩
  have cSays : C1 l.prog w K mg base "_law_says" sSays ["told", "due"] 1 (spSays) _ _ := ⟨D34, ok_says D34.F B⟩
  have cParcelIs : C1 l.prog w K mg base "_law_parcel_is" sParcelIs ["parcel", "values", "nodes"] 6 (spParIs K CQ C) _ _ := ⟨D35, ok_paris D35.F PC cLIs cGoodIs ⟨qQw, qQwg, qQwt, ⟨_, qQwr⟩⟩ bmQw GPw ⟨qQd, qQdg, qQdt, ⟨_, qQdr⟩⟩ bmQd GPd B⟩
  have cValues : C1 l.prog w K mg base "_law_values" sValues ["box"] 3 (spValues) _ _ := ⟨D36, ok_values D36.F cDraw cDigits cName B⟩
  have cAHold : C1 l.prog w K mg base "_law_admits_hold" sAHold ["tariff", "rows", "portion", "nodes", "things"] 10 (spAHold K CT C) _ _ := ⟨D37, ok_ahold D37.F TC ⟨tTa, nTa, kmTa⟩ bmTa GTa cLetIn cSays B⟩
  have cPHold : C1 l.prog w K mg base "_law_parcels_hold" sPHold ["box", "values", "nodes"] 9 (spPHold K CQ C) _ _ := ⟨D38, ok_phold D38.F PT cBadN cBadA cBeyond cLParcel cPRef cParcelIs B⟩
  have cShut : C1 l.prog w K mg base "_law_shut_out" sShutOut ["box", "node", "stranger", "values", "land"] 12 (spShut K C) _ _ := ⟨D39, ok_shut D39.F TT TC ⟨tTa, nTa, kmTa⟩ bmTa GTa cDraw cAmount cLMade cLParcel cSays cClears B⟩
  have cCHold : C1 l.prog w K mg base "_law_clears_hold" sCHold ["tariffs", "dues", "lands", "parcel"] 11 (spCHold K CT CQ C) _ _ := ⟨D40, ok_chold D40.F cSays cClears B⟩
  exact ok_law F41 TG TT cLBox cDraw cDigits cName cAmount cBeyond cNode cLRows cLetIn cLMade cLParcel cParcelIs cTariffIs cGHold cTHold cPHold cValues cShut cAHold cCHold B
end Tb
open PySem PySem.W PyProof.Rows
set_option maxRecDepth 100000 in
set_option maxHeartbeats 0 in
theorem PySem.Challenge.cw_everyparcel_k15_conditions_and_clearing_holds : PySem.Challenge.rw_everyparcel_k15_conditions_and_clearing.Holds := by
  w_on; o_law; k_head; (case hw => w_witness2)
  k_fill
  refine L2.walk_of (l := PySem.Challenge.rw_everyparcel_k15_conditions_and_clearing) (n := 63) (k := 14) (x := "script") (CX := fun _ => L2.CX0) (sp := fun w => Tb.spLaw _) rfl (by decide) rfl ⟨rfl, by decide, by decide⟩ (fun w h Y => PySem.W.kIn_of Y) ?F (fun _ _ a ns hl _ hS => ⟨a, ns, rfl, hS, fun _ => rfl⟩) (fun _ _ _ _ _ h => h)
  case F =>
    intro w mg fa h KX G hmg
    refine' Tb.all_mk KX G hmg ?a1 ?l1 ?c1 ?k1 ?a2 ?l2 ?c2 ?k2 ?a3 ?l3 ?c3 ?k3 ?a4 ?l4 ?c4 ?k4 ?a5 ?l5 ?c5 ?k5 ?a6 ?l6 ?c6 ?k6 ?a7 ?l7 ?c7 ?k7 ?a8 ?l8 ?c8 ?k8 ?a9 ?l9 ?c9 ?k9 ?a10 ?l10 ?c10 ?k10 ?a11 ?l11 ?c11 ?k11 ?a12 ?l12 ?c12 ?k12 ?a13 ?l13 ?c13 ?k13 ?a14 ?l14 ?c14 ?k14 ?a15 ?l15 ?c15 ?k15 ?a16 ?l16 ?c16 ?k16 ?a17 ?l17 ?c17 ?k17 ?a18 ?l18 ?c18 ?k18 ?a19 ?l19 ?c19 ?k19 ?a20 ?l20 ?c20 ?k20 ?a21 ?l21 ?c21 ?k21 ?a22 ?l22 ?c22 ?k22 ?a23 ?l23 ?c23 ?k23 ?a24 ?l24 ?c24 ?k24 ?a25 ?l25 ?c25 ?k25 ?a26 ?l26 ?c26 ?k26 ?a27 ?l27 ?c27 ?k27 ?a28 ?l28 ?c28 ?k28 ?a29 ?l29 ?c29 ?k29 ?a30 ?l30 ?c30 ?k30 ?a31 ?l31 ?c31 ?k31 ?a32 ?l32 ?c32 ?k32 ?a33 ?l33 ?c33 ?k33 ?a34 ?l34 ?c34 ?k34 ?a35 ?l35 ?c35 ?k35 ?a36 ?l36 ?c36 ?k36 ?a37 ?l37 ?c37 ?k37 ?a38 ?l38 ?c38 ?k38 ?a39 ?l39 ?c39 ?k39 ?a40 ?l40 ?c40 ?k40 ?a41 ?l41 ?c41 ?k41 ?z_len ?z_int ?z_str ?z_list ?z_tuple ?z_dict ?z_bool ?z_range ?z_sorted ?z_all ?z_isinstance ?z_sum ?z_set ?z_zip ?z_max ?z_min ?z_ValueError ?oHn ?oTk ?gDG ?gLT ?gHR ?gBR ?gDY ?aIc ?xIl ?xIv ?xIi ?xIs ?xIe ?xIt ?xIk ?xIg ?xIa ?xIh ?xIn ?xIy ?xIo ?xIm ?lmI ?cmI ?kmI ?aPc ?xPh ?xPt ?sIP ?sIV ?sII ?ao0c ?xo0h ?xo0t ?so0 ?nso0 ?ao1c ?xo1h ?xo1t ?so1 ?nso1 ?ao2c ?xo2h ?xo2t ?so2 ?nso2 ?ao3c ?xo3h ?xo3t ?so3 ?nso3 ?ao4c ?xo4h ?xo4t ?so4 ?nso4 ?ao5c ?xo5h ?xo5t ?so5 ?nso5 ?ao6c ?xo6h ?xo6t ?so6 ?nso6 ?aOP ?lOP ?cOP ?kOP ?tOP ?hG ?hPg ?hHd ?hPo ?hSa ?hN0 ?hN1 ?hN2 ?hN3 ?hN4 ?hMk ?hKp ?hGw ?hGwg ?hGwt ?hGwr ?lmGw ?cmGw ?kmGw ?hI ?lGI ?cGI ?kGI ?tGI ?hIn ?e00 ?tG ?tPg ?tHd ?tPo ?tSa ?tN0 ?tN1 ?tN2 ?tN3 ?tMk ?tKp ?tI ?lTI ?cTI ?kTI ?tIn ?tD0 ?tD1 ?tTR ?tTRg ?tTRt ?tTRr ?lmTR ?cmTR ?kmTR ?tTr ?lmTr ?cmTr ?kmTr ?nTr ?tTo ?lmTo ?cmTo ?kmTo ?nTo ?tTa ?lmTa ?cmTa ?kmTa ?nTa ?qG ?qPg ?qHd ?qPo ?qSa ?qN0 ?qN1 ?qN2 ?qN3 ?qN4 ?qN5 ?qN6 ?qN7 ?qN8 ?qMk ?qKp ?qI ?lQI ?cQI ?kQI ?qIn ?qD0 ?qD1 ?qD2 ?qD3 ?qD4 ?e01 ?qQw ?qQwg ?qQwt ?qQwr ?lmQw ?cmQw ?kmQw ?qQd ?qQdg ?qQdt ?qQdr ?lmQd ?cmQd ?kmQd
    (case a1 => k_is); (case l1 => k_is); (case c1 => k_is); (case k1 => k_is); (case a2 => k_is); (case l2 => k_is); (case c2 => k_is); (case k2 => k_is)
    (case a3 => k_is); (case l3 => k_is); (case c3 => k_is); (case k3 => k_is); (case a4 => k_is); (case l4 => k_is); (case c4 => k_is); (case k4 => k_is)
    (case a5 => k_is); (case l5 => k_is); (case c5 => k_is); (case k5 => k_is); (case a6 => k_is); (case l6 => k_is); (case c6 => k_is); (case k6 => k_is)
    (case a7 => k_is); (case l7 => k_is); (case c7 => k_is); (case k7 => k_is); (case a8 => k_is); (case l8 => k_is); (case c8 => k_is); (case k8 => k_is)
    (case a9 => k_is); (case l9 => k_is); (case c9 => k_is); (case k9 => k_is); (case a10 => k_is); (case l10 => k_is); (case c10 => k_is); (case k10 => k_is)
    (case a11 => k_is); (case l11 => k_is); (case c11 => k_is); (case k11 => k_is); (case a12 => k_is); (case l12 => k_is); (case c12 => k_is); (case k12 => k_is)
    (case a13 => k_is); (case l13 => k_is); (case c13 => k_is); (case k13 => k_is); (case a14 => k_is); (case l14 => k_is); (case c14 => k_is); (case k14 => k_is)
    (case a15 => k_is); (case l15 => k_is); (case c15 => k_is); (case k15 => k_is); (case a16 => k_is); (case l16 => k_is); (case c16 => k_is); (case k16 => k_is)
    (case a17 => k_is); (case l17 => k_is); (case c17 => k_is); (case k17 => k_is); (case a18 => k_is); (case l18 => k_is); (case c18 => k_is); (case k18 => k_is)
    (case a19 => k_is); (case l19 => k_is); (case c19 => k_is); (case k19 => k_is); (case a20 => k_is); (case l20 => k_is); (case c20 => k_is); (case k20 => k_is)
    (case a21 => k_is); (case l21 => k_is); (case c21 => k_is); (case k21 => k_is); (case a22 => k_is); (case l22 => k_is); (case c22 => k_is); (case k22 => k_is)
    (case a23 => k_is); (case l23 => k_is); (case c23 => k_is); (case k23 => k_is); (case a24 => k_is); (case l24 => k_is); (case c24 => k_is); (case k24 => k_is)
    (case a25 => k_is); (case l25 => k_is); (case c25 => k_is); (case k25 => k_is); (case a26 => k_is); (case l26 => k_is); (case c26 => k_is); (case k26 => k_is)
    (case a27 => k_is); (case l27 => k_is); (case c27 => k_is); (case k27 => k_is); (case a28 => k_is); (case l28 => k_is); (case c28 => k_is); (case k28 => k_is)
    (case a29 => k_is); (case l29 => k_is); (case c29 => k_is); (case k29 => k_is); (case a30 => k_is); (case l30 => k_is); (case c30 => k_is); (case k30 => k_is)
    (case a31 => k_is); (case l31 => k_is); (case c31 => k_is); (case k31 => k_is); (case a32 => k_is); (case l32 => k_is); (case c32 => k_is); (case k32 => k_is)
    (case a33 => k_is); (case l33 => k_is); (case c33 => k_is); (case k33 => k_is); (case a34 => k_is); (case l34 => k_is); (case c34 => k_is); (case k34 => k_is)
    (case a35 => k_is); (case l35 => k_is); (case c35 => k_is); (case k35 => k_is); (case a36 => k_is); (case l36 => k_is); (case c36 => k_is); (case k36 => k_is)
    (case a37 => k_is); (case l37 => k_is); (case c37 => k_is); (case k37 => k_is); (case a38 => k_is); (case l38 => k_is); (case c38 => k_is); (case k38 => k_is)
    (case a39 => k_is); (case l39 => k_is); (case c39 => k_is); (case k39 => k_is); (case a40 => k_is); (case l40 => k_is); (case c40 => k_is); (case k40 => k_is)
    (case a41 => k_is); (case l41 => k_is); (case c41 => k_is); (case k41 => k_is); (case z_len => k_is); (case z_int => k_is); (case z_str => k_is); (case z_list => k_is)
    (case z_tuple => k_is); (case z_dict => k_is); (case z_bool => k_is); (case z_range => k_is); (case z_sorted => k_is); (case z_all => k_is); (case z_isinstance => k_is); (case z_sum => k_is)
    (case z_set => k_is); (case z_zip => k_is); (case z_max => k_is); (case z_min => k_is); (case z_ValueError => k_is); (case oHn => k_is); (case oTk => k_is); (case gDG => k_is)
    (case gLT => k_is); (case gHR => k_is); (case gBR => k_is); (case gDY => k_is); (case aIc => k_is); (case xIl => k_is); (case xIv => first | rfl | decide +kernel); (case xIi => k_is)
    (case xIs => k_is); (case xIe => k_is); (case xIt => k_is); (case xIk => k_is); (case xIg => k_is); (case xIa => k_is); (case xIh => k_is); (case xIn => k_is)
    (case xIy => k_is); (case xIo => k_is); (case xIm => k_is); (case lmI => k_is); (case cmI => k_is); (case kmI => k_is); (case aPc => k_is); (case xPh => k_is)
    (case xPt => k_is); (case sIP => k_is); (case sIV => k_is); (case sII => k_is); (case ao0c => k_is); (case xo0h => k_is); (case xo0t => k_is); (case so0 => k_is)
    (case nso0 => first | rfl | decide +kernel); (case ao1c => k_is); (case xo1h => k_is); (case xo1t => k_is); (case so1 => k_is); (case nso1 => first | rfl | decide +kernel); (case ao2c => k_is); (case xo2h => k_is)
    (case xo2t => k_is); (case so2 => k_is); (case nso2 => first | rfl | decide +kernel); (case ao3c => k_is); (case xo3h => k_is); (case xo3t => k_is); (case so3 => k_is); (case nso3 => first | rfl | decide +kernel)
    (case ao4c => k_is); (case xo4h => k_is); (case xo4t => k_is); (case so4 => k_is); (case nso4 => first | rfl | decide +kernel); (case ao5c => k_is); (case xo5h => k_is); (case xo5t => k_is)
    (case so5 => k_is); (case nso5 => first | rfl | decide +kernel); (case ao6c => k_is); (case xo6h => k_is); (case xo6t => k_is); (case so6 => k_is); (case nso6 => first | rfl | decide +kernel); (case aOP => k_is)
    (case lOP => k_is); (case cOP => k_is); (case kOP => k_is); (case tOP => k_is); (case hG => k_is); (case hPg => k_is); (case hHd => k_is); (case hPo => k_is)
    (case hSa => k_is); (case hN0 => k_is); (case hN1 => k_is); (case hN2 => k_is); (case hN3 => k_is); (case hN4 => k_is); (case hMk => k_is); (case hKp => k_is)
    (case hGw => k_is); (case hGwg => k_is); (case hGwt => k_is); (case hGwr => k_is); (case lmGw => k_is); (case cmGw => k_is); (case kmGw => k_is); (case hI => k_is)
    (case lGI => k_is); (case cGI => k_is); (case kGI => k_is); (case tGI => k_is); (case hIn => k_is); (case e00 => k_is); (case tG => k_is); (case tPg => k_is)
    (case tHd => k_is); (case tPo => k_is); (case tSa => k_is); (case tN0 => k_is); (case tN1 => k_is); (case tN2 => k_is); (case tN3 => k_is); (case tMk => k_is)
    (case tKp => k_is); (case tI => k_is); (case lTI => k_is); (case cTI => k_is); (case kTI => k_is); (case tIn => k_is); (case tD0 => k_is); (case tD1 => k_is)
    (case tTR => k_is); (case tTRg => k_is); (case tTRt => k_is); (case tTRr => k_is); (case lmTR => k_is); (case cmTR => k_is); (case kmTR => k_is); (case tTr => k_is)
    (case lmTr => k_is); (case cmTr => k_is); (case kmTr => k_is); (case nTr => k_is); (case tTo => k_is); (case lmTo => k_is); (case cmTo => k_is); (case kmTo => k_is)
    (case nTo => k_is); (case tTa => k_is); (case lmTa => k_is); (case cmTa => k_is); (case kmTa => k_is); (case nTa => k_is); (case qG => k_is); (case qPg => k_is)
    (case qHd => k_is); (case qPo => k_is); (case qSa => k_is); (case qN0 => k_is); (case qN1 => k_is); (case qN2 => k_is); (case qN3 => k_is); (case qN4 => k_is)
    (case qN5 => k_is); (case qN6 => k_is); (case qN7 => k_is); (case qN8 => k_is); (case qMk => k_is); (case qKp => k_is); (case qI => k_is); (case lQI => k_is)
    (case cQI => k_is); (case kQI => k_is); (case qIn => k_is); (case qD0 => k_is); (case qD1 => k_is); (case qD2 => k_is); (case qD3 => k_is); (case qD4 => k_is)
    (case e01 => k_is); (case qQw => k_is); (case qQwg => k_is); (case qQwt => k_is); (case qQwr => k_is); (case lmQw => k_is); (case cmQw => k_is); (case kmQw => k_is)
    (case qQd => k_is); (case qQdg => k_is); (case qQdt => k_is); (case qQdr => k_is); (case lmQd => k_is); (case cmQd => k_is); (case kmQd => k_is)
