import PyProof.Rows.All
import Wide.All
import OpenK.AllK
import Wide.FinOn
import HandS.TupSets
import KE.SortData
import KE.KDictKeyed
import HandS.ForMost
import PyProof.Transfer
import HandS.Wide
import HandS.StrMore
import HandS.IsInst
import HandS.Codes
import HandS.Walk
import HandS.More
import HandS.Conv
import HandS.DictComp
import HandS.ListItems
import HandS.Property
import HandS.Star
import HandS.Exc
import HandS.TryOnly
import HandS.TryMany
import HandS.ExcOwn
import HandS.WordsExc
import HandS.ExcInit
import HandS.ExcField
import HandS.ExcIs
import HandS.RaiseMore
import KE.KItemsList
import KE.KExcIs
import KE.KDictSum
import HandS.DictTup
import HandS.SortRule
import HandS.MakeKwOnly
import HandS.TupAny
import PySem.Challenge.RW_everyparcel_k14_whole_rates_part
set_option Elab.async false
set_option linter.all false
set_option maxRecDepth 100000
/-! sets of any heap keys: the table, up to 512 slots -/
namespace SH
open PySem PySem.Spec PyProof.Rows L2
/-- 1 + 5 + 25 + .. -/
def geo : Nat → Nat
  | 0 => 0
  | k + 1 => geo k * 5 + 1
theorem geo_pow : ∀ k, 5 ^ k = 4 * geo k + 1
  | 0 => rfl
  | k + 1 => by
    rw [Nat.pow_succ, geo_pow k]
    show (4 * geo k + 1) * 5 = 4 * (geo k * 5 + 1) + 1
    omega
theorem lcg_geo (m : Nat) : ∀ k, lcgN m k = geo k % (m + 1)
  | 0 => (Nat.zero_mod _).symm
  | k + 1 => by
    show (lcgN m k * 5 + 1) % (m + 1) = (geo k * 5 + 1) % (m + 1)
    rw [lcg_geo m k, Nat.add_mod, Nat.mod_mul_mod, ← Nat.add_mod]
theorem geo_eq (k : Nat) : geo k = (5 ^ k - 1) / 4 := by
  have := geo_pow k
  omega
/-- the step at which the slot j comes, bit by bit -/
def stepOf (j : Nat) : Nat := (List.range 9).foldl (fun b i => if 5 ^ b % 2 ^ (i + 3) = (4 * j + 1) % 2 ^ (i + 3) then b else b + 2 ^ i) 0
theorem steps512 : ((List.range 512).all fun j => decide (stepOf j ≤ 511 ∧ (5 ^ stepOf j - 1) / 4 % 512 = j)) = true := by decide +kernel
/-- soon enough each slot begins a run -/
def Meets (m : Nat) : Prop := ∀ (g : Int) (j : Nat), j ≤ m → ∃ n, n ≤ m + 12 ∧ runI m (SetTable.bits g) n = j
theorem meets_of {m : Nat} (all : ∀ j, j ≤ m → ∃ b, b ≤ m ∧ lcgN m b = j) (round : lcgN m (m + 1) = 0) : Meets m := by
  have per : ∀ k, lcgN m (m + 1 + k) = lcgN m k := by
    intro k
    induction k with
    | zero => exact round
    | succ k ih => exact congrArg (fun x => (x * 5 + 1) % (m + 1)) ih
  intro g j hj
  obtain ⟨a, ha, ea⟩ := all _ (runI_le m (SetTable.bits g) 12)
  obtain ⟨b, hb, eb⟩ := all j hj
  have key : ∀ k, lcgN m (a + k) = j → runI m (SetTable.bits g) (12 + k) = j := fun k e => by
    rw [runI_tail (bits_lt g), ← ea, lcgN_add, e]
  by_cases c : a ≤ b
  · exact ⟨12 + (b - a), by omega, key _ (by rw [show a + (b - a) = b by omega, eb])⟩
  · exact ⟨12 + (m + 1 + b - a), by omega, key _ (by rw [show a + (m + 1 + b - a) = m + 1 + b by omega, per, eb])⟩
theorem meets511 : Meets 511 := by
  refine meets_of (fun j hj => ?_) ?_
  · have h := List.all_eq_true.mp steps512 j (List.mem_range.mpr (by omega))
    rw [decide_eq_true_eq] at h
    exact ⟨stepOf j, h.1, by rw [lcg_geo, geo_eq]; exact h.2⟩
  · rw [lcg_geo, geo_eq]
    decide +kernel
/-- the masks that come with fewer than 300 members -/
def Mk (m : Nat) : Prop := MaskOk m ∨ m = 511
theorem Mk.meets {m : Nat} (h : Mk m) : Meets m := by
  rcases h with h | rfl
  · exact fun g j hj => run_meets h g hj
  · exact meets511
theorem Mk.odd {m : Nat} (h : Mk m) : m % 2 = 1 := by
  rcases h with h | rfl
  · exact mask_odd h
  · rfl
theorem Mk.cases {m : Nat} (h : Mk m) : m = 7 ∨ m = 31 ∨ m = 127 ∨ m = 511 := by
  rcases h with (h | h | h) | h
  · exact .inl h
  · exact .inr (.inl h)
  · exact .inr (.inr (.inl h))
  · exact .inr (.inr (.inr h))
theorem way_in (m : Nat) (g : Int) (k : Nat) : way m g k ≤ m := by
  have r := runEnd_bd (Nat.le_of_lt_succ (Nat.mod_lt (SetTable.bits g) (Nat.succ_pos m)))
  have q := nth_in (m := m) k (runAt m (SetTable.bits g % (m + 1)) (SetTable.bits g)) (by
    show SetTable.bits g % (m + 1) + (SetTable.runEnd m (SetTable.bits g % (m + 1)) - SetTable.bits g % (m + 1)) ≤ m
    rw [Nat.add_sub_cancel' r.2.1]
    exact r.1)
  exact Nat.le_trans (Nat.le_add_right _ _) q
theorem way_meets {m : Nat} (hm : Meets m) (g : Int) {j : Nat} (hj : j ≤ m) : ∃ k, k < 10 * SetTable.turns m ∧ way m g k = j := by
  obtain ⟨n, hn, e⟩ := hm g j hj
  obtain ⟨k, hk, e2⟩ := run_nth m (SetTable.bits g) n
  exact ⟨k, by unfold SetTable.turns; omega, (congrArg SetTable.Probe.j e2).trans e⟩
/-- each member is found again from its hash gs -/
structure TabM (t : SetTable) (gs : List Int) : Prop where
  up : Ris t.place.toList
  no : t.dummies = #[]
  n : t.place.size = gs.length
  msk : Mk t.mask
  le : ∀ x, x ∈ t.place.toList → x ≤ t.mask
  at' : ∀ (i : Nat) (g : Int) (j : Nat), gs[i]? = some g → t.place.toList[i]? = some j → ∃ k, way t.mask g k = j ∧ ∀ c, c < k → way t.mask g c ∈ t.place.toList
section
variable {t : SetTable} {gs : List Int}
theorem TabM.len (T : TabM t gs) : t.place.toList.length = gs.length := (Array.length_toList).trans T.n
theorem TabM.gap (T : TabM t gs) (hl : gs.length ≤ t.mask) (g : Int) : ∃ K, K < 10 * SetTable.turns t.mask ∧ way t.mask g K ∉ t.place.toList ∧ ∀ c, c < K → way t.mask g c ∈ t.place.toList := by
  obtain ⟨j, hj, hn⟩ := st_missing t.place.toList (t.mask + 1) (by rw [T.len]; omega)
  obtain ⟨k, hk, e⟩ := way_meets T.msk.meets g (Nat.le_of_lt_succ hj)
  obtain ⟨K, h1, h2, h3⟩ := st_least (p := fun c => way t.mask g c ∉ t.place.toList) k (fun z => hn (e ▸ z))
  exact ⟨K, Nat.lt_of_le_of_lt h1 hk, h2, fun c hc => Classical.not_not.mp (h3 c hc)⟩
theorem TabM.ahead (T : TabM t gs) {g : Int} {K i j : Nat} (hK : way t.mask g K ∉ t.place.toList) (hi : gs[i]? = some g) (hj : t.place.toList[i]? = some j) : ∃ k, k < K ∧ way t.mask g k = j := by
  obtain ⟨k, e, hb⟩ := T.at' i g j hi hj
  refine ⟨k, Nat.lt_of_not_le fun z => ?_, e⟩
  rcases Nat.lt_or_eq_of_le z with c | c
  · exact hK (hb K c)
  · exact hK (c ▸ e ▸ List.mem_of_getElem? hj)
theorem TabM.put (T : TabM t gs) {g : Int} {K : Nat} (hK : way t.mask g K ∉ t.place.toList) (hb : ∀ c, c < K → way t.mask g c ∈ t.place.toList) :
    SetTable.below t.place (way t.mask g K) ≤ gs.length ∧ TabM (t.put (way t.mask g K)).1 (gs.take (SetTable.below t.place (way t.mask g K)) ++ g :: gs.drop (SetTable.below t.place (way t.mask g K))) ∧ (t.put (way t.mask g K)).1.fill = gs.length + 1 := by
  have hin := way_in t.mask g K
  generalize hj : way t.mask g K = j at hK hin ⊢
  obtain ⟨c1, _, _⟩ := below_cut T.up j
  have b1 : SetTable.below t.place j ≤ t.place.toList.length := by rw [Array.length_toList]; exact c1
  have b2 : SetTable.below t.place j ≤ gs.length := T.len ▸ b1
  have pp := put_place t j
  have sz : (t.put j).1.place.size = gs.length + 1 := by rw [← Array.length_toList, pp, len_ins _ b1, T.len]
  have sub : ∀ x, x ∈ t.place.toList → x ∈ (t.put j).1.place.toList := fun x hx => by
    rw [pp]
    exact mem_ins.mpr (.inr hx)
  have pd := put_dm T.no j
  refine ⟨b2, ⟨ris_insert T.up fun e => hK (List.mem_of_getElem? (i := SetTable.below t.place j) (by rw [Array.getElem?_toList]; exact e)), pd, by rw [len_ins _ b2, sz], T.msk, fun x hx => ?_, fun i g' j' e1 e2 => ?_⟩, ?_⟩
  · rw [pp] at hx
    rcases mem_ins.mp hx with z | z
    · exact z ▸ hin
    · exact T.le x z
  · rw [tins_get gs b2] at e1
    rw [pp, tins_get _ b1] at e2
    have old : ∀ i', gs[i']? = some g' → t.place.toList[i']? = some j' → ∃ k, way t.mask g' k = j' ∧ ∀ c, c < k → way t.mask g' c ∈ (t.put j).1.place.toList := fun i' z1 z2 => by
      obtain ⟨k, e, z⟩ := T.at' i' g' j' z1 z2
      exact ⟨k, e, fun c hc => sub _ (z c hc)⟩
    by_cases lo : i < SetTable.below t.place j
    · rw [if_pos lo] at e1 e2
      exact old i e1 e2
    · rw [if_neg lo] at e1 e2
      by_cases eq : i = SetTable.below t.place j
      · rw [if_pos eq] at e1 e2
        cases e1
        cases e2
        exact ⟨K, hj, fun c hc => sub _ (hb c hc)⟩
      · rw [if_neg eq] at e1 e2
        exact old (i - 1) e1 e2
  · show (t.put j).1.place.size + (t.put j).1.dummies.size = _
    rw [sz, pd]
    rfl
end
/-! laying anew -/
theorem free_way {m : Nat} (hm : Meets m) (ow : Array (Option Nat)) (g : Int) {j : Nat} (hj : j ≤ m) (hf : oAt ow j = none) :
    ∃ K, SetTable.layClean.free m ow (SetTable.turns m) (SetTable.bits g % (m + 1)) (SetTable.bits g) = some (way m g K) ∧ oAt ow (way m g K) = none ∧ ∀ c, c < K → oAt ow (way m g c) ≠ none := by
  obtain ⟨n, hn, e⟩ := hm g j hj
  have hw : way m g (off m (SetTable.bits g % (m + 1)) (SetTable.bits g) n) = j := by
    show (nth m (runAt m _ _) _).j = j
    rw [nth_off, itL_run]
    exact e
  obtain ⟨K, k1, k2, k3⟩ := st_least (p := fun c => oAt ow (way m g c) = none) _ (show oAt ow (way m g (off m (SetTable.bits g % (m + 1)) (SetTable.bits g) n)) = none by rw [hw]; exact hf)
  refine ⟨K, free_spec m ow _ n _ _ K (by unfold SetTable.turns; omega) k1 (fun c hc => ?_) (by rw [show oAt ow (nth m _ K).j = none from k2]; rfl), k2, k3⟩
  cases z : oAt ow (nth m (runAt m (SetTable.bits g % (m + 1)) (SetTable.bits g)) c).j with
  | none => exact absurd z (k3 c hc)
  | some _ => rfl
theorem own_next {m : Nat} (hm : Meets m) {done : List Int} {ow : Array (Option Nat)} (W : Own m done ow) (hl : done.length ≤ m) (g : Int) :
    ∃ j, SetTable.layClean.free m ow (SetTable.turns m) (SetTable.bits g % (m + 1)) (SetTable.bits g) = some j ∧ Own m (done ++ [g]) (ow.setIfInBounds j (some done.length)) := by
  obtain ⟨ps, hps, hin⟩ := W.ps
  obtain ⟨j0, h0, hn0⟩ := st_missing ps (m + 1) (hps ▸ Nat.lt_succ_of_le hl)
  obtain ⟨K, e1, e2, e3⟩ := free_way hm ow g (Nat.le_of_lt_succ h0) (Classical.byContradiction fun z => hn0 (hin j0 (Nat.le_of_lt_succ h0) z))
  have hjm := way_in m g K
  generalize hj : way m g K = j at e1 e2 hjm
  have hjs : j < ow.size := by rw [W.sz]; omega
  have self := oAt_set_self (some done.length) hjs
  have up : ∀ i, oAt ow i ≠ none → oAt (ow.setIfInBounds j (some done.length)) i ≠ none := fun i hi => by
    by_cases c : i = j
    · rw [c, self]
      exact Option.some_ne_none _
    · rw [oAt_set_ne _ c]
      exact hi
  refine ⟨j, e1, by rw [Array.size_setIfInBounds]; exact W.sz, fun i k hi e => ?_, fun k hk => ?_, j :: ps, by simp [hps], fun i hi e => ?_⟩
  · by_cases c : i = j
    · rw [c, self] at e
      cases e
      exact ⟨g, K, by rw [List.getElem?_append_right (Nat.le_refl _), Nat.sub_self]; rfl, hj.trans c.symm, fun c' hc' => up _ (e3 c' hc')⟩
    · rw [oAt_set_ne _ c] at e
      obtain ⟨g', K', a1, a2, a3⟩ := W.at_ i k hi e
      exact ⟨g', K', by rw [List.getElem?_append_left (List.getElem?_eq_some_iff.mp a1).1]; exact a1, a2, fun c' hc' => up _ (a3 c' hc')⟩
  · by_cases c : k = done.length
    · exact ⟨j, hjm, c ▸ self⟩
    · rw [List.length_append] at hk
      obtain ⟨i, hi, e⟩ := W.all k (by simp at hk; omega)
      exact ⟨i, hi, by rw [oAt_set_ne _ (fun z => by rw [z, e2] at e; cases e)]; exact e⟩
  · by_cases c : i = j
    · exact c ▸ List.mem_cons_self
    · rw [oAt_set_ne _ c] at e
      exact List.mem_cons_of_mem _ (hin i hi e)
theorem lay_fold {m : Nat} (hm : Meets m) : ∀ (more done : List Int) (ow : Array (Option Nat)), Own m done ow → done.length + more.length ≤ m → ∃ ow', more.foldl (stepF m) (some (ow, done.length)) = some (ow', (done ++ more).length) ∧ Own m (done ++ more) ow'
  | [], done, ow, W, _ => by
    rw [List.append_nil]
    exact ⟨ow, rfl, W⟩
  | g :: more, done, ow, W, hl => by
    have hl2 : done.length + (more.length + 1) ≤ m := hl
    obtain ⟨j, e, W'⟩ := own_next hm W (by omega) g
    have q := lay_fold hm more (done ++ [g]) _ W' (by rw [List.length_append]; show done.length + 1 + more.length ≤ m; omega)
    rw [List.append_assoc, List.length_append] at q
    obtain ⟨ow', f, W2⟩ := q
    refine ⟨ow', ?_, W2⟩
    rw [List.foldl_cons, stepF_some (k := done.length) e]
    exact f
theorem lay_clean {m : Nat} (hm : Meets m) {hs : Array Int} (hn : hs.size ≤ m) : ∃ ow, SetTable.layClean m hs = some ow ∧ Own m hs.toList ow := by
  obtain ⟨ow, f, W⟩ := lay_fold hm hs.toList [] _ (Own.init m) (by show 0 + hs.toList.length ≤ m; rw [Array.length_toList]; omega)
  exact ⟨ow, by rw [layClean_eq, show hs.toList.foldl (stepF m) (some (Array.replicate (m + 1) none, 0)) = _ from f]; rfl, W⟩
theorem relaid_tab (t : SetTable) {hs : Array Int} {wanted M : Nat} (hw : SetTable.sizeAbove wanted - 1 = M) (hM : Mk M) (hn : hs.size ≤ M) :
    ∃ t' order, t.relaid hs wanted = some (t', order) ∧ order.toList.Perm (List.range hs.size) ∧ TabM t' (order.toList.map fun i => hs.getD i 0) ∧ t'.mask = M ∧ t'.led = t.led := by
  obtain ⟨ow, e, W⟩ := lay_clean hM.meets hn
  have er : t.relaid hs wanted = some (tabOf t M ow, ((liveOf M ow).map (·.2)).toArray) := by
    rw [relaid_eq, hw, e]
    rfl
  have rr := ris_live (fun j => ow.getD j none) (List.range (M + 1)) (by unfold Ris; exact List.pairwise_lt_range)
  have r1 : Ris ((liveOf M ow).map (·.1)) := rr.1
  have r2 : ∀ x ∈ (liveOf M ow).map (·.1), x ∈ List.range (M + 1) := rr.2
  have hz : hs.toList.length = hs.size := Array.length_toList
  have hlen : (liveOf M ow).length = hs.size := by
    obtain ⟨ps, p1, p2⟩ := W.ps
    have a : ((liveOf M ow).map (·.1)).length ≤ ps.length := nat_nodup_len _ ps (List.Pairwise.imp (fun h => Nat.ne_of_lt h) r1) fun x hx => by
      obtain ⟨⟨y, k⟩, hq, rfl⟩ := List.mem_map.mp hx
      have ⟨b1, b2⟩ := (mem_live W.sz).mp hq
      exact p2 y b1 (by rw [b2]; exact Option.some_ne_none _)
    have b : (List.range hs.size).length ≤ ((liveOf M ow).map (·.2)).length := nat_nodup_len _ _ List.nodup_range fun k hk => by
      obtain ⟨j, b1, b2⟩ := W.all k (by rw [hz]; exact List.mem_range.mp hk)
      exact List.mem_map.mpr ⟨_, (mem_live W.sz).mpr ⟨b1, b2⟩, rfl⟩
    rw [List.length_map] at a b
    rw [List.length_range] at b
    omega
  refine ⟨_, _, er, perm_range hs.size _ (by simpa using hlen) fun k hk => ?_, ⟨r1, rfl, by simp [tabOf], hM, fun x hx => Nat.le_of_lt_succ (List.mem_range.mp (r2 x hx)), fun i g j h1 h2 => ?_⟩, rfl, rfl⟩
  · obtain ⟨j, b1, b2⟩ := W.all k (by rw [hz]; exact hk)
    exact List.mem_map.mpr ⟨_, (mem_live W.sz).mpr ⟨b1, b2⟩, rfl⟩
  · have z1 : (((liveOf M ow).map (·.2)).map fun i => hs.getD i 0)[i]? = some g := h1
    have z2 : ((liveOf M ow).map (·.1))[i]? = some j := h2
    rw [List.getElem?_map, List.getElem?_map] at z1
    rw [List.getElem?_map] at z2
    cases hq : (liveOf M ow)[i]? with
    | none =>
      rw [hq] at z2
      cases z2
    | some q =>
      rw [hq] at z1 z2
      cases z2
      have ⟨b1, b2⟩ := (mem_live W.sz).mp (List.mem_of_getElem? hq)
      obtain ⟨g0, K, a1, a2, a3⟩ := W.at_ q.1 q.2 b1 b2
      have eg : g0 = g := by
        have u : hs.getD q.2 0 = g := Option.some.inj z1
        rw [Array.getD_eq_getD_getElem?, ← Array.getElem?_toList, a1] at u
        exact u
      subst eg
      refine ⟨K, a2, fun c hc => ?_⟩
      show way M g0 c ∈ (liveOf M ow).map (·.1)
      cases z : oAt ow (way M g0 c) with
      | none => exact absurd z (a3 c hc)
      | some k2 => exact List.mem_map.mpr ⟨(way M g0 c, k2), (mem_live W.sz).2 ⟨way_in M g0 c, z⟩, rfl⟩
theorem sizes : SetTable.sizeAbove (SetTable.grown 5) = 32 ∧ SetTable.sizeAbove (SetTable.grown 19) = 128 ∧ SetTable.sizeAbove (SetTable.grown 77) = 512 := by decide +kernel
end SH
/-! sets of any heap keys: the search, and adding -/
namespace SH
open PySem PySem.Spec PyProof.Rows L2
/-- the c-th probe for the hash g -/
def pb (m : Nat) (g : Int) (c : Nat) : SetTable.Probe := nth m (runAt m (SetTable.bits g % (m + 1)) (SetTable.bits g)) c
theorem pb_add (m : Nat) (g : Int) (c q : Nat) : nth m (pb m g c) q = pb m g (c + q) := (nth_add m c _ q).symm
theorem pb_dummy (m : Nat) (g : Int) : ∀ c, (pb m g c).dummy = none
  | 0 => rfl
  | c + 1 => by
    rw [← pb_add m g c 1]
    show (adv m (pb m g c)).dummy = none
    unfold adv
    split <;> exact pb_dummy m g c
section
variable {P : Program} {w : World} {κ : Type} [DecidableEq κ] {knd : HeapKind P w κ} {A : Around} {E : Value → Shared → Prop} {s : Shared}
/-- what a set asks of a member beside its hash -/
structure Calm (knd : HeapKind P w κ) : Prop where
  st : knd.Stays
  cl : ∀ {A : Around} {E : Value → Shared → Prop} {s : Shared} {k : κ} {b : Addr} {Q : Bool → Shared → Prop}, knd.is s.heap k b → Q false s → wpAny (model P w) A (ofAClassStatement 8 (.ref b)) Q E s
  hv : ∀ {A : Around} {E : Value → Shared → Prop} {s : Shared} {k : κ} {b : Addr} {Q : Bool → Shared → Prop}, knd.is s.heap k b → (∀ r, Q r s) → wpAny (model P w) A (hashByValue 8 (.ref b)) Q E s
theorem seen_no (C : Calm knd) {k : κ} {b : Addr} {Q : Bool → Shared → Prop} (hk : knd.is s.heap k b) {ys : List Value} (hy : ∀ y ∈ ys, ∃ k' c, y = Value.ref c ∧ knd.is s.heap k' c) (h : Q false s) :
    wpAny (model P w) A (searchCouldBeSeen (.ref b) ys) Q E s := by
  unfold searchCouldBeSeen
  refine wpAny_bind (wpAny_forIn_list _ (fun rest r z => z = s ∧ r.1 = none ∧ ∀ y ∈ rest, ∃ k' c, y = Value.ref c ∧ knd.is s.heap k' c) _ (fun v rest r z hz => ?_) (fun r z hz => ?_) _ _ ⟨rfl, rfl, hy⟩)
  · obtain ⟨rfl, hr, al⟩ := hz
    obtain ⟨k', c, rfl, hc⟩ := al v List.mem_cons_self
    have tl : ∀ y ∈ rest, ∃ k' c, y = Value.ref c ∧ knd.is z.heap k' c := fun y hy => al y (List.mem_cons_of_mem _ hy)
    dsimp only
    by_cases e : (b == c || (carriedByValue (.ref b) && carriedByValue (.ref c))) = true
    · exact wp_if_pos e (wpAny_pure ⟨rfl, rfl, tl⟩)
    · refine wp_if_neg e (wpAny_bind (knd.quiet hk ?_))
      rw [Bool.not_true, if_neg Bool.false_ne_true]
      refine wpAny_bind (knd.quiet hc ?_)
      rw [Bool.not_true, if_neg Bool.false_ne_true]
      refine wpAny_bind (C.cl hk ?_)
      rw [if_neg Bool.false_ne_true]
      refine wpAny_bind (C.cl hc ?_)
      rw [if_neg Bool.false_ne_true]
      exact wpAny_pure ⟨rfl, rfl, tl⟩
  · obtain ⟨r1, r2⟩ := r
    obtain ⟨rfl, hr, _⟩ := hz
    cases (show r1 = none from hr)
    exact wpAny_pure h
/-- the set at a, of the members L (their places, their keys) in the table's order -/
structure SetH (knd : HeapKind P w κ) (h : Heap) (a : Addr) (L : List (Addr × κ)) (es : Array (Int × Value)) (ep : Nat) (t : SetTable) : Prop where
  ob : ∃ o, h.get? a = some o ∧ o.ExactSet ∧ o.data = .set es ep t
  rows : es.toList = L.map fun p => (knd.hash p.2, Value.ref p.1)
  tab : TabM t (L.map fun p => knd.hash p.2)
  nd : (L.map (·.2)).Nodup
  el : ∀ p ∈ L, knd.is h p.2 p.1
  ld : w.params.followText "set-order" = true ∨ t.led = true
  gap : L.length * 5 < t.mask * 3
variable {a : Addr} {L : List (Addr × κ)} {es : Array (Int × Value)} {ep : Nat} {t : SetTable}
theorem rows_size (h : es.toList = L.map fun p => (knd.hash p.2, Value.ref p.1)) : es.size = L.length := by
  rw [← Array.length_toList, h, List.length_map]
theorem rows_at (h : es.toList = L.map fun p => (knd.hash p.2, Value.ref p.1)) {i : Nat} {p : Addr × κ} (e : L[i]? = some p) : es[i]? = some (knd.hash p.2, Value.ref p.1) := by
  rw [← Array.getElem?_toList, h, List.getElem?_map, e]
  rfl
theorem fits_of {gs : List Int} (T : TabM t gs) {n : Nat} (hn : gs.length = n) (hl : n ≤ t.mask) : t.fits n = true := by
  have := T.n
  unfold SetTable.fits SetTable.fill
  rw [T.no, Bool.and_eq_true, beq_iff_eq, decide_eq_true_eq]
  show t.place.size = n ∧ t.place.size + 0 ≤ t.mask
  omega
theorem SetH.fits (R : SetH knd s.heap a L es ep t) : t.fits es.size = true := by
  have h2 := R.gap
  have h3 := rows_size R.rows
  exact fits_of R.tab (by rw [List.length_map]; exact h3.symm) (by omega)
theorem SetH.small (R : SetH knd s.heap a L es ep t) : L.length ≤ 306 := by
  have h2 := R.gap
  rcases R.tab.msk.cases with e | e | e | e <;> omega
/-- the search from its c-th step on; K: the first gap on the way -/
theorem look (C : Calm knd) (R : SetH knd s.heap a L es ep t) {x : Addr} {k : κ} (hx : knd.is s.heap k x) (hr : knd.room A) {K : Nat} (hKf : K < 10 * SetTable.turns t.mask)
    (hK : way t.mask (knd.hash k) K ∉ t.place.toList) (hKb : ∀ c, c < K → way t.mask (knd.hash k) c ∈ t.place.toList) {Q : SetFound → Shared → Prop}
    (yes : k ∈ L.map (·.2) → Q (.there none) s) (no : k ∉ L.map (·.2) → Q (.free (way t.mask (knd.hash k) K) false) s) :
    ∀ (f c : Nat) (stand : Option SetTable.Probe), stand.getD (t.probeStart (knd.hash k)) = pb t.mask (knd.hash k) c → c ≤ K → K - c < f →
      (∀ (i : Nat) p, L[i]? = some p → p.2 = k → ∃ d, c ≤ d ∧ d < K ∧ t.place.toList[i]? = some (way t.mask (knd.hash k) d)) →
      wpAny (model P w) A (setSearchFrom a (.ref x) (knd.hash k) true f stand) Q E s
  | 0, c, stand, _, _, hf, _ => absurd hf (Nat.not_lt_zero _)
  | f + 1, c, stand, hst, hc, hf, hre => by
    obtain ⟨o, ho, hex, hd⟩ := R.ob
    have odd := R.tab.msk.odd
    rw [setSearchFrom_succ]
    refine wpAny_bind (wpAny_setState_of ho hd R.fits ?_)
    dsimp only
    refine wp_if_neg (by unfold SetTable.gaveWay; rw [odd]; decide) ?_
    try refine wpAny_bind (wpAny_pure ?_)
    have hz : c + (K - c) = K := by omega
    have hs : ∀ (i : Nat) p, L[i]? = some p → (fun i => (es[i]?.map (·.1)).getD 0) i = knd.hash p.2 := fun i p hp => by
      show (es[i]?.map (·.1)).getD 0 = _
      rw [rows_at R.rows hp]
      rfl
    have J : ∀ q, (nth t.mask (pb t.mask (knd.hash k) c) q).j = way t.mask (knd.hash k) (c + q) := fun q => congrArg SetTable.Probe.j (pb_add t.mask (knd.hash k) c q)
    rcases go_spec t R.tab.up R.tab.no (fun i => (es[i]?.map (·.1)).getD 0) (knd.hash k) (10 * SetTable.turns t.mask) (K - c) (pb t.mask (knd.hash k) c) (pb_dummy _ _ _) (by omega)
      (fun q hq => by rw [J]; exact hKb _ (by omega)) (by rw [J, hz]; exact hK) with ⟨q, i, hq, hi, _, first, pr⟩ | ⟨first, pr⟩
    · rw [J] at hi
      have pr2 : t.probe (fun i => (es[i]?.map (·.1)).getD 0) (knd.hash k) (stand.getD (t.probeStart (knd.hash k))) = some (.candidate (way t.mask (knd.hash k) (c + q)) i (pb t.mask (knd.hash k) (c + (q + 1)))) := by
        rw [hst, ← J, ← pb_add]
        exact pr
      rw [pr2]
      dsimp only
      have il : i < L.length := by
        have h1 := (List.getElem?_eq_some_iff.mp hi).1
        rw [R.tab.len, List.length_map] at h1
        exact h1
      obtain ⟨p, hp⟩ : ∃ p, L[i]? = some p := ⟨_, List.getElem?_eq_getElem il⟩
      have pm := List.mem_of_getElem? hp
      have rest : wpAny (model P w) A (searchRest a (.ref x) (knd.hash k) true f es t (way t.mask (knd.hash k) (c + q)) i (pb t.mask (knd.hash k) (c + (q + 1)))) Q E s := by
        unfold searchRest
        rw [rows_at R.rows hp]
        dsimp only
        refine wpAny_bind (wpAny_holding (knd.eqBool hr (R.el p pm) hx (wpAny_bind (wpAny_setState_of ho hd R.fits ?_))))
        dsimp only
        by_cases e : p.2 = k
        · exact wp_if_pos (by simp [e]) (wpAny_pure (yes (List.mem_map.mpr ⟨p, pm, e⟩)))
        · refine wp_if_neg (by simp [e]) ?_
          try refine wpAny_bind (wpAny_pure ?_)
          have live : t.slot (way t.mask (knd.hash k) (c + q)) = .live i := slot_live R.tab.up hi
          rw [sameMem]
          dsimp only
          simp only [if_true, live, rows_at R.rows hp]
          refine wpAny_bind (wpAny_isSame_ref_self (wpAny_bind (wpAny_pure ?_)))
          simp only [if_true]
          refine wp_if_neg (by simp [e]) ?_
          refine look C R hx hr hKf hK hKb yes no f (c + (q + 1)) _ rfl (by omega) (by omega) fun i0 p0 h0 k0 => ?_
          obtain ⟨d, d1, d2, d3⟩ := hre i0 p0 h0 k0
          refine ⟨d, Nat.lt_of_not_le fun z => ?_, d2, d3⟩
          rcases Nat.lt_or_eq_of_le z with z | z
          · exact first (d - c) i0 (Nat.sub_lt_left_of_lt_add d1 z) (by rw [J, Nat.add_sub_cancel' d1]; exact d3) ((hs i0 p0 h0).trans (congrArg knd.hash k0))
          · have z : d = c + q := z
            have s0 := slot_live R.tab.up d3
            rw [z, live] at s0
            cases s0
            rw [hp] at h0
            cases h0
            exact e k0
      by_cases hl : t.led = true
      · refine wp_if_neg (by simp [hl]) ?_
        try refine wpAny_bind (wpAny_pure ?_)
        exact rest
      · refine wp_if_pos (by simp [hl]) (wpAny_bind (seen_no C hx (fun y hy => ?_) ?_))
        · obtain ⟨u, hu, rfl⟩ := List.mem_map.mp hy
          have hu2 : u ∈ es.toList := by
            have h1 : u ∈ es ∧ u.1 = knd.hash k := by simpa using hu
            simpa using h1.1
          rw [R.rows] at hu2
          obtain ⟨p2, hp2, rfl⟩ := List.mem_map.mp hu2
          exact ⟨p2.2, p2.1, rfl, R.el p2 hp2⟩
        · refine wp_if_neg (by decide) ?_
          try refine wpAny_bind (wpAny_pure ?_)
          exact rest
    · have pr2 : t.probe (fun i => (es[i]?.map (·.1)).getD 0) (knd.hash k) (stand.getD (t.probeStart (knd.hash k))) = some (.empty (way t.mask (knd.hash k) K) none) := by
        have e2 := J (K - c)
        rw [hz] at e2
        rw [hst, ← e2]
        exact pr
      rw [pr2]
      dsimp only
      refine wpAny_pure (no fun hm => ?_)
      obtain ⟨p0, h0, k0⟩ := List.mem_map.mp hm
      obtain ⟨i0, hi0⟩ := List.mem_iff_getElem?.mp h0
      obtain ⟨d, d1, d2, d3⟩ := hre i0 p0 hi0 k0
      exact first (d - c) i0 (by omega) (by rw [J, Nat.add_sub_cancel' d1]; exact d3) ((hs i0 p0 hi0).trans (congrArg knd.hash k0))
/-- the search that adding makes -/
theorem look_at (C : Calm knd) (R : SetH knd s.heap a L es ep t) {x : Addr} {k : κ} (hx : knd.is s.heap k x) (hr : knd.room A) {Q : SetFound → Shared → Prop} (yes : k ∈ L.map (·.2) → Q (.there none) s)
    (no : ∀ K, k ∉ L.map (·.2) → way t.mask (knd.hash k) K ∉ t.place.toList → (∀ c, c < K → way t.mask (knd.hash k) c ∈ t.place.toList) → Q (.free (way t.mask (knd.hash k) K) false) s) :
    wpAny (model P w) A (setSearch a (.ref x) (knd.hash k) true) Q E s := by
  have g := R.gap
  obtain ⟨K, k1, k2, k3⟩ := R.tab.gap (by rw [List.length_map]; omega) (knd.hash k)
  have big : 10 * SetTable.turns t.mask ≤ 10000 := by
    unfold SetTable.turns
    rcases R.tab.msk.cases with e | e | e | e <;> omega
  unfold setSearch
  refine look C R hx hr k1 k2 k3 yes (fun n => no K n k2 k3) 100000 0 none rfl (Nat.zero_le _) (by omega) fun i p hp hk => ?_
  have hi : (L.map fun p => knd.hash p.2)[i]? = some (knd.hash k) := by
    rw [List.getElem?_map, hp, ← hk]
    rfl
  have hil : i < t.place.toList.length := by
    rw [R.tab.len]
    exact (List.getElem?_eq_some_iff.mp hi).1
  obtain ⟨c, hc, e⟩ := R.tab.ahead k2 hi (List.getElem?_eq_getElem hil)
  exact ⟨c, Nat.zero_le _, hc, by rw [List.getElem?_eq_getElem hil, e]⟩
/-- a member isn't the set -/
theorem el_same (C : Calm knd) {h h' : Heap} {k : κ} {b : Addr} {o : Obj} (hb : knd.is h k b) (ho : h.get? a = some o) (hd : o.data = .set es ep t) (hs : Heap.SameBut a h h') : knd.is h' k b := by
  refine C.st.stays (fun c u vs n hc hu => ?_) hb
  refine (hs.2 c fun e => ?_).trans hc
  rw [e, ho] at hc
  cases hc
  rw [hd] at hu
  cases hu
/-- the rows in the order of another table -/
theorem rows_order (h : es.toList = L.map fun p => (knd.hash p.2, Value.ref p.1)) (od : Array Nat) (hp : od.toList.Perm (List.range L.length)) :
    ∃ L2 : List (Addr × κ), (od.filterMap (es[·]?)).toList = (L2.map fun p => (knd.hash p.2, Value.ref p.1)) ∧ L2.Perm L ∧ (L2.map fun p => knd.hash p.2) = od.toList.map fun i => (es.map (·.1)).getD i 0 := by
  have all : (List.range L.length).filterMap (fun i => L[i]?) = L := by
    clear hp h
    have gen : ∀ (M : List (Addr × κ)), (List.range M.length).filterMap (fun i => M[i]?) = M := by
      intro M
      induction M with
      | nil => rfl
      | cons x M ih =>
        rw [List.length_cons, List.range_succ_eq_map, List.filterMap_cons_some (f := fun i => (x :: M)[i]?) (a := 0) (b := x) rfl, List.filterMap_map]
        exact congrArg (x :: ·) ih
    exact gen L
  have one : ∀ l : List Nat, (∀ i ∈ l, i < L.length) → l.filterMap (fun i => es[i]?) = ((l.filterMap fun i => L[i]?).map fun p => (knd.hash p.2, Value.ref p.1)) ∧ ((l.filterMap fun i => L[i]?).map fun p => knd.hash p.2) = l.map fun i => (es.map (·.1)).getD i 0 := by
    intro l
    induction l with
    | nil => exact fun _ => ⟨rfl, rfl⟩
    | cons i l ih =>
      intro hl
      have hi := List.getElem?_eq_getElem (hl i List.mem_cons_self)
      obtain ⟨e1, e2⟩ := ih fun j hj => hl j (List.mem_cons_of_mem _ hj)
      have e5 : (es.map (·.1))[i]? = some (knd.hash (L[i]'(hl i List.mem_cons_self)).2) := by
        rw [Array.getElem?_map, rows_at h hi]
        rfl
      rw [List.filterMap_cons_some (rows_at h hi), List.filterMap_cons_some hi, e1, List.map_cons, List.map_cons, List.map_cons, e2]
      exact ⟨rfl, by rw [Array.getD_eq_getD_getElem?, e5]; rfl⟩
  obtain ⟨e1, e2⟩ := one od.toList fun i hi => List.mem_range.mp (hp.mem_iff.mp hi)
  refine ⟨od.toList.filterMap fun i => L[i]?, by rw [Array.toList_filterMap]; exact e1, ?_, e2⟩
  have q := hp.filterMap fun i => L[i]?
  rw [all] at q
  exact q
/-- the members in a larger table -/
theorem relay (C : Calm knd) {o : Obj} (ho : s.heap.get? a = some o) (hex : o.ExactSet) (hd : o.data = .set es ep t) (rows : es.toList = L.map fun p => (knd.hash p.2, Value.ref p.1)) (hf : t.fits es.size = true)
    (nd : (L.map (·.2)).Nodup) (el : ∀ p ∈ L, knd.is s.heap p.2 p.1) (ld : w.params.followText "set-order" = true ∨ t.led = true) {wanted M : Nat}
    (hw : SetTable.sizeAbove wanted = M + 1) (hM : Mk M) (hn : L.length * 5 < M * 3) {Q : Unit → Shared → Prop}
    (hQ : ∀ h' L' es' ep' t', Heap.SameBut a s.heap h' → SetH knd h' a L' es' ep' t' → L'.Perm L → Q () { s with heap := h' }) : wpAny (model P w) A (setRelay a wanted) Q E s := by
  have hz := rows_size rows
  have hM5 : M ≤ 511 := by rcases hM.cases with e | e | e | e <;> omega
  obtain ⟨t', od, e, hp, T, em, el'⟩ := relaid_tab t (hs := es.map (·.1)) (wanted := wanted) (M := M) (by omega) hM (by rw [Array.size_map]; omega)
  rw [Array.size_map, hz] at hp
  obtain ⟨L2, r1, r2, r3⟩ := rows_order rows od hp
  rw [← r3] at T
  have z2 := (rows_size r1).trans (r2.length_eq.trans hz.symm)
  have line : sizeLine = 16777216 := rfl
  rw [setRelay_eq]
  refine wpAny_bind (wpAny_setState_of ho hd hf ?_)
  dsimp only
  refine wp_if_neg (by rw [hw]; omega) ?_
  try refine wpAny_bind (wpAny_pure ?_)
  rw [e]
  dsimp only
  refine wpAny_bind (wp_if_neg (by rw [z2]; simp) ?_)
  try refine wpAny_bind (wpAny_pure ?_)
  refine wpAny_pure ?_
  dsimp only
  refine wpAny_storeSet_of ho hd (hQ _ L2 (od.filterMap (es[·]?)) (ep + 1) t' (Heap.SameBut.update ..) ⟨⟨_, store_at ho hd, ⟨hex.1, hex.2.1, hex.2.2⟩, rfl⟩, r1, T, (r2.map (·.2)).nodup_iff.mpr nd, fun p hpm => el_same C (el p (r2.mem_iff.mp hpm)) ho hd (Heap.SameBut.update ..), by rw [el']; exact ld, by rw [r2.length_eq, em]; exact hn⟩ r2) (by rw [z2]; omega)
/-- one more member -/
theorem add (C : Calm knd) (R : SetH knd s.heap a L es ep t) {x : Addr} {k : κ} (hx : knd.is s.heap k x) (hr : knd.room A) (few : L.length + 1 ≤ 300) {Q : Bool → Shared → Prop}
    (hQ : ∀ b h' L' es' ep' t', Heap.SameBut a s.heap h' → SetH knd h' a L' es' ep' t' → (k ∈ L.map (·.2) → L' = L) → (k ∉ L.map (·.2) → L'.Perm ((x, k) :: L)) → Q b { s with heap := h' }) :
    wpAny (model P w) A (setAddHashed a (.ref x) (knd.hash k)) Q E s := by
  obtain ⟨o, ho, hex, hd⟩ := R.ob
  have line : sizeLine = 16777216 := rfl
  unfold setAddHashed
  rw [show (100000 : Nat) = 99999 + 1 from rfl, setAddHashedIn_succ]
  refine wpAny_holding (wpAny_bind (wpAny_setState_of ho hd R.fits ?_))
  dsimp only
  refine wp_if_neg (by simp [byScan, Value.scannable]) ?_
  try refine wpAny_bind (wpAny_pure ?_)
  refine wpAny_bind (look_at C R hx hr (fun hm => ?_) fun K hm hK hb => ?_)
  · exact wpAny_pure (hQ false s.heap L es ep t (Heap.SameBut.refl a s.heap) R (fun _ => rfl) fun z => absurd hm z)
  · dsimp only
    refine wpAny_bind (wpAny_setState_of ho hd R.fits ?_)
    dsimp only
    obtain ⟨q1, q2, q3⟩ := R.tab.put hK hb
    have zL := rows_size R.rows
    have gap := R.gap
    -- the table with the new slot
    have v1 : (t.put (way t.mask (knd.hash k) K)).2 = SetTable.below t.place (way t.mask (knd.hash k) K) := rfl
    have v2 : (t.put (way t.mask (knd.hash k) K)).1.mask = t.mask := rfl
    have v3 : (t.put (way t.mask (knd.hash k) K)).1.led = t.led := rfl
    generalize t.put (way t.mask (knd.hash k) K) = pt at q2 q3 v1 v2 v3 ⊢
    obtain ⟨t1, p⟩ := pt
    dsimp only at q2 q3 v1 v2 v3 ⊢
    rw [← v1] at q1 q2
    have rows1 : (SetTable.insertAt es p (knd.hash k, Value.ref x)).toList = (L.take p ++ (x, k) :: L.drop p).map fun p => (knd.hash p.2, Value.ref p.1) := by
      rw [SetTable.toList_insertAt, R.rows, List.map_append, List.map_cons, List.map_take, List.map_drop]
    have pm : (L.take p ++ (x, k) :: L.drop p).Perm ((x, k) :: L) := by
      have h := List.perm_middle (a := (x, k)) (l₁ := L.take p) (l₂ := L.drop p)
      rw [List.take_append_drop] at h
      exact h
    have hg : (L.map fun p => knd.hash p.2).take p ++ knd.hash k :: (L.map fun p => knd.hash p.2).drop p = (L.take p ++ (x, k) :: L.drop p).map fun p => knd.hash p.2 := by
      rw [List.map_append, List.map_cons, List.map_take, List.map_drop]
    rw [hg] at q2
    generalize L.take p ++ (x, k) :: L.drop p = L1 at rows1 pm q2
    have l1 := pm.length_eq
    rw [List.length_cons] at l1
    have nd1 : (L1.map (·.2)).Nodup := (pm.map (·.2)).nodup_iff.mpr (List.nodup_cons.mpr ⟨hm, R.nd⟩)
    have z1 := rows_size rows1
    generalize SetTable.insertAt es p (knd.hash k, Value.ref x) = es1 at rows1 z1
    rw [List.length_map] at q3
    -- whatever becomes of the mark «plain»
    have main : ∀ t2 : SetTable, TabM t2 (L1.map fun p => knd.hash p.2) → t2.mask = t.mask → t2.led = t.led → t2.fill = L.length + 1 →
        wpAny (model P w) A (storeSet a es1 t2 >>= fun _ => if (!false && t2.tooFull) = true then (setRelay a (SetTable.grown (es.size + 1)) >>= fun _ => pure true) else pure true) Q E s := fun t2 T2 m2 d2 f2 => by
      refine wpAny_bind (wpAny_storeSet_of ho hd ?_ (by rw [z1]; omega))
      have sb : Heap.SameBut a s.heap (s.heap.update a (Obj.putSet es1 t2)) := Heap.SameBut.update ..
      have ho1 := store_at (es' := es1) (t' := t2) ho hd
      generalize s.heap.update a (Obj.putSet es1 t2) = h1 at sb ho1 ⊢
      have el1 : ∀ p ∈ L1, knd.is h1 p.2 p.1 := fun p hp => by
        rcases List.mem_cons.mp (pm.mem_iff.mp hp) with e | hp
        · rw [e]
          exact el_same C hx ho hd sb
        · exact el_same C (R.el p hp) ho hd sb
      have ld1 : w.params.followText "set-order" = true ∨ t2.led = true := d2.symm ▸ R.ld
      by_cases hf : t2.tooFull = true
      · have full : (L.length + 1) * 5 ≥ t.mask * 3 := by
          have h := hf
          unfold SetTable.tooFull at h
          rw [decide_eq_true_eq, f2, m2] at h
          exact h
        have big : ∃ M, SetTable.sizeAbove (SetTable.grown (es.size + 1)) = M + 1 ∧ Mk M ∧ L1.length * 5 < M * 3 ∧ t.mask < M := by
          rcases R.tab.msk.cases with e | e | e | e
          · exact ⟨31, by rw [show es.size + 1 = 5 by omega]; exact sizes.1, .inl (.inr (.inl rfl)), by omega, by omega⟩
          · exact ⟨127, by rw [show es.size + 1 = 19 by omega]; exact sizes.2.1, .inl (.inr (.inr rfl)), by omega, by omega⟩
          · exact ⟨511, by rw [show es.size + 1 = 77 by omega]; exact sizes.2.2, .inr rfl, by omega, by omega⟩
          · omega
        obtain ⟨M, b1, b2, b3, b4⟩ := big
        have fin : wpAny (model P w) A (setRelay a (SetTable.grown (es.size + 1))) (fun _ s' => Q true s') E { s with heap := h1 } :=
          relay (s := { s with heap := h1 }) C ho1 ⟨hex.1, hex.2.1, hex.2.2⟩ rfl rows1 (fits_of T2 (by rw [List.length_map, z1]) (by omega)) nd1 el1 ld1 b1 b2 b3 fun h2 L2 es2 ep2 t3 sb2 R2 pm2 => hQ true h2 L2 es2 ep2 t3 (sb.trans sb2) R2 (fun z => absurd z hm) fun _ => pm2.trans pm
        exact wp_if_pos (by rw [hf]; rfl) (wpAny_bind (wpAny_mono fin (fun _ _ h => wpAny_pure h) fun _ _ h => h))
      · have fin : Q true { s with heap := h1 } := hQ true h1 L1 es1 (ep + 1) t2 sb ⟨⟨_, ho1, ⟨hex.1, hex.2.1, hex.2.2⟩, rfl⟩, rows1, T2, nd1, el1, ld1, by
          have h := hf
          unfold SetTable.tooFull at h
          rw [decide_eq_true_eq, f2, m2] at h
          omega⟩ (fun z => absurd z hm) fun _ => pm
        exact wp_if_neg (by rw [Bool.eq_false_iff.mpr hf]; decide) (wpAny_pure fin)
    have both : ∀ r : Bool, ∃ t2, (if r = true then t1 else { t1 with plain := false }) = t2 ∧ TabM t2 (L1.map fun p => knd.hash p.2) ∧ t2.mask = t.mask ∧ t2.led = t.led ∧ t2.fill = L.length + 1 := fun r => by
      cases r
      · exact ⟨{ t1 with plain := false }, rfl, ⟨q2.up, q2.no, q2.n, q2.msk, q2.le, q2.at'⟩, v2, v3, q3⟩
      · exact ⟨t1, rfl, q2, v2, v3, q3⟩
    by_cases pl : t1.plain = true
    · refine wp_if_pos pl (wpAny_bind (C.hv hx fun r => ?_))
      obtain ⟨t2, e2, f1, f2, f3, f4⟩ := both r
      rw [e2]
      exact main t2 f1 f2 f3 f4
    · refine wp_if_neg pl (wpAny_bind (wpAny_pure ?_))
      obtain ⟨t2, e2, f1, f2, f3, f4⟩ := both true
      rw [e2]
      exact main t2 f1 f2 f3 f4
end
end SH
/-! set(xs) of a list, whatever the members: by what holds of the set behind i items -/
namespace SH
open PySem PySem.Spec PyProof.Rows L2
/-- a set just made -/
abbrev fs (w : World) : Obj := { cls := .type "set", dict := none, data := .set #[] 0 (.fresh 0 0 (!w.params.followText "set-order")) }
section
variable {P : Program} {w : World} {A : Around} {E : Value → Shared → Prop} {s : Shared}
/-- what adding the item v to the set at S leaves -/
def Adds (P : Program) (w : World) (A : Around) (S : Addr) (v : Value) (J : Heap → Prop) (z : Shared) : Prop :=
  ∀ E' : Value → Shared → Prop, wpAny (model P w) A (setAdd S v) (fun _ y => ∃ h' tk, z.toks ≤ tk ∧ y = { z with heap := h', toks := tk } ∧ Heap.SameBut S z.heap h' ∧ J h') E' z
theorem set_loop {it : Addr} {fp wr : List Addr} {G : Array GenState → Array GenState → Prop} {n : Nat} {Pv : Nat → Value → Prop} {St : Nat → Shared → Prop} {R : Result → Shared → Prop} (W : WalksS P w A.in1 it fp wr G n Pv St)
    {S : Addr} (hSf : S ∉ fp) (J : Nat → Heap → Prop) (h0 : Heap) (hS0 : h0.get? S = none) (hw0 : ∀ b ∈ wr, h0.get? b = none)
    (fr : ∀ i h h', J i h → (∀ o, h.get? S = some o → h'.get? S = some o) → (∀ b o, h0.get? b = some o → h'.get? b = some o) → J i h')
    (step : ∀ i v (z : Shared), i < n → Pv i v → (∀ b o, h0.get? b = some o → z.heap.get? b = some o) → J i z.heap → Adds P w A.in1 S v (J (i + 1)) z) :
    ∀ (k i : Nat) (s : Shared), n - i = k → i ≤ n → St i s → (∀ b o, h0.get? b = some o → s.heap.get? b = some o) → J i s.heap →
      (∀ s', Moved (S :: wr) G s s' → J n s'.heap → (∀ b o, h0.get? b = some o → s'.heap.get? b = some o) → R (.ok (.ret .none)) s') →
      codeAny (model P w) A (.builtin "set.update.loop" ⟨[.ref S, .ref it], []⟩) R s := by
  have notin : S ∉ wr := fun h => hSf (W.sub _ h)
  have up : ∀ b ∈ wr, b ∈ S :: wr := fun b hb => List.mem_cons_of_mem _ hb
  have keep : ∀ {z z' : Shared}, Moved wr G z z' → (∀ b o, h0.get? b = some o → z.heap.get? b = some o) → ∀ b o, h0.get? b = some o → z'.heap.get? b = some o := fun m k b o e =>
    m.heap b o (fun hb => absurd e (by rw [hw0 b hb]; exact fun z => nomatch z)) (k b o e)
  intro k
  induction k with
  | zero =>
    intro i s hk hi hst old hJ hR
    obtain rfl : i = n := by omega
    refine codeAny_builtin F.entry_set_update_loop ?_
    rw [Around.under_plainId (id := "set.update.loop") F.plain_set_update_loop]
    show wpAny (model P w) A.in1 (pyNext (.ref it) >>= _) _ _ s
    refine wpAny_bind (W.done s _ _ hst fun z m => ?_)
    show wpAny _ A.in1 (ret .none) _ _ z
    exact wpAny_pure (hR z (m.mono up) (fr _ _ _ hJ (fun o e => m.heap S o notin e) (keep m old)) (keep m old))
  | succ k ih =>
    intro i s hk hi hst old hJ hR
    have lt : i < n := by omega
    refine codeAny_builtin F.entry_set_update_loop ?_
    rw [Around.under_plainId (id := "set.update.loop") F.plain_set_update_loop]
    show wpAny (model P w) A.in1 (pyNext (.ref it) >>= _) _ _ s
    refine wpAny_bind (W.item i s _ _ lt hst fun v z hv hz m => ?_)
    have old' := keep m old
    show wpAny _ A.in1 (holding [v] (setAdd S v) >>= _) _ _ z
    refine wpAny_bind (wpAny_holding (wpAny_mono (step i v z lt hv old' (fr _ _ _ hJ (fun o e => m.heap S o notin e) old') _) (fun _ y hy => ?_) fun _ _ h => h))
    obtain ⟨h', tk, htk, rfl, sb, hJ'⟩ := hy
    have old2 : ∀ b o, h0.get? b = some o → h'.get? b = some o := fun b o e => (sb.2 b (fun e2 => by rw [e2, hS0] at e; cases e)).trans (old' b o e)
    refine wpAny_pure ⟨plainId_quiet F.plain_set_update_loop _, ih (i + 1) _ (by omega) lt (W.frame _ z _ _ hz htk fun b hb o e => ?_) old2 hJ' fun y my hy oy => ?_⟩
    · rw [sb.2 b fun e2 => hSf (e2 ▸ hb)]
      exact e
    · refine hR y (Moved.trans W.gtrans ((m.mono up).then_heap htk fun b o hb e => ?_) my) hy oy
      rw [sb.2 b fun e2 => hb (e2 ▸ List.mem_cons_self)]
      exact e
set_option maxHeartbeats 3200000 in
/-- set(xs), xs a list: J i holds of the heap once i items are in -/
theorem call_set_of {l : Addr} {its : Array Value} {Q : Value → Shared → Prop} (hh : A.handled = none) (hl : s.heap.IsList l its) (J : Nat → Heap → Prop)
    (fr : ∀ i h h', J i h → (∀ o, h.get? s.heap.objs.size = some o → h'.get? s.heap.objs.size = some o) → (∀ b o, s.heap.get? b = some o → h'.get? b = some o) → J i h')
    (start : ∀ h, h.get? s.heap.objs.size = some (fs w) → (∀ b o, s.heap.get? b = some o → h.get? b = some o) → J 0 h)
    (step : ∀ i v (z : Shared), its[i]? = some v → (∀ b o, s.heap.get? b = some o → z.heap.get? b = some o) → J i z.heap → Adds P w A.in1.in1.in1 s.heap.objs.size v (J (i + 1)) z)
    (fin : ∀ (h' : Heap) (tk : Nat), J its.size h' → (∀ b o, s.heap.get? b = some o → h'.get? b = some o) → Q (.ref s.heap.objs.size) { s with heap := h', toks := tk }) :
    wpAny (model P w) A (call (.type "set") [.ref l]) Q E s := by
  generalize hS : s.heap.objs.size = S at fr start step fin
  obtain ⟨c, tl, hmro⟩ := F.called_set.mro
  have hmade := F.called_set.made
  have hsub := F.called_set.sub
  refine wpAny_call (codeAny_of_tree ?_)
  show wpAny _ _ (callAny (.type "set") _) _ _ _
  refine wpAny_pure ⟨Code.quiet_builtin _ (by decide +kernel), codeAny_builtin F.entry_type_call ?_⟩
  rw [Around.under_plain (weight_type_call_type "set" [.ref l] []) rfl]
  have h1 := F.called_set.notType
  have h2 := F.called_set.canCreate
  have hct := F.typeCall_set_1 (.ref l)
  repeat (any_goals (first | assumption | wp_step))
  refine codeAny_mono (code_set_led1 (.ref l) (E := E) (Q₁ := fun x z => x = .ref S ∧ z = { s with heap := s.heap.push (fs w) }) ⟨congrArg Value.ref hS, rfl⟩) fun r z hr => ?_
  cases r with
  | error e => exact hr
  | ok fl =>
    cases fl with
    | ret x =>
      obtain ⟨rfl, rfl⟩ := hr
      have atS : (s.heap.push (fs w)).get? S = some (fs w) := hS ▸ Heap.get?_push_size _ rfl
      have hT : Shared.TypeIs { s with heap := s.heap.push (fs w) } (.ref S) "set" := ⟨_, atS, rfl⟩
      have hli := F.called_set.init.lookup
      have hbi := F.called_set.init.bind (.ref S)
      repeat (any_goals (first | assumption | wp_step))
      refine codeAny_mono (codeAny_call_builtin (R := wants (fun r y => r = .none ∧ ∃ h' tk, y = { s with heap := h', toks := tk } ∧ J its.size h' ∧ ∀ b o, s.heap.get? b = some o → h'.get? b = some o) E) F.called_set.init.plain F.entry_set_init (check_set_init_1 hT ?_)) fun r y hr => ?_
      · obtain ⟨ol, hol, hcl, nl, hdl⟩ := hl
        obtain ⟨ocls, odict, odata, oslots⟩ := ol
        simp only at hcl hdl
        subst hcl
        subst hdl
        have hol' : (s.heap.push (fs w)).get? l = some { cls := .type "list", dict := odict, data := .seq its nl, slots := oslots } := Heap.get?_push_of_some _ hol
        have hl1 : (s.heap.push (fs w)).IsList l its := ⟨_, hol', rfl, nl, rfl⟩
        have hsls := F.sub_list_set
        have hslf := F.sub_list_frozenset
        have hne : (Value.type "list" == Value.type "dict") = false := by decide
        unfold Builtin.«set.__init__» noKeywords Builtin.Frozenset.updateFrom
        generalize hPI : pyIter = PI
        wp_walk
        subst hPI
        refine wpAny_pyIter_list hl1 (wpAny_bind (wpAny_runValue ?_))
        have lS : l < S := hS ▸ Heap.lt_size hol
        have z1 : (s.heap.push (fs w)).objs.size = S + 1 := by rw [Heap.size_push, hS]
        have none_of : ∀ b, S ≤ b → s.heap.get? b = none := fun b hb => by
          cases q : s.heap.get? b with
          | none => rfl
          | some o => exact absurd (Heap.lt_size q) (Nat.not_lt.mpr (hS.symm ▸ hb))
        have hh3 : A.in1.in1.in1.handled = none := by simp [hh]
        have push2 : ∀ b o, (s.heap.push (fs w)).get? b = some o → ((s.heap.push (fs w)).push { cls := .type "list_iterator", data := .fields #[.ref l, .int 0 0] }).get? b = some o := fun b o e => Heap.get?_push_of_some _ e
        refine set_loop (Walks.list hh3 (s.heap.push (fs w)).objs.size l (by rw [z1]; exact Nat.ne_of_lt (Nat.lt_succ_of_lt lS)) its).toS (S := S) (by rw [z1]; simp; exact fun e => Nat.lt_irrefl S (e.symm ▸ lS)) J s.heap (none_of S (Nat.le_refl _)) (fun b hb => none_of b (by rw [List.mem_singleton.mp hb, z1]; omega)) fr (fun i v z _ hv oz jz => step i v z hv oz jz)
          (its.size - 0) 0 _ rfl (Nat.zero_le _) ⟨⟨_, Heap.get?_push_size _ rfl, rfl, rfl⟩, hl1.push _⟩ (fun b o e => push2 b o (Heap.get?_push_of_some _ e)) (start _ (push2 S _ atS) fun b o e => push2 b o (Heap.get?_push_of_some _ e)) fun y m jy oy => ?_
        obtain ⟨h', g', d', tk', os'⟩ := y
        obtain rfl : g' = s.gens := m.gens
        obtain rfl : d' = s.drawn := m.drawn
        obtain rfl : os' = s.os := m.os
        show wpAny _ _ _ _ _ _
        refine wpAny_pure ?_
        show wpAny _ _ (ret .none) _ _ _
        exact wpAny_pure ⟨rfl, h', tk', rfl, jy, oy⟩
      · cases r with
        | error e => exact hr
        | ok fl =>
          cases fl with
          | ret r =>
            obtain ⟨rfl, h', tk, rfl, jy, oy⟩ := hr
            repeat (any_goals (first | assumption | wp_step))
            exact fin _ _ jy oy
          | _ => exact hr.elim
    | _ => exact hr.elim
end
end SH
/-! the layer's rules: set(xs) of tuples of keys, sorted of a set -/
namespace SH
open PySem PySem.Spec PyProof.Rows L2
open PySem.W (EachIs AllAlike Sortable dataLe)
/-! tuples of keys -/
abbrev TKK (P : Program) (w : World) : HeapKind P w (List Key) := tupleKind (mixKind P w)
section
variable {P : Program} {w : World} {A : Around} {E : Value → Shared → Prop} {s : Shared}
theorem items_keys {k : List Key} {vs : List Value} (h : ItemsAre (mixKind P w) k vs) : ∀ v ∈ vs, (∃ i t, v = Value.int i t) ∨ ∃ x t, v = Value.str x t := by
  induction h with
  | nil => exact fun v hv => nomatch hv
  | @cons k0 v' ks vs h1 _ ih =>
    intro v hv
    rcases List.mem_cons.mp hv with rfl | hv
    · rcases keyIs_shape h1 with ⟨i, t, _, e⟩ | ⟨x, t, _, e⟩
      · exact .inl ⟨i, t, e⟩
      · exact .inr ⟨x, t, e⟩
    · exact ih v hv
theorem cl_keys {k : List Key} {b : Addr} {Q : Bool → Shared → Prop} (hk : (TKK P w).is s.heap k b) (h : Q false s) : wpAny (model P w) A (ofAClassStatement 8 (.ref b)) Q E s := by
  have hT := IsTupleKey.typeIs hk
  obtain ⟨o, items, n, ho, _, hd, hi⟩ := hk
  unfold ofAClassStatement
  refine wpAny_bind (wpAny_typeOf hT ?_)
  dsimp only
  simp only [show (("tuple" : String) == "tuple") = true by decide, if_true, Bool.not_true, Bool.false_eq_true, if_false]
  try refine wpAny_bind (wpAny_pure ?_)
  try simp only [Bool.not_true, Bool.false_eq_true, if_false]
  show wpAny _ _ (seqItems? (.ref b) >>= _) _ _ s
  refine wpAny_bind (wpAny_seqItems ho hd ?_)
  dsimp only
  refine wpAny_bind ?_
  show wpAny _ _ (forIn items _ _) _ _ s
  rw [← Array.forIn_toList]
  refine wpAny_forIn_list _ (fun rest r z => z = s ∧ r.1 = none ∧ ∀ v ∈ rest, (∃ i t, v = Value.int i t) ∨ ∃ x t, v = Value.str x t) _ (fun v rest r z hz => ?_) (fun r z hz => ?_) _ _ ⟨rfl, rfl, items_keys hi⟩
  · obtain ⟨rfl, hr, al⟩ := hz
    have tl := fun u hu => al u (List.mem_cons_of_mem v hu)
    have e : ∀ n, ofAClassStatement n v = pure false := fun n => by
      rcases al v List.mem_cons_self with ⟨i, t, rfl⟩ | ⟨x, t, rfl⟩ <;> cases n <;> rfl
    rw [e]
    refine wpAny_bind (wpAny_pure ?_)
    rw [if_neg Bool.false_ne_true]
    exact wpAny_pure ⟨rfl, rfl, tl⟩
  · obtain ⟨r1, r2⟩ := r
    obtain ⟨rfl, hr, _⟩ := hz
    cases (show r1 = none from hr)
    exact wpAny_pure h
theorem hv_keys {k : List Key} {b : Addr} {Q : Bool → Shared → Prop} (hk : (TKK P w).is s.heap k b) (h : ∀ r, Q r s) : wpAny (model P w) A (hashByValue 8 (.ref b)) Q E s := by
  have hT := IsTupleKey.typeIs hk
  obtain ⟨o, items, n, ho, _, hd, hi⟩ := hk
  unfold hashByValue
  refine wpAny_bind (wpAny_specialOf hT F.slot_tuple_hash.lookup ?_)
  show wpAny _ _ (seqItems? (.ref b) >>= _) _ _ s
  refine wpAny_bind (wpAny_seqItems ho hd (wpAny_bind ?_))
  show wpAny _ _ (forIn items _ _) _ _ s
  rw [← Array.forIn_toList]
  refine wpAny_forIn_list _ (fun rest r z => z = s ∧ r.1 = none ∧ ∀ v ∈ rest, (∃ i t, v = Value.int i t) ∨ ∃ x t, v = Value.str x t) _ (fun v rest r z hz => ?_) (fun r z hz => ?_) _ _ ⟨rfl, rfl, items_keys hi⟩
  · obtain ⟨rfl, hr, al⟩ := hz
    have tl := fun u hu => al u (List.mem_cons_of_mem v hu)
    rcases al v List.mem_cons_self with ⟨i, t, rfl⟩ | ⟨x, t, rfl⟩
    · have e : ∀ n, hashByValue n (.int i t) = pure true := fun n => by cases n <;> rfl
      rw [e]
      refine wpAny_bind (wpAny_pure ?_)
      rw [Bool.not_true, if_neg Bool.false_ne_true]
      exact wpAny_pure ⟨rfl, rfl, tl⟩
    · have e : ∀ n, hashByValue n (.str x t) = pure false := fun n => by cases n <;> rfl
      rw [e]
      refine wpAny_bind (wpAny_pure ?_)
      rw [Bool.not_false, if_pos rfl]
      exact wpAny_pure (wpAny_pure (h false))
  · obtain ⟨r1, r2⟩ := r
    obtain ⟨rfl, hr, _⟩ := hz
    cases (show r1 = none from hr)
    exact wpAny_pure (h true)
theorem calm_keys : Calm (TKK P w) := ⟨tupleKind_stays, fun hk h => cl_keys hk h, fun hk h => hv_keys hk h⟩
end
/-! what the set has of the first i items -/
structure Has {κ : Type} (ks : List (Addr × κ)) (i : Nat) (L : List (Addr × κ)) : Prop where
  sub : ∀ p, p ∈ L → p ∈ ks.take i
  all : ∀ p, p ∈ ks.take i → p.2 ∈ L.map (·.2)
  len : L.length ≤ i
theorem Has.old {κ : Type} {ks L : List (Addr × κ)} {i : Nat} {x : Addr × κ} (g : Has ks i L) (h : ks[i]? = some x) (hm : x.2 ∈ L.map (·.2)) : Has ks (i + 1) L := by
  have e : ks.take (i + 1) = ks.take i ++ [x] := by rw [List.take_add_one, h]; rfl
  refine ⟨fun p hp => e ▸ List.mem_append_left _ (g.sub p hp), fun p hp => ?_, Nat.le_succ_of_le g.len⟩
  rw [e] at hp
  rcases List.mem_append.mp hp with z | z
  · exact g.all p z
  · exact List.mem_singleton.mp z ▸ hm
theorem Has.new {κ : Type} {ks L L' : List (Addr × κ)} {i : Nat} {x : Addr × κ} (g : Has ks i L) (h : ks[i]? = some x) (pm : L'.Perm (x :: L)) : Has ks (i + 1) L' := by
  have e : ks.take (i + 1) = ks.take i ++ [x] := by rw [List.take_add_one, h]; rfl
  refine ⟨fun p hp => ?_, fun p hp => ?_, ?_⟩
  · rw [e]
    rcases List.mem_cons.mp (pm.mem_iff.mp hp) with z | z
    · exact z ▸ List.mem_append_right _ List.mem_cons_self
    · exact List.mem_append_left _ (g.sub p z)
  · rw [(pm.map (·.2)).mem_iff, List.map_cons]
    rw [e] at hp
    rcases List.mem_append.mp hp with z | z
    · exact List.mem_cons_of_mem _ (g.all p z)
    · exact List.mem_singleton.mp z ▸ List.mem_cons_self
  · have := pm.length_eq
    have := g.len
    simp at *
    omega
/-! a set that can be walked: its members' values, in some order -/
def Walked (w : World) (h : Heap) (a : Addr) (xs : List V) : Prop := ∃ (es : Array (Int × Value)) (ep : Nat) (t : SetTable), SetAt h a es ep t ∧ t.fits es.size = true ∧ es.size < scanBound ∧ Ris t.place.toList ∧
  (w.params.followText "set-order" = true ∨ t.led = true) ∧ Vals xs (es.toList.map (·.2))
/-- the set at a of the tuples L -/
def SetP (P : Program) (w : World) (a : Addr) (L : List (Addr × List Key)) (h : Heap) : Prop := ∃ (es : Array (Int × Value)) (ep : Nat) (t : SetTable), (∃ o, h.get? a = some o ∧ o.ExactSet ∧ o.data = .set es ep t) ∧
  es.toList = (L.map fun p => ((TKK P w).hash p.2, Value.ref p.1)) ∧ TabM t (L.map fun p => (TKK P w).hash p.2) ∧ (L.map (·.2)).Nodup ∧ (w.params.followText "set-order" = true ∨ t.led = true) ∧ L.length * 5 < t.mask * 3
def SetT (P : Program) (w : World) (a : Addr) (L : List (Addr × List Key)) : HO := .ext (SetP P w a L)
theorem SetP.walked {P : Program} {w : World} {a : Addr} {L : List (Addr × List Key)} {h : Heap} (R : SetP P w a L h) : Walked w h a (L.map fun p => V.ref p.1) := by
  obtain ⟨es, ep, t, ⟨o, ho, hx, hd⟩, rows, T, _, ld, gap⟩ := R
  have z := rows_size rows
  have sm : L.length ≤ 306 := by rcases T.msk.cases with e | e | e | e <;> omega
  have sb : scanBound = 4096 := rfl
  refine ⟨es, ep, t, ⟨o, ho, hx.1, hd⟩, fits_of T (by rw [List.length_map, z]) (by omega), by omega, T.up, ld, ?_⟩
  rw [rows, List.map_map]
  have gen : ∀ M : List (Addr × List Key), Vals (M.map fun p => V.ref p.1) (M.map fun p => Value.ref p.1) := fun M => by
    induction M with
    | nil => exact .nil
    | cons p M ih => exact .cons rfl ih
  exact gen L
theorem setT_ok {P : Program} {w : World} {H : Hp} {h : Heap} {a : Addr} {L : List (Addr × List Key)} (R : SetP P w a L h) : ObjOk P w H h a (SetT P w a L) := by
  have ⟨es, ep, t, ⟨o, ho, r⟩, q⟩ := R
  refine ⟨R, ⟨o, ho⟩, fun h1 h2 p k => ?_⟩
  obtain ⟨es', ep', t', ⟨o', ho', r'⟩, q'⟩ := p
  exact ⟨es', ep', t', ⟨o', k o' ho', r'⟩, q'⟩
theorem items_vals {P : Program} {w : World} : ∀ {k : List Key} {us : List Value}, Vals (k.map kV) us → ItemsAre (mixKind P w) k us
  | [], _, .nil => .nil
  | n :: k, _, .cons r t => .cons (kV_is r) (items_vals t)
theorem refs_vals : ∀ {ks : List (Addr × List Key)} {us : List Value}, Vals (ks.map fun p => V.ref p.1) us → us = ks.map fun p => Value.ref p.1
  | [], _, .nil => rfl
  | p :: ks, _, .cons r t => by
    cases r
    rw [refs_vals t]
    rfl
section
variable {X : Cx}
theorem key_tup {pins : List (Addr × Obj)} {σ : L2.St} {H : Hp} {s : Shared} {b : Addr} {k : List Key} (I : Inv X pins σ H s) (h : SqT X.K H b (k.map kV)) : (TKK X.prog X.w).is s.heap k b := by
  obtain ⟨its, r, ⟨o, ho, hc, n, hd⟩, _⟩ := I.tuple h
  exact ⟨o, its.toArray, n, ho, hc, hd, items_vals r⟩
/-- set(xs), xs a list of tuples of keys -/
def rSetT (K : PySem.W.Frag) (P : Program) (w : World) : List V → Hp → VK → Prop := fun xs H Q => ∃ (l : Addr) (ks : List (Addr × List Key)), xs = [V.ref l] ∧ SqL K H l (ks.map fun p => V.ref p.1) ∧ (∀ p ∈ ks, SqT K H p.1 (p.2.map kV)) ∧ ks.length ≤ 300 ∧
  ∀ a L, H a = none → Has ks ks.length L → (L.map (·.2)).Nodup → Q (.ref a) (upd H a (SetT P w a L))
theorem cr_setT (hc : X.calm = true) (hu : X.A.units + 64 < cLine) : CallR X (.type "set") (rSetT X.K X.prog X.w) := by
  intro pins s σ H xs us Q I r h
  obtain ⟨l, ks, rfl, hl, hk, hf, q⟩ := h
  rw [Vals.ref1 r]
  obtain ⟨its, rv, pl, hz⟩ := I.list hl
  have hits : its = ks.map fun p => Value.ref p.1 := refs_vals rv
  have hn : H s.heap.objs.size = none := I.hok.fresh (Nat.le_refl _)
  have mem : ∀ p ∈ ks, (TKK X.prog X.w).is s.heap p.2 p.1 := fun p hp => key_tup I (hk p hp)
  have room : X.A.in1.in1.in1.units < cLine := by
    show X.A.units + 1 + 1 + 1 < cLine
    omega
  have none0 : s.heap.get? s.heap.objs.size = none := by
    cases e : s.heap.get? s.heap.objs.size with
    | none => rfl
    | some o => exact absurd (Heap.lt_size e) (Nat.lt_irrefl _)
  refine call_set_of (P := X.prog) (w := X.w) (I.ok.hd hc) pl.isList (fun i h => ∃ L es ep t, SetH (TKK X.prog X.w) h s.heap.objs.size L es ep t ∧ Has ks i L) (fun i h h' ⟨L, es, ep, t, R, g⟩ k1 k2 => ?_) (fun h e _ => ?_) (fun i v z hv old ⟨L, es, ep, t, R, g⟩ E' => ?_) fun h' tk ⟨L, es, ep, t, R, g⟩ old => ?_
  · obtain ⟨o, ho, rr⟩ := R.ob
    exact ⟨L, es, ep, t, ⟨⟨o, k1 o ho, rr⟩, R.rows, R.tab, R.nd, fun p hp => calm_keys.st.stays (fun b o vs n hb _ => k2 b o hb) (mem p (List.mem_of_mem_take (g.sub p hp))), R.ld, R.gap⟩, g⟩
  · refine ⟨[], #[], 0, _, ⟨⟨_, e, ⟨rfl, rfl, rfl⟩, rfl⟩, rfl, ⟨List.Pairwise.nil, rfl, rfl, .inl (.inl rfl), fun x hx => (by cases hx), fun i h j hi => (by simp at hi)⟩, List.nodup_nil, fun p hp => (by cases hp), ?_, by show 0 * 5 < 7 * 3; decide⟩, ⟨fun p h => (by cases h), fun p h => (by simp at h), Nat.le_refl _⟩⟩
    show _ ∨ (!X.w.params.followText "set-order") = true
    cases X.w.params.followText "set-order"
    · exact .inr rfl
    · exact .inl rfl
  · have hv2 : (ks.map fun p => Value.ref p.1)[i]? = some v := by
      rw [← hits, ← hv]
      simp
    rw [List.getElem?_map] at hv2
    cases hp : ks[i]? with
    | none =>
      rw [hp] at hv2
      cases hv2
    | some p =>
      rw [hp] at hv2
      cases hv2
      have hx : (TKK X.prog X.w).is z.heap p.2 p.1 := calm_keys.st.stays (fun b o vs n hb _ => old b o hb) (mem p (List.mem_of_getElem? hp))
      have il := (List.getElem?_eq_some_iff.mp hp).1
      unfold setAdd
      refine wpAny_holding (wpAny_bind ((TKK X.prog X.w).pyHash room hx ?_))
      refine add (s := { z with toks := z.toks + (TKK X.prog X.w).draws p.2 }) calm_keys R hx room (by have := g.len; omega) fun b h' L' es' ep' t' sb R' c1 c2 => ⟨h', _, Nat.le_add_right _ _, rfl, sb, L', es', ep', t', R', ?_⟩
      by_cases c : p.2 ∈ L.map (·.2)
      · rw [c1 c]
        exact g.old hp c
      · exact g.new hp (c2 c)
  · have e : its.toArray.size = ks.length := by
      rw [hits]
      simp
    rw [e] at g
    exact ⟨.ref s.heap.objs.size, upd H s.heap.objs.size (SetT X.prog X.w s.heap.objs.size L), I.laid (t' := tk) old (Nat.le_refl _) (setT_ok ⟨es, ep, t, R.ob, R.rows, R.tab, R.nd, R.ld, R.gap⟩), rfl, q _ L hn g R.nd⟩
/-! sorted(a set) -/
theorem each_perm {α β : Type} {R : α → β → Prop} {us vs : List α} (p : us.Perm vs) : ∀ {bs : List β}, EachIs R us bs → ∃ cs : List β, cs.Perm bs ∧ EachIs R vs cs := by
  induction p with
  | nil => exact fun {bs} h => ⟨bs, .refl _, h⟩
  | cons x _ ih =>
    intro bs h
    cases h with
    | cons h t =>
      obtain ⟨cs, c, e⟩ := ih t
      exact ⟨_ :: cs, c.cons _, .cons h e⟩
  | swap x y l =>
    intro bs h
    cases h with
    | cons h t =>
      cases t with
      | cons h2 t => exact ⟨_ :: _ :: _, .swap _ _ _, .cons h2 (.cons h t)⟩
  | trans _ _ ih1 ih2 =>
    intro bs h
    obtain ⟨cs, c, e⟩ := ih1 h
    obtain ⟨ds, d, f⟩ := ih2 e
    exact ⟨ds, d.trans c, f⟩
theorem each_of_vals : ∀ {bs : List (V × PyData)} {us : List Value}, Vals (bs.map Prod.fst) us → EachIs (fun (v : Value) (b : V × PyData) => RelV b.1 v) us bs
  | [], _, r => by cases r; exact .nil
  | b :: bs, _, r => by
    cases r with
    | cons r1 r2 => exact .cons r1 (each_of_vals r2)
theorem vals_of_each : ∀ {bs : List (V × PyData)} {us : List Value}, EachIs (fun (v : Value) (b : V × PyData) => RelV b.1 v) us bs → Vals (bs.map Prod.fst) us
  | [], _, r => by cases r; exact .nil
  | b :: bs, _, r => by
    cases r with
    | cons r1 r2 => exact .cons r1 (vals_of_each r2)
theorem each_and {α β : Type} {R S : α → β → Prop} : ∀ {as : List α} {bs : List β}, EachIs R as bs → (∀ a b, b ∈ bs → R a b → S a b) → EachIs S as bs
  | _, _, .nil, _ => .nil
  | _, _, .cons h t, k => .cons (k _ _ List.mem_cons_self h) (each_and t fun a b hb => k a b (List.mem_cons_of_mem _ hb))
def rSortSet (K : PySem.W.Frag) (w : World) : List V → Hp → VK → Prop := fun vs H Q => ∃ (a : Addr) (bs : List (V × PyData)) (U : Heap → Prop), vs = [V.ref a] ∧ H a = some (.ext U) ∧ (∀ h, U h → Walked w h a (bs.map Prod.fst)) ∧ (∀ b ∈ bs, Dp K H b.1 b.2) ∧
  AllAlike (bs.map Prod.snd) ∧ Sortable (bs.map Prod.snd) ∧ (∀ b ∈ bs, b.2.depth ≤ 10) ∧
  ∀ (cs : List (V × PyData)) (p : Addr), cs.Perm bs → cs.Pairwise (fun x y => dataLe false Prod.snd x y = true) → H p = none → Q (.ref p) (upd H p (.lst (cs.map Prod.fst)))
theorem cr_sortSet (hc : X.calm = true) (hu : X.A.units + 64 < cLine) : CallR X (.builtin "sorted") (rSortSet X.K X.w) := by
  intro pins s σ H vs us Q I r h
  obtain ⟨a, bs, U, rfl, ha, hw, hd, hal, hso, hdp, q⟩ := h
  rw [Vals.ref1 r]
  obtain ⟨es, ep, t, hat, hf, hsz, ris, ld, rv⟩ := hw _ (I.hok a _ ha).1
  have line : sizeLine = 16777216 := rfl
  have sbd : scanBound = 4096 := rfl
  refine Calls.call_function_entry kind_sorted plain_sorted entry_sorted (args_sorted1 _) ?_
  unfold Builtin.«sorted»
  refine wpAny_bind (m := checkCount "sorted" 1 1 _) (wpAny_pure ?_)
  refine wpAny_bind (collect_set (A := X.A.in1) (I.ok.hd hc) hat hf hsz ris ld fun s1 vs k1 hz g1 o1 pm => ?_)
  obtain ⟨cs, pc, ec⟩ := each_perm pm.symm (each_of_vals rv)
  have hl : vs.length = bs.length := ec.length.trans pc.length_eq
  have lb : bs.length = es.size := by
    have h1 := (each_of_vals rv).length
    simp at h1
    exact h1.symm
  refine wpAny_bind (wpAny_newList ?_ (by omega))
  have hoL : (s1.heap.push (seqObj "list" vs.toArray 0)).get? s1.heap.objs.size = some (seqObj "list" vs.toArray 0) := Heap.get?_push_size _ rfl
  show wpAny _ _ _ _ _ { s1 with heap := s1.heap.push (seqObj "list" vs.toArray 0) }
  have er : EachIs (fun (v : Value) (b : V × PyData) => ∃ as, Reads (s1.heap.push (seqObj "list" vs.toArray 0)) v b.2 as ∧ s1.heap.objs.size ∉ as) vs cs := each_and ec fun v b hb rb => by
    obtain ⟨as, hr⟩ := Dp.reads I b.2 b.1 v (hd b (pc.mem_iff.mp hb)) rb
    have hr1 : Reads s1.heap v b.2 as := Reads.keeps k1 hr
    refine ⟨as, Reads.keeps (fun b o e => Heap.get?_push_of_some _ e) hr1, fun hm => ?_⟩
    obtain ⟨o, ho⟩ := PyProof.On.reads_mem_get hr1 _ hm
    exact absurd (Heap.lt_size ho) (Nat.lt_irrefl _)
  have pd := pc.map Prod.snd
  have hal' : AllAlike (cs.map Prod.snd) := fun d h1 d' h2 => hal d (pd.mem_iff.mp h1) d' (pd.mem_iff.mp h2)
  have hso' : Sortable (cs.map Prod.snd) := by
    rcases hso with z | z
    · exact .inl fun d h1 => z d (pd.mem_iff.mp h1)
    · exact .inr fun d h1 => z d (pd.mem_iff.mp h1)
  refine wpAny_bind (wpAny_holding (PySem.W.list_sort_data (enc := Prod.snd) (s := { s1 with heap := s1.heap.push (seqObj "list" vs.toArray 0) }) hoL ec er hal' hso' (by have := pc.length_eq; omega) ?k4 fun out ho eo => ?_))
  case k4 =>
    intro b hb
    have h1 := hdp b (pc.mem_iff.mp hb)
    have h2 : X.A.in1.units = X.A.units + 1 := rfl
    omega
  obtain ⟨c, hcat⟩ := sortedHeap_at (vs := vs) (out := out.toArray) hoL
  have pw : (cs.mergeSort (dataLe false Prod.snd)).Pairwise (fun x y => dataLe false Prod.snd x y = true) := PySem.W.sort_pairwise (by unfold dataLe; exact PySem.W.sortLe_total _ _ _) cs
  have pm2 : (cs.mergeSort (dataLe false Prod.snd)).Perm bs := (List.mergeSort_perm cs _).trans pc
  generalize cs.mergeSort (dataLe false Prod.snd) = ds at eo pw pm2
  have ev := vals_of_each eo
  have hn : H s1.heap.objs.size = none := I.hok.fresh hz
  have hlen : (ds.map Prod.fst).length ≤ sizeLine := by
    rw [List.length_map, pm2.length_eq]
    omega
  have J : Inv X pins σ (upd H s1.heap.objs.size (.lst (ds.map Prod.fst))) { s with heap := sortedHeap (s1.heap.push (seqObj "list" vs.toArray 0)) s1.heap.objs.size vs out.toArray, gens := s1.gens, drawn := s1.drawn, toks := s1.toks } := by
    have old : ∀ b u, s.heap.get? b = some u → (sortedHeap (s1.heap.push (seqObj "list" vs.toArray 0)) s1.heap.objs.size vs out.toArray).get? b = some u := fun b u e => by
      have q2 := k1 b u e
      have hlt := Heap.lt_size q2
      rw [sortedHeap_old (Nat.ne_of_lt hlt) (by rw [size_push']; exact Nat.lt_succ_of_lt hlt)]
      exact Heap.get?_push_of_some _ q2
    exact I.call (ch := []) (Un.laid old hz hn) (I.hok.laid old hz ⟨hlen, out, c, ev, hcat⟩) (by rw [g1]; exact I.bare) (fun _ z => nomatch z)
  refine wpAny_pure ⟨_, rfl, ?_⟩
  have e : ({ s1 with heap := sortedHeap (s1.heap.push (seqObj "list" vs.toArray 0)) s1.heap.objs.size vs out.toArray } : Shared) = { s with heap := sortedHeap (s1.heap.push (seqObj "list" vs.toArray 0)) s1.heap.objs.size vs out.toArray, gens := s1.gens, drawn := s1.drawn, toks := s1.toks } := by
    cases s1
    cases s
    cases o1
    rfl
  rw [e]
  exact ⟨.ref s1.heap.objs.size, _, J, rfl, q ds _ pm2 pw hn⟩
end
end SH
/-! set(xs) of texts and ints: what it holds can be walked -/
namespace SH
open PySem PySem.Spec PyProof.Rows L2
open PySem.W (EachIs)
/-- the set at a of the keys L -/
def SetQ (P : Program) (w : World) (h : Heap) (a : Addr) (L : List Key) : Prop := ∃ (es : Array (Int × Value)) (ep : Nat) (t : SetTable), (∃ o, h.get? a = some o ∧ o.ExactSet ∧ o.data = .set es ep t) ∧ ElemsOf (mixKind P w) es.toList ∧
  EachIs (fun (e : Int × Value) (k : Key) => (mixKind P w).is k e.2 = true) es.toList L ∧ L.Nodup ∧ es.size < scanBound ∧ t.fits es.size = true ∧ Ris t.place.toList ∧ (w.params.followText "set-order" = true ∨ t.led = true)
theorem each_find {α β : Type} {R : α → β → Prop} : ∀ {as : List α} {bs : List β}, EachIs R as bs → ∀ a ∈ as, ∃ b ∈ bs, R a b
  | _, _, .nil, _, h => by cases h
  | _, _, .cons r t, a, h => by
    rcases List.mem_cons.mp h with rfl | h
    · exact ⟨_, List.mem_cons_self, r⟩
    · obtain ⟨b, hb, q⟩ := each_find t a h
      exact ⟨b, List.mem_cons_of_mem _ hb, q⟩
theorem each_back {α β : Type} {R : α → β → Prop} : ∀ {as : List α} {bs : List β}, EachIs R as bs → ∀ b ∈ bs, ∃ a ∈ as, R a b
  | _, _, .nil, _, h => by cases h
  | _, _, .cons r t, b, h => by
    rcases List.mem_cons.mp h with rfl | h
    · exact ⟨_, List.mem_cons_self, r⟩
    · obtain ⟨a, ha, q⟩ := each_back t b h
      exact ⟨a, List.mem_cons_of_mem _ ha, q⟩
section
variable {P : Program} {w : World} {A : Around} {E : Value → Shared → Prop} {s : Shared} {a : Addr} {L : List Key}
theorem key_scannable {k : Key} {v : Value} (h : (mixKind P w).is k v = true) : v.scannable = true := by
  rcases keyIs_shape h with ⟨i, t, _, rfl⟩ | ⟨x, t, _, rfl⟩ <;> rfl
/-- the last rows of adding by scan -/
theorem add_tail {g : Bool → Sem Unit} (hg : ∀ (b : Bool) (z : Shared) (Q' : Unit → Shared → Prop), Q' () z → wpAny (model P w) A (g b) Q' E z) {o : Obj} {es es1 : Array (Int × Value)} {ep : Nat} {t t2 : SetTable}
    (ho : s.heap.get? a = some o) (hex : o.ExactSet) (hd : o.data = .set es ep t) (el : ElemsOf (mixKind P w) es1.toList) (ei : EachIs (fun (e : Int × Value) (k : Key) => (mixKind P w).is k e.2 = true) es1.toList L) (nd : L.Nodup)
    (hb : es1.size < scanBound) (hf : t2.fits es1.size = true) (ris : Ris t2.place.toList) (ld : w.params.followText "set-order" = true ∨ t2.led = true) {dm : Bool} {R : Option Bool → Shared → Prop}
    (hR : ∀ h' L', Heap.SameBut a s.heap h' → SetQ P w h' a L' → L'.Perm L → R (some true) { s with heap := h' }) :
    wpAny (model P w) A (storeSet a es1 t2 >>= fun _ => if (!dm && t2.tooFull) = true then (g (relayAll t2 es1 (SetTable.grown es1.size)).2.2 >>= fun _ => storeSet a (relayAll t2 es1 (SetTable.grown es1.size)).1 (relayAll t2 es1 (SetTable.grown es1.size)).2.1 >>= fun _ => pure (some true)) else pure (some true)) R E s := by
  refine wpAny_bind (wpAny_storeSet_of ho hd ?_ (fits_of_scanBound hb))
  have ho1 := store_at (es' := es1) (t' := t2) ho hd
  have sb1 := Heap.SameBut.update s.heap a (Obj.putSet es1 t2)
  by_cases c : (!dm && t2.tooFull) = true
  · refine wp_if_pos c ?_
    have pm := relayAll_perm t2 es1 (SetTable.grown es1.size)
    have f3 := relayAll_fits t2 es1 (SetTable.grown es1.size)
    have r3 := relayAll_ris t2 es1 (SetTable.grown es1.size)
    have l3 := relayAll_led t2 es1 (SetTable.grown es1.size)
    generalize relayAll t2 es1 (SetTable.grown es1.size) = Z at pm f3 r3 l3 ⊢
    obtain ⟨es2, t3, gave⟩ := Z
    dsimp only at pm f3 r3 l3 ⊢
    have z2 : es2.size = es1.size := by rw [← Array.length_toList, pm.length_eq, Array.length_toList]
    obtain ⟨L2, p2, e2⟩ := each_perm pm.symm ei
    refine wpAny_bind (hg _ _ _ (wpAny_bind (wpAny_storeSet_of ho1 rfl (wpAny_pure (hR _ L2 (sb1.trans (Heap.SameBut.update _ a _)) ⟨es2, _, t3, ⟨_, store_at ho1 rfl, hex, rfl⟩, fun e he => el e (pm.mem_iff.mp he), e2, p2.nodup_iff.mpr nd, z2 ▸ hb, f3, r3, ld.imp id fun z => l3 ▸ z⟩ p2)) (fits_of_scanBound (z2 ▸ hb)))))
  · exact wp_if_neg c (wpAny_pure (hR _ L sb1 ⟨es1, _, t2, ⟨_, ho1, hex, rfl⟩, el, ei, nd, hb, hf, ris, ld⟩ (.refl _)))
theorem addQ (R : SetQ P w s.heap a L) {k : Key} {v : Value} (hk : (mixKind P w).is k v = true) (few : L.length + 1 < scanBound) {Q : Bool → Shared → Prop}
    (hQ : ∀ b h' L', Heap.SameBut a s.heap h' → SetQ P w h' a L' → (k ∈ L → L' = L) → (k ∉ L → L'.Perm (k :: L)) → Q b { s with heap := h' }) :
    wpAny (model P w) A (setAddHashed a v ((mixKind P w).hash k)) Q E s := by
  obtain ⟨es, ep, t, ⟨o, ho, hex, hd⟩, el, ei, nd, hb, hf, ris, ld⟩ := id R
  have sc := key_scannable hk
  have zL : es.size = L.length := by rw [← Array.length_toList]; exact ei.length
  unfold setAddHashed setAddHashedIn
  refine wpAny_holding (wpAny_bind (wpAny_setState_of ho hd hf ?_))
  dsimp only
  rw [byScan_of sc hb el, if_pos rfl]
  unfold setAddByScan
  refine wpAny_bind (wpAny_bind (wpAny_rule (wpAny_bind (wpAny_setScan_of hk ho hd hf el ?_))))
  cases hfi : List.findIdx? (fun e => (mixKind P w).is k e.2) es.toList with
  | some j =>
    dsimp only
    obtain ⟨hj, pj, _⟩ := List.findIdx?_eq_some_iff_getElem.mp hfi
    obtain ⟨k', hk', e'⟩ := each_find ei _ (List.getElem_mem hj)
    have ek : k' = k := (mixKind P w).inj _ _ _ e' pj
    exact wpAny_pure (wpAny_pure (hQ false s.heap L (Heap.SameBut.refl a s.heap) R (fun _ => rfl) fun z => absurd (ek ▸ hk') z))
  | none =>
    dsimp only
    have nk : k ∉ L := fun z => by
      obtain ⟨e, he, q⟩ := each_back ei k z
      have c := List.findIdx?_eq_none_iff.mp hfi e he
      rw [q] at c
      cases c
    have gw : ∀ (b : Bool) {z : Shared} {Q' : Unit → Shared → Prop}, Q' () z → wpAny (model P w) A (match b with | true => rule "set.scan.the-table-gave-way" | false => pure ()) Q' E z :=
      fun b z Q' q => by cases b <;> first | exact wpAny_pure q | exact wpAny_rule q
    have pm := layNew_perm t es ((mixKind P w).hash k) v
    have f1 := layNew_fits t es ((mixKind P w).hash k) v
    have r1 := layNew_ris t es ((mixKind P w).hash k) v ris
    have l1 := layNew_led t es ((mixKind P w).hash k) v
    generalize layNew t es ((mixKind P w).hash k) v = Z at pm f1 r1 l1 ⊢
    obtain ⟨es1, t1, dm, gave⟩ := Z
    dsimp only at pm f1 r1 l1 ⊢
    rw [Array.toList_push] at pm
    have pc : es1.toList.Perm (((mixKind P w).hash k, v) :: es.toList) := pm.trans (List.perm_append_singleton _ _)
    obtain ⟨L1, p1, e1⟩ := each_perm pc.symm (EachIs.cons (R := fun (e : Int × Value) (k : Key) => (mixKind P w).is k e.2 = true) (a := ((mixKind P w).hash k, v)) (b := k) hk ei)
    have el1 : ElemsOf (mixKind P w) es1.toList := fun e he => by
      rcases List.mem_cons.mp (pc.mem_iff.mp he) with z | z
      · exact z ▸ ⟨⟨k, hk, rfl⟩, sc⟩
      · exact el e z
    have nd1 : L1.Nodup := p1.nodup_iff.mpr (List.nodup_cons.mpr ⟨nk, nd⟩)
    have z1 : es1.size = L.length + 1 := by rw [← Array.length_toList, pc.length_eq, List.length_cons, Array.length_toList, zL]
    have ld1 : w.params.followText "set-order" = true ∨ t1.led = true := ld.imp id fun z => l1 ▸ z
    have fin : ∀ h' L', Heap.SameBut a s.heap h' → SetQ P w h' a L' → L'.Perm L1 → Q true { s with heap := h' } := fun h' L' sb r p => hQ true h' L' sb r (fun z => absurd z nk) fun _ => p.trans p1
    refine wpAny_bind (gw _ ?_)
    have hb1 : es1.size < scanBound := by rw [z1]; exact few
    split
    · refine wpAny_bind ?_
      rw [hashByValue_scannable 8 sc]
      refine wpAny_pure ?_
      refine add_tail (L := L1) (fun b z Q' q => by cases b <;> first | exact wpAny_pure q | exact wpAny_rule q) ho hex hd el1 e1 nd1 hb1 ?_ ?_ ?_ fun h' L' sb r p => ?_
      · first | (split <;> first | exact f1 | exact SetTable.fits_plain_off f1) | exact f1
      · first | (split <;> exact r1) | exact r1
      · first | (split <;> exact ld1) | exact ld1
      · exact wpAny_pure (fin h' L' sb r p)
    · refine wpAny_bind (wpAny_pure ?_)
      rw [if_pos rfl]
      exact add_tail (L := L1) (fun b z Q' q => by cases b <;> first | exact wpAny_pure q | exact wpAny_rule q) ho hex hd el1 e1 nd1 hb1 f1 r1 ld1 fun h' L' sb r p => wpAny_pure (fin h' L' sb r p)
end
def SetK2 (P : Program) (w : World) (a : Addr) (L : List Key) : HO := .ext fun h => SetQ P w h a L
theorem SetQ.kept {P : Program} {w : World} {h h' : Heap} {a : Addr} {L : List Key} (R : SetQ P w h a L) (k : ∀ o, h.get? a = some o → h'.get? a = some o) : SetQ P w h' a L := by
  obtain ⟨es, ep, t, ⟨o, ho, r⟩, q⟩ := R
  exact ⟨es, ep, t, ⟨o, k o ho, r⟩, q⟩
theorem setK2_ok {P : Program} {w : World} {H : Hp} {h : Heap} {a : Addr} {L : List Key} (R : SetQ P w h a L) : ObjOk P w H h a (SetK2 P w a L) := by
  have ⟨_, _, _, ⟨o, ho, _⟩, _⟩ := R
  exact ⟨R, ⟨o, ho⟩, fun h1 h2 p k => SetQ.kept p k⟩
theorem SetQ.walked {P : Program} {w : World} {a : Addr} {L : List Key} {h : Heap} (R : SetQ P w h a L) : Walked w h a (L.map kV) := by
  obtain ⟨es, ep, t, ⟨o, ho, hx, hd⟩, _, ei, _, hb, hf, ris, ld⟩ := R
  refine ⟨es, ep, t, ⟨o, ho, hx.1, hd⟩, hf, hb, ris, ld, ?_⟩
  have gen : ∀ {l : List (Int × Value)} {L : List Key}, EachIs (fun (e : Int × Value) (k : Key) => (mixKind P w).is k e.2 = true) l L → Vals (L.map kV) (l.map (·.2)) := fun h => by
    induction h with
    | nil => exact .nil
    | cons r t ih =>
      refine .cons ?_ ih
      rcases keyIs_shape r with ⟨i, t, rfl, e⟩ | ⟨x, t, rfl, e⟩
      · exact ⟨t, e⟩
      · exact ⟨t, e⟩
  exact gen ei
section
variable {X : Cx}
/-- set(xs), xs a list of texts or ints -/
def rSetQ (K : PySem.W.Frag) (P : Program) (w : World) : List V → Hp → VK → Prop := fun xs H Q => ∃ (l : Addr) (ks : List Key), xs = [V.ref l] ∧ SqL K H l (ks.map kV) ∧ ks.length ≤ 4000 ∧ ∀ a L, H a = none → L.Nodup → (∀ k, k ∈ L ↔ k ∈ ks) → L.length ≤ ks.length → Q (.ref a) (upd H a (SetK2 P w a L))
theorem cr_setQ (hc : X.calm = true) : CallR X (.type "set") (rSetQ X.K X.prog X.w) := by
  intro pins s σ H xs us Q I r h
  obtain ⟨l, ks, rfl, hl, hf, q⟩ := h
  rw [Vals.ref1 r]
  obtain ⟨its, rv, pl, hz⟩ := I.list hl
  have hn : H s.heap.objs.size = none := I.hok.fresh (Nat.le_refl _)
  have sbd : scanBound = 4096 := rfl
  refine call_set_of (P := X.prog) (w := X.w) (I.ok.hd hc) pl.isList (fun i h => ∃ L, SetQ X.prog X.w h s.heap.objs.size L ∧ L.Nodup ∧ (∀ k, k ∈ L ↔ k ∈ ks.take i) ∧ L.length ≤ i) (fun i h h' ⟨L, R, g⟩ k1 k2 => ⟨L, R.kept k1, g⟩) (fun h e _ => ?_) (fun i v z hv old ⟨L, R, g1, g2, g3⟩ E' => ?_) fun h' tk ⟨L, R, g1, g2, g3⟩ old => ?_
  · refine ⟨[], ⟨#[], 0, _, ⟨_, e, ⟨rfl, rfl, rfl⟩, rfl⟩, fun e he => (by simp at he), .nil, List.nodup_nil, by decide, by rfl, List.Pairwise.nil, ?_⟩, List.nodup_nil, fun k => by simp, Nat.le_refl _⟩
    show _ ∨ (!X.w.params.followText "set-order") = true
    cases X.w.params.followText "set-order"
    · exact .inr rfl
    · exact .inl rfl
  · have hv2 : its[i]? = some v := by simpa using hv
    have hil : i < ks.length := by
      have h1 := rv.length
      rw [List.length_map] at h1
      rw [h1]
      exact (List.getElem?_eq_some_iff.mp hv2).1
    obtain ⟨k, hk⟩ : ∃ k, ks[i]? = some k := ⟨_, List.getElem?_eq_getElem hil⟩
    obtain ⟨u, hu, ru⟩ := rv.get (i := i) (x := kV k) (by rw [List.getElem?_map, hk]; rfl)
    rw [hv2] at hu
    cases hu
    have ek : ks.take (i + 1) = ks.take i ++ [k] := by rw [List.take_add_one, hk]; rfl
    unfold setAdd
    refine wpAny_holding (wpAny_bind ((mixKind X.prog X.w).pyHash (kV_is ru) ?_))
    refine addQ (s := { z with toks := z.toks + 1 }) R (kV_is ru) (by have := (show ks.length ≤ 4000 from hf); omega) fun b h' L' sb R' c1 c2 => ⟨h', _, Nat.le_add_right _ _, rfl, sb, L', R', ?_⟩
    by_cases c : k ∈ L
    · rw [c1 c]
      refine ⟨g1, fun j => ?_, Nat.le_succ_of_le g3⟩
      rw [ek, List.mem_append, List.mem_singleton, g2]
      exact ⟨.inl, fun z => z.elim id fun e => e ▸ (g2 k).mp c⟩
    · have pm := c2 c
      refine ⟨pm.nodup_iff.mpr (List.nodup_cons.mpr ⟨c, g1⟩), fun j => ?_, by have := pm.length_eq; rw [List.length_cons] at this; omega⟩
      rw [pm.mem_iff, List.mem_cons, ek, List.mem_append, List.mem_singleton, g2]
      exact Or.comm
  · have e : its.toArray.size = ks.length := by
      have h1 := rv.length
      rw [List.length_map] at h1
      simp [h1]
    rw [e, List.take_length] at g2
    rw [e] at g3
    exact ⟨.ref s.heap.objs.size, upd H s.heap.objs.size (SetK2 X.prog X.w s.heap.objs.size L), I.laid (t' := tk) old (Nat.le_refl _) (setK2_ok R), rfl, q _ L hn g1 g2 g3⟩
end
end SH
namespace Tb
open PySem PySem.Spec PyProof.Rows L2
def topS (i : Nat) : Stmt := PySem.Challenge.pw_everyparcel_k14_whole_rates_part.main.body.getD i (.Pass ⟨0, 0, 0, 0⟩)
abbrev sMade : Stmt := topS 7
abbrev sSpells : Stmt := topS 8
abbrev sIsName : Stmt := topS 10
abbrev sIsAddr : Stmt := topS 12
/-- a def of the text: it stands, its arguments bind, its global is it -/
structure Dd (K : PySem.W.Frag) (mg : Str → Option Value) (x : Str) (st : Stmt) (ps : List Str) (f : Addr) (fd : FuncData) : Prop where
  F : Fun K x x st f fd
  b : Binds K fd ps []
  g : mg x = some (.ref f)
/-- the globals that are the built-ins, and the two texts -/
structure Blt (mg : Str → Option Value) : Prop where
  len : mg "len" = none
  int : mg "int" = none
  str : mg "str" = none
  list : mg "list" = none
  tuple : mg "tuple" = none
  dict : mg "dict" = none
  bool : mg "bool" = none
  range : mg "range" = none
  sorted : mg "sorted" = none
  all : mg "all" = none
  isi : mg "isinstance" = none
  dg : ∃ t, mg "DIGITS" = some (.str ("0123456789" : String) t)
  lt : ∃ t, mg "LETTERS" = some (.str ("abcdefghijklmnopqrstuvwxyz" : String) t)
  hr : ∃ t, mg "ANY" = some (.str ("" : String) t)
  sum : mg "sum" = none
  set : mg "set" = none
  br : mg "BARRED" = some .none
theorem sqOf {K : PySem.W.Frag} {H : Hp} {p : Addr} {xs : List V} (h : H p = some (.lst xs)) : SqL K H p xs := .inl (.inl h)
theorem same_upd {H : Hp} {p : Addr} {o : HO} (h : H p = none) : Same H (upd H p o) := fun b x e => by
  rw [upd_ne (ne_of_none e h)]
  exact e
def digits : Str := ("0123456789" : String)
def letters : Str := ("abcdefghijklmnopqrstuvwxyz" : String)
/-- a module's name that holds a text -/
theorem pe_txt {X : Cx} {x z : Str} {pos : Pos} (hg : Gl X x) (h : ∃ t, X.mg x = some (.str z t)) (hd : (x == ("__debug__" : Str)) = false := by decide) : PE X (.Name x pos) (tC (.str z)) := by
  obtain ⟨t, h⟩ := h
  exact pe_glob hg h (show RelV (.str z) (.str z t) from ⟨t, rfl⟩) hd
/-! ### the mirrors -/
def isIn (signs : Str) (c : Nat) : Bool := decide (c ∈ signs.cps.toList)
def made (t signs : Str) (most : Int) : Bool := decide (1 ≤ (t.length : Int)) && decide ((t.length : Int) ≤ most) && t.cps.toList.all (isIn signs)
def isAddr (t : Str) : Bool := made t digits 8
def isName (t : Str) : Bool := made t (letters ++ digits) 12 && (match t.cps[0]? with | some c => isIn letters c | none => false)
def isLane (t : Str) : Bool := decide (t = Str.ofString "") || isName t
section
variable {P : Program} {w : World} {K : PySem.W.Frag} {mg : Str → Option Value} {base : Heap}
theorem scMade : FnScope ["text", "signs", "most", "sign"] ["text", "signs", "most"] (defScope sMade) := ⟨rfl, rfl, rfl, by decide +kernel, rfl, by decide +kernel, by decide +kernel⟩
def spMade : Sp := fun vs H Q _ => ∃ (t signs : Str) (most : Int), vs = [.str t, .str signs, .int most] ∧ t.length ≤ 1000 ∧ ∀ H', Same H H' → Q (.bl (made t signs most)) H'
theorem ok_made {f : Addr} {fd : FuncData} {k : Nat} (F : Fun K "made_of" "made_of" sMade f fd) (B : Blt mg) : FnOk P w K mg base CX0 (k + 1) f fd ["text", "signs", "most"] spMade := by
  refine F.ok scMade (fun vs H Q E h => ?_) (fun cdv A outer s H vs Q E hr h => ?_)
  · obtain ⟨t, sg, m, rfl, _⟩ := h
    rfl
  · obtain ⟨t, sg, m, rfl, hl, q⟩ := h
    refine ⟨_, pss_one (ps_ret (pe_and (pe_chain op_le op_le pe_int (pe_callB call_len_str (by rfl) B.len PySem.boot_len (pa_cons (pv 0) pa_nil)) (pv 2))
      (pe_one (pe_callB (cr_all rfl) (by rfl) B.all (by decide +kernel) (pa_cons (pe_lc (own := [("sign", 3)]) (g := gName 3) (by rfl) scMade.nd (pi_str (pv 0)) (blkOk_by (N := ["text", "signs", "most", "sign"]) (sc := defScope sMade) (by decide +kernel)) (fun _ _ _ _ _ => pg_name (i := 3) scMade.nd rfl (Or.inl rfl)) (fun _ _ _ _ _ => pts_nil) (fun _ _ _ _ _ => pe_cmpR op_in_sign (pv 3) (pv 1) (by rfl))) pa_nil))))), ?_⟩
    refine ⟨.str t, rfl, t, rfl, Nat.le_trans hl (by decide), 1, (t.length : Int), rfl, rfl, _, rfl, ?_⟩
    have h0 : ∀ c : Bool, c = false → Q (.bl c) H → made t sg m = false → Q (.bl (made t sg m)) H := fun c e q e2 => by rw [e2, ← e]; exact q
    refine ite2 (fun e1 => ?_) (fun e1 => ?_)
    · refine ⟨.int m, rfl, (t.length : Int), m, rfl, rfl, _, rfl, ite2 (fun e2 => ?_) (fun e2 => ?_)⟩
      · refine ⟨.str t, rfl, t, rfl, fun D nD => lc_it (walk_str (z := t)) (fun i H' => Same H H' ∧ H' D = some (.lst (((t.cps.toList.take i).map (isIn sg)).map V.bl))) ⟨same_upd nD, upd_same⟩ (fun _ _ _ _ => trivial) (fun i x H1 H2 hi hP hy => ?_) (fun H1 hP => ?_)⟩
        · obtain ⟨hS, hD⟩ := hP
          obtain ⟨rfl, c, hc, rfl⟩ := hy
          refine ⟨rfl, ?_⟩
          have hi' : i < t.cps.toList.length := by rw [Array.length_toList]; exact hi
          have hc' : t.cps.toList[i]? = some c := by rw [Array.getElem?_toList]; exact hc
          refine ⟨_, rfl, .str sg, rfl, c, sg, rfl, rfl, _, hD, ?_, ?_, ?_⟩
          · rw [List.length_map, List.length_map, List.length_take, Array.length_toList]
            exact small1000 (Nat.le_trans (Nat.min_le_right _ _) hl)
          · intro b o hb
            rw [upd_ne (ne_of_none hb nD)]
            exact hS _ _ hb
          · rw [upd_same, List.take_add_one, hc', List.map_append, List.map_append]
            rfl
        · obtain ⟨hS, hD⟩ := hP
          refine ⟨D, (t.cps.toList.map (isIn sg)), rfl, sqOf (by rw [hD, ← Array.length_toList, List.take_length]), ?_⟩
          have e : (t.cps.toList.map (isIn sg)).all id = made t sg m := by
            unfold made
            rw [of_decide_eq_true e1 |> decide_eq_true, of_decide_eq_true e2 |> decide_eq_true, List.all_map]
            rfl
          rw [e]
          exact q _ hS
      · have e : made t sg m = false := by
          unfold made
          rw [Bool.eq_false_iff.mpr e2, Bool.and_false, Bool.false_and]
        have := q H (Same.refl _)
        rw [e] at this
        exact this
    · have e : made t sg m = false := by
        unfold made
        rw [Bool.eq_false_iff.mpr e1, Bool.false_and, Bool.false_and]
      have := q H (Same.refl _)
      rw [e] at this
      exact ⟨false, rfl, this⟩
theorem scSpells : FnScope ["text"] ["text"] (defScope sSpells) := ⟨rfl, rfl, rfl, by decide +kernel, rfl, by decide +kernel, by decide +kernel⟩
theorem scIsName : FnScope ["text"] ["text"] (defScope sIsName) := ⟨rfl, rfl, rfl, by decide +kernel, rfl, by decide +kernel, by decide +kernel⟩
theorem scIsAddr : FnScope ["text"] ["text"] (defScope sIsAddr) := ⟨rfl, rfl, rfl, by decide +kernel, rfl, by decide +kernel, by decide +kernel⟩
/-- one text in, a bool out -/
def spT (g : Str → Bool) : Sp := fun vs H Q _ => ∃ (t : Str), vs = [.str t] ∧ t.length ≤ 1000 ∧ ∀ H', Same H H' → Q (.bl (g t)) H'
theorem ok_spells {f g : Addr} {fd gd : FuncData} (F : Fun K "spells_address" "spells_address" sSpells f fd) (D : Dd K mg "made_of" sMade ["text", "signs", "most"] g gd) (B : Blt mg) : FnOk P w K mg base CX0 2 f fd ["text"] (spT isAddr) := by
  have G : FnOk P w K mg base CX0 1 g gd ["text", "signs", "most"] spMade := ok_made D.F B
  refine F.ok scSpells (fun vs H Q E h => ?_) (fun cdv A outer s H vs Q E hr h => ?_)
  · obtain ⟨t, rfl, _⟩ := h
    rfl
  · obtain ⟨t, rfl, hl, q⟩ := h
    refine ⟨_, pss_one (ps_ret (pe_call G hr (by rfl) D.g D.F.kp D.b .nil pass0 (pa_cons (pv 0) (pa_cons (pe_txt (by rfl) B.dg) (pa_cons pe_int pa_nil))))), ?_⟩
    exact ⟨.str t, rfl, t, digits, 8, rfl, hl, q⟩
theorem ok_isAddr {f g g2 : Addr} {fd gd gd2 : FuncData} (F : Fun K "is_address" "is_address" sIsAddr f fd) (D : Dd K mg "spells_address" sSpells ["text"] g gd) (D2 : Dd K mg "made_of" sMade ["text", "signs", "most"] g2 gd2) (B : Blt mg) : FnOk P w K mg base CX0 3 f fd ["text"] (spT isAddr) := by
  have G : FnOk P w K mg base CX0 2 g gd ["text"] (spT isAddr) := ok_spells D.F D2 B
  refine F.ok scIsAddr (fun vs H Q E h => ?_) (fun cdv A outer s H vs Q E hr h => ?_)
  · obtain ⟨t, rfl, _⟩ := h
    rfl
  · obtain ⟨t, rfl, hl, q⟩ := h
    refine ⟨_, pss_one (ps_ret (pe_call G hr (by rfl) D.g D.F.kp D.b .nil pass0 (pa_cons (pv 0) pa_nil))), ?_⟩
    exact ⟨.str t, rfl, t, rfl, hl, q⟩
theorem ok_isName {f g : Addr} {fd gd : FuncData} (F : Fun K "is_name" "is_name" sIsName f fd) (D : Dd K mg "made_of" sMade ["text", "signs", "most"] g gd) (B : Blt mg) : FnOk P w K mg base CX0 2 f fd ["text"] (spT isName) := by
  have G : FnOk P w K mg base CX0 1 g gd ["text", "signs", "most"] spMade := ok_made D.F B
  refine F.ok scIsName (fun vs H Q E h => ?_) (fun cdv A outer s H vs Q E hr h => ?_)
  · obtain ⟨t, rfl, _⟩ := h
    rfl
  · obtain ⟨t, rfl, hl, q⟩ := h
    refine ⟨_, pss_one (ps_ret (pe_and (pe_call G hr (by rfl) D.g D.F.kp D.b .nil pass0 (pa_cons (pv 0) (pa_cons (pe_op op_add_str (pe_txt (by rfl) B.lt) (pe_txt (by rfl) B.dg)) (pa_cons pe_int pa_nil))))
      (pe_one (pe_cmpR op_in_sign (pe_item_str (pv 0) pe_int (fun _ _ => rfl)) (pe_txt (by rfl) B.lt) (by rfl))))), ?_⟩
    refine ⟨.str t, rfl, _, _, rfl, rfl, by decide +kernel, t, letters ++ digits, 12, rfl, hl, fun H1 S1 => ⟨_, rfl, ite2 (fun e => ?_) (fun e => ?_)⟩⟩
    · have e' : (decide (1 ≤ (t.length : Int)) && decide ((t.length : Int) ≤ 12) && t.cps.toList.all (isIn (letters ++ digits))) = true := e
      rw [Bool.and_eq_true, Bool.and_eq_true] at e'
      have h1 : 1 ≤ (t.length : Int) := of_decide_eq_true e'.1.1
      have h2 : 0 < t.cps.size := by
        show 0 < t.length
        omega
      have hc : t.cps[0]? = some t.cps[0] := Array.getElem?_eq_getElem h2
      refine ⟨.str t, rfl, t, 0, t.cps[0], rfl, rfl, by decide, by decide, by omega, hc, t.cps[0], letters, rfl, rfl, ?_⟩
      have en : isName t = decide (t.cps[0] ∈ letters.cps.toList) := by
        unfold isName
        rw [show made t (letters ++ digits) 12 = true from e, hc, Bool.true_and]
        rfl
      rw [← en]
      exact q _ S1
    · have en : isName t = false := by
        unfold isName
        rw [show made t (letters ++ digits) 12 = false from Bool.eq_false_iff.mpr e, Bool.false_and]
      have := q _ S1
      rw [en] at this
      exact this
end
end Tb
namespace Tb
open PySem PySem.Spec PyProof.Rows L2
/-! ### prefixes and lanes: the mirrors -/
/-- the first n signs -/
def pre (a : Str) (n : Nat) : Str := cutS a none (some (n : Int))
abbrev Kvs := List (Key × V)
/-- the longest of the first n beginnings that is a key -/
def lp (kvs : Kvs) (a : Str) : Nat → Option Str
  | 0 => none
  | n + 1 => if (valV kvs (Sum.inr (pre a (n + 1)))).isSome = true then some (pre a (n + 1)) else lp kvs a n
def long (kvs : Kvs) (a : Str) : Option Str := lp kvs a a.length
def oStr : Option Str → V
  | none => .non
  | some z => .str z
/-- the lane of an address -/
def laneV (kvs : Kvs) (a : Str) : V := match long kvs a with
  | none => .non
  | some p => (valV kvs (Sum.inr p)).getD .non
theorem lp_some {kvs : Kvs} {a : Str} : ∀ {n : Nat} {p : Str}, lp kvs a n = some p → ∃ v, valV kvs (Sum.inr p) = some v
  | 0, _, h => by cases h
  | n + 1, p, h => by
    unfold lp at h
    by_cases c : (valV kvs (Sum.inr (pre a (n + 1)))).isSome = true
    · rw [if_pos c] at h
      cases h
      exact Option.isSome_iff_exists.mp c
    · rw [if_neg c] at h
      exact lp_some h
theorem lp_len {kvs : Kvs} {a : Str} : ∀ {n : Nat} {p : Str}, lp kvs a n = some p → p.length ≤ a.length
  | 0, _, h => by cases h
  | n + 1, p, h => by
    unfold lp at h
    by_cases c : (valV kvs (Sum.inr (pre a (n + 1)))).isSome = true
    · rw [if_pos c] at h
      cases h
      exact cutS_length a _ _
    · rw [if_neg c] at h
      exact lp_len h
section
variable {P : Program} {w : World} {K : PySem.W.Frag} {mg : Str → Option Value} {base : Heap}
/-- a dict and an address in; what g says out, the heap as it was -/
def spDA (g : Kvs → Str → V) : Sp := fun vs H Q _ => ∃ (d : Addr) (kvs : Kvs) (a : Str), vs = [.ref d, .str a] ∧ H d = some (.dK kvs) ∧ a.length ≤ 1000 ∧ Q (g kvs a) H
end
end Tb
namespace Tb
open PySem PySem.Spec PyProof.Rows L2
open PySem.W (EachIs AllAlike Sortable dataLe)
/-! ### sorted, any number of items -/
theorem vals_each : ∀ {bs : List (V × PyData)} {us : List Value}, Vals (bs.map Prod.fst) us → EachIs (fun (v : Value) (b : V × PyData) => RelV b.1 v) us bs
  | [], _, r => by cases r; exact .nil
  | b :: bs, _, r => by
    cases r with
    | cons r1 r2 => exact .cons r1 (vals_each r2)
theorem each_vals : ∀ {bs : List (V × PyData)} {us : List Value}, EachIs (fun (v : Value) (b : V × PyData) => RelV b.1 v) us bs → Vals (bs.map Prod.fst) us
  | [], _, r => by cases r; exact .nil
  | b :: bs, _, r => by
    cases r with
    | cons r1 r2 => exact .cons r1 (each_vals r2)
theorem each_imp {α β : Type} {R S : α → β → Prop} : ∀ {as : List α} {bs : List β}, EachIs R as bs → (∀ a b, b ∈ bs → R a b → S a b) → EachIs S as bs
  | _, _, .nil, _ => .nil
  | _, _, .cons h t, k => .cons (k _ _ (List.mem_cons_self ..) h) (each_imp t fun a b hb => k a b (List.mem_cons_of_mem _ hb))
def rSortDt (K : PySem.W.Frag) : List V → Hp → VK → Prop := fun vs H Q => ∃ (a : Addr) (bs : List (V × PyData)), vs = [.ref a] ∧ SqL K H a (bs.map Prod.fst) ∧ (∀ b ∈ bs, Dp K H b.1 b.2) ∧ AllAlike (bs.map Prod.snd) ∧ Sortable (bs.map Prod.snd) ∧ (∀ b ∈ bs, b.2.depth ≤ 10) ∧
  ∀ p, H p = none → Q (.ref p) (upd H p (.lst ((bs.mergeSort (dataLe false Prod.snd)).map Prod.fst)))
section
variable {X : Cx}
theorem cr_sortedDt (hu : X.A.units + 64 < cLine) : CallR X (.builtin "sorted") (rSortDt X.K) := by
  intro pins s σ H vs us Q I r h
  obtain ⟨a, bs, rfl, hs, hd, hal, hso, hdp, q⟩ := h
  obtain ⟨its, rv, hl, hz⟩ := I.list hs
  rw [Vals.ref1 r]
  have e := vals_each rv
  rw [List.length_map] at hz
  refine PySem.W.sorted_data (enc := Prod.snd) hl.isList e (each_imp e fun v b hb rb => Dp.reads I b.2 b.1 v (hd b hb) rb) hal hso hz (fun b hb => by have := hdp b hb; omega) fun out ho eo => ?_
  obtain ⟨ep, he'⟩ := PyProof.Rows.sortedAll_at s.heap its out.toArray
  have hlen : ((bs.mergeSort (dataLe false Prod.snd)).map Prod.fst).length ≤ sizeLine := by
    rw [List.length_map, List.length_mergeSort]
    exact hz
  exact ⟨.ref _, upd H (s.heap.objs.size + 1) (.lst ((bs.mergeSort (dataLe false Prod.snd)).map Prod.fst)), I.laid (t' := s.toks) (fun _ _ => PyProof.Rows.sortedAll_old) (Nat.le_succ _) ⟨hlen, out, ep, each_vals eo, he'⟩, rfl, q _ (I.hok.fresh (Nat.le_succ _))⟩
/-- sorted(d), the keys texts, any number of them -/
theorem cr_sortedDk (hcalm : X.calm = true) (hu : X.A.units + 64 < cLine) : CallR X (.builtin "sorted") (fun xs H Q => ∃ (a : Addr) (kvs : List (Key × V)) (ks : List Str), xs = [.ref a] ∧ Rd H a (.dK kvs) ∧ kvs.map (·.1) = ks.map Sum.inr ∧ ks.length ≤ 1000 ∧
    ∀ p, H p = none → Q (.ref p) (upd H p (.lst ((ks.mergeSort (dataLe false PyData.str)).map V.str)))) := by
  intro pins s σ H xs us Q I r q
  obtain ⟨a, kvs, ks, rfl, hd, hks, hln, q⟩ := q
  obtain ⟨u, rfl, rx⟩ := vals1 r
  cases rx
  obtain ⟨z, lo, vs, rel, dd⟩ := dk_rd I.hok hd
  obtain ⟨ep, hat⟩ := dd.dictAt
  have hkeys : vs.map (·.1) = ks.map Sum.inr := rel.keys.symm.trans hks
  have hl : vs.length = ks.length := by
    have e := congrArg List.length hkeys
    rwa [List.length_map, List.length_map] at e
  have hline : sizeLine = 16777216 := rfl
  refine Calls.call_function_entry PyProof.Rows.kind_sorted PyProof.Rows.plain_sorted PyProof.Rows.entry_sorted (PyProof.Rows.args_sorted1 _) ?_
  unfold Builtin.«sorted»
  refine wpAny_bind (m := checkCount "sorted" 1 1 _) (wpAny_pure ?_)
  refine wpAny_bind (PySem.W.kdu_collect (A := X.A.in1) (PySem.W.kdl_dict (knd := mixKind X.prog X.w) (kvs := vs) (ep := ep) lo) (I.ok.hd hcalm) hat (by omega) fun h' tk acc hk hacc => ?_)
  have hal : acc.toList.length = ks.length := by rw [Array.length_toList, hacc.1, hl]
  -- the values are the texts
  have each : EachIs (fun (v : Value) (x : Str) => ∃ t, v = .str x t) acc.toList ks := by
    have gen : ∀ (n : Nat) (us : List Value) (xs : List Str), us.length = xs.length → (∀ (j : Nat) (v : Value), us[j]? = some v → ∃ (x : Str) (t : Tok), xs[j]? = some x ∧ v = Value.str x t) →
      EachIs (fun (v : Value) (x : Str) => ∃ t, v = .str x t) us xs := by
      intro _ us
      induction us with
      | nil =>
        intro xs e _
        cases xs with
        | nil => exact .nil
        | cons _ _ => cases e
      | cons u us ih =>
        intro xs e k
        cases xs with
        | nil => cases e
        | cons x xs =>
          obtain ⟨x', t, e1, e2⟩ := k 0 u rfl
          cases e1
          exact .cons ⟨t, e2⟩ (ih xs (Nat.succ.inj e) fun j v hv => k (j + 1) v hv)
    refine gen 0 _ _ hal fun j v e => ?_
    obtain ⟨k, x, e1, e2⟩ := hacc.2 j v (by rw [← Array.getElem?_toList]; exact e)
    have e3 : (vs.map (·.1))[j]? = some k := by rw [List.getElem?_map, e1]; rfl
    rw [hkeys, List.getElem?_map] at e3
    cases e4 : ks[j]? with
    | none => rw [e4] at e3; cases e3
    | some y =>
      rw [e4] at e3
      cases (Option.some.inj e3 : Sum.inr y = k)
      obtain ⟨t, ev⟩ := Value.isStrOf_shape (x := y) (v := v) e2
      exact ⟨y, t, rfl, ev⟩
  have I1 : Inv X pins σ H { s with heap := h', toks := tk } := I.kept hk
  refine wpAny_bind (wpAny_newList ?_ (by rw [hal]; omega))
  have hoL : (h'.push (seqObj "list" acc.toList.toArray 0)).get? h'.objs.size = some (seqObj "list" acc.toList.toArray 0) := Heap.get?_push_size _ rfl
  show wpAny _ _ _ _ _ { s with heap := h'.push (seqObj "list" acc.toList.toArray 0), toks := tk }
  have alike1 : AllAlike (ks.map PyData.str) := fun d hd d' hd' => by
    obtain ⟨x, _, rfl⟩ := List.mem_map.mp hd
    obtain ⟨y, _, rfl⟩ := List.mem_map.mp hd'
    simp [PySem.W.alike]
  have srt1 : Sortable (ks.map PyData.str) := .inr fun d hd => by
    obtain ⟨x, _, rfl⟩ := List.mem_map.mp hd
    exact ⟨PyData.noConfusion, fun _ => PyData.noConfusion⟩
  refine wpAny_bind (wpAny_holding (PySem.W.list_sort_data (enc := PyData.str) (s := { s with heap := h'.push (seqObj "list" acc.toList.toArray 0), toks := tk }) hoL each (each_imp each fun v x _ ⟨t, e⟩ => ⟨[], by rw [e]; exact Reads.str x t, List.not_mem_nil⟩) alike1 srt1 (by omega) ?k4 fun out ho eo => ?_))
  case k4 =>
    intro b _
    have h1 : (PyData.str b).depth ≤ 1 := by simp [PyData.depth]
    have h2 : X.A.in1.units = X.A.units + 1 := rfl
    omega
  obtain ⟨ep', he'⟩ := PyProof.Rows.sortedHeap_at (vs := acc.toList) (out := out.toArray) hoL
  have hlen : ((ks.mergeSort (dataLe false PyData.str)).map V.str).length ≤ sizeLine := by
    rw [List.length_map, List.length_mergeSort]
    omega
  have ev : Vals ((ks.mergeSort (dataLe false PyData.str)).map V.str) out := by
    generalize ks.mergeSort (dataLe false PyData.str) = zs at eo
    clear ho he' hlen
    induction eo with
    | nil => exact .nil
    | cons h _ ih => exact .cons h ih
  have hnew : H h'.objs.size = none := I1.hok.fresh (Nat.le_refl _)
  refine wpAny_pure ⟨_, rfl, .ref h'.objs.size, upd H h'.objs.size (.lst ((ks.mergeSort (dataLe false PyData.str)).map V.str)), I1.laid (t' := tk) (fun b o e => ?_) (Nat.le_refl _) ⟨hlen, out, ep', ev, he'⟩, rfl, q _ hnew⟩
  have hb : b < h'.objs.size := Heap.lt_size e
  rw [PyProof.Rows.sortedHeap_old (Nat.ne_of_lt hb) (by rw [size_push']; exact Nat.lt_succ_of_lt hb)]
  exact Heap.get?_push_of_some _ e
end
end Tb
namespace Tb
open PySem PySem.Spec PyProof.Rows L2
open PySem.W (EachIs AllAlike Sortable dataLe)
/-! ### sorted(d.items()) -/
abbrev Pr := Str × Str
def enc2 (p : Pr) : PyData := .tuple [.str p.1, .str p.2]
def kvP (ps : List Pr) : Kvs := ps.map fun p => (Sum.inr p.1, V.str p.2)
section
variable {prog : Program} {w : World} {κ : Type} [DecidableEq κ] {knd : KeyKind prog w κ} {A : Around} {E : Value → Shared → Prop} {s : Shared} {r d : Addr} {kvs : List (κ × Value)} {ep : Nat}
theorem collect_items {R : List Value → Shared → Prop} (hh : A.handled = none) (hv : s.heap.IsItemsView r d) (hm : s.heap.DictAt knd d kvs ep) (hn : kvs.length ≤ sizeLine)
    (h : ∀ (h' : Heap) (tk : Nat) (acc : Array Value) (c : Nat) (as : List Addr), (∀ b o, s.heap.get? b = some o → h'.get? b = some o) → h'.get? s.heap.objs.size = some { cls := .type "list", dict := none, data := .seq acc c, slots := #[] } → as.length = kvs.length → PySem.W.KdxG knd kvs s.heap.objs.size h' as →
      acc.toList = as.map Value.ref → R (as.map Value.ref) { s with heap := h', toks := tk }) :
    wpAny (model prog w) A (collect (.ref r)) R E s := by
  obtain ⟨ov, hov, hvr⟩ := id hv
  have hr : r < s.heap.objs.size := Heap.lt_size hov
  have hd : d < s.heap.objs.size := by
    obtain ⟨od, _, hod, _⟩ := id hm
    exact Heap.lt_size hod
  unfold collect
  refine wpAny_bind (wpAny_runValue (codeAny_builtin entry_proto_collect' ?_))
  rw [Around.under_plainId PySem.F.plain_proto_collect _]
  show wpAny _ A.in1 (newList [] >>= fun l => again (.builtin "list.__iadd__" ⟨[l, .ref r], []⟩)) _ _ s
  refine wpAny_bind (wpAny_newObj_type ?_)
  refine wpAny_pure ⟨plainId_quiet PySem.F.plain_list_iadd _, codeAny_builtin entry_list_iadd' ?_⟩
  rw [Around.under_plainId PySem.F.plain_list_iadd _]
  have up : ∀ b o, s.heap.get? b = some o → (s.heap.push { cls := .type "list", data := .seq ([] : List Value).toArray }).get? b = some o := fun b o e => Heap.get?_push_of_some _ e
  have key := PySem.W.kdx_extend (A := A) (knd := knd) (kvs := kvs) (ep := ep) (s := { s with heap := s.heap.push { cls := .type "list", data := .seq ([] : List Value).toArray } })
    (R := fun (q : Result) (s' : Shared) => ∃ (h' : Heap) (tk : Nat) (acc : Array Value) (c : Nat) (as : List Addr), q = .ok (.ret (.ref s.heap.objs.size)) ∧ s' = { s with heap := h', toks := tk } ∧ (∀ b o, s.heap.get? b = some o → h'.get? b = some o) ∧
      h'.get? s.heap.objs.size = some { cls := .type "list", dict := none, data := .seq acc c, slots := #[] } ∧ as.length = kvs.length ∧ PySem.W.KdxG knd kvs s.heap.objs.size h' as ∧ acc.toList = as.map Value.ref)
    hh ⟨ov, up _ _ hov, hvr⟩ (hm.at' fun o e => up _ _ e) s.heap.objs.size (Nat.ne_of_gt hr) (Nat.ne_of_lt hd) (.ref s.heap.objs.size) 0 (Heap.get?_push_size _ rfl)
    (fun h' tk acc c as hk hS hl hG hacc => ⟨h', tk, acc, c, as, rfl, rfl, fun b o e => hk b o (Nat.ne_of_lt (Heap.lt_size e)) (up _ _ e), hS, hl, hG.low (by show s.heap.objs.size ≤ (s.heap.push _).objs.size; rw [Heap.size_push]; exact Nat.le_succ _), hacc⟩) hn
  refine wpAny_mono key (fun fin s' x => ?_) fun e s' x => ?_
  · cases fin with
    | done f =>
      obtain ⟨h', tk, acc, c, as, e, rfl, hk, hS, hl, hG, hacc⟩ := x
      cases e
      show wpAny _ A (load s.heap.objs.size >>= _) _ _ _
      refine wpAny_bind (wpAny_load hS ?_)
      refine wpAny_pure ?_
      show R acc.toList _
      rw [hacc]
      exact h h' tk acc c as hk hS hl hG hacc
    | again c₁ =>
      refine ⟨x.1, codeAny_mono x.2 fun q s₂ y => ?_⟩
      obtain ⟨h', tk, acc, c, as, rfl, rfl, hk, hS, hl, hG, hacc⟩ := y
      show wpAny _ A (load s.heap.objs.size >>= _) _ _ _
      refine wpAny_bind (wpAny_load hS ?_)
      refine wpAny_pure ?_
      show R acc.toList _
      rw [hacc]
      exact h h' tk acc c as hk hS hl hG hacc
  · obtain ⟨_, _, _, _, _, e', _⟩ := x
    cases e'
end
/-- the order of the pairs, and of the texts -/
def le2 : Pr → Pr → Bool := dataLe false enc2
def le1 : Str → Str → Bool := dataLe false PyData.str
theorem alike2 (ps : List Pr) : AllAlike (ps.map enc2) := fun d hd d' hd' => by
  obtain ⟨x, _, rfl⟩ := List.mem_map.mp hd
  obtain ⟨y, _, rfl⟩ := List.mem_map.mp hd'
  simp [enc2, PySem.W.alike, PySem.W.alikeAll]
theorem sortable2 (ps : List Pr) : Sortable (ps.map enc2) := .inl fun d hd => by
  obtain ⟨x, _, rfl⟩ := List.mem_map.mp hd
  exact ⟨_, _, rfl⟩
theorem depth2 (p : Pr) : (enc2 p).depth ≤ 2 := by simp [enc2, PyData.depth, PyData.depthAll]
/-- a list of refs to pairs of texts -/
structure PrsAt (K : PySem.W.Frag) (H : Hp) (l : Addr) (ts : List (Addr × Pr)) : Prop where
  l : SqL K H l (ts.map fun t => V.ref t.1)
  t : ∀ t ∈ ts, SqT K H t.1 [.str t.2.1, .str t.2.2]
theorem kvP_keys (ps : List Pr) : (kvP ps).map (·.1) = (ps.map (·.1)).map Sum.inr := by
  unfold kvP
  rw [List.map_map, List.map_map]
  rfl
/-- sorted(e.items()) -/
def tSortItems (te : TE) : TE := fun σ H Q => te σ H fun x H1 => ∃ (d : Addr) (ps : List Pr), x = .ref d ∧ H1 d = some (.dK (kvP ps)) ∧ ps.length ≤ 1000 ∧
  ∀ (H' : Hp) (p : Addr) (ts : List (Addr × Pr)), Same H1 H' → H1 p = none → H' p = some (.lst (ts.map fun t => V.ref t.1)) → (∀ t ∈ ts, H' t.1 = some (.tup [.str t.2.1, .str t.2.2])) → ts.map (·.2) = ps.mergeSort le2 → Q (.ref p) H'
section
variable {X : Cx} {e : Expr} {te : TE} {p apos cpos pos : Pos}
theorem pe_sortedItems (hc : X.calm = true) (hu : X.A.units + 64 < cLine) (he : PE X e te) (hg : Gl X "sorted") (hm : X.mg "sorted" = none) (hbase : attributeBase e "items" X.env (eval e X.env) = eval e X.env := by rfl) (hline : (apos.endLine == cpos.line) = true := by rfl)
    (hs : starEach [.Call (.Attribute e "items" apos) [] [] cpos] X.env = (false, eval (.Call (.Attribute e "items" apos) [] [] cpos) X.env) :: starEach [] X.env := by rfl) :
    PE X (.Call (.Name "sorted" p) [.Call (.Attribute e "items" apos) [] [] cpos] [] pos) (tSortItems te) := by
  refine ⟨fun pins s σ H Q I hq => ?_⟩
  refine wpAny_Call_Name_kw (ld_blt I hg hm PyProof.Rows.boot_sorted ?_)
  refine PyProof.Rows.callWith_builtin1 ?_ hs rfl
  rw [hs]
  show wpAny _ _ (spliced ((false, eval (.Call (.Attribute e "items" apos) [] [] cpos) X.env) :: backTo pos (starEach [] X.env))) _ _ s
  refine Calls.spliced_cons ?_
  refine wpAny_Call_method (T := "dict") (id := "dict.items") hbase rfl hline PySem.F.plainAttrs_dict PySem.F.slot_dict_items PySem.F.type_dict_items (thn (he.run pins s σ H _ I hq) fun u s1 ⟨x, H1, I1, rx, d, ps, ex, hd, hln, q⟩ => ?_)
  subst ex
  obtain rfl : u = Value.ref d := rx
  obtain ⟨hz, hs0, vs, kv, hdo⟩ := I1.hok d _ hd
  obtain ⟨ep, hat⟩ := hdo.dictAt
  have lk : (kvP ps).length = vs.length := Paired.length kv
  have lps : (kvP ps).length = ps.length := by unfold kvP; rw [List.length_map]
  have hline' : sizeLine = 16777216 := rfl
  have I2 : Inv X pins σ H1 { s1 with heap := s1.heap.push { cls := .type "dict_items", data := .fields #[.ref d] } } := I1.kept (t' := s1.toks) fun b ob q => Heap.get?_push_of_some _ q
  refine ⟨hdo.typeIs, hdo.mapOf.noDict, ?_⟩
  show wpAny _ _ (callWith cpos (.builtin "dict.items") [.ref d] [] []) _ X.xe s1
  refine method_meetsIn PySem.F.slot_dict_items PySem.F.entry_dict_items rfl (PySem.evalArgs_none ⟨rfl, hdo.typeIs, PySem.F.args_dict_items_1 _, _, meets_dict_items (mixKind X.prog X.w) d hs0, ⟨vs, hdo⟩, ?_⟩)
  refine Calls.spliced_nil ?_
  refine Calls.call_function_entry PyProof.Rows.kind_sorted PyProof.Rows.plain_sorted PyProof.Rows.entry_sorted (PyProof.Rows.args_sorted1 _) ?_
  unfold Builtin.«sorted»
  refine wpAny_bind (m := checkCount "sorted" 1 1 _) (wpAny_pure ?_)
  refine wpAny_bind (collect_items (A := X.A.in1) (knd := mixKind X.prog X.w) (kvs := vs) (ep := ep) (I1.ok.hd hc) ⟨_, Heap.get?_push_size _ rfl, rfl, rfl⟩ (hat.push _) (by omega) fun h' tk acc c as hk hS hl hG hacc => ?_)
  obtain ⟨H', k1, k2, k3, k4, k5, k6, J⟩ := LiI.items_laid (tk := tk) I2 hz kv hk hS hl hG hacc
  have las : as.length = ps.length := by omega
  -- the pairs with their places
  have pr : ∀ t ∈ as.zip ps, H' t.1 = some (.tup [.str t.2.1, .str t.2.2]) := by
    intro t ht
    obtain ⟨j, hj⟩ := List.mem_iff_getElem?.mp ht
    rw [List.getElem?_zip_eq_some] at hj
    obtain ⟨y, hy, hy2⟩ := LiI.paired_get k6 hj.1
    unfold kvP at hy
    rw [List.getElem?_map, hj.2] at hy
    cases (Option.some.inj hy)
    exact hy2
  have z1 : (as.zip ps).map Prod.fst = as := List.map_fst_zip (by omega)
  have z2 : (as.zip ps).map Prod.snd = ps := List.map_snd_zip (by omega)
  generalize as.zip ps = bs at pr z1 z2
  have lbs : bs.length = as.length := by rw [← z1, List.length_map]
  refine wpAny_bind (wpAny_newList ?_ (by rw [List.length_map]; omega))
  have hoL : (h'.push (seqObj "list" (as.map Value.ref).toArray 0)).get? h'.objs.size = some (seqObj "list" (as.map Value.ref).toArray 0) := Heap.get?_push_size _ rfl
  show wpAny _ _ _ _ _ { s1 with heap := h'.push (seqObj "list" (as.map Value.ref).toArray 0), toks := tk }
  have e2 : bs.map (fun t : Addr × Pr => enc2 t.2) = ps.map enc2 := by rw [← z2, List.map_map]; rfl
  have each : EachIs (fun (v : Value) (t : Addr × Pr) => v = .ref t.1) (as.map Value.ref) bs := by
    rw [← z1, List.map_map]
    clear pr z1 z2 lbs e2
    induction bs with
    | nil => exact .nil
    | cons b bs ih => exact .cons rfl ih
  have Jn := J
  have old : ∀ b o, h'.get? b = some o → (h'.push (seqObj "list" (as.map Value.ref).toArray 0)).get? b = some o := fun b o e => Heap.get?_push_of_some _ e
  have rd : EachIs (fun (v : Value) (t : Addr × Pr) => ∃ as', Reads (h'.push (seqObj "list" (as.map Value.ref).toArray 0)) v (enc2 t.2) as' ∧ h'.objs.size ∉ as') (as.map Value.ref) bs := by
    refine each_imp each fun v t ht hv => ?_
    subst hv
    obtain ⟨_, its, rv, o, h1, h2, n, h3⟩ := (show ObjOk X.prog X.w H' h' t.1 (.tup [.str t.2.1, .str t.2.2]) from J.hok t.1 _ (pr t ht))
    obtain ⟨u1, u2, rfl, r1, r2⟩ := vals2 rv
    obtain ⟨t1, rfl⟩ := r1
    obtain ⟨t2, rfl⟩ := r2
    exact ⟨[], Reads.tuple (old _ _ h1) h2 h3 (ReadsAll.cons (Reads.str _ _) (ReadsAll.cons (Reads.str _ _) ReadsAll.nil)), List.not_mem_nil⟩
  refine wpAny_bind (wpAny_holding (PySem.W.list_sort_data (enc := fun t : Addr × Pr => enc2 t.2) (s := { s1 with heap := h'.push (seqObj "list" (as.map Value.ref).toArray 0), toks := tk }) hoL each rd (by rw [e2]; exact alike2 ps) (by rw [e2]; exact sortable2 ps) (by omega) ?k4 fun out ho eo => ?_))
  case k4 =>
    intro b _
    have h1 := depth2 b.2
    have h2 : X.A.in1.units = X.A.units + 1 := rfl
    omega
  obtain ⟨ep', he'⟩ := PyProof.Rows.sortedHeap_at (vs := as.map Value.ref) (out := out.toArray) hoL
  have hsm : (bs.mergeSort (dataLe false fun t : Addr × Pr => enc2 t.2)).map (·.2) = ps.mergeSort le2 := by
    have h := PySem.W.sort_maps (r := dataLe false fun t : Addr × Pr => enc2 t.2) (s := le2) (l := bs) (fun t : Addr × Pr => t.2) (fun _ _ _ _ => rfl)
    rw [z2] at h
    exact h
  have hmem : ∀ t ∈ bs.mergeSort (dataLe false fun t : Addr × Pr => enc2 t.2), H' t.1 = some (.tup [.str t.2.1, .str t.2.2]) := fun t ht => pr t (List.mem_mergeSort.mp ht)
  have hlen : ((bs.mergeSort (dataLe false fun t : Addr × Pr => enc2 t.2)).map fun t => V.ref t.1).length ≤ sizeLine := by
    rw [List.length_map, List.length_mergeSort]
    omega
  generalize bs.mergeSort (dataLe false fun t : Addr × Pr => enc2 t.2) = ts at eo hsm hmem hlen
  have ev : Vals (ts.map fun t => V.ref t.1) out := by
    clear ho he' hlen hsm hmem
    induction eo with
    | nil => exact .nil
    | cons h _ ih => exact .cons h ih
  have hnew : H' h'.objs.size = none := J.hok.fresh (Nat.le_refl _)
  refine wpAny_pure ⟨_, rfl, .ref h'.objs.size, upd H' h'.objs.size (.lst (ts.map fun t => V.ref t.1)), J.laid (t' := tk) (fun b o e => ?_) (Nat.le_refl _) ⟨hlen, out, ep', ev, he'⟩, rfl, q _ _ ts ((show Same H1 H' from k1).trans (same_upd hnew)) ((show Same H1 H' from k1).free hnew) upd_same (fun t ht => by rw [upd_ne (ne_of_none (hmem t ht) hnew)]; exact hmem t ht) hsm⟩
  have hb : b < h'.objs.size := Heap.lt_size e
  rw [PyProof.Rows.sortedHeap_old (Nat.ne_of_lt hb) (by rw [size_push']; exact Nat.lt_succ_of_lt hb)]
  exact old b o e
end
end Tb
namespace Tb
open PySem PySem.Spec PyProof.Rows L2
/-! ### errors with one field (as in wip/k17 X17A, over this text) -/
structure ErrC (K : PySem.W.Frag) (C fI : Addr) (n : Str) : Prop where
  ox : OexC K C
  xf : XfC K C
  no : PySem.W.findIn K (.ref C) n = some none
  iC : PySem.W.findIn K (.ref C) "__init__" = some (some (.ref fI))
  tI : PySem.W.typeIn K (.ref fI) = some (.type "function")
  cl : (PySem.W.clsIn K C).isSome = true
  ha : PySem.W.findIn K (.ref C) "__class__" = some (some (.builtin "object.__class__"))
  hm : PySem.W.mroIn K C (.type "object") = some true
  hn : PySem.W.specialIn K (.builtin "object.__class__") "__get__" = some (some (.builtin "getset_descriptor.__get__"))
  tk : PySem.W.takesIn K (.builtin "object.__class__") = some true
def spErr (K : PySem.W.Frag) (n : Str) : Sp := fun vs H Q _ => ∃ (a C : Addr) (v : V), vs = [.ref a, v] ∧ OexC K C ∧ PySem.W.findIn K (.ref C) n = some none ∧ H a = some (exo a C none) ∧ ∀ dx, H dx = none → dx ≠ a → Q .non (upd (upd H dx (exd dx [(n, v)])) a (exo a C (some dx)))
theorem err_made {K : PySem.W.Frag} {C fI : Addr} {n : Str} (T : ErrC K C fI n) {v : V} {H : Hp} {Q : XK} (q : ∀ d H', Same H H' → H' d = some (.xd [(n, v)]) → Q (.ref C) (some d) H') :
    ∀ a, H a = none → spErr K n [.ref a, v] (upd H a (exo a C none)) (fun u H2 => u = .non ∧ ∃ (d : Addr) (fs : List (Str × V)), H2 a = some (exo a C (some d)) ∧ H2 d = some (exd d fs) ∧ H d = none ∧ Q (.ref C) (some d) (upd (del H2 a) d (.xd fs))) (fun _ _ _ => False) := by
  intro a na
  refine ⟨a, C, v, rfl, T.ox, T.no, upd_same, fun d nd da => ⟨rfl, d, [(n, v)], upd_same, ?_, ?_, ?_⟩⟩
  · rw [upd_ne da]
    exact upd_same
  · rw [upd_ne da] at nd
    exact nd
  · rw [upd_ne da] at nd
    refine q d _ (fun b o hb => ?_) upd_same
    have hba : b ≠ a := ne_of_none hb na
    have hbd : b ≠ d := ne_of_none hb nd
    rw [upd_ne hbd, del_ne hba, upd_ne hba, upd_ne hbd, upd_ne hba]
    exact hb
section
variable {X : Cx} {a D : Addr} {oe : Obj} {pn : List (Addr × Obj)} {d : Option Addr} {cls : Value}
def rIsX (K : PySem.W.Frag) (D a : Addr) (cls : Value) (d : Option Addr) : List V → Hp → VK → Prop := fun xs H Q => cls = .ref D ∧ ∃ (c : V) (cv : Value) (b : Bool) (dd : Addr) (fs : List (Str × V)), xs = [.ref a, c] ∧ ClsV c cv ∧ d = some dd ∧ H dd = some (.xd fs) ∧ PySem.W.kitOne K (.ref D) cv = some b ∧ Q (.bl b) H
theorem inst_at {pins : List (Addr × Obj)} {σ : L2.St} {H : Hp} {s : Shared} {dd : Addr} {fs : List (Str × V)} (hz : Zc (.ref D) (some dd) oe) (hf : ∃ vs, oe.data = .fields vs) (I : Inv (X.suite a ((a, oe) :: pn)) pins σ H s) (hd : H dd = some (.xd fs)) : ∃ od, PySem.W.InstAt s.heap a oe D (some od) := by
  obtain ⟨ha, _⟩ := I.pin (a, oe) (List.mem_append_left _ List.mem_cons_self)
  obtain ⟨vs, hv⟩ := hf
  have hx : ObjOk X.prog X.w H s.heap dd (.xd fs) := I.hok dd _ hd
  obtain ⟨mA, hns, _⟩ := hx
  obtain ⟨od, ho, _⟩ := lookIn_ns hns
  refine ⟨od, ha, hz.1, ?_, ?_⟩
  · unfold PySem.W.notCls
    rw [hv]
  · rw [hz.2]
    exact ho
theorem call_isX {fI : Addr} {n : Str} (T : ErrC X.K D fI n) (hz : Zc cls d oe) (hf : ∃ vs, oe.data = .fields vs) : CallR (X.suite a ((a, oe) :: pn)) (.builtin "isinstance") (rIsX X.K D a cls d) := by
  intro pins s σ H xs us Q I r h
  obtain ⟨rfl, c, cv, b, dd, fs, rfl, hc, rfl, hdd, e, q⟩ := h
  obtain ⟨u1, u2, rfl, r1, r2⟩ := vals2 r
  cases (show u1 = Value.ref a from r1)
  obtain rfl := hc.eq r2
  obtain ⟨od, J⟩ := inst_at hz hf I hdd
  exact PySem.W.kia_one (PySem.W.kitx_exc T.cl T.xf.ga T.xf.gg T.xf.exC T.ha T.hn T.tk T.hm) I.kIn J e (fun z => nomatch z) fun tk => ⟨.bl b, H, I.tok tk, rfl, q⟩
end
abbrev sInv : Stmt := inClass (topS 3) 0
theorem scInv : FnScope ["self", "what"] ["self", "what"] (defScope sInv) := ⟨rfl, rfl, rfl, by decide +kernel, rfl, by decide +kernel, by decide +kernel⟩
abbrev wWhat : Str := ("what" : String)
abbrev wName : Str := ("name" : String)
abbrev wTable : Str := ("table" : String)
abbrev wLanes : Str := ("_lanes" : String)
/-- a method of the text -/
structure Mm (K : PySem.W.Frag) (x qual : Str) (st : Stmt) (ps : List Str) (f : Addr) (fd : FuncData) : Prop where
  F : Fun K x qual st f fd
  b : Binds K fd ps []
section
variable {P : Program} {w : World} {K : PySem.W.Frag} {mg : Str → Option Value} {base : Heap}
theorem ok_inv {f : Addr} {fd : FuncData} {k : Nat} (F : Fun K "__init__" "Invalid.__init__" sInv f fd) : FnOk P w K mg base CX0 (k + 1) f fd ["self", "what"] (spErr K wWhat) := by
  refine F.ok scInv (fun vs H Q E h => ?_) (fun cdv A outer s H vs Q E hr h => ?_)
  · obtain ⟨a, C, v, rfl, _⟩ := h
    rfl
  · obtain ⟨a, C, v, rfl, ox, no, ha, q⟩ := h
    refine ⟨_, pss_one (ps_ost (pv 0) (pv 1)), ?_⟩
    exact ⟨v, rfl, .ref a, rfl, a, C, rfl, ox, no, .inl ⟨ha, fun dx nd da => q dx nd da⟩⟩
/-- the class Invalid and its __init__ -/
structure EInv (K : PySem.W.Frag) (mg : Str → Option Value) (C fI : Addr) (fdI : FuncData) : Prop where
  T : ErrC K C fI wWhat
  M : Mm K "__init__" "Invalid.__init__" sInv ["self", "what"] fI fdI
  g : mg "Invalid" = some (.ref C)
end
/-! ### heaps -/
def But (p : Addr) (H H' : Hp) : Prop := ∀ b o, H b = some o → b ≠ p → H' b = some o
theorem But.refl (p : Addr) (H : Hp) : But p H H := fun _ _ h _ => h
theorem But.trans {p : Addr} {H H1 H2 : Hp} (a : But p H H1) (b : But p H1 H2) : But p H H2 := fun c o h n => b c o (a c o h n) n
theorem But.upd {p : Addr} {H : Hp} {o : HO} : But p H (upd H p o) := fun b x e n => by rw [upd_ne n]; exact e
theorem Same.but {p : Addr} {H H' : Hp} (h : Same H H') : But p H H' := fun b o e _ => h b o e
/-! ### rows -/
def Good (ps : List Pr) : Prop := (∀ p ∈ ps, isAddr p.1 = true ∧ isLane p.2 = true) ∧ (ps.map Prod.fst).Nodup
def ok1 (kvs : Kvs) (p : Pr) : Bool := isAddr p.1 && isLane p.2 && (valV kvs (Sum.inr p.1)).isNone
theorem valV_kvP (k : Str) : ∀ ps : List Pr, (valV (kvP ps) (Sum.inr k)).isSome = true ↔ k ∈ ps.map Prod.fst
  | [] => by simp [kvP, valV]
  | p :: ps => by
    have ih := valV_kvP k ps
    by_cases c : p.1 = k
    · rw [show kvP (p :: ps) = (Sum.inr p.1, V.str p.2) :: kvP ps from rfl, valV_pos (by rw [c])]
      simp [c]
    · rw [show kvP (p :: ps) = (Sum.inr p.1, V.str p.2) :: kvP ps from rfl, valV_neg (by simpa using c), ih]
      simp [c, Ne.symm c, eq_comm]
theorem good_snoc {ps : List Pr} {p : Pr} (h : Good ps) (c : ok1 (kvP ps) p = true) : Good (ps ++ [p]) := by
  unfold ok1 at c
  rw [Bool.and_eq_true, Bool.and_eq_true] at c
  obtain ⟨⟨c1, c2⟩, c3⟩ := c
  refine ⟨fun q hq => ?_, ?_⟩
  · rcases List.mem_append.mp hq with hq | hq
    · exact h.1 q hq
    · cases List.mem_singleton.mp hq
      exact ⟨c1, c2⟩
  · rw [List.map_append, List.nodup_append]
    refine ⟨h.2, by simp, fun x hx y hy e => ?_⟩
    subst e
    rw [List.map_singleton, List.mem_singleton] at hy
    subst hy
    have := (valV_kvP p.1 ps).mpr hx
    rw [Option.isNone_iff_eq_none] at c3
    rw [c3] at this
    cases this
theorem good_ok {ps qs : List Pr} {p : Pr} (h : Good (ps ++ p :: qs)) : ok1 (kvP ps) p = true := by
  obtain ⟨h1, h2⟩ := h
  have a := h1 p (List.mem_append_right _ List.mem_cons_self)
  unfold ok1
  rw [a.1, a.2, Bool.true_and, Bool.true_and, Option.isNone_iff_eq_none]
  cases e : valV (kvP ps) (Sum.inr p.1) with
  | none => rfl
  | some v =>
    exfalso
    have m := (valV_kvP p.1 ps).mp (by rw [e]; rfl)
    rw [List.map_append, List.nodup_append] at h2
    exact h2.2.2 _ m _ (by simp) rfl
theorem put_snoc {ps : List Pr} {p : Pr} (c : ok1 (kvP ps) p = true) : putK (kvP ps) (Sum.inr p.1) (V.str p.2) = kvP (ps ++ [p]) := by
  unfold ok1 at c
  rw [Bool.and_eq_true] at c
  rw [putK_new _ (Option.isNone_iff_eq_none.mp c.2)]
  unfold kvP
  rw [List.map_append]
  rfl
end Tb
namespace Tb
open PySem PySem.Spec PyProof.Rows L2
open PySem.W (TotalLe dataLe)
/-! ### the order of the rows -/
def sLt (a b : Str) : Bool := decide (a.cps.toList < b.cps.toList)
theorem sLt_tri {a b : Str} (h1 : sLt a b = false) (h2 : sLt b a = false) : a = b := by
  have h1 : ¬ a.cps.toList < b.cps.toList := of_decide_eq_false h1
  have h2 : ¬ b.cps.toList < a.cps.toList := of_decide_eq_false h2
  have e : a.cps.toList = b.cps.toList := List.le_antisymm (List.not_lt.mp h2) (List.not_lt.mp h1)
  cases a; cases b
  simp only at e
  congr 1
  exact Array.ext' e
theorem lt2 (a b : Pr) : PySem.W.dataLt (enc2 a) (enc2 b) = if a.1 = b.1 then sLt a.2 b.2 else sLt a.1 b.1 := by
  have q : ∀ x y : Str, PyData.eqv (.str x) (.str y) = decide (x = y) := fun x y => by rw [PyData.eqv]; exact Bool.beq_eq_decide_eq x y
  unfold enc2
  rw [PySem.W.dataLt_pair (by simp [PySem.W.alike]) (by simp [PySem.W.alike]), q, q, PySem.W.dataLt_str, PySem.W.dataLt_str]
  by_cases c : a.1 = b.1
  · rw [if_pos (decide_eq_true c), if_pos c]
    by_cases c2 : a.2 = b.2
    · rw [if_pos (decide_eq_true c2), c2]
      exact (decide_eq_false (List.lt_irrefl _)).symm
    · rw [if_neg (by simpa using c2)]
      rfl
  · rw [if_neg (by simpa using c), if_neg c]
    rfl
theorem le2_eq (a b : Pr) : le2 a b = !(if b.1 = a.1 then sLt b.2 a.2 else sLt b.1 a.1) := by
  unfold le2
  rw [PySem.W.dataLe_eq]
  show (!PySem.W.dataLt (enc2 b) (enc2 a)) = _
  rw [lt2]
theorem le1_eq (a b : Str) : le1 a b = !sLt b a := by
  unfold le1
  rw [PySem.W.dataLe_eq]
  show (!PySem.W.dataLt (.str b) (.str a)) = _
  rw [PySem.W.dataLt_str]
  rfl
theorem le2_total : TotalLe le2 := by
  unfold le2 dataLe
  exact PySem.W.sortLe_total _ _ _
theorem le2_anti {a b : Pr} (h1 : le2 a b = true) (h2 : le2 b a = true) : a = b := by
  rw [le2_eq, Bool.not_eq_true'] at h1 h2
  by_cases c : a.1 = b.1
  · rw [if_pos c.symm] at h1
    rw [if_pos c] at h2
    exact Prod.ext c (sLt_tri h2 h1)
  · rw [if_neg (Ne.symm c)] at h1
    rw [if_neg c] at h2
    exact absurd (sLt_tri h2 h1) c
/-- the sorted list is one -/
theorem sort_perm {ps qs : List Pr} (h : ps.Perm qs) : ps.mergeSort le2 = qs.mergeSort le2 := by
  refine List.Perm.eq_of_pairwise (le := fun a b => le2 a b = true) (fun a b _ _ h1 h2 => le2_anti h1 h2) (PySem.W.sort_pairwise le2_total ps) (PySem.W.sort_pairwise le2_total qs) ?_
  exact ((List.mergeSort_perm ps le2).trans h).trans (List.mergeSort_perm qs le2).symm
/-- the first parts of the sorted rows are the sorted first parts -/
theorem sort_keys {ps : List Pr} (h : (ps.map Prod.fst).Nodup) : (ps.mergeSort le2).map Prod.fst = (ps.map Prod.fst).mergeSort le1 := by
  refine PySem.W.sort_maps (r := le2) (s := le1) Prod.fst fun a ha b hb => ?_
  rw [le2_eq, le1_eq]
  by_cases c : b.1 = a.1
  · have e : a = b := by
      have := List.pairwise_map.mp h
      exact Classical.byContradiction fun n => by
        have : ∀ (l : List Pr), l.Pairwise (fun x y => x.1 ≠ y.1) → ∀ x ∈ l, ∀ y ∈ l, x.1 = y.1 → x = y := by
          intro l hl
          induction hl with
          | nil => intro x hx; cases hx
          | cons h1 _ ih =>
            intro x hx y hy e
            rcases List.mem_cons.mp hx with rfl | hx
            · rcases List.mem_cons.mp hy with rfl | hy
              · rfl
              · exact absurd e (h1 y hy)
            · rcases List.mem_cons.mp hy with e2 | hy
              · rw [e2] at e; exact absurd e.symm (h1 x hx)
              · exact ih x hx y hy e
        exact n (this ps (List.pairwise_map.mp h) a ha b hb c.symm)
    rw [if_pos c, e]
    unfold sLt
    rw [decide_eq_false (List.lt_irrefl _), decide_eq_false (List.lt_irrefl _)]
  · rw [if_neg c]
theorem valV_mem {ps : List Pr} (h : (ps.map Prod.fst).Nodup) {p : Pr} (hp : p ∈ ps) : valV (kvP ps) (Sum.inr p.1) = some (.str p.2) := by
  induction ps with
  | nil => cases hp
  | cons q ps ih =>
    rw [List.map_cons, List.nodup_cons] at h
    show valV ((Sum.inr q.1, V.str q.2) :: kvP ps) _ = _
    rcases List.mem_cons.mp hp with rfl | hp
    · rw [valV_pos rfl]
    · rw [valV_neg, ih h.2 hp]
      intro e
      have e2 : q.1 = p.1 := Sum.inr.inj e
      exact h.1 (List.mem_map.mpr ⟨p, hp, e2.symm⟩)
theorem nodup_sort {ps : List Pr} (h : (ps.map Prod.fst).Nodup) : ((ps.mergeSort le2).map Prod.fst).Nodup := ((List.mergeSort_perm ps le2).map Prod.fst).nodup_iff.mpr h
theorem mem_sort {ps : List Pr} {p : Pr} : p ∈ ps.mergeSort le2 ↔ p ∈ ps := List.mem_mergeSort
theorem len_sort {ps : List Pr} : (ps.mergeSort le2).length = ps.length := List.length_mergeSort _
end Tb
namespace Tb
open PySem PySem.Spec PyProof.Rows L2
/-! ### texts by their signs -/
abbrev tl (z : Str) : List Nat := z.cps.toList
theorem len_tl (z : Str) : z.length = (tl z).length := (Array.length_toList).symm
theorem tl_one (c : Nat) : tl ⟨#[c]⟩ = [c] := rfl
theorem tl_app (a b : Str) : tl (a ++ b) = tl a ++ tl b := by
  show (a.cps ++ b.cps).toList = _
  rw [Array.toList_append]
theorem tl_hi (z : Str) (k : Nat) : tl (cutS z none (some (k : Int))) = (tl z).take k := by
  show ((z.cps.toList.drop (HT.sIx z.length 0 none)).take (HT.sIx z.length z.length (some (k : Int)) - HT.sIx z.length 0 none)).toArray.toList = _
  rw [List.toList_toArray, HT.sIx_nat, HT.sIx_none, List.drop_zero, Nat.sub_zero]
  by_cases h : k ≤ z.length
  · rw [Nat.min_eq_left h]
  · have : z.cps.toList.length = z.length := Array.length_toList
    rw [Nat.min_eq_right (by omega), ← this, List.take_length, List.take_of_length_le (by show z.cps.toList.length ≤ k; omega)]
theorem tl_lo (z : Str) (k : Nat) : tl (cutS z (some (k : Int)) none) = (tl z).drop k := by
  show ((z.cps.toList.drop (HT.sIx z.length 0 (some (k : Int)))).take (HT.sIx z.length z.length none - HT.sIx z.length 0 (some (k : Int)))).toArray.toList = _
  have e0 : z.cps.toList.length = z.length := Array.length_toList
  have e1 : HT.sIx z.length 0 (some (k : Int)) = min k z.length := HT.sIx_nat _ _ _
  rw [List.toList_toArray, e1, HT.sIx_none]
  have e2 : z.cps.toList.drop (min k z.length) = z.cps.toList.drop k := by
    by_cases h : k ≤ z.length
    · rw [Nat.min_eq_left h]
    · rw [Nat.min_eq_right (by omega), List.drop_eq_nil_of_le (by omega), List.drop_eq_nil_of_le (by omega)]
  rw [e2, List.take_of_length_le (by rw [List.length_drop]; omega)]
theorem tl_inj {a b : Str} (h : tl a = tl b) : a = b := by
  cases a; cases b
  congr 1
  exact Array.ext' h
def Sg (z : Str) : Prop := ∀ c ∈ tl z, c < 1114112
structure Tx (z : Str) : Prop where
  len : z.length ≤ 100
  sg : Sg z
def Nm (l : List Nat) : Prop := l.length ≤ 12 ∧ (∀ d ∈ l, isIn (letters ++ digits) d = true) ∧ ∃ c, l[0]? = some c ∧ isIn letters c = true
def Ad (l : List Nat) : Prop := 1 ≤ l.length ∧ l.length ≤ 8 ∧ ∀ d ∈ l, isIn digits d = true
theorem isName_iff (t : Str) : isName t = true ↔ Nm (tl t) := by
  have e0 : t.cps.toList.length = t.length := Array.length_toList
  unfold isName made Nm
  rw [Bool.and_eq_true, Bool.and_eq_true, Bool.and_eq_true, List.all_eq_true, decide_eq_true_eq, decide_eq_true_eq, ← Array.getElem?_toList]
  constructor
  · rintro ⟨⟨⟨h1, h2⟩, h3⟩, h4⟩
    refine ⟨by show t.cps.toList.length ≤ 12; omega, h3, ?_⟩
    cases e : t.cps.toList[0]? with
    | none => rw [e] at h4; cases h4
    | some c => rw [e] at h4; exact ⟨c, rfl, h4⟩
  · rintro ⟨h1, h2, c, h3, h4⟩
    have h1 : t.cps.toList.length ≤ 12 := h1
    have h3 : t.cps.toList[0]? = some c := h3
    have := (List.getElem?_eq_some_iff.mp h3).1
    rw [h3]
    exact ⟨⟨⟨by omega, by omega⟩, h2⟩, h4⟩
theorem isAddr_iff (t : Str) : isAddr t = true ↔ Ad (tl t) := by
  have e0 : t.cps.toList.length = t.length := Array.length_toList
  unfold isAddr made Ad
  rw [Bool.and_eq_true, Bool.and_eq_true, List.all_eq_true, decide_eq_true_eq, decide_eq_true_eq]
  constructor
  · rintro ⟨⟨h1, h2⟩, h3⟩
    exact ⟨by show 1 ≤ t.cps.toList.length; omega, by show t.cps.toList.length ≤ 8; omega, h3⟩
  · rintro ⟨h1, h2, h3⟩
    have h1 : 1 ≤ t.cps.toList.length := h1
    have h2 : t.cps.toList.length ≤ 8 := h2
    exact ⟨⟨by omega, by omega⟩, h3⟩
theorem in_lt {s : Str} (hs : (tl s).all (fun c => decide (c < 1114112)) = true) {c : Nat} (h : isIn s c = true) : c < 1114112 :=
  of_decide_eq_true (List.all_eq_true.mp hs c (of_decide_eq_true h))
theorem nm_tx {t : Str} (h : Nm (tl t)) : Tx t :=
  ⟨by rw [len_tl]; have := h.1; omega, fun c hc => in_lt (by decide +kernel) (h.2.1 c hc)⟩
theorem ad_tx {t : Str} (h : Ad (tl t)) : Tx t :=
  ⟨by rw [len_tl]; have := h.2.1; omega, fun c hc => in_lt (by decide +kernel) (h.2.2 c hc)⟩
/-- a sign put in the place -/
def rep (l : List Nat) (s d : Nat) : List Nat := l.take s ++ [d] ++ l.drop (s + 1)
theorem rep_len {l : List Nat} {s d : Nat} (h : s < l.length) : (rep l s d).length = l.length := by
  unfold rep
  rw [List.length_append, List.length_append, List.length_take, List.length_drop, List.length_singleton]
  omega
theorem rep_mem {l : List Nat} {s d e : Nat} (h : e ∈ rep l s d) : e ∈ l ∨ e = d := by
  unfold rep at h
  rcases List.mem_append.mp h with h | h
  · rcases List.mem_append.mp h with h | h
    · exact .inl (List.mem_of_mem_take h)
    · exact .inr (List.mem_singleton.mp h)
  · exact .inl (List.mem_of_mem_drop h)
theorem rep_head {l : List Nat} {s d : Nat} (h : s < l.length) : (rep l s d)[0]? = if s = 0 then some d else l[0]? := by
  unfold rep
  cases s with
  | zero => rfl
  | succ s =>
    cases l with
    | nil => cases h
    | cons a l => rfl
theorem rep_tl (t : Str) (s d : Nat) : tl ((cutS t none (some (s : Int)) ++ ⟨#[d]⟩) ++ cutS t (some ((s : Int) + 1)) none) = rep (tl t) s d := by
  rw [tl_app, tl_app, tl_hi, show ((s : Int) + 1) = ((s + 1 : Nat) : Int) from rfl, tl_lo]
  rfl
theorem nm_rep {l : List Nat} {s d : Nat} (h : Nm l) (hs : s < l.length) (hd : isIn (letters ++ digits) d = true) (h0 : s = 0 → isIn letters d = true) : Nm (rep l s d) := by
  obtain ⟨h1, h2, c, h3, h4⟩ := h
  refine ⟨by rw [rep_len hs]; exact h1, fun e he => ?_, ?_⟩
  · rcases rep_mem he with he | rfl
    · exact h2 e he
    · exact hd
  · rw [rep_head hs]
    by_cases e : s = 0
    · exact ⟨d, by rw [if_pos e], h0 e⟩
    · exact ⟨c, by rw [if_neg e]; exact h3, h4⟩
theorem ad_rep {l : List Nat} {s d : Nat} (h : Ad l) (hs : s < l.length) (hd : isIn digits d = true) : Ad (rep l s d) := by
  obtain ⟨h1, h2, h3⟩ := h
  refine ⟨by rw [rep_len hs]; exact h1, by rw [rep_len hs]; exact h2, fun e he => ?_⟩
  rcases rep_mem he with he | rfl
  · exact h3 e he
  · exact hd
abbrev LD : Str := (("abcdefghijklmnopqrstuvwxyz0123456789" : String) : Str)
theorem ld_len : (LD.length : Int) = 36 := by decide +kernel
theorem ld_any {n c : Nat} (h : LD.cps[n]? = some c) : isIn (letters ++ digits) c = true := by
  have k : ∀ m : Fin 36, isIn (letters ++ digits) (LD.cps[m.val]?.getD 0) = true := by decide +kernel
  have hl : n < 36 := by
    have := (Array.getElem?_eq_some_iff.mp h).1
    have e : LD.cps.size = 36 := by decide +kernel
    omega
  have := k ⟨n, hl⟩
  rw [h] at this
  exact this
theorem ld_lo {n c : Nat} (h : LD.cps[n]? = some c) (hn : n < 26) : isIn letters c = true := by
  have k : ∀ m : Fin 26, isIn letters (LD.cps[m.val]?.getD 0) = true := by decide +kernel
  have := k ⟨n, hn⟩
  rw [h] at this
  exact this
theorem dg_any {n c : Nat} (h : digits.cps[n]? = some c) : isIn digits c = true := decide_eq_true (by
  rw [Array.mem_toList_iff]
  exact Array.mem_of_getElem? h)
theorem dg_len : (digits.length : Int) = 10 := by decide +kernel
theorem at_sign {z : Str} {i : Int} (h : i < z.length) (h0 : 0 ≤ i) : ∃ c, z.cps[i.toNat]? = some c := by
  have : i.toNat < z.cps.size := by
    show i.toNat < z.length
    omega
  exact ⟨_, Array.getElem?_eq_getElem this⟩
theorem nm_app {l m : List Nat} (h : Nm l) (hm : ∀ d ∈ m, isIn (letters ++ digits) d = true) (hl : l.length + m.length ≤ 12) : Nm (l ++ m) := by
  obtain ⟨h1, h2, c, h3, h4⟩ := h
  refine ⟨by rw [List.length_append]; exact hl, fun e he => ?_, c, ?_, h4⟩
  · rcases List.mem_append.mp he with he | he
    · exact h2 e he
    · exact hm e he
  · rw [List.getElem?_append_left (List.getElem?_eq_some_iff.mp h3).1]
    exact h3
theorem nm_take {l : List Nat} (h : Nm l) {k : Nat} (hk : 0 < k) : Nm (l.take k) := by
  obtain ⟨h1, h2, c, h3, h4⟩ := h
  refine ⟨by rw [List.length_take]; omega, fun e he => h2 e (List.mem_of_mem_take he), c, ?_, h4⟩
  rw [List.getElem?_take, if_pos hk]
  exact h3
theorem nm_pos {l : List Nat} (h : Nm l) : 0 < l.length := by
  obtain ⟨_, _, c, h3, _⟩ := h
  exact (List.getElem?_eq_some_iff.mp h3).1
theorem num100 {k : Nat} (h : k < 100) : (tl (Str.ofString (toString (k : Int)))).length ≤ 2 ∧ ∀ d ∈ tl (Str.ofString (toString (k : Int))), isIn (letters ++ digits) d = true := by
  have k1 : ∀ m : Fin 100, (decide ((tl (Str.ofString (toString (m.val : Int)))).length ≤ 2) && (tl (Str.ofString (toString (m.val : Int)))).all (isIn (letters ++ digits))) = true := by decide +kernel
  have := k1 ⟨k, h⟩
  rw [Bool.and_eq_true, List.all_eq_true] at this
  exact ⟨of_decide_eq_true this.1, this.2⟩
end Tb
namespace Tb
open PySem PySem.Spec PyProof.Rows L2
abbrev NF8 : List Str := ["bag", "known", "letters", "text", "spot", "sign", "size", "k", "base"]
theorem dp_strs {K : PySem.W.Frag} {H : Hp} : ∀ ks : List Str, DpAll K H (ks.map V.str) (ks.map PyData.str)
  | [] => .nil
  | k :: ks => .cons (.str k) (dp_strs ks)
theorem strOk_sg {z : Str} (h : Sg z) : PySem.PyData.strOk z = true := by
  unfold PySem.PyData.strOk
  rw [Array.all_eq_true']
  intro c hc
  exact decide_eq_true (h c (Array.mem_toList_iff.mpr hc))
theorem lay_strs : ∀ {ks : List Str}, (∀ x ∈ ks, Tx x) → PyData.canLayAll0 (ks.map PyData.str) = true ∧ PyData.depthAll (ks.map PyData.str) ≤ 1
  | [], _ => by simp [PyData.canLayAll0, PyData.depthAll]
  | k :: ks, h => by
    obtain ⟨b1, b2⟩ := lay_strs (ks := ks) fun q hq => h q (List.mem_cons_of_mem _ hq)
    have a1 := strOk_sg (h k List.mem_cons_self).sg
    refine ⟨?_, ?_⟩
    · simp only [List.map_cons, PyData.canLayAll0, PyData.canLay0, a1, b1, Bool.and_true]
    · simp only [List.map_cons, PyData.depthAll, PyData.depth]
      omega
theorem shaped_strs {ks : List Str} (h : ∀ x ∈ ks, Tx x) : SeqAt.shaped (.list (ks.map PyData.str)) = true := by
  obtain ⟨h1, h2⟩ := lay_strs h
  show (PyData.canLay0 (.list (ks.map PyData.str)) && decide (PyData.depth (.list (ks.map PyData.str)) ≤ 64)) = true
  rw [Bool.and_eq_true]
  refine ⟨by simp only [PyData.canLay0]; exact h1, decide_eq_true ?_⟩
  simp only [PyData.depth]
  omega
theorem eqv_nil {ds : List PyData} : PyData.eqv (.list ds) (.list []) = ds.isEmpty := by
  cases ds <;> simp [PyData.eqv, PyData.eqvAll]
theorem flat_strs (ks : List Str) : (ks.map V.str).all flatV = true := by
  rw [List.all_map, List.all_eq_true]
  exact fun _ _ => rfl
theorem ifS_via {tc : TT} {t u : TS} {D : Ends} {σ : L2.St} {H : Hp} (R : Bool → Hp → Prop) (h : ∀ Q : Bool → Hp → Prop, (∀ b H1, R b H1 → Q b H1) → tc σ H Q) (k : ∀ b H1, R b H1 → (if b = true then t D σ H1 else u D σ H1)) : tIfS tc t u D σ H := h _ k
theorem at_nat {α : Type} {xs : List α} {i : Int} {v : α} (h0 : 0 ≤ i) (h : xs[i.toNat]? = some v) : atI xs i = some v := by
  have e : i = (i.toNat : Int) := by omega
  rw [e]
  exact atI_nat h
theorem pick {ks : List Str} {i : Int} (h0 : 0 ≤ i) (h1 : i < ((ks.map V.str).length : Int)) : ∃ x ∈ ks, atI (ks.map V.str) i = some (V.str x) := by
  rw [List.length_map] at h1
  have hl : i.toNat < ks.length := by omega
  refine ⟨ks[i.toNat], List.getElem_mem hl, at_nat h0 ?_⟩
  rw [List.getElem?_map, List.getElem?_eq_getElem hl]
  rfl
theorem app_len (a b : Str) : (a ++ b).length = a.length + b.length := by
  rw [len_tl, tl_app, List.length_append, ← len_tl, ← len_tl]
theorem one_len (c : Nat) : (⟨#[c]⟩ : Str).length = 1 := rfl
theorem cut_le (z : Str) (lo hi : Option Int) : (cutS z lo hi).length ≤ z.length := cutS_length z lo hi
def numT (k : Nat) : Str := Str.ofString (toString (k : Int))
theorem num_inj : ((List.range 99).map numT).Nodup := by decide +kernel
theorem sub_len {α : Type} [DecidableEq α] : ∀ (l D : List α), l.Nodup → (∀ x ∈ l, x ∈ D) → l.length ≤ D.length
  | [], _, _, _ => Nat.zero_le _
  | x :: l, D, hn, hs => by
    obtain ⟨h1, h2⟩ := List.nodup_cons.mp hn
    have hx := hs x List.mem_cons_self
    have ih := sub_len l (D.erase x) h2 fun y hy => (List.mem_erase_of_ne fun e => h1 (by rw [← e]; exact hy)).mpr (hs y (List.mem_cons_of_mem _ hy))
    have e := List.length_erase_of_mem hx
    have hp := List.length_pos_of_mem hx
    simp only [List.length_cons]
    omega
theorem app_inj {a b c : Str} (h : a ++ b = a ++ c) : b = c := by
  have e : tl (a ++ b) = tl (a ++ c) := by rw [h]
  rw [tl_app, tl_app] at e
  exact tl_inj (List.append_cancel_left e)
/-- ninety-nine texts on one base -/
theorem pigeon (bs : Str) (ks : List Str) (h : ∀ j, j < 99 → bs ++ numT j ∈ ks) : 99 ≤ ks.length := by
  have nd : (((List.range 99).map numT).map fun x => bs ++ x).Nodup := List.pairwise_map.mpr (List.Pairwise.imp (fun hne e => hne (app_inj e)) num_inj)
  have q := sub_len _ ks nd fun x hx => by
    rw [List.map_map] at hx
    obtain ⟨j, hj, rfl⟩ := List.mem_map.mp hx
    exact h j (List.mem_range.mp hj)
  rw [List.length_map, List.length_map, List.length_range] at q
  exact q
theorem inV_str {z : Str} {ks : List Str} (h : z ∈ ks) : inV (.str z) (ks.map V.str) = true := by
  unfold inV
  rw [List.any_map, List.any_eq_true]
  exact ⟨z, h, by show (z == z) = true; exact beq_self_eq_true z⟩
theorem str_inV {z : Str} {ks : List Str} (h : inV (.str z) (ks.map V.str) = true) : z ∈ ks := by
  unfold inV at h
  rw [List.any_map, List.any_eq_true] at h
  obtain ⟨x, hx, e⟩ := h
  have e2 : (z == x) = true ∨ (x == z) = true := by first | exact .inl e | exact .inr e
  rcases e2 with e2 | e2
  · rw [eq_of_beq e2]; exact hx
  · rw [← eq_of_beq e2]; exact hx
section
variable {P : Program} {w : World} {K : PySem.W.Frag} {mg : Str → Option Value} {base : Heap}
end
end Tb
namespace Tb
open PySem PySem.Spec PyProof.Rows L2
open PySem.W (EachIs AllAlike Sortable dataLe)
def encA (a : Str) : PyData := .tuple [.int (a.length : Int), .str a]
def leA (a b : Str) : Bool := dataLe false encA a b
theorem ltA (a b : Str) : PySem.W.dataLt (encA a) (encA b) = if a.length = b.length then sLt a b else decide (a.length < b.length) := by
  have q : ∀ x y : Str, PyData.eqv (.str x) (.str y) = decide (x = y) := fun x y => by rw [PyData.eqv]; exact Bool.beq_eq_decide_eq x y
  have qi : ∀ x y : Int, PyData.eqv (.int x) (.int y) = decide (x = y) := fun x y => by rw [PyData.eqv]; exact Bool.beq_eq_decide_eq x y
  unfold encA
  rw [PySem.W.dataLt_pair (by simp [PySem.W.alike]) (by simp [PySem.W.alike]), q, qi, PySem.W.dataLt_str, PySem.W.dataLt_int]
  by_cases c : a.length = b.length
  · rw [if_pos (decide_eq_true (by rw [c])), if_pos c]
    by_cases c2 : a = b
    · rw [if_pos (decide_eq_true c2), c2]
      exact (decide_eq_false (List.lt_irrefl _)).symm
    · rw [if_neg (by simpa using c2)]
      rfl
  · rw [if_neg (by rw [decide_eq_true_eq]; omega), if_neg c]
    exact decide_eq_decide.mpr Int.ofNat_lt
theorem leA_eq (a b : Str) : leA a b = !(if b.length = a.length then sLt b a else decide (b.length < a.length)) := by
  unfold leA
  rw [PySem.W.dataLe_eq]
  show (!PySem.W.dataLt (encA b) (encA a)) = _
  rw [ltA]
theorem leA_anti {a b : Str} (h1 : leA a b = true) (h2 : leA b a = true) : a = b := by
  rw [leA_eq, Bool.not_eq_true'] at h1 h2
  by_cases c : a.length = b.length
  · rw [if_pos c.symm] at h1
    rw [if_pos c] at h2
    exact sLt_tri h2 h1
  · rw [if_neg (Ne.symm c)] at h1
    rw [if_neg c] at h2
    have := of_decide_eq_false h1
    have := of_decide_eq_false h2
    omega
theorem leA_refl (a : Str) : leA a a = true := by
  rw [leA_eq, if_pos rfl]
  unfold sLt
  rw [decide_eq_false (List.lt_irrefl _)]
  rfl
theorem leA_len {a b : Str} (h : a.length < b.length) : leA a b = true := by
  rw [leA_eq, if_neg (by omega), decide_eq_false (by omega)]
  rfl
/-! ### lanes by the first n digits -/
/-- a def of the text and what it promises -/
structure C1 (P : Program) (w : World) (K : PySem.W.Frag) (mg : Str → Option Value) (base : Heap) (x : Str) (st : Stmt) (ps : List Str) (l : Nat) (sp : Sp) (g : Addr) (gd : FuncData) : Prop where
  D : Dd K mg x st ps g gd
  G : FnOk P w K mg base CX0 l g gd ps sp
abbrev sByLen : Stmt := topS 13
abbrev NByLen : List Str := ["addresses", "pairs", "address", "pair"]
theorem scByLen : FnScope NByLen ["addresses"] (defScope sByLen) := ⟨rfl, rfl, rfl, by decide +kernel, rfl, by decide +kernel, by decide +kernel⟩
/-- a pair (length, text) at its place -/
abbrev pT (H : Hp) (u : Addr × Str) : Prop := H u.1 = some (.tup [.int (u.2.length : Int), .str u.2])
def kT (u : Addr × Str) : Addr × List Key := (u.1, [Sum.inl (u.2.length : Int), Sum.inr u.2])
theorem sub_map {α β : Type} {f : α → β} {us : List α} : ∀ {L : List β}, (∀ p ∈ L, ∃ u ∈ us, p = f u) → ∃ M : List α, L = M.map f ∧ ∀ u ∈ M, u ∈ us
  | [], _ => ⟨[], rfl, fun u h => by cases h⟩
  | p :: L, h => by
    obtain ⟨u, hu, e⟩ := h p List.mem_cons_self
    obtain ⟨M, eM, hM⟩ := sub_map fun q hq => h q (List.mem_cons_of_mem _ hq)
    refine ⟨u :: M, by rw [List.map_cons, ← e, ← eM], fun v hv => ?_⟩
    rcases List.mem_cons.mp hv with rfl | hv
    · exact hu
    · exact hM v hv
theorem each_map_eq {α β : Type} {g : α → β} : ∀ {bs : List β} {M : List α}, EachIs (fun b u => b = g u) bs M → bs = M.map g
  | _, _, .nil => rfl
  | _, _, .cons h t => by rw [h, each_map_eq t]; rfl
theorem each_map_of {α β : Type} (g : α → β) : ∀ M : List α, EachIs (fun b u => b = g u) (M.map g) M
  | [] => .nil
  | _ :: M => .cons rfl (each_map_of g M)
theorem perm_map {α β : Type} {g : α → β} {cs : List β} {M : List α} (p : cs.Perm (M.map g)) : ∃ N : List α, N.Perm M ∧ cs = N.map g := by
  obtain ⟨N, h1, h2⟩ := SH.each_perm p.symm (each_map_of g M)
  exact ⟨N, h1, each_map_eq h2⟩
theorem alike_A (L : List Str) : AllAlike (L.map encA) := fun d hd d' hd' => by
  obtain ⟨x, _, rfl⟩ := List.mem_map.mp hd
  obtain ⟨y, _, rfl⟩ := List.mem_map.mp hd'
  simp [encA, PySem.W.alike, PySem.W.alikeAll]
theorem sortable_A (L : List Str) : Sortable (L.map encA) := .inl fun d hd => by
  obtain ⟨x, _, rfl⟩ := List.mem_map.mp hd
  exact ⟨_, _, rfl⟩
theorem depth_A (x : Str) : (encA x).depth ≤ 10 := by simp [encA, PyData.depth, PyData.depthAll]
theorem dp_A {K : PySem.W.Frag} {H : Hp} {u : Addr × Str} (h : pT H u) : Dp K H (.ref u.1) (encA u.2) := .tup (.of h) (.cons (.int _) (.cons (.str _) .nil))
/-- a text list by length -/
def spByLen (K : PySem.W.Frag) : Sp := fun vs H Q _ => ∃ (l : Addr) (ks : List Str), vs = [.ref l] ∧ SqL K H l (ks.map V.str) ∧ ks.length ≤ 300 ∧ (∀ x ∈ ks, x.length ≤ 1000) ∧
  ∀ (F : Addr) (zs : List Str) (H' : Hp), Same H H' → H F = none → H' F = some (.lst (zs.map V.str)) → zs.Pairwise (fun a b => leA a b = true) → (∀ x, x ∈ zs ↔ x ∈ ks) → zs.length ≤ 300 → Q (.ref F) H'
section
variable {P : Program} {w : World} {K : PySem.W.Frag} {mg : Str → Option Value} {base : Heap}
/-- a dict and an address in; what g says out, the heap as it was -/
def spDR (g : Kvs → Str → V) : Sp := fun vs H Q _ => ∃ (d : Addr) (kvs : Kvs) (a : Str), vs = [.ref d, .str a] ∧ Rd H d (.dK kvs) ∧ a.length ≤ 1000 ∧ Q (g kvs a) H
theorem ok_bylen {f : Addr} {fd : FuncData} {k : Nat} (F : Fun K "by_length" "by_length" sByLen f fd) (B : Blt mg) (zset : mg "set" = none) : FnOk P w K mg base CX0 (k + 1) f fd ["addresses"] (spByLen K) := by
  refine F.ok scByLen (fun vs H Q E h => ?_) (fun cdv A outer s H vs Q E hr h => ?_)
  · obtain ⟨l, ks, rfl, _⟩ := h
    rfl
  · obtain ⟨l, ks, rfl, hl, hn, hx, q⟩ := h
    have hz : sizeLine = 16777216 := rfl
    refine ⟨_, (pss_cons (ps_set (i := 1) scByLen.nd rfl (.inl rfl) (pe_callB (r := SH.rSortSet K w) (SH.cr_sortSet rfl hr.units) (by rfl) B.sorted PyProof.Rows.boot_sorted (pa_cons (pe_callTy (r := SH.rSetT K P w) (SH.cr_setT rfl hr.units) (by rfl) zset boot_set (pa_cons (pe_lc (own := [("address", 2)]) (g := gName 2) (by rfl) scByLen.nd (pi_list (pv 0)) (blkOk_by (N := NByLen) (sc := defScope sByLen) (by decide +kernel)) (fun _ _ _ _ _ => pg_name (i := 2) scByLen.nd rfl (Or.inl rfl)) (fun _ _ _ _ _ => pts_nil) (fun _ _ _ _ _ => pe_tup (pa_cons (pe_callB call_len_str (by rfl) B.len PySem.boot_len (pa_cons (pv 2) pa_nil)) (pa_cons (pv 2) pa_nil)))) pa_nil)) pa_nil)))
      (pss_one (ps_ret (pe_lc (own := [("pair", 3)]) (g := gName 3) (by rfl) scByLen.nd (pi_list (pv 1)) (blkOk_by (N := NByLen) (sc := defScope sByLen) (by decide +kernel)) (fun _ _ _ _ _ => pg_name (i := 3) scByLen.nd rfl (Or.inl rfl)) (fun _ _ _ _ _ => pts_nil) (fun _ _ _ _ _ => pe_ix (r := rIxT K) ix_tup (pv 3) pe_int (fun _ _ => rfl)))))), ?_⟩
    refine ⟨.ref l, rfl, l, rfl, ⟨_, hl⟩, fun D nD => ?_⟩
    refine lc_it (walk_list (a := l) (xs := ks.map V.str)) (fun i H1 => Same H H1 ∧ ∃ us : List (Addr × Str), H1 D = some (.lst (us.map fun u => V.ref u.1)) ∧ us.map (·.2) = ks.take i ∧ ∀ u ∈ us, pT H1 u) ⟨same_upd nD, [], upd_same, rfl, fun u h => by cases h⟩ (fun i H1 _ hP => hP.1.seq hl) (fun i v H1 H2 hi hP hy => ?_) (fun H1 hP => ?_)
    · obtain ⟨S1, us, hD, eu, hu⟩ := hP
      obtain ⟨rfl, ev⟩ := hy
      rw [List.getElem?_map] at ev
      cases ek : ks[i]? with
      | none => rw [ek] at ev; cases ev
      | some x =>
      rw [ek] at ev
      cases (Option.some.inj ev)
      have xl := hx x (List.mem_of_getElem? ek)
      refine ⟨rfl, .str x, rfl, x, rfl, by omega, .str x, rfl, by show 2 ≤ sizeLine; omega, fun T nT => ?_⟩
      have lu : us.length ≤ 300 := by
        have := congrArg List.length eu
        rw [List.length_map, List.length_take] at this
        omega
      have DT : D ≠ T := ne_of_none hD nT
      refine ⟨_, by rw [upd_ne DT]; exact hD, by rw [List.length_map]; omega, fun b o hb => ?_, us ++ [(T, x)], ?_, ?_, fun u hu' => ?_⟩
      · rw [upd_ne (ne_of_none hb nD)]
        exact (S1.trans (same_upd nT)) _ _ hb
      · rw [upd_same, List.map_append]
        rfl
      · rw [List.map_append, eu, List.take_add_one, ek]
        rfl
      · rcases List.mem_append.mp hu' with hm | hm
        · show L2.upd _ D _ u.1 = _
          rw [upd_ne (ne_of (hu u hm) hD (fun z => by cases z)), upd_ne (ne_of_none (hu u hm) nT)]
          exact hu u hm
        · rw [List.mem_singleton.mp hm]
          show L2.upd _ D _ T = _
          rw [upd_ne (Ne.symm DT)]
          exact upd_same
    · obtain ⟨S1, us, hD, eu, hu⟩ := hP
      have ew : us.map (·.2) = ks := by
        rw [eu, List.length_map, List.take_length]
      clear eu
      have lu : us.length = ks.length := by rw [← ew, List.length_map]
      -- the set of the pairs
      refine ⟨D, us.map kT, rfl, sqOf (by rw [List.map_map]; exact hD), fun p hp => ?_, by rw [List.length_map]; omega, fun a L na g nd => ?_⟩
      · obtain ⟨u, hm, rfl⟩ := List.mem_map.mp hp
        exact .of (hu u hm)
      obtain ⟨M, rfl, hM⟩ := sub_map (f := kT) (us := us) fun p hp => by
        have := g.sub p hp
        rw [List.take_length] at this
        obtain ⟨u, hm, e⟩ := List.mem_map.mp this
        exact ⟨u, hm, e.symm⟩
      have all : ∀ x, x ∈ M.map (·.2) ↔ x ∈ ks := fun x => by
        rw [← ew]
        constructor
        · intro hm
          obtain ⟨u, h1, e⟩ := List.mem_map.mp hm
          exact List.mem_map.mpr ⟨u, hM u h1, e⟩
        · intro hm
          obtain ⟨u, h1, rfl⟩ := List.mem_map.mp hm
          have := g.all (kT u) (by rw [List.take_length]; exact List.mem_map.mpr ⟨u, h1, rfl⟩)
          rw [List.map_map] at this
          obtain ⟨v, h2, e⟩ := List.mem_map.mp this
          have e2 : ([Sum.inl (v.2.length : Int), Sum.inr v.2] : List Key) = [Sum.inl (u.2.length : Int), Sum.inr u.2] := e
          have e3 : v.2 = u.2 := by
            simp only [List.cons.injEq, Sum.inr.injEq] at e2
            exact e2.2.1
          exact List.mem_map.mpr ⟨v, h2, e3⟩
      have lM : M.length ≤ 300 := by
        have := g.len
        rw [List.length_map, List.length_map] at this
        omega
      have Sa : Same H (L2.upd H1 a (SH.SetT P w a (M.map kT))) := S1.trans (same_upd na)
      have hu2 : ∀ u ∈ us, pT (L2.upd H1 a (SH.SetT P w a (M.map kT))) u := fun u hm => (same_upd na) _ _ (hu u hm)
      -- sorted
      refine ⟨a, M.map fun u => (V.ref u.1, encA u.2), _, rfl, upd_same, fun h hU => ?_, fun b hb => ?_, ?_, ?_, fun b hb => ?_, fun cs p pc pw np => ?_⟩
      · have := SH.SetP.walked hU
        rw [List.map_map] at this
        rw [List.map_map]
        exact this
      · obtain ⟨u, hm, rfl⟩ := List.mem_map.mp hb
        exact dp_A (hu2 u (hM u hm))
      · rw [List.map_map, show (Prod.snd ∘ fun u : Addr × Str => (V.ref u.1, encA u.2)) = encA ∘ Prod.snd from rfl, ← List.map_map]
        exact alike_A _
      · rw [List.map_map, show (Prod.snd ∘ fun u : Addr × Str => (V.ref u.1, encA u.2)) = encA ∘ Prod.snd from rfl, ← List.map_map]
        exact sortable_A _
      · obtain ⟨u, hm, rfl⟩ := List.mem_map.mp hb
        exact depth_A _
      obtain ⟨N, pN, rfl⟩ := perm_map pc
      have lN : N.length ≤ 300 := by rw [pN.length_eq]; exact lM
      have pw2 : (N.map (·.2)).Pairwise (fun a b => leA a b = true) := List.pairwise_map.mpr (List.pairwise_map.mp pw)
      have mem2 : ∀ x, x ∈ N.map (·.2) ↔ x ∈ ks := fun x => ((pN.map (·.2)).mem_iff).trans (all x)
      rw [List.map_map]
      generalize L2.upd H1 a (SH.SetT P w a (M.map kT)) = H3 at Sa hu2 np
      have Sp : Same H (L2.upd H3 p (.lst (N.map (Prod.fst ∘ fun u : Addr × Str => (V.ref u.1, encA u.2))))) := Sa.trans (same_upd np)
      have hN : ∀ u ∈ N, pT (L2.upd H3 p (.lst (N.map (Prod.fst ∘ fun u : Addr × Str => (V.ref u.1, encA u.2))))) u := fun u hm => (same_upd np) _ _ (hu2 u (hM u (pN.mem_iff.mp hm)))
      have hp : (L2.upd H3 p (.lst (N.map (Prod.fst ∘ fun u : Addr × Str => (V.ref u.1, encA u.2))))) p = some (.lst (N.map fun u => V.ref u.1)) := upd_same
      generalize L2.upd H3 p (.lst (N.map (Prod.fst ∘ fun u : Addr × Str => (V.ref u.1, encA u.2)))) = H4 at Sp hN hp
      refine ⟨.ref p, rfl, p, rfl, ⟨_, sqOf hp⟩, fun F nF => ?_⟩
      refine lc_it (walk_list (a := p) (xs := N.map fun u => V.ref u.1)) (fun i H5 => Same H4 H5 ∧ H5 F = some (.lst (((N.map (·.2)).take i).map V.str))) ⟨same_upd nF, upd_same⟩ (fun i H5 _ hP => sqOf (hP.1 _ _ hp)) (fun i v H5 H6 hi hP hy => ?_) (fun H5 hP => ?_)
      · obtain ⟨S5, hF⟩ := hP
        obtain ⟨rfl, ev⟩ := hy
        rw [List.getElem?_map] at ev
        cases ek : N[i]? with
        | none => rw [ek] at ev; cases ev
        | some u =>
        rw [ek] at ev
        cases (Option.some.inj ev)
        have hm := List.mem_of_getElem? ek
        refine ⟨rfl, .ref u.1, rfl, u.1, _, 1, .str u.2, rfl, rfl, .of (S5 _ _ (hN u hm)), atI_nat (j := 1) rfl, _, hF, ?_, fun b o hb => ?_, ?_⟩
        · rw [List.length_map, List.length_take, List.length_map]
          omega
        · rw [upd_ne (ne_of_none hb nF)]
          exact S5 _ _ hb
        · rw [upd_same, List.take_add_one, List.getElem?_map, ek, List.map_append]
          rfl
      · obtain ⟨S5, hF⟩ := hP
        rw [List.length_map, ← List.length_map (f := fun u : Addr × Str => u.2), List.take_length] at hF
        exact q F _ H5 (Sp.trans S5) (Sp.free nF) hF pw2 mem2 (by rw [List.length_map]; exact lN)
end
end Tb
namespace Tb
open PySem PySem.Spec PyProof.Rows L2
open PySem.W (EachIs AllAlike Sortable dataLe)
/-! ### sorted(d), d a dict whose keys are tuples of whole numbers and texts -/
def encI : Key → PyData
  | .inl i => .int i
  | .inr x => .str x
def encT (k : List Key) : PyData := .tuple (k.map encI)
theorem reads_items {h : Heap} : ∀ {k : List Key} {us : List Value}, Vals (k.map kV) us → ReadsAll h us (k.map encI) []
  | [], _, r => by cases r; exact .nil
  | x :: k, _, r => by
    cases r with
    | cons r1 r2 =>
      have t := reads_items (h := h) r2
      refine .cons (as := []) ?_ t
      cases x with
      | inl i =>
        obtain ⟨t, rfl⟩ := r1
        exact .int i t
      | inr z =>
        obtain ⟨t, rfl⟩ := r1
        exact .str z t
theorem reads_key {X : Cx} {pins : List (Addr × Obj)} {σ : L2.St} {H : Hp} {s : Shared} {q : Addr} {k : List Key} (I : Inv X pins σ H s) (e : H q = some (.tup (k.map kV))) : Reads s.heap (.ref q) (encT k) [] := by
  obtain ⟨its, r, ⟨o, e1, e2, n, e3⟩, _⟩ := I.tuple (.of e : SqT X.K H q (k.map kV))
  exact .tuple e1 e2 e3 (by rw [List.toList_toArray]; exact reads_items r)
def rSortDT : List V → Hp → VK → Prop := fun xs H Q => ∃ (d : Addr) (kvs : List (List Key × V)), xs = [.ref d] ∧ Rd H d (.dT kvs) ∧ kvs.length ≤ 1000 ∧ AllAlike (kvs.map fun kv => encT kv.1) ∧ Sortable (kvs.map fun kv => encT kv.1) ∧ (∀ kv ∈ kvs, (encT kv.1).depth ≤ 10) ∧
  ∀ (p : Addr) (bs : List (Addr × List Key)), H p = none → bs.map Prod.snd = (kvs.map Prod.fst).mergeSort (dataLe false encT) → (∀ b ∈ bs, H b.1 = some (.tup (b.2.map kV))) → Q (.ref p) (upd H p (.lst (bs.map fun b => V.ref b.1)))
theorem enc_snd (bs : List (Addr × List Key)) : bs.map (fun b => encT b.2) = (bs.map Prod.snd).map encT := by
  rw [List.map_map]
  rfl
theorem sort_snd {bs : List (Addr × List Key)} : (bs.mergeSort (dataLe false fun b => encT b.2)).map Prod.snd = (bs.map Prod.snd).mergeSort (dataLe false encT) := by
  rw [List.map_mergeSort]
  intro a _ b _
  rfl
abbrev KTx (H : Hp) (kvs : List (List Key × V)) (ks : List (List Key × Addr × Value)) : Prop := Paired (fun (p : List Key × V) (q : List Key × Addr × Value) => p.1 = q.1 ∧ H q.2.1 = some (.tup (p.1.map kV)) ∧ RelV p.2 q.2.2) kvs ks
theorem kt_keys {H : Hp} : ∀ {kvs : List (List Key × V)} {ks : List (List Key × Addr × Value)}, KTx H kvs ks → ks.map (fun x => x.1) = kvs.map Prod.fst
  | _, _, .nil => rfl
  | _, _, .cons h t => by rw [List.map_cons, List.map_cons, kt_keys t, h.1]
theorem kt_at {H : Hp} : ∀ {kvs : List (List Key × V)} {ks : List (List Key × Addr × Value)}, KTx H kvs ks → ∀ x ∈ ks, H x.2.1 = some (.tup (x.1.map kV))
  | _, _, .nil, _, h => by cases h
  | _, _, .cons h t, x, hx => by
    rcases List.mem_cons.mp hx with rfl | hx
    · rw [← h.1]; exact h.2.1
    · exact kt_at t x hx
section
variable {X : Cx}
theorem cr_sortedDT (hcalm : X.calm = true) (hu : X.A.units + 64 < cLine) : CallR X (.builtin "sorted") rSortDT := by
  intro pins s σ H xs us Q I r q
  obtain ⟨d, kvs, rfl, hd, hln, al, so, dp, q⟩ := q
  obtain ⟨u, rfl, rx⟩ := vals1 r
  cases rx
  obtain ⟨z, hs, ks, pr, o, es, ep, ho, hx, hdt, he, hn⟩ := (show ObjOk X.prog X.w H s.heap d (.dT kvs) from hd.ok I.hok)
  have hline : sizeLine = 16777216 := rfl
  have l1 : es.size = ks.length := size_of_entries he
  have l2 : kvs.length = ks.length := Paired.length pr
  refine Calls.call_function_entry PyProof.Rows.kind_sorted PyProof.Rows.plain_sorted PyProof.Rows.entry_sorted (PyProof.Rows.args_sorted1 _) ?_
  unfold Builtin.«sorted»
  refine wpAny_bind (m := checkCount "sorted" 1 1 _) (wpAny_pure ?_)
  refine wpAny_bind (PySem.W.kdu_collect (A := X.A.in1) (kdl_raw hs hx hdt) (I.ok.hd hcalm) ho (by omega) fun h' tk acc hk hacc => ?_)
  have hal : acc.toList.length = ks.length := by rw [Array.length_toList, hacc.1, l1]
  -- the keys' places
  let bs : List (Addr × List Key) := ks.map fun x => (x.2.1, x.1)
  have hbs : bs.map Prod.snd = kvs.map Prod.fst := by
    show (ks.map fun x => (x.2.1, x.1)).map Prod.snd = _
    rw [List.map_map]
    exact kt_keys pr
  have hat : ∀ b ∈ bs, H b.1 = some (.tup (b.2.map kV)) := fun b hb => by
    obtain ⟨x, hx, rfl⟩ := List.mem_map.mp hb
    exact kt_at pr x hx
  have ea : acc.toList = bs.map fun b => Value.ref b.1 := by
    refine List.ext_getElem? fun j => ?_
    show _ = ((ks.map fun x => (x.2.1, x.1)).map fun b => Value.ref b.1)[j]?
    rw [List.getElem?_map, List.getElem?_map]
    cases hj : acc.toList[j]? with
    | none => rw [List.getElem?_eq_none (by have := List.getElem?_eq_none_iff.mp hj; omega)]; rfl
    | some v =>
      obtain ⟨en, hen, hv⟩ := hacc.2 j v (by rw [← Array.getElem?_toList]; exact hj)
      have qe := entry_at he j
      rw [hen] at qe
      cases hb : ks[j]? with
      | none => rw [hb] at qe; cases qe
      | some b =>
        rw [hb] at qe
        rw [hv, show en = _ from Option.some.inj qe]
        rfl
  have each : EachIs (fun (v : Value) (b : Addr × List Key) => v = .ref b.1) acc.toList bs := by
    rw [ea]
    clear_value bs
    clear ea hat hbs
    induction bs with
    | nil => exact .nil
    | cons b bs ih => exact .cons rfl ih
  have I1 : Inv X pins σ H { s with heap := h', toks := tk } := I.kept hk
  refine wpAny_bind (wpAny_newList ?_ (by rw [hal]; omega))
  have hoL : (h'.push (seqObj "list" acc.toList.toArray 0)).get? h'.objs.size = some (seqObj "list" acc.toList.toArray 0) := Heap.get?_push_size _ rfl
  show wpAny _ _ _ _ _ { s with heap := h'.push (seqObj "list" acc.toList.toArray 0), toks := tk }
  have I2 : Inv X pins σ H { s with heap := h'.push (seqObj "list" acc.toList.toArray 0), toks := tk } := I1.kept (t' := tk) fun b ob e => Heap.get?_push_of_some _ e
  have emap : bs.map (fun b => encT b.2) = kvs.map fun kv => encT kv.1 := by
    have e1 : bs.map (fun b => encT b.2) = (bs.map Prod.snd).map encT := enc_snd bs
    rw [e1, hbs, List.map_map]
    rfl
  have lb : bs.length = ks.length := List.length_map _
  refine wpAny_bind (wpAny_holding (PySem.W.list_sort_data (enc := fun b : Addr × List Key => encT b.2) (s := { s with heap := h'.push (seqObj "list" acc.toList.toArray 0), toks := tk }) hoL each (each_imp each fun v b hb e => ⟨[], by rw [e]; exact reads_key I2 (hat b hb), List.not_mem_nil⟩) (by rw [emap]; exact al) (by rw [emap]; exact so) (by omega) ?k4 fun out ho eo => ?_))
  case k4 =>
    intro b hb
    have h1 : (encT b.2).depth ≤ 10 := by
      have : encT b.2 ∈ kvs.map fun kv => encT kv.1 := by rw [← emap]; exact List.mem_map.mpr ⟨b, hb, rfl⟩
      obtain ⟨kv, hkv, e⟩ := List.mem_map.mp this
      rw [← e]
      exact dp kv hkv
    have h2 : X.A.in1.units = X.A.units + 1 := rfl
    omega
  obtain ⟨ep', he'⟩ := PyProof.Rows.sortedHeap_at (vs := acc.toList) (out := out.toArray) hoL
  let ms := bs.mergeSort (dataLe false fun b : Addr × List Key => encT b.2)
  have hlen : (ms.map fun b => V.ref b.1).length ≤ sizeLine := by
    rw [List.length_map, List.length_mergeSort]
    omega
  have ev : Vals (ms.map fun b => V.ref b.1) out := by
    show Vals ((bs.mergeSort (dataLe false fun b : Addr × List Key => encT b.2)).map fun b => V.ref b.1) out
    generalize bs.mergeSort (dataLe false fun b : Addr × List Key => encT b.2) = zs at eo
    clear ho he' hlen
    induction eo with
    | nil => exact .nil
    | cons h _ ih => exact .cons (by rw [h]; rfl) ih
  have hnew : H h'.objs.size = none := I1.hok.fresh (Nat.le_refl _)
  refine wpAny_pure ⟨_, rfl, .ref h'.objs.size, upd H h'.objs.size (.lst (ms.map fun b => V.ref b.1)), I1.laid (t' := tk) (fun b o e => ?_) (Nat.le_refl _) ⟨hlen, out, ep', ev, he'⟩, rfl, q _ ms hnew (by rw [sort_snd, hbs]) fun b hb => hat b (List.mem_mergeSort.mp hb)⟩
  have hb : b < h'.objs.size := Heap.lt_size e
  rw [PyProof.Rows.sortedHeap_old (Nat.ne_of_lt hb) (by rw [size_push']; exact Nat.lt_succ_of_lt hb)]
  exact Heap.get?_push_of_some _ e
end
end Tb
namespace Tb
open PySem PySem.Spec PyProof.Rows L2
/-! ### {k: v for target in iter}, the keys tuples of whole numbers and texts -/
theorem put_dT {X : Cx} {pins : List (Addr × Obj)} {σ : L2.St} {H : Hp} {s : Shared} {E : Value → Shared → Prop} {D b : Addr} {kvs : List (List Key × V)} {k : List Key} {v : V} {r : Value} {Q : Unit → Shared → Prop}
    (hu : X.A.units + 1 < cLine) (I : Inv X pins σ H s) (hD : H D = some (.dT kvs)) (hb : H b = some (.tup (k.map kV))) (hz : kvs.length < sizeLine) (rv : RelV v r)
    (q : ∀ s2, Inv X pins σ (upd H D (.dT (putK kvs k v))) s2 → Q () s2) : wpAny (model X.prog X.w) X.A (dictSet D (.ref b) r) Q E s := by
  obtain ⟨_, lo, xs, kt, dd⟩ := dt_of I.hok hD
  have n1 : xs.length ≤ sizeLine := by have := Paired.length kt; omega
  have n2 : (putK kvs k v).length ≤ sizeLine := by have := length_putK kvs k v; omega
  refine wpAny_dictSet_heap (hsz := n1) (show X.A.units < cLine by omega) (key_of I.hok hb) dd fun g dg un => q _ ?_
  obtain ⟨od, es, ep, a1, a2, a3, a4, _, a5⟩ := dg
  refine d_write I (by rw [hD]; exact True.intro) un ⟨od, a1⟩ ⟨n2, lo, _, (kt.put k hb rv).keeps fun c ys ec => ?_, od, es, ep, a1, a2, a3, a4, a5⟩
  rw [upd_ne fun z => by rw [z, hD] at ec; cases ec]
  exact ec
section
variable {X : Cx}
/-- D is the new dict; the key stands as a tuple when it is stored -/
def tDcT (wi : TI) (g : TG) (tk tv : TE) (vs : List Nat) : TE := fun σ H Q => wi σ H fun J H1 => ∀ D, H1 D = none → ∃ W : Nat → Nat → Hp → Prop, (∃ m, W 0 m (upd H1 D (.dT []))) ∧ ∀ i m G, W i m G →
  (J.stop i G ∧ Q (.ref D) G) ∨ (J.go i G ∧ ∃ Nx : Hp → Prop, (∀ G', Nx G' → ∃ m', m' < m ∧ W (i + 1) m' G') ∧ ∀ x G', J.yld i G x G' → g x (wipe σ vs) G' fun σ2 G2 => wipe σ2 vs = wipe σ vs ∧
    tk σ2 G2 fun y G3 => tv σ2 G3 fun z G4 => ∃ kvs k b, y = .ref b ∧ G4 b = some (.tup (k.map kV)) ∧ G4 D = some (.dT kvs) ∧ kvs.length < sizeLine ∧ Nx (upd G4 D (.dT (putK kvs k z))))
theorem pe_dcT {kx vx tg iter : Expr} {scope : Scope} {own : List (Str × Nat)} {pos : Pos} {wi : TI} {g : TG} {tk tv : TE} (calm : X.calm = true) (hu : X.A.units + 1 < cLine) (nd : X.N.Nodup) (src : PI X tg iter wi) (blk : BlkOk X.N X.env.scope scope own)
    (G1 : ∀ (s : Shared) (H : Hp) (C : Addr) (cl : List (Str × Addr)) (fp : List Addr), PG (X.blk s H scope (compEnvC scope cl C X.env) fp) tg g)
    (K1 : ∀ (s : Shared) (H : Hp) (C : Addr) (cl : List (Str × Addr)) (fp : List Addr), PE (X.blk s H scope (compEnvC scope cl C X.env) fp) kx tk)
    (V1 : ∀ (s : Shared) (H : Hp) (C : Addr) (cl : List (Str × Addr)) (fp : List Addr), PE (X.blk s H scope (compEnvC scope cl C X.env) fp) vx tv)
    (fold : ∀ x, foldedSetIterable iter X.env x = pure x := by intro _; rfl) :
    PE X (.DictComp kx vx [⟨tg, iter, [], 0⟩] scope pos) (tDcT wi g tk tv (own.map (·.2))) := by
  refine ⟨fun pins s σ H Q I w0 => ?_⟩
  rw [arm_eval_DictComp]
  let vs := own.map (·.2)
  have cells : ∀ y ∈ scope.names, y.2 = .free → ∃ c, X.env.cells.lookup y.1 = some c := fun y m e => (blk.free y m e).elim (fun k => I.ok.has _ (.inl k)) fun k => I.ok.has _ (.inr k)
  refine wpAny_comprehension_free rfl fold (closure_ok cells) blk.kind (fun y m e => by rw [blk.uniq y m, e]) (thn (src.run pins s σ H _ I w0) fun xv t1 a1 => thn a1 fun iv t2 a2 => ?_)
  obtain ⟨it, fp, tn, J, H2, rfl, I2, T, r2, f2, walk⟩ := a2
  refine wpAny_newObj_type (newEnv_comp ?_)
  -- the new dict stands at the end of the heap
  obtain ⟨D, eD⟩ : ∃ D, D = t2.heap.objs.size := ⟨_, rfl⟩
  have nD : H2 D = none := I2.hok.fresh (Nat.le_of_eq eD.symm)
  obtain ⟨W, ⟨m0, w2⟩, turn⟩ := walk D nD
  obtain ⟨t3, e3⟩ : ∃ t3 : Shared, t3 = { t2 with heap := t2.heap.push { cls := .type "dict", data := .dict #[] } } := ⟨_, rfl⟩
  have p3 : ∀ b o, t2.heap.get? b = some o → t3.heap.get? b = some o := fun b o e => by rw [e3]; exact Heap.get?_push_of_some _ e
  have I3 : Inv X pins σ (upd H2 D (.dT [])) t3 := by
    rw [e3]
    refine I2.laid (t' := t2.toks) (fun b o e => Heap.get?_push_of_some _ e) (Nat.le_of_eq eD.symm) ?_
    rw [eD]
    exact dt_empty t2.heap I2.big
  have low : ∀ b ∈ fp, b < t2.heap.objs.size := fun b m => let ⟨o, e, _⟩ := T.obj _ _ r2 b m; Heap.lt_size e
  have f3 : ∀ b ∈ fp, FpOk X pins (upd H2 D (.dT [])) b ∧ b < t3.heap.objs.size := fun b m => by
    have lt := low b m
    refine ⟨⟨?_, (f2 b m).2⟩, by rw [e3]; show b < (t2.heap.push _).objs.size; rw [Heap.size_push]; exact Nat.lt_succ_of_lt lt⟩
    rw [upd_ne (by rw [eD]; exact Nat.ne_of_lt lt)]
    exact (f2 b m).1
  have r3 : tn 0 t3.heap := T.keep _ _ _ r2 fun b _ o e => p3 b o e
  have I4 := block_start I3 blk nd f3
  obtain ⟨cs, ecs⟩ : ∃ cs, cs = cellsFrom (t3.heap.objs.size + 1) scope.names (cloFrom X.env.cells scope.names []) := ⟨_, rfl⟩
  obtain ⟨ce, ece⟩ : ∃ ce, ce = compEnvC scope cs t3.heap.objs.size X.env := ⟨_, rfl⟩
  have cL : ce.locals = t3.heap.objs.size := by rw [ece]; rfl
  obtain ⟨t4, e4⟩ : ∃ t4 : Shared, t4 = { t3 with heap := pushCells (t3.heap.push { cls := .type "dict", data := .dict #[] }) scope.names } := ⟨_, rfl⟩
  rw [← ecs, ← ece, ← e4] at I4
  have pg : PG (X.blk t3 (upd H2 D (.dT [])) scope ce fp) tg g := by rw [ece]; exact G1 ..
  have pk : PE (X.blk t3 (upd H2 D (.dT [])) scope ce fp) kx tk := by rw [ece]; exact K1 ..
  have pe : PE (X.blk t3 (upd H2 D (.dT [])) scope ce fp) vx tv := by rw [ece]; exact V1 ..
  generalize eH3 : upd H2 D (.dT []) = H3 at I3 I4 pg pk pe w2 f3
  have r4 : tn 0 t4.heap := T.keep _ _ _ r3 fun b _ o e => by rw [e4]; exact pushCells_keeps _ _ _ _ (Heap.get?_push_of_some _ e)
  show codeAny (model X.prog X.w) X.A (.compStart (.DictComp kx vx [⟨tg, iter, [], 0⟩] scope pos) 0 (.ref it) (.ref t2.heap.objs.size) (compEnvC scope (cellsFrom ((t2.heap.push { cls := .type "dict", data := .dict #[] }).objs.size + 1) scope.names (cloFrom X.env.cells scope.names [])) (t2.heap.push { cls := .type "dict", data := .dict #[] }).objs.size X.env))
    (compPost (model X.prog X.w) X.A X.xe none (EP X pins σ Q) (.ref t2.heap.objs.size) (t2.heap.push { cls := .type "dict", data := .dict #[] }).objs.size) { t2 with heap := pushCells ((t2.heap.push { cls := .type "dict", data := .dict #[] }).push { cls := .type "dict", data := .dict #[] }) scope.names }
  have h3 : t2.heap.push { cls := .type "dict", data := .dict #[] } = t3.heap := by rw [e3]
  have u4 : t4 = { t2 with heap := pushCells (t3.heap.push { cls := .type "dict", data := .dict #[] }) scope.names } := by rw [e4, e3]
  rw [h3, ← u4, ← ecs, ← ece, ← eD]
  have keepB : ∀ {σ9 : L2.St} {G : Hp} {u : Shared}, Inv (X.blk t3 H3 scope ce fp) [] σ9 G u → (∀ b ∈ fp, G b = none) → ∀ b ∈ fp, FpOk (X.blk t3 H3 scope ce fp) [] G b := fun {σ9 G u} J9 no b m =>
    ⟨no b m, (J9.ok.exf b m).1, J9.ok.exfs b m, .inl m, fun x c e => (J9.ok.exf b m).2 x c e, fun p hp => absurd (show p ∈ ([] : List (Addr × Obj)) ++ [] from hp) (by simp)⟩
  have wl : (wipe σ vs).length = σ.length := wipe_length ..
  have whole : codeAny (model X.prog X.w) X.A (.compLoop (.DictComp kx vx [⟨tg, iter, [], 0⟩] scope pos) 0 (.ref it) (.ref D) ce) (compPost (model X.prog X.w) X.A X.xe none (EP X pins σ Q) (.ref D) t3.heap.objs.size) t4 := by
    refine compLoop_anyD (fun left u => ∃ i G, W i left G ∧ (∀ b ∈ fp, G b = none) ∧ tn i u.heap ∧ Inv (X.blk t3 H3 scope ce fp) [] (wipe σ vs) G u) ?_ m0 ⟨0, H3, w2, fun b m => (f3 b m).1.1, r4, I4⟩
    rintro left u5 ⟨i, G5, wi5, no5, r5, J5⟩
    rcases turn i left G5 wi5 with ⟨stop, last⟩ | ⟨go, Nx, nxt, step⟩
    · refine thnF (T.done (X.blk t3 H3 scope ce fp) rfl rfl rfl calm i [] u5 _ G5 (fun _ _ => False) J5 (keepB J5 no5) r5 stop) fun r u6 ⟨er, J6⟩ => ?_
      subst er
      have back : Inv X pins σ G5 u6 := I3.call' (ch := fp) J6.os J6.base J6.hok J6.bare fun b m => by
        obtain ⟨_, c1, c2, c3, c4, c5⟩ := (f3 b m).1
        exact ⟨c3, c1, c4, c5⟩
      have free : G5 t3.heap.objs.size = none := by
        have z : G5 ce.locals = none := J6.free
        rwa [cL] at z
      obtain ⟨m, ns, _⟩ := J6.loc
      have ns : u6.heap.Ns ce.locals m := ns
      rw [cL] at ns
      refine ⟨m, ns, fun g' sb => ?_⟩
      obtain ⟨c0, c1, c2, c3, c4, c5⟩ := I3.fpOk (Nat.le_refl _) free
      exact ⟨.ref D, G5, back.turned (t' := u6.toks) (fun b o ne e => (sb.2 b ne).trans e) c0 c1 c3 c4 c5, rfl, last⟩
    · refine thnF (T.item (X.blk t3 H3 scope ce fp) rfl rfl rfl calm i [] u5 _ G5 (fun _ _ => False) J5 (keepB J5 no5) r5 go) fun r u6 ⟨it1, er, h6⟩ => ?_
      subst er
      refine thnF h6 fun _ u7 ⟨x, G7, J7, rx, yx, r7, no7⟩ => ?_
      refine thnF (pg.run _ u7 _ G7 x it1 _ (J7.pinned (keepB J7 no7) (T.obj _ _ r7)) rx (step x G7 yx)) fun _ u8 ⟨σ8, G8, J8, sw, q8⟩ => ?_
      refine wpAny_pure ?_
      rw [if_pos rfl]
      refine thnF (pk.run _ u8 σ8 G8 _ J8 q8) fun z1 u9 ⟨y1, G9, J9, ry, q9⟩ => ?_
      refine thnF (pe.run _ u9 σ8 G9 _ J9 q9) fun z2 u10 ⟨y2, G10, J10, rz, kvs, k, b, eb, hb, hD, hz, nx⟩ => ?_
      subst eb
      cases ry
      refine put_dT (X := X.blk t3 H3 scope ce fp) hu J10 hD hb hz rz fun u11 J11 => ?_
      obtain ⟨m', lt, wn⟩ := nxt _ nx
      have pinned : ∀ b ∈ fp, ∀ o, u7.heap.get? b = some o → u11.heap.get? b = some o ∧ upd G10 D (.dT (putK kvs k y2)) b = none := fun b m o e =>
        let z := J11.pin (b, o) (List.mem_append_right _ (List.mem_append_right _ (mem_pinsAt m e)))
        ⟨z.1, z.2.1⟩
      have len : (wipe σ vs).length = σ8.length := by rw [← sw, wipe_length]
      refine ⟨m', lt, i + 1, _, wn, fun b m => ?_, T.keep _ _ _ r7 fun b m o e => (pinned b m o e).1, (J11.unpinned (pins := [])).weak len fun j v e => ?_⟩
      · obtain ⟨o, e, _⟩ := T.obj _ _ r7 b m
        exact (pinned b m o e).2
      · rw [← sw] at e
        exact (wipe_some e).1
  exact codeAny_compStart_dict whole (T.self X.A 0 _ _ _ r4 whole)
end
end Tb
namespace Tb
open PySem PySem.Spec PyProof.Rows L2
/-! ### for (a, b), v in d.items(), the keys tuples of whole numbers and texts -/
def ItPr (d : Addr) (o : Obj) (kvs : List (List Key × V)) : It :=
  ⟨fun i H => i < kvs.length ∧ H d = some (.frz o (.dT kvs)),
   fun i H x H' => ∃ (T q : Addr) (k : List Key) (v : V), x = .ref T ∧ kvs[i]? = some (k, v) ∧ H q = some (.tup (k.map kV)) ∧ H T = none ∧ H' = upd H T (.tup [.ref q, v]),
   fun i H => kvs.length ≤ i ∧ H d = some (.frz o (.dT kvs))⟩
section
variable {X : Cx} {pins : List (Addr × Obj)} {σ : L2.St} {H : Hp} {s : Shared} {d : Addr} {o : Obj}
theorem raw_frzT {kvs : List (List Key × V)} (I : Inv X pins σ H s) (h : H d = some (.frz o (.dT kvs))) : (d == sysModules) = false ∧ ∃ (es : Array DictEntry) (ep : Nat), o.data = .dict es ep ∧ DT.Raw s.heap d es ep ∧ es.size = kvs.length ∧ kvs.length ≤ sizeLine ∧
    ∀ (i : Nat) (k : List Key) (v : V), kvs[i]? = some (k, v) → ∃ (q : Addr) (e : DictEntry), es[i]? = some e ∧ e.key = .ref q ∧ H q = some (.tup (k.map kV)) ∧ RelV v e.val := by
  obtain ⟨g, z, ns, ts, pr, o1, es, ep, g1, ex, dat, ents, _⟩ := I.hok d _ h
  rw [g] at g1
  cases g1
  have l1 : es.size = ts.length := size_of_entries ents
  have l2 : kvs.length = ts.length := Paired.length pr
  refine ⟨ns, es, ep, dat, ⟨o, g, ex, dat⟩, by omega, z, fun i k v e => ?_⟩
  obtain ⟨t, et, r1, r2, r3⟩ := paired_get pr e
  have w := entry_at ents i
  rw [et] at w
  exact ⟨t.2.1, _, w, rfl, r2, r3⟩
end
theorem turn_pr {P : Program} {w : World} {K : PySem.W.Frag} {d : Addr} {o : Obj} {es : Array DictEntry} {ep : Nat} {kvs : List (List Key × V)} {elts : List Expr} {n : Nat} {pos : Pos} (it : Addr) (hod : o.data = .dict es ep) :
    Turn P w K (.Tuple elts n pos) (ItPr d o kvs) [it] it (fun i h => ∃ lk lv, IsItemIter h it d i es.size ep lk lv) where
  mem := List.mem_singleton.mpr rfl
  obj := fun i h ⟨lk, lv, st⟩ b m => by
    cases List.mem_singleton.mp m
    exact ⟨_, st, nofun⟩
  keep := fun i h h' ⟨lk, lv, st⟩ k => ⟨lk, lv, k it (List.mem_singleton.mpr rfl) _ st⟩
  item := by
    rintro X rfl rfl rfl calm i pins s σ H E I fp ⟨lk, lv, st⟩ ⟨lt, hd⟩
    obtain ⟨ns, es', ep', dat, raw, sz, zl, ent⟩ := raw_frzT I hd
    obtain ⟨rfl, rfl⟩ := dict_ep hod dat
    obtain ⟨q, e, he, hk, hq, rv⟩ := ent i kvs[i].1 kvs[i].2 (List.getElem?_eq_getElem lt)
    have li : i < es'.size := by omega
    have e2 : es'[i] = e := by
      rw [Array.getElem?_eq_getElem li] at he
      exact Option.some.inj he
    have old : it < s.heap.objs.size := Heap.lt_size st
    refine DT.nextI st raw li fun h1 out tup hz keep => ?_
    rw [e2] at out tup
    rw [hk] at tup
    refine ⟨_, rfl, wpAny_letOwnedTupleGo_items (s := { s with heap := h1 }) out fun h2 st2 sb => ?_⟩
    have t2 : h2.get? s.heap.objs.size = some { cls := .type "tuple", data := .seq #[.ref q, e.val] } := (sb.2 _ (Nat.ne_of_gt old)).trans tup
    have J : Inv X pins σ (upd H s.heap.objs.size (.tup [.ref q, kvs[i].2])) { s with heap := h2 } := by
      refine I.turnedNew (t' := s.toks) (ch := [it]) (fun b ob nb e => (sb.2 b fun z => nb (by rw [z]; exact List.mem_singleton.mpr rfl)).trans (keep b ob (fun z => nb (by rw [z]; exact List.mem_singleton.mpr rfl)) e)) fp (Nat.le_refl _) ?_
      exact ⟨by show 2 ≤ sizeLine; decide, [.ref q, e.val], .cons rfl (.cons rv .nil), ⟨_, t2, rfl, _, rfl⟩⟩
    refine ⟨.ref s.heap.objs.size, _, J, rfl, ⟨_, q, kvs[i].1, kvs[i].2, rfl, List.getElem?_eq_getElem lt, hq, I.hok.fresh (Nat.le_refl _), rfl⟩, ⟨_, _, st2⟩, fun b m => ?_⟩
    cases List.mem_singleton.mp m
    rw [upd_ne (Nat.ne_of_lt old)]
    exact (fp it (List.mem_singleton.mpr rfl)).1
  done := by
    rintro X rfl rfl rfl calm i pins s σ H E I fp ⟨lk, lv, st⟩ ⟨le, hd⟩
    obtain ⟨ns, es', ep', dat, raw, sz, zl, ent⟩ := raw_frzT I hd
    obtain ⟨rfl, rfl⟩ := dict_ep hod dat
    obtain ⟨f0, f1, f2, f3, f4, f5⟩ := fp it (List.mem_singleton.mpr rfl)
    exact DT.endI (I.ok.hd calm) st raw (by omega) fun h1 eb => ⟨rfl, I.turned (t' := s.toks) (fun b ob nb e => eb b ob nb e) f0 f1 f3 f4 f5⟩
  self := fun A i s Q E ⟨_, _, st⟩ h => PySem.W.kcp_self st h
/-- the dict is locked -/
def iPr (td : TE) : TI := fun σ H R => td σ H fun x H1 => ∃ d o kvs, x = .ref d ∧ H1 d = some (.frz o (.dT kvs)) ∧ R (ItPr d o kvs) H1
theorem pi_pr {X : Cx} {e : Expr} {td : TE} {apos cpos tpos : Pos} {elts : List Expr} {n : Nat} (he : PE X e td) (hb : attributeBase e "items" X.env (eval e X.env) = eval e X.env := by rfl) (hl : (apos.endLine == cpos.line) = true := by rfl) :
    PI X (.Tuple elts n tpos) (.Call (.Attribute e "items" apos) [] [] cpos) (iPr td) := by
  refine ⟨fun pins s σ H R I h => ?_⟩
  refine wpAny_Call_method (T := "dict") (id := "dict.items") hb rfl hl F.plainAttrs_dict F.slot_dict_items F.type_dict_items (thn (he.run pins s σ H _ I h) ?_)
  rintro u s1 ⟨x, H1, I1, rx, d, o, kvs, rfl, hd, q⟩
  cases rx
  obtain ⟨ns, es, ep, dat, raw, sz, zl, ent⟩ := raw_frzT I1 hd
  refine ⟨raw.typeIs, fun b eb => ?_, ?_⟩
  · cases eb
    obtain ⟨ob, g, ex, _⟩ := raw
    exact ⟨ob, g, ex.2.1⟩
  have I2 : Inv X pins σ H1 { s1 with heap := s1.heap.push { cls := .type "dict_items", data := .fields #[.ref d] } } := I1.kept (t' := s1.toks) fun b ob q => Heap.get?_push_of_some _ q
  show wpAny _ _ (callWith cpos (.builtin "dict.items") [.ref d] [] []) _ X.xe s1
  refine method_meetsIn F.slot_dict_items F.entry_dict_items rfl (PySem.evalArgs_none ⟨rfl, raw.typeIs, F.args_dict_items_1 _, _, DT.meetsItems (es := es) (ep := ep) ns, raw, ?_⟩)
  refine DT.iterI (es := es) (ep := ep) (d := d) ⟨_, Heap.get?_push_size _ rfl, rfl, rfl⟩ (raw.push _) (pi_one (tk := s1.toks) I2 _ (turn_pr _ dat) ⟨.none, .none, ?_⟩ q)
  exact Heap.get?_push_size _ rfl
end Tb
namespace Tb
open PySem PySem.Spec PyProof.Rows L2
/-! ### sorted(rows), a row a tuple of two texts and a whole number or None; no two rows with the same texts and another end -/
/-- a row: the two texts, the end -/
abbrev Rw := Pr × Option Int
def oI : Option Int → V
  | none => .non
  | some i => .int i
def rwV (r : Rw) : List V := [.str r.1.1, .str r.1.2, oI r.2]
def rowOf (H : Hp) : V → Pr × V
  | .ref a => match H a with
    | some (.tup [.str p, .str l, x]) => ((p, l), x)
    | _ => ((⟨#[]⟩, ⟨#[]⟩), .non)
  | _ => ((⟨#[]⟩, ⟨#[]⟩), .non)
theorem rowOf_at {H : Hp} {a : Addr} {r : Rw} (h : H a = some (.tup (rwV r))) : rowOf H (.ref a) = (r.1, oI r.2) := by
  show (match H a with
    | some (.tup [.str p, .str l, x]) => ((p, l), x)
    | _ => ((⟨#[]⟩, ⟨#[]⟩), .non)) = _
  rw [h]
  rfl
def ltK (k : Value → Pr × V) (v u : Value) : Bool := !le2 (k u).1 (k v).1
theorem ltK_eq (k : Value → Pr × V) (v u : Value) : ltK k v u = if (k v).1.1 = (k u).1.1 then sLt (k v).1.2 (k u).1.2 else sLt (k v).1.1 (k u).1.1 := by
  unfold ltK
  rw [le2_eq, Bool.not_not]
theorem swo_K (k : Value → Pr × V) : SrtO.Swo (ltK k) := by
  refine ⟨fun x y h => ?_, fun x y z h1 h2 => ?_⟩
  · have a : le2 (k y).1 (k x).1 = false := by simpa [ltK] using h
    have b := le2_total.total (k y).1 (k x).1
    rw [a] at b
    simpa [ltK] using b
  · have a : le2 (k x).1 (k y).1 = true := by simpa [ltK] using h1
    have b : le2 (k y).1 (k z).1 = true := by simpa [ltK] using h2
    have c := le2_total.trans _ _ _ a b
    simpa [ltK] using c
/-- v holds the row -/
def IsRw (h : Heap) (v : Value) (k : Pr × V) : Prop := ∃ (a : Addr) (o : Obj) (t1 t2 : Tok) (u : Value) (n : Nat), v = .ref a ∧ h.get? a = some o ∧ o.cls = .type "tuple" ∧ o.data = .seq #[.str k.1.1 t1, .str k.1.2 t2, u] n ∧ RelV k.2 u ∧ (k.2 = .non ∨ ∃ i, k.2 = .int i)
theorem firsts_rw {h : Heap} {k : Value → Pr × V} : ∀ {vs : List Value}, (∀ v ∈ vs, IsRw h v (k v)) → ∃ fs : List Value, PySem.W.KatTups h vs fs ∧ fs.length = vs.length ∧ ∀ f ∈ fs, ∃ x t, f = Value.str x t
  | [], _ => ⟨[], PySem.W.KatTups.nil, rfl, nofun⟩
  | v :: vs, hp => by
    obtain ⟨fs, h1, h2, h3⟩ := firsts_rw (vs := vs) fun u hu => hp u (List.mem_cons_of_mem _ hu)
    obtain ⟨a, o, t1, t2, u, n, e, ho, hc, hd, _⟩ := hp v List.mem_cons_self
    subst e
    refine ⟨_ :: fs, PySem.W.KatTups.cons ho hc hd rfl h1, by rw [List.length_cons, List.length_cons, h2], fun f hf => ?_⟩
    rcases List.mem_cons.mp hf with rfl | hf
    · exact ⟨_, _, rfl⟩
    · exact h3 f hf
section
variable {prog : Program} {w : World} {A : Around} {s : Shared}
theorem cmp_rw {vs : List Value} {k : Value → Pr × V} (hp : ∀ v ∈ vs, IsRw s.heap v (k v)) (one : ∀ v ∈ vs, ∀ u ∈ vs, (k v).1 = (k u).1 → (k v).2 = (k u).2) : SrtO.Cmp prog w A s (tuples' true) (fun p => p.1 ∈ vs) (SrtO.lt2 (ltK k)) := by
  intro p q mp mq
  have o := one _ mp _ mq
  show wpAny _ A _ (fun r s' => s' = s ∧ r = ltK k p.1 q.1) _ s
  rw [ltK_eq]
  obtain ⟨a, oa, t1, t2, u, n, e, ho, hc, hd, ru, fu⟩ := hp _ mp
  obtain ⟨a', oa', t1', t2', u', n', e', ho', hc', hd', ru', fu'⟩ := hp _ mq
  rw [e, e'] at o ⊢
  rw [e] at hd ru fu
  rw [e'] at hd' ru' fu'
  generalize k (.ref a) = x at o hd ru fu ⊢
  generalize k (.ref a') = y at o hd' ru' fu' ⊢
  obtain ⟨⟨x1, x2⟩, x3⟩ := x
  obtain ⟨⟨y1, y2⟩, y3⟩ := y
  dsimp only at o hd ru fu hd' ru' fu' ⊢
  refine PySem.W.kat_lt ho hd ho' hd' ?_
  show PySem.W.KatLex prog w A true (decide (3 < 3)) _ [(.str x1 t1, .str y1 t1'), (.str x2 t2, .str y2 t2'), (u, u')] 0 s
  refine PySem.W.kat_cons (SeqAt.EqAt.str_str x1 t1 y1 t1' prog w _ _ ?_)
  refine PySem.W.kat_go (fun e1 => ?_) (fun e1 => ?_)
  · have c1 : x1 = y1 := by simpa using e1
    rw [if_pos c1]
    refine PySem.W.kat_yes (PySem.W.kat_cons (SeqAt.EqAt.str_str x2 t2 y2 t2' prog w _ _ ?_))
    refine PySem.W.kat_go (fun e2 => ?_) (fun e2 => ?_)
    · have c2 : x2 = y2 := by simpa using e2
      have c3 : x3 = y3 := o (by rw [c1, c2])
      have no : sLt x2 y2 = false := by rw [c2]; exact decide_eq_false (List.lt_irrefl _)
      rw [no]
      subst c3
      have done : PySem.W.KatLex prog w A true (decide (3 < 3)) (fun r s' => s' = s ∧ r = false) [] 3 s := PySem.W.kat_nil ⟨rfl, rfl⟩
      refine PySem.W.kat_yes (PySem.W.kat_cons ?_)
      rcases fu with rfl | ⟨i, rfl⟩
      · cases ru
        cases ru'
        exact SeqAt.EqAt.same _ prog w _ _ (PySem.W.kat_yes done)
      · obtain ⟨t, rfl⟩ := ru
        obtain ⟨t', rfl⟩ := ru'
        refine SeqAt.EqAt.int_int i t i t' prog w _ _ ?_
        refine PySem.W.kat_go (fun _ => PySem.W.kat_yes done) (fun e3 => ?_)
        simp at e3
    · refine PySem.W.kat_no (PySem.W.kat_one _ _ (PyProof.Rows.lt_str ?_))
      exact (show s = s ∧ decide (x2.cps.toList < y2.cps.toList) = sLt x2 y2 from ⟨rfl, rfl⟩)
  · have c1 : ¬ x1 = y1 := by simpa using e1
    rw [if_neg c1]
    exact PySem.W.kat_no (oneLt_str ⟨rfl, rfl⟩)
theorem sortable_rw {a : Addr} {vs : List Value} {k : Value → Pr × V} (h0 : 0 < vs.length) (hp : ∀ v ∈ vs, IsRw s.heap v (k v)) (one : ∀ v ∈ vs, ∀ u ∈ vs, (k v).1 = (k u).1 → (k v).2 = (k u).2) (ha : ∀ o, s.heap.get? a = some o → o.cls ≠ .type "tuple") : SrtO.SortableO prog w A s a vs (ltK k) := by
  intro h' keep
  have hp' : ∀ v ∈ vs, IsRw h' v (k v) := fun v hm => by
    obtain ⟨b, o, t1, t2, u, n, e, ho, hc, r⟩ := hp v hm
    exact ⟨b, o, t1, t2, u, n, e, keep b o (fun z => by subst z; exact ha o ho hc) ho, hc, r⟩
  obtain ⟨fs, h1, h2, h3⟩ := firsts_rw hp'
  refine ⟨tuples' true, fun Q E hq => ?_, cmp_rw (s := { s with heap := h' }) hp' one⟩
  refine PySem.W.kat_kind (T := .type "str") h1 (by omega) (fun f hm => ?_) (by rfl) ?_
  · obtain ⟨x, t, rfl⟩ := h3 f hm
    exact PySem.W.Looks.now
  · have e : (Value.type "str" != Value.type "tuple") = true := by first | decide +kernel | rfl | decide
    rw [e]
    exact hq
end
/-- sorted(rows) -/
def rSortRw (K : PySem.W.Frag) : List V → Hp → VK → Prop := fun vs H Q => ∃ (a : Addr) (bs : List (Addr × Rw)), vs = [.ref a] ∧ SqL K H a (bs.map fun b => V.ref b.1) ∧ (∀ b ∈ bs, H b.1 = some (.tup (rwV b.2))) ∧ (∀ b ∈ bs, ∀ c ∈ bs, b.2.1 = c.2.1 → b.2 = c.2) ∧
  ∀ (p : Addr) (cs : List (Addr × Rw)), H p = none → cs.Perm bs → cs.Pairwise (fun b c => le2 b.2.1 c.2.1 = true) → Q (.ref p) (upd H p (.lst (cs.map fun b => V.ref b.1)))
theorem oI_end (x : Option Int) : oI x = .non ∨ ∃ i, oI x = .int i := by
  cases x with
  | none => exact .inl rfl
  | some i => exact .inr ⟨i, rfl⟩
theorem cr_sortRw {X : Cx} : CallR X (.builtin "sorted") (rSortRw X.K) := by
  intro pins s σ H vs us Q I r h
  obtain ⟨a, bs, rfl, hs, hb, one, q⟩ := h
  obtain ⟨its, rv, hl, hz⟩ := I.list hs
  obtain ⟨u, rfl, ru⟩ := vals1 r
  cases ru
  obtain ⟨e1, e2⟩ := refs_back rv fun x m => by
    obtain ⟨b, _, rfl⟩ := List.mem_map.mp m
    exact ⟨b.1, rfl⟩
  have from_ : ∀ v ∈ its, ∃ b ∈ bs, v = .ref b.1 := fun v hv => by
    obtain ⟨t, rfl⟩ := e2 v hv
    have hm : V.ref t ∈ bs.map fun b => V.ref b.1 := by rw [e1]; exact List.mem_map.mpr ⟨_, hv, rfl⟩
    obtain ⟨b, hb', e⟩ := List.mem_map.mp hm
    exact ⟨b, hb', by rw [show b.1 = t from V.ref.inj e]⟩
  have kk : ∀ b ∈ bs, rowOf H (backV (.ref b.1)) = (b.2.1, oI b.2.2) := fun b m => rowOf_at (hb b m)
  have lz : its.length ≤ sizeLine := by rw [← rv.length]; exact hz
  refine SrtO.sorted_ord (swo_K fun v => rowOf H (backV v)) hl.isList lz (fun h2 h₁ a1 ha1 keep => ?_) fun out hs' hb' => ?_
  · refine sortable_rw (s := { s with heap := h₁ }) (k := fun v => rowOf H (backV v)) (by omega) (fun v hv => ?_) (fun v hv w hw e => ?_) (fun o e => ?_)
    · obtain ⟨b, m, rfl⟩ := from_ v hv
      obtain ⟨_, its2, r2, o, ho, hc, n, hd⟩ := I.hok _ _ (hb b m)
      show IsRw h₁ (.ref b.1) (rowOf H (backV (.ref b.1)))
      rw [kk b m]
      have r3 : Vals [.str b.2.1.1, .str b.2.1.2, oI b.2.2] its2 := r2
      cases r3 with
      | cons a1 r3 =>
        cases r3 with
        | cons a2 r3 =>
          cases r3 with
          | cons a3 r3 =>
            cases r3
            obtain ⟨t1, rfl⟩ := a1
            obtain ⟨t2, rfl⟩ := a2
            exact ⟨b.1, o, t1, t2, _, n, rfl, (keep _ _ ho).2, hc, hd, a3, oI_end _⟩
    · obtain ⟨b, m, rfl⟩ := from_ v hv
      obtain ⟨c, m', rfl⟩ := from_ w hw
      have z := e
      rw [kk b m, kk c m'] at z ⊢
      rw [one b m c m' z]
    · have e' : some o = some (seqObj "list" its.toArray 0) := e.symm.trans ha1
      cases e'
      intro c
      exact absurd (Value.type.inj c) (by decide)
  · have h3 : ∀ u ∈ out, ∃ a, u = Value.ref a := fun u hu => e2 u (hb'.perm.mem_iff.mp hu)
    have pm : (out.map backV).Perm (bs.map fun b => V.ref b.1) := by rw [e1]; exact hb'.perm.map backV
    obtain ⟨cs, pc, ec⟩ := perm_map pm
    have new : H (s.heap.objs.size + 1) = none := I.hok.fresh (Nat.le_succ _)
    obtain ⟨n, hn⟩ := sortedAll_at s.heap its out.toArray
    refine ⟨.ref (s.heap.objs.size + 1), upd H (s.heap.objs.size + 1) (.lst (out.map backV)), I.laid (t' := s.toks) (fun b o e => sortedAll_old e) (Nat.le_succ _) ⟨?_, out, n, vals_back h3, hn⟩, rfl, ?_⟩
    · rw [ec, List.length_map, pc.length_eq]
      rw [List.length_map] at hz
      exact hz
    · rw [ec]
      refine q _ cs new pc ?_
      have w1 : (out.map backV).Pairwise (fun x y => le2 (rowOf H x).1 (rowOf H y).1 = true) := by
        rw [List.pairwise_map]
        refine hs'.imp fun {x y} h => ?_
        simpa [ltK] using h
      rw [ec, List.pairwise_map] at w1
      refine w1.imp_of_mem fun {x y} mx my h => ?_
      rw [show rowOf H (V.ref x.1) = _ from rowOf_at (hb x (pc.mem_iff.mp mx)), show rowOf H (V.ref y.1) = _ from rowOf_at (hb y (pc.mem_iff.mp my))] at h
      exact h
end Tb
namespace Tb
open PySem PySem.Spec PyProof.Rows L2
theorem cut_hi (xs : List V) (k : Nat) : cutV xs none (some (k : Int)) = xs.take k := by
  unfold cutV
  rw [HT.sIx_nat, HT.sIx_none, List.drop_zero, Nat.sub_zero]
  by_cases h : k ≤ xs.length
  · rw [Nat.min_eq_left h]
  · rw [Nat.min_eq_right (by omega), List.take_length, List.take_of_length_le (by omega)]
abbrev sCell : Stmt := topS 21
abbrev sBox : Stmt := topS 22
abbrev sDraw : Stmt := topS 23
theorem scCell : FnScope ["script", "k"] ["script", "k"] (defScope sCell) := ⟨rfl, rfl, rfl, by decide +kernel, rfl, by decide +kernel, by decide +kernel⟩
theorem scBox : FnScope ["script", "k", "cell", "rest"] ["script", "k"] (defScope sBox) := ⟨rfl, rfl, rfl, by decide +kernel, rfl, by decide +kernel, by decide +kernel⟩
theorem scDraw : FnScope ["box", "size", "digit"] ["box", "size"] (defScope sDraw) := ⟨rfl, rfl, rfl, by decide +kernel, rfl, by decide +kernel, by decide +kernel⟩
abbrev MA : Int := 2147483629
abbrev MB : Int := 2147483549
/-- the box of the draws -/
def Box (H : Hp) (p : Addr) : Prop := ∃ (r a b c : Int), H p = some (.lst [.int r, .int a, .int b, .int c]) ∧ 0 ≤ r ∧ 0 ≤ a ∧ a < MA ∧ 0 ≤ b ∧ b < MB ∧ 0 ≤ c
theorem Box.same {H H' : Hp} {p : Addr} (B : Box H p) (h : Same H H') : Box H' p := by
  obtain ⟨r, a, b, c, hp, rest⟩ := B
  exact ⟨r, a, b, c, h _ _ hp, rest⟩
section
variable {P : Program} {w : World} {K : PySem.W.Frag} {mg : Str → Option Value} {base : Heap}
def spCell (K : PySem.W.Frag) : Sp := fun vs H Q _ => ∃ (a : Addr) (ns : List Int) (k : Nat), vs = [.ref a, .int (k : Int)] ∧ SqL K H a (ns.map V.int) ∧ k ≤ 10 ∧ ∀ (z : Int) (H' : Hp), Same H H' → Q (.int z) H'
theorem ok_cell {f : Addr} {fd : FuncData} {k : Nat} (F : Fun K "_law_cell" "_law_cell" sCell f fd) (B : Blt mg) : FnOk P w K mg base CX0 (k + 1) f fd ["script", "k"] (spCell K) := by
  refine F.ok scCell (fun vs H Q E h => ?_) (fun cdv A outer s H vs Q E hr h => ?_)
  · obtain ⟨a, ns, k, rfl, _⟩ := h
    rfl
  · obtain ⟨a, ns, k, rfl, hS, hk, q⟩ := h
    refine ⟨_, pss_cons (ps_if (pt_cmpR op_lt (pv 1) (pe_callB call_len_seq (by rfl) B.len PySem.boot_len (pa_cons (pv 0) pa_nil)) (nomark _)) (pss_one (ps_ret (pe_ix ix_list (pv 0) (pv 1) (fun _ _ => rfl)))) pss_nil)
      (pss_one (ps_ret (pe_op op_add (pe_op op_mod (pe_callB (cr_sum rfl) (by rfl) B.sum (by decide +kernel) (pa_cons (pe_slice sl_list (pv 0) po_none (po_some pe_int)) pa_nil)) pe_int) (pe_op op_mul pe_int (pe_op op_add (pv 1) pe_int))))), ?_⟩
    refine ⟨.int (k : Int), rfl, .ref a, rfl, a, _, rfl, .inl hS, k, _, rfl, rfl, _, rfl, ite2 (fun e => ?_) (fun e => ?_)⟩
    · have hl : k < ns.length := by
        have := of_decide_eq_true e
        rw [List.length_map] at this
        omega
      refine ⟨.ref a, rfl, .int (k : Int), rfl, a, _, k, .int ns[k], rfl, rfl, hS, atI_nat ?_, q _ H (Same.refl _)⟩
      rw [List.getElem?_map, List.getElem?_eq_getElem hl]
      rfl
    · refine ⟨.ref a, rfl, 2, rfl, a, _, rfl, hS, fun p np => ?_⟩
      refine ⟨p, ns.take 2, rfl, sqOf ?_, _, 1000003, rfl, rfl, (by show (0 : Int) < 1000003; decide), .int (k : Int), rfl, k, 1, rfl, rfl, 7919, _, rfl, rfl, .inl ⟨by decide, by decide⟩, _, _, rfl, rfl, q _ _ (same_upd np)⟩
      rw [upd_same, List.map_take]
      exact congrArg (fun l => some (HO.lst l)) (cut_hi _ 2)
def spBox (K : PySem.W.Frag) : Sp := fun vs H Q _ => ∃ (a : Addr) (ns : List Int) (k : Nat), vs = [.ref a, .int (k : Int)] ∧ SqL K H a (ns.map V.int) ∧ k ≤ 10 ∧ ∀ (p : Addr) (H' : Hp), H p = none → Box H' p → Same H H' → Q (.ref p) H'
theorem ok_box {f g : Addr} {fd gd : FuncData} (F : Fun K "_law_box" "_law_box" sBox f fd) (D : Dd K mg "_law_cell" sCell ["script", "k"] g gd) (B : Blt mg) : FnOk P w K mg base CX0 2 f fd ["script", "k"] (spBox K) := by
  have G : FnOk P w K mg base CX0 1 g gd ["script", "k"] (spCell K) := ok_cell D.F B
  refine F.ok scBox (fun vs H Q E h => ?_) (fun cdv A outer s H vs Q E hr h => ?_)
  · obtain ⟨a, ns, k, rfl, _⟩ := h
    rfl
  · obtain ⟨a, ns, k, rfl, hS, hk, q⟩ := h
    refine ⟨_, pss_cons (ps_set (i := 2) scBox.nd rfl (.inl rfl) (pe_callTy call_int1 (by rfl) B.int PyProof.Rows.boot_int (pa_cons (pe_call G hr (by rfl) D.g D.F.kp D.b .nil pass0 (pa_cons (pv 0) (pa_cons (pv 1) pa_nil))) pa_nil)))
      (pss_cons (ps_set (i := 3) scBox.nd rfl (.inl rfl) pe_int)
      (C8.pss_cut (ps_if (pt_cmpR op_ge (pv 2) (pe_op op_pow pe_int pe_int) (nomark _)) (pss_one (ps_set (i := 3) scBox.nd rfl (.inl rfl) (pv 2))) pss_nil)
      (pss_one (ps_ret (pe_lst (pa_cons (pv 3) (pa_cons (pe_op op_mod (pe_callTy call_int1 (by rfl) B.int PyProof.Rows.boot_int (pa_cons (pv 2) pa_nil)) pe_int) (pa_cons (pe_op op_mod (pe_callTy call_int1 (by rfl) B.int PyProof.Rows.boot_int (pa_cons (pe_op op_fdiv (pv 2) pe_int) pa_nil)) pe_int) (pa_cons pe_int pa_nil))))))))), ?_⟩
    refine ⟨.ref a, rfl, .int (k : Int), rfl, a, ns, k, rfl, hS, hk, fun z H1 S1 => .inl ⟨z, rfl, ?_⟩⟩
    refine ⟨fun σ' H' => ∃ r : Int, 0 ≤ r ∧ σ' = [some (.ref a), some (.int (k : Int)), some (.int z), some (.int r)] ∧ H' = H1, ?_, ?_⟩
    · refine ⟨.int z, rfl, 10, 18, rfl, rfl, ⟨by decide, by decide, by decide⟩, z, _, rfl, rfl, _, rfl, ite2 (fun e => ?_) (fun e => ?_)⟩
      · have h1 : (10 : Int) ^ (18 : Int).toNat ≤ z := of_decide_eq_true e
        have h0 : (0 : Int) ≤ (10 : Int) ^ (18 : Int).toNat := by decide
        exact ⟨.int z, rfl, z, by omega, rfl, rfl⟩
      · exact (⟨0, by decide, rfl, rfl⟩ : ∃ r : Int, 0 ≤ r ∧ ([some (.ref a), some (.int (k : Int)), some (.int z), some (.int 0)] : L2.St) = [some (.ref a), some (.int (k : Int)), some (.int z), some (.int r)] ∧ H1 = H1)
    · rintro σ' H' ⟨r, r0, rfl, rfl⟩
      refine ⟨.int r, rfl, .int z, rfl, .inl ⟨z, rfl, z, MA, rfl, rfl, (by show (0 : Int) < MA; decide), .int z, rfl, z, 7, rfl, rfl, ⟨by decide, by decide⟩, .inl ⟨_, rfl, _, MB, rfl, rfl, (by show (0 : Int) < MB; decide), by show 4 ≤ sizeLine; decide, fun p np => ?_⟩⟩⟩
      refine q p _ (S1.free np) ⟨r, _, _, 0, upd_same, r0, Int.emod_nonneg _ (by decide), Int.emod_lt_of_pos _ (by decide), Int.emod_nonneg _ (by decide), Int.emod_lt_of_pos _ (by decide), by decide⟩ (S1.trans (same_upd np))
def spDraw : Sp := fun vs H Q _ => ∃ (p : Addr) (n : Int), vs = [.ref p, .int n] ∧ Box H p ∧ n < 2 ^ 60 ∧ ∀ (z : Int) (H' : Hp), 0 ≤ z → (z < n ∨ z = 0) → Box H' p → But p H H' → Q (.int z) H'
theorem ok_draw {f : Addr} {fd : FuncData} {k : Nat} (F : Fun K "_law_draw" "_law_draw" sDraw f fd) (B : Blt mg) : FnOk P w K mg base CX0 (k + 1) f fd ["box", "size"] spDraw := by
  refine F.ok scDraw (fun vs H Q E h => ?_) (fun cdv A outer s H vs Q E hr h => ?_)
  · obtain ⟨p, n, rfl, _⟩ := h
    rfl
  · obtain ⟨p, n, rfl, hB, hn, q⟩ := h
    obtain ⟨r, a, b, c, hp, r0, a0, a1, b0, b1, c0⟩ := id hB
    refine ⟨_, pss_cons (ps_if (pt_cmpR op_lt (pv 1) pe_int (nomark _)) (pss_one (ps_ret pe_int)) pss_nil)
      (pss_cons (ps_if (pt_cmpR op_gt (pe_ix ix_list (pv 0) pe_int (fun _ _ => rfl)) pe_int (nomark _))
        (pss_cons (ps_set (i := 2) scDraw.nd rfl (.inl rfl) (pe_op op_mod (pe_callTy call_int1 (by rfl) B.int PyProof.Rows.boot_int (pa_cons (pe_ix ix_list (pv 0) pe_int (fun _ _ => rfl)) pa_nil)) (pv 1)))
        (pss_cons (ps_asg (pe_op op_fdivW (pe_ix ix_list (pv 0) pe_int (fun _ _ => rfl)) (pv 1)) (pg_sub (pv 0) pe_int set_list))
        (pss_one (ps_ret (pv 2))))) pss_nil)
      (pss_cons (ps_asg (pe_op op_add (pe_ix ix_list (pv 0) pe_int (fun _ _ => rfl)) pe_int) (pg_sub (pv 0) pe_int set_list))
      (pss_cons (ps_asg (pe_op op_mod (pe_callTy call_int1 (by rfl) B.int PyProof.Rows.boot_int (pa_cons (pe_op op_add (pe_op op_add (pe_op op_mul (pe_ix ix_list (pv 0) pe_int (fun _ _ => rfl)) pe_int) (pe_op op_mul (pe_ix ix_list (pv 0) pe_int (fun _ _ => rfl)) pe_int)) pe_int) pa_nil)) pe_int) (pg_sub (pv 0) pe_int set_list))
      (pss_cons (ps_asg (pe_op op_mod (pe_callTy call_int1 (by rfl) B.int PyProof.Rows.boot_int (pa_cons (pe_op op_add (pe_op op_add (pe_op op_mul (pe_ix ix_list (pv 0) pe_int (fun _ _ => rfl)) pe_int) (pe_op op_fdiv (pe_ix ix_list (pv 0) pe_int (fun _ _ => rfl)) pe_int)) (pe_ix ix_list (pv 0) pe_int (fun _ _ => rfl))) pa_nil)) pe_int) (pg_sub (pv 0) pe_int set_list))
      (pss_one (ps_ret (pe_op op_mod (pe_callTy call_int1 (by rfl) B.int PyProof.Rows.boot_int (pa_cons (pe_op op_add (pe_ix ix_list (pv 0) pe_int (fun _ _ => rfl)) (pe_ix ix_list (pv 0) pe_int (fun _ _ => rfl))) pa_nil)) (pv 1)))))))), ?_⟩
    refine ⟨.int n, rfl, n, 2, rfl, rfl, _, rfl, ite2 (fun e1 => ?_) (fun e1 => ?_)⟩
    · exact q 0 H (by decide) (.inr rfl) hB (But.refl _ _)
    have n2 : ¬ n < 2 := fun z => e1 (decide_eq_true z)
    have hn9 : n.natAbs < 2 ^ 61 := by omega
    refine ⟨.ref p, rfl, p, _, 0, .int r, rfl, rfl, sqOf hp, atI_nat (j := 0) rfl, r, 0, rfl, rfl, _, rfl, ite2 (fun e2 => ?_) (fun e2 => ?_)⟩
    · refine ⟨.ref p, rfl, p, _, 0, .int r, rfl, rfl, sqOf hp, atI_nat (j := 0) rfl, .inl ⟨_, rfl, .int n, rfl, _, _, rfl, rfl, (by show (0 : Int) < n; omega), ?_⟩⟩
      refine ⟨.ref p, rfl, p, _, 0, .int r, rfl, rfl, sqOf hp, atI_nat (j := 0) rfl, .int n, rfl, r, n, rfl, rfl, wide_div (by omega) hn9 (by decide) (by decide), .ref p, rfl, p, _, 0, 0, rfl, rfl, hp, rfl, ?_⟩
      exact ⟨_, rfl, q _ _ (Int.emod_nonneg _ (by omega)) (.inl (Int.emod_lt_of_pos _ (by omega))) ⟨r / n, a, b, c, upd_same, Int.ediv_nonneg r0 (by omega), a0, a1, b0, b1, c0⟩ But.upd⟩
    · have hp' : ∀ H xs, (upd H p (.lst xs)) p = some (.lst xs) := fun H xs => upd_same
      refine ⟨.ref p, rfl, p, _, 3, .int c, rfl, rfl, sqOf hp, atI_nat (j := 3) rfl, c, 1, rfl, rfl, .ref p, rfl, p, _, 3, 3, rfl, rfl, hp, rfl, ?_⟩
      refine ⟨.ref p, rfl, p, _, 1, .int a, rfl, rfl, sqOf (hp' _ _), atI_nat (j := 1) rfl, a, 48271, rfl, rfl, .inr ⟨by decide, by decide⟩, .ref p, rfl, p, _, 3, .int (c + 1), rfl, rfl, sqOf (hp' _ _), atI_nat (j := 3) rfl, c + 1, 7919, rfl, rfl, .inr ⟨by decide, by decide⟩, _, _, rfl, rfl, _, _, rfl, rfl, .inl ⟨_, rfl, _, MA, rfl, rfl, (by show (0 : Int) < MA; decide), .ref p, rfl, p, _, 1, 1, rfl, rfl, hp' _ _, rfl, ?_⟩⟩
      refine ⟨.ref p, rfl, p, _, 2, .int b, rfl, rfl, sqOf (hp' _ _), atI_nat (j := 2) rfl, b, 40692, rfl, rfl, .inr ⟨by decide, by decide⟩, .ref p, rfl, p, _, 1, _, rfl, rfl, sqOf (hp' _ _), atI_nat (j := 1) rfl, _, 5, rfl, rfl, ⟨by decide, by decide⟩, _, _, rfl, rfl, .ref p, rfl, p, _, 3, .int (c + 1), rfl, rfl, sqOf (hp' _ _), atI_nat (j := 3) rfl, _, _, rfl, rfl, .inl ⟨_, rfl, _, MB, rfl, rfl, (by show (0 : Int) < MB; decide), .ref p, rfl, p, _, 2, 2, rfl, rfl, hp' _ _, rfl, ?_⟩⟩
      refine ⟨.ref p, rfl, p, _, 1, _, rfl, rfl, sqOf (hp' _ _), atI_nat (j := 1) rfl, .ref p, rfl, p, _, 2, _, rfl, rfl, sqOf (hp' _ _), atI_nat (j := 2) rfl, _, _, rfl, rfl, .inl ⟨_, rfl, .int n, rfl, _, _, rfl, rfl, (by show (0 : Int) < n; omega), ?_⟩⟩
      exact q _ _ (Int.emod_nonneg _ (by omega)) (.inl (Int.emod_lt_of_pos _ (by omega))) ⟨r, _, _, c + 1, upd_same, r0, Int.emod_nonneg _ (by decide), Int.emod_lt_of_pos _ (by decide), Int.emod_nonneg _ (by decide), Int.emod_lt_of_pos _ (by decide), by omega⟩ ((But.upd.trans But.upd).trans But.upd)
end
end Tb
namespace Tb
open PySem PySem.Spec PyProof.Rows L2
abbrev sDigits : Stmt := topS 24
abbrev NDigits : List Str := ["box", "size", "text", "k"]
theorem scDigits : FnScope NDigits ["box", "size"] (defScope sDigits) := ⟨rfl, rfl, rfl, by decide +kernel, rfl, by decide +kernel, by decide +kernel⟩
abbrev sName : Stmt := topS 25
abbrev NName : List Str := ["box", "text", "k"]
theorem scName : FnScope NName ["box"] (defScope sName) := ⟨rfl, rfl, rfl, by decide +kernel, rfl, by decide +kernel, by decide +kernel⟩
abbrev sLands : Stmt := topS 26
abbrev NLands : List Str := ["box", "way", "first"]
theorem scLands : FnScope NLands ["box"] (defScope sLands) := ⟨rfl, rfl, rfl, by decide +kernel, rfl, by decide +kernel, by decide +kernel⟩
abbrev sPrefix : Stmt := topS 27
abbrev NPrefix : List Str := ["box", "stem", "way"]
theorem scPrefix : FnScope NPrefix ["box", "stem"] (defScope sPrefix) := ⟨rfl, rfl, rfl, by decide +kernel, rfl, by decide +kernel, by decide +kernel⟩
abbrev sPrice : Stmt := topS 28
abbrev NPrice : List Str := ["box", "way"]
theorem scPrice : FnScope NPrice ["box"] (defScope sPrice) := ⟨rfl, rfl, rfl, by decide +kernel, rfl, by decide +kernel, by decide +kernel⟩
theorem sign_in {s : Str} {n c : Nat} (h : s.cps[n]? = some c) : isIn s c = true := decide_eq_true (by
  rw [Array.mem_toList_iff]
  exact Array.mem_of_getElem? h)
theorem lt_len : (letters.length : Int) = 26 := by decide +kernel
def DgT (z : Str) : Prop := ∀ d ∈ tl z, isIn digits d = true
theorem dg_snoc {z : Str} {c : Nat} (h : DgT z) (hc : isIn digits c = true) : DgT (z ++ ⟨#[c]⟩) := fun d hd => by
  rw [tl_app, tl_one, List.mem_append] at hd
  rcases hd with hd | hd
  · exact h d hd
  · rw [List.mem_singleton.mp hd]
    exact hc
/-! all but lists that begin with an int stays -/
def IntL (o : HO) : Prop := ∃ i xs, o = .lst (.int i :: xs)
def Kp (H H' : Hp) : Prop := ∀ b o, H b = some o → ¬ IntL o → H' b = some o
theorem Kp.refl (H : Hp) : Kp H H := fun _ _ h _ => h
theorem Kp.trans {H H1 H2 : Hp} (a : Kp H H1) (b : Kp H1 H2) : Kp H H2 := fun c o h n => b c o (a c o h n) n
theorem Same.kp {H H' : Hp} (h : Same H H') : Kp H H' := fun b o e _ => h b o e
theorem Box.intl {H : Hp} {p : Addr} (B : Box H p) {o : HO} (h : H p = some o) : IntL o := by
  obtain ⟨r, a, b, c, hp, _⟩ := B
  rw [hp] at h
  cases h
  exact ⟨_, _, rfl⟩
theorem But.kp {H H' : Hp} {p : Addr} (B : Box H p) (h : But p H H') : Kp H H' := fun b o e n => h b o e fun z => n (B.intl (z ▸ e))
theorem ni_tup (xs : List V) : ¬ IntL (.tup xs) := fun ⟨_, _, e⟩ => by cases e
theorem ni_strs (ks : List Str) : ¬ IntL (.lst (ks.map V.str)) := fun ⟨_, _, e⟩ => by
  cases ks <;> cases e
theorem ni_refs (as : List Addr) : ¬ IntL (.lst (as.map V.ref)) := fun ⟨_, _, e⟩ => by
  cases as <;> cases e
theorem ni_ins {C dx : Addr} {fs : List (Str × V)} : ¬ IntL (.ins C dx fs) := fun ⟨_, _, e⟩ => by cases e
theorem Box.ne {H : Hp} {p b : Addr} {o : HO} (B : Box H p) (h : H b = some o) (n : ¬ IntL o) : b ≠ p := fun e => n (B.intl (e ▸ h))
theorem strs_at {ks : List Str} {i : Nat} (h : i < ks.length) : (ks.map V.str)[i]? = some (.str ks[i]) := by
  rw [List.getElem?_map, List.getElem?_eq_getElem h]
  rfl
theorem tl_butlast (z : Str) (h : 1 ≤ z.length) : tl (cutS z none (some (-1))) = (tl z).take ((tl z).length - 1) := by
  show ((z.cps.toList.drop (HT.sIx z.length 0 none)).take (HT.sIx z.length z.length (some (-1)) - HT.sIx z.length 0 none)).toArray.toList = _
  have e : HT.sIx z.length z.length (some (-1)) = z.length - 1 := by
    unfold HT.sIx
    first
      | omega
      | (simp; omega)
      | (split <;> omega)
  rw [List.toList_toArray, e, HT.sIx_none, List.drop_zero, Nat.sub_zero, len_tl]
section
variable {P : Program} {w : World} {K : PySem.W.Frag} {mg : Str → Option Value} {base : Heap}
abbrev CDraw (P : Program) (w : World) (K : PySem.W.Frag) (mg : Str → Option Value) (base : Heap) (g : Addr) (gd : FuncData) := C1 P w K mg base "_law_draw" sDraw ["box", "size"] 1 spDraw g gd
def spDigits : Sp := fun vs H Q _ => ∃ (p : Addr) (n : Nat), vs = [.ref p, .int (n : Int)] ∧ Box H p ∧ n ≤ 8 ∧ ∀ (z : Str) (H' : Hp), z.length = n → DgT z → Box H' p → But p H H' → Q (.str z) H'
theorem ok_digits {f g : Addr} {fd gd : FuncData} (F : Fun K "_law_digits" "_law_digits" sDigits f fd) (cDraw : CDraw P w K mg base g gd) (B : Blt mg) : FnOk P w K mg base CX0 2 f fd ["box", "size"] spDigits := by
  refine F.ok scDigits (fun vs H Q E h => ?_) (fun cdv A outer s H vs Q E hr h => ?_)
  · obtain ⟨p, n, rfl, _⟩ := h
    rfl
  · obtain ⟨p, n, rfl, hB, hn, q⟩ := h
    refine ⟨_, (pss_cons (ps_set (i := 2) scDigits.nd rfl (.inl rfl) pe_str)
      (pss_cons (ps_for PassesOwn.never rfl (pi_range1 (by rfl) B.range (pa_cons (pv 1) pa_nil)) (pg_name (i := 3) scDigits.nd rfl (.inl rfl))
        (pss_one (ps_set (i := 2) scDigits.nd rfl (.inl rfl) (pe_op op_add_str (pv 2) (pe_item_str pe_str (pe_call cDraw.G (hr.mono (by first | decide | omega)) (by rfl) cDraw.D.g cDraw.D.F.kp cDraw.D.b .nil pass0 (pa_cons (pv 0) (pa_cons pe_int pa_nil))) (fun _ _ => rfl))))))
      (pss_one (ps_ret (pv 2))))), ?_⟩
    have hz : sizeLine = 16777216 := rfl
    refine ⟨.int (n : Int), rfl, n, rfl, by omega, by omega, ?_⟩
    refine for_range (lo := 0) (n := (n : Int).toNat) (fun i σ H1 => ∃ z y3, σ = [some (.ref p), some (.int (n : Int)), some (.str z), y3] ∧ Box H1 p ∧ But p H H1 ∧ z.length = i ∧ DgT z) ⟨Str.ofString "", none, rfl, hB, But.refl _ _, by decide +kernel, fun d hd => by cases hd⟩ ?_ ?_
    · rintro i σ H1 hi ⟨z, y3, rfl, B1, b1, hl, hd⟩
      refine ⟨.str z, rfl, .ref p, rfl, p, 10, rfl, B1, by decide, fun v H2 v0 v1 B2 b2 => ?_⟩
      have dl := dg_len
      obtain ⟨c, e⟩ := at_sign (z := digits) (i := v) (by omega) v0
      refine ⟨digits, v, c, rfl, rfl, v0, by omega, by omega, e, _, _, rfl, rfl, by rw [one_len]; omega, ?_⟩
      exact ⟨_, _, rfl, B2, b1.trans b2, by rw [app_len, hl, one_len], dg_snoc hd (dg_any e)⟩
    · rintro σ H1 ⟨z, y3, rfl, B1, b1, hl, hd⟩
      exact ⟨.str z, rfl, q z H1 (by omega) hd B1 b1⟩
def spName : Sp := fun vs H Q _ => ∃ (p : Addr), vs = [.ref p] ∧ Box H p ∧ ∀ (z : Str) (H' : Hp), Nm (tl z) → Box H' p → But p H H' → Q (.str z) H'
theorem nm_one {c : Nat} (h : isIn letters c = true) (h2 : isIn (letters ++ digits) c = true) : Nm [c] := ⟨by show 1 ≤ 12; decide, fun d hd => by rw [List.mem_singleton.mp hd]; exact h2, c, rfl, h⟩
theorem lt_ld {c : Nat} (h : isIn letters c = true) : isIn (letters ++ digits) c = true := decide_eq_true (by
  show c ∈ tl (letters ++ digits)
  rw [tl_app, List.mem_append]
  exact .inl (of_decide_eq_true h))
theorem ok_name {f g : Addr} {fd gd : FuncData} (F : Fun K "_law_name" "_law_name" sName f fd) (cDraw : CDraw P w K mg base g gd) (B : Blt mg) : FnOk P w K mg base CX0 2 f fd ["box"] spName := by
  refine F.ok scName (fun vs H Q E h => ?_) (fun cdv A outer s H vs Q E hr h => ?_)
  · obtain ⟨p, rfl, _⟩ := h
    rfl
  · obtain ⟨p, rfl, hB, q⟩ := h
    refine ⟨_, (pss_cons (ps_set (i := 1) scName.nd rfl (.inl rfl) (pe_item_str pe_str (pe_call cDraw.G (hr.mono (by first | decide | omega)) (by rfl) cDraw.D.g cDraw.D.F.kp cDraw.D.b .nil pass0 (pa_cons (pv 0) (pa_cons pe_int pa_nil))) (fun _ _ => rfl)))
      (pss_cons (ps_for PassesOwn.never rfl (pi_range1 (by rfl) B.range (pa_cons (pe_call cDraw.G (hr.mono (by first | decide | omega)) (by rfl) cDraw.D.g cDraw.D.F.kp cDraw.D.b .nil pass0 (pa_cons (pv 0) (pa_cons pe_int pa_nil))) pa_nil)) (pg_name (i := 2) scName.nd rfl (.inl rfl))
        (pss_one (ps_set (i := 1) scName.nd rfl (.inl rfl) (pe_op op_add_str (pv 1) (pe_item_str pe_str (pe_call cDraw.G (hr.mono (by first | decide | omega)) (by rfl) cDraw.D.g cDraw.D.F.kp cDraw.D.b .nil pass0 (pa_cons (pv 0) (pa_cons pe_int pa_nil))) (fun _ _ => rfl))))))
      (pss_one (ps_ret (pv 1))))), ?_⟩
    have hz : sizeLine = 16777216 := rfl
    have ll := lt_len
    have dl := ld_len
    refine ⟨.ref p, rfl, p, 26, rfl, hB, by decide, fun v H1 v0 v1 B1 b1 => ?_⟩
    obtain ⟨c, e⟩ := at_sign (z := letters) (i := v) (by omega) v0
    refine ⟨letters, v, c, rfl, rfl, v0, by omega, by omega, e, ?_⟩
    refine ⟨.ref p, rfl, p, 12, rfl, B1, by decide, fun n H2 n0 n1 B2 b2 => ⟨n, rfl, by omega, by omega, ?_⟩⟩
    refine for_range (lo := 0) (n := n.toNat) (fun i σ H3 => ∃ z y2, σ = [some (.ref p), some (.str z), y2] ∧ Box H3 p ∧ But p H H3 ∧ z.length = i + 1 ∧ Nm (tl z)) ⟨_, none, rfl, B2, b1.trans b2, rfl, nm_one (sign_in e) (lt_ld (sign_in e))⟩ ?_ ?_
    · rintro i σ H3 hi ⟨z, y2, rfl, B3, b3, hl, hm⟩
      refine ⟨.str z, rfl, .ref p, rfl, p, 36, rfl, B3, by decide, fun u H4 u0 u1 B4 b4 => ?_⟩
      obtain ⟨d, e2⟩ := at_sign (z := LD) (i := u) (by omega) u0
      refine ⟨LD, u, d, rfl, rfl, u0, by omega, by omega, e2, _, _, rfl, rfl, by rw [one_len]; omega, ?_⟩
      refine ⟨_, _, rfl, B4, b3.trans b4, by rw [app_len, hl, one_len], ?_⟩
      rw [tl_app, tl_one]
      refine nm_app hm (fun x hx => ?_) ?_
      · rw [List.mem_singleton.mp hx]
        exact ld_any e2
      · rw [← len_tl, hl]
        show i + 1 + 1 ≤ 12
        omega
    · rintro σ H3 ⟨z, y2, rfl, B3, b3, hl, hm⟩
      exact ⟨.str z, rfl, q z H3 hm B3 b3⟩
abbrev CDigits (P : Program) (w : World) (K : PySem.W.Frag) (mg : Str → Option Value) (base : Heap) (g : Addr) (gd : FuncData) := C1 P w K mg base "_law_digits" sDigits ["box", "size"] 2 spDigits g gd
abbrev CName (P : Program) (w : World) (K : PySem.W.Frag) (mg : Str → Option Value) (base : Heap) (g : Addr) (gd : FuncData) := C1 P w K mg base "_law_name" sName ["box"] 2 spName g gd
/-- the three lands -/
structure Lns (H : Hp) (l : Addr) (ks : List Str) : Prop where
  l : H l = some (.lst (ks.map V.str))
  n : ks.length = 3
  d : ∀ x ∈ ks, Nm (tl x)
theorem Lns.kp {H H' : Hp} {l : Addr} {ks : List Str} (L : Lns H l ks) (h : Kp H H') : Lns H' l ks := ⟨h _ _ L.l (ni_strs ks), L.n, L.d⟩
def spLands : Sp := fun vs H Q _ => ∃ (p : Addr), vs = [.ref p] ∧ Box H p ∧ ∀ (l : Addr) (ks : List Str) (H' : Hp), Lns H' l ks → Box H' p → But p H H' → Q (.ref l) H'
theorem box_new {H : Hp} {p D : Addr} {o : HO} (B : Box H p) (h : H D = none) : Box (upd H D o) p ∧ But p H (upd H D o) := ⟨B.same (same_upd h), Same.but (same_upd h)⟩
theorem nm_a : Nm (tl ("a" : Str)) ∧ Nm (tl ("b" : Str)) ∧ Nm (tl ("c" : Str)) ∧ Nm (tl ("a0" : Str)) ∧ Nm (tl ("aa" : Str)) := by
  refine ⟨(isName_iff _).mp ?_, (isName_iff _).mp ?_, (isName_iff _).mp ?_, (isName_iff _).mp ?_, (isName_iff _).mp ?_⟩ <;> decide +kernel
theorem mem3 {x a b c : Str} {p : Str → Prop} (h : x ∈ [a, b, c]) (pa : p a) (pb : p b) (pc : p c) : p x := by
  rcases List.mem_cons.mp h with rfl | h
  · exact pa
  rcases List.mem_cons.mp h with rfl | h
  · exact pb
  · rw [List.mem_singleton.mp h]; exact pc
theorem ok_lands {f g g2 : Addr} {fd gd gd2 : FuncData} (F : Fun K "_law_lands" "_law_lands" sLands f fd) (cDraw : CDraw P w K mg base g gd) (cName : CName P w K mg base g2 gd2) : FnOk P w K mg base CX0 3 f fd ["box"] spLands := by
  refine F.ok scLands (fun vs H Q E h => ?_) (fun cdv A outer s H vs Q E hr h => ?_)
  · obtain ⟨p, rfl, _⟩ := h
    rfl
  · obtain ⟨p, rfl, hB, q⟩ := h
    refine ⟨_, (pss_cons (ps_set (i := 1) scLands.nd rfl (.inl rfl) (pe_call cDraw.G (hr.mono (by first | decide | omega)) (by rfl) cDraw.D.g cDraw.D.F.kp cDraw.D.b .nil pass0 (pa_cons (pv 0) (pa_cons pe_int pa_nil))))
      (pss_cons (ps_set (i := 2) scLands.nd rfl (.inl rfl) (pe_call cName.G (hr.mono (by first | decide | omega)) (by rfl) cName.D.g cName.D.F.kp cName.D.b .nil pass0 (pa_cons (pv 0) pa_nil)))
      (pss_cons (ps_if (pt_cmpR op_eq (pv 1) pe_int (nomark _))
        (pss_one (ps_ret (pe_lst (pa_cons pe_str (pa_cons pe_str (pa_cons pe_str pa_nil))))))
        pss_nil)
      (pss_cons (ps_if (pt_cmpR op_eq (pv 1) pe_int (nomark _))
        (pss_one (ps_ret (pe_lst (pa_cons (pv 2) (pa_cons (pe_call cName.G (hr.mono (by first | decide | omega)) (by rfl) cName.D.g cName.D.F.kp cName.D.b .nil pass0 (pa_cons (pv 0) pa_nil)) (pa_cons pe_str pa_nil))))))
        pss_nil)
      (pss_cons (ps_if (pt_cmpR op_eq (pv 1) pe_int (nomark _))
        (pss_one (ps_ret (pe_lst (pa_cons (pv 2) (pa_cons (pe_op op_add_str (pe_slice sl_str (pv 2) po_none (po_some pe_int)) (pe_item_str pe_str (pe_call cDraw.G (hr.mono (by first | decide | omega)) (by rfl) cDraw.D.g cDraw.D.F.kp cDraw.D.b .nil pass0 (pa_cons (pv 0) (pa_cons pe_int pa_nil))) (fun _ _ => rfl))) (pa_cons pe_str pa_nil))))))
        pss_nil)
      (pss_one (ps_ret (pe_lst (pa_cons pe_str (pa_cons pe_str (pa_cons pe_str pa_nil))))))))))), ?_⟩
    have hz : sizeLine = 16777216 := rfl
    obtain ⟨na, nb, nc, n0, naa⟩ := nm_a
    refine ⟨.ref p, rfl, p, 4, rfl, hB, by decide, fun v H1 v0 v1 B1 b1 => ?_⟩
    refine ⟨.ref p, rfl, p, rfl, B1, fun x H2 mx B2 b2 => ?_⟩
    have b12 := b1.trans b2
    refine ⟨.int v, rfl, rfl, _, rfl, ite2 (fun _ => ?_) (fun _ => ?_)⟩
    · refine ⟨by show 3 ≤ sizeLine; omega, fun D nD => ?_⟩
      have bn := box_new (o := .lst ((["a", "b", "c"] : List Str).map V.str)) B2 nD
      exact q D ["a", "b", "c"] _ ⟨upd_same, rfl, fun y hy => mem3 (p := fun y => Nm (tl y)) hy na nb nc⟩ bn.1 (b12.trans bn.2)
    refine ⟨.int v, rfl, rfl, _, rfl, ite2 (fun _ => ?_) (fun _ => ?_)⟩
    · refine ⟨.str x, rfl, .ref p, rfl, p, rfl, B2, fun y H3 my B3 b3 => ?_⟩
      refine ⟨by show 3 ≤ sizeLine; omega, fun D nD => ?_⟩
      have bn := box_new (o := .lst ([x, y, "a"].map V.str)) B3 nD
      exact q D [x, y, "a"] _ ⟨upd_same, rfl, fun z hy => mem3 (p := fun y => Nm (tl y)) hy mx my na⟩ bn.1 ((b12.trans b3).trans bn.2)
    refine ⟨.int v, rfl, rfl, _, rfl, ite2 (fun _ => ?_) (fun _ => ?_)⟩
    · have lk : x.length ≤ 12 := by rw [len_tl]; exact mx.1
      refine ⟨.str x, rfl, .str x, rfl, 11, rfl, x, rfl, by omega, .ref p, rfl, p, 36, rfl, B2, by decide, fun u H3 u0 u1 B3 b3 => ?_⟩
      have dl := ld_len
      obtain ⟨d, e2⟩ := at_sign (z := LD) (i := u) (by omega) u0
      have ec : tl (cutS x none (some (11 : Int))) = (tl x).take 11 := tl_hi x 11
      have lc : (cutS x none (some (11 : Int))).length ≤ 11 := by rw [len_tl, ec, List.length_take]; omega
      refine ⟨LD, u, d, rfl, rfl, u0, by omega, by omega, e2, _, _, rfl, rfl, by rw [one_len]; omega, by show 3 ≤ sizeLine; omega, fun D nD => ?_⟩
      have bn := box_new (o := .lst ([x, cutS x none (some (11 : Int)) ++ ⟨#[d]⟩, "b"].map V.str)) B3 nD
      refine q D [x, cutS x none (some (11 : Int)) ++ ⟨#[d]⟩, "b"] _ ⟨upd_same, rfl, fun z hy => mem3 (p := fun y => Nm (tl y)) hy mx ?_ nb⟩ bn.1 ((b12.trans b3).trans bn.2)
      rw [tl_app, ec, tl_one]
      refine nm_app (nm_take mx (by decide)) (fun y hy => ?_) ?_
      · rw [List.mem_singleton.mp hy]; exact ld_any e2
      · rw [List.length_take]; show min 11 _ + 1 ≤ 12; omega
    · refine ⟨by show 3 ≤ sizeLine; omega, fun D nD => ?_⟩
      have bn := box_new (o := .lst ((["a", "a0", "aa"] : List Str).map V.str)) B2 nD
      exact q D ["a", "a0", "aa"] _ ⟨upd_same, rfl, fun y hy => mem3 (p := fun y => Nm (tl y)) hy na n0 naa⟩ bn.1 (b12.trans bn.2)
/-- a stem: eight digits -/
def Stem (z : Str) : Prop := z.length = 8 ∧ DgT z
theorem stem_cut {z : Str} (h : Stem z) {k : Nat} : (∀ d ∈ tl (cutS z none (some (k : Int))), isIn digits d = true) ∧ (cutS z none (some (k : Int))).length = min k 8 := by
  have l := h.1
  rw [len_tl] at l
  refine ⟨fun d hd => ?_, by rw [len_tl, tl_hi, List.length_take, l]⟩
  rw [tl_hi] at hd
  exact h.2 d (List.mem_of_mem_take hd)
theorem stem_ad {z : Str} (h : Stem z) {k : Int} (h0 : 1 ≤ k) : isAddr (cutS z none (some k)) = true := by
  obtain ⟨n, rfl⟩ : ∃ n : Nat, k = (n : Int) := ⟨k.toNat, by omega⟩
  have c := stem_cut h (k := n)
  refine (isAddr_iff _).mpr ⟨?_, ?_, c.1⟩
  · rw [← len_tl, c.2]; omega
  · rw [← len_tl, c.2]; omega
def spPrefix : Sp := fun vs H Q _ => ∃ (p : Addr) (z : Str), vs = [.ref p, .str z] ∧ Box H p ∧ Stem z ∧ ∀ (x : Str) (H' : Hp), isAddr x = true → Box H' p → But p H H' → Q (.str x) H'
theorem ok_prefix {f g g2 : Addr} {fd gd gd2 : FuncData} (F : Fun K "_law_prefix" "_law_prefix" sPrefix f fd) (cDraw : CDraw P w K mg base g gd) (cDigits : CDigits P w K mg base g2 gd2) : FnOk P w K mg base CX0 3 f fd ["box", "stem"] spPrefix := by
  refine F.ok scPrefix (fun vs H Q E h => ?_) (fun cdv A outer s H vs Q E hr h => ?_)
  · obtain ⟨p, z, rfl, _⟩ := h
    rfl
  · obtain ⟨p, z, rfl, hB, hS, q⟩ := h
    refine ⟨_, (pss_cons (ps_set (i := 2) scPrefix.nd rfl (.inl rfl) (pe_call cDraw.G (hr.mono (by first | decide | omega)) (by rfl) cDraw.D.g cDraw.D.F.kp cDraw.D.b .nil pass0 (pa_cons (pv 0) (pa_cons pe_int pa_nil))))
      (pss_cons (ps_if (pt_cmpR op_lt (pv 2) pe_int (nomark _))
        (pss_one (ps_ret (pe_slice sl_str (pv 1) po_none (po_some (pe_op op_add pe_int (pe_call cDraw.G (hr.mono (by first | decide | omega)) (by rfl) cDraw.D.g cDraw.D.F.kp cDraw.D.b .nil pass0 (pa_cons (pv 0) (pa_cons pe_int pa_nil))))))))
        pss_nil)
      (pss_cons (ps_if (pt_cmpR op_eq (pv 2) pe_int (nomark _))
        (pss_one (ps_ret (pe_op op_add_str (pe_slice sl_str (pv 1) po_none (po_some (pe_call cDraw.G (hr.mono (by first | decide | omega)) (by rfl) cDraw.D.g cDraw.D.F.kp cDraw.D.b .nil pass0 (pa_cons (pv 0) (pa_cons pe_int pa_nil))))) (pe_item_str pe_str (pe_call cDraw.G (hr.mono (by first | decide | omega)) (by rfl) cDraw.D.g cDraw.D.F.kp cDraw.D.b .nil pass0 (pa_cons (pv 0) (pa_cons pe_int pa_nil))) (fun _ _ => rfl)))))
        pss_nil)
      (pss_cons (ps_if (pt_cmpR op_eq (pe_call cDraw.G (hr.mono (by first | decide | omega)) (by rfl) cDraw.D.g cDraw.D.F.kp cDraw.D.b .nil pass0 (pa_cons (pv 0) (pa_cons pe_int pa_nil))) pe_int (nomark _))
        (pss_one (ps_ret (pe_slice sl_str (pv 1) po_none (po_some (pe_op op_add pe_int (pe_call cDraw.G (hr.mono (by first | decide | omega)) (by rfl) cDraw.D.g cDraw.D.F.kp cDraw.D.b .nil pass0 (pa_cons (pv 0) (pa_cons pe_int pa_nil))))))))
        pss_nil)
      (pss_one (ps_ret (pe_call cDigits.G (hr.mono (by first | decide | omega)) (by rfl) cDigits.D.g cDigits.D.F.kp cDigits.D.b .nil pass0 (pa_cons (pv 0) (pa_cons (pe_op op_add pe_int (pe_call cDraw.G (hr.mono (by first | decide | omega)) (by rfl) cDraw.D.g cDraw.D.F.kp cDraw.D.b .nil pass0 (pa_cons (pv 0) (pa_cons pe_int pa_nil)))) pa_nil))))))))), ?_⟩
    have hz : sizeLine = 16777216 := rfl
    have zl := hS.1
    refine ⟨.ref p, rfl, p, 4, rfl, hB, by decide, fun v H1 v0 v1 B1 b1 => ?_⟩
    refine ⟨.int v, rfl, v, 2, rfl, rfl, _, rfl, ite2 (fun _ => ?_) (fun _ => ?_)⟩
    · refine ⟨.str z, rfl, .ref p, rfl, p, 3, rfl, B1, by decide, fun u H2 u0 u1 B2 b2 => ⟨1, u, rfl, rfl, _, rfl, z, rfl, by omega, ?_⟩⟩
      exact q _ H2 (stem_ad hS (by omega)) B2 (b1.trans b2)
    refine ⟨.int v, rfl, rfl, _, rfl, ite2 (fun _ => ?_) (fun _ => ?_)⟩
    · refine ⟨.str z, rfl, .ref p, rfl, p, 8, rfl, B1, by decide, fun u H2 u0 u1 B2 b2 => ⟨_, rfl, z, rfl, by omega, ?_⟩⟩
      refine ⟨.ref p, rfl, p, 10, rfl, B2, by decide, fun y H3 y0 y1 B3 b3 => ?_⟩
      have dl := dg_len
      obtain ⟨c, e⟩ := at_sign (z := digits) (i := y) (by omega) y0
      obtain ⟨n, rfl⟩ : ∃ n : Nat, u = (n : Int) := ⟨u.toNat, by omega⟩
      have sc := stem_cut hS (k := n)
      refine ⟨digits, y, c, rfl, rfl, y0, by omega, by omega, e, _, _, rfl, rfl, by rw [one_len]; omega, ?_⟩
      refine q _ H3 ((isAddr_iff _).mpr ⟨?_, ?_, fun d hd => ?_⟩) B3 ((b1.trans b2).trans b3)
      · rw [tl_app, tl_one, List.length_append]; exact Nat.le_add_left _ _
      · rw [tl_app, tl_one, List.length_append, ← len_tl, sc.2]; show min n 8 + 1 ≤ 8; omega
      · rw [tl_app, tl_one, List.mem_append] at hd
        rcases hd with hd | hd
        · exact sc.1 d hd
        · rw [List.mem_singleton.mp hd]; exact dg_any e
    refine ⟨.ref p, rfl, p, 2, rfl, B1, by decide, fun u H2 u0 u1 B2 b2 => ⟨rfl, _, rfl, ite2 (fun _ => ?_) (fun _ => ?_)⟩⟩
    · refine ⟨.str z, rfl, .ref p, rfl, p, 8, rfl, B2, by decide, fun y H3 y0 y1 B3 b3 => ⟨1, y, rfl, rfl, _, rfl, z, rfl, by omega, ?_⟩⟩
      exact q _ H3 (stem_ad hS (by omega)) B3 ((b1.trans b2).trans b3)
    · refine ⟨.ref p, rfl, .ref p, rfl, p, 8, rfl, B2, by decide, fun y H3 y0 y1 B3 b3 => ⟨1, y, rfl, rfl, ?_⟩⟩
      obtain ⟨n, hn⟩ : ∃ n : Nat, 1 + y = (n : Int) := ⟨(1 + y).toNat, by omega⟩
      refine ⟨p, n, by show [V.ref p, V.int (1 + y)] = [V.ref p, V.int (n : Int)]; rw [hn], B3, by omega, fun x H4 xl xd B4 b4 => ?_⟩
      refine q x H4 ((isAddr_iff _).mpr ⟨?_, ?_, xd⟩) B4 (((b1.trans b2).trans b3).trans b4)
      · rw [← len_tl]; omega
      · rw [← len_tl]; omega
def okP (x : Option Int) : Prop := ∀ i, x = some i → 0 ≤ i
def spPrice : Sp := fun vs H Q _ => ∃ (p : Addr), vs = [.ref p] ∧ Box H p ∧ ∀ (x : Option Int) (H' : Hp), okP x → Box H' p → But p H H' → Q (oI x) H'
theorem ok_price {f g : Addr} {fd gd : FuncData} (F : Fun K "_law_price" "_law_price" sPrice f fd) (cDraw : CDraw P w K mg base g gd) : FnOk P w K mg base CX0 2 f fd ["box"] spPrice := by
  refine F.ok scPrice (fun vs H Q E h => ?_) (fun cdv A outer s H vs Q E hr h => ?_)
  · obtain ⟨p, rfl, _⟩ := h
    rfl
  · obtain ⟨p, rfl, hB, q⟩ := h
    refine ⟨_, (pss_cons (ps_set (i := 1) scPrice.nd rfl (.inl rfl) (pe_call cDraw.G (hr.mono (by first | decide | omega)) (by rfl) cDraw.D.g cDraw.D.F.kp cDraw.D.b .nil pass0 (pa_cons (pv 0) (pa_cons pe_int pa_nil))))
      (pss_cons (ps_if (pt_cmpR op_lt (pv 1) pe_int (nomark _))
        (pss_one (ps_ret pe_non))
        pss_nil)
      (pss_cons (ps_if (pt_cmpR op_lt (pv 1) pe_int (nomark _))
        (pss_one (ps_ret (pe_call cDraw.G (hr.mono (by first | decide | omega)) (by rfl) cDraw.D.g cDraw.D.F.kp cDraw.D.b .nil pass0 (pa_cons (pv 0) (pa_cons pe_int pa_nil)))))
        pss_nil)
      (pss_one (ps_ret (pe_call cDraw.G (hr.mono (by first | decide | omega)) (by rfl) cDraw.D.g cDraw.D.F.kp cDraw.D.b .nil pass0 (pa_cons (pv 0) (pa_cons (pe_op op_pow pe_int pe_int) pa_nil)))))))), ?_⟩
    have to : ∀ i : Int, 0 ≤ i → okP (some i) := fun i h j e => by cases e; exact h
    refine ⟨.ref p, rfl, p, 6, rfl, hB, by decide, fun v H1 v0 v1 B1 b1 => ?_⟩
    refine ⟨.int v, rfl, v, 2, rfl, rfl, _, rfl, ite2 (fun _ => ?_) (fun _ => ?_)⟩
    · exact q none H1 nofun B1 b1
    refine ⟨.int v, rfl, v, 5, rfl, rfl, _, rfl, ite2 (fun _ => ?_) (fun _ => ?_)⟩
    · exact ⟨.ref p, rfl, p, 3, rfl, B1, by decide, fun u H2 u0 u1 B2 b2 => q (some u) H2 (to u u0) B2 (b1.trans b2)⟩
    · exact ⟨.ref p, rfl, 10, 12, rfl, rfl, ⟨by decide, by decide, by decide⟩, p, _, rfl, B1, by decide, fun u H2 u0 u1 B2 b2 => q (some u) H2 (to u u0) B2 (b1.trans b2)⟩
end
end Tb
namespace Tb
open PySem PySem.Spec PyProof.Rows L2
abbrev sAdded : Stmt := topS 29
abbrev NAdded : List Str := ["rows", "prefix", "land", "price", "row"]
theorem scAdded : FnScope NAdded ["rows", "prefix", "land", "price"] (defScope sAdded) := ⟨rfl, rfl, rfl, by decide +kernel, rfl, by decide +kernel, by decide +kernel⟩
abbrev sLRows : Stmt := topS 30
abbrev NLRows : List Str := ["box", "lands", "stem", "rows", "count", "k", "prefix", "land", "letter"]
theorem scLRows : FnScope NLRows ["box", "lands", "stem"] (defScope sLRows) := ⟨rfl, rfl, rfl, by decide +kernel, rfl, by decide +kernel, by decide +kernel⟩
/-- rows in a list -/
structure LR (H : Hp) (a : Addr) (bs : List (Addr × Rw)) : Prop where
  l : H a = some (.lst (bs.map fun b => V.ref b.1))
  t : ∀ b ∈ bs, H b.1 = some (.tup (rwV b.2))
theorem LR.same {H H' : Hp} {a : Addr} {bs : List (Addr × Rw)} (R : LR H a bs) (h : Same H H') : LR H' a bs := ⟨h _ _ R.l, fun b m => h _ _ (R.t b m)⟩
theorem ni_bs (bs : List (Addr × Rw)) : ¬ IntL (.lst (bs.map fun b => V.ref b.1)) := by
  have := ni_refs (bs.map (·.1))
  rwa [List.map_map] at this
theorem LR.kp {H H' : Hp} {a : Addr} {bs : List (Addr × Rw)} (R : LR H a bs) (h : Kp H H') : LR H' a bs := ⟨h _ _ R.l (ni_bs bs), fun b m => h _ _ (R.t b m) (ni_tup _)⟩
theorem LR.but {H H' : Hp} {p a : Addr} {bs : List (Addr × Rw)} (R : LR H a bs) (B : Box H p) (h : But p H H') : LR H' a bs := R.kp (But.kp B h)
/-- what a row must keep -/
def okR (r : Rw) : Prop := isAddr r.1.1 = true ∧ isLane r.1.2 = true ∧ okP r.2
def Gd (rs : List Rw) : Prop := (∀ r ∈ rs, okR r) ∧ (rs.map Prod.fst).Nodup
def addR (rs : List Rw) (r : Rw) : List Rw := if r.1 ∈ rs.map Prod.fst then rs else rs ++ [r]
theorem gd_add {rs : List Rw} {r : Rw} (h : Gd rs) (k : okR r) : Gd (addR rs r) := by
  unfold addR
  by_cases c : r.1 ∈ rs.map Prod.fst
  · rw [if_pos c]; exact h
  · rw [if_neg c]
    refine ⟨fun x hx => ?_, ?_⟩
    · rcases List.mem_append.mp hx with hx | hx
      · exact h.1 x hx
      · rw [List.mem_singleton.mp hx]; exact k
    · rw [List.map_append, List.nodup_append]
      refine ⟨h.2, by simp, fun a ha b hb e => ?_⟩
      have eb : b = r.1 := by simpa using hb
      rw [e, eb] at ha
      exact c ha
theorem len_add {rs : List Rw} {r : Rw} : (addR rs r).length ≤ rs.length + 1 := by
  unfold addR
  split
  · omega
  · rw [List.length_append]; exact Nat.le_refl _
def hitR (k : Pr) (b : Addr × Rw) : Bool := decide (b.2.1.1 = k.1) && decide (b.2.1.2 = k.2)
theorem hit_iff {k : Pr} {b : Addr × Rw} : hitR k b = true ↔ b.2.1 = k := by
  unfold hitR
  rw [Bool.and_eq_true, decide_eq_true_eq, decide_eq_true_eq]
  exact ⟨fun h => Prod.ext h.1 h.2, fun h => by rw [h]; exact ⟨rfl, rfl⟩⟩
theorem bs_at {bs : List (Addr × Rw)} {i : Nat} {v : V} (h : (bs.map fun b => V.ref b.1)[i]? = some v) : ∃ b, bs[i]? = some b ∧ v = .ref b.1 := by
  rw [List.getElem?_map] at h
  cases e : bs[i]? with
  | none => rw [e] at h; cases h
  | some b => rw [e] at h; cases h; exact ⟨b, rfl, rfl⟩
theorem take_snoc {α : Type} {xs : List α} {i : Nat} {x : α} (h : xs[i]? = some x) : xs.take (i + 1) = xs.take i ++ [x] := by
  rw [List.take_add_one, h]; rfl
section
variable {P : Program} {w : World} {K : PySem.W.Frag} {mg : Str → Option Value} {base : Heap}
abbrev CPrefix (P : Program) (w : World) (K : PySem.W.Frag) (mg : Str → Option Value) (base : Heap) (g : Addr) (gd : FuncData) := C1 P w K mg base "_law_prefix" sPrefix ["box", "stem"] 3 spPrefix g gd
abbrev CPrice (P : Program) (w : World) (K : PySem.W.Frag) (mg : Str → Option Value) (base : Heap) (g : Addr) (gd : FuncData) := C1 P w K mg base "_law_price" sPrice ["box"] 2 spPrice g gd
def spAdded : Sp := fun vs H Q _ => ∃ (a : Addr) (bs : List (Addr × Rw)) (r : Rw), vs = [.ref a, .str r.1.1, .str r.1.2, oI r.2] ∧ LR H a bs ∧ bs.length ≤ 900 ∧ ∀ (a' : Addr) (cs : List (Addr × Rw)) (H' : Hp), Same H H' → LR H' a' cs → cs.map (·.2) = addR (bs.map (·.2)) r → (a' = a ∨ H a' = none) → Q (.ref a') H'
theorem ok_added {f : Addr} {fd : FuncData} {k : Nat} (F : Fun K "_law_added" "_law_added" sAdded f fd) (B : Blt mg) : FnOk P w K mg base CX0 (k + 1) f fd ["rows", "prefix", "land", "price"] spAdded := by
  refine F.ok scAdded (fun vs H Q E h => ?_) (fun cdv A outer s H vs Q E hr h => ?_)
  · obtain ⟨a, bs, r, rfl, _⟩ := h
    rfl
  · obtain ⟨a, bs, r, rfl, hL, hn, q⟩ := h
    refine ⟨_, (pss_cons (ps_if (pt_cmpR op_gt (pe_callB call_len_seq (by rfl) B.len PySem.boot_len (pa_cons (pe_lc (own := [("row", 4)]) (g := gName 4) (by rfl) scAdded.nd (pi_list (pv 0)) (blkOk_by (N := NAdded) (sc := defScope sAdded) (by decide +kernel)) (fun _ _ _ _ _ => pg_name (i := 4) scAdded.nd rfl (Or.inl rfl)) (fun _ _ _ _ _ => pts_one (PW.pt (pw_and (pt_cmpR op_eq (pe_ix (r := rIxT K) ix_tup (pv 4) pe_int (fun _ _ => rfl)) (pv 1) (nomark _)) (pw_and1 (pt_cmpR op_eq (pe_ix (r := rIxT K) ix_tup (pv 4) pe_int (fun _ _ => rfl)) (pv 2) (nomark _)))))) (fun _ _ _ _ _ => pv 4)) pa_nil)) pe_int (nomark _))
        (pss_one (ps_ret (pv 0)))
        pss_nil)
      (pss_one (ps_ret (pe_op op_cat (pv 0) (pe_lst (pa_cons (pe_tup (pa_cons (pv 1) (pa_cons (pv 2) (pa_cons (pv 3) pa_nil)))) pa_nil)))))), ?_⟩
    have hz : sizeLine = 16777216 := rfl
    refine ⟨.ref a, rfl, a, rfl, ⟨_, sqOf hL.l⟩, fun D nD => ?_⟩
    refine lc_it (walk_list (a := a) (xs := bs.map fun b => V.ref b.1)) (fun i H1 => Same H H1 ∧ H1 D = some (.lst (((bs.take i).filter (hitR r.1)).map fun b => V.ref b.1))) ⟨same_upd nD, upd_same⟩ (fun i H1 _ hP => sqOf (hP.1 _ _ hL.l)) (fun i v H1 H2 hi hP hy => ?_) (fun H1 hP => ?_)
    · obtain ⟨S1, hD⟩ := hP
      obtain ⟨rfl, ev⟩ := hy
      obtain ⟨b, eb, rfl⟩ := bs_at ev
      have hb := S1 _ _ (hL.t b (List.mem_of_getElem? eb))
      have ts := take_snoc eb
      refine ⟨rfl, .ref b.1, rfl, b.1, _, 0, _, rfl, rfl, .of hb, rfl, .str r.1.1, rfl, rfl, _, rfl, ?_⟩
      have stay : hitR r.1 b = false → Same H H2 ∧ H2 D = some (.lst (((bs.take (i + 1)).filter (hitR r.1)).map fun b => V.ref b.1)) := fun e => ⟨S1, by rw [ts, List.filter_append, List.filter_cons_of_neg (by rw [e]; decide), List.filter_nil, List.append_nil]; exact hD⟩
      refine ite2 (fun e1 => ?_) (fun e1 => ?_)
      · refine ⟨.ref b.1, rfl, b.1, _, 1, _, rfl, rfl, .of hb, rfl, .str r.1.2, rfl, rfl, _, rfl, ite2 (fun e2 => ?_) (fun e2 => ?_)⟩
        · have hit : hitR r.1 b = true := hit_iff.mpr (Prod.ext (by simpa using e1) (by simpa using e2))
          refine ⟨_, rfl, _, hD, ?_, fun c o hc => ?_, ?_⟩
          · rw [List.length_map]
            have := List.length_filter_le (hitR r.1) (bs.take i)
            rw [List.length_take] at this
            omega
          · rw [upd_ne (ne_of_none hc nD)]; exact S1 _ _ hc
          · rw [upd_same, ts, List.filter_append, List.filter_cons_of_pos hit, List.filter_nil, List.map_append]; rfl
        · exact stay (Bool.eq_false_iff.mpr fun h => e2 (by have := hit_iff.mp h; simp [this]))
      · exact stay (Bool.eq_false_iff.mpr fun h => e1 (by have := hit_iff.mp h; simp [this]))
    · obtain ⟨S1, hD⟩ := hP
      rw [List.length_map, List.take_length] at hD
      have L1 := hL.same S1
      refine ⟨D, _, rfl, .inl (sqOf hD), _, 0, rfl, rfl, _, rfl, ite2 (fun e => ?_) (fun e => ?_)⟩
      · have e := of_decide_eq_true e
        rw [List.length_map] at e
        obtain ⟨b, hb⟩ := List.exists_mem_of_length_pos (show 0 < (bs.filter (hitR r.1)).length by omega)
        have c : r.1 ∈ (bs.map (·.2)).map Prod.fst := by
          rw [← hit_iff.mp (List.mem_filter.mp hb).2, List.map_map]
          exact List.mem_map.mpr ⟨b, (List.mem_filter.mp hb).1, rfl⟩
        refine ⟨.ref a, rfl, q a bs H1 S1 L1 ?_ (.inl rfl)⟩
        unfold addR
        rw [if_pos c]
      · have c : ¬ r.1 ∈ (bs.map (·.2)).map Prod.fst := fun h => by
          rw [List.map_map] at h
          obtain ⟨b, hb, eb⟩ := List.mem_map.mp h
          have : 0 < (bs.filter (hitR r.1)).length := List.length_pos_of_mem (List.mem_filter.mpr ⟨hb, hit_iff.mpr eb⟩)
          exact e (decide_eq_true (by rw [List.length_map]; omega))
        refine ⟨.ref a, rfl, .str r.1.1, rfl, .str r.1.2, rfl, oI r.2, rfl, by show 3 ≤ sizeLine; omega, fun T nT => ⟨by show 1 ≤ sizeLine; omega, fun M nM => ?_⟩⟩
        have S2 := same_upd (o := .tup [.str r.1.1, .str r.1.2, oI r.2]) nT
        have S3 := same_upd (o := .lst [V.ref T]) nM
        have L3 := (L1.same S2).same S3
        refine ⟨a, M, _, _, rfl, rfl, L3.l, upd_same, ?_, fun N nN => ?_⟩
        · rw [List.length_map]; show bs.length + 1 ≤ _; omega
        have S4 := same_upd (o := .lst ((bs.map fun b => V.ref b.1) ++ [V.ref T])) nN
        have S04 := ((S1.trans S2).trans S3).trans S4
        refine q N (bs ++ [(T, r)]) _ S04 ⟨by rw [upd_same, List.map_append]; rfl, fun b hb => ?_⟩ ?_ (.inr (((S1.trans S2).trans S3).free nN))
        · rcases List.mem_append.mp hb with hb | hb
          · exact S04 _ _ (hL.t b hb)
          · rw [List.mem_singleton.mp hb]
            exact S4 _ _ (S3 _ _ upd_same)
        · unfold addR
          rw [if_neg c, List.map_append]; rfl
end
end Tb
namespace Tb
open PySem PySem.Spec PyProof.Rows L2
/-! ### what a rate is -/
theorem starts_iff {h p : Str} : Txt.startswith h p = true ↔ (tl h).take (tl p).length = tl p := by
  unfold Txt.startswith
  rw [Bool.and_eq_true, decide_eq_true_eq, StrLaws.subAt_eq, List.drop_zero, beq_iff_eq, len_tl p]
  refine ⟨fun h => h.2, fun e => ⟨?_, e⟩⟩
  have := congrArg List.length e
  rw [List.length_take] at this
  rw [len_tl]
  omega
theorem starts_len {h p : Str} (e : Txt.startswith h p = true) : p.length ≤ h.length := by
  have := congrArg List.length (starts_iff.mp e)
  rw [List.length_take] at this
  rw [len_tl, len_tl]
  omega
theorem starts_pre {h p : Str} : Txt.startswith h p = true ↔ pre h p.length = p := by
  rw [starts_iff]
  have e : tl (pre h p.length) = (tl h).take p.length := tl_hi h p.length
  rw [len_tl] at e
  exact ⟨fun k => tl_inj (by rw [len_tl, e]; exact k), fun k => by rw [← e, ← len_tl, k]⟩
theorem pre_starts {h : Str} {n : Nat} (hn : n ≤ h.length) : Txt.startswith h (pre h n) = true ∧ (pre h n).length = n := by
  have e : tl (pre h n) = (tl h).take n := tl_hi h n
  have l : (pre h n).length = n := by
    rw [len_tl, e, List.length_take]
    rw [len_tl] at hn
    omega
  exact ⟨starts_pre.mpr (by rw [l]), l⟩
def fits (h l : Str) (r : Rw) : Bool := Txt.startswith h r.1.1 && (decide (r.1.2 = l) || decide (r.1.2 = Str.ofString ""))
/-- c is no better than r -/
def NoB (l : Str) (c r : Rw) : Prop := c.1.1.length < r.1.1.length ∨ (c.1.1 = r.1.1 ∧ (c.1.2 = l → r.1.2 = l))
def Best (h l : Str) (ps : List Rw) : Option Rw → Prop
  | none => ∀ r ∈ ps, fits h l r = false
  | some r => r ∈ ps ∧ fits h l r = true ∧ ∀ c ∈ ps, fits h l c = true → NoB l c r
def bets (l : Str) (c r : Rw) : Bool := decide (c.1.1.length < r.1.1.length) || (decide (r.1.1 = c.1.1) && decide (r.1.2 = l))
theorem best_no {h l : Str} {ps : List Rw} {b : Option Rw} {r : Rw} (k : Best h l ps b) (e : fits h l r = false) : Best h l (ps ++ [r]) b := by
  cases b with
  | none =>
    intro c hc
    rcases List.mem_append.mp hc with hc | hc
    · exact k c hc
    · rw [List.mem_singleton.mp hc]; exact e
  | some d =>
    refine ⟨List.mem_append_left _ k.1, k.2.1, fun c hc f => ?_⟩
    rcases List.mem_append.mp hc with hc | hc
    · exact k.2.2 c hc f
    · rw [List.mem_singleton.mp hc, e] at f; cases f
theorem best_none {h l : Str} {ps : List Rw} {r : Rw} (k : Best h l ps none) (e : fits h l r = true) : Best h l (ps ++ [r]) (some r) := by
  refine ⟨List.mem_append_right _ (List.mem_singleton.mpr rfl), e, fun c hc f => ?_⟩
  rcases List.mem_append.mp hc with hc | hc
  · rw [k c hc] at f; cases f
  · rw [List.mem_singleton.mp hc]; exact .inr ⟨rfl, id⟩
theorem best_yes {h l : Str} {ps : List Rw} {d r : Rw} (k : Best h l ps (some d)) (e : fits h l r = true) (b : bets l d r = true) : Best h l (ps ++ [r]) (some r) := by
  refine ⟨List.mem_append_right _ (List.mem_singleton.mpr rfl), e, fun c hc f => ?_⟩
  unfold bets at b
  rw [Bool.or_eq_true, Bool.and_eq_true, decide_eq_true_eq, decide_eq_true_eq, decide_eq_true_eq] at b
  rcases List.mem_append.mp hc with hc | hc
  · rcases k.2.2 c hc f with q | ⟨q, q2⟩
    · rcases b with b | ⟨b, b2⟩
      · exact .inl (by omega)
      · exact .inl (by rw [b]; exact q)
    · rcases b with b | ⟨b, b2⟩
      · exact .inl (by rw [q]; exact b)
      · exact .inr ⟨q.trans b.symm, fun _ => b2⟩
  · rw [List.mem_singleton.mp hc]; exact .inr ⟨rfl, id⟩
theorem fits_starts {h l : Str} {r : Rw} (e : fits h l r = true) : pre h r.1.1.length = r.1.1 := by
  unfold fits at e
  rw [Bool.and_eq_true] at e
  exact starts_pre.mp e.1
theorem best_stay {h l : Str} {ps : List Rw} {d r : Rw} (k : Best h l ps (some d)) (b : bets l d r = false) : Best h l (ps ++ [r]) (some d) := by
  refine ⟨List.mem_append_left _ k.1, k.2.1, fun c hc f => ?_⟩
  rcases List.mem_append.mp hc with hc | hc
  · exact k.2.2 c hc f
  · rw [List.mem_singleton.mp hc] at f ⊢
    unfold bets at b
    rw [Bool.or_eq_false_iff, decide_eq_false_iff_not, Bool.and_eq_false_iff, decide_eq_false_iff_not, decide_eq_false_iff_not] at b
    by_cases c1 : r.1.1.length < d.1.1.length
    · exact .inl c1
    · have le : r.1.1.length = d.1.1.length := by omega
      have e1 := fits_starts f
      have e2 := fits_starts k.2.1
      have e3 : r.1.1 = d.1.1 := by rw [← e1, ← e2, le]
      exact .inr ⟨e3, fun z => (b.2.elim (fun n => absurd e3 n) fun n => absurd z n)⟩
/-- x is the rate -/
def RateIs (rs : List Rw) (h l : Str) (x : Option Int) : Prop := ∃ b, Best h l rs b ∧ x = match b with | none => some 0 | some r => r.2
theorem best_perm {h l : Str} {ps qs : List Rw} (m : ∀ r, r ∈ ps ↔ r ∈ qs) {b : Option Rw} (k : Best h l ps b) : Best h l qs b := by
  cases b with
  | none => exact fun r hr => k r ((m r).mpr hr)
  | some d => exact ⟨(m d).mp k.1, k.2.1, fun c hc => k.2.2 c ((m c).mpr hc)⟩
theorem rate_perm {rs qs : List Rw} (m : ∀ r, r ∈ rs ↔ r ∈ qs) {h l : Str} {x : Option Int} (k : RateIs rs h l x) : RateIs qs h l x := by
  obtain ⟨b, kb, e⟩ := k
  exact ⟨b, best_perm m kb, e⟩
theorem key_one : ∀ {rs : List Rw}, (rs.map Prod.fst).Nodup → ∀ {r c : Rw}, r ∈ rs → c ∈ rs → r.1 = c.1 → r = c
  | [], _, _, _, hr, _, _ => by cases hr
  | d :: rs, h, r, c, hr, hc, e => by
    obtain ⟨h1, h2⟩ := List.nodup_cons.mp (show (d.1 :: rs.map Prod.fst).Nodup from h)
    rcases List.mem_cons.mp hr with er | hr
    · rcases List.mem_cons.mp hc with ec | hc
      · rw [er, ec]
      · exact absurd (List.mem_map.mpr ⟨c, hc, by rw [← e, er]⟩) h1
    · rcases List.mem_cons.mp hc with ec | hc
      · exact absurd (List.mem_map.mpr ⟨r, hr, by rw [e, ec]⟩) h1
      · exact key_one h2 hr hc e
theorem rate_uniq {rs : List Rw} (g : (rs.map Prod.fst).Nodup) {h l : Str} {x y : Option Int} (kx : RateIs rs h l x) (ky : RateIs rs h l y) : x = y := by
  obtain ⟨b, kb, rfl⟩ := kx
  obtain ⟨c, kc, rfl⟩ := ky
  cases b with
  | none =>
    cases c with
    | none => rfl
    | some c => exact absurd (kb c kc.1) (by rw [kc.2.1]; decide)
  | some b =>
    cases c with
    | none => exact absurd (kc b kb.1) (by rw [kb.2.1]; decide)
    | some c =>
      have q1 := kb.2.2 c kc.1 kc.2.1
      have q2 := kc.2.2 b kb.1 kb.2.1
      have e : b = c := by
        rcases q1 with q1 | ⟨q1, p1⟩
        · rcases q2 with q2 | ⟨q2, p2⟩
          · omega
          · rw [q2] at q1; omega
        · rcases q2 with q2 | ⟨q2, p2⟩
          · rw [q1] at q2; omega
          · have fb := kb.2.1
            have fc := kc.2.1
            unfold fits at fb fc
            rw [Bool.and_eq_true, Bool.or_eq_true, decide_eq_true_eq, decide_eq_true_eq] at fb fc
            refine key_one g kb.1 kc.1 (Prod.ext q2 ?_)
            by_cases z : b.1.2 = l
            · rw [z, p2 z]
            · have z2 : ¬ c.1.2 = l := fun e => z (p1 e)
              rw [fb.2.resolve_left z, fc.2.resolve_left z2]
      rw [e]
/-! the dict's way -/
def lk (rs : List Rw) (k : Pr) : Option (Option Int) := (rs.find? fun r => decide (r.1 = k)).map (·.2)
theorem lk_some {rs : List Rw} {k : Pr} {x : Option Int} (e : lk rs k = some x) : ∃ r ∈ rs, r.1 = k ∧ r.2 = x := by
  unfold lk at e
  cases f : rs.find? fun r => decide (r.1 = k) with
  | none => rw [f] at e; cases e
  | some r =>
    rw [f] at e
    cases e
    have q := List.find?_some f
    exact ⟨r, List.mem_of_find?_eq_some f, of_decide_eq_true q, rfl⟩
theorem lk_none {rs : List Rw} {k : Pr} (e : lk rs k = none) {r : Rw} (h : r ∈ rs) : r.1 ≠ k := fun c => by
  unfold lk at e
  rw [Option.map_eq_none_iff, List.find?_eq_none] at e
  exact e r h (decide_eq_true c)
def kvR (rs : List Rw) : List (List Key × V) := rs.map fun r => ([Sum.inr r.1.1, Sum.inr r.1.2], oI r.2)
theorem kvR_val (rs : List Rw) (k : Pr) : valV (kvR rs) [Sum.inr k.1, Sum.inr k.2] = (lk rs k).map oI := by
  induction rs with
  | nil => rfl
  | cons r rs ih =>
    show valV (([Sum.inr r.1.1, Sum.inr r.1.2], oI r.2) :: kvR rs) _ = _
    unfold lk
    by_cases c : r.1 = k
    · rw [valV_pos (by rw [c]), List.find?_cons_of_pos (by simpa using c)]
      rfl
    · rw [valV_neg, List.find?_cons_of_neg (by simpa using c)]
      · exact ih
      · intro e
        injection e with e1 e2
        injection e2 with e2 _
        exact c (Prod.ext (Sum.inr.inj e1) (Sum.inr.inj e2))
def rateA (rs : List Rw) (h l : Str) : Nat → Option Int
  | 0 => some 0
  | n + 1 => match lk rs (pre h (n + 1), l) with
    | some x => x
    | none => match lk rs (pre h (n + 1), Str.ofString "") with
      | some x => x
      | none => rateA rs h l n
theorem rateA_is {rs : List Rw} (g : Gd rs) (h l : Str) : ∀ n, n ≤ h.length → (∀ r ∈ rs, fits h l r = true → r.1.1.length ≤ n) → RateIs rs h l (rateA rs h l n)
  | 0, _, k => by
    refine ⟨none, fun r hr => Bool.eq_false_iff.mpr fun f => ?_, rfl⟩
    have a := (isAddr_iff _).mp (g.1 r hr).1
    have := k r hr f
    have := a.1
    rw [← len_tl] at this
    omega
  | n + 1, hn, k => by
    have ps := pre_starts hn
    have low : ∀ c ∈ rs, fits h l c = true → c.1.1.length < n + 1 ∨ c.1.1 = pre h (n + 1) := fun c hc f => by
      by_cases z : c.1.1.length < n + 1
      · exact .inl z
      · have e := fits_starts f
        rw [show c.1.1.length = n + 1 from by have := k c hc f; omega] at e
        exact .inr e.symm
    unfold rateA
    cases e1 : lk rs (pre h (n + 1), l) with
    | some x =>
      obtain ⟨r, hr, er, rfl⟩ := lk_some e1
      refine ⟨some r, ⟨hr, ?_, fun c hc f => ?_⟩, rfl⟩
      · unfold fits
        rw [er, ps.1, decide_eq_true rfl]
        rfl
      · rcases low c hc f with z | z
        · exact .inl (by rw [er]; show _ < (pre h (n + 1)).length; rw [ps.2]; exact z)
        · exact .inr ⟨by rw [er]; exact z, fun _ => by rw [er]⟩
    | none =>
      cases e2 : lk rs (pre h (n + 1), Str.ofString "") with
      | some x =>
        obtain ⟨r, hr, er, rfl⟩ := lk_some e2
        refine ⟨some r, ⟨hr, ?_, fun c hc f => ?_⟩, rfl⟩
        · unfold fits
          rw [er, ps.1, Bool.true_and, Bool.or_eq_true]
          exact .inr (decide_eq_true rfl)
        · rcases low c hc f with z | z
          · exact .inl (by rw [er]; show _ < (pre h (n + 1)).length; rw [ps.2]; exact z)
          · exact .inr ⟨by rw [er]; exact z, fun q => absurd (Prod.ext z q) (lk_none e1 hc)⟩
      | none =>
        refine rateA_is g h l n (by omega) fun c hc f => ?_
        rcases low c hc f with z | z
        · omega
        · unfold fits at f
          rw [Bool.and_eq_true, Bool.or_eq_true, decide_eq_true_eq, decide_eq_true_eq] at f
          rcases f.2 with q | q
          · exact absurd (Prod.ext z q) (lk_none e1 hc)
          · exact absurd (Prod.ext z q) (lk_none e2 hc)
/-- the rate -/
def rate (rs : List Rw) (h l : Str) : Option Int := rateA rs h l h.length
theorem rate_is {rs : List Rw} (g : Gd rs) (h l : Str) : RateIs rs h l (rate rs h l) := rateA_is g h l _ (Nat.le_refl _) fun r _ f => by
  unfold fits at f
  rw [Bool.and_eq_true] at f
  exact starts_len f.1
theorem rate_eq {rs qs : List Rw} (g : Gd rs) (g2 : Gd qs) (m : ∀ r, r ∈ rs ↔ r ∈ qs) (h l : Str) : rate rs h l = rate qs h l := rate_uniq g2.2 (rate_perm m (rate_is g h l)) (rate_is g2 h l)
end Tb
namespace Tb
open PySem PySem.Spec PyProof.Rows L2
abbrev sLRate : Stmt := topS 31
abbrev NLRate : List Str := ["rows", "heading", "land", "best", "row"]
theorem scLRate : FnScope NLRate ["rows", "heading", "land"] (defScope sLRate) := ⟨rfl, rfl, rfl, by decide +kernel, rfl, by decide +kernel, by decide +kernel⟩
def bV : Option (Addr × Rw) → V
  | none => .non
  | some b => .ref b.1
theorem tor_at {t u : TT} {σ : L2.St} {H : Hp} {Q : Bool → Hp → Prop} (c d : Bool) (h1 : ∀ Q' : Bool → Hp → Prop, Q' c H → t σ H Q') (h2 : c = false → ∀ Q' : Bool → Hp → Prop, Q' d H → u σ H Q') (q : Q (c || d) H) : tOr t u σ H Q := by
  refine h1 _ ?_
  cases c with
  | true => exact q
  | false => exact h2 rfl _ q
theorem tand_at {t u : TT} {σ : L2.St} {H : Hp} {Q : Bool → Hp → Prop} (c d : Bool) (h1 : ∀ Q' : Bool → Hp → Prop, Q' c H → t σ H Q') (h2 : c = true → ∀ Q' : Bool → Hp → Prop, Q' d H → u σ H Q') (q : Q (c && d) H) : tAnd t u σ H Q := by
  refine h1 _ ?_
  cases c with
  | true => exact h2 rfl _ q
  | false => exact q
section
variable {P : Program} {w : World} {K : PySem.W.Frag} {mg : Str → Option Value} {base : Heap}
def spLRate : Sp := fun vs H Q _ => ∃ (a : Addr) (h l : Str) (bs : List (Addr × Rw)), vs = [.ref a, .str h, .str l] ∧ LR H a bs ∧ bs.length ≤ 900 ∧ h.length ≤ 1000 ∧ (∀ b ∈ bs, b.2.1.1.length ≤ 1000) ∧ ∀ x, RateIs (bs.map (·.2)) h l x → Q (oI x) H
theorem ok_lrate {f : Addr} {fd : FuncData} {k : Nat} (F : Fun K "_law_rate" "_law_rate" sLRate f fd) (B : Blt mg) : FnOk P w K mg base CX0 (k + 1) f fd ["rows", "heading", "land"] spLRate := by
  refine F.ok scLRate (fun vs H Q E h => ?_) (fun cdv A outer s H vs Q E hr h => ?_)
  · obtain ⟨a, h, l, bs, rfl, _⟩ := h
    rfl
  · obtain ⟨a, h, l, bs, rfl, hL, hn, hl, hp, q⟩ := h
    refine ⟨_, (pss_cons (ps_set (i := 3) scLRate.nd rfl (.inl rfl) pe_non)
      (pss_cons (ps_for PassesOwn.never rfl (pi_list (pv 0)) (pg_name (i := 4) scLRate.nd rfl (.inl rfl))
        (pss_one (ps_if (PW.pt (pw_and (pt_val (pe_bm PySem.F.plainAttrs_str PySem.F.slot_str_startswith PySem.F.type_str_startswith mt_startswith (pv 1) (pa_cons (pe_ix ix_tup (pv 4) pe_int (fun _ _ => rfl)) pa_nil))) (pw_and1 (PW.pt (pw_or (pt_cmpR op_eq (pe_ix ix_tup (pv 4) pe_int (fun _ _ => rfl)) (pv 2) (nomark _)) (pw_or1 (pt_cmpR op_eq (pe_ix ix_tup (pv 4) pe_int (fun _ _ => rfl)) pe_str (nomark _))))))))
          (pss_one (ps_if (PW.pt (pw_or (pt_cmpR op_isN (pv 3) pe_non (nomark _)) (pw_or1 (pt_cmpR op_gt (pe_callB call_len_str (by rfl) B.len PySem.boot_len (pa_cons (pe_ix ix_tup (pv 4) pe_int (fun _ _ => rfl)) pa_nil)) (pe_callB call_len_str (by rfl) B.len PySem.boot_len (pa_cons (pe_ix ix_tup (pv 3) pe_int (fun _ _ => rfl)) pa_nil)) (nomark _)))))
            (pss_one (ps_set (i := 3) scLRate.nd rfl (.inl rfl) (pv 4)))
            (pss_one (ps_if (PW.pt (pw_and (pt_cmpR op_eq (pe_ix ix_tup (pv 4) pe_int (fun _ _ => rfl)) (pe_ix ix_tup (pv 3) pe_int (fun _ _ => rfl)) (nomark _)) (pw_and1 (pt_cmpR op_eq (pe_ix ix_tup (pv 4) pe_int (fun _ _ => rfl)) (pv 2) (nomark _)))))
              (pss_one (ps_set (i := 3) scLRate.nd rfl (.inl rfl) (pv 4)))
              pss_nil))))
          pss_nil)))
      (pss_cons (ps_if (pt_cmpR op_isN (pv 3) pe_non (nomark _))
        (pss_one (ps_ret pe_int))
        pss_nil)
      (pss_one (ps_ret (pe_ix ix_tup (pv 3) pe_int (fun _ _ => rfl))))))), ?_⟩
    have hz : sizeLine = 16777216 := rfl
    refine ⟨.ref a, rfl, a, rfl, ⟨_, sqOf hL.l⟩, ?_⟩
    refine for_it (walk_list (a := a) (xs := bs.map fun b => V.ref b.1)) (fun i σ H1 => H1 = H ∧ ∃ y ob, σ = [some (.ref a), some (.str h), some (.str l), some (bV ob), y] ∧ (∀ b, ob = some b → b ∈ bs) ∧ Best h l ((bs.map (·.2)).take i) (ob.map (·.2)))
      ⟨rfl, none, none, rfl, nofun, nofun⟩ (fun i σ H1 _ hP => by rw [hP.1]; exact sqOf hL.l) (fun i v σ H1 H2 hi hP hy => ?_) (fun σ H1 hP => ?_)
    · obtain ⟨rfl, y, ob, rfl, mb, best⟩ := hP
      obtain ⟨rfl, ev⟩ := hy
      obtain ⟨b, eb, rfl⟩ := bs_at ev
      have mB := List.mem_of_getElem? eb
      have hb := hL.t b mB
      have hbl := hp b mB
      have ts : (bs.map (·.2)).take (i + 1) = (bs.map (·.2)).take i ++ [b.2] := take_snoc (by rw [List.getElem?_map, eb]; rfl)
      rw [ts]
      have sb : SqT K H2 b.1 (rwV b.2) := .of hb
      have no : fits h l b.2 = false → Best h l ((bs.map (·.2)).take i ++ [b.2]) (ob.map (·.2)) := best_no best
      refine tand_at (Txt.startswith h b.2.1.1) (decide (b.2.1.2 = l) || decide (b.2.1.2 = Str.ofString "")) (fun Q' q' => ?_) (fun _ Q' q' => ?_) ?_
      · exact ⟨_, rfl, rfl, .ref b.1, rfl, b.1, _, 0, _, rfl, rfl, sb, rfl, h, b.2.1.1, rfl, rfl, _, rfl, q'⟩
      · refine tor_at _ _ (fun Q2 q2 => ?_) (fun _ Q2 q2 => ?_) q'
        · exact ⟨.ref b.1, rfl, b.1, _, 1, _, rfl, rfl, sb, rfl, .str l, rfl, rfl, _, rfl, by simpa using q2⟩
        · exact ⟨.ref b.1, rfl, b.1, _, 1, _, rfl, rfl, sb, rfl, rfl, _, rfl, by simpa using q2⟩
      show if fits h l b.2 = true then _ else _
      refine ite2 (fun ef => ?_) (fun ef => ?_)
      rotate_left
      · exact ⟨rfl, _, ob, rfl, mb, no (Bool.eq_false_iff.mpr ef)⟩
      cases ob with
      | none =>
        refine tor_at true false (fun Q2 q2 => ?_) (fun z => by cases z) ?_
        · exact ⟨_, rfl, rfl, _, rfl, q2⟩
        · exact ⟨_, rfl, rfl, _, some b, rfl, fun c e => by cases e; exact mB, best_none best ef⟩
      | some d =>
        have hd := hL.t d (mb d rfl)
        have sd : SqT K H2 d.1 (rwV d.2) := .of hd
        have hdl := hp d (mb d rfl)
        refine tor_at false (decide ((d.2.1.1.length : Int) < (b.2.1.1.length : Int))) (fun Q2 q2 => ?_) (fun _ Q2 q2 => ?_) ?_
        · exact ⟨_, rfl, rfl, _, rfl, q2⟩
        · exact ⟨.ref b.1, rfl, b.1, _, 0, _, rfl, rfl, sb, rfl, b.2.1.1, rfl, by omega, .ref d.1, rfl, d.1, _, 0, _, rfl, rfl, sd, rfl, d.2.1.1, rfl, by omega, _, _, rfl, rfl, _, rfl, q2⟩
        rw [Bool.false_or]
        refine ite2 (fun e1 => ?_) (fun e1 => ?_)
        · have e1 := of_decide_eq_true e1
          refine ⟨_, rfl, rfl, _, some b, rfl, fun c e => by cases e; exact mB, best_yes (d := d.2) best ef ?_⟩
          unfold bets
          rw [decide_eq_true (show d.2.1.1.length < b.2.1.1.length by omega)]
          rfl
        · have e1 : ¬ d.2.1.1.length < b.2.1.1.length := fun z => e1 (decide_eq_true (by omega))
          refine tand_at (decide (b.2.1.1 = d.2.1.1)) (decide (b.2.1.2 = l)) (fun Q2 q2 => ?_) (fun _ Q2 q2 => ?_) ?_
          · exact ⟨.ref b.1, rfl, b.1, _, 0, _, rfl, rfl, sb, rfl, .ref d.1, rfl, d.1, _, 0, _, rfl, rfl, sd, rfl, rfl, _, rfl, by simpa using q2⟩
          · exact ⟨.ref b.1, rfl, b.1, _, 1, _, rfl, rfl, sb, rfl, .str l, rfl, rfl, _, rfl, by simpa using q2⟩
          have eb2 : bets l d.2 b.2 = (decide (b.2.1.1 = d.2.1.1) && decide (b.2.1.2 = l)) := by
            unfold bets
            rw [decide_eq_false e1, Bool.false_or]
          rw [← eb2]
          refine ite2 (fun e2 => ?_) (fun e2 => ?_)
          · exact ⟨_, rfl, rfl, _, some b, rfl, fun c e => by cases e; exact mB, best_yes (d := d.2) best ef e2⟩
          · exact ⟨rfl, _, some d, rfl, mb, best_stay (d := d.2) best (Bool.eq_false_iff.mpr e2)⟩
    · obtain ⟨rfl, y, ob, rfl, mb, best⟩ := hP
      rw [List.length_map, ← List.length_map (f := (·.2)) (as := bs), List.take_length] at best
      cases ob with
      | none => exact ⟨_, rfl, rfl, _, rfl, q (some 0) ⟨none, best, rfl⟩⟩
      | some b =>
        refine ⟨_, rfl, rfl, _, rfl, ?_⟩
        refine ⟨.ref b.1, rfl, b.1, _, 2, _, rfl, rfl, .of (hL.t b (mb b rfl)), rfl, q b.2.2 ⟨some b.2, best, rfl⟩⟩
end
end Tb
namespace Tb
open PySem PySem.Spec PyProof.Rows L2
theorem but_free {H H2 : Hp} {p a : Addr} (B : Box H2 p) (b : But p H H2) (n : H2 a = none) : H a = none := by
  cases e : H a with
  | none => rfl
  | some o =>
    by_cases c : a = p
    · obtain ⟨_, _, _, _, hp, _⟩ := B
      rw [c, hp] at n; cases n
    · rw [b a o e c] at n; cases n
theorem add_free {H H2 : Hp} {p a c : Addr} (B : Box H2 p) (b : But p H H2) (f : H a = none) (n : c = a ∨ H2 c = none) : H c = none := n.elim (fun e => by rw [e]; exact f) fun n => but_free B b n
theorem lane_ks {ks : List Str} (h : ∀ x ∈ ks, Nm (tl x)) {x : Str} (hx : x ∈ ks ++ [Str.ofString ""]) : isLane x = true := by
  unfold isLane
  rcases List.mem_append.mp hx with hx | hx
  · rw [(isName_iff x).mpr (h x hx), Bool.or_true]
  · rw [List.mem_singleton.mp hx]; decide +kernel
theorem str_get {ks : List Str} {i : Nat} (h : i < ks.length) : (ks.map V.str)[i]? = some (.str ks[i]) := strs_at h
section
variable {P : Program} {w : World} {K : PySem.W.Frag} {mg : Str → Option Value} {base : Heap}
abbrev CAdded (P : Program) (w : World) (K : PySem.W.Frag) (mg : Str → Option Value) (base : Heap) (g : Addr) (gd : FuncData) := C1 P w K mg base "_law_added" sAdded ["rows", "prefix", "land", "price"] 1 spAdded g gd
def spLRows : Sp := fun vs H Q _ => ∃ (p l : Addr) (z : Str) (ks : List Str), vs = [.ref p, .ref l, .str z] ∧ Box H p ∧ Lns H l ks ∧ Stem z ∧ ∀ (a : Addr) (bs : List (Addr × Rw)) (H' : Hp), H a = none → LR H' a bs → Gd (bs.map (·.2)) → bs.length ≤ 30 → Box H' p → But p H H' → Q (.ref a) H'
def qw : Str := (("qwertyuiopasdfghjklzxcvbnm" : String) : Str)
theorem qw_len : qw.cps.size = 26 := by decide +kernel
theorem qw_name : ∀ c ∈ tl qw, isLane ⟨#[c]⟩ = true := by decide +kernel
theorem ok_lrows {f g1 g2 g3 g4 : Addr} {fd gd1 gd2 gd3 gd4 : FuncData} (F : Fun K "_law_rows" "_law_rows" sLRows f fd) (B : Blt mg) (cDraw : CDraw P w K mg base g1 gd1) (cPrefix : CPrefix P w K mg base g2 gd2) (cPrice : CPrice P w K mg base g3 gd3) (cAdded : CAdded P w K mg base g4 gd4) :
    FnOk P w K mg base CX0 4 f fd ["box", "lands", "stem"] spLRows := by
  refine F.ok scLRows (fun vs H Q E h => ?_) (fun cdv A outer s H vs Q E hr h => ?_)
  · obtain ⟨p, l, z, ks, rfl, _⟩ := h
    rfl
  · obtain ⟨p, l, z, ks, rfl, hB, hL, hS, q⟩ := h
    refine ⟨_, (pss_cons (ps_set (i := 3) scLRows.nd rfl (.inl rfl) (pe_lst pa_nil))
      (pss_cons (ps_set (i := 4) scLRows.nd rfl (.inl rfl) (pe_call cDraw.G (hr.mono (by first | decide | omega)) (by rfl) cDraw.D.g cDraw.D.F.kp cDraw.D.b .nil pass0 (pa_cons (pv 0) (pa_cons pe_int pa_nil))))
      (C8.pss_cut (ps_if (pt_cmpR op_eq (pe_call cDraw.G (hr.mono (by first | decide | omega)) (by rfl) cDraw.D.g cDraw.D.F.kp cDraw.D.b .nil pass0 (pa_cons (pv 0) (pa_cons pe_int pa_nil))) pe_int (nomark _))
        (pss_one (ps_set (i := 4) scLRows.nd rfl (.inl rfl) (pe_op op_add pe_int (pe_call cDraw.G (hr.mono (by first | decide | omega)) (by rfl) cDraw.D.g cDraw.D.F.kp cDraw.D.b .nil pass0 (pa_cons (pv 0) (pa_cons pe_int pa_nil))))))
        pss_nil)
      (pss_cons (ps_for PassesOwn.never rfl (pi_range1 (by rfl) B.range (pa_cons (pv 4) pa_nil)) (pg_name (i := 5) scLRows.nd rfl (.inl rfl))
        (pss_cons (ps_set (i := 6) scLRows.nd rfl (.inl rfl) (pe_call cPrefix.G (hr.mono (by first | decide | omega)) (by rfl) cPrefix.D.g cPrefix.D.F.kp cPrefix.D.b .nil pass0 (pa_cons (pv 0) (pa_cons (pv 2) pa_nil))))
        (pss_cons (ps_set (i := 7) scLRows.nd rfl (.inl rfl) (pe_ix ix_list (pe_op op_cat (pv 1) (pe_lst (pa_cons pe_str pa_nil))) (pe_call cDraw.G (hr.mono (by first | decide | omega)) (by rfl) cDraw.D.g cDraw.D.F.kp cDraw.D.b .nil pass0 (pa_cons (pv 0) (pa_cons pe_int pa_nil))) (fun _ _ => rfl)))
        (pss_one (ps_set (i := 3) scLRows.nd rfl (.inl rfl) (pe_call cAdded.G (hr.mono (by first | decide | omega)) (by rfl) cAdded.D.g cAdded.D.F.kp cAdded.D.b .nil pass0 (pa_cons (pv 3) (pa_cons (pv 6) (pa_cons (pv 7) (pa_cons (pe_call cPrice.G (hr.mono (by first | decide | omega)) (by rfl) cPrice.D.g cPrice.D.F.kp cPrice.D.b .nil pass0 (pa_cons (pv 0) pa_nil)) pa_nil))))))))))
      (C8.pss_cut (ps_if (pt_cmpR op_eq (pe_call cDraw.G (hr.mono (by first | decide | omega)) (by rfl) cDraw.D.g cDraw.D.F.kp cDraw.D.b .nil pass0 (pa_cons (pv 0) (pa_cons pe_int pa_nil))) pe_int (nomark _))
        (pss_cons (ps_set (i := 3) scLRows.nd rfl (.inl rfl) (pe_slice sl_list (pv 3) po_none (po_some pe_int)))
        (pss_one (ps_for PassesOwn.never rfl (pi_str pe_str) (pg_name (i := 8) scLRows.nd rfl (.inl rfl))
          (pss_one (ps_set (i := 3) scLRows.nd rfl (.inl rfl) (pe_call cAdded.G (hr.mono (by first | decide | omega)) (by rfl) cAdded.D.g cAdded.D.F.kp cAdded.D.b .nil pass0 (pa_cons (pv 3) (pa_cons (pe_slice sl_str (pv 2) po_none (po_some pe_int)) (pa_cons (pv 8) (pa_cons (pe_call cPrice.G (hr.mono (by first | decide | omega)) (by rfl) cPrice.D.g cPrice.D.F.kp cPrice.D.b .nil pass0 (pa_cons (pv 0) pa_nil)) pa_nil))))))))))
        pss_nil)
      (pss_one (ps_ret (pv 3)))))))), ?_⟩
    have hz : sizeLine = 16777216 := rfl
    have zl := hS.1
    refine ⟨by show 0 ≤ sizeLine; omega, fun D nD => ?_⟩
    have bn := box_new (o := .lst []) hB nD
    have R0 : LR (upd H D (.lst [])) D [] := ⟨upd_same, nofun⟩
    refine ⟨.ref p, rfl, p, 9, rfl, bn.1, by decide, fun c H1 c0 c1 B1 b1 => ?_⟩
    have R1 := R0.but bn.1 b1
    have b01 := bn.2.trans b1
    refine ⟨fun σ' H' => ∃ n : Int, 0 ≤ n ∧ n ≤ 22 ∧ σ' = [some (.ref p), some (.ref l), some (.str z), some (.ref D), some (.int n), none, none, none, none] ∧ Box H' p ∧ But p H H' ∧ LR H' D [], ?_, ?_⟩
    · refine ⟨.ref p, rfl, p, 8, rfl, B1, by decide, fun u H2 u0 u1 B2 b2 => ?_⟩
      have R2 := R1.but B1 b2
      refine ⟨rfl, _, rfl, ite2 (fun _ => ?_) (fun _ => ?_)⟩
      · refine ⟨.ref p, rfl, p, 9, rfl, B2, by decide, fun v H3 v0 v1 B3 b3 => ⟨14, v, rfl, rfl, 14 + v, by omega, by omega, rfl, B3, (b01.trans b2).trans b3, R2.but B2 b3⟩⟩
      · exact (⟨c, c0, by omega, rfl, B2, b01.trans b2, R2⟩ : ∃ n : Int, 0 ≤ n ∧ n ≤ 22 ∧ _ = [some (V.ref p), some (.ref l), some (.str z), some (.ref D), some (.int n), none, none, none, none] ∧ Box H2 p ∧ But p H H2 ∧ LR H2 D [])
    rintro σ' H2 ⟨n, n0, n1, rfl, B2, b2, R2⟩
    refine ⟨.int n, rfl, n, rfl, by omega, by omega, ?_⟩
    refine for_range (lo := 0) (n := n.toNat) (fun i σ H3 => ∃ a bs y5 y6 y7, σ = [some (.ref p), some (.ref l), some (.str z), some (.ref a), some (.int n), y5, y6, y7, none] ∧ Box H3 p ∧ But p H H3 ∧ LR H3 a bs ∧ Gd (bs.map (·.2)) ∧ bs.length ≤ i ∧ H a = none)
      ⟨D, [], none, none, none, rfl, B2, b2, R2, ⟨nofun, List.nodup_nil⟩, Nat.le_refl _, nD⟩ ?_ ?_
    · rintro i σ H3 hi ⟨a, bs, y5, y6, y7, rfl, B3, b3, R3, g3, ln, fa⟩
      refine ⟨.ref p, rfl, .str z, rfl, p, z, rfl, B3, hS, fun x H4 ax B4 b4 => ?_⟩
      have R4 := R3.but B3 b4
      have L4 := (hL.kp (But.kp hB b3)).kp (But.kp B3 b4)
      refine ⟨.ref l, rfl, by show 1 ≤ sizeLine; omega, fun M nM => ?_⟩
      have m4 := box_new (o := .lst [V.str (Str.ofString "")]) B4 nM
      have L5 := L4.kp (Same.kp (same_upd (o := .lst [V.str (Str.ofString "")]) nM))
      refine ⟨l, M, _, _, rfl, rfl, L5.l, upd_same, by rw [List.length_map, L4.n]; show 3 + 1 ≤ _; omega, fun N nN => ?_⟩
      have m5 := box_new (o := .lst (ks.map V.str ++ [V.str (Str.ofString "")])) m4.1 nN
      refine ⟨.ref p, rfl, p, 4, rfl, m5.1, by decide, fun v H5 v0 v1 B5 b5 => ?_⟩
      have hN := b5 N _ upd_same (m5.1.ne upd_same (by have := ni_strs (ks ++ [Str.ofString ""]); rwa [List.map_append] at this))
      have lv : v.toNat < (ks ++ [Str.ofString ""]).length := by rw [List.length_append, L4.n]; show _ < 3 + 1; omega
      refine ⟨N, _, v, _, rfl, rfl, sqOf hN, at_nat v0 (show (ks.map V.str ++ [V.str (Str.ofString "")])[v.toNat]? = _ by rw [show ks.map V.str ++ [V.str (Str.ofString "")] = (ks ++ [Str.ofString ""]).map V.str by rw [List.map_append]; rfl]; exact strs_at lv), ?_⟩
      have hla := lane_ks L4.d (List.getElem_mem lv)
      generalize (ks ++ [Str.ofString ""])[v.toNat] = la at hla
      have b35 := ((b3.trans b4).trans (m4.2.trans m5.2)).trans b5
      have R5 := ((R4.but B4 m4.2).but m4.1 m5.2).but m5.1 b5
      refine ⟨.ref a, rfl, .str x, rfl, .str la, rfl, .ref p, rfl, p, rfl, B5, fun y H6 oy B6 b6 => ?_⟩
      have R6 := R5.but B5 b6
      refine ⟨a, bs, ((x, la), y), rfl, R6, by omega, fun a' cs H7 S7 R7 e7 f7 => ?_⟩
      refine ⟨a', cs, _, _, _, rfl, B6.same S7, (b35.trans b6).trans (Same.but S7), R7, ?_, ?_, add_free B6 (b35.trans b6) fa f7⟩
      · rw [e7]; exact gd_add g3 ⟨ax, hla, oy⟩
      · have := len_add (rs := bs.map (·.2)) (r := ((x, la), y))
        rw [← e7, List.length_map, List.length_map] at this
        omega
    · rintro σ H3 ⟨a, bs, y5, y6, y7, rfl, B3, b3, R3, g3, ln, fa⟩
      have ln2 : bs.length ≤ 22 := by omega
      refine ⟨fun σ' H' => ∃ a bs y5 y6 y7 y8, σ' = [some (.ref p), some (.ref l), some (.str z), some (.ref a), some (.int n), y5, y6, y7, y8] ∧ Box H' p ∧ But p H H' ∧ LR H' a bs ∧ Gd (bs.map (·.2)) ∧ bs.length ≤ 30 ∧ H a = none, ?_, ?_⟩
      · refine ⟨.ref p, rfl, p, 12, rfl, B3, by decide, fun u H4 u0 u1 B4 b4 => ⟨rfl, _, rfl, ite2 (fun _ => ?_) (fun _ => ?_)⟩⟩
        · have R4 := R3.but B3 b4
          refine ⟨.ref a, rfl, 4, rfl, a, _, rfl, sqOf R4.l, fun N nN => ?_⟩
          have m4 := box_new (o := .lst (cutV (bs.map fun b => V.ref b.1) none (some 4))) B4 nN
          have ec : cutV (bs.map fun b => V.ref b.1) none (some 4) = (bs.take 4).map fun b => V.ref b.1 := by
            rw [show (4 : Int) = ((4 : Nat) : Int) from rfl, cut_hi, List.map_take]
          rw [ec] at m4 ⊢
          have R5 : LR (upd H4 N (.lst ((bs.take 4).map fun b => V.ref b.1))) N (bs.take 4) := ⟨upd_same, fun b hb => by rw [upd_ne (ne_of_none (R4.t b (List.mem_of_mem_take hb)) nN)]; exact R4.t b (List.mem_of_mem_take hb)⟩
          have g5 : Gd ((bs.take 4).map (·.2)) := by
            rw [List.map_take]
            exact ⟨fun r hr => g3.1 r (List.mem_of_mem_take hr), by rw [List.map_take]; exact g3.2.sublist (List.take_sublist _ _)⟩
          have b35 := (b3.trans b4).trans m4.2
          refine ⟨qw, rfl, ?_⟩
          refine for_it (walk_str (z := qw)) (fun i σ H5 => ∃ a bs y8, σ = [some (.ref p), some (.ref l), some (.str z), some (.ref a), some (.int n), y5, y6, y7, y8] ∧ Box H5 p ∧ But p H H5 ∧ LR H5 a bs ∧ Gd (bs.map (·.2)) ∧ bs.length ≤ 4 + i ∧ H a = none)
            ⟨N, bs.take 4, none, rfl, m4.1, b35, R5, g5, by rw [List.length_take]; omega, but_free B4 (b3.trans b4) nN⟩ (fun _ _ _ _ _ => trivial) (fun i v σ H5 H6 hi hP hy => ?_) (fun σ H5 hP => ?_)
          · obtain ⟨a, bs, y8, rfl, B5, b5, R5, g5, l5, f5⟩ := hP
            obtain ⟨rfl, c, hc, rfl⟩ := hy
            refine ⟨.ref a, rfl, .str z, rfl, 2, rfl, z, rfl, by omega, _, rfl, .ref p, rfl, p, rfl, B5, fun y H7 oy B7 b7 => ?_⟩
            have R7 := R5.but B5 b7
            have hi' : i < 26 := by have : i < qw.cps.size := hi; rw [qw_len] at this; exact this
            refine ⟨a, bs, ((cutS z none (some 2), ⟨#[c]⟩), y), rfl, R7, by omega, fun a' cs H8 S8 R8 e8 f8 => ?_⟩
            refine ⟨a', cs, _, rfl, B7.same S8, (b5.trans b7).trans (Same.but S8), R8, ?_, ?_, add_free B7 (b5.trans b7) f5 f8⟩
            · rw [e8]; exact gd_add g5 ⟨stem_ad hS (by decide), qw_name c (List.mem_of_getElem? (by rw [Array.getElem?_toList]; exact hc)), oy⟩
            · have := len_add (rs := bs.map (·.2)) (r := ((cutS z none (some 2), ⟨#[c]⟩), y))
              rw [← e8, List.length_map, List.length_map] at this
              omega
          · obtain ⟨a, bs, y8, rfl, B5, b5, R5, g5, l5, f5⟩ := hP
            exact ⟨a, bs, y5, y6, y7, y8, rfl, B5, b5, R5, g5, by have : qw.cps.size = 26 := qw_len; omega, f5⟩
        · exact (⟨a, bs, y5, y6, y7, none, rfl, B4, b3.trans b4, R3.but B3 b4, g3, by omega, fa⟩ : ∃ a bs y5 y6 y7 y8, _ = [some (V.ref p), some (.ref l), some (.str z), some (.ref a), some (.int n), y5, y6, y7, y8] ∧ Box H4 p ∧ But p H H4 ∧ LR H4 a bs ∧ Gd (bs.map (·.2)) ∧ bs.length ≤ 30 ∧ H a = none)
      · rintro σ' H4 ⟨a, bs, y5, y6, y7, y8, rfl, B4, b4, R4, g4, l4, f4⟩
        exact ⟨.ref a, rfl, q a bs H4 f4 R4 g4 l4 B4 b4⟩
end
end Tb
namespace Tb
open PySem PySem.Spec PyProof.Rows L2
abbrev sLChg : Stmt := topS 32
abbrev NLChg : List Str := ["box", "rows", "lands", "stem", "k", "way", "at", "prefix", "land"]
theorem scLChg : FnScope NLChg ["box", "rows", "lands", "stem"] (defScope sLChg) := ⟨rfl, rfl, rfl, by decide +kernel, rfl, by decide +kernel, by decide +kernel⟩
theorem gd_sub {rs qs : List Rw} (g : Gd rs) (h : qs.Sublist rs) : Gd qs := ⟨fun r hr => g.1 r (h.subset hr), g.2.sublist (h.map _)⟩
theorem gd_rev {rs : List Rw} (g : Gd rs) : Gd rs.reverse := ⟨fun r hr => g.1 r (List.mem_reverse.mp hr), by rw [List.map_reverse]; exact List.pairwise_reverse.mpr (g.2.imp fun h => h.symm)⟩
theorem gd_set {rs : List Rw} {j : Nat} {r : Rw} {y : Option Int} (g : Gd rs) (e : rs[j]? = some r) (oy : okP y) : Gd (rs.set j (r.1, y)) := by
  refine ⟨fun c hc => ?_, ?_⟩
  · rcases List.mem_or_eq_of_mem_set hc with hc | rfl
    · exact g.1 c hc
    · have := g.1 r (List.mem_of_getElem? e)
      exact ⟨this.1, this.2.1, oy⟩
  · have : (rs.set j (r.1, y)).map Prod.fst = rs.map Prod.fst := by
      refine List.ext_getElem? fun i => ?_
      rw [List.getElem?_map, List.getElem?_map, List.getElem?_set]
      split
      · rename_i c
        subst c
        split
        · rw [e]; rfl
        · rename_i c
          rw [List.getElem?_eq_none (by omega)] at e
          cases e
      · rfl
    rw [this]
    exact g.2
theorem map_eraseIdx' {α β : Type} (f : α → β) : ∀ (xs : List α) (j : Nat), (xs.eraseIdx j).map f = (xs.map f).eraseIdx j
  | [], _ => rfl
  | _ :: _, 0 => rfl
  | x :: xs, j + 1 => by
    show f x :: (xs.eraseIdx j).map f = f x :: (xs.map f).eraseIdx j
    rw [map_eraseIdx' f xs j]
theorem len_map {α β : Type} {f : α → β} {xs : List α} : (xs.map f).length = xs.length := List.length_map _
theorem okP_rate {rs : List Rw} (g : Gd rs) {h l : Str} {x : Option Int} (k : RateIs rs h l x) : okP x := by
  obtain ⟨b, kb, rfl⟩ := k
  cases b with
  | none => exact fun i e => by cases e; decide
  | some r => exact (g.1 r kb.1).2.2
theorem ixN_of {n j : Nat} (h : j < n) : ixN n (j : Int) = some j := by
  unfold ixN
  rw [if_pos (by omega), if_pos (by omega)]
  rfl
theorem gname_go {i : Nat} {x : V} {σ : L2.St} {H : Hp} {Q : L2.St → Hp → Prop} (h : Q (σ.set i (some x)) H) : gName i x σ H Q := h
section
variable {P : Program} {w : World} {K : PySem.W.Frag} {mg : Str → Option Value} {base : Heap}
abbrev CLRate (P : Program) (w : World) (K : PySem.W.Frag) (mg : Str → Option Value) (base : Heap) (g : Addr) (gd : FuncData) := C1 P w K mg base "_law_rate" sLRate ["rows", "heading", "land"] 1 spLRate g gd
def spLChg : Sp := fun vs H Q _ => ∃ (p r l : Addr) (z : Str) (ks : List Str) (bs : List (Addr × Rw)), vs = [.ref p, .ref r, .ref l, .str z] ∧ Box H p ∧ LR H r bs ∧ Gd (bs.map (·.2)) ∧ bs.length ≤ 30 ∧ Lns H l ks ∧ Stem z ∧
  ∀ (a : Addr) (cs : List (Addr × Rw)) (H' : Hp), H a = none → LR H' a cs → Gd (cs.map (·.2)) → cs.length ≤ 40 → Box H' p → But p H H' → Q (.ref a) H'
theorem ok_lchg {f g1 g2 g3 g4 g5 : Addr} {fd gd1 gd2 gd3 gd4 gd5 : FuncData} (F : Fun K "_law_changed" "_law_changed" sLChg f fd) (B : Blt mg) (cDraw : CDraw P w K mg base g1 gd1) (cPrefix : CPrefix P w K mg base g2 gd2) (cPrice : CPrice P w K mg base g3 gd3) (cAdded : CAdded P w K mg base g4 gd4) (cLRate : CLRate P w K mg base g5 gd5) :
    FnOk P w K mg base CX0 4 f fd ["box", "rows", "lands", "stem"] spLChg := by
  refine F.ok scLChg (fun vs H Q E h => ?_) (fun cdv A outer s H vs Q E hr h => ?_)
  · obtain ⟨p, r, l, z, ks, bs, rfl, _⟩ := h
    rfl
  · obtain ⟨p, r, l, z, ks, bs0, rfl, hB, hR, g0, n0, hL, hS, q⟩ := h
    refine ⟨_, (pss_cons (ps_set (i := 1) scLChg.nd rfl (.inl rfl) (pe_callTy call_list_of (by rfl) B.list PyProof.Rows.boot_list (pa_cons (pv 1) pa_nil)))
      (pss_cons (ps_for PassesOwn.never rfl (pi_range1 (by rfl) B.range (pa_cons (pe_call cDraw.G (hr.mono (by first | decide | omega)) (by rfl) cDraw.D.g cDraw.D.F.kp cDraw.D.b .nil pass0 (pa_cons (pv 0) (pa_cons pe_int pa_nil))) pa_nil)) (pg_name (i := 4) scLChg.nd rfl (.inl rfl))
        (pss_cons (ps_set (i := 5) scLChg.nd rfl (.inl rfl) (pe_call cDraw.G (hr.mono (by first | decide | omega)) (by rfl) cDraw.D.g cDraw.D.F.kp cDraw.D.b .nil pass0 (pa_cons (pv 0) (pa_cons pe_int pa_nil))))
        (pss_cons (ps_set (i := 6) scLChg.nd rfl (.inl rfl) (pe_call cDraw.G (hr.mono (by first | decide | omega)) (by rfl) cDraw.D.g cDraw.D.F.kp cDraw.D.b .nil pass0 (pa_cons (pv 0) (pa_cons (pe_callB call_len_seq (by rfl) B.len PySem.boot_len (pa_cons (pv 1) pa_nil)) pa_nil))))
        (pss_cons (ps_set (i := 7) scLChg.nd rfl (.inl rfl) (pe_call cPrefix.G (hr.mono (by first | decide | omega)) (by rfl) cPrefix.D.g cPrefix.D.F.kp cPrefix.D.b .nil pass0 (pa_cons (pv 0) (pa_cons (pv 3) pa_nil))))
        (pss_cons (ps_set (i := 8) scLChg.nd rfl (.inl rfl) (pe_ix ix_list (pe_op op_cat (pv 2) (pe_lst (pa_cons pe_str pa_nil))) (pe_call cDraw.G (hr.mono (by first | decide | omega)) (by rfl) cDraw.D.g cDraw.D.F.kp cDraw.D.b .nil pass0 (pa_cons (pv 0) (pa_cons pe_int pa_nil))) (fun _ _ => rfl)))
        (pss_one (ps_if (PW.pt (pw_and (pt_cmpR op_eq (pv 5) pe_int (nomark _)) (pw_and1 (pt_cmpR op_gt (pe_callB call_len_seq (by rfl) B.len PySem.boot_len (pa_cons (pv 1) pa_nil)) pe_int (nomark _)))))
          (pss_one (ps_expr (pe_bm PySem.F.plainAttrs_list PySem.F.slot_list_pop PySem.F.type_list_pop mt_popAt (pv 1) (pa_cons (pv 6) pa_nil))))
          (pss_one (ps_if (PW.pt (pw_and (pt_cmpR op_eq (pv 5) pe_int (nomark _)) (pw_and1 (pt_cmpR op_gt (pe_callB call_len_seq (by rfl) B.len PySem.boot_len (pa_cons (pv 1) pa_nil)) pe_int (nomark _)))))
            (pss_one (ps_asg (pe_tup (pa_cons (pe_ix ix_tup (pe_ix ix_list (pv 1) (pv 6) (fun _ _ => rfl)) pe_int (fun _ _ => rfl)) (pa_cons (pe_ix ix_tup (pe_ix ix_list (pv 1) (pv 6) (fun _ _ => rfl)) pe_int (fun _ _ => rfl)) (pa_cons (pe_call cPrice.G (hr.mono (by first | decide | omega)) (by rfl) cPrice.D.g cPrice.D.F.kp cPrice.D.b .nil pass0 (pa_cons (pv 0) pa_nil)) pa_nil)))) (pg_sub (pv 1) (pv 6) set_list)))
            (pss_one (ps_if (pt_cmpR op_eq (pv 5) pe_int (nomark _))
              (pss_one (ps_expr (pe_bm0 PySem.F.plainAttrs_list PySem.F.slot_list_reverse PySem.F.type_list_reverse mt_reverse (pv 1))))
              (pss_one (ps_if (PW.pt (pw_and (pt_cmpR op_eq (pv 5) pe_int (nomark _)) (pw_and1 (pt_cmpR op_gt (pe_callB call_len_seq (by rfl) B.len PySem.boot_len (pa_cons (pv 1) pa_nil)) pe_int (nomark _)))))
                (pss_cons (ps_set (i := 7) scLChg.nd rfl (.inl rfl) (pe_slice sl_str (pe_op op_add_str (pe_ix ix_tup (pe_ix ix_list (pv 1) (pv 6) (fun _ _ => rfl)) pe_int (fun _ _ => rfl)) (pe_item_str pe_str (pe_call cDraw.G (hr.mono (by first | decide | omega)) (by rfl) cDraw.D.g cDraw.D.F.kp cDraw.D.b .nil pass0 (pa_cons (pv 0) (pa_cons pe_int pa_nil))) (fun _ _ => rfl))) po_none (po_some pe_int)))
                (pss_one (ps_set (i := 1) scLChg.nd rfl (.inl rfl) (pe_call cAdded.G (hr.mono (by first | decide | omega)) (by rfl) cAdded.D.g cAdded.D.F.kp cAdded.D.b .nil pass0 (pa_cons (pv 1) (pa_cons (pv 7) (pa_cons (pe_ix ix_tup (pe_ix ix_list (pv 1) (pv 6) (fun _ _ => rfl)) pe_int (fun _ _ => rfl)) (pa_cons (pe_call cLRate.G (hr.mono (by first | decide | omega)) (by rfl) cLRate.D.g cLRate.D.F.kp cLRate.D.b .nil pass0 (pa_cons (pv 1) (pa_cons (pv 7) (pa_cons (pe_ix ix_tup (pe_ix ix_list (pv 1) (pv 6) (fun _ _ => rfl)) pe_int (fun _ _ => rfl)) pa_nil)))) pa_nil))))))))
                (pss_one (ps_if (pt_cmpR op_lt (pv 5) pe_int (nomark _))
                  (pss_one (ps_set (i := 1) scLChg.nd rfl (.inl rfl) (pe_call cAdded.G (hr.mono (by first | decide | omega)) (by rfl) cAdded.D.g cAdded.D.F.kp cAdded.D.b .nil pass0 (pa_cons (pv 1) (pa_cons (pv 7) (pa_cons (pv 8) (pa_cons (pe_call cLRate.G (hr.mono (by first | decide | omega)) (by rfl) cLRate.D.g cLRate.D.F.kp cLRate.D.b .nil pass0 (pa_cons (pv 1) (pa_cons (pv 7) (pa_cons (pv 8) pa_nil)))) pa_nil)))))))
                  (pss_one (ps_set (i := 1) scLChg.nd rfl (.inl rfl) (pe_call cAdded.G (hr.mono (by first | decide | omega)) (by rfl) cAdded.D.g cAdded.D.F.kp cAdded.D.b .nil pass0 (pa_cons (pv 1) (pa_cons (pv 7) (pa_cons (pv 8) (pa_cons (pe_call cPrice.G (hr.mono (by first | decide | omega)) (by rfl) cPrice.D.g cPrice.D.F.kp cPrice.D.b .nil pass0 (pa_cons (pv 0) pa_nil)) pa_nil))))))))))))))))))))))
      (pss_one (ps_ret (pv 1))))), ?_⟩
    have hz : sizeLine = 16777216 := rfl
    have zl := hS.1
    refine ⟨.ref r, rfl, r, _, rfl, .inl (sqOf hR.l), fun D nD => ?_⟩
    have bn := box_new (o := .lst (bs0.map fun b => V.ref b.1)) hB nD
    have R0 : LR (upd H D (.lst (bs0.map fun b => V.ref b.1))) D bs0 := ⟨upd_same, (hR.same (same_upd nD)).t⟩
    refine ⟨.ref p, rfl, p, 4, rfl, bn.1, by decide, fun n H1 m0 m1 B1 b1 => ⟨n, rfl, by omega, by omega, ?_⟩⟩
    refine for_range (lo := 0) (n := n.toNat) (fun i σ H3 => ∃ a bs y4 y5 y6 y7 y8, σ = [some (.ref p), some (.ref a), some (.ref l), some (.str z), y4, y5, y6, y7, y8] ∧ Box H3 p ∧ But p H H3 ∧ LR H3 a bs ∧ Gd (bs.map (·.2)) ∧ bs.length ≤ 30 + i ∧ H a = none)
      ⟨D, bs0, none, none, none, none, none, rfl, B1, bn.2.trans b1, R0.but bn.1 b1, g0, n0, nD⟩ ?_ ?_
    · rintro i σ H3 hi ⟨a, bs, y4, y5, y6, y7, y8, rfl, B3, b3, R3, g3, ln, fa⟩
      refine ⟨.ref p, rfl, p, 7, rfl, B3, by decide, fun W H4 W0 W1 B4 b4 => ?_⟩
      have R4 := R3.but B3 b4
      have b34 := b3.trans b4
      refine ⟨.ref p, rfl, .ref a, rfl, a, _, rfl, .inl (sqOf R4.l), p, _, rfl, B4, by rw [List.length_map]; omega, fun t H5 t0 t1 B5 b5 => ?_⟩
      rw [List.length_map] at t1
      have R5 := R4.but B4 b5
      have b35 := b34.trans b5
      refine ⟨.ref p, rfl, .str z, rfl, p, z, rfl, B5, hS, fun x H6 ax B6 b6 => ?_⟩
      have R6 := R5.but B5 b6
      have b36 := b35.trans b6
      have L6 := hL.kp (But.kp hB b36)
      refine ⟨.ref l, rfl, by show 1 ≤ sizeLine; omega, fun M nM => ?_⟩
      have m4 := box_new (o := .lst [V.str (Str.ofString "")]) B6 nM
      have L7 := L6.kp (Same.kp (same_upd (o := .lst [V.str (Str.ofString "")]) nM))
      refine ⟨l, M, _, _, rfl, rfl, L7.l, upd_same, by rw [List.length_map, L6.n]; show 3 + 1 ≤ _; omega, fun N nN => ?_⟩
      have m5 := box_new (o := .lst (ks.map V.str ++ [V.str (Str.ofString "")])) m4.1 nN
      refine ⟨.ref p, rfl, p, 4, rfl, m5.1, by decide, fun v H7 v0 v1 B7 b7 => ?_⟩
      have hN := b7 N _ upd_same (m5.1.ne upd_same (by have := ni_strs (ks ++ [Str.ofString ""]); rwa [List.map_append] at this))
      have lv : v.toNat < (ks ++ [Str.ofString ""]).length := by rw [List.length_append, L6.n]; show _ < 3 + 1; omega
      refine ⟨N, _, v, _, rfl, rfl, sqOf hN, at_nat v0 (show (ks.map V.str ++ [V.str (Str.ofString "")])[v.toNat]? = _ by rw [show ks.map V.str ++ [V.str (Str.ofString "")] = (ks ++ [Str.ofString ""]).map V.str by rw [List.map_append]; rfl]; exact strs_at lv), ?_⟩
      have hla := lane_ks L6.d (List.getElem_mem lv)
      generalize (ks ++ [Str.ofString ""])[v.toNat] = la at hla
      have b7' := (b36.trans (m4.2.trans m5.2)).trans b7
      have R7 := ((R6.but B6 m4.2).but m4.1 m5.2).but m5.1 b7
      have ap : a ≠ p := B7.ne R7.l (ni_bs bs)
      have xl : x.length ≤ 8 := by have := ((isAddr_iff x).mp ax).2.1; rw [len_tl]; exact this
      have pl : ∀ b ∈ bs, b.2.1.1.length ≤ 1000 := fun b m => by
        have := ((isAddr_iff _).mp (g3.1 b.2 (List.mem_map.mpr ⟨b, m, rfl⟩)).1).2.1
        rw [← len_tl] at this; omega
      -- a change of the list in place
      have inpl : ∀ (T : Hp) (cs : List (Addr × Rw)), LR (upd T a (.lst (cs.map fun b => V.ref b.1))) a cs → Gd (cs.map (·.2)) → cs.length ≤ bs.length → Box T p → But p H T → ∃ a' cs' y4' y5' y6' y7' y8', ([some (.ref p), some (.ref a), some (.ref l), some (.str z), some (.int (0 + (i : Int))), some (.int W), some (.int t), some (.str x), some (.str la)] : L2.St) = [some (V.ref p), some (V.ref a'), some (V.ref l), some (V.str z), y4', y5', y6', y7', y8'] ∧ Box (upd T a (.lst (cs.map fun b => V.ref b.1))) p ∧ But p H (upd T a (.lst (cs.map fun b => V.ref b.1))) ∧ LR (upd T a (.lst (cs.map fun b => V.ref b.1))) a' cs' ∧ Gd (cs'.map (·.2)) ∧ cs'.length ≤ 30 + (i + 1) ∧ H a' = none := fun T cs R g hl BT bT => by
        refine ⟨a, cs, _, _, _, _, _, rfl, ?_, fun b o hb hbp => ?_, R, g, by omega, fa⟩
        · obtain ⟨r, a1, b1, c1, hp, rest⟩ := BT
          exact ⟨r, a1, b1, c1, by rw [upd_ne ap.symm]; exact hp, rest⟩
        · rw [upd_ne (ne_of_none hb fa)]; exact bT b o hb hbp
      have at_ : 0 < bs.length → ∃ b, bs[t.toNat]? = some b ∧ (bs.map fun b => V.ref b.1)[t.toNat]? = some (.ref b.1) ∧ t.toNat < bs.length := fun h0 => by
        have lt : t.toNat < bs.length := by omega
        exact ⟨bs[t.toNat], List.getElem?_eq_getElem lt, by rw [List.getElem?_map, List.getElem?_eq_getElem lt]; rfl, lt⟩
      have lenq : ∀ (H9 : Hp) (Q' : Bool → Hp → Prop), LR H9 a bs → Q' (decide (0 < bs.length)) H9 → ∃ xs, SqL K H9 a xs ∧ Q' (decide ((0 : Int) < (xs.length : Int))) H9 := fun H9 Q' R q' => ⟨_, sqOf R.l, by
        rw [List.length_map, show decide ((0 : Int) < (bs.length : Int)) = decide (0 < bs.length) from decide_eq_decide.mpr (by omega)]; exact q'⟩
      refine gname_go ?_
      dsimp only
      show tIfS (tAnd _ _) _ _ _ _ _
      refine tand_at (decide (W = 0)) (decide (0 < bs.length)) (fun Q' q' => ?_) (fun _ Q' q' => ?_) ?_
      · exact ⟨.int W, rfl, rfl, _, rfl, by simpa using q'⟩
      · refine ⟨.ref a, rfl, a, _, rfl, .inl (sqOf R7.l), _, 0, rfl, rfl, _, rfl, ?_⟩
        rw [List.length_map, show decide ((0 : Int) < (bs.length : Int)) = decide (0 < bs.length) from decide_eq_decide.mpr (by omega)]
        exact q'
      refine ite2 (fun e => ?_) (fun e => ?_)
      · rw [Bool.and_eq_true, decide_eq_true_eq, decide_eq_true_eq] at e
        obtain ⟨b, eb, ev, lt⟩ := at_ e.2
        have R8 : LR (upd H7 a (.lst ((bs.eraseIdx t.toNat).map fun b => V.ref b.1))) a (bs.eraseIdx t.toNat) := ⟨upd_same, fun c hc => by
          have m := (List.eraseIdx_sublist bs t.toNat).subset hc
          rw [upd_ne (ne_of (R7.t c m) R7.l (fun z => by cases z))]; exact R7.t c m⟩
        refine ⟨.ref a, rfl, .inl ⟨rfl, _, sqOf R7.l⟩, .int t, rfl, a, _, t, t.toNat, _, rfl, rfl, R7.l, by omega, by omega, seqIndex_of t0 (by rw [List.length_map]; omega), ev, ?_⟩
        rw [← map_eraseIdx']
        refine inpl H7 _ R8 ?_ ?_ B7 b7'
        · rw [map_eraseIdx']; exact gd_sub g3 (List.eraseIdx_sublist _ _)
        · rw [List.length_eraseIdx]; split <;> omega
      refine tand_at (decide (W = 1)) (decide (0 < bs.length)) (fun Q' q' => ?_) (fun _ Q' q' => ?_) ?_
      · exact ⟨.int W, rfl, rfl, _, rfl, by simpa using q'⟩
      · refine ⟨.ref a, rfl, a, _, rfl, .inl (sqOf R7.l), _, 0, rfl, rfl, _, rfl, ?_⟩
        rw [List.length_map, show decide ((0 : Int) < (bs.length : Int)) = decide (0 < bs.length) from decide_eq_decide.mpr (by omega)]
        exact q'
      refine ite2 (fun e => ?_) (fun e => ?_)
      · rw [Bool.and_eq_true, decide_eq_true_eq, decide_eq_true_eq] at e
        obtain ⟨b, eb, ev, lt⟩ := at_ e.2
        have hb := R7.t b (List.mem_of_getElem? eb)
        refine ⟨.ref a, rfl, .int t, rfl, a, _, t, _, rfl, rfl, sqOf R7.l, at_nat t0 ev, b.1, _, 0, _, rfl, rfl, .of hb, rfl, .ref a, rfl, .int t, rfl, a, _, t, _, rfl, rfl, sqOf R7.l, at_nat t0 ev, b.1, _, 1, _, rfl, rfl, .of hb, rfl, .ref p, rfl, p, rfl, B7, fun y H8 oy B8 b8 => ?_⟩
        have R8 := R7.but B7 b8
        refine ⟨by show 3 ≤ sizeLine; omega, fun T nT => ?_⟩
        have m8 := box_new (o := .tup (rwV (b.2.1, y))) B8 nT
        have R9 := R8.but B8 m8.2
        refine ⟨.ref a, rfl, .int t, rfl, a, _, t, t.toNat, rfl, rfl, R9.l, ?_, ?_⟩
        · rw [List.length_map]
          have e2 : t = (t.toNat : Int) := by omega
          rw [e2]; exact ixN_of lt
        have es : (bs.map fun b => V.ref b.1).set t.toNat (.ref T) = (bs.set t.toNat (T, (b.2.1, y))).map fun b => V.ref b.1 := by rw [List.map_set]
        rw [es]
        refine inpl _ _ ⟨upd_same, fun c hc => ?_⟩ ?_ (by rw [List.length_set]; exact Nat.le_refl _) m8.1 ((b7'.trans b8).trans m8.2)
        · rcases List.mem_or_eq_of_mem_set hc with hc | rfl
          · rw [upd_ne (ne_of (R9.t c hc) R9.l (fun z => by cases z))]; exact R9.t c hc
          · have hT : upd H8 T (.tup (rwV (b.2.1, y))) T = _ := upd_same
            rw [upd_ne (ne_of hT R9.l (fun z => by cases z))]; exact hT
        · rw [List.map_set]
          exact gd_set g3 (by rw [List.getElem?_map, eb]; rfl) oy
      refine ⟨.int W, rfl, rfl, _, rfl, ite2 (fun e => ?_) (fun e => ?_)⟩
      · refine ⟨.ref a, rfl, .inl ⟨rfl, _, sqOf R7.l⟩, a, _, rfl, rfl, R7.l, ?_⟩
        rw [← List.map_reverse]
        refine inpl H7 _ ⟨upd_same, fun c hc => ?_⟩ (by rw [List.map_reverse]; exact gd_rev g3) (by rw [List.length_reverse]; exact Nat.le_refl _) B7 b7'
        have m := List.mem_reverse.mp hc
        rw [upd_ne (ne_of (R7.t c m) R7.l (fun z => by cases z))]; exact R7.t c m
      -- a new list
      have more : ∀ (T H9 : Hp) (x' : Str) (r' : Rw) (a' : Addr) (cs : List (Addr × Rw)), Box T p → But p H T → Same T H9 → LR H9 a' cs → cs.map (·.2) = addR (bs.map (·.2)) r' → okR r' → (a' = a ∨ T a' = none) → ∃ a'' cs' y4' y5' y6' y7' y8', ([some (.ref p), some (.ref a'), some (.ref l), some (.str z), some (.int (0 + (i : Int))), some (.int W), some (.int t), some (.str x'), some (.str la)] : L2.St) = [some (V.ref p), some (V.ref a''), some (V.ref l), some (V.str z), y4', y5', y6', y7', y8'] ∧ Box H9 p ∧ But p H H9 ∧ LR H9 a'' cs' ∧ Gd (cs'.map (·.2)) ∧ cs'.length ≤ 30 + (i + 1) ∧ H a'' = none := fun T H9 x' r' a' cs BT bT S R e ok f => by
        refine ⟨a', cs, _, _, _, _, _, rfl, BT.same S, bT.trans (Same.but S), R, by rw [e]; exact gd_add g3 ok, ?_, add_free BT bT fa f⟩
        have := len_add (rs := bs.map (·.2)) (r := r')
        rw [← e, List.length_map, List.length_map] at this
        omega
      refine tand_at (decide (W = 3)) (decide (0 < bs.length)) (fun Q' q' => ?_) (fun _ Q' q' => ?_) ?_
      · exact ⟨.int W, rfl, rfl, _, rfl, by simpa using q'⟩
      · refine ⟨.ref a, rfl, a, _, rfl, .inl (sqOf R7.l), _, 0, rfl, rfl, _, rfl, ?_⟩
        rw [List.length_map, show decide ((0 : Int) < (bs.length : Int)) = decide (0 < bs.length) from decide_eq_decide.mpr (by omega)]
        exact q'
      refine ite2 (fun e => ?_) (fun e => ?_)
      · rw [Bool.and_eq_true, decide_eq_true_eq, decide_eq_true_eq] at e
        obtain ⟨b, eb, ev, lt⟩ := at_ e.2
        have mb := List.mem_of_getElem? eb
        have hb := R7.t b mb
        have okb := g3.1 b.2 (List.mem_map.mpr ⟨b, mb, rfl⟩)
        have ab := (isAddr_iff _).mp okb.1
        have bl : b.2.1.1.length ≤ 8 := by rw [len_tl]; exact ab.2.1
        refine ⟨.ref a, rfl, .int t, rfl, a, _, t, _, rfl, rfl, sqOf R7.l, at_nat t0 ev, b.1, _, 0, _, rfl, rfl, .of hb, rfl, .ref p, rfl, p, 10, rfl, B7, by decide, fun u H8 u0 u1 B8 b8 => ?_⟩
        have dl := dg_len
        obtain ⟨c, ec⟩ := at_sign (z := digits) (i := u) (by omega) u0
        have R8 := R7.but B7 b8
        have hb8 := R8.t b mb
        have b8' := b7'.trans b8
        refine ⟨digits, u, c, rfl, rfl, u0, by omega, by omega, ec, _, _, rfl, rfl, by rw [one_len]; omega, 8, rfl, _, rfl, by rw [app_len, one_len]; omega, ?_⟩
        have axn : isAddr (cutS (b.2.1.1 ++ ⟨#[c]⟩) none (some 8)) = true := by
          refine (isAddr_iff _).mpr ?_
          rw [show (8 : Int) = ((8 : Nat) : Int) from rfl, tl_hi, tl_app, tl_one]
          refine ⟨?_, ?_, fun d hd => ?_⟩
          · rw [List.length_take, List.length_append]; show 1 ≤ min 8 (_ + 1); omega
          · rw [List.length_take]; omega
          · have hd := List.mem_of_mem_take hd
            rcases List.mem_append.mp hd with hd | hd
            · exact ab.2.2 d hd
            · rw [List.mem_singleton.mp hd]; exact dg_any ec
        generalize cutS (b.2.1.1 ++ ⟨#[c]⟩) none (some 8) = x' at axn
        have xl' : x'.length ≤ 8 := by have := ((isAddr_iff x').mp axn).2.1; rw [len_tl]; exact this
        refine ⟨.ref a, rfl, .str x', rfl, .ref a, rfl, .int t, rfl, a, _, t, _, rfl, rfl, sqOf R8.l, at_nat t0 ev, b.1, _, 1, _, rfl, rfl, .of hb8, rfl, .ref a, rfl, .str x', rfl, .ref a, rfl, .int t, rfl, a, _, t, _, rfl, rfl, sqOf R8.l, at_nat t0 ev, b.1, _, 1, _, rfl, rfl, .of hb8, rfl, a, x', b.2.1.2, bs, rfl, R8, by omega, by omega, pl, fun y ry => ?_⟩
        exact ⟨a, bs, ((x', b.2.1.2), y), rfl, R8, by omega, fun a' cs H9 S9 R9 e9 f9 => more H8 H9 x' _ a' cs B8 b8' S9 R9 e9 ⟨axn, okb.2.1, okP_rate g3 ry⟩ f9⟩
      refine ⟨.int W, rfl, W, 6, rfl, rfl, _, rfl, ite2 (fun e => ?_) (fun e => ?_)⟩
      · refine ⟨.ref a, rfl, .str x, rfl, .str la, rfl, .ref a, rfl, .str x, rfl, .str la, rfl, a, x, la, bs, rfl, R7, by omega, by omega, pl, fun y ry => ?_⟩
        exact ⟨a, bs, ((x, la), y), rfl, R7, by omega, fun a' cs H9 S9 R9 e9 f9 => more H7 H9 x _ a' cs B7 b7' S9 R9 e9 ⟨ax, hla, okP_rate g3 ry⟩ f9⟩
      · refine ⟨.ref a, rfl, .str x, rfl, .str la, rfl, .ref p, rfl, p, rfl, B7, fun y H8 oy B8 b8 => ?_⟩
        have R8 := R7.but B7 b8
        exact ⟨a, bs, ((x, la), y), rfl, R8, by omega, fun a' cs H9 S9 R9 e9 f9 => more H8 H9 x _ a' cs B8 (b7'.trans b8) S9 R9 e9 ⟨ax, hla, oy⟩ f9⟩
    · rintro σ H3 ⟨a, bs, y4, y5, y6, y7, y8, rfl, B3, b3, R3, g3, ln, fa⟩
      exact ⟨.ref a, rfl, q a bs H3 fa R3 g3 (by omega) B3 b3⟩
end
end Tb
namespace Tb
open PySem PySem.Spec PyProof.Rows L2
abbrev sFresh : Stmt := topS 33
abbrev NFresh : List Str := ["names", "letters", "letter", "sign"]
theorem scFresh : FnScope NFresh ["names"] (defScope sFresh) := ⟨rfl, rfl, rfl, by decide +kernel, rfl, by decide +kernel, by decide +kernel⟩
/-! ### the least name that is not among some -/
def L1 : List Str := (tl letters).map fun c => ⟨#[c]⟩
def rowL (a : Str) : List Str := (tl (digits ++ letters)).map fun c => a ++ ⟨#[c]⟩
def L2l : List Str := L1.flatMap rowL
theorem l1_name : ∀ y ∈ L1, isName y = true := by decide +kernel
theorem l2_name : ∀ y ∈ L2l, isName y = true := by decide +kernel
theorem l2_part : ((L1.take 3).flatMap rowL).Nodup ∧ ((L1.take 3).flatMap rowL).length = 108 := by decide +kernel
theorem l2_sub : ∀ y ∈ (L1.take 3).flatMap rowL, y ∈ L2l := fun y h => by
  obtain ⟨a, ha, h2⟩ := List.mem_flatMap.mp h
  exact List.mem_flatMap.mpr ⟨a, List.mem_of_mem_take ha, h2⟩
/-- x is the first of the list that is not among S -/
def FirstOut (S L : List Str) (x : Str) : Prop := ∃ p q, L = p ++ x :: q ∧ x ∉ S ∧ ∀ y ∈ p, y ∈ S
theorem find_out {S : List Str} {x : Str} {q : List Str} (hx : x ∉ S) : ∀ p : List Str, (∀ y ∈ p, y ∈ S) → (p ++ x :: q).find? (fun y => decide (y ∉ S)) = some x
  | [], _ => List.find?_cons_of_pos (by simpa using hx)
  | y :: p, h => by
    rw [List.cons_append, List.find?_cons_of_neg (by simpa using h y List.mem_cons_self)]
    exact find_out hx p fun z hz => h z (List.mem_cons_of_mem _ hz)
theorem firstOut_uniq {S L : List Str} {x y : Str} (h : FirstOut S L x) (k : FirstOut S L y) : x = y := by
  obtain ⟨p, q, e, hx, hp⟩ := h
  obtain ⟨p2, q2, e2, hy, hp2⟩ := k
  have a := find_out (q := q) hx p hp
  have b := find_out (q := q2) hy p2 hp2
  rw [← e] at a
  rw [← e2, a] at b
  exact Option.some.inj b
theorem firstOut_set {S T L : List Str} (m : ∀ x, x ∈ S ↔ x ∈ T) {x : Str} (h : FirstOut S L x) : FirstOut T L x := by
  obtain ⟨p, q, e, hx, hp⟩ := h
  exact ⟨p, q, e, fun z => hx ((m x).mpr z), fun y hy => (m y).mp (hp y hy)⟩
def IsFree (S : List Str) (x : Str) : Prop := FirstOut S L1 x ∨ ((∀ y ∈ L1, y ∈ S) ∧ FirstOut S L2l x)
theorem out_mem {S L : List Str} {x : Str} (h : FirstOut S L x) : x ∈ L ∧ x ∉ S := by
  obtain ⟨p, q, e, hx, _⟩ := h
  exact ⟨by rw [e]; exact List.mem_append_right _ List.mem_cons_self, hx⟩
theorem free_uniq {S : List Str} {x y : Str} (h : IsFree S x) (k : IsFree S y) : x = y := by
  rcases h with h | ⟨h1, h⟩
  · rcases k with k | ⟨k1, k⟩
    · exact firstOut_uniq h k
    · exact absurd (k1 x (out_mem h).1) (out_mem h).2
  · rcases k with k | ⟨k1, k⟩
    · exact absurd (h1 y (out_mem k).1) (out_mem k).2
    · exact firstOut_uniq h k
theorem free_set {S T : List Str} (m : ∀ x, x ∈ S ↔ x ∈ T) {x : Str} (h : IsFree S x) : IsFree T x := h.elim (fun h => .inl (firstOut_set m h)) fun h => .inr ⟨fun y hy => (m y).mp (h.1 y hy), firstOut_set m h.2⟩
theorem free_name {S : List Str} {x : Str} (h : IsFree S x) : isName x = true ∧ x ∉ S := h.elim (fun h => ⟨l1_name x (out_mem h).1, (out_mem h).2⟩) fun h => ⟨l2_name x (out_mem h.2).1, (out_mem h.2).2⟩
theorem l2_room {S : List Str} (h : S.length < 108) : ¬ ∀ y ∈ L2l, y ∈ S := fun k => by
  have := sub_len _ S l2_part.1 fun y hy => k y (l2_sub y hy)
  rw [l2_part.2] at this
  omega
theorem l1_at {i : Nat} {c : Nat} (h : letters.cps[i]? = some c) : L1[i]? = some ⟨#[c]⟩ := by
  unfold L1
  rw [List.getElem?_map, Array.getElem?_toList, h]
  rfl
theorem row_at {a : Str} {i : Nat} {c : Nat} (h : (digits ++ letters).cps[i]? = some c) : (rowL a)[i]? = some (a ++ ⟨#[c]⟩) := by
  unfold rowL
  rw [List.getElem?_map, Array.getElem?_toList, h]
  rfl
theorem split_at {α : Type} {L : List α} {i : Nat} {x : α} (h : L[i]? = some x) : L = L.take i ++ x :: L.drop (i + 1) := by
  have li := (List.getElem?_eq_some_iff.mp h).1
  have e := (List.getElem?_eq_some_iff.mp h).2
  rw [← e, ← List.drop_eq_getElem_cons li, List.take_append_drop]
theorem mem_take_succ {α : Type} {L : List α} {i : Nat} {x y : α} (h : L[i]? = some x) (m : y ∈ L.take (i + 1)) : y ∈ L.take i ∨ y = x := by
  rw [take_snoc h] at m
  rcases List.mem_append.mp m with m | m
  · exact .inl m
  · exact .inr (List.mem_singleton.mp m)
theorem l1_size : letters.cps.size = 26 := by decide +kernel
theorem l1_len : L1.length = 26 := by decide +kernel
theorem row_len (a : Str) : (rowL a).length = 36 := by
  unfold rowL
  rw [List.length_map]
  decide +kernel
theorem dl_size : (digits ++ letters).cps.size = 36 := by decide +kernel
theorem inV_iff {x : Str} {ks : List Str} : inV (.str x) (ks.map V.str) = decide (x ∈ ks) := by
  by_cases h : x ∈ ks
  · rw [decide_eq_true h]; exact inV_str h
  · rw [decide_eq_false h]; exact Bool.eq_false_iff.mpr fun e => h (str_inV e)
section
variable {P : Program} {w : World} {K : PySem.W.Frag} {mg : Str → Option Value} {base : Heap}
def spFresh : Sp := fun vs H Q _ => ∃ (a : Addr) (S : List Str), vs = [.ref a] ∧ H a = some (.lst (S.map V.str)) ∧ S.length < 108 ∧ ∀ x, IsFree S x → Q (.str x) H
theorem ok_fresh {f : Addr} {fd : FuncData} {k : Nat} (F : Fun K "_law_fresh" "_law_fresh" sFresh f fd) : FnOk P w K mg base CX0 (k + 1) f fd ["names"] spFresh := by
  refine F.ok scFresh (fun vs H Q E h => ?_) (fun cdv A outer s H vs Q E hr h => ?_)
  · obtain ⟨a, S, rfl, _⟩ := h
    rfl
  · obtain ⟨a, S, rfl, ha, hn, q⟩ := h
    refine ⟨_, (pss_cons (ps_set (i := 1) scFresh.nd rfl (.inl rfl) pe_str)
      (pss_cons (ps_for PassesOwn.never rfl (pi_str (pv 1)) (pg_name (i := 2) scFresh.nd rfl (.inl rfl))
        (pss_one (ps_if (pt_cmpR op_notIn_seq (pv 2) (pv 0) (by rfl))
          (pss_one (ps_ret (pv 2)))
          pss_nil)))
      (pss_cons (ps_for PassesOwn.never rfl (pi_str (pv 1)) (pg_name (i := 2) scFresh.nd rfl (.inl rfl))
        (pss_one (ps_for PassesOwn.never rfl (pi_str (pe_op op_add_str pe_str (pv 1))) (pg_name (i := 3) scFresh.nd rfl (.inl rfl))
          (pss_one (ps_if (pt_cmpR op_notIn_seq (pe_op op_add_str (pv 2) (pv 3)) (pv 0) (by rfl))
            (pss_one (ps_ret (pe_op op_add_str (pv 2) (pv 3))))
            pss_nil)))))
      (pss_one (ps_ret pe_str))))), ?_⟩
    have hz : sizeLine = 16777216 := rfl
    refine ⟨.str letters, rfl, letters, rfl, ?_⟩
    refine for_it (walk_str (z := letters)) (fun i σ H1 => H1 = H ∧ (∃ y2, σ = [some (.ref a), some (.str letters), y2, none]) ∧ ∀ y ∈ L1.take i, y ∈ S) ⟨rfl, ⟨none, rfl⟩, nofun⟩ (fun _ _ _ _ _ => trivial) (fun i v σ H1 H2 hi hP hy => ?_) (fun σ H1 hP => ?_)
    · obtain ⟨rfl, ⟨y2, rfl⟩, al⟩ := hP
      obtain ⟨rfl, c, hc, rfl⟩ := hy
      have e1 := l1_at hc
      refine ⟨_, rfl, .ref a, rfl, a, _, rfl, .inl (sqOf ha), rfl, flat_strs S, _, rfl, ?_⟩
      rw [if_pos rfl, inV_iff]
      refine ite2 (fun e => ?_) (fun e => ?_)
      · exact ⟨_, rfl, q _ (.inl ⟨_, _, split_at e1, by simpa using e, al⟩)⟩
      · have m : (⟨#[c]⟩ : Str) ∈ S := by simpa using e
        exact ⟨rfl, ⟨_, rfl⟩, fun y hy => (mem_take_succ e1 hy).elim (al y) fun e => by rw [e]; exact m⟩
    · obtain ⟨rfl, ⟨y2, rfl⟩, al⟩ := hP
      have all1 : ∀ y ∈ L1, y ∈ S := fun y hy => al y (by rw [l1_size, ← l1_len, List.take_length]; exact hy)
      refine ⟨.str letters, rfl, letters, rfl, ?_⟩
      refine for_it (walk_str (z := letters)) (fun i σ H2 => H2 = H1 ∧ (∃ y2 y3, σ = [some (.ref a), some (.str letters), y2, y3]) ∧ ∀ y ∈ (L1.take i).flatMap rowL, y ∈ S) ⟨rfl, ⟨_, _, rfl⟩, nofun⟩ (fun _ _ _ _ _ => trivial) (fun i v σ H2 H3 hi hP hy => ?_) (fun σ H2 hP => ?_)
      · obtain ⟨rfl, ⟨y2, y3, rfl⟩, al2⟩ := hP
        obtain ⟨rfl, c, hc, rfl⟩ := hy
        have e1 := l1_at hc
        refine ⟨.str letters, rfl, digits, letters, rfl, rfl, by have a1 := lt_len; have a2 := dg_len; omega, digits ++ letters, rfl, ?_⟩
        refine for_it (walk_str (z := digits ++ letters)) (fun j σ H4 => H4 = H3 ∧ (∃ y3, σ = [some (.ref a), some (.str letters), some (.str ⟨#[c]⟩), y3]) ∧ ∀ y ∈ (rowL ⟨#[c]⟩).take j, y ∈ S) ⟨rfl, ⟨_, rfl⟩, nofun⟩ (fun _ _ _ _ _ => trivial) (fun j v σ H4 H5 hj hP hy => ?_) (fun σ H4 hP => ?_)
        · obtain ⟨rfl, ⟨y3, rfl⟩, al3⟩ := hP
          obtain ⟨rfl, d, hd, rfl⟩ := hy
          have e2 := row_at (a := ⟨#[c]⟩) hd
          refine ⟨_, rfl, _, rfl, _, _, rfl, rfl, by show 1 + 1 ≤ sizeLine; omega, .ref a, rfl, a, _, rfl, .inl (sqOf ha), rfl, flat_strs S, _, rfl, ?_⟩
          rw [if_pos rfl, inV_iff]
          refine ite2 (fun e => ?_) (fun e => ?_)
          · refine ⟨_, rfl, _, rfl, _, _, rfl, rfl, by show 1 + 1 ≤ sizeLine; omega, q _ (.inr ⟨all1, (L1.take i).flatMap rowL ++ (rowL ⟨#[c]⟩).take j, (rowL ⟨#[c]⟩).drop (j + 1) ++ (L1.drop (i + 1)).flatMap rowL, ?_, by simpa using e, fun y hy => ?_⟩)⟩
            · unfold L2l
              conv => lhs; rw [split_at e1]
              rw [List.flatMap_append, List.flatMap_cons]
              conv => lhs; rw [split_at e2]
              simp only [List.append_assoc, List.cons_append]
            · exact (List.mem_append.mp hy).elim (al2 y) (al3 y)
          · have m : (⟨#[c]⟩ ++ ⟨#[d]⟩ : Str) ∈ S := by simpa using e
            exact ⟨rfl, ⟨_, rfl⟩, fun y hy => (mem_take_succ e2 hy).elim (al3 y) fun e => by rw [e]; exact m⟩
        · obtain ⟨rfl, ⟨y3, rfl⟩, al3⟩ := hP
          refine ⟨rfl, ⟨_, _, rfl⟩, fun y hy => ?_⟩
          rw [take_snoc e1, List.flatMap_append, List.mem_append] at hy
          rcases hy with hy | hy
          · exact al2 y hy
          · refine al3 y ?_
            rw [dl_size, ← row_len ⟨#[c]⟩, List.take_length]
            simpa using hy
      · obtain ⟨rfl, _, al2⟩ := hP
        exact absurd (fun y hy => al2 y (by rw [l1_size, ← l1_len, List.take_length]; exact hy)) (l2_room hn)
end
end Tb
namespace Tb
open PySem PySem.Spec PyProof.Rows L2
abbrev sIsRow : Stmt := topS 17
abbrev NIsRow : List Str := ["prefix", "land", "rate"]
theorem scIsRow : FnScope NIsRow ["prefix", "land", "rate"] (defScope sIsRow) := ⟨rfl, rfl, rfl, by decide +kernel, rfl, by decide +kernel, by decide +kernel⟩
abbrev sFree : Stmt := topS 18
abbrev NFree : List Str := ["lands", "names", "name", "sign"]
theorem scFree : FnScope NFree ["lands"] (defScope sFree) := ⟨rfl, rfl, rfl, by decide +kernel, rfl, by decide +kernel, by decide +kernel⟩
/-! ### list(text) -/
theorem cr_listS {X : Cx} (calm : X.calm = true) : CallR X (.type "list") (fun xs H Q => ∃ z : Str, xs = [.str z] ∧ z.length ≤ 1000 ∧ ∀ l, H l = none → Q (.ref l) (upd H l (.lst ((tl z).map fun c => V.str ⟨#[c]⟩)))) := by
  intro pins s σ H xs us Q I r h
  obtain ⟨z, rfl, hl, q⟩ := h
  obtain ⟨u, rfl, t, rfl⟩ := vals1 r
  have hz : sizeLine = 16777216 := rfl
  have zl : z.cps.size ≤ 1000 := hl
  refine call_list_str (I.ok.hd calm) z t (fun h' tk acc c kp hS it => ?_) (by omega)
  refine ⟨.ref s.heap.objs.size, upd H s.heap.objs.size (.lst ((tl z).map fun c => V.str ⟨#[c]⟩)), I.laid (t' := tk) kp (Nat.le_refl _) ⟨?_, acc.toList, c, ?_, hS⟩, rfl, q _ (I.hok.fresh (Nat.le_refl _))⟩
  · rw [List.length_map, Array.length_toList]; omega
  · have e : acc.toList.length = (tl z).length := by rw [Array.length_toList, Array.length_toList, it.1]
    have at_ : ∀ j v, acc.toList[j]? = some v → ∃ c u, (tl z)[j]? = some c ∧ v = Value.str ⟨#[c]⟩ u := fun j v h => by
      obtain ⟨c, u, h1, h2⟩ := it.2 j v (by rw [← Array.getElem?_toList]; exact h)
      exact ⟨c, u, by rw [Array.getElem?_toList]; exact h1, h2⟩
    generalize acc.toList = vs at e at_
    generalize tl z = cs at e at_
    clear it hS
    induction cs generalizing vs with
    | nil => cases vs with
      | nil => exact .nil
      | cons v vs => cases e
    | cons c cs ih => cases vs with
      | nil => cases e
      | cons v vs =>
        obtain ⟨d, u, h1, h2⟩ := at_ 0 v rfl
        cases h1
        exact .cons ⟨u, h2⟩ (ih vs (by simpa using e) fun j w h => at_ (j + 1) w h)
/-! ### a list comprehension with two fors -/
theorem in_it {J : It} {n : Nat} {G : Hp → Prop} {Y : Nat → Hp → V → Hp → Prop} (w : Walk J n G Y) {H4 : Hp} {Z : Hp → Prop} {S : Nat → V → Hp → Hp → (Hp → Prop) → Prop} (Pv : Nat → Hp → Prop) (h0 : Pv 0 H4) (hG : ∀ i H, i ≤ n → Pv i H → G H)
    (hs : ∀ j x H H', j < n → Pv j H → Y j H x H' → S j x H H' (Pv (j + 1))) (hd : ∀ H, Pv n H → Z H) :
    ∃ W1 : Nat → Nat → Hp → Prop, (∃ m, W1 0 m H4) ∧ ∀ j k H, W1 j k H → (J.stop j H ∧ Z H) ∨ (J.go j H ∧ ∃ Nx : Hp → Prop, (∀ H', Nx H' → ∃ k', k' < k ∧ W1 (j + 1) k' H') ∧ ∀ x H', J.yld j H x H' → S j x H H' Nx) := by
  refine ⟨fun i m H => m = n - i ∧ i ≤ n ∧ Pv i H, ⟨n, by simp, Nat.zero_le _, h0⟩, ?_⟩
  rintro i m H ⟨rfl, hi, p⟩
  have q := hG i H hi p
  by_cases hlt : i < n
  · exact .inr ⟨w.goes i H hlt q, Pv (i + 1), fun H' p' => ⟨n - (i + 1), by omega, rfl, hlt, p'⟩, fun x H' y => hs i x H H' hlt p (w.yields i H x H' hlt q y)⟩
  · have e : i = n := by omega
    subst e
    exact .inl ⟨w.stops H q, hd H p⟩
def kvT (S : List Str) : Kvs := S.map fun x => (Sum.inr x, V.bl true)
theorem kvT_val (x : Str) : ∀ S : List Str, (valV (kvT S) (Sum.inr x)).isSome = decide (x ∈ S)
  | [] => by
    rw [decide_eq_false (List.not_mem_nil)]
    rfl
  | y :: S => by
    show (valV ((Sum.inr y, V.bl true) :: kvT S) _).isSome = _
    by_cases c : y = x
    · rw [valV_pos (by rw [c]), decide_eq_true (by rw [c]; exact List.mem_cons_self)]
      rfl
    · rw [valV_neg (fun e => c (Sum.inr.inj e)), kvT_val x S]
      exact decide_eq_decide.mpr ⟨fun h => List.mem_cons_of_mem _ h, fun h => (List.mem_cons.mp h).resolve_left fun e => c e.symm⟩
section
variable {P : Program} {w : World} {K : PySem.W.Frag} {mg : Str → Option Value} {base : Heap}
abbrev CIsAddr (P : Program) (w : World) (K : PySem.W.Frag) (mg : Str → Option Value) (base : Heap) (g : Addr) (gd : FuncData) := C1 P w K mg base "is_address" sIsAddr ["text"] 3 (spT isAddr) g gd
abbrev CIsName (P : Program) (w : World) (K : PySem.W.Frag) (mg : Str → Option Value) (base : Heap) (g : Addr) (gd : FuncData) := C1 P w K mg base "is_name" sIsName ["text"] 2 (spT isName) g gd
def spIsRow : Sp := fun vs H Q _ => ∃ r : Rw, vs = [.str r.1.1, .str r.1.2, oI r.2] ∧ okR r ∧ ∀ H', Same H H' → Q (.bl true) H'
theorem addr_small {x : Str} (h : isAddr x = true) : x.length ≤ 8 := by
  have := ((isAddr_iff x).mp h).2.1
  rw [len_tl]; exact this
theorem lane_small {x : Str} (h : isLane x = true) : x.length ≤ 12 := by
  unfold isLane at h
  rw [Bool.or_eq_true] at h
  rcases h with h | h
  · rw [of_decide_eq_true h]; decide +kernel
  · rw [len_tl]; exact ((isName_iff x).mp h).1
theorem ok_isrow {f g1 g2 : Addr} {fd gd1 gd2 : FuncData} (F : Fun K "_is_row" "_is_row" sIsRow f fd) (B : Blt mg) (cIsAddr : CIsAddr P w K mg base g1 gd1) (cIsName : CIsName P w K mg base g2 gd2) : FnOk P w K mg base CX0 4 f fd ["prefix", "land", "rate"] spIsRow := by
  refine F.ok scIsRow (fun vs H Q E h => ?_) (fun cdv A outer s H vs Q E hr h => ?_)
  · obtain ⟨r, rfl, _⟩ := h
    rfl
  · obtain ⟨r, rfl, ok, q⟩ := h
    obtain ⟨o1, o2, o3⟩ := ok
    refine ⟨_, (pss_one (ps_ret (pe_and (pe_call cIsAddr.G (hr.mono (by first | decide | omega)) (by rfl) cIsAddr.D.g cIsAddr.D.F.kp cIsAddr.D.b .nil pass0 (pa_cons (pv 0) pa_nil)) (pe_and (pe_or (pe_cmpR op_eq (pv 1) ((pe_txt (by rfl) B.hr)) (nomark _)) (pe_one (pe_call cIsName.G (hr.mono (by first | decide | omega)) (by rfl) cIsName.D.g cIsName.D.F.kp cIsName.D.b .nil pass0 (pa_cons (pv 1) pa_nil)))) (pe_one (pe_or (pe_cmpR op_eq (pv 2) ((pe_glob (by rfl) B.br (v := .non) rfl)) (nomark _)) (pe_one (pe_cmpR op_ge (pv 2) pe_int (nomark _))))))))), ?_⟩
    have a1 := addr_small o1
    have a2 := lane_small o2
    refine ⟨.str r.1.1, rfl, r.1.1, rfl, by omega, fun H1 S1 => ⟨_, rfl, ?_⟩⟩
    rw [if_pos o1]
    have last : ∀ H2, Same H H2 → tOrV (tOp rEq (tVar 2) (tC .non)) (tOp (rI0 fun i j => .bl (decide (j ≤ i))) (tVar 2) (tC (.int 0))) [some (.str r.1.1), some (.str r.1.2), some (oI r.2)] H2 Q := fun H2 S2 => by
      cases e : r.2 with
      | none => exact ⟨_, rfl, rfl, _, rfl, by show Q (.bl true) H2; exact q H2 S2⟩
      | some i =>
        have := o3 i e
        refine ⟨_, rfl, rfl, _, rfl, ?_⟩
        refine ite2 (fun z => by simp [oI] at z) (fun _ => ?_)
        refine ⟨_, rfl, i, 0, rfl, rfl, ?_⟩
        show Q (.bl (decide (0 ≤ i))) H2
        rw [decide_eq_true this]
        exact q H2 S2
    refine ⟨_, rfl, rfl, _, rfl, ?_⟩
    refine ite2 (fun e => ?_) (fun e => ?_)
    · refine ⟨true, rfl, ?_⟩
      rw [if_pos rfl]
      exact last H1 S1
    · refine ⟨.str r.1.2, rfl, r.1.2, rfl, by omega, fun H2 S2 => ⟨_, rfl, ?_⟩⟩
      have n : isName r.1.2 = true := by
        unfold isLane at o2
        rw [Bool.or_eq_true] at o2
        refine o2.resolve_left fun z => e ?_
        rw [of_decide_eq_true z]
        exact decide_eq_true rfl
      rw [if_pos n]
      exact last H2 (S1.trans S2)
def spFree : Sp := fun vs H Q _ => ∃ (d : Addr) (S : List Str), vs = [.ref d] ∧ H d = some (.dK (kvT S)) ∧ S.length < 108 ∧ ∀ (x : Str) (H' : Hp), IsFree S x → Same H H' → Q (.str x) H'
theorem l1_is : (tl letters).map (fun c => V.str ⟨#[c]⟩) = L1.map V.str := by
  unfold L1
  rw [List.map_map]; rfl
theorem l2_len : L2l.length = 936 := by decide +kernel
theorem str_at {L : List Str} {i : Nat} {v : V} (h : (L.map V.str)[i]? = some v) : ∃ x, L[i]? = some x ∧ v = .str x := by
  rw [List.getElem?_map] at h
  cases e : L[i]? with
  | none => rw [e] at h; cases h
  | some b => rw [e] at h; cases h; exact ⟨b, rfl, rfl⟩
theorem l1_one {x : Str} (h : x ∈ L1) : x.length = 1 := by
  obtain ⟨c, _, rfl⟩ := List.mem_map.mp h
  rfl
theorem firstOut_of {S : List Str} : ∀ L : List Str, ¬ (∀ y ∈ L, y ∈ S) → ∃ x, FirstOut S L x ∧ (L.filter fun y => decide (y ∉ S))[0]? = some x
  | [], h => absurd nofun h
  | y :: L, h => by
    by_cases c : y ∈ S
    · obtain ⟨x, ⟨p, q, e, hx, hp⟩, f⟩ := firstOut_of (S := S) L fun k => h fun z hz => (List.mem_cons.mp hz).elim (fun e => by rw [e]; exact c) (k z)
      refine ⟨x, ⟨y :: p, q, by rw [e]; rfl, hx, fun z hz => (List.mem_cons.mp hz).elim (fun e => by rw [e]; exact c) (hp z)⟩, ?_⟩
      rw [List.filter_cons_of_neg (by simpa using c)]
      exact f
    · exact ⟨y, ⟨[], L, rfl, c, nofun⟩, by rw [List.filter_cons_of_pos (by simpa using c)]; rfl⟩
theorem ok_free {f : Addr} {fd : FuncData} {k : Nat} (F : Fun K "_free_land" "_free_land" sFree f fd) (B : Blt mg) : FnOk P w K mg base CX0 (k + 1) f fd ["lands"] spFree := by
  refine F.ok scFree (fun vs H Q E h => ?_) (fun cdv A outer s H vs Q E hr h => ?_)
  · obtain ⟨d, S, rfl, _⟩ := h
    rfl
  · obtain ⟨d, S, rfl, hd, hn, q⟩ := h
    have hu := hu_of hr
    have hz : sizeLine = 16777216 := rfl
    refine ⟨_, (pss_cons (ps_set (i := 1) scFree.nd rfl (.inl rfl) (pe_callTy (cr_listS rfl) (by rfl) B.list PyProof.Rows.boot_list (pa_cons (pe_txt (by rfl) B.lt) pa_nil)))
      (pss_cons (ps_while PassesOwn.never (pt_val (pe_callB (cr_all rfl) (by rfl) B.all (by decide +kernel) (pa_cons (pe_lc (own := [("name", 2)]) (g := gName 2) (by rfl) scFree.nd (pi_list (pv 1)) (blkOk_by (N := NFree) (sc := defScope sFree) (by decide +kernel)) (fun _ _ _ _ _ => pg_name (i := 2) scFree.nd rfl (Or.inl rfl)) (fun _ _ _ _ _ => pts_nil) (fun _ _ _ _ _ => pe_cmp (pc_din hu (pv 2) (pv 0)))) pa_nil)))
        (pss_one (ps_setLc2 (i := 1) (own := [("name", 2), ("sign", 3)]) (vs1 := [3]) (g := gName 2) (g1 := gName 3) (by rfl) scFree.nd rfl rfl (sw_true rfl rfl rfl (by decide +kernel)) (pi_list (pv 1)) (blkOk_by (N := NFree) (sc := defScope sFree) (by decide +kernel)) (by decide)
          (fun _ _ _ _ _ => pg_name (i := 2) scFree.nd rfl (Or.inl rfl)) (fun _ _ _ _ _ => pts_nil) (fun _ _ _ _ _ => pi_str (pe_op op_add_str (pe_txt (by rfl) B.dg) (pe_txt (by rfl) B.lt)))
          (fun _ _ _ _ _ => pg_name (i := 3) scFree.nd rfl (Or.inl rfl)) (fun _ _ _ _ _ => pts_nil) (fun _ _ _ _ _ => pe_op op_add_str (pv 2) (pv 3)))))
      (pss_one (ps_ret (pe_ix ix_list (pe_lc (own := [("name", 2)]) (g := gName 2) (by rfl) scFree.nd (pi_list (pv 1)) (blkOk_by (N := NFree) (sc := defScope sFree) (by decide +kernel)) (fun _ _ _ _ _ => pg_name (i := 2) scFree.nd rfl (Or.inl rfl)) (fun _ _ _ _ _ => pts_one (pt_cmp (pc_dnotin hu (pv 2) (pv 0)))) (fun _ _ _ _ _ => pv 2)) pe_int (fun _ _ => rfl)))))), ?_⟩
    refine ⟨letters, rfl, by have := lt_len; omega, fun N0 nN0 => ?_⟩
    have S0 := same_upd (o := .lst ((tl letters).map fun c => V.str ⟨#[c]⟩)) nN0
    refine ⟨fun m σ H' => ∃ N L, (∃ y2 y3, σ = [some (.ref d), some (.ref N), y2, y3]) ∧ Same H H' ∧ H' N = some (.lst (L.map V.str)) ∧ L.length ≤ 936 ∧ ((m = 1 ∧ L = L1) ∨ (m = 0 ∧ L = L2l ∧ ∀ y ∈ L1, y ∈ S)), ⟨1, N0, L1, ⟨none, none, rfl⟩, S0, by rw [upd_same, l1_is], by rw [l1_len]; omega, .inl ⟨rfl, rfl⟩⟩, ?_⟩
    rintro m σ H1 ⟨N, L, ⟨y2, y3, rfl⟩, S1, hN, lL, hL⟩
    refine ⟨.ref N, rfl, N, rfl, ⟨_, sqOf hN⟩, fun D nD => ?_⟩
    refine lc_it (walk_list (a := N) (xs := L.map V.str)) (fun i H2 => Same H1 H2 ∧ H2 D = some (.lst (((L.take i).map fun x => decide (x ∈ S)).map V.bl))) ⟨same_upd nD, upd_same⟩ (fun i H2 _ hP => sqOf (hP.1 _ _ hN)) (fun i v H2 H3 hi hP hy => ?_) (fun H2 hP => ?_)
    · obtain ⟨S2, hD⟩ := hP
      obtain ⟨rfl, ev⟩ := hy
      obtain ⟨x, ex, rfl⟩ := str_at ev
      refine ⟨rfl, .str x, rfl, .ref d, rfl, d, _, rfl, DGet.k (k := Sum.inr x) (S2 _ _ (S1 _ _ hd)), _, hD, ?_, fun b o hb => ?_, ?_⟩
      · rw [List.length_map, List.length_map, List.length_take]; omega
      · rw [upd_ne (ne_of_none hb nD)]; exact S2 _ _ hb
      · rw [upd_same, take_snoc ex, List.map_append, List.map_append, kvT_val]; rfl
    · obtain ⟨S2, hD⟩ := hP
      rw [List.length_map, List.take_length] at hD
      have S12 := S1.trans S2
      have hN2 := S2 _ _ hN
      refine ⟨D, L.map fun x => decide (x ∈ S), rfl, sqOf hD, _, rfl, ?_⟩
      have ea : (L.map fun x => decide (x ∈ S)).all id = true ↔ ∀ y ∈ L, y ∈ S := by
        rw [List.all_map, List.all_eq_true]
        exact ⟨fun h y hy => of_decide_eq_true (h y hy), fun h y hy => decide_eq_true (h y hy)⟩
      refine ite2 (fun e => ?_) (fun e => ?_)
      · have all_ := ea.mp e
        rcases hL with ⟨rfl, rfl⟩ | ⟨_, rfl, _⟩
        · refine ⟨fun σ' H' => ∃ N2, (∃ y2 y3, σ' = [some (.ref d), some (.ref N2), y2, y3]) ∧ Same H H' ∧ H' N2 = some (.lst (L2l.map V.str)), fun σ' H' ⟨N2, e2, S', h2⟩ => ⟨0, by omega, N2, L2l, e2, S', h2, by rw [l2_len]; omega, .inr ⟨rfl, rfl, all_⟩⟩, ?_⟩
          refine ⟨.ref N, rfl, N, rfl, ⟨_, sqOf hN2⟩, fun D2 nD2 => ?_⟩
          refine in_it (walk_list (a := N) (xs := L1.map V.str)) (fun i H3 => Same H2 H3 ∧ H3 D2 = some (.lst (((L1.take i).flatMap rowL).map V.str))) ⟨same_upd nD2, upd_same⟩ (fun i H3 _ hP => sqOf (hP.1 _ _ hN2)) (fun i v H3 H4 hi hP hy => ?_) (fun H3 hP => ?_)
          · obtain ⟨S3, hD3⟩ := hP
            obtain ⟨rfl, ev⟩ := hy
            obtain ⟨a, ex, rfl⟩ := str_at ev
            have al := l1_one (List.mem_of_getElem? ex)
            refine ⟨rfl, digits, letters, rfl, rfl, by have a1 := lt_len; have a2 := dg_len; omega, digits ++ letters, rfl, ?_⟩
            refine in_it (walk_str (z := digits ++ letters)) (fun j H5 => Same H2 H5 ∧ H5 D2 = some (.lst (((L1.take i).flatMap rowL ++ (rowL a).take j).map V.str))) ⟨S3, by rw [List.take_zero, List.append_nil]; exact hD3⟩ (fun _ _ _ _ => trivial) (fun j v H5 H6 hj hP hy => ?_) (fun H5 hP => ?_)
            · obtain ⟨S5, hD5⟩ := hP
              obtain ⟨rfl, c, hc, rfl⟩ := hy
              have e2 := row_at (a := a) hc
              refine ⟨rfl, .str a, rfl, .str ⟨#[c]⟩, rfl, _, _, rfl, rfl, by rw [al, one_len]; omega, _, hD5, ?_, fun b o hb => ?_, ?_⟩
              · rw [List.length_map, List.length_append, List.length_take]
                have : ((L1.take i).flatMap rowL).length ≤ 936 := by
                  rw [List.length_flatMap, show (L1.take i).map (fun a => (rowL a).length) = (L1.take i).map (fun _ => 36) from List.map_congr_left fun a _ => row_len a, List.map_const', List.sum_replicate_nat, List.length_take, l1_len]
                  omega
                have := row_len a
                omega
              · rw [upd_ne (ne_of_none hb nD2)]; exact S5 _ _ hb
              · rw [upd_same, take_snoc e2, ← List.append_assoc, List.map_append (l₂ := [_])]; rfl
            · obtain ⟨S5, hD5⟩ := hP
              refine ⟨S5, ?_⟩
              rw [hD5, take_snoc ex, List.flatMap_append, dl_size, ← row_len a, List.take_length]
              simp
          · obtain ⟨S3, hD3⟩ := hP
            rw [List.length_map, List.take_length] at hD3
            exact ⟨D2, ⟨_, _, rfl⟩, S12.trans S3, hD3⟩
        · exact absurd all_ (l2_room hn)
      · obtain ⟨x, fx, e0⟩ := firstOut_of (S := S) L fun k => e (ea.mpr k)
        have free : IsFree S x := by
          rcases hL with ⟨_, rfl⟩ | ⟨_, rfl, all1⟩
          · exact .inl fx
          · exact .inr ⟨all1, fx⟩
        refine ⟨.ref N, rfl, N, rfl, ⟨_, sqOf hN2⟩, fun D2 nD2 => ?_⟩
        refine lc_it (walk_list (a := N) (xs := L.map V.str)) (fun i H3 => Same H2 H3 ∧ H3 D2 = some (.lst (((L.take i).filter fun y => decide (y ∉ S)).map V.str))) ⟨same_upd nD2, upd_same⟩ (fun i H3 _ hP => sqOf (hP.1 _ _ hN2)) (fun i v H3 H4 hi hP hy => ?_) (fun H3 hP => ?_)
        · obtain ⟨S3, hD3⟩ := hP
          obtain ⟨rfl, ev⟩ := hy
          obtain ⟨y, ey, rfl⟩ := str_at ev
          refine ⟨rfl, .str y, rfl, .ref d, rfl, d, _, rfl, DGet.k (k := Sum.inr y) (S3 _ _ (S12 _ _ hd)), _, rfl, ?_⟩
          rw [kvT_val, take_snoc ey, List.filter_append]
          by_cases c : y ∈ S
          · rw [decide_eq_true c, List.filter_cons_of_neg (by simpa using c), List.filter_nil, List.append_nil]
            exact ⟨S3, hD3⟩
          · rw [decide_eq_false c, List.filter_cons_of_pos (by simpa using c), List.filter_nil]
            refine ⟨_, rfl, _, hD3, ?_, fun b o hb => ?_, ?_⟩
            · rw [List.length_map]
              have := List.length_filter_le (fun y => decide (y ∉ S)) (L.take i)
              rw [List.length_take] at this
              omega
            · rw [upd_ne (ne_of_none hb nD2)]; exact S3 _ _ hb
            · rw [upd_same, List.map_append]; rfl
        · obtain ⟨S3, hD3⟩ := hP
          rw [List.length_map, List.take_length] at hD3
          exact ⟨D2, _, 0, .str x, rfl, rfl, sqOf hD3, atI_nat (j := 0) (by rw [List.getElem?_map, e0]; rfl), q x H3 free (S12.trans S3)⟩
end
end Tb
namespace Tb
open PySem PySem.Spec PyProof.Rows L2
abbrev sTRate : Stmt := inClass (topS 19) 2
abbrev NTRate : List Str := ["self", "heading", "origin", "end", "land"]
theorem scTRate : FnScope NTRate ["self", "heading", "origin"] (defScope sTRate) := ⟨rfl, rfl, rfl, by decide +kernel, rfl, by decide +kernel, by decide +kernel⟩
abbrev sTRows : Stmt := inClass (topS 19) 1
abbrev NTRows : List Str := ["self", "rate", "prefix", "land"]
theorem scTRows : FnScope NTRows ["self"] (defScope sTRows) := ⟨rfl, rfl, rfl, by decide +kernel, rfl, by decide +kernel, by decide +kernel⟩
/-! ### a tariff -/
abbrev wLand : Str := "land"
abbrev wFree : Str := "free"
abbrev wShare : Str := "share"
abbrev wRates : Str := "_rates"
def tarF (a b c : V) (d : Addr) : List (Str × V) := [(wLand, a), (wFree, b), (wShare, c), (wRates, .ref d)]
theorem tarF_rates {a b c : V} {d : Addr} : (tarF a b c d).lookup wRates = some (.ref d) := by
  unfold tarF
  rw [List.lookup_cons, show (wRates == wLand) = false by decide +kernel, List.lookup_cons, show (wRates == wFree) = false by decide +kernel, List.lookup_cons, show (wRates == wShare) = false by decide +kernel, List.lookup_cons, beq_self_eq_true]
abbrev SrtR (ss : List Rw) : Prop := ss.Pairwise fun x y => le2 x.1 y.1 = true
structure TarOf (C : Addr) (H : Hp) (j : Addr) (rs : List Rw) : Prop where
  ex : ∃ dx a b c d ss, H j = some (.ins C dx (tarF a b c d)) ∧ H d = some (.dT (kvR ss)) ∧ ss.Perm rs ∧ SrtR ss
  g : Gd rs
  n : rs.length ≤ 50
theorem ni_dT {kvs : List (List Key × V)} : ¬ IntL (.dT kvs) := fun ⟨_, _, e⟩ => by cases e
theorem TarOf.kp {C : Addr} {H H' : Hp} {j : Addr} {rs : List Rw} (T : TarOf C H j rs) (h : Kp H H') : TarOf C H' j rs := by
  obtain ⟨⟨dx, a, b, c, d, ss, h1, h2, h3⟩, g, n⟩ := T
  exact ⟨⟨dx, a, b, c, d, ss, h _ _ h1 ni_ins, h _ _ h2 ni_dT, h3⟩, g, n⟩
theorem TarOf.same {C : Addr} {H H' : Hp} {j : Addr} {rs : List Rw} (T : TarOf C H j rs) (h : Same H H') : TarOf C H' j rs := T.kp (Same.kp h)
/-- of the class Tariff itself -/
structure TCls (K : PySem.W.Frag) (C : Addr) : Prop where
  c : Cls K C
  n1 : NoAttr K C wLand
  n2 : NoAttr K C wFree
  n3 : NoAttr K C wShare
  n4 : NoAttr K C wRates
theorem gd_perm {rs qs : List Rw} (g : Gd rs) (h : rs.Perm qs) : Gd qs := ⟨fun r hr => g.1 r (h.mem_iff.mpr hr), (h.map Prod.fst).nodup_iff.mp g.2⟩
theorem rate_same {rs qs : List Rw} (g : Gd rs) (h : rs.Perm qs) (x l : Str) : rate rs x l = rate qs x l := rate_eq g (gd_perm g h) (fun _ => h.mem_iff) x l
theorem rateA_succ {ss : List Rw} {h l : Str} {n : Nat} : rateA ss h l (n + 1) = match lk ss (pre h (n + 1), l) with
    | some x => x
    | none => match lk ss (pre h (n + 1), Str.ofString "") with
      | some x => x
      | none => rateA ss h l n := rfl
theorem lk_val {ss : List Rw} {k : Pr} : (valV (kvR ss) [Sum.inr k.1, Sum.inr k.2]).isSome = (lk ss k).isSome := by
  rw [kvR_val]
  cases lk ss k <;> rfl
theorem walk_pr {d : Addr} {o : Obj} {kvs : List (List Key × V)} : Walk (ItPr d o kvs) kvs.length (fun H => H d = some (.frz o (.dT kvs)))
    (fun i H x H' => ∃ (T q : Addr) (k : List Key) (v : V), x = .ref T ∧ kvs[i]? = some (k, v) ∧ H q = some (.tup (k.map kV)) ∧ H T = none ∧ H' = upd H T (.tup [.ref q, v])) :=
  ⟨fun i H hi h => ⟨hi, h⟩, fun H h => ⟨Nat.le_refl _, h⟩, fun i H x H' hi h y => y⟩
theorem kvR_len (ss : List Rw) : (kvR ss).length = ss.length := List.length_map _
theorem kvR_at {ss : List Rw} {i : Nat} {k : List Key} {v : V} (h : (kvR ss)[i]? = some (k, v)) : ∃ r, ss[i]? = some r ∧ k = [Sum.inr r.1.1, Sum.inr r.1.2] ∧ v = oI r.2 := by
  unfold kvR at h
  rw [List.getElem?_map] at h
  cases e : ss[i]? with
  | none => rw [e] at h; cases h
  | some r => rw [e] at h; cases h; exact ⟨r, rfl, rfl, rfl⟩
section
variable {P : Program} {w : World} {K : PySem.W.Frag} {mg : Str → Option Value} {base : Heap}
def spTRate (C : Addr) : Sp := fun vs H Q _ => ∃ (j : Addr) (h l : Str) (rs : List Rw), vs = [.ref j, .str h, .str l] ∧ TarOf C H j rs ∧ h.length ≤ 1000 ∧ ∀ H', Same H H' → Q (oI (rate rs h l)) H'
theorem ok_trate {f C : Addr} {fd : FuncData} {k : Nat} (F : Fun K "rate" "Tariff.rate" sTRate f fd) (B : Blt mg) (TC : TCls K C) : FnOk P w K mg base CX0 (k + 1) f fd ["self", "heading", "origin"] (spTRate C) := by
  refine F.ok scTRate (fun vs H Q E h => ?_) (fun cdv A outer s H vs Q E hr h => ?_)
  · obtain ⟨j, h, l, rs, rfl, _⟩ := h
    rfl
  · obtain ⟨j, h, l, rs, rfl, hT, hl, q⟩ := h
    have hu := hu_of hr
    have hz : sizeLine = 16777216 := rfl
    obtain ⟨⟨dx, a, b, c, d, ss, hj, hd, hp, hs⟩, hg, hn⟩ := id hT
    have gs : Gd ss := gd_perm hg hp.symm
    have er : rate rs h l = rateA ss h l h.length := (rate_same gs hp h l).symm
    rw [er] at q
    refine ⟨_, (pss_cons (ps_for PassesOwn.never rfl (pi_range3 (by rfl) B.range (pa_cons (pe_callB call_len_str (by rfl) B.len PySem.boot_len (pa_cons (pv 1) pa_nil)) (pa_cons pe_int (pa_cons (pe_un un_neg pe_int) pa_nil)))) (pg_name (i := 3) scTRate.nd rfl (.inl rfl))
        (pss_one (ps_for PassesOwn.never rfl (pi_tup (pe_tup (pa_cons (pv 2) (pa_cons ((pe_txt (by rfl) B.hr)) pa_nil)))) (pg_name (i := 4) scTRate.nd rfl (.inl rfl))
          (pss_one (ps_if (pt_cmp (pc_din hu (pe_tup (pa_cons (pe_slice sl_str (pv 1) po_none (po_some (pv 3))) (pa_cons (pv 4) pa_nil))) (pe_fld (pv 0) rfl)))
            (pss_one (ps_ret (pe_dget hu (pe_fld (pv 0) rfl) (pe_tup (pa_cons (pe_slice sl_str (pv 1) po_none (po_some (pv 3))) (pa_cons (pv 4) pa_nil))) (fun _ _ => rfl))))
            pss_nil)))))
      (pss_one (ps_ret pe_int))), ?_⟩
    refine ⟨.str h, rfl, h, rfl, by omega, 1, rfl, (h.length : Int), 0, -1, ((h.length : Int) - 0).toNat, rfl, RgC.neg (by omega) (by omega) (by omega) (by omega), ?_⟩
    refine for_rangeC (lo := (h.length : Int)) (c := -1) (n := ((h.length : Int) - 0).toNat) (fun i σ H' => Same H H' ∧ (∃ y3 y4, σ = [some (.ref j), some (.str h), some (.str l), y3, y4]) ∧ rateA ss h l h.length = rateA ss h l (h.length - i)) ⟨Same.refl _, ⟨none, none, rfl⟩, rfl⟩ ?_ ?_
    · rintro i σ H1 hi ⟨S1, ⟨y3, y4, rfl⟩, e1⟩
      have hi' : i < h.length := by omega
      have ei : (h.length : Int) + (i : Int) * -1 = ((h.length - i : Nat) : Int) := by omega
      rw [ei]
      obtain ⟨m, em⟩ : ∃ m, h.length - i = m + 1 := ⟨h.length - i - 1, by omega⟩
      rw [em] at e1 ⊢
      refine ⟨.str l, rfl, by show 2 ≤ sizeLine; omega, fun T nT => ?_⟩
      have S2 := S1.trans (same_upd (o := .tup [.str l, .str (Str.ofString "")]) nT)
      refine ⟨T, rfl, ⟨_, .of upd_same⟩, ?_⟩
      refine for_it (walk_tup (a := T) (xs := [.str l, .str (Str.ofString "")])) (fun i2 σ H' => Same (upd H1 T (.tup [.str l, .str (Str.ofString "")])) H' ∧ (∃ y4, σ = [some (.ref j), some (.str h), some (.str l), some (.int ((m + 1 : Nat) : Int)), y4]) ∧ (1 ≤ i2 → lk ss (pre h (m + 1), l) = none) ∧ (2 ≤ i2 → lk ss (pre h (m + 1), Str.ofString "") = none))
        ⟨Same.refl _, ⟨_, rfl⟩, fun z => by omega, fun z => by omega⟩ (fun i2 σ H' _ hP => .of (hP.1 _ _ upd_same)) (fun i2 v σ H3 H4 hi2 hP hy => ?_) (fun σ H3 hP => ?_)
      · obtain ⟨S3, ⟨y4, rfl⟩, n1, n2⟩ := hP
        obtain ⟨rfl, ev⟩ := hy
        have S03 := S2.trans S3
        have hi2 : i2 < 2 := hi2
        rcases (show i2 = 0 ∨ i2 = 1 by omega) with rfl | rfl
        · cases (Option.some.inj ev)
          refine ⟨_, rfl, .int ((m + 1 : Nat) : Int), rfl, ((m + 1 : Nat) : Int), rfl, h, rfl, by omega, _, rfl, by show 2 ≤ sizeLine; omega, fun U nU => ?_⟩
          have S4 := S03.trans (same_upd (o := .tup [.str (pre h (m + 1)), .str l]) nU)
          refine ⟨.ref j, rfl, j, C, dx, _, .ref d, rfl, S4 _ _ hj, TC.c, TC.n4, tarF_rates, d, _, rfl, DGet.t (k := [Sum.inr (pre h (m + 1)), Sum.inr l]) (S4 _ _ hd) upd_same, ?_⟩
          rw [lk_val (k := (pre h (m + 1), l))]
          cases e2 : lk ss (pre h (m + 1), l) with
          | some y =>
            refine ⟨_, rfl, ?_⟩
            refine ⟨.ref j, rfl, j, C, dx, _, .ref d, rfl, S4 _ _ hj, TC.c, TC.n4, tarF_rates, _, rfl, .int ((m + 1 : Nat) : Int), rfl, ((m + 1 : Nat) : Int), rfl, h, rfl, by omega, _, rfl, by show 2 ≤ sizeLine; omega, fun U2 nU2 => ?_⟩
            have S5 := S4.trans (same_upd (o := .tup [.str (pre h (m + 1)), .str l]) nU2)
            refine ⟨d, oI y, rfl, ?_, ?_⟩
            · have ev : valV (kvR ss) [Sum.inr (pre h (m + 1)), Sum.inr l] = some (oI y) := by rw [kvR_val ss (pre h (m + 1), l), e2]; rfl
              rw [← ev]
              exact DGet.t (k := [Sum.inr (pre h (m + 1)), Sum.inr l]) (S5 _ _ hd) upd_same
            · have : rateA ss h l h.length = y := by rw [e1, rateA_succ, e2]
              rw [this] at q
              exact q _ S5
          | none =>
            refine ⟨_, rfl, ?_⟩
            exact ⟨S3.trans (same_upd nU), ⟨_, rfl⟩, fun _ => rfl, fun z => by omega⟩
        · cases (Option.some.inj ev)
          refine ⟨_, rfl, .int ((m + 1 : Nat) : Int), rfl, ((m + 1 : Nat) : Int), rfl, h, rfl, by omega, _, rfl, by show 2 ≤ sizeLine; omega, fun U nU => ?_⟩
          have S4 := S03.trans (same_upd (o := .tup [.str (pre h (m + 1)), .str (Str.ofString "")]) nU)
          refine ⟨.ref j, rfl, j, C, dx, _, .ref d, rfl, S4 _ _ hj, TC.c, TC.n4, tarF_rates, d, _, rfl, DGet.t (k := [Sum.inr (pre h (m + 1)), Sum.inr (Str.ofString "")]) (S4 _ _ hd) upd_same, ?_⟩
          rw [lk_val (k := (pre h (m + 1), (Str.ofString "")))]
          cases e2 : lk ss (pre h (m + 1), (Str.ofString "")) with
          | some y =>
            refine ⟨_, rfl, ?_⟩
            refine ⟨.ref j, rfl, j, C, dx, _, .ref d, rfl, S4 _ _ hj, TC.c, TC.n4, tarF_rates, _, rfl, .int ((m + 1 : Nat) : Int), rfl, ((m + 1 : Nat) : Int), rfl, h, rfl, by omega, _, rfl, by show 2 ≤ sizeLine; omega, fun U2 nU2 => ?_⟩
            have S5 := S4.trans (same_upd (o := .tup [.str (pre h (m + 1)), .str (Str.ofString "")]) nU2)
            refine ⟨d, oI y, rfl, ?_, ?_⟩
            · have ev : valV (kvR ss) [Sum.inr (pre h (m + 1)), Sum.inr (Str.ofString "")] = some (oI y) := by rw [kvR_val ss (pre h (m + 1), (Str.ofString "")), e2]; rfl
              rw [← ev]
              exact DGet.t (k := [Sum.inr (pre h (m + 1)), Sum.inr (Str.ofString "")]) (S5 _ _ hd) upd_same
            · have : rateA ss h l h.length = y := by rw [e1, rateA_succ, n1 (by omega), e2]
              rw [this] at q
              exact q _ S5
          | none =>
            refine ⟨_, rfl, ?_⟩
            exact ⟨S3.trans (same_upd nU), ⟨_, rfl⟩, fun _ => n1 (by omega), fun _ => rfl⟩
      · obtain ⟨S3, ⟨y4, rfl⟩, n1, n2⟩ := hP
        refine ⟨S2.trans S3, ⟨_, _, rfl⟩, ?_⟩
        rw [e1, show h.length - (i + 1) = m by omega]
        rw [rateA_succ, n1 (by show 1 ≤ 2; omega), n2 (by show 2 ≤ 2; omega)]
    · rintro σ H1 ⟨S1, ⟨y3, y4, rfl⟩, e1⟩
      rw [show h.length - ((h.length : Int) - 0).toNat = 0 by omega] at e1
      rw [e1] at q
      exact q H1 S1
end
end Tb
namespace L2
open PySem PySem.Spec PyProof.Rows
section
variable {X : Cx} {tg : Expr}
/-- a list (b) or a tuple -/
def itAny (K : PySem.W.Frag) (a : Addr) (b : Bool) : It := if b = true then Itl K a else Itt K a
def SqAny (K : PySem.W.Frag) (H : Hp) (a : Addr) (b : Bool) (xs : List V) : Prop := if b = true then SqL K H a xs else SqT K H a xs
def iAny (K : PySem.W.Frag) (tl : TE) : TI := fun σ H R => tl σ H fun x H1 => ∃ a b, x = .ref a ∧ (∃ xs, SqAny K H1 a b xs) ∧ R (itAny K a b) H1
theorem pi_any {l : Expr} {tl : TE} (hl : PE X l tl) : PI X tg l (iAny X.K tl) := by
  refine ⟨fun pins s σ H R I h => ?_⟩
  refine thn (hl.run pins s σ H _ I h) fun v s1 ⟨x, H1, I1, r1, a, b, e, hq, q⟩ => ?_
  subst e
  cases r1
  obtain ⟨xs, hq⟩ := hq
  have room : ∀ {J : It} {tn : Nat → Heap → Prop} {o : Obj}, Turn X.prog X.w X.K tg J [s1.heap.objs.size] s1.heap.objs.size tn → tn 0 (s1.heap.push o) → R J H1 → PIE X pins σ tg R (.ref s1.heap.objs.size) { s1 with heap := s1.heap.push o } := fun {J tn o} T st q =>
    pi_one (tk := s1.toks) I1 o T st q
  cases b with
  | true =>
    obtain ⟨its, rv, p, hz⟩ := I1.list (show SqL X.K H1 a xs from hq)
    exact wpAny_pyIter_list p.isList (room (turn_list a _) ⟨_, Heap.get?_push_size _ rfl, rfl, rfl⟩ q)
  | false =>
    obtain ⟨its, rv, p, hz⟩ := I1.tuple (show SqT X.K H1 a xs from hq)
    exact wpAny_pyIter_tuple (show s1.heap.IsTuple a its.toArray from p) (room (turn_tuple a _) ⟨_, Heap.get?_push_size _ rfl, rfl, rfl⟩ q)
theorem walk_any {K : PySem.W.Frag} {a : Addr} {b : Bool} {xs : List V} : Walk (itAny K a b) xs.length (fun H => SqAny K H a b xs) (YAt xs) := by
  cases b with
  | true => exact walk_list
  | false => exact walk_tup
end
end L2
namespace Tb
open PySem PySem.Spec PyProof.Rows L2
abbrev sTInit : Stmt := inClass (topS 19) 0
abbrev NTInit : List Str := ["self", "land", "rows", "free", "share", "rates", "prefix", "origin", "rate", "key"]
theorem scTInit : FnScope NTInit ["self", "land", "rows", "free", "share"] (defScope sTInit) := ⟨rfl, rfl, rfl, by decide +kernel, rfl, by decide +kernel, by decide +kernel⟩
theorem unlock {H H3 : Hp} {d : Addr} {od : Obj} {u : HO} (hd : H d = some u) (S : Same (upd H d (.frz od u)) H3) : Same H (upd H3 d u) := fun b o e => by
  by_cases c : b = d
  · subst c
    rw [hd] at e
    rw [upd_same, e]
  · rw [upd_ne c]
    exact S b o (by rw [upd_ne c]; exact e)
section
variable {P : Program} {w : World} {K : PySem.W.Frag} {mg : Str → Option Value} {base : Heap}
def spTRows (C : Addr) : Sp := fun vs H Q _ => ∃ (j : Addr) (rs : List Rw), vs = [.ref j] ∧ TarOf C H j rs ∧ ∀ (p : Addr) (bs : List (Addr × Rw)) (H' : Hp), Same H H' → H' p = some (.tup (bs.map fun b => V.ref b.1)) → (∀ b ∈ bs, H' b.1 = some (.tup (rwV b.2))) → (bs.map (·.2)).Perm rs → SrtR (bs.map (·.2)) → Q (.ref p) H'
theorem ok_trows {f C : Addr} {fd : FuncData} {k : Nat} (F : Fun K "rows" "Tariff.rows" sTRows f fd) (B : Blt mg) (TC : TCls K C) : FnOk P w K mg base CX0 (k + 1) f fd ["self"] (spTRows C) := by
  refine F.ok scTRows (fun vs H Q E h => ?_) (fun cdv A outer s H vs Q E hr h => ?_)
  · obtain ⟨j, rs, rfl, _⟩ := h
    rfl
  · obtain ⟨j, rs, rfl, hT, q⟩ := h
    have hu := hu_of hr
    have hz : sizeLine = 16777216 := rfl
    obtain ⟨⟨dx, a, b, c, d, ss, hj, hd, hp, hs⟩, hg, hn⟩ := id hT
    have ln : ss.length ≤ 50 := by rw [hp.length_eq]; exact hn
    refine ⟨_, pss_one (ps_ret (pe_callTy call_tuple_of (by rfl) B.tuple PyProof.Rows.boot_tuple (pa_cons (pe_lock (pe_lc (own := [("rate", 1), ("prefix", 2), ("land", 3)]) (g := gTup K 2 (gCons (gTup K 2 (gCons (gName 2) (gCons (gName 3) gNil))) (gCons (gName 1) gNil))) (by rfl) scTRows.nd (pi_pr (pe_fld (pv 0) rfl)) (blkOk_by (N := NTRows) (sc := defScope sTRows) (by decide +kernel)) (fun _ _ _ _ _ => pg_tup (by rfl) (pgs_cons (pg_tup (by rfl) (pgs_cons (pg_name (i := 2) scTRows.nd rfl (Or.inl rfl)) (pgs_cons (pg_name (i := 3) scTRows.nd rfl (Or.inl rfl)) pgs_nil))) (pgs_cons (pg_name (i := 1) scTRows.nd rfl (Or.inl rfl)) pgs_nil))) (fun _ _ _ _ _ => pts_nil) (fun _ _ _ _ _ => pe_tup (pa_cons (pv 2) (pa_cons (pv 3) (pa_cons (pv 1) pa_nil)))))) pa_nil))), ?_⟩
    refine ⟨d, .dT (kvR ss), hd, trivial, fun od => ?_⟩
    have jd : j ≠ d := fun e => by rw [e, hd] at hj; cases hj
    generalize e1 : upd H d (.frz od (.dT (kvR ss))) = H1
    have hj1 : H1 j = some (.ins C dx (tarF a b c d)) := by rw [← e1, upd_ne jd]; exact hj
    have hd1 : H1 d = some (.frz od (.dT (kvR ss))) := by rw [← e1]; exact upd_same
    refine ⟨.ref j, rfl, j, C, dx, _, .ref d, rfl, hj1, TC.c, TC.n4, tarF_rates, d, od, kvR ss, rfl, hd1, fun D nD => ?_⟩
    have Dd : D ≠ d := fun e => by rw [e, hd1] at nD; cases nD
    refine lc_it walk_pr (fun i H2 => Same H1 H2 ∧ ∃ bs : List (Addr × Rw), H2 D = some (.lst (bs.map fun b => V.ref b.1)) ∧ (∀ b ∈ bs, H2 b.1 = some (.tup (rwV b.2))) ∧ bs.map (·.2) = ss.take i) ⟨same_upd nD, [], upd_same, nofun, rfl⟩ (fun i H2 _ hP => hP.1 _ _ hd1) (fun i v H2 H3 hi hP hy => ?_) (fun H2 hP => ?_)
    · obtain ⟨S2, bs, hD, hb, eb⟩ := hP
      obtain ⟨T, qa, kk, vv, rfl, ev, hq, nT, rfl⟩ := hy
      obtain ⟨r, er, rfl, rfl⟩ := kvR_at ev
      have qT : qa ≠ T := ne_of_none hq nT
      refine ⟨T, _, rfl, .of upd_same, rfl, .ref qa, _, rfl, qa, _, rfl, .of (by rw [upd_ne qT]; exact hq), rfl, _, _, rfl, _, _, rfl, rfl, oI r.2, _, rfl, rfl, rfl, .str r.1.1, rfl, .str r.1.2, rfl, oI r.2, rfl, by show 3 ≤ sizeLine; omega, fun U nU => ?_⟩
      have S4 := (same_upd (o := .tup [.ref qa, oI r.2]) nT).trans (same_upd (o := .tup [.str r.1.1, .str r.1.2, oI r.2]) nU)
      have S5 := S2.trans S4
      have lb : bs.length ≤ 50 := by
        have := congrArg List.length eb
        rw [List.length_map, List.length_take] at this
        omega
      have nD1 : H1 D = none := nD
      have DU : D ≠ U := ne_of_none (S4 _ _ hD |> fun h => (by have := hD; exact (same_upd (o := .tup [.ref qa, oI r.2]) nT) _ _ this)) nU
      refine ⟨_, S4 _ _ hD, by rw [List.length_map]; omega, fun c o hc => ?_, bs ++ [(U, r)], ?_, fun b hb' => ?_, ?_⟩
      · rw [upd_ne (ne_of_none hc nD1)]; exact S5 _ _ hc
      · rw [upd_same, List.map_append]; rfl
      · rcases List.mem_append.mp hb' with hb' | hb'
        · have h := S4 _ _ (hb b hb')
          rw [upd_ne (ne_of h (S4 _ _ hD) (fun z => by cases z))]; exact h
        · rw [List.mem_singleton.mp hb']
          rw [upd_ne DU.symm]; exact upd_same
      · rw [List.map_append, eb, take_snoc er]; rfl
    · obtain ⟨S2, bs, hD, hb, eb⟩ := hP
      rw [kvR_len, List.take_length] at eb
      refine ⟨S2 _ _ hd1, ?_⟩
      have S3 : Same H (upd H2 d (.dT (kvR ss))) := unlock hd (by rw [e1]; exact S2)
      have hDf : upd H2 d (.dT (kvR ss)) D = some (.lst (bs.map fun b => V.ref b.1)) := by rw [upd_ne Dd]; exact hD
      refine ⟨D, bs.map fun b => V.ref b.1, rfl, ?_⟩
      refine .inl ?_
      refine ⟨sqOf hDf, ?_⟩
      intro p np
      have Sp := same_upd (o := .tup (bs.map fun b => V.ref b.1)) np
      have at_ : ∀ b ∈ bs, upd H2 d (.dT (kvR ss)) b.1 = some (.tup (rwV b.2)) := fun b m => by
        have h := hb b m
        rw [upd_ne (fun z => by rw [z, S2 _ _ hd1] at h; cases h)]
        exact h
      exact q p bs _ (S3.trans Sp) upd_same (fun b m => Sp _ _ (at_ b m)) (by rw [eb]; exact hp) (by rw [eb]; exact hs)
end
end Tb
namespace Tb
open PySem PySem.Spec PyProof.Rows L2
open PySem.W (EachIs AllAlike Sortable dataLe)
abbrev FunK (K : PySem.W.Frag) (f : Addr) (fd : FuncData) : Prop := FunD K "__init__" "Tariff.__init__" (defArgs sTInit) (defBody sTInit) (defScope sTInit) [] [("free", .int 0), ("share", .int 50)] f fd
theorem funK_ok {P : Program} {w : World} {K : PySem.W.Frag} {mg : Str → Option Value} {base : Heap} {f : Addr} {fd : FuncData} {N ps : List Str} {k : Nat} {sp : Sp} (F : FunK K f fd) (S : FnScope N ps (defScope sTInit)) (len : ∀ vs H Q E, sp vs H Q E → vs.length = ps.length)
    (hbody : ∀ (cdv : Value) (A : Around) (outer : List Env) (s : Shared) (H : Hp) (vs : List V) (Q : VK) (E : XK), Room k (A.deeper (envOfC "Tariff.__init__" (defScope sTInit) s.heap.objs.size f cdv)) → sp vs H Q E →
      ∃ t, PSs (cxOf CX0 P w K mg base N "Tariff.__init__" (defScope sTInit) f cdv A outer s H E).nox (defBody sTInit) t ∧ t { nx := fun _ H' => Q .non H', rt := Q } (start N vs) H) : FnOk P w K mg base CX0 (k + 1) f fd ps sp :=
  F.ok S len fun cdv A outer s H vs Q E hr hs => (hbody cdv A outer s H vs Q E hr hs).elim fun t q => ⟨t, q.1.nox, q.2⟩
/-- rows in a list (b) or a tuple -/
structure RIn (H : Hp) (r : Addr) (b : Bool) (bs : List (Addr × Rw)) : Prop where
  l : H r = some (if b = true then .lst (bs.map fun b => V.ref b.1) else .tup (bs.map fun b => V.ref b.1))
  t : ∀ b ∈ bs, H b.1 = some (.tup (rwV b.2))
theorem RIn.same {H H' : Hp} {r : Addr} {b : Bool} {bs : List (Addr × Rw)} (R : RIn H r b bs) (h : Same H H') : RIn H' r b bs := ⟨h _ _ R.l, fun b m => h _ _ (R.t b m)⟩
theorem RIn.but {H H' : Hp} {r x C dx : Addr} {b : Bool} {fs : List (Str × V)} {bs : List (Addr × Rw)} (R : RIn H r b bs) (hx : H x = some (.ins C dx fs)) (h : But x H H') : RIn H' r b bs := by
  refine ⟨h _ _ R.l fun e => ?_, fun c m => h _ _ (R.t c m) fun e => ?_⟩
  · have := R.l
    rw [e, hx] at this
    cases b <;> cases this
  · have := R.t c m
    rw [e, hx] at this
    cases this
theorem RIn.sq {K : PySem.W.Frag} {H : Hp} {r : Addr} {b : Bool} {bs : List (Addr × Rw)} (R : RIn H r b bs) : SqAny K H r b (bs.map fun b => V.ref b.1) := by
  have := R.l
  cases b with
  | true => exact sqOf this
  | false => exact .of this
def kk (p : Pr) : List Key := [Sum.inr p.1, Sum.inr p.2]
theorem kvR_keys (rs : List Rw) : (kvR rs).map Prod.fst = (rs.map Prod.fst).map kk := by
  unfold kvR
  rw [List.map_map, List.map_map]; rfl
theorem sort_kk (ps : List Pr) : (ps.map kk).mergeSort (dataLe false encT) = (ps.mergeSort le2).map kk := by
  rw [List.map_mergeSort]
  intro a _ b _
  rfl
/-- the rows by their keys -/
def sortR (rs : List Rw) : List Rw := rs.mergeSort fun x y => le2 x.1 y.1
theorem sortR_keys (rs : List Rw) : (sortR rs).map Prod.fst = (rs.map Prod.fst).mergeSort le2 := by
  unfold sortR
  rw [List.map_mergeSort]
  intro a _ b _
  rfl
theorem sortR_perm (rs : List Rw) : (sortR rs).Perm rs := List.mergeSort_perm _ _
theorem sortR_srt (rs : List Rw) : SrtR (sortR rs) := by
  have := PySem.W.sort_pairwise (le := fun x y : Rw => le2 x.1 y.1) ⟨fun a b c h1 h2 => le2_total.trans _ _ _ h1 h2, fun a b => le2_total.total _ _⟩ rs
  exact this
theorem sortR_at {rs : List Rw} (g : (rs.map Prod.fst).Nodup) {i : Nat} {k : Pr} (h : ((rs.map Prod.fst).mergeSort le2)[i]? = some k) : ∃ r, (sortR rs)[i]? = some r ∧ r.1 = k ∧ r ∈ rs ∧ lk ((sortR rs).take i) k = none := by
  rw [← sortR_keys, List.getElem?_map] at h
  cases e : (sortR rs)[i]? with
  | none => rw [e] at h; cases h
  | some r =>
    rw [e] at h
    have ek : r.1 = k := Option.some.inj h
    subst ek
    refine ⟨r, rfl, rfl, (sortR_perm rs).mem_iff.mp (List.mem_of_getElem? e), ?_⟩
    cases e2 : lk ((sortR rs).take i) r.1 with
    | none => rfl
    | some y =>
      exfalso
      obtain ⟨c, hc, ec, _⟩ := lk_some e2
      have nd : ((sortR rs).map Prod.fst).Nodup := ((sortR_perm rs).map Prod.fst).nodup_iff.mpr g
      rw [split_at e, List.map_append, List.map_cons, List.nodup_append] at nd
      exact nd.2.2 c.1 (List.mem_map.mpr ⟨c, hc, rfl⟩) r.1 List.mem_cons_self ec
theorem lk_mem {rs : List Rw} (g : (rs.map Prod.fst).Nodup) {r : Rw} (h : r ∈ rs) : lk rs r.1 = some r.2 := by
  cases e : lk rs r.1 with
  | none => exact absurd rfl (lk_none e h)
  | some x =>
    obtain ⟨c, hc, ec, rfl⟩ := lk_some e
    rw [key_one g hc h ec]
theorem kvR_none {rs : List Rw} {k : Pr} (h : lk rs k = none) : valV (kvR rs) (kk k) = none := by
  show valV (kvR rs) [Sum.inr k.1, Sum.inr k.2] = none
  rw [kvR_val, h]; rfl
theorem kvR_put {rs : List Rw} {r : Rw} (h : lk rs r.1 = none) : putK (kvR rs) (kk r.1) (oI r.2) = kvR (rs ++ [r]) := by
  rw [putK_new _ (kvR_none h)]
  unfold kvR
  rw [List.map_append]; rfl
theorem lk_take {rs : List Rw} (g : (rs.map Prod.fst).Nodup) {i : Nat} {r : Rw} (h : rs[i]? = some r) : lk (rs.take i) r.1 = none := by
  cases e2 : lk (rs.take i) r.1 with
  | none => rfl
  | some y =>
    exfalso
    obtain ⟨c, hc, ec, _⟩ := lk_some e2
    rw [split_at h, List.map_append, List.map_cons, List.nodup_append] at g
    exact g.2.2 c.1 (List.mem_map.mpr ⟨c, hc, rfl⟩) r.1 List.mem_cons_self ec
section
variable {P : Program} {w : World} {K : PySem.W.Frag} {mg : Str → Option Value} {base : Heap}
abbrev CIsRow (P : Program) (w : World) (K : PySem.W.Frag) (mg : Str → Option Value) (base : Heap) (g : Addr) (gd : FuncData) := C1 P w K mg base "_is_row" sIsRow ["prefix", "land", "rate"] 4 spIsRow g gd
def spTInit (C : Addr) : Sp := fun vs H Q _ => ∃ (x dx r : Addr) (l : Str) (fr sh : Int) (b : Bool) (bs : List (Addr × Rw)), vs = [.ref x, .str l, .ref r, .int fr, .int sh] ∧ H x = some (.ins C dx []) ∧ RIn H r b bs ∧ Gd (bs.map (·.2)) ∧ bs.length ≤ 50 ∧ isName l = true ∧ 0 ≤ fr ∧ 0 ≤ sh ∧ sh ≤ 100 ∧
  ∀ H', But x H H' → TarOf C H' x (bs.map (·.2)) → Q .non H'
theorem ok_tinit {f g1 g2 C : Addr} {fd gd1 gd2 : FuncData} (F : FunK K f fd) (B : Blt mg) (TC : TCls K C) (cIsName : CIsName P w K mg base g1 gd1) (cIsRow : CIsRow P w K mg base g2 gd2) : FnOk P w K mg base CX0 5 f fd ["self", "land", "rows", "free", "share"] (spTInit C) := by
  refine funK_ok F scTInit (fun vs H Q E h => ?_) (fun cdv A outer s H vs Q E hr h => ?_)
  · obtain ⟨x, dx, r, l, fr, sh, b, bs, rfl, _⟩ := h
    rfl
  · obtain ⟨x, dx, r, l, fr, sh, b, bs, rfl, hx, hR, hg, hn, nl, f0, s0, s1, q⟩ := h
    have hu := hu_of hr
    have hz : sizeLine = 16777216 := rfl
    refine ⟨_, (pss_cons (ps_fld (pv 0) (pv 1) rfl)
      (pss_cons (ps_fld (pv 0) (pv 3) rfl)
      (pss_cons (ps_fld (pv 0) (pv 4) rfl)
      (pss_cons (ps_if (PW.pt (pw_or (pt_not (pt_val (pe_call cIsName.G (hr.mono (by first | decide | omega)) (by rfl) cIsName.D.g cIsName.D.F.kp cIsName.D.b .nil pass0 (pa_cons (pv 1) pa_nil)))) (pw_or (pt_cmpR op_lt (pv 3) pe_int (nomark _)) (pw_or1 (pt_not (pt_chain op_le op_le pe_int (pv 4) pe_int))))))
        (pss_one ps_never)
        pss_nil)
      (pss_cons (ps_set (i := 5) scTInit.nd rfl (.inr rfl) pe_dnewT)
      (pss_cons (ps_for PassesOwn.never rfl (pi_any (pv 2)) (pg_tup (by rfl) (pgs_cons (pg_name (i := 6) scTInit.nd rfl (.inl rfl)) (pgs_cons (pg_name (i := 7) scTInit.nd rfl (.inl rfl)) (pgs_cons (pg_name (i := 8) scTInit.nd rfl (.inl rfl)) pgs_nil))))
        (pss_cons (ps_if (PW.pt (pw_or (pt_not (pt_val (pe_call cIsRow.G (hr.mono (by first | decide | omega)) (by rfl) cIsRow.D.g cIsRow.D.F.kp cIsRow.D.b .nil pass0 (pa_cons (pv 6) (pa_cons (pv 7) (pa_cons (pv 8) pa_nil)))))) (pw_or1 (pt_cmp (pc_din hu (pe_tup (pa_cons (pv 6) (pa_cons (pv 7) pa_nil))) (pv 5))))))
          (pss_one ps_never)
          pss_nil)
        (pss_one (ps_dput hu (pv 5) (pe_tup (pa_cons (pv 6) (pa_cons (pv 7) pa_nil))) (pv 8) (by rfl)))))
      (pss_one (ps_fld (pv 0) (pe_dcT (own := [("key", 9)]) (g := gName 9) (by rfl) hu scTInit.nd (pi_list (pe_callB (cr_sortedDT rfl hr.units) (by rfl) B.sorted PyProof.Rows.boot_sorted (pa_cons (pv 5) pa_nil))) (blkOk_by (N := NTInit) (sc := defScope sTInit) (by decide +kernel)) (fun _ _ _ _ _ => pg_name (i := 9) scTInit.nd rfl (Or.inl rfl))  (fun _ _ _ _ _ => pv 9) (fun _ _ _ _ _ => pe_dget hu (pv 5) (pv 9) (fun _ _ => rfl))) rfl)))))))), ?_⟩
    refine ⟨.str l, rfl, .ref x, rfl, x, C, dx, _, rfl, hx, TC.c, TC.n1, by decide, ?_⟩
    refine ⟨.int fr, rfl, .ref x, rfl, x, C, dx, _, rfl, upd_same, TC.c, TC.n2, (show (1 : Nat) < 1000 by decide), ?_⟩
    refine ⟨.int sh, rfl, .ref x, rfl, x, C, dx, _, rfl, upd_same, TC.c, TC.n3, (show (2 : Nat) < 1000 by decide), ?_⟩
    generalize eH : upd (upd (upd H x _) x _) x _ = H1
    have b1 : But x H H1 := by rw [← eH]; exact (But.upd.trans But.upd).trans But.upd
    have hx1 : H1 x = some (.ins C dx [(wLand, .str l), (wFree, .int fr), (wShare, .int sh)]) := by rw [← eH]; exact upd_same
    have ll : l.length ≤ 12 := by rw [len_tl]; exact ((isName_iff l).mp nl).1
    refine ⟨.str l, rfl, l, rfl, by omega, fun H2 S2 => ⟨_, rfl, ?_⟩⟩
    rw [nl]
    refine ite2 (fun z => by cases z) (fun _ => ?_)
    refine ⟨.int fr, rfl, fr, 0, rfl, rfl, _, rfl, ite2 (fun z => absurd (of_decide_eq_true z) (by omega)) (fun _ => ?_)⟩
    refine ⟨.int sh, rfl, 0, sh, rfl, rfl, _, rfl, ite2 (fun _ => ?_) (fun z => absurd (decide_eq_true s0) z)⟩
    refine ⟨sh, 100, rfl, rfl, _, rfl, ?_⟩
    rw [decide_eq_true s1]
    refine ite2 (fun z => by cases z) (fun _ => ?_)
    have b2 : But x H H2 := b1.trans (Same.but S2)
    have hx2 := S2 _ _ hx1
    intro D nD
    have Dx : x ≠ D := ne_of_none hx2 nD
    have b3 : But x H (upd H2 D (.dT [])) := b2.trans (Same.but (same_upd nD))
    have D0 : H D = none := by
      cases e : H D with
      | none => rfl
      | some o => rw [b2 D o e (Ne.symm Dx)] at nD; cases nD
    refine ⟨.ref r, rfl, r, b, rfl, ⟨_, (hR.but hx b3).sq⟩, ?_⟩
    refine for_it (walk_any (a := r) (b := b) (xs := bs.map fun b => V.ref b.1)) (fun i σ H' => (∃ y6 y7 y8, σ = [some (.ref x), some (.str l), some (.ref r), some (.int fr), some (.int sh), some (.ref D), y6, y7, y8, none]) ∧ But x H H' ∧ H' x = some (.ins C dx [(wLand, .str l), (wFree, .int fr), (wShare, .int sh)]) ∧ H' D = some (.dT (kvR ((bs.map (·.2)).take i))))
      ⟨⟨none, none, none, rfl⟩, b3, by rw [upd_ne Dx]; exact hx2, upd_same⟩ (fun i σ H' _ hP => (hR.but hx hP.2.1).sq) (fun i v σ H3 H4 hi hP hy => ?_) (fun σ H3 hP => ?_)
    · obtain ⟨⟨y6, y7, y8, rfl⟩, b4, hx4, hD4⟩ := hP
      obtain ⟨rfl, ev⟩ := hy
      obtain ⟨w1, ew, rfl⟩ := bs_at ev
      have er : (bs.map (·.2))[i]? = some w1.2 := by rw [List.getElem?_map, ew]; rfl
      have mw := List.mem_of_getElem? er
      have hw := (hR.but hx b4).t w1 (List.mem_of_getElem? ew)
      have lt := lk_take hg.2 er
      refine ⟨w1.1, _, rfl, .of hw, rfl, .str w1.2.1.1, _, rfl, .str w1.2.1.2, _, rfl, oI w1.2.2, _, rfl, rfl, ?_⟩
      refine ⟨_, rfl, _, rfl, _, rfl, w1.2, rfl, hg.1 _ mw, fun H5 S5 => ⟨_, rfl, ?_⟩⟩
      refine ite2 (fun z => by cases z) (fun _ => ?_)
      refine ⟨_, rfl, _, rfl, by show 2 ≤ sizeLine; omega, fun T nT => ?_⟩
      have S6 := S5.trans (same_upd (o := .tup [.str w1.2.1.1, .str w1.2.1.2]) nT)
      have hD6 := S6 _ _ hD4
      refine ⟨.ref D, rfl, D, _, rfl, DGet.t (k := kk w1.2.1) hD6 upd_same, ?_⟩
      rw [kvR_none lt]
      refine ⟨_, rfl, ?_⟩
      refine ite2 (fun z => by cases z) (fun _ => ?_)
      refine ⟨_, rfl, .ref D, rfl, _, rfl, _, rfl, by show 2 ≤ sizeLine; omega, fun T2 nT2 => ?_⟩
      have S7 := S6.trans (same_upd (o := .tup [.str w1.2.1.1, .str w1.2.1.2]) nT2)
      have hD7 := S7 _ _ hD4
      refine ⟨D, _, rfl, DPut.t (k := kk w1.2.1) (v := oI w1.2.2) hD7 upd_same (by rw [kvR_len, List.length_take, List.length_map]; omega), ?_⟩
      refine ⟨⟨_, _, _, rfl⟩, fun c o hc n => ?_, ?_, ?_⟩
      · rw [upd_ne (ne_of_none hc D0)]
        exact S7 _ _ (b4 c o hc n)
      · rw [upd_ne Dx]; exact S7 _ _ hx4
      · rw [upd_same, kvR_put lt, take_snoc er]
    · obtain ⟨⟨y6, y7, y8, rfl⟩, b4, hx4, hD4⟩ := hP
      have ln : (bs.map fun b => V.ref b.1).length = (bs.map (·.2)).length := by rw [List.length_map, List.length_map]
      rw [ln, List.take_length] at hD4
      generalize ers : bs.map (·.2) = rs at hD4 hg q
      have lr : rs.length ≤ 50 := by rw [← ers, List.length_map]; exact hn
      have emap : (kvR rs).map (fun kv => encT kv.1) = (rs.map Prod.fst).map enc2 := by
        unfold kvR
        rw [List.map_map, List.map_map]; rfl
      refine ⟨.ref D, rfl, D, kvR rs, rfl, .of hD4, by rw [kvR_len]; omega, by rw [emap]; exact alike2 _, by rw [emap]; exact sortable2 _, fun kv hkv => ?_, fun p cs np ecs hcs => ?_⟩
      · obtain ⟨r0, _, rfl⟩ := List.mem_map.mp hkv
        exact Nat.le_trans (depth2 r0.1) (by decide)
      rw [kvR_keys, sort_kk] at ecs
      have lcs : cs.length = rs.length := by
        have := congrArg List.length ecs
        rw [List.length_map, List.length_map, List.length_mergeSort, List.length_map] at this
        exact this
      have Sp := same_upd (o := .lst (cs.map fun c => V.ref c.1)) np
      refine ⟨p, rfl, ⟨_, sqOf upd_same⟩, fun D2 nD2 => ?_⟩
      have S2' := Sp.trans (same_upd (o := .dT []) nD2)
      have hp2 : upd (upd H3 p (.lst (cs.map fun c => V.ref c.1))) D2 (.dT []) p = some (.lst (cs.map fun c => V.ref c.1)) := same_upd nD2 _ _ upd_same
      have D2n : H3 D2 = none := Sp.free nD2
      refine in_it (walk_list (a := p) (xs := cs.map fun c => V.ref c.1)) (fun i H' => Same H3 H' ∧ H' p = some (.lst (cs.map fun c => V.ref c.1)) ∧ H' D2 = some (.dT (kvR ((sortR rs).take i)))) ⟨S2', hp2, upd_same⟩ (fun i H' _ hP => sqOf hP.2.1) (fun i v H5 H6 hi hP hy => ?_) (fun H5 hP => ?_)
      · obtain ⟨S5, hp5, hD5⟩ := hP
        obtain ⟨rfl, ev⟩ := hy
        rw [List.getElem?_map] at ev
        cases ec : cs[i]? with
        | none => rw [ec] at ev; cases ev
        | some c =>
        rw [ec] at ev
        cases (Option.some.inj ev)
        have ek : (((rs.map Prod.fst).mergeSort le2).map kk)[i]? = some c.2 := by rw [← ecs, List.getElem?_map, ec]; rfl
        rw [List.getElem?_map] at ek
        cases e0 : ((rs.map Prod.fst).mergeSort le2)[i]? with
        | none => rw [e0] at ek; cases ek
        | some k0 =>
        rw [e0] at ek
        have ek : kk k0 = c.2 := Option.some.inj ek
        obtain ⟨r0, er0, rk, mr, ln0⟩ := sortR_at hg.2 e0
        subst rk
        have hc5 := S5 _ _ (hcs c (List.mem_of_getElem? ec))
        rw [← ek] at hc5
        refine ⟨rfl, .ref c.1, rfl, .ref D, rfl, .ref c.1, rfl, D, oI r0.2, rfl, ?_, ?_⟩
        · have ev2 : valV (kvR rs) (kk r0.1) = some (oI r0.2) := by
            show valV (kvR rs) [Sum.inr r0.1.1, Sum.inr r0.1.2] = _
            rw [kvR_val, lk_mem hg.2 mr]; rfl
          rw [← ev2]
          exact DGet.t (S5 _ _ hD4) hc5
        · refine ⟨kvR ((sortR rs).take i), kk r0.1, c.1, rfl, hc5, hD5, by rw [kvR_len, List.length_take, (sortR_perm rs).length_eq]; omega, fun b o hb => ?_, ?_, ?_⟩
          · rw [upd_ne (ne_of_none hb D2n)]; exact S5 _ _ hb
          · rw [upd_ne (fun z => by rw [z, hD5] at hp5; cases hp5)]; exact hp5
          · rw [upd_same, kvR_put ln0, take_snoc er0]
      · obtain ⟨S5, hp5, hD5⟩ := hP
        rw [List.length_map, lcs, ← (sortR_perm rs).length_eq, List.take_length] at hD5
        have hx5 := S5 _ _ hx4
        refine ⟨.ref x, rfl, x, C, dx, _, rfl, hx5, TC.c, TC.n4, (show (3 : Nat) < 1000 by decide), ?_⟩
        refine q _ ((b4.trans (Same.but S5)).trans But.upd) ⟨⟨dx, _, _, _, D2, sortR rs, upd_same, ?_, sortR_perm rs, sortR_srt rs⟩, hg, lr⟩
        rw [upd_ne (fun z => by rw [z, hx5] at hD5; cases hD5)]
        exact hD5
end
end Tb
namespace Tb
open PySem PySem.Spec PyProof.Rows L2
open PySem.W (EachIs AllAlike Sortable dataLe)
/-! ### the least heading and land that part two tariffs -/
abbrev InP (rs qs : List Rw) (p : Str) : Prop := ∃ r ∈ rs ++ qs, r.1.1 = p
abbrev InS (rs qs : List Rw) (l : Str) : Prop := l ≠ Str.ofString "" ∧ ∃ r ∈ rs ++ qs, r.1.2 = l
/-- S is the lands of the rows -/
def LandsOf (rs qs : List Rw) (S : List Str) : Prop := ∀ x, x ∈ S ↔ InS rs qs x
def Least (rs qs : List Rw) (z : Str) : Option (Str × Str) → Prop
  | none => ∀ p l, InP rs qs p → (l = z ∨ InS rs qs l) → rate rs p l = rate qs p l
  | some (p, l) => InP rs qs p ∧ (l = z ∨ InS rs qs l) ∧ rate rs p l ≠ rate qs p l ∧ ∀ p' l', InP rs qs p' → (l' = z ∨ InS rs qs l') → rate rs p' l' ≠ rate qs p' l' → leA p p' = true ∧ (p = p' → le1 l l' = true)
def PartIs (rs qs : List Rw) (o : Option (Str × Str)) : Prop := ∃ S z, LandsOf rs qs S ∧ IsFree S z ∧ Least rs qs z o
theorem le1_anti {a b : Str} (h1 : le1 a b = true) (h2 : le1 b a = true) : a = b := by
  rw [le1_eq, Bool.not_eq_true'] at h1 h2
  exact sLt_tri h2 h1
theorem le1_refl (a : Str) : le1 a a = true := by
  rw [le1_eq]
  unfold sLt
  rw [decide_eq_false (List.lt_irrefl _)]; rfl
theorem least_uniq {rs qs : List Rw} {z : Str} {o o' : Option (Str × Str)} (h : Least rs qs z o) (k : Least rs qs z o') : o = o' := by
  cases o with
  | none =>
    cases o' with
    | none => rfl
    | some b => exact absurd (h b.1 b.2 k.1 k.2.1) k.2.2.1
  | some a =>
    cases o' with
    | none => exact absurd (k a.1 a.2 h.1 h.2.1) h.2.2.1
    | some b =>
      have q1 := h.2.2.2 b.1 b.2 k.1 k.2.1 k.2.2.1
      have q2 := k.2.2.2 a.1 a.2 h.1 h.2.1 h.2.2.1
      have e := leA_anti q1.1 q2.1
      rw [show a = b from Prod.ext e (le1_anti (q1.2 e) (q2.2 e.symm))]
theorem part_uniq {rs qs : List Rw} {o o' : Option (Str × Str)} (h : PartIs rs qs o) (k : PartIs rs qs o') : o = o' := by
  obtain ⟨S, z, hS, hz, hl⟩ := h
  obtain ⟨S', z', hS', hz', hl'⟩ := k
  have : z = z' := free_uniq hz (free_set (fun x => (hS' x).trans (hS x).symm) hz')
  subst this
  exact least_uniq hl hl'
theorem inP_comm {rs qs : List Rw} {p : Str} : InP rs qs p ↔ InP qs rs p := by
  constructor <;> rintro ⟨r, hr, e⟩ <;> exact ⟨r, (List.mem_append.mp hr).elim (List.mem_append_right _) (List.mem_append_left _), e⟩
theorem inS_comm {rs qs : List Rw} {p : Str} : InS rs qs p ↔ InS qs rs p := by
  constructor <;> rintro ⟨n, r, hr, e⟩ <;> exact ⟨n, r, (List.mem_append.mp hr).elim (List.mem_append_right _) (List.mem_append_left _), e⟩
theorem part_comm {rs qs : List Rw} {o : Option (Str × Str)} (h : PartIs rs qs o) : PartIs qs rs o := by
  obtain ⟨S, z, hS, hz, hl⟩ := h
  refine ⟨S, z, fun x => (hS x).trans inS_comm, hz, ?_⟩
  cases o with
  | none => exact fun p l hp hl' => (hl p l (inP_comm.mp hp) (hl'.imp id inS_comm.mp)).symm
  | some a => exact ⟨inP_comm.mp hl.1, hl.2.1.imp id inS_comm.mp, fun e => hl.2.2.1 e.symm, fun p' l' hp hl' n => hl.2.2.2 p' l' (inP_comm.mp hp) (hl'.imp id inS_comm.mp) fun e => n e.symm⟩
theorem part_perm {rs qs qs' : List Rw} (g : Gd qs) (hp : qs.Perm qs') {o : Option (Str × Str)} (h : PartIs rs qs o) : PartIs rs qs' o := by
  have hP : ∀ p, InP rs qs p ↔ InP rs qs' p := fun p => by
    constructor <;> rintro ⟨r, hr, e⟩ <;> exact ⟨r, List.mem_append.mpr ((List.mem_append.mp hr).imp id (fun m => by first | exact hp.mem_iff.mp m | exact hp.mem_iff.mpr m)), e⟩
  have hI : ∀ p, InS rs qs p ↔ InS rs qs' p := fun p => by
    constructor <;> rintro ⟨n, r, hr, e⟩ <;> exact ⟨n, r, List.mem_append.mpr ((List.mem_append.mp hr).imp id (fun m => by first | exact hp.mem_iff.mp m | exact hp.mem_iff.mpr m)), e⟩
  obtain ⟨S, z, hS, hz, hl⟩ := h
  have er : ∀ p l, rate qs p l = rate qs' p l := rate_same g hp
  refine ⟨S, z, fun x => (hS x).trans (hI x), hz, ?_⟩
  cases o with
  | none => exact fun p l a b => by rw [← er]; exact hl p l ((hP p).mpr a) (b.imp id (hI l).mpr)
  | some a => exact ⟨(hP _).mp hl.1, hl.2.1.imp id (hI _).mp, by rw [← er]; exact hl.2.2.1, fun p' l' a b n => hl.2.2.2 p' l' ((hP _).mpr a) (b.imp id (hI _).mpr) (by rw [er]; exact n)⟩
theorem part_same {rs qs : List Rw} (g : Gd rs) (hp : rs.Perm qs) {o : Option (Str × Str)} (h : PartIs rs qs o) : o = none := by
  cases o with
  | none => rfl
  | some a =>
    obtain ⟨S, z, hS, hz, hl⟩ := h
    exact absurd (rate_same g hp a.1 a.2) hl.2.2.1
theorem part_found {rs qs : List Rw} {S zs ls : List Str} {z p l : Str} {i j : Nat} (hS : LandsOf rs qs S) (hz : IsFree S z) (sz : zs.Pairwise fun a b => leA a b = true) (sl : ls.Pairwise fun a b => le1 a b = true) (mz : ∀ x, x ∈ zs ↔ InP rs qs x) (ml : ∀ x, x ∈ ls ↔ (x = z ∨ InS rs qs x))
    (ep : zs[i]? = some p) (el : ls[j]? = some l) (b1 : ∀ p' ∈ zs.take i, ∀ l' ∈ ls, rate rs p' l' = rate qs p' l') (b2 : ∀ l' ∈ ls.take j, rate rs p l' = rate qs p l') (ne : rate rs p l ≠ rate qs p l) : PartIs rs qs (some (p, l)) := by
  refine ⟨S, z, hS, hz, (mz p).mp (List.mem_of_getElem? ep), (ml l).mp (List.mem_of_getElem? el), ne, fun p' l' hp hl n => ⟨?_, fun e => ?_⟩⟩
  · have m := (mz p').mpr hp
    rw [split_at ep] at m sz
    rcases List.mem_append.mp m with m | m
    · exact absurd (b1 p' m l' ((ml l').mpr hl)) n
    · rcases List.mem_cons.mp m with rfl | m
      · exact leA_refl _
      · exact List.rel_of_pairwise_cons (List.pairwise_append.mp sz).2.1 m
  · subst e
    have m := (ml l').mpr hl
    rw [split_at el] at m sl
    rcases List.mem_append.mp m with m | m
    · exact absurd (b2 l' m) n
    · rcases List.mem_cons.mp m with rfl | m
      · exact le1_refl _
      · exact List.rel_of_pairwise_cons (List.pairwise_append.mp sl).2.1 m
theorem part_none {rs qs : List Rw} {S zs ls : List Str} {z : Str} (hS : LandsOf rs qs S) (hz : IsFree S z) (mz : ∀ x, x ∈ zs ↔ InP rs qs x) (ml : ∀ x, x ∈ ls ↔ (x = z ∨ InS rs qs x)) (b : ∀ p' ∈ zs, ∀ l' ∈ ls, rate rs p' l' = rate qs p' l') : PartIs rs qs none :=
  ⟨S, z, hS, hz, fun p l hp hl => b p ((mz p).mpr hp) l ((ml l).mpr hl)⟩
/-- the answer as a value -/
def PV (H : Hp) (v : V) : Option (Str × Str) → Prop
  | none => v = .non
  | some (p, l) => ∃ T, v = .ref T ∧ H T = some (.tup [.str p, .str l])
end Tb
namespace L2
open PySem PySem.Spec PyProof.Rows
section
variable {X : Cx}
/-- name = {k: v for ..} on one line, the name a local -/
theorem ps_setDc {i : Nat} {y : Str} {py : Pos} {kx vx tg iter : Expr} {ifs : List Expr} {scope : Scope} {own : List (Str × Nat)} {pos spos : Pos} {wi : TI} {g : TG} {tt : TT} {tk tv : TE} (calm : X.calm = true) (nd : X.N.Nodup) (at_ : X.N[i]? = some y) (loc : X.env.scope.names.lookup y = some .local)
    (sw : swapsWith (.DictComp kx vx [⟨tg, iter, ifs, 0⟩] scope pos) (some (.Name y py)) spos.line X.env = pure true) (src : PI X tg iter wi) (blk : BlkOk X.N X.env.scope scope own)
    (pg : ∀ (s : Shared) (H : Hp) (C : Addr) (cl : List (Str × Addr)) (fp : List Addr), PG (X.blk s H scope (compEnvC scope cl C X.env) fp) tg g) (pt : ∀ (s : Shared) (H : Hp) (C : Addr) (cl : List (Str × Addr)) (fp : List Addr), PTs (X.blk s H scope (compEnvC scope cl C X.env) fp) ifs tt)
    (pk : ∀ (s : Shared) (H : Hp) (C : Addr) (cl : List (Str × Addr)) (fp : List Addr), PE (X.blk s H scope (compEnvC scope cl C X.env) fp) kx tk) (pe : ∀ (s : Shared) (H : Hp) (C : Addr) (cl : List (Str × Addr)) (fp : List Addr), PE (X.blk s H scope (compEnvC scope cl C X.env) fp) vx tv) (fold : ∀ x, foldedSetIterable iter X.env x = pure x := by intro _; rfl) :
    PS X (.Assign [.Name y py] (.DictComp kx vx [⟨tg, iter, ifs, 0⟩] scope pos) spos) (tAsg (tDc wi g tt tk tv (own.map (·.2))) (gName i)) := by
  refine ⟨fun pins s0 σ H En I0 wt => ?_⟩
  rw [exec_Assign_Name_used _ _ _ _ sw]
  refine wpAny_bind (wpAny_standAt (wpAny_bind (show wpAny _ X.A (do let _ ← comprehension (.DictComp kx vx [⟨tg, iter, ifs, 0⟩] scope pos) scope X.env (firstIterPos [⟨tg, iter, ifs, 0⟩] pos) newDict false (eval iter X.env) (some (assign (.Name y py) X.env))) _ _ s0 from ?_)))
  have wt : tDc wi g tt tk tv (own.map (·.2)) σ H (fun x H1 => gName i x σ H1 En.nx) := wt
  refine wpAny_bind (thn (dc_core (Qf := fun _ t => SP X pins En .next t) calm nd I0 src blk pg pt pk pe fold wt fun M C t m H9 I9 q ns fpC => ?_) fun _ t hq => wpAny_pure (wpAny_pure hq))
  show wpAny _ _ (assign (.Name y py) X.env (.ref M)) _ _ _
  obtain ⟨c0, c1, c2, c3, c4, c5⟩ := fpC
  refine wpAny_assign_Name (store_ok2 (v := V.ref M) I9 nd at_ (.inl loc) rfl (fun t2 J ⟨a, same, where_⟩ => ?_) (.inr loc))
  have other : C ≠ a := where_.elim (fun z => by rw [z]; exact c1) fun z e => c4 y a z e.symm
  refine ⟨m, ns.sameBut same other, fun t3 same3 => ⟨_, H9, J.turned (t' := t2.toks) (fun b o nb e => (same3.2 b nb).trans e) c0 c1 c3 c4 c5, q⟩⟩
theorem sw_trueD {kx vx : Expr} {gs : List Comprehension} {scope : Scope} {pos py : Pos} {y : Str} {l : Nat} {env : Env} (fn : env.scope.kind = .function) (loc : env.scope.names.lookup y = some .local) (line : (py.line == pos.line) = true)
    (no : (scope.names.any fun (n, k) => n == y && (k == .local || k == .cell)) = false) : swapsWith (.DictComp kx vx gs scope pos) (some (.Name y py)) l env = pure true := by
  have k1 : env.blockKind = .function := by
    unfold Env.blockKind
    rw [fn]; rfl
  have k2 : env.kindOf y = some .local := loc
  unfold swapsWith
  simp only [k1, k2, no, Expr.pos, line]; rfl
end
end L2
namespace Tb
open PySem PySem.Spec PyProof.Rows L2
open PySem.W (EachIs AllAlike Sortable dataLe)
abbrev sTPart : Stmt := inClass (topS 19) 5
abbrev NTPart : List Str := ["self", "other", "rows", "land", "lands", "heading", "prefix", "rate"]
theorem scTPart : FnScope NTPart ["self", "other"] (defScope sTPart) := ⟨rfl, rfl, rfl, by decide +kernel, rfl, by decide +kernel, by decide +kernel⟩
theorem kvT_put {S : List Str} {x : Str} : ∃ S', putK (kvT S) (Sum.inr x) (.bl true) = kvT S' ∧ (∀ y, y ∈ S' ↔ y ∈ S ∨ y = x) ∧ S'.length ≤ S.length + 1 := by
  by_cases c : x ∈ S
  · refine ⟨S, ?_, fun y => ⟨.inl, fun h => h.elim id fun e => by rw [e]; exact c⟩, Nat.le_succ _⟩
    have e : (valV (kvT S) (Sum.inr x)).isSome = true := by rw [kvT_val, decide_eq_true c]
    unfold putK
    rw [valV_any, if_pos e]
    unfold kvT
    rw [List.map_map]
    refine List.map_congr_left fun y _ => ?_
    show (if (Sum.inr y : Key) = Sum.inr x then ((Sum.inr y : Key), V.bl true) else (Sum.inr y, V.bl true)) = _
    split <;> rfl
  · refine ⟨S ++ [x], ?_, fun y => by rw [List.mem_append, List.mem_singleton], by rw [List.length_append]; exact Nat.le_refl _⟩
    have e : valV (kvT S) (Sum.inr x) = none := by
      have := kvT_val x S
      rw [decide_eq_false c] at this
      exact Option.isSome_eq_false_iff.mp this |> Option.isNone_iff_eq_none.mp
    rw [putK_new _ e]
    unfold kvT
    rw [List.map_append]; rfl
theorem oI_inj {a b : Option Int} : oI a = oI b ↔ a = b := by
  constructor
  · intro h
    cases a <;> cases b <;> simp [oI] at h ⊢
    exact h
  · rintro rfl; rfl
theorem scal_oI (a b : Option Int) : scal (oI a) (oI b) = true := by cases a <;> cases b <;> rfl
theorem sort1_mem {ks : List Str} {x : Str} : x ∈ ks.mergeSort (dataLe false PyData.str) ↔ x ∈ ks := List.mem_mergeSort
theorem sort1_srt (ks : List Str) : (ks.mergeSort (dataLe false PyData.str)).Pairwise fun a b => le1 a b = true := by
  have t : PySem.W.TotalLe le1 := by
    unfold le1 dataLe
    exact PySem.W.sortLe_total _ _ _
  exact PySem.W.sort_pairwise t ks
theorem cat_rows {K : PySem.W.Frag} {H : Hp} {p1 p2 : Addr} {b1 b2 : List (Addr × Rw)} {Q : VK} (h1 : H p1 = some (.tup (b1.map fun b => V.ref b.1))) (h2 : H p2 = some (.tup (b2.map fun b => V.ref b.1))) (ln : b1.length + b2.length ≤ 1000)
    (k : ∀ R H3, Same H H3 → H3 R = some (.tup ((b1 ++ b2).map fun b => V.ref b.1)) → Q (.ref R) H3) : rCatA K (.ref p1) (.ref p2) H Q := by
  have hz : sizeLine = 16777216 := rfl
  refine ⟨p1, p2, _, _, rfl, rfl, .of h1, .of h2, by rw [List.length_map, List.length_map]; omega, fun e => k p2 H (Same.refl _) ?_, fun _ e => k p1 H (Same.refl _) ?_, fun _ _ p np => k p _ (same_upd np) (by rw [upd_same, List.map_append])⟩
  · rw [List.map_eq_nil_iff.mp e, List.nil_append]; exact h2
  · rw [List.map_eq_nil_iff.mp e, List.append_nil]; exact h1
section
variable {P : Program} {w : World} {K : PySem.W.Frag} {mg : Str → Option Value} {base : Heap}
/-- the class Tariff, its methods and what they keep -/
structure TarK (P : Program) (w : World) (K : PySem.W.Frag) (mg : Str → Option Value) (base : Heap) (C : Addr) : Prop where
  T : TCls K C
  rows : ∃ p f fd, PropOf K C "rows" p f ∧ Binds K fd ["self"] [] ∧ FnOk P w K mg base CX0 1 f fd ["self"] (spTRows C)
  rate : ∃ f fd, Meth K C "rate" f ∧ Binds K fd ["self", "heading", "origin"] [] ∧ FnOk P w K mg base CX0 1 f fd ["self", "heading", "origin"] (spTRate C)
abbrev CByLen (P : Program) (w : World) (K : PySem.W.Frag) (mg : Str → Option Value) (base : Heap) (g : Addr) (gd : FuncData) := C1 P w K mg base "by_length" sByLen ["addresses"] 1 (spByLen K) g gd
abbrev CFree (P : Program) (w : World) (K : PySem.W.Frag) (mg : Str → Option Value) (base : Heap) (g : Addr) (gd : FuncData) := C1 P w K mg base "_free_land" sFree ["lands"] 1 spFree g gd
def spTPart (C : Addr) : Sp := fun vs H Q _ => ∃ (j i : Addr) (rs qs : List Rw), vs = [.ref j, .ref i] ∧ TarOf C H j rs ∧ TarOf C H i qs ∧ ∀ (v : V) (o : Option (Str × Str)) (H' : Hp), PartIs rs qs o → PV H' v o → Same H H' → Q v H'
theorem ok_tpart {f g1 g2 C : Addr} {fd gd1 gd2 : FuncData} (F : Fun K "parting" "Tariff.parting" sTPart f fd) (B : Blt mg) (TK : TarK P w K mg base C) (cByLen : CByLen P w K mg base g1 gd1) (cFree : CFree P w K mg base g2 gd2) : FnOk P w K mg base CX0 3 f fd ["self", "other"] (spTPart C) := by
  have TC := TK.T
  obtain ⟨pTs, fTs, dTs, TRp, bTs, FTs⟩ := TK.rows
  obtain ⟨fTr, dTr, TRm, bTr, FTr⟩ := TK.rate
  refine F.ok scTPart (fun vs H Q E h => ?_) (fun cdv A outer s H vs Q E hr h => ?_)
  · obtain ⟨j, i, rs, qs, rfl, _⟩ := h
    rfl
  · obtain ⟨j, i, rs, qs, rfl, hJ, hI, q⟩ := h
    have hu := hu_of hr
    have hz : sizeLine = 16777216 := rfl
    refine ⟨_, (pss_cons (ps_set (i := 2) scTPart.nd rfl (.inl rfl) (pe_op op_catA (pe_prop (pv 0) TC.c TRp FTs (hr.mono (by first | decide | omega)) bTs .nil pass0 (by rfl)) (pe_prop (pv 1) TC.c TRp FTs (hr.mono (by first | decide | omega)) bTs .nil pass0 (by rfl))))
      (pss_cons (ps_setDc (i := 4) (own := [("prefix", 6), ("land", 3), ("rate", 7)]) (g := gTup K 3 (gCons (gName 6) (gCons (gName 3) (gCons (gName 7) gNil)))) (by rfl) scTPart.nd rfl rfl (sw_trueD rfl rfl rfl (by decide +kernel)) (pi_tup (pv 2)) (blkOk_by (N := NTPart) (sc := defScope sTPart) (by decide +kernel)) (fun _ _ _ _ _ => pg_tup (by rfl) (pgs_cons (pg_name (i := 6) scTPart.nd rfl (Or.inl rfl)) (pgs_cons (pg_name (i := 3) scTPart.nd rfl (Or.inl rfl)) (pgs_cons (pg_name (i := 7) scTPart.nd rfl (Or.inl rfl)) pgs_nil)))) (fun _ _ _ _ _ => pts_one (pt_cmpR op_ne (pv 3) ((pe_txt (by rfl) B.hr)) (nomark _))) (fun _ _ _ _ _ => pv 3) (fun _ _ _ _ _ => pe_bl))
      (pss_cons (ps_dput hu (pv 4) (pe_call cFree.G (hr.mono (by first | decide | omega)) (by rfl) cFree.D.g cFree.D.F.kp cFree.D.b .nil pass0 (pa_cons (pv 4) pa_nil)) pe_bl (by rfl))
      (pss_cons (ps_for PassesOwn.never rfl (pi_list (pe_call cByLen.G (hr.mono (by first | decide | omega)) (by rfl) cByLen.D.g cByLen.D.F.kp cByLen.D.b .nil pass0 (pa_cons (pe_lc (own := [("prefix", 6), ("land", 3), ("rate", 7)]) (g := gTup K 3 (gCons (gName 6) (gCons (gName 3) (gCons (gName 7) gNil)))) (by rfl) scTPart.nd (pi_tup (pv 2)) (blkOk_by (N := NTPart) (sc := defScope sTPart) (by decide +kernel)) (fun _ _ _ _ _ => pg_tup (by rfl) (pgs_cons (pg_name (i := 6) scTPart.nd rfl (Or.inl rfl)) (pgs_cons (pg_name (i := 3) scTPart.nd rfl (Or.inl rfl)) (pgs_cons (pg_name (i := 7) scTPart.nd rfl (Or.inl rfl)) pgs_nil)))) (fun _ _ _ _ _ => pts_nil) (fun _ _ _ _ _ => pv 6)) pa_nil))) (pg_name (i := 5) scTPart.nd rfl (.inl rfl))
        (pss_one (ps_for PassesOwn.never rfl (pi_list (pe_callB (cr_sortedDk rfl hr.units) (by rfl) B.sorted PyProof.Rows.boot_sorted (pa_cons (pv 4) pa_nil))) (pg_name (i := 3) scTPart.nd rfl (.inl rfl))
          (pss_one (ps_if (pt_cmpR op_ne (pe_meth (pv 0) TC.c TRm FTr (hr.mono (by first | decide | omega)) bTr .nil pass0 (pa_cons (pv 5) (pa_cons (pv 3) pa_nil))) (pe_meth (pv 1) TC.c TRm FTr (hr.mono (by first | decide | omega)) bTr .nil pass0 (pa_cons (pv 5) (pa_cons (pv 3) pa_nil))) (nomark _))
            (pss_one (ps_ret (pe_tup (pa_cons (pv 5) (pa_cons (pv 3) pa_nil)))))
            pss_nil)))))
      (pss_one (ps_ret pe_non)))))), ?_⟩
    have lj : ∀ {j rs H}, TarOf C H j rs → ∃ dx fs, H j = some (.ins C dx fs) ∧ fs.lookup ("rate" : Str) = none := fun {j rs H} h => by
      obtain ⟨dx, a, b, c, d, ss, h1, _⟩ := h.ex
      refine ⟨dx, _, h1, ?_⟩
      unfold tarF
      rw [List.lookup_cons, show (("rate" : Str) == wLand) = false by decide +kernel, List.lookup_cons, show (("rate" : Str) == wFree) = false by decide +kernel, List.lookup_cons, show (("rate" : Str) == wShare) = false by decide +kernel, List.lookup_cons, show (("rate" : Str) == wRates) = false by decide +kernel]
      rfl
    obtain ⟨dx1, fs1, j1, _⟩ := lj hJ
    refine ⟨.ref j, rfl, j, dx1, fs1, rfl, j1, j, rs, rfl, hJ, fun p1 b1 H1 S1 hp1 hb1 pm1 _ => ?_⟩
    have hI1 := hI.same S1
    obtain ⟨dx2, fs2, i1, _⟩ := lj hI1
    refine ⟨.ref i, rfl, i, dx2, fs2, rfl, i1, i, qs, rfl, hI1, fun p2 b2 H2 S2 hp2 hb2 pm2 _ => ?_⟩
    have l1 : b1.length ≤ 50 := by
      have := pm1.length_eq
      rw [List.length_map] at this
      have := hJ.n
      omega
    have l2 : b2.length ≤ 50 := by
      have := pm2.length_eq
      rw [List.length_map] at this
      have := hI.n
      omega
    refine cat_rows (S2 _ _ hp1) hp2 (by omega) fun R H3 S3 hR => ?_
    have hb : ∀ b ∈ b1 ++ b2, H3 b.1 = some (.tup (rwV b.2)) := fun b m => (List.mem_append.mp m).elim (fun m => S3 _ _ (S2 _ _ (hb1 b m))) fun m => S3 _ _ (hb2 b m)
    have hm : ∀ r, r ∈ (b1 ++ b2).map (·.2) ↔ r ∈ rs ++ qs := fun r => by
      rw [List.map_append, List.mem_append, List.mem_append, pm1.mem_iff, pm2.mem_iff]
    have lb : (b1 ++ b2).length ≤ 100 := by rw [List.length_append]; omega
    have S03 := (S1.trans S2).trans S3
    generalize b1 ++ b2 = bs at hR hb hm lb
    clear hp1 hp2 hb1 hb2 pm1 pm2 l1 l2
    have okAll : ∀ r ∈ bs.map (·.2), okR r := fun r m => (List.mem_append.mp ((hm r).mp m)).elim (hJ.g.1 r) (hI.g.1 r)
    refine ⟨.ref R, rfl, R, rfl, ⟨_, .of hR⟩, fun D nD => ?_⟩
    refine in_it (walk_tup (a := R) (xs := bs.map fun b => V.ref b.1)) (fun i H' => Same H3 H' ∧ ∃ S, H' D = some (.dK (kvT S)) ∧ (∀ x, x ∈ S ↔ x ≠ Str.ofString "" ∧ ∃ r ∈ (bs.map (·.2)).take i, r.1.2 = x) ∧ S.length ≤ i) ⟨same_upd nD, [], upd_same, fun x => ⟨nofun, fun h => by obtain ⟨_, r, hr, _⟩ := h; cases hr⟩, Nat.le_refl _⟩ (fun i H' _ hP => .of (hP.1 _ _ hR)) (fun i v H5 H6 hi hP hy => ?_) (fun H5 hP => ?_)
    · obtain ⟨S5, S, hD, mS, lS⟩ := hP
      obtain ⟨rfl, ev⟩ := hy
      obtain ⟨w1, ew, rfl⟩ := bs_at ev
      have er : (bs.map (·.2))[i]? = some w1.2 := by rw [List.getElem?_map, ew]; rfl
      have lt : i < bs.length := (List.getElem?_eq_some_iff.mp ew).1
      refine ⟨w1.1, _, rfl, .of (S5 _ _ (hb w1 (List.mem_of_getElem? ew))), rfl, .str w1.2.1.1, _, rfl, .str w1.2.1.2, _, rfl, oI w1.2.2, _, rfl, rfl, rfl, .str w1.2.1.2, rfl, rfl, _, rfl, ?_⟩
      have mT : ∀ x, (∃ r ∈ (bs.map (·.2)).take (i + 1), r.1.2 = x) ↔ (∃ r ∈ (bs.map (·.2)).take i, r.1.2 = x) ∨ w1.2.1.2 = x := fun x => by
        rw [take_snoc er]
        constructor
        · rintro ⟨r, hr, e⟩
          rcases List.mem_append.mp hr with hr | hr
          · exact .inl ⟨r, hr, e⟩
          · rw [List.mem_singleton.mp hr] at e; exact .inr e
        · rintro (⟨r, hr, e⟩ | e)
          · exact ⟨r, List.mem_append_left _ hr, e⟩
          · exact ⟨w1.2, List.mem_append_right _ (List.mem_singleton.mpr rfl), e⟩
      refine ite2 (fun e => ?_) (fun e => ?_)
      · have ne : w1.2.1.2 ≠ Str.ofString "" := by simpa using e
        obtain ⟨S', eS, mS', lS'⟩ := kvT_put (S := S) (x := w1.2.1.2)
        refine ⟨.str w1.2.1.2, rfl, kvT S, Sum.inr w1.2.1.2, rfl, hD, by unfold kvT; rw [List.length_map]; omega, fun b o hb0 => ?_, S', by rw [upd_same, eS], fun x => ?_, by omega⟩
        · rw [upd_ne (ne_of_none hb0 nD)]; exact S5 _ _ hb0
        · rw [mS', mS, mT]
          constructor
          · rintro (⟨n, h⟩ | rfl)
            · exact ⟨n, .inl h⟩
            · exact ⟨ne, .inr rfl⟩
          · rintro ⟨n, h | rfl⟩
            · exact .inl ⟨n, h⟩
            · exact .inr rfl
      · have eq : w1.2.1.2 = Str.ofString "" := by simpa using e
        refine ⟨S5, S, hD, fun x => ?_, by omega⟩
        rw [mS, mT]
        constructor
        · rintro ⟨n, h⟩
          exact ⟨n, .inl h⟩
        · rintro ⟨n, h | rfl⟩
          · exact ⟨n, h⟩
          · exact absurd eq n
    obtain ⟨S5, S, hD, mS, lS⟩ := hP
    rw [List.length_map] at mS lS
    have eT : (bs.map (·.2)).take bs.length = bs.map (·.2) := by rw [← List.length_map (f := (·.2)) (as := bs), List.take_length]
    have hS : LandsOf rs qs S := fun x => by
      rw [mS, eT]
      exact and_congr Iff.rfl ⟨fun ⟨r, hr, e⟩ => ⟨r, (hm r).mp hr, e⟩, fun ⟨r, hr, e⟩ => ⟨r, (hm r).mpr hr, e⟩⟩
    refine ⟨.ref D, rfl, .ref D, rfl, D, S, rfl, hD, by omega, fun z H6 hz0 S6 => ?_⟩
    obtain ⟨S', eS, mS', lS'⟩ := kvT_put (S := S) (x := z)
    refine ⟨D, _, rfl, DPut.k (k := Sum.inr z) (S6 _ _ hD) (by unfold kvT; rw [List.length_map]; omega), ?_⟩
    rw [eS]
    have nD3 : H3 D = none := nD
    have S7 : Same H3 (upd H6 D (.dK (kvT S'))) := fun b o hb0 => by rw [upd_ne (ne_of_none hb0 nD3)]; exact S6 _ _ (S5 _ _ hb0)
    have hD7 : upd H6 D (.dK (kvT S')) D = some (.dK (kvT S')) := upd_same
    generalize upd H6 D (.dK (kvT S')) = H7 at S7 hD7
    have ml : ∀ x, x ∈ S'.mergeSort (dataLe false PyData.str) ↔ (x = z ∨ InS rs qs x) := fun x => by
      rw [sort1_mem, mS', hS x]
      exact or_comm
    refine ⟨.ref R, rfl, R, rfl, ⟨_, .of (S7 _ _ hR)⟩, fun G nG => ?_⟩
    refine lc_it (walk_tup (a := R) (xs := bs.map fun b => V.ref b.1)) (fun i H' => Same H7 H' ∧ H' G = some (.lst (((bs.take i).map fun b => b.2.1.1).map V.str))) ⟨same_upd nG, upd_same⟩ (fun i H' _ hP => .of (hP.1 _ _ (S7 _ _ hR))) (fun i v H8 H9 hi hP hy => ?_) (fun H8 hP => ?_)
    · obtain ⟨S8, hG⟩ := hP
      obtain ⟨rfl, ev⟩ := hy
      obtain ⟨w1, ew, rfl⟩ := bs_at ev
      refine ⟨w1.1, _, rfl, .of (S8 _ _ (S7 _ _ (hb w1 (List.mem_of_getElem? ew)))), rfl, .str w1.2.1.1, _, rfl, .str w1.2.1.2, _, rfl, oI w1.2.2, _, rfl, rfl, rfl, .str w1.2.1.1, rfl, _, hG, by rw [List.length_map, List.length_map, List.length_take]; omega, fun b o hb0 => ?_, ?_⟩
      · rw [upd_ne (ne_of_none hb0 nG)]; exact S8 _ _ hb0
      · rw [upd_same, take_snoc ew, List.map_append, List.map_append]; rfl
    obtain ⟨S8, hG⟩ := hP
    rw [List.length_map, List.take_length] at hG
    refine ⟨G, bs.map fun b => b.2.1.1, rfl, sqOf hG, by rw [List.length_map]; omega, fun x hx => ?_, fun Fz zs H9 S9 nF hF pw mz lz => ?_⟩
    · obtain ⟨b, mb, rfl⟩ := List.mem_map.mp hx
      have := addr_small (okAll b.2 (List.mem_map.mpr ⟨b, mb, rfl⟩)).1
      omega
    have mz' : ∀ x, x ∈ zs ↔ InP rs qs x := fun x => by
      rw [mz, List.mem_map]
      constructor
      · rintro ⟨b, mb, e⟩
        exact ⟨b.2, (hm b.2).mp (List.mem_map.mpr ⟨b, mb, rfl⟩), e⟩
      · rintro ⟨r, hr, e⟩
        obtain ⟨b, mb, rfl⟩ := List.mem_map.mp ((hm r).mpr hr)
        exact ⟨b, mb, e⟩
    have zl : ∀ x ∈ zs, x.length ≤ 8 := fun x hx => by
      obtain ⟨r, hr, rfl⟩ := (mz' x).mp hx
      exact addr_small ((List.mem_append.mp hr).elim (hJ.g.1 r) (hI.g.1 r)).1
    have S37 := S03.trans S7
    have S09 := (S37.trans S8).trans S9
    have hD9 := S9 _ _ (S8 _ _ hD7)
    generalize els : S'.mergeSort (dataLe false PyData.str) = ls at ml
    have sl : ls.Pairwise fun a b => le1 a b = true := by rw [← els]; exact sort1_srt S'
    refine ⟨Fz, rfl, ⟨_, sqOf hF⟩, ?_⟩
    refine for_it (walk_list (a := Fz) (xs := zs.map V.str)) (fun i0 σ H' => Same H9 H' ∧ (∃ y3 y5, σ = [some (.ref j), some (.ref i), some (.ref R), y3, some (.ref D), y5, none, none]) ∧ ∀ p' ∈ zs.take i0, ∀ l' ∈ ls, rate rs p' l' = rate qs p' l') ⟨Same.refl _, ⟨none, none, rfl⟩, nofun⟩ (fun _ _ H' _ hP => sqOf (hP.1 _ _ hF)) (fun i0 v σ Ha Hb hi0 hP hy => ?_) (fun σ Ha hP => ?_)
    · obtain ⟨Sa, ⟨y3, y5, rfl⟩, eq0⟩ := hP
      obtain ⟨rfl, ev⟩ := hy
      obtain ⟨p, ep, rfl⟩ := str_at ev
      refine ⟨.ref D, rfl, D, kvT S', S', rfl, .of (Sa _ _ hD9), by unfold kvT; rw [List.map_map]; rfl, by omega, fun L nL => ?_⟩
      have Sb := Sa.trans (same_upd (o := .lst ((S'.mergeSort (dataLe false PyData.str)).map V.str)) nL)
      refine ⟨L, rfl, ⟨_, sqOf upd_same⟩, ?_⟩
      have hL : upd Hb L (.lst ((S'.mergeSort (dataLe false PyData.str)).map V.str)) L = some (.lst (ls.map V.str)) := by rw [upd_same, els]
      rw [els] at Sb hL ⊢
      refine for_it (walk_list (a := L) (xs := ls.map V.str)) (fun j0 σ H' => Same (upd Hb L (.lst (ls.map V.str))) H' ∧ (∃ y3, σ = [some (.ref j), some (.ref i), some (.ref R), y3, some (.ref D), some (.str p), none, none]) ∧ ∀ l' ∈ ls.take j0, rate rs p l' = rate qs p l') ⟨Same.refl _, ⟨_, rfl⟩, nofun⟩ (fun _ _ H' _ hP => sqOf (hP.1 _ _ hL)) (fun j0 v σ Hc Hd hj0 hP hy => ?_) (fun σ Hc hP => ?_)
      · obtain ⟨Sc, ⟨y3, rfl⟩, eq1⟩ := hP
        obtain ⟨rfl, ev⟩ := hy
        obtain ⟨l, el, rfl⟩ := str_at ev
        have Sd := S09.trans (Sb.trans Sc)
        have T1 := hJ.same Sd
        obtain ⟨dx3, fs3, a3, n3⟩ := lj T1
        have pl := zl p (List.mem_of_getElem? ep)
        refine ⟨.ref j, rfl, j, dx3, fs3, rfl, a3, n3, _, rfl, _, rfl, j, p, l, rs, rfl, T1, by omega, fun He Se => ?_⟩
        have T2 := hI.same (Sd.trans Se)
        obtain ⟨dx4, fs4, a4, n4⟩ := lj T2
        refine ⟨.ref i, rfl, i, dx4, fs4, rfl, a4, n4, _, rfl, _, rfl, i, p, l, qs, rfl, T2, by omega, fun Hf Sf => ?_⟩
        refine ⟨scal_oI _ _, _, rfl, ite2 (fun e => ?_) (fun e => ?_)⟩
        · have ne : rate rs p l ≠ rate qs p l := fun c => by rw [c] at e; simp at e
          refine ⟨_, rfl, _, rfl, by show 2 ≤ sizeLine; omega, fun T nT => ?_⟩
          exact q (.ref T) (some (p, l)) _ (part_found hS hz0 pw sl mz' ml ep el eq0 eq1 ne) ⟨T, rfl, upd_same⟩ (((Sd.trans Se).trans Sf).trans (same_upd nT))
        · have eq : rate rs p l = rate qs p l := oI_inj.mp (by simpa using e)
          refine ⟨(Sc.trans Se).trans Sf, ⟨_, rfl⟩, fun l' hl' => (mem_take_succ el hl').elim (eq1 l') fun c => by rw [c]; exact eq⟩
      · obtain ⟨Sc, ⟨y3, rfl⟩, eq1⟩ := hP
        rw [List.length_map, List.take_length] at eq1
        refine ⟨Sb.trans Sc, ⟨_, _, rfl⟩, fun p' hp' l' hl' => (mem_take_succ ep hp').elim (fun m => eq0 p' m l' hl') fun c => by rw [c]; exact eq1 l' hl'⟩
    · obtain ⟨Sa, ⟨y3, y5, rfl⟩, eq0⟩ := hP
      rw [List.length_map, List.take_length] at eq0
      exact q .non none Ha (part_none hS hz0 mz' ml eq0) rfl (S09.trans Sa)
end
end Tb
namespace Tb
open PySem PySem.Spec PyProof.Rows L2
open PySem.W (EachIs AllAlike Sortable dataLe)
abbrev sLPart : Stmt := topS 34
abbrev NLPart : List Str := ["one", "other", "names", "head", "land", "row"]
theorem scLPart : FnScope NLPart ["one", "other"] (defScope sLPart) := ⟨rfl, rfl, rfl, by decide +kernel, rfl, by decide +kernel, by decide +kernel⟩
theorem alikeS (L : List Str) : AllAlike (L.map PyData.str) := fun d hd d' hd' => by
  obtain ⟨x, _, rfl⟩ := List.mem_map.mp hd
  obtain ⟨y, _, rfl⟩ := List.mem_map.mp hd'
  simp [PySem.W.alike]
theorem sortableS (L : List Str) : Sortable (L.map PyData.str) := .inr fun d hd => by
  obtain ⟨x, _, rfl⟩ := List.mem_map.mp hd
  exact ⟨nofun, nofun⟩
theorem inr_keys : ∀ L : List Key, (∀ k ∈ L, ∃ x : Str, k = Sum.inr x) → ∃ M : List Str, L = M.map Sum.inr
  | [], _ => ⟨[], rfl⟩
  | k :: L, h => by
    obtain ⟨x, rfl⟩ := h k List.mem_cons_self
    obtain ⟨M, rfl⟩ := inr_keys L fun k hk => h k (List.mem_cons_of_mem _ hk)
    exact ⟨x :: M, rfl⟩
/-! ### sorted(set(texts)), sorted(set(pairs of a length and its text)): the facts -/
theorem set_texts {ks : List Str} {L : List Key} (mL : ∀ k, k ∈ L ↔ k ∈ ks.map Sum.inr) (lL : L.length ≤ (ks.map (Sum.inr : Str → Key)).length) : ∃ M : List Str, L = M.map Sum.inr ∧ (∀ x, x ∈ M ↔ x ∈ ks) ∧ M.length ≤ ks.length := by
  obtain ⟨M, rfl⟩ := inr_keys L fun k hk => by
    obtain ⟨x, _, rfl⟩ := List.mem_map.mp ((mL k).mp hk)
    exact ⟨x, rfl⟩
  refine ⟨M, rfl, fun x => ?_, by rw [List.length_map, List.length_map] at lL; exact lL⟩
  have := mL (Sum.inr x)
  rw [List.mem_map, List.mem_map] at this
  constructor
  · intro h
    obtain ⟨y, hy, e⟩ := this.mp ⟨x, h, rfl⟩
    cases e; exact hy
  · intro h
    obtain ⟨y, hy, e⟩ := this.mpr ⟨x, h, rfl⟩
    cases e; exact hy
def strD (x : Str) : V × PyData := (V.str x, PyData.str x)
theorem walk_texts {P : Program} {w : World} {a : Addr} {M : List Str} {h : Heap} (hU : SH.SetQ P w h a (M.map Sum.inr)) : SH.Walked w h a ((M.map strD).map Prod.fst) := by
  have := SH.SetQ.walked hU
  rw [List.map_map] at this ⊢
  exact this
theorem dp_texts {K : PySem.W.Frag} {H : Hp} {M : List Str} : ∀ b ∈ M.map strD, Dp K H b.1 b.2 := fun b hb => by
  obtain ⟨x, _, rfl⟩ := List.mem_map.mp hb
  exact .str x
theorem depth_texts {M : List Str} : ∀ b ∈ M.map strD, b.2.depth ≤ 10 := fun b hb => by
  obtain ⟨x, _, rfl⟩ := List.mem_map.mp hb
  show (PyData.str x).depth ≤ 10
  simp [PyData.depth]
theorem snd_texts (M : List Str) : (M.map strD).map Prod.snd = M.map PyData.str := by rw [List.map_map]; rfl
theorem out_texts {M : List Str} {cs : List (V × PyData)} (pc : cs.Perm (M.map strD)) (pw : cs.Pairwise fun x y => dataLe false Prod.snd x y = true) : ∃ N : List Str, cs.map Prod.fst = N.map V.str ∧ N.Pairwise (fun a b => le1 a b = true) ∧ N.Perm M := by
  obtain ⟨N, pN, rfl⟩ := perm_map (g := strD) pc
  exact ⟨N, by rw [List.map_map]; rfl, List.pairwise_map.mp pw, pN⟩
def pairD (u : Addr × Str) : V × PyData := (V.ref u.1, encA u.2)
theorem snd_pairs (M : List (Addr × Str)) : (M.map pairD).map Prod.snd = (M.map (·.2)).map encA := by
  rw [List.map_map, List.map_map]; rfl
theorem out_pairs {M : List (Addr × Str)} {cs : List (V × PyData)} (pc : cs.Perm (M.map pairD)) (pw : cs.Pairwise fun x y => dataLe false Prod.snd x y = true) : ∃ N : List (Addr × Str), cs.map Prod.fst = N.map (fun u => V.ref u.1) ∧ (N.map (·.2)).Pairwise (fun a b => leA a b = true) ∧ N.Perm M := by
  obtain ⟨N, pN, rfl⟩ := perm_map (g := pairD) pc
  exact ⟨N, by rw [List.map_map]; rfl, List.pairwise_map.mpr (List.pairwise_map.mp pw), pN⟩
theorem sort_texts (ks : List Str) : ((ks.map strD).mergeSort (dataLe false Prod.snd)).map Prod.fst = (ks.mergeSort (dataLe false PyData.str)).map V.str := by
  have e3 : (ks.map strD).mergeSort (dataLe false Prod.snd) = (ks.mergeSort (dataLe false PyData.str)).map strD := by
    rw [List.map_mergeSort]
    intro a _ b _
    rfl
  rw [e3, List.map_map]
  rfl
theorem fst_texts (ks : List Str) : (ks.map strD).map Prod.fst = ks.map V.str := by rw [List.map_map]; rfl
section
variable {P : Program} {w : World} {K : PySem.W.Frag} {mg : Str → Option Value} {base : Heap}
abbrev CFresh (P : Program) (w : World) (K : PySem.W.Frag) (mg : Str → Option Value) (base : Heap) (g : Addr) (gd : FuncData) := C1 P w K mg base "_law_fresh" sFresh ["names"] 1 spFresh g gd
def spLPart : Sp := fun vs H Q _ => ∃ (a c : Addr) (bs cs : List (Addr × Rw)), vs = [.ref a, .ref c] ∧ LR H a bs ∧ LR H c cs ∧ Gd (bs.map (·.2)) ∧ Gd (cs.map (·.2)) ∧ bs.length ≤ 50 ∧ cs.length ≤ 50 ∧ ∀ (v : V) (o : Option (Str × Str)) (H' : Hp), PartIs (bs.map (·.2)) (cs.map (·.2)) o → PV H' v o → Same H H' → Q v H'
theorem ok_lpart {f g1 g2 : Addr} {fd gd1 gd2 : FuncData} (F : Fun K "_law_parting" "_law_parting" sLPart f fd) (B : Blt mg) (cFresh : CFresh P w K mg base g1 gd1) (cLRate : CLRate P w K mg base g2 gd2) : FnOk P w K mg base CX0 2 f fd ["one", "other"] spLPart := by
  refine F.ok scLPart (fun vs H Q E h => ?_) (fun cdv A outer s H vs Q E hr h => ?_)
  · obtain ⟨a, c, bs, cs, rfl, _⟩ := h
    rfl
  · obtain ⟨a, c, b1, b2, rfl, hA, hC, gA, gC, nA, nC, q⟩ := h
    have hz : sizeLine = 16777216 := rfl
    have zset := B.set
    refine ⟨_, (pss_cons (ps_set (i := 2) scLPart.nd rfl (.inl rfl) (pe_callB (r := SH.rSortSet K w) (SH.cr_sortSet rfl hr.units) (by rfl) B.sorted PyProof.Rows.boot_sorted (pa_cons (pe_callTy (r := SH.rSetQ K P w) (SH.cr_setQ rfl) (by rfl) zset boot_set (pa_cons (pe_lc (own := [("row", 5)]) (g := gName 5) (by rfl) scLPart.nd (pi_list (pe_op op_cat (pv 0) (pv 1))) (blkOk_by (N := NLPart) (sc := defScope sLPart) (by decide +kernel)) (fun _ _ _ _ _ => pg_name (i := 5) scLPart.nd rfl (Or.inl rfl)) (fun _ _ _ _ _ => pts_one (pt_cmpR op_ne (pe_ix (r := rIxT K) ix_tup (pv 5) pe_int (fun _ _ => rfl)) pe_str (nomark _))) (fun _ _ _ _ _ => pe_ix (r := rIxT K) ix_tup (pv 5) pe_int (fun _ _ => rfl))) pa_nil)) pa_nil)))
      (pss_cons (ps_set (i := 2) scLPart.nd rfl (.inl rfl) (pe_callB (cr_sortedDt hr.units) (by rfl) B.sorted PyProof.Rows.boot_sorted (pa_cons (pe_op op_cat (pv 2) (pe_lst (pa_cons (pe_call cFresh.G (hr.mono (by first | decide | omega)) (by rfl) cFresh.D.g cFresh.D.F.kp cFresh.D.b .nil pass0 (pa_cons (pv 2) pa_nil)) pa_nil))) pa_nil)))
      (pss_cons (ps_for PassesOwn.never rfl (pi_list (pe_callB (r := SH.rSortSet K w) (SH.cr_sortSet rfl hr.units) (by rfl) B.sorted PyProof.Rows.boot_sorted (pa_cons (pe_callTy (r := SH.rSetT K P w) (SH.cr_setT rfl hr.units) (by rfl) zset boot_set (pa_cons (pe_lc (own := [("row", 5)]) (g := gName 5) (by rfl) scLPart.nd (pi_list (pe_op op_cat (pv 0) (pv 1))) (blkOk_by (N := NLPart) (sc := defScope sLPart) (by decide +kernel)) (fun _ _ _ _ _ => pg_name (i := 5) scLPart.nd rfl (Or.inl rfl)) (fun _ _ _ _ _ => pts_nil) (fun _ _ _ _ _ => pe_tup (pa_cons (pe_callB call_len_str (by rfl) B.len PySem.boot_len (pa_cons (pe_ix (r := rIxT K) ix_tup (pv 5) pe_int (fun _ _ => rfl)) pa_nil)) (pa_cons (pe_ix (r := rIxT K) ix_tup (pv 5) pe_int (fun _ _ => rfl)) pa_nil)))) pa_nil)) pa_nil))) (pg_name (i := 3) scLPart.nd rfl (.inl rfl))
        (pss_one (ps_for PassesOwn.never rfl (pi_list (pv 2)) (pg_name (i := 4) scLPart.nd rfl (.inl rfl))
          (pss_one (ps_if (pt_cmpR op_ne (pe_call cLRate.G (hr.mono (by first | decide | omega)) (by rfl) cLRate.D.g cLRate.D.F.kp cLRate.D.b .nil pass0 (pa_cons (pv 0) (pa_cons (pe_ix ix_tup (pv 3) pe_int (fun _ _ => rfl)) (pa_cons (pv 4) pa_nil)))) (pe_call cLRate.G (hr.mono (by first | decide | omega)) (by rfl) cLRate.D.g cLRate.D.F.kp cLRate.D.b .nil pass0 (pa_cons (pv 1) (pa_cons (pe_ix ix_tup (pv 3) pe_int (fun _ _ => rfl)) (pa_cons (pv 4) pa_nil)))) (nomark _))
            (pss_one (ps_ret (pe_tup (pa_cons (pe_ix ix_tup (pv 3) pe_int (fun _ _ => rfl)) (pa_cons (pv 4) pa_nil)))))
            pss_nil)))))
      (pss_one (ps_ret pe_non))))), ?_⟩
    have okAll : ∀ b ∈ b1 ++ b2, okR b.2 := fun b m => (List.mem_append.mp m).elim (fun m => gA.1 _ (List.mem_map.mpr ⟨b, m, rfl⟩)) fun m => gC.1 _ (List.mem_map.mpr ⟨b, m, rfl⟩)
    have hm : ∀ r, r ∈ (b1 ++ b2).map (·.2) ↔ r ∈ b1.map (·.2) ++ b2.map (·.2) := fun r => by rw [List.map_append]
    have lb : (b1 ++ b2).length ≤ 100 := by rw [List.length_append]; omega
    have lens : ∀ b ∈ b1 ++ b2, b.2.1.1.length ≤ 8 := fun b m => addr_small (okAll b m).1
    have both : ∀ b ∈ b1 ++ b2, H b.1 = some (.tup (rwV b.2)) := fun b m => (List.mem_append.mp m).elim (hA.t b) (hC.t b)
    refine ⟨.ref a, rfl, .ref c, rfl, a, c, _, _, rfl, rfl, hA.l, hC.l, by rw [List.length_map, List.length_map]; omega, fun M nM => ?_⟩
    rw [← List.map_append]
    have S1 := same_upd (o := .lst ((b1 ++ b2).map fun b => V.ref b.1)) nM
    have hM : upd H M (.lst ((b1 ++ b2).map fun b => V.ref b.1)) M = some (.lst ((b1 ++ b2).map fun b => V.ref b.1)) := upd_same
    generalize upd H M (.lst ((b1 ++ b2).map fun b => V.ref b.1)) = H1 at S1 hM
    generalize ebs : b1 ++ b2 = bs at okAll hm lb lens both hM
    refine ⟨M, rfl, ⟨_, sqOf hM⟩, fun D nD => ?_⟩
    refine lc_it (walk_list (a := M) (xs := bs.map fun b => V.ref b.1)) (fun i H' => Same H1 H' ∧ ∃ ks : List Str, H' D = some (.lst (ks.map V.str)) ∧ (∀ x, x ∈ ks ↔ x ≠ Str.ofString "" ∧ ∃ r ∈ (bs.map (·.2)).take i, r.1.2 = x) ∧ ks.length ≤ i) ⟨same_upd nD, [], upd_same, fun x => ⟨nofun, fun h => by obtain ⟨_, r, hr, _⟩ := h; cases hr⟩, Nat.le_refl _⟩ (fun i H' _ hP => sqOf (hP.1 _ _ hM)) (fun i v H5 H6 hi hP hy => ?_) (fun H5 hP => ?_)
    · obtain ⟨S5, S, hD, mS, lS⟩ := hP
      obtain ⟨rfl, ev⟩ := hy
      obtain ⟨w1, ew, rfl⟩ := bs_at ev
      have er : (bs.map (·.2))[i]? = some w1.2 := by rw [List.getElem?_map, ew]; rfl
      have lt : i < bs.length := (List.getElem?_eq_some_iff.mp ew).1
      have hw := S5 _ _ (S1 _ _ (both w1 (List.mem_of_getElem? ew)))
      refine ⟨rfl, .ref w1.1, rfl, w1.1, _, 1, _, rfl, rfl, .of hw, rfl, rfl, _, rfl, ?_⟩
      have mT : ∀ x, (∃ r ∈ (bs.map (·.2)).take (i + 1), r.1.2 = x) ↔ (∃ r ∈ (bs.map (·.2)).take i, r.1.2 = x) ∨ w1.2.1.2 = x := fun x => by
        rw [take_snoc er]
        constructor
        · rintro ⟨r, hr, e⟩
          rcases List.mem_append.mp hr with hr | hr
          · exact .inl ⟨r, hr, e⟩
          · rw [List.mem_singleton.mp hr] at e; exact .inr e
        · rintro (⟨r, hr, e⟩ | e)
          · exact ⟨r, List.mem_append_left _ hr, e⟩
          · exact ⟨w1.2, List.mem_append_right _ (List.mem_singleton.mpr rfl), e⟩
      refine ite2 (fun e => ?_) (fun e => ?_)
      · have ne : w1.2.1.2 ≠ Str.ofString "" := by simpa using e
        refine ⟨.ref w1.1, rfl, w1.1, _, 1, .str w1.2.1.2, rfl, rfl, .of hw, rfl, _, hD, by rw [List.length_map]; omega, fun b o hb0 => ?_, S ++ [w1.2.1.2], by rw [upd_same, List.map_append]; rfl, fun x => ?_, by rw [List.length_append]; exact Nat.succ_le_succ lS⟩
        · rw [upd_ne (ne_of_none hb0 nD)]; exact S5 _ _ hb0
        · rw [List.mem_append, List.mem_singleton, mS, mT]
          constructor
          · rintro (⟨n, h⟩ | rfl)
            · exact ⟨n, .inl h⟩
            · exact ⟨ne, .inr rfl⟩
          · rintro ⟨n, h | rfl⟩
            · exact .inl ⟨n, h⟩
            · exact .inr rfl
      · have eq : w1.2.1.2 = Str.ofString "" := by simpa using e
        refine ⟨S5, S, hD, fun x => ?_, by omega⟩
        rw [mS, mT]
        constructor
        · rintro ⟨n, h⟩
          exact ⟨n, .inl h⟩
        · rintro ⟨n, h | rfl⟩
          · exact ⟨n, h⟩
          · exact absurd eq n
    obtain ⟨S5, S0, hD, mS, lS⟩ := hP
    rw [List.length_map] at mS lS
    have eT : (bs.map (·.2)).take bs.length = bs.map (·.2) := by rw [← List.length_map (f := (·.2)) (as := bs), List.take_length]
    refine ⟨D, S0.map Sum.inr, rfl, sqOf (by rw [List.map_map]; exact hD), by rw [List.length_map]; omega, fun ad L0 na ndL mL lL => ?_⟩
    obtain ⟨M0, rfl, mM, lM⟩ := set_texts mL lL
    refine ⟨ad, M0.map strD, _, rfl, upd_same, fun h hU => walk_texts hU, dp_texts, by rw [snd_texts]; exact alikeS M0, by rw [snd_texts]; exact sortableS M0, depth_texts, fun cs0 p pc pw np => ?_⟩
    obtain ⟨S, eS, pwS, pS⟩ := out_texts pc pw
    rw [eS]
    have S6 := (same_upd na (o := SH.SetK2 P w ad (M0.map Sum.inr))).trans (same_upd np (o := .lst (S.map V.str)))
    have hp : upd (upd H5 ad (SH.SetK2 P w ad (M0.map Sum.inr))) p (.lst (S.map V.str)) p = some (.lst (S.map V.str)) := upd_same
    generalize upd (upd H5 ad (SH.SetK2 P w ad (M0.map Sum.inr))) p (.lst (S.map V.str)) = H6 at S6 hp
    have mN : ∀ x, x ∈ S ↔ x ∈ S0 := fun x => pS.mem_iff.trans (mM x)
    have lN : S.length ≤ S0.length := by rw [pS.length_eq]; exact lM
    have hS : LandsOf (b1.map (·.2)) (b2.map (·.2)) S := fun x => by
      rw [mN, mS, eT]
      exact and_congr Iff.rfl ⟨fun ⟨r, hr, e⟩ => ⟨r, (hm r).mp hr, e⟩, fun ⟨r, hr, e⟩ => ⟨r, (hm r).mpr hr, e⟩⟩
    refine ⟨.ref p, rfl, .ref p, rfl, p, S, rfl, hp, by omega, fun z hz0 => ⟨by show 1 ≤ sizeLine; omega, fun M1 nM1 => ?_⟩⟩
    have S7 := same_upd (o := .lst [V.str z]) nM1
    refine ⟨p, M1, _, _, rfl, rfl, S7 _ _ hp, upd_same, by rw [List.length_map]; show _ + 1 ≤ _; omega, fun N1 nN1 => ?_⟩
    have S8 := same_upd (o := .lst (S.map V.str ++ [V.str z])) nN1
    refine ⟨N1, (S ++ [z]).map strD, rfl, sqOf (by rw [upd_same, fst_texts, List.map_append]; rfl), dp_texts, by rw [snd_texts]; exact alikeS _, by rw [snd_texts]; exact sortableS _, depth_texts, fun L nL => ?_⟩
    rw [sort_texts]
    have S9 := same_upd nL (o := .lst (((S ++ [z]).mergeSort (dataLe false PyData.str)).map V.str))
    have hL : upd (upd (upd H6 M1 (.lst [V.str z])) N1 (.lst (S.map V.str ++ [V.str z]))) L (.lst (((S ++ [z]).mergeSort (dataLe false PyData.str)).map V.str)) L = some (.lst (((S ++ [z]).mergeSort (dataLe false PyData.str)).map V.str)) := upd_same
    generalize upd (upd (upd H6 M1 (.lst [V.str z])) N1 (.lst (S.map V.str ++ [V.str z]))) L (.lst (((S ++ [z]).mergeSort (dataLe false PyData.str)).map V.str)) = H9 at S9 hL
    have S09 := ((((S1.trans S5).trans S6).trans S7).trans S8).trans S9
    have ml : ∀ x, x ∈ (S ++ [z]).mergeSort (dataLe false PyData.str) ↔ (x = z ∨ InS (b1.map (·.2)) (b2.map (·.2)) x) := fun x => by
      rw [sort1_mem, List.mem_append, List.mem_singleton, hS x]
      exact or_comm
    have sl := sort1_srt (S ++ [z])
    generalize (S ++ [z]).mergeSort (dataLe false PyData.str) = ls at ml sl hL
    have hA9 := hA.same S09
    have hC9 := hC.same S09
    have both9 : ∀ b ∈ bs, H9 b.1 = some (.tup (rwV b.2)) := fun b m => S09 _ _ (both b m)
    refine ⟨.ref a, rfl, .ref c, rfl, a, c, _, _, rfl, rfl, hA9.l, hC9.l, by rw [List.length_map, List.length_map]; omega, fun M2 nM2 => ?_⟩
    rw [← List.map_append, ebs]
    have T1 := same_upd (o := .lst (bs.map fun b => V.ref b.1)) nM2
    refine ⟨M2, rfl, ⟨_, sqOf upd_same⟩, fun D2 nD2 => ?_⟩
    have hM2 : upd H9 M2 (.lst (bs.map fun b => V.ref b.1)) M2 = some (.lst (bs.map fun b => V.ref b.1)) := upd_same
    generalize upd H9 M2 (.lst (bs.map fun b => V.ref b.1)) = Ha at T1 hM2 nD2
    refine lc_it (walk_list (a := M2) (xs := bs.map fun b => V.ref b.1)) (fun i H' => Same Ha H' ∧ ∃ us : List (Addr × Str), H' D2 = some (.lst (us.map fun u => V.ref u.1)) ∧ us.map (·.2) = (bs.map fun b => b.2.1.1).take i ∧ ∀ u ∈ us, pT H' u) ⟨same_upd nD2, [], upd_same, rfl, nofun⟩ (fun i H' _ hP => sqOf (hP.1 _ _ hM2)) (fun i v Hb Hc hi hP hy => ?_) (fun Hb hP => ?_)
    · obtain ⟨S5, us, hD2, eu, hu⟩ := hP
      obtain ⟨rfl, ev⟩ := hy
      obtain ⟨w1, ew, rfl⟩ := bs_at ev
      have mw := List.mem_of_getElem? ew
      have er : (bs.map fun b => b.2.1.1)[i]? = some w1.2.1.1 := by rw [List.getElem?_map, ew]; rfl
      have hw := S5 _ _ (T1 _ _ (both9 w1 mw))
      have wl := lens w1 mw
      have lu : us.length ≤ 100 := by
        have := congrArg List.length eu
        rw [List.length_map, List.length_take, List.length_map] at this
        omega
      refine ⟨rfl, .ref w1.1, rfl, w1.1, _, 0, _, rfl, rfl, .of hw, rfl, w1.2.1.1, rfl, by omega, .ref w1.1, rfl, w1.1, _, 0, _, rfl, rfl, .of hw, rfl, by show 2 ≤ sizeLine; omega, fun T nT => ?_⟩
      have Su := same_upd (o := .tup [.int (w1.2.1.1.length : Int), .str w1.2.1.1]) nT
      have DT : D2 ≠ T := ne_of_none hD2 nT
      refine ⟨_, Su _ _ hD2, by rw [List.length_map]; omega, fun b o hb0 => ?_, us ++ [(T, w1.2.1.1)], by rw [upd_same, List.map_append]; rfl, by rw [List.map_append, eu, take_snoc er]; rfl, fun u hu' => ?_⟩
      · rw [upd_ne (ne_of_none hb0 nD2)]; exact Su _ _ (S5 _ _ hb0)
      · rcases List.mem_append.mp hu' with hu' | hu'
        · have h := Su _ _ (hu u hu')
          show upd _ D2 _ u.1 = _
          rw [upd_ne (ne_of h (Su _ _ hD2) (fun z => by cases z))]; exact h
        · rw [List.mem_singleton.mp hu']
          show upd _ D2 _ T = _
          rw [upd_ne DT.symm]; exact upd_same
    obtain ⟨S5, us, hD2, eu, hu⟩ := hP
    have eu : us.map (·.2) = bs.map fun b => b.2.1.1 := by rw [eu, List.length_map, ← List.length_map (f := fun b : Addr × Rw => b.2.1.1) (as := bs), List.take_length]
    have lu : us.length ≤ 100 := by
      have := congrArg List.length eu
      rw [List.length_map, List.length_map] at this
      omega
    refine ⟨D2, us.map kT, rfl, sqOf (by rw [List.map_map]; exact hD2), fun p hp => ?_, by rw [List.length_map]; omega, fun ad L0 na g nd => ?_⟩
    · obtain ⟨u, hm, rfl⟩ := List.mem_map.mp hp
      exact .of (hu u hm)
    obtain ⟨M3, rfl, hM3⟩ := sub_map (f := kT) (us := us) fun p hp => by
      have := g.sub p hp
      rw [List.take_length] at this
      obtain ⟨u, hm, e⟩ := List.mem_map.mp this
      exact ⟨u, hm, e.symm⟩
    have all3 : ∀ x, x ∈ M3.map (·.2) ↔ x ∈ us.map (·.2) := fun x => by
      constructor
      · intro hm
        obtain ⟨u, h1, e⟩ := List.mem_map.mp hm
        exact List.mem_map.mpr ⟨u, hM3 u h1, e⟩
      · intro hm
        obtain ⟨u, h1, rfl⟩ := List.mem_map.mp hm
        have := g.all (kT u) (by rw [List.take_length]; exact List.mem_map.mpr ⟨u, h1, rfl⟩)
        rw [List.map_map] at this
        obtain ⟨v, h2, e⟩ := List.mem_map.mp this
        have e2 : ([Sum.inl (v.2.length : Int), Sum.inr v.2] : List Key) = [Sum.inl (u.2.length : Int), Sum.inr u.2] := e
        simp only [List.cons.injEq, Sum.inr.injEq] at e2
        exact List.mem_map.mpr ⟨v, h2, e2.2.1⟩
    have Sa3 := same_upd na (o := SH.SetT P w ad (M3.map kT))
    refine ⟨ad, M3.map pairD, _, rfl, upd_same, fun h hU => ?_, fun b hb => ?_, by rw [snd_pairs]; exact alike_A _, by rw [snd_pairs]; exact sortable_A _, fun b hb => ?_, fun cs0 G pc pw np => ?_⟩
    · have := SH.SetP.walked hU
      rw [List.map_map] at this ⊢
      exact this
    · obtain ⟨u, hm, rfl⟩ := List.mem_map.mp hb
      exact dp_A (Sa3 _ _ (hu u (hM3 u hm)))
    · obtain ⟨u, hm, rfl⟩ := List.mem_map.mp hb
      exact depth_A _
    obtain ⟨N, eN0, pwN, pN⟩ := out_pairs pc pw
    rw [eN0]
    have Sb3 := same_upd np (o := .lst (N.map fun u => V.ref u.1))
    have Sd := Sa3.trans Sb3
    have hG : upd (upd Hb ad (SH.SetT P w ad (M3.map kT))) G (.lst (N.map fun u => V.ref u.1)) G = some (.lst (N.map fun u => V.ref u.1)) := upd_same
    generalize upd (upd Hb ad (SH.SetT P w ad (M3.map kT))) G (.lst (N.map fun u => V.ref u.1)) = Hd at Sd hG Sb3
    have hN : ∀ u ∈ N, pT Hd u := fun u hm => Sd _ _ (hu u (hM3 u (pN.mem_iff.mp hm)))
    have mN2 : ∀ x, x ∈ N.map (·.2) ↔ x ∈ us.map (·.2) := fun x => ((pN.map (·.2)).mem_iff).trans (all3 x)
    have S0d := ((S09.trans T1).trans S5).trans Sd
    have mz : ∀ x, x ∈ N.map (·.2) ↔ InP (b1.map (·.2)) (b2.map (·.2)) x := fun x => by
      rw [mN2, eu, List.mem_map]
      constructor
      · rintro ⟨b, mb, e⟩
        exact ⟨b.2, (hm b.2).mp (List.mem_map.mpr ⟨b, mb, rfl⟩), e⟩
      · rintro ⟨r, hr, e⟩
        obtain ⟨b, mb, rfl⟩ := List.mem_map.mp ((hm r).mpr hr)
        exact ⟨b, mb, e⟩
    have hLd := Sd _ _ (S5 _ _ (T1 _ _ hL))
    have l1 : ∀ b ∈ b1, b.2.1.1.length ≤ 1000 := fun b m => by
      have := lens b (by rw [← ebs]; exact List.mem_append_left _ m)
      omega
    have l2 : ∀ b ∈ b2, b.2.1.1.length ≤ 1000 := fun b m => by
      have := lens b (by rw [← ebs]; exact List.mem_append_right _ m)
      omega
    refine ⟨G, rfl, ⟨_, sqOf hG⟩, ?_⟩
    refine for_it (walk_list (K := K) (a := G) (xs := N.map fun u => V.ref u.1)) (fun i0 σ H' => H' = Hd ∧ (∃ y3 y4, σ = [some (.ref a), some (.ref c), some (.ref L), y3, y4, none]) ∧ ∀ p' ∈ (N.map (·.2)).take i0, ∀ l' ∈ ls, rate (b1.map (·.2)) p' l' = rate (b2.map (·.2)) p' l') ⟨rfl, ⟨none, none, rfl⟩, nofun⟩ (fun _ _ H' _ hP => by rw [hP.1]; exact sqOf hG) (fun i0 v σ He Hf hi0 hP hy => ?_) (fun σ He hP => ?_)
    · obtain ⟨rfl, ⟨y3, y4, rfl⟩, eq0⟩ := hP
      obtain ⟨rfl, ev⟩ := hy
      rw [List.getElem?_map] at ev
      cases eN : N[i0]? with
      | none => rw [eN] at ev; cases ev
      | some u =>
      rw [eN] at ev
      cases (Option.some.inj ev)
      have ep : (N.map (·.2))[i0]? = some u.2 := by rw [List.getElem?_map, eN]; rfl
      have hu0 := hN u (List.mem_of_getElem? eN)
      have pl : u.2.length ≤ 8 := by
        obtain ⟨r, hr, e⟩ := (mz u.2).mp (List.mem_of_getElem? ep)
        rw [← e]
        exact addr_small ((List.mem_append.mp hr).elim (gA.1 r) (gC.1 r)).1
      refine ⟨.ref L, rfl, L, rfl, ⟨_, sqOf hLd⟩, ?_⟩
      refine for_it (walk_list (K := K) (a := L) (xs := ls.map V.str)) (fun j0 σ H' => H' = Hf ∧ (∃ y4, σ = [some (.ref a), some (.ref c), some (.ref L), some (.ref u.1), y4, none]) ∧ ∀ l' ∈ ls.take j0, rate (b1.map (·.2)) u.2 l' = rate (b2.map (·.2)) u.2 l') ⟨rfl, ⟨_, rfl⟩, nofun⟩ (fun _ _ H' _ hP => by rw [hP.1]; exact sqOf hLd) (fun j0 v σ Hg Hh hj0 hP hy => ?_) (fun σ Hg hP => ?_)
      · obtain ⟨rfl, ⟨y4, rfl⟩, eq1⟩ := hP
        obtain ⟨rfl, ev⟩ := hy
        obtain ⟨l, el, rfl⟩ := str_at ev
        refine ⟨_, rfl, .ref u.1, rfl, u.1, _, 1, _, rfl, rfl, .of hu0, rfl, .str l, rfl, a, u.2, l, b1, rfl, hA.same S0d, by omega, by omega, l1, fun x rx => ?_⟩
        cases rate_uniq gA.2 rx (rate_is gA u.2 l)
        refine ⟨_, rfl, .ref u.1, rfl, u.1, _, 1, _, rfl, rfl, .of hu0, rfl, .str l, rfl, c, u.2, l, b2, rfl, hC.same S0d, by omega, by omega, l2, fun x rx => ?_⟩
        cases rate_uniq gC.2 rx (rate_is gC u.2 l)
        refine ⟨scal_oI _ _, _, rfl, ite2 (fun e => ?_) (fun e => ?_)⟩
        · have ne : rate (b1.map (·.2)) u.2 l ≠ rate (b2.map (·.2)) u.2 l := fun c => by rw [c] at e; simp at e
          refine ⟨_, rfl, u.1, _, 1, _, rfl, rfl, .of hu0, rfl, .str l, rfl, by show 2 ≤ sizeLine; omega, fun T nT => ?_⟩
          exact q (.ref T) (some (u.2, l)) _ (part_found hS hz0 pwN sl mz ml ep el eq0 eq1 ne) ⟨T, rfl, upd_same⟩ (S0d.trans (same_upd nT))
        · have eq : rate (b1.map (·.2)) u.2 l = rate (b2.map (·.2)) u.2 l := oI_inj.mp (by simpa using e)
          exact ⟨rfl, ⟨_, rfl⟩, fun l' hl' => (mem_take_succ el hl').elim (eq1 l') fun c => by rw [c]; exact eq⟩
      · obtain ⟨rfl, ⟨y4, rfl⟩, eq1⟩ := hP
        rw [List.length_map, List.take_length] at eq1
        exact ⟨rfl, ⟨_, _, rfl⟩, fun p' hp' l' hl' => (mem_take_succ ep hp').elim (fun m => eq0 p' m l' hl') fun c => by rw [c]; exact eq1 l' hl'⟩
    · obtain ⟨rfl, ⟨y3, y4, rfl⟩, eq0⟩ := hP
      rw [List.length_map, ← List.length_map (f := (·.2)) (as := N), List.take_length] at eq0
      exact q .non none He (part_none hS hz0 mz ml eq0) rfl S0d
end
end Tb
namespace Tb
open PySem PySem.Spec PyProof.Rows L2
abbrev sIsPair : Stmt := topS 35
abbrev NIsPair : List Str := ["told", "due"]
theorem scIsPair : FnScope NIsPair ["told", "due"] (defScope sIsPair) := ⟨rfl, rfl, rfl, by decide +kernel, rfl, by decide +kernel, by decide +kernel⟩
abbrev sIsRate : Stmt := topS 36
abbrev NIsRate : List Str := ["told", "due"]
theorem scIsRate : FnScope NIsRate ["told", "due"] (defScope sIsRate) := ⟨rfl, rfl, rfl, by decide +kernel, rfl, by decide +kernel, by decide +kernel⟩
abbrev sRowsAre : Stmt := topS 37
abbrev NRowsAre : List Str := ["told", "rows", "due", "k"]
theorem scRowsAre : FnScope NRowsAre ["told", "rows"] (defScope sRowsAre) := ⟨rfl, rfl, rfl, by decide +kernel, rfl, by decide +kernel, by decide +kernel⟩
def SgP (p : Pr) : Prop := Sg p.1 ∧ Sg p.2
theorem lay_2 {p : Pr} (h : SgP p) : SeqAt.shaped (enc2 p) = true := by
  show (PyData.canLay0 (enc2 p) && decide (PyData.depth (enc2 p) ≤ 64)) = true
  rw [Bool.and_eq_true]
  refine ⟨by simp only [enc2, PyData.canLay0, PyData.canLayAll0, strOk_sg h.1, strOk_sg h.2, Bool.and_true], decide_eq_true ?_⟩
  have := depth2 p
  omega
theorem eqv_same {d : PyData} (h : SeqAt.shaped d = true) : PyData.eqv d d = true := SeqAt.eqv_refl _ (SeqAt.canLay_of_shaped h)
theorem dp_pr {K : PySem.W.Frag} {H : Hp} {T : Addr} {p : Pr} (h : H T = some (.tup [.str p.1, .str p.2])) : Dp K H (.ref T) (enc2 p) := .tup (.of h) (.cons (.str _) (.cons (.str _) .nil))
theorem addr_sg {x : Str} (h : isAddr x = true) : Sg x := (ad_tx ((isAddr_iff x).mp h)).sg
theorem lane_sg {x : Str} (h : isLane x = true) : Sg x := by
  unfold isLane at h
  rw [Bool.or_eq_true] at h
  rcases h with h | h
  · rw [of_decide_eq_true h]
    exact fun c hc => by cases hc
  · exact (nm_tx ((isName_iff x).mp h)).sg
section
variable {P : Program} {w : World} {K : PySem.W.Frag} {mg : Str → Option Value} {base : Heap}
def spIsPair : Sp := fun vs H Q _ => ∃ (v u : V) (o : Option (Str × Str)), vs = [v, u] ∧ PV H v o ∧ PV H u o ∧ (∀ z, o = some z → SgP z) ∧ Q (.bl true) H
theorem ok_ispair {f : Addr} {fd : FuncData} {k : Nat} (F : Fun K "_law_is_pair" "_law_is_pair" sIsPair f fd) (B : Blt mg) : FnOk P w K mg base CX0 (k + 1) f fd ["told", "due"] spIsPair := by
  refine F.ok scIsPair (fun vs H Q E h => ?_) (fun cdv A outer s H vs Q E hr h => ?_)
  · obtain ⟨v, u, o, rfl, _⟩ := h
    rfl
  · obtain ⟨v, u, o, rfl, h1, h2, hg, q⟩ := h
    refine ⟨_, (pss_cons (ps_if (pt_cmpR op_isN (pv 1) pe_non (nomark _))
        (pss_one (ps_ret (pe_cmpR op_isN (pv 0) pe_non (nomark _))))
        pss_nil)
      (pss_cons (ps_if (PW.pt (pw_or (pt_not (pt_val (pe_callB call_isi (by rfl) B.isi (by decide +kernel) (pa_cons (pv 0) (pa_cons (pe_bltn (by rfl) B.tuple (by decide +kernel) (v := .ty "tuple") (u := .type "tuple") rfl) pa_nil))))) (pw_or1 (pt_cmpR op_ne (pe_callB call_len_seq (by rfl) B.len PySem.boot_len (pa_cons (pv 0) pa_nil)) pe_int (nomark _)))))
        (pss_one (ps_ret pe_bl))
        pss_nil)
      (pss_one (ps_ret (pe_and (pe_callB call_isi (by rfl) B.isi (by decide +kernel) (pa_cons (pe_ix ix_tup (pv 0) pe_int (fun _ _ => rfl)) (pa_cons (pe_bltn (by rfl) B.str PyProof.Rows.boot_str (v := .ty "str") (u := .type "str") rfl) pa_nil))) (pe_and (pe_callB call_isi (by rfl) B.isi (by decide +kernel) (pa_cons (pe_ix ix_tup (pv 0) pe_int (fun _ _ => rfl)) (pa_cons (pe_bltn (by rfl) B.str PyProof.Rows.boot_str (v := .ty "str") (u := .type "str") rfl) pa_nil))) (pe_one (pe_cmpR (op_eqD hr.units) (pv 0) (pv 1) (nomark _))))))))), ?_⟩
    cases o with
    | none =>
      obtain rfl : v = .non := h1
      obtain rfl : u = .non := h2
      exact ⟨.non, rfl, rfl, true, rfl, .non, rfl, rfl, q⟩
    | some z =>
      obtain ⟨T, rfl, hT⟩ := h1
      obtain ⟨U, rfl, hU⟩ := h2
      have sg := lay_2 (hg z rfl)
      have sT : SqT K H T [.str z.1, .str z.2] := .of hT
      refine ⟨.ref U, rfl, rfl, false, rfl, ?_⟩
      refine ⟨.ref T, rfl, .ref T, .ty "tuple", .type "tuple", .type "tuple", true, rfl, .ty _, .base (.tup hT), kit_ty (by decide +kernel), true, rfl, ?_⟩
      refine ⟨.ref T, rfl, T, _, rfl, .inr sT, rfl, _, rfl, ?_⟩
      refine ite2 (fun z => by simp at z) (fun _ => ?_)
      refine ⟨.ref T, rfl, T, _, 0, .str z.1, rfl, rfl, sT, rfl, .str z.1, .ty "str", .type "str", .type "str", true, rfl, .ty _, .base (.str _), kit_ty (by decide +kernel), true, rfl, ?_⟩
      refine ⟨.ref T, rfl, T, _, 1, .str z.2, rfl, rfl, sT, rfl, .str z.2, .ty "str", .type "str", .type "str", true, rfl, .ty _, .base (.str _), kit_ty (by decide +kernel), true, rfl, ?_⟩
      refine ⟨.ref T, rfl, .ref U, rfl, enc2 z, enc2 z, dp_pr hT, dp_pr hU, sg, sg, ?_⟩
      rw [eqv_same sg]
      exact q
def spIsRate : Sp := fun vs H Q _ => ∃ (x : Option Int), vs = [oI x, oI x] ∧ Q (.bl true) H
theorem ok_israte {f : Addr} {fd : FuncData} {k : Nat} (F : Fun K "_law_is_rate" "_law_is_rate" sIsRate f fd) (B : Blt mg) : FnOk P w K mg base CX0 (k + 1) f fd ["told", "due"] spIsRate := by
  refine F.ok scIsRate (fun vs H Q E h => ?_) (fun cdv A outer s H vs Q E hr h => ?_)
  · obtain ⟨x, rfl, _⟩ := h
    rfl
  · obtain ⟨x, rfl, q⟩ := h
    refine ⟨_, (pss_cons (ps_if (pt_cmpR op_isN (pv 1) pe_non (nomark _))
        (pss_one (ps_ret (pe_cmpR op_isN (pv 0) pe_non (nomark _))))
        pss_nil)
      (pss_one (ps_ret (pe_and (pe_callB call_isi (by rfl) B.isi (by decide +kernel) (pa_cons (pv 0) (pa_cons (pe_bltn (by rfl) B.int PyProof.Rows.boot_int (v := .ty "int") (u := .type "int") rfl) pa_nil))) (pe_and (pe_not (pe_callB call_isi (by rfl) B.isi (by decide +kernel) (pa_cons (pv 0) (pa_cons (pe_bltn (by rfl) B.bool (by decide +kernel) (v := .ty "bool") (u := .type "bool") rfl) pa_nil)))) (pe_one (pe_cmpR op_eq (pv 0) (pv 1) (nomark _)))))))), ?_⟩
    cases x with
    | none => exact ⟨.non, rfl, rfl, true, rfl, .non, rfl, rfl, q⟩
    | some i =>
      refine ⟨.int i, rfl, rfl, false, rfl, ?_⟩
      refine ⟨.int i, rfl, .int i, .ty "int", .type "int", .type "int", true, rfl, .ty _, .base (.int i), kit_ty (by decide +kernel), true, rfl, ?_⟩
      refine ⟨.int i, rfl, .int i, .ty "bool", .type "int", .type "bool", false, rfl, .ty _, .base (.int i), kit_ty (by decide +kernel), false, rfl, true, rfl, ?_⟩
      refine ⟨.int i, rfl, .int i, rfl, rfl, ?_⟩
      simpa using q
abbrev CIsPair (P : Program) (w : World) (K : PySem.W.Frag) (mg : Str → Option Value) (base : Heap) (g : Addr) (gd : FuncData) := C1 P w K mg base "_law_is_pair" sIsPair ["told", "due"] 1 spIsPair g gd
abbrev CIsRate (P : Program) (w : World) (K : PySem.W.Frag) (mg : Str → Option Value) (base : Heap) (g : Addr) (gd : FuncData) := C1 P w K mg base "_law_is_rate" sIsRate ["told", "due"] 1 spIsRate g gd
def spRowsAre : Sp := fun vs H Q _ => ∃ (t a : Addr) (bs cs : List (Addr × Rw)), vs = [.ref t, .ref a] ∧ H t = some (.tup (bs.map fun b => V.ref b.1)) ∧ (∀ b ∈ bs, H b.1 = some (.tup (rwV b.2))) ∧ LR H a cs ∧ Gd (cs.map (·.2)) ∧ (bs.map (·.2)).Perm (cs.map (·.2)) ∧ SrtR (bs.map (·.2)) ∧ cs.length ≤ 50 ∧ ∀ H', Same H H' → Q (.bl true) H'
theorem ok_rowsare {f g1 g2 : Addr} {fd gd1 gd2 : FuncData} (F : Fun K "_law_rows_are" "_law_rows_are" sRowsAre f fd) (B : Blt mg) (cIsPair : CIsPair P w K mg base g1 gd1) (cIsRate : CIsRate P w K mg base g2 gd2) : FnOk P w K mg base CX0 2 f fd ["told", "rows"] spRowsAre := by
  refine F.ok scRowsAre (fun vs H Q E h => ?_) (fun cdv A outer s H vs Q E hr h => ?_)
  · obtain ⟨t, a, bs, cs, rfl, _⟩ := h
    rfl
  · obtain ⟨t, a, bs, cs, rfl, ht, hb, hA, g, pm, srt, nc, q⟩ := h
    have hz : sizeLine = 16777216 := rfl
    refine ⟨_, (pss_cons (ps_set (i := 2) scRowsAre.nd rfl (.inl rfl) (pe_callB cr_sortRw (by rfl) B.sorted PyProof.Rows.boot_sorted (pa_cons (pv 1) pa_nil)))
      (pss_cons (ps_if (PW.pt (pw_or (pt_not (pt_val (pe_callB call_isi (by rfl) B.isi (by decide +kernel) (pa_cons (pv 0) (pa_cons (pe_bltn (by rfl) B.tuple (by decide +kernel) (v := .ty "tuple") (u := .type "tuple") rfl) pa_nil))))) (pw_or1 (pt_cmpR op_ne (pe_callB call_len_seq (by rfl) B.len PySem.boot_len (pa_cons (pv 0) pa_nil)) (pe_callB call_len_seq (by rfl) B.len PySem.boot_len (pa_cons (pv 2) pa_nil)) (nomark _)))))
        (pss_one (ps_ret pe_bl))
        pss_nil)
      (pss_cons (ps_for PassesOwn.never rfl (pi_range1 (by rfl) B.range (pa_cons (pe_callB call_len_seq (by rfl) B.len PySem.boot_len (pa_cons (pv 2) pa_nil)) pa_nil)) (pg_name (i := 3) scRowsAre.nd rfl (.inl rfl))
        (pss_cons (ps_if (PW.pt (pw_or (pt_not (pt_val (pe_callB call_isi (by rfl) B.isi (by decide +kernel) (pa_cons (pe_ix ix_tup (pv 0) (pv 3) (fun _ _ => rfl)) (pa_cons (pe_bltn (by rfl) B.tuple (by decide +kernel) (v := .ty "tuple") (u := .type "tuple") rfl) pa_nil))))) (pw_or1 (pt_cmpR op_ne (pe_callB call_len_seq (by rfl) B.len PySem.boot_len (pa_cons (pe_ix ix_tup (pv 0) (pv 3) (fun _ _ => rfl)) pa_nil)) pe_int (nomark _)))))
          (pss_one (ps_ret pe_bl))
          pss_nil)
        (pss_one (ps_if (PW.pt (pw_or (pt_not (pt_val (pe_call cIsPair.G (hr.mono (by first | decide | omega)) (by rfl) cIsPair.D.g cIsPair.D.F.kp cIsPair.D.b .nil pass0 (pa_cons (pe_slice sl_tup (pe_ix ix_tup (pv 0) (pv 3) (fun _ _ => rfl)) po_none (po_some pe_int)) (pa_cons (pe_slice sl_tup (pe_ix ix_list (pv 2) (pv 3) (fun _ _ => rfl)) po_none (po_some pe_int)) pa_nil))))) (pw_or1 (pt_not (pt_val (pe_call cIsRate.G (hr.mono (by first | decide | omega)) (by rfl) cIsRate.D.g cIsRate.D.F.kp cIsRate.D.b .nil pass0 (pa_cons (pe_ix ix_tup (pe_ix ix_tup (pv 0) (pv 3) (fun _ _ => rfl)) pe_int (fun _ _ => rfl)) (pa_cons (pe_ix ix_tup (pe_ix ix_list (pv 2) (pv 3) (fun _ _ => rfl)) pe_int (fun _ _ => rfl)) pa_nil))))))))
          (pss_one (ps_ret pe_bl))
          pss_nil))))
      (pss_one (ps_ret pe_bl))))), ?_⟩
    refine ⟨.ref a, rfl, a, cs, rfl, sqOf hA.l, hA.t, fun b mb c mc e => key_one g.2 (List.mem_map.mpr ⟨b, mb, rfl⟩) (List.mem_map.mpr ⟨c, mc, rfl⟩) e, fun D ds nD pd sd => ?_⟩
    have S1 := same_upd (o := .lst (ds.map fun b => V.ref b.1)) nD
    have hD : upd H D (.lst (ds.map fun b => V.ref b.1)) D = some (.lst (ds.map fun b => V.ref b.1)) := upd_same
    have hd : ∀ b ∈ ds, upd H D (.lst (ds.map fun b => V.ref b.1)) b.1 = some (.tup (rwV b.2)) := fun b m => S1 _ _ (hA.t b (pd.mem_iff.mp m))
    generalize upd H D (.lst (ds.map fun b => V.ref b.1)) = H1 at S1 hD hd
    have same : bs.map (·.2) = ds.map (·.2) := by
      have pbd : (bs.map (·.2)).Perm (ds.map (·.2)) := pm.trans (pd.map (·.2)).symm
      refine List.Perm.eq_of_pairwise (le := fun x y : Rw => le2 x.1 y.1 = true) (fun x y mx my h1 h2 => ?_) srt (List.pairwise_map.mpr sd) pbd
      exact key_one g.2 (pm.mem_iff.mp mx) ((pd.map (·.2)).mem_iff.mp my) (le2_anti h1 h2)
    have lds : ds.length = cs.length := pd.length_eq
    have lbs : bs.length = ds.length := by
      have := congrArg List.length same
      rw [List.length_map, List.length_map] at this
      exact this
    have ht1 := S1 _ _ ht
    refine ⟨.ref t, rfl, .ref t, .ty "tuple", .type "tuple", .type "tuple", true, rfl, .ty _, .base (.tup ht1), kit_ty (by decide +kernel), true, rfl, ?_⟩
    refine ⟨.ref t, rfl, t, _, rfl, .inr (.of ht1), .ref D, rfl, D, _, rfl, .inl (sqOf hD), rfl, _, rfl, ?_⟩
    rw [List.length_map, List.length_map, lbs]
    refine ite2 (fun z => by simp at z) (fun _ => ?_)
    refine ⟨.ref D, rfl, D, _, rfl, .inl (sqOf hD), _, rfl, by rw [List.length_map]; omega, by rw [List.length_map]; omega, ?_⟩
    refine for_range (lo := 0) (n := (((ds.map fun b => V.ref b.1).length : Nat) : Int).toNat) (fun i σ H' => Same H1 H' ∧ ∃ y3, σ = [some (.ref t), some (.ref a), some (.ref D), y3]) ⟨Same.refl _, none, rfl⟩ ?_ ?_
    · rintro i σ H2 hi ⟨S2, y3, rfl⟩
      have hi : i < ds.length := by rw [List.length_map] at hi; omega
      obtain ⟨b, eb⟩ : ∃ b, bs[i]? = some b := ⟨bs[i], List.getElem?_eq_getElem (by omega)⟩
      obtain ⟨e, ee⟩ : ∃ e, ds[i]? = some e := ⟨ds[i], List.getElem?_eq_getElem hi⟩
      have eq : b.2 = e.2 := by
        have a1 : (bs.map (·.2))[i]? = some b.2 := by rw [List.getElem?_map, eb]; rfl
        rw [same, List.getElem?_map, ee] at a1
        exact (Option.some.inj a1).symm
      have mb := List.mem_of_getElem? eb
      have me := List.mem_of_getElem? ee
      have ok := g.1 e.2 ((pd.map (·.2)).mem_iff.mp (List.mem_map.mpr ⟨e, me, rfl⟩))
      have i0 : ((0 : Int) + (i : Int)).toNat = i := by omega
      have vb : atI (bs.map fun b => V.ref b.1) ((0 : Int) + (i : Int)) = some (.ref b.1) := at_nat (by omega) (by rw [i0, List.getElem?_map, eb]; rfl)
      have ve : atI (ds.map fun b => V.ref b.1) ((0 : Int) + (i : Int)) = some (.ref e.1) := at_nat (by omega) (by rw [i0, List.getElem?_map, ee]; rfl)
      have ht2 := S2 _ _ ht1
      have hD2 := S2 _ _ hD
      have hb2 := S2 _ _ (S1 _ _ (hb b mb))
      have he2 := S2 _ _ (hd e me)
      rw [eq] at hb2
      refine ⟨.ref t, rfl, .int (0 + (i : Int)), rfl, t, _, _, _, rfl, rfl, .of ht2, vb, .ref b.1, .ty "tuple", .type "tuple", .type "tuple", true, rfl, .ty _, .base (.tup hb2), kit_ty (by decide +kernel), true, rfl, ?_⟩
      refine ⟨.ref t, rfl, .int (0 + (i : Int)), rfl, t, _, _, _, rfl, rfl, .of ht2, vb, b.1, _, rfl, .inr (.of hb2), rfl, _, rfl, ?_⟩
      refine ite2 (fun z => by simp [rwV] at z) (fun _ => ?_)
      refine ⟨.ref t, rfl, .int (0 + (i : Int)), rfl, t, _, _, _, rfl, rfl, .of ht2, vb, 2, rfl, b.1, _, rfl, .of hb2, (show ¬ (HT.sIx 3 0 none = 0 ∧ HT.sIx 3 3 (some 2) = 3) by decide), fun U nU => ?_⟩
      have S3 := S2.trans (same_upd (o := .tup (cutV (rwV e.2) none (some 2))) nU)
      have ec : cutV (rwV e.2) none (some 2) = [.str e.2.1.1, .str e.2.1.2] := by rw [show (2 : Int) = ((2 : Nat) : Int) from rfl, cut_hi]; rfl
      have S3' := same_upd (o := .tup (cutV (rwV e.2) none (some 2))) nU
      have hU : upd H2 U (.tup (cutV (rwV e.2) none (some 2))) U = some (.tup [.str e.2.1.1, .str e.2.1.2]) := by rw [upd_same, ec]
      generalize upd H2 U (.tup (cutV (rwV e.2) none (some 2))) = H3 at S3 S3' hU
      refine ⟨.ref D, rfl, .int (0 + (i : Int)), rfl, D, _, _, _, rfl, rfl, sqOf (S3' _ _ hD2), ve, 2, rfl, e.1, _, rfl, .of (S3' _ _ he2), (show ¬ (HT.sIx 3 0 none = 0 ∧ HT.sIx 3 3 (some 2) = 3) by decide), fun W nW => ?_⟩
      have S4 := S3.trans (same_upd (o := .tup (cutV (rwV e.2) none (some 2))) nW)
      have S4' := same_upd (o := .tup (cutV (rwV e.2) none (some 2))) nW
      have hW : upd H3 W (.tup (cutV (rwV e.2) none (some 2))) W = some (.tup [.str e.2.1.1, .str e.2.1.2]) := by rw [upd_same, ec]
      generalize upd H3 W (.tup (cutV (rwV e.2) none (some 2))) = H4 at S4 S4' hW
      refine ⟨.ref U, .ref W, some e.2.1, rfl, ⟨U, rfl, S4' _ _ hU⟩, ⟨W, rfl, hW⟩, fun z hz => by cases hz; exact ⟨addr_sg ok.1, lane_sg ok.2.1⟩, true, rfl, ?_⟩
      have ht4 := S4' _ _ (S3' _ _ ht2)
      have hb4 := S4' _ _ (S3' _ _ hb2)
      have he4 := S4' _ _ (S3' _ _ he2)
      refine ⟨.ref t, rfl, .int (0 + (i : Int)), rfl, t, _, _, _, rfl, rfl, .of ht4, vb, b.1, _, 2, _, rfl, rfl, .of hb4, rfl, .ref D, rfl, .int (0 + (i : Int)), rfl, D, _, _, _, rfl, rfl, sqOf (S4' _ _ (S3' _ _ hD2)), ve, e.1, _, 2, _, rfl, rfl, .of he4, rfl, e.2.2, rfl, true, rfl, ?_⟩
      exact ⟨S4, _, rfl⟩
    · rintro σ H2 ⟨S2, y3, rfl⟩
      exact q H2 (S1.trans S2)
end
end Tb
namespace Tb
open PySem PySem.Spec PyProof.Rows L2
abbrev sApart : Stmt := topS 38
abbrev NApart : List Str := ["box", "rows", "lands", "stem", "prefix", "land", "price", "kept", "row"]
theorem scApart : FnScope NApart ["box", "rows", "lands", "stem"] (defScope sApart) := ⟨rfl, rfl, rfl, by decide +kernel, rfl, by decide +kernel, by decide +kernel⟩
abbrev sHeads : Stmt := topS 39
abbrev NHeads : List Str := ["box", "rows", "stem", "heads", "k", "prefix"]
theorem scHeads : FnScope NHeads ["box", "rows", "stem"] (defScope sHeads) := ⟨rfl, rfl, rfl, by decide +kernel, rfl, by decide +kernel, by decide +kernel⟩
abbrev sHolds : Stmt := topS 40
abbrev NHolds : List Str := ["tariff", "rows", "heads", "names", "heading", "land"]
theorem scHolds : FnScope NHolds ["tariff", "rows", "heads", "names"] (defScope sHolds) := ⟨rfl, rfl, rfl, by decide +kernel, rfl, by decide +kernel, by decide +kernel⟩
theorem starts_self (x : Str) : Txt.startswith x x = true := by
  rw [starts_iff, List.take_length]
/-- a row with the whole heading and the land is the rate -/
theorem rate_row {qs : List Rw} (g : Gd qs) {x l la : Str} {y : Option Int} (m : ((x, la), y) ∈ qs) (h : la = l ∨ (la = Str.ofString "" ∧ ∀ c ∈ qs, c.1.2 ≠ l)) : rate qs x l = y := by
  refine rate_uniq g.2 (rate_is g x l) ⟨some ((x, la), y), ⟨m, ?_, fun c hc f => ?_⟩, rfl⟩
  · unfold fits
    rw [Bool.and_eq_true, Bool.or_eq_true, decide_eq_true_eq, decide_eq_true_eq]
    exact ⟨starts_self x, h.imp id (fun k => k.1)⟩
  · have s : Txt.startswith x c.1.1 = true := by
      unfold fits at f
      rw [Bool.and_eq_true] at f
      exact f.1
    by_cases e : c.1.1.length < x.length
    · exact .inl e
    · refine .inr ⟨?_, fun k => h.elim id fun n => absurd k (n.2 c hc)⟩
      have le := starts_len s
      have e1 := starts_pre.mp s
      have e2 := starts_pre.mp (starts_self x)
      rw [← e1, show c.1.1.length = x.length by omega, e2]
theorem rate_none {rs : List Rw} (g : Gd rs) {x z : Str} (nz : ∀ c ∈ rs, c.1.2 ≠ z) : rate rs x z = rate rs x (Str.ofString "") := by
  obtain ⟨b, kb, eb⟩ := rate_is g x (Str.ofString "")
  have ff : ∀ c ∈ rs, fits x z c = fits x (Str.ofString "") c := fun c hc => by
    unfold fits
    rw [decide_eq_false (nz c hc), Bool.false_or, Bool.or_self]
  refine rate_uniq g.2 (rate_is g x z) ⟨b, ?_, eb⟩
  cases b with
  | none => exact fun c hc => by rw [ff c hc]; exact kb c hc
  | some d =>
    refine ⟨kb.1, by rw [ff d kb.1]; exact kb.2.1, fun c hc f => ?_⟩
    rw [ff c hc] at f
    exact (kb.2.2 c hc f).imp id fun q => ⟨q.1, fun k => absurd k (nz c hc)⟩
theorem apart_ne {rs qs : List Rw} (g : Gd rs) (g2 : Gd qs) {x la : Str} {y : Option Int} (m : ((x, la), y) ∈ qs) (ne : rate rs x la ≠ y) {o : Option (Str × Str)} (h : PartIs rs qs o) : o ≠ none := by
  rintro rfl
  obtain ⟨S, z, hS, hz, hl⟩ := h
  have hP : InP rs qs x := ⟨_, List.mem_append_right _ m, rfl⟩
  have zn := free_name hz
  have ze : z ≠ Str.ofString "" := fun e => by
    have := zn.1
    rw [e] at this
    revert this
    decide +kernel
  by_cases e : la = Str.ofString ""
  · subst e
    have nz : ∀ c ∈ rs ++ qs, c.1.2 ≠ z := fun c hc k => zn.2 ((hS z).mpr ⟨ze, c, hc, k⟩)
    have := hl x z hP (.inl rfl)
    rw [rate_none g fun c hc => nz c (List.mem_append_left _ hc), rate_row g2 m (.inr ⟨rfl, fun c hc => nz c (List.mem_append_right _ hc)⟩)] at this
    exact ne this
  · have := hl x la hP (.inr ⟨e, _, List.mem_append_right _ m, rfl⟩)
    rw [rate_row g2 m (.inl rfl)] at this
    exact ne this
theorem hit_no {k : Pr} {b : Addr × Rw} : hitR k b = false ↔ b.2.1 ≠ k := by
  rw [← Bool.not_eq_true, hit_iff]
section
variable {P : Program} {w : World} {K : PySem.W.Frag} {mg : Str → Option Value} {base : Heap}
def spApart : Sp := fun vs H Q _ => ∃ (p r l : Addr) (z : Str) (ks : List Str) (bs : List (Addr × Rw)), vs = [.ref p, .ref r, .ref l, .str z] ∧ Box H p ∧ LR H r bs ∧ Gd (bs.map (·.2)) ∧ bs.length ≤ 30 ∧ Lns H l ks ∧ Stem z ∧
  ∀ (a : Addr) (cs : List (Addr × Rw)) (H' : Hp), H a = none → LR H' a cs → Gd (cs.map (·.2)) → cs.length ≤ 31 → (∀ o, PartIs (bs.map (·.2)) (cs.map (·.2)) o → o ≠ none) → Box H' p → But p H H' → Q (.ref a) H'
theorem ok_apart {f g1 g2 g3 : Addr} {fd gd1 gd2 gd3 : FuncData} (F : Fun K "_law_apart" "_law_apart" sApart f fd) (B : Blt mg) (cDraw : CDraw P w K mg base g1 gd1) (cPrefix : CPrefix P w K mg base g2 gd2) (cLRate : CLRate P w K mg base g3 gd3) : FnOk P w K mg base CX0 4 f fd ["box", "rows", "lands", "stem"] spApart := by
  refine F.ok scApart (fun vs H Q E h => ?_) (fun cdv A outer s H vs Q E hr h => ?_)
  · obtain ⟨p, r, l, z, ks, bs, rfl, _⟩ := h
    rfl
  · obtain ⟨p, r, l, z, ks, bs, rfl, hB, hR, g, n0, hL, hS, q⟩ := h
    have hz : sizeLine = 16777216 := rfl
    refine ⟨_, (pss_cons (ps_set (i := 4) scApart.nd rfl (.inr rfl) (pe_call cPrefix.G (hr.mono (by first | decide | omega)) (by rfl) cPrefix.D.g cPrefix.D.F.kp cPrefix.D.b .nil pass0 (pa_cons (pv 0) (pa_cons (pv 3) pa_nil))))
      (pss_cons (ps_set (i := 5) scApart.nd rfl (.inr rfl) (pe_ix ix_list (pe_op op_cat (pv 2) (pe_lst (pa_cons pe_str pa_nil))) (pe_call cDraw.G (hr.mono (by first | decide | omega)) (by rfl) cDraw.D.g cDraw.D.F.kp cDraw.D.b .nil pass0 (pa_cons (pv 0) (pa_cons pe_int pa_nil))) (fun _ _ => rfl)))
      (pss_cons (ps_set (i := 6) scApart.nd rfl (.inl rfl) (pe_callTy call_int1 (by rfl) B.int PyProof.Rows.boot_int (pa_cons (pe_cmpR op_eq (pe_call cLRate.G (hr.mono (by first | decide | omega)) (by rfl) cLRate.D.g cLRate.D.F.kp cLRate.D.b .nil pass0 (pa_cons (pv 1) (pa_cons (pv 4) (pa_cons (pv 5) pa_nil)))) pe_int (nomark _)) pa_nil)))
      (pss_cons (ps_setLc (i := 7) (own := [("row", 8)]) (g := gName 8) (by rfl) scApart.nd rfl rfl (sw_true rfl rfl rfl (by decide +kernel)) (pi_list (pv 1)) (blkOk_by (N := NApart) (sc := defScope sApart) (by decide +kernel)) (fun _ _ _ _ _ => pg_name (i := 8) scApart.nd rfl (Or.inl rfl)) (fun _ _ _ _ _ => pts_one (PW.pt (pw_or (pt_cmpR op_ne (pe_ix (r := rIxT K) ix_tup (pv 8) pe_int (fun _ _ => rfl)) (pv 4) (nomark _)) (pw_or1 (pt_cmpR op_ne (pe_ix (r := rIxT K) ix_tup (pv 8) pe_int (fun _ _ => rfl)) (pv 5) (nomark _)))))) (fun _ _ _ _ _ => pv 8))
      (pss_cons (ps_expr (pe_bm PySem.F.plainAttrs_list PySem.F.slot_list_insert PySem.F.type_list_insert mt_insert (pv 7) (pa_cons (pe_call cDraw.G (hr.mono (by first | decide | omega)) (by rfl) cDraw.D.g cDraw.D.F.kp cDraw.D.b .nil pass0 (pa_cons (pv 0) (pa_cons (pe_op op_add (pe_callB call_len_seq (by rfl) B.len PySem.boot_len (pa_cons (pv 7) pa_nil)) pe_int) pa_nil))) (pa_cons (pe_tup (pa_cons (pv 4) (pa_cons (pv 5) (pa_cons (pv 6) pa_nil)))) pa_nil))))
      (pss_one (ps_ret (pv 7)))))))), ?_⟩
    refine ⟨.ref p, rfl, .str z, rfl, p, z, rfl, hB, hS, fun x H1 ax B1 b1 => ?_⟩
    have R1 := hR.but hB b1
    have L1 := hL.kp (But.kp hB b1)
    refine ⟨.ref l, rfl, by show 1 ≤ sizeLine; omega, fun M nM => ?_⟩
    have m4 := box_new (o := .lst [V.str (Str.ofString "")]) B1 nM
    have L2 := L1.kp (Same.kp (same_upd (o := .lst [V.str (Str.ofString "")]) nM))
    refine ⟨l, M, _, _, rfl, rfl, L2.l, upd_same, by rw [List.length_map, L1.n]; show 3 + 1 ≤ _; omega, fun N nN => ?_⟩
    have m5 := box_new (o := .lst (ks.map V.str ++ [V.str (Str.ofString "")])) m4.1 nN
    refine ⟨.ref p, rfl, p, 4, rfl, m5.1, by decide, fun v H2 v0 v1 B2 b2 => ?_⟩
    have hN := b2 N _ upd_same (m5.1.ne upd_same (by have := ni_strs (ks ++ [Str.ofString ""]); rwa [List.map_append] at this))
    have lv : v.toNat < (ks ++ [Str.ofString ""]).length := by rw [List.length_append, L1.n]; show _ < 3 + 1; omega
    refine ⟨N, _, v, _, rfl, rfl, sqOf hN, at_nat v0 (show (ks.map V.str ++ [V.str (Str.ofString "")])[v.toNat]? = _ by rw [show ks.map V.str ++ [V.str (Str.ofString "")] = (ks ++ [Str.ofString ""]).map V.str by rw [List.map_append]; rfl]; exact strs_at lv), ?_⟩
    have hla := lane_ks L1.d (List.getElem_mem lv)
    generalize (ks ++ [Str.ofString ""])[v.toNat] = la at hla
    have b12 := (b1.trans (m4.2.trans m5.2)).trans b2
    have R2 := ((R1.but B1 m4.2).but m4.1 m5.2).but m5.1 b2
    have xl := addr_small ax
    have pl : ∀ b ∈ bs, b.2.1.1.length ≤ 1000 := fun b m => by
      have := addr_small (g.1 b.2 (List.mem_map.mpr ⟨b, m, rfl⟩)).1
      omega
    refine ⟨.ref r, rfl, .str x, rfl, .str la, rfl, r, x, la, bs, rfl, R2, by omega, by omega, pl, fun y0 ry => ?_⟩
    cases rate_uniq g.2 ry (rate_is g x la)
    refine ⟨by cases rate (bs.map (·.2)) x la <;> rfl, .inr ⟨_, rfl, ?_⟩⟩
    obtain ⟨y, ey, yne, y0⟩ : ∃ y : Int, (if decide (oI (rate (bs.map (·.2)) x la) = V.int 0) = true then 1 else 0) = y ∧ rate (bs.map (·.2)) x la ≠ some y ∧ 0 ≤ y := by
      by_cases c : rate (bs.map (·.2)) x la = some 0
      · exact ⟨1, by rw [c]; rfl, by rw [c]; decide, by decide⟩
      · refine ⟨0, if_neg fun h => c ?_, c, by decide⟩
        have := of_decide_eq_true h
        exact oI_inj.mp (show oI _ = oI (some 0) from this)
    rw [ey]
    refine ⟨.ref r, rfl, r, rfl, ⟨_, sqOf R2.l⟩, fun D nD => ?_⟩
    let kp : Addr × Rw → Bool := fun b => !hitR (x, la) b
    refine lc_it (walk_list (a := r) (xs := bs.map fun b => V.ref b.1)) (fun i H' => Same H2 H' ∧ H' D = some (.lst (((bs.take i).filter kp).map fun b => V.ref b.1))) ⟨same_upd nD, upd_same⟩ (fun i H' _ hP => sqOf (hP.1 _ _ R2.l)) (fun i v H3 H4 hi hP hy => ?_) (fun H3 hP => ?_)
    · obtain ⟨S3, hD⟩ := hP
      obtain ⟨rfl, ev⟩ := hy
      obtain ⟨b, eb, rfl⟩ := bs_at ev
      have hb := S3 _ _ (R2.t b (List.mem_of_getElem? eb))
      have ts := take_snoc eb
      refine ⟨rfl, ?_⟩
      refine tor_at (!decide (b.2.1.1 = x)) (!decide (b.2.1.2 = la)) (fun Q2 q2 => ?_) (fun _ Q2 q2 => ?_) ?_
      · exact ⟨.ref b.1, rfl, b.1, _, 0, _, rfl, rfl, .of hb, rfl, .str x, rfl, rfl, _, rfl, by simpa using q2⟩
      · exact ⟨.ref b.1, rfl, b.1, _, 1, _, rfl, rfl, .of hb, rfl, .str la, rfl, rfl, _, rfl, by simpa using q2⟩
      have ek : (!decide (b.2.1.1 = x) || !decide (b.2.1.2 = la)) = kp b := by
        show _ = !hitR (x, la) b
        unfold hitR
        rw [Bool.not_and]
      rw [ek, ts, List.filter_append]
      refine ite2 (fun e => ?_) (fun e => ?_)
      · rw [List.filter_cons_of_pos e, List.filter_nil]
        refine ⟨_, rfl, _, hD, ?_, fun c o hc => ?_, ?_⟩
        · rw [List.length_map]
          have := List.length_filter_le kp (bs.take i)
          rw [List.length_take] at this
          omega
        · rw [upd_ne (ne_of_none hc nD)]; exact S3 _ _ hc
        · rw [upd_same, List.map_append]; rfl
      · rw [List.filter_cons_of_neg e, List.filter_nil, List.append_nil]
        exact ⟨S3, hD⟩
    · obtain ⟨S3, hD⟩ := hP
      rw [List.length_map, List.take_length] at hD
      generalize eks : bs.filter kp = kb at hD
      have mk : ∀ b, b ∈ kb ↔ b ∈ bs ∧ b.2.1 ≠ (x, la) := fun b => by
        rw [← eks, List.mem_filter]
        refine and_congr Iff.rfl ?_
        show (!hitR (x, la) b) = true ↔ _
        rw [Bool.not_eq_true', hit_no]
      have lk0 : kb.length ≤ 30 := by
        rw [← eks]
        exact Nat.le_trans (List.length_filter_le _ _) n0
      have sub : (kb.map (·.2)).Sublist (bs.map (·.2)) := by
        rw [← eks]
        exact List.filter_sublist.map _
      have B3 := B2.same S3
      have f0 : H D = none := but_free B2 b12 nD
      refine ⟨.ref D, rfl, .inl ⟨rfl, _, sqOf hD⟩, .ref p, rfl, .ref D, rfl, D, _, rfl, .inl (sqOf hD), _, 1, rfl, rfl, p, _, rfl, B3, by rw [List.length_map]; omega, fun v H5 v0 v1 B5 b5 => ?_⟩
      rw [List.length_map] at v1
      have hD5 := b5 D _ hD (B3.ne hD (ni_bs kb))
      refine ⟨.str x, rfl, .str la, rfl, .int y, rfl, by show 3 ≤ sizeLine; omega, fun T nT => ?_⟩
      have m6 := box_new (o := .tup (rwV ((x, la), some y))) B5 nT
      have R5 := ((R2.same S3).but B3 b5).same (same_upd (o := .tup (rwV ((x, la), some y))) nT)
      have S6 := same_upd (o := .tup (rwV ((x, la), some y))) nT
      have hD6 := S6 _ _ hD5
      have hT6 : upd H5 T (.tup (rwV ((x, la), some y))) T = some (.tup (rwV ((x, la), some y))) := upd_same
      refine ⟨D, _, v, .ref T, rfl, rfl, hD6, by rw [List.length_map]; omega, v0, by omega, ?_⟩
      refine ⟨_, rfl, ?_⟩
      have b06 := ((b12.trans (Same.but S3)).trans b5).trans m6.2
      have el : List.take v.toNat (kb.map fun b => V.ref b.1) ++ [V.ref T] ++ List.drop v.toNat (kb.map fun b => V.ref b.1) = (kb.take v.toNat ++ [(T, ((x, la), some y))] ++ kb.drop v.toNat).map fun b => V.ref b.1 := by
        rw [List.map_append, List.map_append, List.map_take, List.map_drop]; rfl
      rw [el]
      have pm : (kb.take v.toNat ++ [(T, ((x, la), some y))] ++ kb.drop v.toNat).Perm ((T, ((x, la), some y)) :: kb) := by
        rw [List.append_assoc]
        have := List.perm_middle (a := (T, ((x, la), some y))) (l₁ := kb.take v.toNat) (l₂ := kb.drop v.toNat)
        rw [List.take_append_drop] at this
        exact this
      have gc : Gd (((T, ((x, la), some y)) :: kb : List (Addr × Rw)).map (·.2)) := by
        have gk := gd_sub g sub
        refine ⟨fun c hc => ?_, ?_⟩
        · rcases List.mem_cons.mp hc with rfl | hc
          · exact ⟨ax, hla, fun i e => by cases e; exact y0⟩
          · exact gk.1 c hc
        · refine List.nodup_cons.mpr ⟨fun hm => ?_, gk.2⟩
          obtain ⟨c, hc, e⟩ := List.mem_map.mp hm
          obtain ⟨b, hb, rfl⟩ := List.mem_map.mp hc
          exact ((mk b).mp hb).2 e
      have gq := gd_perm gc (pm.map (·.2)).symm
      have Dp : D ≠ p := m6.1.ne hD6 (ni_bs kb)
      refine q D _ _ f0 ⟨upd_same, fun b hb => ?_⟩ gq ?_ (fun o ho => ?_) ?_ (fun b o hb n => ?_)
      · rcases List.mem_cons.mp (pm.mem_iff.mp hb) with rfl | hb
        · rw [upd_ne (ne_of hT6 hD6 (fun z => by cases z))]; exact hT6
        · have h := R5.t b ((mk b).mp hb).1
          rw [upd_ne (ne_of h hD6 (fun z => by cases z))]; exact h
      · rw [pm.length_eq]; show kb.length + 1 ≤ 31; omega
      · refine apart_ne g gq ?_ yne ho
        exact (pm.map (·.2)).mem_iff.mpr List.mem_cons_self
      · obtain ⟨r0, a1, b1', c1, hp, rest⟩ := m6.1
        exact ⟨r0, a1, b1', c1, by rw [upd_ne Dp.symm]; exact hp, rest⟩
      · rw [upd_ne (ne_of_none hb f0)]; exact b06 b o hb n
def spHeads : Sp := fun vs H Q _ => ∃ (p r : Addr) (z : Str) (bs : List (Addr × Rw)), vs = [.ref p, .ref r, .str z] ∧ Box H p ∧ LR H r bs ∧ (∀ b ∈ bs, b.2.1.1.length ≤ 8) ∧ bs.length ≤ 100 ∧ Stem z ∧
  ∀ (a : Addr) (ks : List Str) (H' : Hp), H a = none → H' a = some (.lst (ks.map V.str)) → (∀ x ∈ ks, x.length ≤ 20) → ks.length ≤ 20 → Box H' p → But p H H' → Q (.ref a) H'
theorem ok_heads {f g1 g2 : Addr} {fd gd1 gd2 : FuncData} (F : Fun K "_law_headings" "_law_headings" sHeads f fd) (B : Blt mg) (cDraw : CDraw P w K mg base g1 gd1) (cDigits : CDigits P w K mg base g2 gd2) : FnOk P w K mg base CX0 3 f fd ["box", "rows", "stem"] spHeads := by
  refine F.ok scHeads (fun vs H Q E h => ?_) (fun cdv A outer s H vs Q E hr h => ?_)
  · obtain ⟨p, r, z, bs, rfl, _⟩ := h
    rfl
  · obtain ⟨p, r, z, bs, rfl, hB, hR, hl, n0, hS, q⟩ := h
    have hz : sizeLine = 16777216 := rfl
    have zl := hS.1
    have dl := dg_len
    refine ⟨_, (pss_cons (ps_set (i := 3) scHeads.nd rfl (.inl rfl) (pe_lst (pa_cons (pv 2) (pa_cons (pe_call cDigits.G (hr.mono (by first | decide | omega)) (by rfl) cDigits.D.g cDigits.D.F.kp cDigits.D.b .nil pass0 (pa_cons (pv 0) (pa_cons (pe_op op_add pe_int (pe_call cDraw.G (hr.mono (by first | decide | omega)) (by rfl) cDraw.D.g cDraw.D.F.kp cDraw.D.b .nil pass0 (pa_cons (pv 0) (pa_cons pe_int pa_nil)))) pa_nil))) pa_nil))))
      (pss_cons (ps_for PassesOwn.never rfl (pi_range1 (by rfl) B.range (pa_cons pe_int pa_nil)) (pg_name (i := 4) scHeads.nd rfl (.inl rfl))
        (pss_cons (ps_set (i := 5) scHeads.nd rfl (.inl rfl) (pe_slice sl_str (pv 2) po_none (po_some (pe_op op_add pe_int (pe_call cDraw.G (hr.mono (by first | decide | omega)) (by rfl) cDraw.D.g cDraw.D.F.kp cDraw.D.b .nil pass0 (pa_cons (pv 0) (pa_cons pe_int pa_nil)))))))
        (C8.pss_cut (ps_if (pt_cmpR op_gt (pe_callB call_len_seq (by rfl) B.len PySem.boot_len (pa_cons (pv 1) pa_nil)) pe_int (nomark _))
          (pss_one (ps_set (i := 5) scHeads.nd rfl (.inl rfl) (pe_ix ix_tup (pe_ix ix_list (pv 1) (pe_call cDraw.G (hr.mono (by first | decide | omega)) (by rfl) cDraw.D.g cDraw.D.F.kp cDraw.D.b .nil pass0 (pa_cons (pv 0) (pa_cons (pe_callB call_len_seq (by rfl) B.len PySem.boot_len (pa_cons (pv 1) pa_nil)) pa_nil))) (fun _ _ => rfl)) pe_int (fun _ _ => rfl))))
          pss_nil)
        (pss_cons (ps_expr (pe_bm PySem.F.plainAttrs_list PySem.F.slot_list_append PySem.F.type_list_append mt_append (pv 3) (pa_cons (pv 5) pa_nil)))
        (pss_cons (ps_expr (pe_bm PySem.F.plainAttrs_list PySem.F.slot_list_append PySem.F.type_list_append mt_append (pv 3) (pa_cons (pe_slice sl_str (pe_op op_add_str (pv 5) (pe_item_str pe_str (pe_call cDraw.G (hr.mono (by first | decide | omega)) (by rfl) cDraw.D.g cDraw.D.F.kp cDraw.D.b .nil pass0 (pa_cons (pv 0) (pa_cons pe_int pa_nil))) (fun _ _ => rfl))) po_none (po_some pe_int)) pa_nil)))
        (pss_one (ps_expr (pe_bm PySem.F.plainAttrs_list PySem.F.slot_list_append PySem.F.type_list_append mt_append (pv 3) (pa_cons (pe_op op_add_str (pe_slice sl_str (pv 5) po_none (po_some (pe_un un_neg pe_int))) (pe_item_str pe_str (pe_call cDraw.G (hr.mono (by first | decide | omega)) (by rfl) cDraw.D.g cDraw.D.F.kp cDraw.D.b .nil pass0 (pa_cons (pv 0) (pa_cons pe_int pa_nil))) (fun _ _ => rfl))) pa_nil)))))))))
      (pss_one (ps_ret (pv 3))))), ?_⟩
    refine ⟨.str z, rfl, .ref p, rfl, .ref p, rfl, p, 8, rfl, hB, by decide, fun v H1 v0 v1 B1 b1 => ⟨1, v, rfl, rfl, ?_⟩⟩
    obtain ⟨m, hm⟩ : ∃ m : Nat, 1 + v = (m : Int) := ⟨(1 + v).toNat, by omega⟩
    refine ⟨p, m, by show [V.ref p, V.int (1 + v)] = [V.ref p, V.int (m : Int)]; rw [hm], B1, by omega, fun d0 H2 dl0 dd B2 b2 => ?_⟩
    refine ⟨by show 2 ≤ sizeLine; omega, fun D nD => ?_⟩
    have bn := box_new (o := .lst [V.str z, V.str d0]) B2 nD
    have b03 := (b1.trans b2).trans bn.2
    refine ⟨5, rfl, by decide, by decide, ?_⟩
    refine for_range (lo := 0) (n := 5) (fun i σ H' => ∃ y4 y5 ks, σ = [some (.ref p), some (.ref r), some (.str z), some (.ref D), y4, y5] ∧ Box H' p ∧ But p H H' ∧ H' D = some (.lst (ks.map V.str)) ∧ (∀ x ∈ ks, x.length ≤ 20) ∧ ks.length ≤ 2 + 3 * i) ⟨none, none, [z, d0], rfl, bn.1, b03, upd_same, fun x hx => (List.mem_cons.mp hx).elim (fun e => by rw [e]; omega) fun hx => by rw [List.mem_singleton.mp hx]; omega, Nat.le_refl _⟩ ?_ ?_
    · rintro i σ H3 hi ⟨y4, y5, ks, rfl, B3, b3, hD, hk, lk⟩
      refine ⟨.str z, rfl, .ref p, rfl, p, 4, rfl, B3, by decide, fun u H4 u0 u1 B4 b4 => ⟨1, u, rfl, rfl, _, rfl, z, rfl, by omega, ?_⟩⟩
      have hD4 := b4 D _ hD (B3.ne hD (ni_strs ks))
      have b34 := b3.trans b4
      refine ⟨fun σ' H' => ∃ x : Str, σ' = [some (.ref p), some (.ref r), some (.str z), some (.ref D), some (.int (0 + (i : Int))), some (.str x)] ∧ x.length ≤ 8 ∧ Box H' p ∧ But p H H' ∧ H' D = some (.lst (ks.map V.str)), ?_, ?_⟩
      · have R4 := hR.but hB b34
        refine ⟨.ref r, rfl, r, _, rfl, .inl (sqOf R4.l), _, 0, rfl, rfl, _, rfl, ite2 (fun e => ?_) (fun e => ?_)⟩
        · have e := of_decide_eq_true e
          rw [List.length_map] at e
          refine ⟨.ref r, rfl, .ref p, rfl, .ref r, rfl, r, _, rfl, .inl (sqOf R4.l), p, _, rfl, B4, by rw [List.length_map]; omega, fun t H5 t0 t1 B5 b5 => ?_⟩
          rw [List.length_map] at t1
          have lt : t.toNat < bs.length := by omega
          have R5 := R4.but B4 b5
          have hb := R5.t bs[t.toNat] (List.getElem_mem lt)
          refine ⟨r, _, t, _, rfl, rfl, sqOf R5.l, at_nat t0 (by rw [List.getElem?_map, List.getElem?_eq_getElem lt]; rfl), bs[t.toNat].1, _, 0, _, rfl, rfl, .of hb, rfl, _, rfl, hl _ (List.getElem_mem lt), B5, b34.trans b5, b5 D _ hD4 (B4.ne hD4 (ni_strs ks))⟩
        · exact (⟨cutS z none (some (1 + u)), rfl, Nat.le_trans (cutS_length _ _ _) (by omega), B4, b34, hD4⟩ : ∃ x : Str, _ = [some (V.ref p), some (.ref r), some (.str z), some (.ref D), some (.int (0 + (i : Int))), some (.str x)] ∧ x.length ≤ 8 ∧ Box H4 p ∧ But p H H4 ∧ H4 D = some (.lst (ks.map V.str)))
      · rintro σ' H5 ⟨x, rfl, xl, B5, b5, hD5⟩
        have f0 : H D = none := but_free B2 (b1.trans b2) nD
        -- an append
        have app : ∀ (T : Hp) (js : List Str) (c : Str), Box T p → But p H T → T D = some (.lst (js.map V.str)) → Box (upd T D (.lst (js.map V.str ++ [V.str c]))) p ∧ But p H (upd T D (.lst (js.map V.str ++ [V.str c]))) ∧ upd T D (.lst (js.map V.str ++ [V.str c])) D = some (.lst ((js ++ [c]).map V.str)) := fun T js c BT bT hT => by
          have Dp := BT.ne hT (ni_strs js)
          refine ⟨?_, fun b o hb n => ?_, by rw [upd_same, List.map_append]; rfl⟩
          · obtain ⟨r0, a1, b1', c1, hp, rest⟩ := BT
            exact ⟨r0, a1, b1', c1, by rw [upd_ne Dp.symm]; exact hp, rest⟩
          · rw [upd_ne (ne_of_none hb f0)]; exact bT b o hb n
        obtain ⟨B6, b6, hD6⟩ := app H5 ks x B5 b5 hD5
        refine ⟨.ref D, rfl, .inl ⟨rfl, _, sqOf hD5⟩, .str x, rfl, D, _, _, rfl, rfl, hD5, by rw [List.length_map]; omega, ?_⟩
        generalize upd H5 D (.lst (ks.map V.str ++ [V.str x])) = H6 at B6 b6 hD6
        refine ⟨.ref D, rfl, .inl ⟨rfl, _, sqOf hD6⟩, .str x, rfl, .ref p, rfl, p, 10, rfl, B6, by decide, fun u2 H7 u20 u21 B7 b7 => ?_⟩
        obtain ⟨c, ec⟩ := at_sign (z := digits) (i := u2) (by omega) u20
        have hD7 := b7 D _ hD6 (B6.ne hD6 (ni_strs (ks ++ [x])))
        refine ⟨digits, u2, c, rfl, rfl, u20, by omega, by omega, ec, _, _, rfl, rfl, by rw [one_len]; omega, 8, rfl, _, rfl, by rw [app_len, one_len]; omega, ?_⟩
        have cl : (cutS (x ++ ⟨#[c]⟩) none (some 8)).length ≤ 20 := Nat.le_trans (cutS_length _ _ _) (by rw [app_len, one_len]; omega)
        generalize cutS (x ++ ⟨#[c]⟩) none (some 8) = x2 at cl
        obtain ⟨B8, b8, hD8⟩ := app H7 (ks ++ [x]) x2 B7 (b6.trans b7) hD7
        refine ⟨D, _, _, rfl, rfl, hD7, by rw [List.length_map, List.length_append]; show _ + 1 < _; omega, ?_⟩
        generalize upd H7 D (.lst ((ks ++ [x]).map V.str ++ [V.str x2])) = H8 at B8 b8 hD8
        refine ⟨.ref D, rfl, .inl ⟨rfl, _, sqOf hD8⟩, .str x, rfl, 1, rfl, _, rfl, x, rfl, by omega, .ref p, rfl, p, 10, rfl, B8, by decide, fun u3 H9 u30 u31 B9 b9 => ?_⟩
        obtain ⟨c2, ec2⟩ := at_sign (z := digits) (i := u3) (by omega) u30
        have hD9 := b9 D _ hD8 (B8.ne hD8 (ni_strs (ks ++ [x] ++ [x2])))
        refine ⟨digits, u3, c2, rfl, rfl, u30, by omega, by omega, ec2, _, _, rfl, rfl, by rw [one_len]; have := cutS_length x none (some (-1)); omega, ?_⟩
        have cl3 : (cutS x none (some (-1)) ++ ⟨#[c2]⟩).length ≤ 20 := by rw [app_len, one_len]; have := cutS_length x none (some (-1)); omega
        obtain ⟨Ba, ba, hDa⟩ := app H9 (ks ++ [x] ++ [x2]) (cutS x none (some (-1)) ++ ⟨#[c2]⟩) B9 (b8.trans b9) hD9
        refine ⟨D, _, _, rfl, rfl, hD9, by rw [List.length_map, List.length_append, List.length_append]; show _ + 1 + 1 < _; omega, _, _, _, rfl, Ba, ba, hDa, fun y hy => ?_, by rw [List.length_append, List.length_append, List.length_append]; show _ + 1 + 1 + 1 ≤ _; omega⟩
        rcases List.mem_append.mp hy with hy | hy
        · rcases List.mem_append.mp hy with hy | hy
          · rcases List.mem_append.mp hy with hy | hy
            · exact hk y hy
            · rw [List.mem_singleton.mp hy]; omega
          · rw [List.mem_singleton.mp hy]; exact cl
        · rw [List.mem_singleton.mp hy]; exact cl3
    · rintro σ H3 ⟨y4, y5, ks, rfl, B3, b3, hD, hk, lk⟩
      exact ⟨.ref D, rfl, q D ks H3 (but_free B2 (b1.trans b2) nD) hD hk (by omega) B3 b3⟩
end
end Tb
namespace Tb
open PySem PySem.Spec PyProof.Rows L2
section
variable {P : Program} {w : World} {K : PySem.W.Frag} {mg : Str → Option Value} {base : Heap}
abbrev CRowsAre (P : Program) (w : World) (K : PySem.W.Frag) (mg : Str → Option Value) (base : Heap) (g : Addr) (gd : FuncData) := C1 P w K mg base "_law_rows_are" sRowsAre ["told", "rows"] 2 spRowsAre g gd
theorem tar_at {C : Addr} {H : Hp} {j : Addr} {rs : List Rw} (h : TarOf C H j rs) : ∃ dx fs, H j = some (.ins C dx fs) ∧ fs.lookup ("rate" : Str) = none ∧ fs.lookup ("parting" : Str) = none := by
  obtain ⟨dx, a, b, c, d, ss, h1, _⟩ := h.ex
  refine ⟨dx, _, h1, ?_, ?_⟩
  · unfold tarF
    rw [List.lookup_cons, show (("rate" : Str) == wLand) = false by decide +kernel, List.lookup_cons, show (("rate" : Str) == wFree) = false by decide +kernel, List.lookup_cons, show (("rate" : Str) == wShare) = false by decide +kernel, List.lookup_cons, show (("rate" : Str) == wRates) = false by decide +kernel]
    rfl
  · unfold tarF
    rw [List.lookup_cons, show (("parting" : Str) == wLand) = false by decide +kernel, List.lookup_cons, show (("parting" : Str) == wFree) = false by decide +kernel, List.lookup_cons, show (("parting" : Str) == wShare) = false by decide +kernel, List.lookup_cons, show (("parting" : Str) == wRates) = false by decide +kernel]
    rfl
def spHolds (C : Addr) : Sp := fun vs H Q _ => ∃ (j r hs ns : Addr) (rs : List Rw) (bs : List (Addr × Rw)) (ks ls : List Str), vs = [.ref j, .ref r, .ref hs, .ref ns] ∧ TarOf C H j rs ∧ LR H r bs ∧ rs.Perm (bs.map (·.2)) ∧ H hs = some (.lst (ks.map V.str)) ∧ (∀ x ∈ ks, x.length ≤ 1000) ∧ H ns = some (.lst (ls.map V.str)) ∧ ∀ H', Same H H' → Q (.bl true) H'
theorem ok_holds {f g1 g2 g3 C : Addr} {fd gd1 gd2 gd3 : FuncData} (F : Fun K "_law_rates_hold" "_law_rates_hold" sHolds f fd) (TK : TarK P w K mg base C) (cIsRate : CIsRate P w K mg base g1 gd1) (cLRate : CLRate P w K mg base g2 gd2) (cRowsAre : CRowsAre P w K mg base g3 gd3) : FnOk P w K mg base CX0 4 f fd ["tariff", "rows", "heads", "names"] (spHolds C) := by
  have TC := TK.T
  obtain ⟨pTs, fTs, dTs, TRp, bTs, FTs⟩ := TK.rows
  obtain ⟨fTr, dTr, TRm, bTr, FTr⟩ := TK.rate
  refine F.ok scHolds (fun vs H Q E h => ?_) (fun cdv A outer s H vs Q E hr h => ?_)
  · obtain ⟨j, r, hs, ns, rs, bs, ks, ls, rfl, _⟩ := h
    rfl
  · obtain ⟨j, r, hs, ns, rs, bs, ks, ls, rfl, hT, hR, pm, hH, kl, hN, q⟩ := h
    have hz : sizeLine = 16777216 := rfl
    have gb := gd_perm hT.g pm
    have lb : bs.length ≤ 50 := by
      have := pm.length_eq
      rw [List.length_map] at this
      have := hT.n
      omega
    have pl : ∀ b ∈ bs, b.2.1.1.length ≤ 1000 := fun b m => by
      have := addr_small (gb.1 b.2 (List.mem_map.mpr ⟨b, m, rfl⟩)).1
      omega
    refine ⟨_, (pss_cons (ps_for PassesOwn.never rfl (pi_list (pv 2)) (pg_name (i := 4) scHolds.nd rfl (.inl rfl))
        (pss_one (ps_for PassesOwn.never rfl (pi_list (pv 3)) (pg_name (i := 5) scHolds.nd rfl (.inl rfl))
          (pss_one (ps_if (pt_not (pt_val (pe_call cIsRate.G (hr.mono (by first | decide | omega)) (by rfl) cIsRate.D.g cIsRate.D.F.kp cIsRate.D.b .nil pass0 (pa_cons (pe_meth (pv 0) TC.c TRm FTr (hr.mono (by first | decide | omega)) bTr .nil pass0 (pa_cons (pv 4) (pa_cons (pv 5) pa_nil))) (pa_cons (pe_call cLRate.G (hr.mono (by first | decide | omega)) (by rfl) cLRate.D.g cLRate.D.F.kp cLRate.D.b .nil pass0 (pa_cons (pv 1) (pa_cons (pv 4) (pa_cons (pv 5) pa_nil)))) pa_nil)))))
            (pss_one (ps_ret pe_bl))
            pss_nil)))))
      (pss_one (ps_ret (pe_call cRowsAre.G (hr.mono (by first | decide | omega)) (by rfl) cRowsAre.D.g cRowsAre.D.F.kp cRowsAre.D.b .nil pass0 (pa_cons (pe_prop (pv 0) TC.c TRp FTs (hr.mono (by first | decide | omega)) bTs .nil pass0 (by rfl)) (pa_cons (pv 1) pa_nil)))))), ?_⟩
    refine ⟨.ref hs, rfl, hs, rfl, ⟨_, sqOf hH⟩, ?_⟩
    refine for_it (walk_list (a := hs) (xs := ks.map V.str)) (fun i σ H' => Same H H' ∧ ∃ y4 y5, σ = [some (.ref j), some (.ref r), some (.ref hs), some (.ref ns), y4, y5]) ⟨Same.refl _, none, none, rfl⟩ (fun _ _ H' _ hP => sqOf (hP.1 _ _ hH)) (fun i v σ H1 H2 hi hP hy => ?_) (fun σ H1 hP => ?_)
    · obtain ⟨S1, y4, y5, rfl⟩ := hP
      obtain ⟨rfl, ev⟩ := hy
      obtain ⟨x, ex, rfl⟩ := str_at ev
      have xl := kl x (List.mem_of_getElem? ex)
      refine ⟨.ref ns, rfl, ns, rfl, ⟨_, sqOf (S1 _ _ hN)⟩, ?_⟩
      refine for_it (walk_list (a := ns) (xs := ls.map V.str)) (fun i σ H' => Same H H' ∧ ∃ y5, σ = [some (.ref j), some (.ref r), some (.ref hs), some (.ref ns), some (.str x), y5]) ⟨S1, _, rfl⟩ (fun _ _ H' _ hP => sqOf (hP.1 _ _ hN)) (fun i v σ H3 H4 hi hP hy => ?_) (fun σ H3 hP => ?_)
      · obtain ⟨S3, y5, rfl⟩ := hP
        obtain ⟨rfl, ev⟩ := hy
        obtain ⟨l, el, rfl⟩ := str_at ev
        have T3 := hT.same S3
        obtain ⟨dx, fs, a1, a2, _⟩ := tar_at T3
        refine ⟨.ref j, rfl, j, dx, fs, rfl, a1, a2, _, rfl, _, rfl, j, x, l, rs, rfl, T3, xl, fun H5 S5 => ?_⟩
        refine ⟨.ref r, rfl, _, rfl, _, rfl, r, x, l, bs, rfl, (hR.same S3).same S5, by omega, xl, pl, fun y ry => ?_⟩
        cases rate_uniq gb.2 ry (rate_is gb x l)
        refine ⟨rate rs x l, by rw [rate_same hT.g pm]; rfl, true, rfl, ?_⟩
        exact ⟨S3.trans S5, _, rfl⟩
      · obtain ⟨S3, y5, rfl⟩ := hP
        exact ⟨S3, _, _, rfl⟩
    · obtain ⟨S1, y4, y5, rfl⟩ := hP
      have T1 := hT.same S1
      obtain ⟨dx, fs, a1, _, _⟩ := tar_at T1
      refine ⟨.ref j, rfl, j, dx, fs, rfl, a1, j, rs, rfl, T1, fun p cs H2 S2 hp hb pm2 srt => ?_⟩
      exact ⟨.ref r, rfl, p, r, cs, bs, rfl, hp, hb, (hR.same S1).same S2, gb, pm2.trans pm, srt, lb, fun H3 S3 => q H3 ((S1.trans S2).trans S3)⟩
end
end Tb
namespace Tb
open PySem PySem.Spec PyProof.Rows L2
abbrev psT : List Str := ["self", "land", "rows", "free", "share"]
section
variable {K : PySem.W.Frag} {f : Addr} {fd : FuncData}
theorem kb_both (F : FunK K f fd) : ∃ g, KBn K fd psT 3 ["free", "share"] g (fun vs zs => vs ++ zs) := by
  obtain ⟨mv, h⟩ := F.kbinds0 (ps := psT) 3 ["free", "share"] [] (fun us _ ws => us ++ ws) (List.cons_ne_nil _ _) nofun (fun r1 _ r3 => r1.append r3) fun D doc pm an cdv ct us mv ws l1 l2 l3 => match us, ws, l1, l3 with
    | [_, _, _], [_, _], _, _ => rfl
  exact ⟨_, h⟩
theorem kb_share (F : FunK K f fd) : ∃ g, KBn K fd psT 3 ["share"] g (fun vs zs => vs ++ ([.int 0] ++ zs)) := by
  obtain ⟨mv, h⟩ := F.kbinds0 (ps := psT) 3 ["share"] [("free", .int 0)] (fun us ms ws => us ++ (ms ++ ws)) (List.cons_ne_nil _ _) (fun q hq => by rw [List.mem_singleton.mp hq]; exact List.mem_cons_self) (fun r1 r2 r3 => r1.append (r2.append r3)) fun D doc pm an cdv ct us mv ws l1 l2 l3 => match us, mv, ws, l1, l2, l3 with
    | [_, _, _], [_], [_], _, _, _ => ⟨_, _, _, _, _, _, rfl, rfl, rfl⟩
  exact ⟨_, h⟩
theorem kb_free (F : FunK K f fd) : ∃ g, KBn K fd psT 3 ["free"] g (fun vs zs => vs ++ (zs ++ [.int 50])) := by
  obtain ⟨mv, h⟩ := F.kbinds0 (ps := psT) 3 ["free"] [("share", .int 50)] (fun us ms ws => us ++ (ws ++ ms)) (List.cons_ne_nil _ _) (fun q hq => by rw [List.mem_singleton.mp hq]; exact List.mem_cons_of_mem _ List.mem_cons_self) (fun r1 r2 r3 => r1.append (r3.append r2)) fun D doc pm an cdv ct us mv ws l1 l2 l3 => match us, mv, ws, l1, l2, l3 with
    | [_, _, _], [_], [_], _, _, _ => ⟨_, _, _, _, _, _, rfl, rfl, rfl⟩
  exact ⟨_, h⟩
end
/-- Tariff(..): from what __init__ says -/
theorem tar_made {C : Addr} {H : Hp} {r : Addr} {l : Str} {fr sh : Int} {b : Bool} {bs : List (Addr × Rw)} {Q : VK} {E : XK} (R : RIn H r b bs) (g : Gd (bs.map (·.2))) (n : bs.length ≤ 50) (nl : isName l = true) (f0 : 0 ≤ fr) (s0 : 0 ≤ sh) (s1 : sh ≤ 100)
    (q : ∀ x H', Same H H' → TarOf C H' x (bs.map (·.2)) → Q (.ref x) H') : ∀ x dx, H x = none → H dx = none → dx ≠ x → spTInit C [.ref x, .str l, .ref r, .int fr, .int sh] (upd (upd H dx (.own x)) x (.ins C dx [])) (fun v H3 => v = .non ∧ Q (.ref x) H3) E := by
  intro x dx nx ndx hne
  have S0 : Same H (upd (upd H dx (.own x)) x (.ins C dx [])) := (same_upd ndx).trans (same_upd (by rw [upd_ne (Ne.symm hne)]; exact nx))
  refine ⟨x, dx, r, l, fr, sh, b, bs, rfl, upd_same, R.same S0, g, n, nl, f0, s0, s1, fun H' bx T => ⟨rfl, q x H' (fun c o hc => ?_) T⟩⟩
  exact bx c o (S0 _ _ hc) fun e => by rw [e, nx] at hc; cases hc
theorem same_but {H H1 H2 : Hp} {p : Addr} (S : Same H H1) (n : H p = none) (b : But p H1 H2) : Same H H2 := fun x o e => b x o (S x o e) fun z => by rw [z, n] at e; cases e
theorem PV.kp {H H' : Hp} {v : V} {o : Option (Str × Str)} (h : PV H v o) (k : Kp H H') : PV H' v o := by
  cases o with
  | none => exact h
  | some z =>
    obtain ⟨T, e, hT⟩ := h
    exact ⟨T, e, k _ _ hT (ni_tup _)⟩
end Tb
namespace Tb
open PySem PySem.Spec PyProof.Rows L2
abbrev sLaw : Stmt := topS 41
abbrev NLaw : List Str := ["script", "box", "stem", "lands", "first", "second", "homes", "one", "two", "turned", "twin", "due", "heads", "names", "third", "three", "apart", "row"]
theorem scLaw : FnScope NLaw ["script"] (defScope sLaw) := ⟨rfl, rfl, rfl, by decide +kernel, rfl, by decide +kernel, by decide +kernel⟩
def spLaw (K : PySem.W.Frag) : Sp := fun vs H Q _ => ∃ (a : Addr) (ns : List Int), vs = [.ref a] ∧ SqL K H a (ns.map V.int) ∧ ∀ H', Q (.bl true) H'
theorem part_in {rs qs : List Rw} {z : Str × Str} (g : Gd rs) (g2 : Gd qs) (h : PartIs rs qs (some z)) : SgP z ∧ z.1.length ≤ 8 := by
  obtain ⟨S, y, hS, hy, hl⟩ := h
  obtain ⟨⟨r, hr, e1⟩, h2, _⟩ := hl
  have ok : ∀ r ∈ rs ++ qs, okR r := fun r m => (List.mem_append.mp m).elim (g.1 r) (g2.1 r)
  have ax := (ok r hr).1
  rw [e1] at ax
  refine ⟨⟨addr_sg ax, ?_⟩, addr_small ax⟩
  rcases h2 with e | ⟨_, c, hc, e⟩
  · rw [e]
    refine lane_sg ?_
    unfold isLane
    rw [(free_name hy).1, Bool.or_true]
  · rw [← e]
    exact lane_sg (ok c hc).2.1
structure Bun (H : Hp) (l A1 A2 M : Addr) (ks : List Str) (r1 r2 : List (Addr × Rw)) (h0 h1 h2 : Str) : Prop where
  ln : Lns H l ks
  f : LR H A1 r1
  s : LR H A2 r2
  m : H M = some (.lst [.str h0, .str h1, .str h2])
theorem Bun.kp {H H' : Hp} {l A1 A2 M : Addr} {ks : List Str} {r1 r2 : List (Addr × Rw)} {h0 h1 h2 : Str} (N : Bun H l A1 A2 M ks r1 r2 h0 h1 h2) (k : Kp H H') : Bun H' l A1 A2 M ks r1 r2 h0 h1 h2 := ⟨N.ln.kp k, N.f.kp k, N.s.kp k, k _ _ N.m (ni_strs [h0, h1, h2])⟩
theorem LR.rin {H : Hp} {a : Addr} {bs : List (Addr × Rw)} (R : LR H a bs) : RIn H a true bs := ⟨R.l, R.t⟩
theorem made_same {H H' : Hp} {x dx C : Addr} (nx : H x = none) (ndx : H dx = none) (hne : dx ≠ x) (bx : But x (upd (upd H dx (.own x)) x (.ins C dx [])) H') : Same H H' := fun c o hc =>
  bx c o (((same_upd ndx).trans (same_upd (by rw [upd_ne (Ne.symm hne)]; exact nx))) _ _ hc) fun e => by rw [e, nx] at hc; cases hc
theorem made_rin {H : Hp} {x dx C r : Addr} {b : Bool} {bs : List (Addr × Rw)} (R : RIn H r b bs) (nx : H x = none) (ndx : H dx = none) (hne : dx ≠ x) : RIn (upd (upd H dx (.own x)) x (.ins C dx [])) r b bs :=
  R.same ((same_upd ndx).trans (same_upd (by rw [upd_ne (Ne.symm hne)]; exact nx)))
theorem LR.tin {H : Hp} {a A : Addr} {bs : List (Addr × Rw)} (R : LR H a bs) (h : H A = some (.tup (bs.map fun b => V.ref b.1))) : RIn H A false bs := ⟨h, R.t⟩
theorem RIn.kp {H H' : Hp} {r : Addr} {b : Bool} {bs : List (Addr × Rw)} (R : RIn H r b bs) (k : Kp H H') : RIn H' r b bs := by
  refine ⟨k _ _ R.l ?_, fun c m => k _ _ (R.t c m) (ni_tup _)⟩
  cases b with
  | true => exact ni_bs bs
  | false => exact ni_tup _
structure LaC (P : Program) (w : World) (K : PySem.W.Frag) (mg : Str → Option Value) (base : Heap) (C : Addr) : Prop where
  box : ∃ g gd, C1 P w K mg base "_law_box" sBox ["script", "k"] 2 (spBox K) g gd
  draw : ∃ g gd, CDraw P w K mg base g gd
  digits : ∃ g gd, CDigits P w K mg base g gd
  name : ∃ g gd, CName P w K mg base g gd
  lands : ∃ g gd, C1 P w K mg base "_law_lands" sLands ["box"] 3 spLands g gd
  rows : ∃ g gd, C1 P w K mg base "_law_rows" sLRows ["box", "lands", "stem"] 4 spLRows g gd
  chg : ∃ g gd, C1 P w K mg base "_law_changed" sLChg ["box", "rows", "lands", "stem"] 4 spLChg g gd
  part : ∃ g gd, C1 P w K mg base "_law_parting" sLPart ["one", "other"] 2 spLPart g gd
  pair : ∃ g gd, CIsPair P w K mg base g gd
  heads : ∃ g gd, C1 P w K mg base "_law_headings" sHeads ["box", "rows", "stem"] 3 spHeads g gd
  fresh : ∃ g gd, CFresh P w K mg base g gd
  holds : ∃ g gd, C1 P w K mg base "_law_rates_hold" sHolds ["tariff", "rows", "heads", "names"] 4 (spHolds C) g gd
  apart : ∃ g gd, C1 P w K mg base "_law_apart" sApart ["box", "rows", "lands", "stem"] 4 spApart g gd
  tc : TCls K C
  gT : mg "Tariff" = some (.ref C)
  make : ∃ f fd, Mk K C f ∧ FunK K f fd ∧ FnOk P w K mg base CX0 5 f fd ["self", "land", "rows", "free", "share"] (spTInit C)
  tpart : ∃ f fd, Meth K C "parting" f ∧ Binds K fd ["self", "other"] [] ∧ FnOk P w K mg base CX0 3 f fd ["self", "other"] (spTPart C)
section
variable {P : Program} {w : World} {K : PySem.W.Frag} {mg : Str → Option Value} {base : Heap}
theorem ok_law {f C : Addr} {fd : FuncData} (F : Fun K "law" "law" sLaw f fd) (B : Blt mg) (LC : LaC P w K mg base C) : FnOk P w K mg base CX0 7 f fd ["script"] (spLaw K) := by
  obtain ⟨fI, fdI, MK, FK, FI⟩ := LC.make
  obtain ⟨gB, kB⟩ := kb_both FK
  obtain ⟨gS, kS⟩ := kb_share FK
  obtain ⟨gF, kF⟩ := kb_free FK
  obtain ⟨fTp, dTp, TPm, bTp, FTp⟩ := LC.tpart
  have TC := LC.tc
  have gT := LC.gT
  obtain ⟨_, _, cLBox⟩ := LC.box
  obtain ⟨_, _, cDraw⟩ := LC.draw
  obtain ⟨_, _, cDigits⟩ := LC.digits
  obtain ⟨_, _, cName⟩ := LC.name
  obtain ⟨_, _, cLands⟩ := LC.lands
  obtain ⟨_, _, cLRows⟩ := LC.rows
  obtain ⟨_, _, cLChg⟩ := LC.chg
  obtain ⟨_, _, cLPart⟩ := LC.part
  obtain ⟨_, _, cIsPair⟩ := LC.pair
  obtain ⟨_, _, cHeads⟩ := LC.heads
  obtain ⟨_, _, cFresh⟩ := LC.fresh
  obtain ⟨_, _, cHolds⟩ := LC.holds
  obtain ⟨_, _, cApart⟩ := LC.apart
  refine F.ok scLaw (fun vs H Q E h => ?_) (fun cdv A outer s H vs Q E hr h => ?_)
  · obtain ⟨a, ns, rfl, _⟩ := h
    rfl
  · obtain ⟨a, ns, rfl, hS, q⟩ := h
    have hz : sizeLine = 16777216 := rfl
    refine ⟨_, (pss_cons (ps_set (i := 1) scLaw.nd rfl (.inl rfl) (pe_call cLBox.G (hr.mono (by first | decide | omega)) (by rfl) cLBox.D.g cLBox.D.F.kp cLBox.D.b .nil pass0 (pa_cons (pv 0) (pa_cons pe_int pa_nil))))
      (pss_cons (ps_set (i := 2) scLaw.nd rfl (.inl rfl) (pe_call cDigits.G (hr.mono (by first | decide | omega)) (by rfl) cDigits.D.g cDigits.D.F.kp cDigits.D.b .nil pass0 (pa_cons (pv 1) (pa_cons pe_int pa_nil))))
      (pss_cons (ps_set (i := 3) scLaw.nd rfl (.inl rfl) (pe_call cLands.G (hr.mono (by first | decide | omega)) (by rfl) cLands.D.g cLands.D.F.kp cLands.D.b .nil pass0 (pa_cons (pv 1) pa_nil)))
      (pss_cons (ps_set (i := 4) scLaw.nd rfl (.inl rfl) (pe_call cLRows.G (hr.mono (by first | decide | omega)) (by rfl) cLRows.D.g cLRows.D.F.kp cLRows.D.b .nil pass0 (pa_cons (pv 1) (pa_cons (pv 3) (pa_cons (pv 2) pa_nil)))))
      (pss_cons (ps_set (i := 1) scLaw.nd rfl (.inl rfl) (pe_call cLBox.G (hr.mono (by first | decide | omega)) (by rfl) cLBox.D.g cLBox.D.F.kp cLBox.D.b .nil pass0 (pa_cons (pv 0) (pa_cons pe_int pa_nil))))
      (pss_cons (ps_set (i := 5) scLaw.nd rfl (.inl rfl) (pe_call cLChg.G (hr.mono (by first | decide | omega)) (by rfl) cLChg.D.g cLChg.D.F.kp cLChg.D.b .nil pass0 (pa_cons (pv 1) (pa_cons (pv 4) (pa_cons (pv 3) (pa_cons (pv 2) pa_nil))))))
      (C8.pss_cut (ps_if (pt_cmpR op_eq (pe_call cDraw.G (hr.mono (by first | decide | omega)) (by rfl) cDraw.D.g cDraw.D.F.kp cDraw.D.b .nil pass0 (pa_cons (pv 1) (pa_cons pe_int pa_nil))) pe_int (nomark _))
        (pss_one (ps_set (i := 5) scLaw.nd rfl (.inl rfl) (pe_call cLRows.G (hr.mono (by first | decide | omega)) (by rfl) cLRows.D.g cLRows.D.F.kp cLRows.D.b .nil pass0 (pa_cons (pv 1) (pa_cons (pv 3) (pa_cons (pv 2) pa_nil))))))
        pss_nil)
      (pss_cons (ps_set (i := 1) scLaw.nd rfl (.inl rfl) (pe_call cLBox.G (hr.mono (by first | decide | omega)) (by rfl) cLBox.D.g cLBox.D.F.kp cLBox.D.b .nil pass0 (pa_cons (pv 0) (pa_cons pe_int pa_nil))))
      (pss_cons (ps_set (i := 6) scLaw.nd rfl (.inl rfl) (pe_lst (pa_cons (pe_call cName.G (hr.mono (by first | decide | omega)) (by rfl) cName.D.g cName.D.F.kp cName.D.b .nil pass0 (pa_cons (pv 1) pa_nil)) (pa_cons (pe_ix ix_list (pv 3) (pe_call cDraw.G (hr.mono (by first | decide | omega)) (by rfl) cDraw.D.g cDraw.D.F.kp cDraw.D.b .nil pass0 (pa_cons (pv 1) (pa_cons pe_int pa_nil))) (fun _ _ => rfl)) (pa_cons (pe_call cName.G (hr.mono (by first | decide | omega)) (by rfl) cName.D.g cName.D.F.kp cName.D.b .nil pass0 (pa_cons (pv 1) pa_nil)) pa_nil)))))
      (pss_cons (ps_set (i := 7) scLaw.nd rfl (.inl rfl) (pe_makeK MK FI (hr.mono (by first | decide | omega)) (by rfl) gT kB pass0 (pa_cons (pe_ix ix_list (pv 6) pe_int (fun _ _ => rfl)) (pa_cons (pe_callTy call_list_of (by rfl) B.list PyProof.Rows.boot_list (pa_cons (pv 4) pa_nil)) pa_nil)) (pk_cons (pe_call cDraw.G (hr.mono (by first | decide | omega)) (by rfl) cDraw.D.g cDraw.D.F.kp cDraw.D.b .nil pass0 (pa_cons (pv 1) (pa_cons (pe_op op_pow pe_int pe_int) pa_nil))) (pk_cons (pe_call cDraw.G (hr.mono (by first | decide | omega)) (by rfl) cDraw.D.g cDraw.D.F.kp cDraw.D.b .nil pass0 (pa_cons (pv 1) (pa_cons pe_int pa_nil))) pk_nil))))
      (pss_cons (ps_set (i := 8) scLaw.nd rfl (.inl rfl) (pe_makeK MK FI (hr.mono (by first | decide | omega)) (by rfl) gT kB pass0 (pa_cons (pe_ix ix_list (pv 6) pe_int (fun _ _ => rfl)) (pa_cons (pe_callTy call_tuple_of (by rfl) B.tuple PyProof.Rows.boot_tuple (pa_cons (pv 5) pa_nil)) pa_nil)) (pk_cons (pe_call cDraw.G (hr.mono (by first | decide | omega)) (by rfl) cDraw.D.g cDraw.D.F.kp cDraw.D.b .nil pass0 (pa_cons (pv 1) (pa_cons pe_int pa_nil))) (pk_cons (pe_call cDraw.G (hr.mono (by first | decide | omega)) (by rfl) cDraw.D.g cDraw.D.F.kp cDraw.D.b .nil pass0 (pa_cons (pv 1) (pa_cons pe_int pa_nil))) pk_nil))))
      (pss_cons (ps_set (i := 9) scLaw.nd rfl (.inl rfl) (pe_callTy call_list_of (by rfl) B.list PyProof.Rows.boot_list (pa_cons (pv 4) pa_nil)))
      (pss_cons (ps_expr (pe_bm0 PySem.F.plainAttrs_list PySem.F.slot_list_reverse PySem.F.type_list_reverse mt_reverse (pv 9)))
      (pss_cons (ps_set (i := 10) scLaw.nd rfl (.inl rfl) (pe_makeK MK FI (hr.mono (by first | decide | omega)) (by rfl) gT kS pass0 (pa_cons (pe_ix ix_list (pv 6) pe_int (fun _ _ => rfl)) (pa_cons (pv 9) pa_nil)) (pk_cons (pe_call cDraw.G (hr.mono (by first | decide | omega)) (by rfl) cDraw.D.g cDraw.D.F.kp cDraw.D.b .nil pass0 (pa_cons (pv 1) (pa_cons pe_int pa_nil))) pk_nil)))
      (pss_cons (ps_set (i := 11) scLaw.nd rfl (.inl rfl) (pe_call cLPart.G (hr.mono (by first | decide | omega)) (by rfl) cLPart.D.g cLPart.D.F.kp cLPart.D.b .nil pass0 (pa_cons (pv 4) (pa_cons (pv 5) pa_nil))))
      (pss_cons (ps_if (PW.pt (pw_or (pt_cmpR op_ne ((pe_txt (by rfl) B.hr)) pe_str (nomark _)) (pw_or1 (pt_cmpR op_notN ((pe_glob (by rfl) B.br (v := .non) rfl)) pe_non (nomark _)))))
        (pss_one (ps_ret pe_bl))
        pss_nil)
      (pss_cons (ps_if (PW.pt (pw_or (pt_not (pt_val (pe_call cIsPair.G (hr.mono (by first | decide | omega)) (by rfl) cIsPair.D.g cIsPair.D.F.kp cIsPair.D.b .nil pass0 (pa_cons (pe_meth (pv 7) TC.c TPm FTp (hr.mono (by first | decide | omega)) bTp .nil pass0 (pa_cons (pv 8) pa_nil)) (pa_cons (pv 11) pa_nil))))) (pw_or1 (pt_not (pt_val (pe_call cIsPair.G (hr.mono (by first | decide | omega)) (by rfl) cIsPair.D.g cIsPair.D.F.kp cIsPair.D.b .nil pass0 (pa_cons (pe_meth (pv 8) TC.c TPm FTp (hr.mono (by first | decide | omega)) bTp .nil pass0 (pa_cons (pv 7) pa_nil)) (pa_cons (pv 11) pa_nil))))))))
        (pss_one (ps_ret pe_bl))
        pss_nil)
      (pss_cons (ps_if (pt_cmpR op_notN (pe_meth (pv 7) TC.c TPm FTp (hr.mono (by first | decide | omega)) bTp .nil pass0 (pa_cons (pv 10) pa_nil)) pe_non (nomark _))
        (pss_one (ps_ret pe_bl))
        pss_nil)
      (pss_cons (ps_if (pt_not (pt_val (pe_call cIsPair.G (hr.mono (by first | decide | omega)) (by rfl) cIsPair.D.g cIsPair.D.F.kp cIsPair.D.b .nil pass0 (pa_cons (pe_meth (pv 8) TC.c TPm FTp (hr.mono (by first | decide | omega)) bTp .nil pass0 (pa_cons (pv 10) pa_nil)) (pa_cons (pv 11) pa_nil)))))
        (pss_one (ps_ret pe_bl))
        pss_nil)
      (pss_cons (ps_set (i := 12) scLaw.nd rfl (.inl rfl) (pe_call cHeads.G (hr.mono (by first | decide | omega)) (by rfl) cHeads.D.g cHeads.D.F.kp cHeads.D.b .nil pass0 (pa_cons (pv 1) (pa_cons (pe_op op_cat (pv 4) (pv 5)) (pa_cons (pv 2) pa_nil)))))
      (pss_cons (ps_set (i := 13) scLaw.nd rfl (.inl rfl) (pe_op op_cat (pv 3) (pe_lst (pa_cons pe_str (pa_cons (pe_ix ix_list (pv 6) pe_int (fun _ _ => rfl)) (pa_cons (pe_call cFresh.G (hr.mono (by first | decide | omega)) (by rfl) cFresh.D.g cFresh.D.F.kp cFresh.D.b .nil pass0 (pa_cons (pe_lc (own := [("row", 17)]) (g := gName 17) (by rfl) scLaw.nd (pi_list (pe_op op_cat (pv 4) (pv 5))) (blkOk_by (N := NLaw) (sc := defScope sLaw) (by decide +kernel)) (fun _ _ _ _ _ => pg_name (i := 17) scLaw.nd rfl (Or.inl rfl)) (fun _ _ _ _ _ => pts_nil) (fun _ _ _ _ _ => pe_ix (r := rIxT K) ix_tup (pv 17) pe_int (fun _ _ => rfl))) pa_nil)) pa_nil))))))
      (C8.pss_cut (ps_if (pt_cmpR op_notN (pv 11) pe_non (nomark _))
        (pss_cons (ps_expr (pe_bm PySem.F.plainAttrs_list PySem.F.slot_list_append PySem.F.type_list_append mt_append (pv 12) (pa_cons (pe_ix ix_tup (pv 11) pe_int (fun _ _ => rfl)) pa_nil)))
        (pss_one (ps_expr (pe_bm PySem.F.plainAttrs_list PySem.F.slot_list_append PySem.F.type_list_append mt_append (pv 13) (pa_cons (pe_ix ix_tup (pv 11) pe_int (fun _ _ => rfl)) pa_nil)))))
        pss_nil)
      (pss_cons (ps_if (PW.pt (pw_or (pt_not (pt_val (pe_call cHolds.G (hr.mono (by first | decide | omega)) (by rfl) cHolds.D.g cHolds.D.F.kp cHolds.D.b .nil pass0 (pa_cons (pv 7) (pa_cons (pv 4) (pa_cons (pv 12) (pa_cons (pv 13) pa_nil))))))) (pw_or1 (pt_not (pt_val (pe_call cHolds.G (hr.mono (by first | decide | omega)) (by rfl) cHolds.D.g cHolds.D.F.kp cHolds.D.b .nil pass0 (pa_cons (pv 8) (pa_cons (pv 5) (pa_cons (pv 12) (pa_cons (pv 13) pa_nil))))))))))
        (pss_one (ps_ret pe_bl))
        pss_nil)
      (pss_cons (ps_if (pt_not (pt_val (pe_call cHolds.G (hr.mono (by first | decide | omega)) (by rfl) cHolds.D.g cHolds.D.F.kp cHolds.D.b .nil pass0 (pa_cons (pv 10) (pa_cons (pv 4) (pa_cons (pe_slice sl_list (pv 12) po_none (po_some pe_int)) (pa_cons (pv 13) pa_nil)))))))
        (pss_one (ps_ret pe_bl))
        pss_nil)
      (pss_cons (ps_set (i := 14) scLaw.nd rfl (.inl rfl) (pe_call cApart.G (hr.mono (by first | decide | omega)) (by rfl) cApart.D.g cApart.D.F.kp cApart.D.b .nil pass0 (pa_cons (pv 1) (pa_cons (pv 4) (pa_cons (pv 3) (pa_cons (pv 2) pa_nil))))))
      (pss_cons (ps_set (i := 15) scLaw.nd rfl (.inl rfl) (pe_makeK MK FI (hr.mono (by first | decide | omega)) (by rfl) gT kF pass0 (pa_cons (pe_ix ix_list (pv 6) pe_int (fun _ _ => rfl)) (pa_cons (pe_callTy call_list_of (by rfl) B.list PyProof.Rows.boot_list (pa_cons (pv 14) pa_nil)) pa_nil)) (pk_cons pe_int pk_nil)))
      (pss_cons (ps_set (i := 16) scLaw.nd rfl (.inl rfl) (pe_call cLPart.G (hr.mono (by first | decide | omega)) (by rfl) cLPart.D.g cLPart.D.F.kp cLPart.D.b .nil pass0 (pa_cons (pv 4) (pa_cons (pv 14) pa_nil))))
      (pss_cons (ps_if (PW.pt (pw_or (pt_cmpR op_isN (pv 16) pe_non (nomark _)) (pw_or1 (pt_not (pt_val (pe_call cIsPair.G (hr.mono (by first | decide | omega)) (by rfl) cIsPair.D.g cIsPair.D.F.kp cIsPair.D.b .nil pass0 (pa_cons (pe_meth (pv 7) TC.c TPm FTp (hr.mono (by first | decide | omega)) bTp .nil pass0 (pa_cons (pv 15) pa_nil)) (pa_cons (pv 16) pa_nil))))))))
        (pss_one (ps_ret pe_bl))
        pss_nil)
      (pss_one (ps_ret (pe_and (pe_call cIsPair.G (hr.mono (by first | decide | omega)) (by rfl) cIsPair.D.g cIsPair.D.F.kp cIsPair.D.b .nil pass0 (pa_cons (pe_meth (pv 7) TC.c TPm FTp (hr.mono (by first | decide | omega)) bTp .nil pass0 (pa_cons (pv 8) pa_nil)) (pa_cons (pv 11) pa_nil))) (pe_one (pe_cmpR op_isN (pe_meth (pv 7) TC.c TPm FTp (hr.mono (by first | decide | omega)) bTp .nil pass0 (pa_cons (pv 7) pa_nil)) pe_non (nomark _)))))))))))))))))))))))))))))))))), ?_⟩
    refine ⟨.ref a, rfl, a, ns, 0, rfl, hS, by decide, fun p1 H1 np1 B1 S1 => ?_⟩
    refine ⟨.ref p1, rfl, p1, 8, rfl, B1, by decide, fun z H2 zl zd B2 b2 => ?_⟩
    have hSt : Stem z := ⟨zl, zd⟩
    refine ⟨.ref p1, rfl, p1, rfl, B2, fun l ks H3 hL B3 b3 => ?_⟩
    refine ⟨.ref p1, rfl, .ref l, rfl, .str z, rfl, p1, l, z, ks, rfl, B3, hL, hSt, fun A1 r1 H4 nA1 R1 G1 n1 B4 b4 => ?_⟩
    have SS4 := same_but S1 np1 ((b2.trans b3).trans b4)
    have L4 := hL.kp (But.kp B3 b4)
    refine ⟨.ref a, rfl, a, ns, 1, rfl, SS4.seq hS, by decide, fun p2 H5 np2 B5 S5 => ?_⟩
    refine ⟨.ref p2, rfl, .ref A1, rfl, .ref l, rfl, .str z, rfl, p2, A1, l, z, ks, r1, rfl, B5, R1.same S5, G1, n1, L4.kp (Same.kp S5), hSt, fun A2 r2 H6 nA2 R2 G2 n2 B6 b6 => ?_⟩
    have np2H := SS4.free np2
    have SS6 := same_but (SS4.trans S5) np2H b6
    have L6 := (L4.kp (Same.kp S5)).kp (But.kp B5 b6)
    have R6 := (R1.same S5).but B5 b6
    refine ⟨fun σ H' => ∃ A2 r2, σ = [some (.ref a), some (.ref p2), some (.str z), some (.ref l), some (.ref A1), some (.ref A2), none, none, none, none, none, none, none, none, none, none, none, none] ∧ Box H' p2 ∧ Same H H' ∧ Lns H' l ks ∧ LR H' A1 r1 ∧ LR H' A2 r2 ∧ Gd (r2.map (·.2)) ∧ r2.length ≤ 40, ?_, ?_⟩
    · refine ⟨.ref p2, rfl, p2, 8, rfl, B6, by decide, fun u H7 u0 u1 B7 b7 => ⟨rfl, _, rfl, ite2 (fun _ => ?_) (fun _ => ?_)⟩⟩
      · have L7 := L6.kp (But.kp B6 b7)
        refine ⟨.ref p2, rfl, .ref l, rfl, .str z, rfl, p2, l, z, ks, rfl, B7, L7, hSt, fun A3 r3 H8 nA3 R3 G3 n3 B8 b8 => ?_⟩
        exact ⟨A3, r3, rfl, B8, same_but SS6 np2H (b7.trans b8), L7.kp (But.kp B7 b8), (R6.but B6 b7).but B7 b8, R3, G3, by omega⟩
      · exact (⟨A2, r2, rfl, B7, same_but SS6 np2H b7, L6.kp (But.kp B6 b7), R6.but B6 b7, R2.but B6 b7, G2, n2⟩ : ∃ A2 r2, _ = [some (V.ref a), some (.ref p2), some (.str z), some (.ref l), some (.ref A1), some (.ref A2), none, none, none, none, none, none, none, none, none, none, none, none] ∧ Box H7 p2 ∧ Same H H7 ∧ Lns H7 l ks ∧ LR H7 A1 r1 ∧ LR H7 A2 r2 ∧ Gd (r2.map (·.2)) ∧ r2.length ≤ 40)
    clear R2 G2 n2
    rintro σ H8 ⟨A2, r2, rfl, B8, SS8, L8, R8, R2, G2, n2⟩
    refine ⟨.ref a, rfl, a, ns, 2, rfl, SS8.seq hS, by decide, fun p3 H9 np3 B9 S9 => ?_⟩
    have L9 := L8.kp (Same.kp S9)
    refine ⟨.ref p3, rfl, p3, rfl, B9, fun h0 Ha m0 Ba ba => ?_⟩
    refine ⟨.ref l, rfl, .ref p3, rfl, p3, 3, rfl, Ba, by decide, fun t Hb t0 t1 Bb bb => ?_⟩
    have Lb := (L9.kp (But.kp B9 ba)).kp (But.kp Ba bb)
    have lt : t.toNat < ks.length := by rw [L9.n]; omega
    refine ⟨l, _, t, _, rfl, rfl, sqOf Lb.l, at_nat t0 (strs_at lt), .ref p3, rfl, p3, rfl, Bb, fun h2 Hc m2 Bc bc => ⟨by show 3 ≤ sizeLine; omega, fun M nM => ?_⟩⟩
    have m1 := L9.d _ (List.getElem_mem lt)
    generalize ks[t.toNat] = h1 at m1
    have bM := box_new (o := .lst [.str h0, .str h1, .str h2]) Bc nM
    have k9 := ((((But.kp B9 ba).trans (But.kp Ba bb)).trans (But.kp Bb bc)).trans (But.kp Bc bM.2))
    have N0 : Bun (upd Hc M (.lst [.str h0, .str h1, .str h2])) l A1 A2 M ks r1 r2 h0 h1 h2 := ⟨L9.kp k9, (R8.same S9).kp k9, (R2.same S9).kp k9, upd_same⟩
    have Bd := bM.1
    generalize upd Hc M (.lst [.str h0, .str h1, .str h2]) = Hd at N0 Bd
    have n0 : isName h0 = true := (isName_iff h0).mpr m0
    have n1' : isName h1 = true := (isName_iff h1).mpr m1
    have n2' : isName h2 = true := (isName_iff h2).mpr m2
    -- the first tariff
    refine ⟨.ref M, rfl, M, _, 0, _, rfl, rfl, sqOf N0.m, atI_nat (j := 0) rfl, .ref A1, rfl, A1, _, rfl, .inl (sqOf N0.f.l), fun C1' nC1 => ?_⟩
    have SC1 := same_upd (o := .lst (r1.map fun b => V.ref b.1)) nC1
    have RC1 : LR (upd Hd C1' (.lst (r1.map fun b => V.ref b.1))) C1' r1 := ⟨upd_same, (N0.f.same SC1).t⟩
    have Be := Bd.same SC1
    have N1 := N0.kp (Same.kp SC1)
    refine ⟨.ref p3, rfl, 10, 6, rfl, rfl, ⟨by decide, by decide, by decide⟩, p3, _, rfl, Be, by decide, fun fr Hf fr0 fr1 Bf bf => ?_⟩
    refine ⟨.ref p3, rfl, p3, 101, rfl, Bf, by decide, fun sh Hg sh0 sh1 Bg bg => ⟨rfl, rfl, ?_⟩⟩
    have N2 := (N1.kp (But.kp Be bf)).kp (But.kp Bf bg)
    intro one dx1 nx1 ndx1 hne1
    refine ⟨one, dx1, C1', h0, fr, sh, true, r1, rfl, upd_same, made_rin ((RC1.but Be bf).but Bf bg).rin nx1 ndx1 hne1, G1, by omega, n0, fr0, sh0, by omega, fun Hh bx1 T1 => ⟨rfl, ?_⟩⟩
    have Sh := made_same nx1 ndx1 hne1 bx1
    have N3 := N2.kp (Same.kp Sh)
    have Bh := Bg.same Sh
    -- the second tariff
    refine ⟨.ref M, rfl, M, _, 1, _, rfl, rfl, sqOf N3.m, atI_nat (j := 1) rfl, .ref A2, rfl, A2, _, rfl, .inl ⟨sqOf N3.s.l, fun C2' nC2 => ?_⟩⟩
    have SC2 := same_upd (o := .tup (r2.map fun b => V.ref b.1)) nC2
    have RC2 : RIn (upd Hh C2' (.tup (r2.map fun b => V.ref b.1))) C2' false r2 := (N3.s.same SC2).tin upd_same
    have Bi := Bh.same SC2
    have N4 := N3.kp (Same.kp SC2)
    have T1i := T1.kp (Same.kp SC2)
    refine ⟨.ref p3, rfl, p3, 3, rfl, Bi, by decide, fun fr2 Hi fr20 fr21 Bj bj => ?_⟩
    refine ⟨.ref p3, rfl, p3, 101, rfl, Bj, by decide, fun sh2 Hj sh20 sh21 Bk bk => ⟨rfl, rfl, ?_⟩⟩
    have kk2 := (But.kp Bi bj).trans (But.kp Bj bk)
    intro two dx2 nx2 ndx2 hne2
    refine ⟨two, dx2, C2', h1, fr2, sh2, false, r2, rfl, upd_same, made_rin (RC2.kp kk2) nx2 ndx2 hne2, G2, by omega, n1', fr20, sh20, by omega, fun Hl bx2 T2 => ⟨rfl, ?_⟩⟩
    have Sl := made_same nx2 ndx2 hne2 bx2
    have N5 := (N4.kp kk2).kp (Same.kp Sl)
    have T1l := (T1i.kp kk2).kp (Same.kp Sl)
    have Bl := Bk.same Sl
    -- the first rows, turned
    refine ⟨.ref A1, rfl, A1, _, rfl, .inl (sqOf N5.f.l), fun Tn nTn => ?_⟩
    have ST := same_upd (o := .lst (r1.map fun b => V.ref b.1)) nTn
    refine ⟨.ref Tn, rfl, .inl ⟨rfl, _, sqOf upd_same⟩, Tn, _, rfl, rfl, upd_same, ?_⟩
    rw [← List.map_reverse]
    have ST2 : Same Hl (upd (upd Hl Tn (.lst (r1.map fun b => V.ref b.1))) Tn (.lst (r1.reverse.map fun b => V.ref b.1))) := fun b o h => by
      rw [upd_ne (ne_of_none h nTn)]
      exact ST b o h
    have RT : LR (upd (upd Hl Tn (.lst (r1.map fun b => V.ref b.1))) Tn (.lst (r1.reverse.map fun b => V.ref b.1))) Tn r1.reverse := ⟨upd_same, fun b m => ST2 _ _ (N5.f.t b (List.mem_reverse.mp m))⟩
    generalize upd (upd Hl Tn (.lst (r1.map fun b => V.ref b.1))) Tn (.lst (r1.reverse.map fun b => V.ref b.1)) = Hm at ST2 RT
    have N6 := N5.kp (Same.kp ST2)
    have T1m := T1l.kp (Same.kp ST2)
    have T2m := T2.kp (Same.kp ST2)
    have Bm := Bl.same ST2
    have gr : Gd (r1.reverse.map (·.2)) := by rw [List.map_reverse]; exact gd_rev G1
    have pr : (r1.reverse.map (·.2)).Perm (r1.map (·.2)) := by rw [List.map_reverse]; exact List.reverse_perm _
    -- the third tariff
    refine ⟨.ref M, rfl, M, _, 2, _, rfl, rfl, sqOf N6.m, atI_nat (j := 2) rfl, .ref Tn, rfl, .ref p3, rfl, p3, 101, rfl, Bm, by decide, fun sh3 Hn sh30 sh31 Bn bn => ⟨rfl, rfl, ?_⟩⟩
    have kk3 := But.kp Bm bn
    intro twin dx3 nx3 ndx3 hne3
    refine ⟨twin, dx3, Tn, h2, 0, sh3, true, r1.reverse, rfl, upd_same, made_rin (RT.kp kk3).rin nx3 ndx3 hne3, gr, by rw [List.length_reverse]; omega, n2', by decide, sh30, by omega, fun Ho bx3 T3 => ⟨rfl, ?_⟩⟩
    have So := made_same nx3 ndx3 hne3 bx3
    have kk3' := kk3.trans (Same.kp So)
    have N7 := N6.kp kk3'
    have T1o := T1m.kp kk3'
    have T2o := T2m.kp kk3'
    have Bo := Bn.same So
    -- what parts them
    refine ⟨.ref A1, rfl, .ref A2, rfl, A1, A2, r1, r2, rfl, N7.f, N7.s, G1, G2, by omega, by omega, fun dv o Hp0 hP hV Sp => ?_⟩
    refine ⟨rfl, _, rfl, ite2 (fun z => by simp at z) (fun _ => ?_)⟩
    refine ⟨rfl, _, rfl, ite2 (fun z => by simp at z) (fun _ => ?_)⟩
    have sgd : ∀ z, o = some z → SgP z := fun z e => (part_in G1 G2 (by rw [← e]; exact hP)).1
    have ask : ∀ {H' : Hp}, Same Hp0 H' → TarOf C H' one (r1.map (·.2)) ∧ TarOf C H' two (r2.map (·.2)) ∧ TarOf C H' twin (r1.reverse.map (·.2)) ∧ PV H' dv o := fun {H'} S => ⟨(T1o.same Sp).same S, (T2o.same Sp).same S, (T3.same Sp).same S, hV.kp (Same.kp S)⟩
    obtain ⟨u1, u2, u3, u4⟩ := ask (Same.refl _)
    obtain ⟨dxa, fsa, a1, _, a3⟩ := tar_at u1
    refine ⟨.ref one, rfl, one, dxa, fsa, rfl, a1, a3, .ref two, rfl, one, two, _, _, rfl, u1, u2, fun v1 o1 Hq hP1 hV1 Sq => ?_⟩
    rw [part_uniq hP1 hP] at hV1
    obtain ⟨w1, w2, w3, w4⟩ := ask Sq
    refine ⟨dv, rfl, v1, dv, o, rfl, hV1, w4, sgd, true, rfl, ?_⟩
    obtain ⟨dxb, fsb, b1, _, b3'⟩ := tar_at w2
    refine ⟨.ref two, rfl, two, dxb, fsb, rfl, b1, b3', .ref one, rfl, two, one, _, _, rfl, w2, w1, fun v2 o2 Hr hP2 hV2 Sr => ?_⟩
    rw [part_uniq (part_comm hP2) hP] at hV2
    have Sr := Sq.trans Sr
    obtain ⟨x1, x2, x3, x4⟩ := ask Sr
    refine ⟨dv, rfl, v2, dv, o, rfl, hV2, x4, sgd, true, rfl, ?_⟩
    obtain ⟨dxc, fsc, c1, _, c3⟩ := tar_at x1
    refine ⟨.ref one, rfl, one, dxc, fsc, rfl, c1, c3, .ref twin, rfl, one, twin, _, _, rfl, x1, x3, fun v3 o3 Hs hP3 hV3 Ss => ?_⟩
    rw [part_same G1 pr.symm hP3] at hV3
    obtain rfl : v3 = .non := hV3
    refine ⟨rfl, _, rfl, ite2 (fun z => by simp at z) (fun _ => ?_)⟩
    have Ss := Sr.trans Ss
    obtain ⟨y1, y2, y3, y4⟩ := ask Ss
    obtain ⟨dxd, fsd, d1, _, d3⟩ := tar_at y2
    refine ⟨.ref two, rfl, two, dxd, fsd, rfl, d1, d3, .ref twin, rfl, two, twin, _, _, rfl, y2, y3, fun v4 o4 Ht hP4 hV4 St => ?_⟩
    rw [part_uniq (part_comm (part_perm gr pr hP4)) hP] at hV4
    have St := Ss.trans St
    obtain ⟨z1, z2, z3, z4⟩ := ask St
    refine ⟨dv, rfl, v4, dv, o, rfl, hV4, z4, sgd, true, rfl, ?_⟩
    have Nt := (N7.kp (Same.kp Sp)).kp (Same.kp St)
    have Bt := (Bo.same Sp).same St
    -- the headings
    refine ⟨.ref p3, rfl, .ref A1, rfl, .ref A2, rfl, A1, A2, _, _, rfl, rfl, Nt.f.l, Nt.s.l, by rw [List.length_map, List.length_map]; omega, fun X nX => ?_⟩
    rw [← List.map_append]
    have SX := same_upd (o := .lst ((r1 ++ r2).map fun b => V.ref b.1)) nX
    have RX : LR (upd Ht X (.lst ((r1 ++ r2).map fun b => V.ref b.1))) X (r1 ++ r2) := ⟨upd_same, fun b m => SX _ _ ((List.mem_append.mp m).elim (Nt.f.t b) (Nt.s.t b))⟩
    have NX := Nt.kp (Same.kp SX)
    have BX := Bt.same SX
    have t1X := z1.same SX
    have t2X := z2.same SX
    have t3X := z3.same SX
    have dvX := z4.kp (Same.kp SX)
    generalize upd Ht X (.lst ((r1 ++ r2).map fun b => V.ref b.1)) = HX at SX RX NX BX t1X t2X t3X dvX
    have okAll : ∀ b ∈ r1 ++ r2, okR b.2 := fun b m => (List.mem_append.mp m).elim (fun m => G1.1 _ (List.mem_map.mpr ⟨b, m, rfl⟩)) fun m => G2.1 _ (List.mem_map.mpr ⟨b, m, rfl⟩)
    have l12 : (r1 ++ r2).length ≤ 70 := by rw [List.length_append]; omega
    refine ⟨.str z, rfl, p3, X, z, r1 ++ r2, rfl, BX, RX, fun b m => addr_small (okAll b m).1, by omega, hSt, fun hd hk Hu nhd hhd hkl hkn Bu bu => ?_⟩
    have Nu := NX.kp (But.kp BX bu)
    -- the names
    refine ⟨.ref l, rfl, .ref M, rfl, M, _, 0, _, rfl, rfl, sqOf Nu.m, atI_nat (j := 0) rfl, .ref A1, rfl, .ref A2, rfl, A1, A2, _, _, rfl, rfl, Nu.f.l, Nu.s.l, by rw [List.length_map, List.length_map]; omega, fun Y nY => ?_⟩
    rw [← List.map_append]
    have SY := same_upd (o := .lst ((r1 ++ r2).map fun b => V.ref b.1)) nY
    have hY : upd Hu Y (.lst ((r1 ++ r2).map fun b => V.ref b.1)) Y = some (.lst ((r1 ++ r2).map fun b => V.ref b.1)) := upd_same
    have tY : ∀ b ∈ r1 ++ r2, upd Hu Y (.lst ((r1 ++ r2).map fun b => V.ref b.1)) b.1 = some (.tup (rwV b.2)) := fun b m => SY _ _ ((List.mem_append.mp m).elim (Nu.f.t b) (Nu.s.t b))
    generalize upd Hu Y (.lst ((r1 ++ r2).map fun b => V.ref b.1)) = HY at SY hY tY
    refine ⟨Y, rfl, ⟨_, sqOf hY⟩, fun D nD => ?_⟩
    refine lc_it (walk_list (a := Y) (xs := (r1 ++ r2).map fun b => V.ref b.1)) (fun i H' => Same HY H' ∧ H' D = some (.lst ((((r1 ++ r2).take i).map fun b => b.2.1.2).map V.str))) ⟨same_upd nD, upd_same⟩ (fun i H' _ hP => sqOf (hP.1 _ _ hY)) (fun i v Hv1 Hv2 hi hPi hy => ?_) (fun Hv hPv => ?_)
    · obtain ⟨S5, hD⟩ := hPi
      obtain ⟨rfl, ev⟩ := hy
      obtain ⟨b, eb, rfl⟩ := bs_at ev
      refine ⟨rfl, .ref b.1, rfl, b.1, _, 1, .str b.2.1.2, rfl, rfl, .of (S5 _ _ (tY b (List.mem_of_getElem? eb))), rfl, _, hD, by rw [List.length_map, List.length_map, List.length_take]; omega, fun c o hc => ?_, ?_⟩
      · rw [upd_ne (ne_of_none hc nD)]; exact S5 _ _ hc
      · rw [upd_same, take_snoc eb, List.map_append, List.map_append]; rfl
    obtain ⟨Sv, hD⟩ := hPv
    rw [List.length_map, List.take_length] at hD
    have Suv := SY.trans Sv
    refine ⟨D, (r1 ++ r2).map fun b => b.2.1.2, rfl, hD, by rw [List.length_map]; omega, fun fz hfz => ⟨by show 3 ≤ sizeLine; omega, fun M3 nM3 => ?_⟩⟩
    have S3 := same_upd (o := .lst [.str (Str.ofString ""), .str h0, .str fz]) nM3
    have Suw := Suv.trans S3
    have Nw := Nu.kp (Same.kp Suw)
    refine ⟨l, M3, _, _, rfl, rfl, Nw.ln.l, upd_same, by rw [List.length_map, Nw.ln.n]; show 3 + 3 ≤ _; omega, fun nm nnm => ?_⟩
    have S4 := same_upd (o := .lst (ks.map V.str ++ [.str (Str.ofString ""), .str h0, .str fz])) nnm
    have Sux := Suw.trans S4
    have hnm : upd (upd Hv M3 (.lst [.str (Str.ofString ""), .str h0, .str fz])) nm (.lst (ks.map V.str ++ [.str (Str.ofString ""), .str h0, .str fz])) nm = some (.lst ((ks ++ [Str.ofString "", h0, fz]).map V.str)) := by rw [upd_same, List.map_append]; rfl
    have hhd2 := Sux _ _ hhd
    have Bx2 := Bu.same Sux
    have bx2 : But p3 HX _ := bu.trans (Same.but Sux)
    have fhd : HX hd = none := nhd
    have fnm : HX nm = none := but_free (Bu.same Suw) (bu.trans (Same.but Suw)) nnm
    generalize upd (upd Hv M3 (.lst [.str (Str.ofString ""), .str h0, .str fz])) nm (.lst (ks.map V.str ++ [.str (Str.ofString ""), .str h0, .str fz])) = Hx at hnm hhd2 Bx2 bx2 S4 Sux
    have hdnm : hd ≠ nm := ne_of_none (Suw _ _ hhd) nnm
    have lnm : (ks ++ [Str.ofString "", h0, fz]).length ≤ 6 := by rw [List.length_append, Nw.ln.n]; exact Nat.le_refl _
    generalize ks ++ [Str.ofString "", h0, fz] = nk at hnm lnm
    refine ⟨fun σ' H' => ∃ (hk' nk' : List Str), σ' = [some (.ref a), some (.ref p3), some (.str z), some (.ref l), some (.ref A1), some (.ref A2), some (.ref M), some (.ref one), some (.ref two), some (.ref Tn), some (.ref twin), some dv, some (.ref hd), some (.ref nm), none, none, none, none] ∧ Box H' p3 ∧ But p3 HX H' ∧ H' hd = some (.lst (hk'.map V.str)) ∧ H' nm = some (.lst (nk'.map V.str)) ∧ (∀ x ∈ hk', x.length ≤ 20), ?_, ?_⟩
    · refine ⟨dv, rfl, rfl, _, rfl, ite2 (fun e => ?_) (fun e => ?_)⟩
      · cases o with
        | none =>
          obtain rfl : dv = .non := dvX
          simp at e
        | some zz =>
          obtain ⟨T, rfl, hT⟩ := dvX.kp (But.kp BX bx2)
          have zl8 := (part_in G1 G2 hP).2
          have hdp := Bx2.ne hhd2 (ni_strs hk)
          refine ⟨.ref hd, rfl, .inl ⟨rfl, _, sqOf hhd2⟩, .ref T, rfl, T, _, 0, _, rfl, rfl, .of hT, rfl, hd, _, _, rfl, rfl, hhd2, by rw [List.length_map]; omega, ?_⟩
          have hT2 : upd Hx hd (.lst (hk.map V.str ++ [.str zz.1])) T = some (.tup [.str zz.1, .str zz.2]) := by
            rw [upd_ne (ne_of hT hhd2 (fun z => by cases z))]; exact hT
          have hnm2 : upd Hx hd (.lst (hk.map V.str ++ [.str zz.1])) nm = some (.lst (nk.map V.str)) := by rw [upd_ne hdnm.symm]; exact hnm
          have nmp := Bx2.ne hnm (ni_strs nk)
          refine ⟨.ref nm, rfl, .inl ⟨rfl, _, sqOf hnm2⟩, .ref T, rfl, T, _, 1, _, rfl, rfl, .of hT2, rfl, nm, _, _, rfl, rfl, hnm2, by rw [List.length_map]; omega, ?_⟩
          refine ⟨hk ++ [zz.1], nk ++ [zz.2], rfl, ?_, fun b o hb n => ?_, ?_, by rw [upd_same, List.map_append]; rfl, fun y hy => ?_⟩
          · obtain ⟨r0, a1, b1', c1, hp, rest⟩ := Bx2
            exact ⟨r0, a1, b1', c1, by rw [upd_ne nmp.symm, upd_ne hdp.symm]; exact hp, rest⟩
          · rw [upd_ne (ne_of_none hb fnm), upd_ne (ne_of_none hb fhd)]; exact bx2 b o hb n
          · rw [upd_ne hdnm, upd_same, List.map_append]; rfl
          · rcases List.mem_append.mp hy with hy | hy
            · exact hkl y hy
            · rw [List.mem_singleton.mp hy]; omega
      · exact (⟨hk, nk, rfl, Bx2, bx2, hhd2, hnm, hkl⟩ : ∃ (hk' nk' : List Str), _ = [some (V.ref a), some (.ref p3), some (.str z), some (.ref l), some (.ref A1), some (.ref A2), some (.ref M), some (.ref one), some (.ref two), some (.ref Tn), some (.ref twin), some dv, some (.ref hd), some (.ref nm), none, none, none, none] ∧ Box Hx p3 ∧ But p3 HX Hx ∧ Hx hd = some (.lst (hk'.map V.str)) ∧ Hx nm = some (.lst (nk'.map V.str)) ∧ (∀ x ∈ hk', x.length ≤ 20))
    clear hhd hhd2 hnm Bx2 bx2 hkl S4 Sux
    rintro σ' Hy ⟨hk', nk', rfl, By, by_, hhd, hnm, hkl⟩
    have kpY := But.kp BX by_
    have kl : ∀ x ∈ hk', x.length ≤ 1000 := fun x hx => Nat.le_trans (hkl x hx) (by decide)
    refine ⟨.ref one, rfl, .ref A1, rfl, .ref hd, rfl, .ref nm, rfl, one, A1, hd, nm, _, r1, hk', nk', rfl, t1X.kp kpY, (NX.kp kpY).f, List.Perm.refl _, hhd, kl, hnm, fun Hz1 Sz1 => ⟨true, rfl, ?_⟩⟩
    refine ⟨.ref two, rfl, .ref A2, rfl, .ref hd, rfl, .ref nm, rfl, two, A2, hd, nm, _, r2, hk', nk', rfl, (t2X.kp kpY).same Sz1, (NX.kp kpY).s.same Sz1, List.Perm.refl _, Sz1 _ _ hhd, kl, Sz1 _ _ hnm, fun Hz2 Sz2 => ⟨true, rfl, ?_⟩⟩
    have Sz := Sz1.trans Sz2
    refine ⟨.ref twin, rfl, .ref A1, rfl, .ref hd, rfl, 4, rfl, hd, _, rfl, sqOf (Sz _ _ hhd), fun h4 n4 => ?_⟩
    have S4 := same_upd (o := .lst (cutV (hk'.map V.str) none (some 4))) n4
    have Sz4 := Sz.trans S4
    refine ⟨.ref nm, rfl, twin, A1, h4, nm, _, r1, hk'.take 4, nk', rfl, (t3X.kp kpY).same Sz4, (NX.kp kpY).f.same Sz4, pr, by rw [upd_same, show (4 : Int) = ((4 : Nat) : Int) from rfl, cut_hi, List.map_take], fun x hx => kl x (List.mem_of_mem_take hx), Sz4 _ _ hnm, fun Hz5 Sz5 => ⟨true, rfl, ?_⟩⟩
    have Sz5 := Sz4.trans Sz5
    have k5 := kpY.trans (Same.kp Sz5)
    have N5' := NX.kp k5
    have B5' := By.same Sz5
    -- the tariff apart
    refine ⟨.ref p3, rfl, .ref A1, rfl, .ref l, rfl, .str z, rfl, p3, A1, l, z, ks, r1, rfl, B5', N5'.f, G1, n1, N5'.ln, hSt, fun A3 r3 Hw nA3 R3 G3 n3 ap Bw bw => ?_⟩
    have k6 := k5.trans (But.kp B5' bw)
    have N6' := NX.kp k6
    refine ⟨.ref M, rfl, M, _, 0, _, rfl, rfl, sqOf N6'.m, atI_nat (j := 0) rfl, .ref A3, rfl, A3, _, rfl, .inl (sqOf R3.l), fun C3 nC3 => ⟨rfl, rfl, ?_⟩⟩
    have SC3 := same_upd (o := .lst (r3.map fun b => V.ref b.1)) nC3
    have RC3 : LR (upd Hw C3 (.lst (r3.map fun b => V.ref b.1))) C3 r3 := ⟨upd_same, (R3.same SC3).t⟩
    intro three dx4 nx4 ndx4 hne4
    refine ⟨three, dx4, C3, h0, 0, 50, true, r3, rfl, upd_same, made_rin RC3.rin nx4 ndx4 hne4, G3, by omega, n0, by decide, by decide, by decide, fun Ha1 bx4 T4 => ⟨rfl, ?_⟩⟩
    have Sa1 := SC3.trans (made_same nx4 ndx4 hne4 bx4)
    have k7 := k6.trans (Same.kp Sa1)
    refine ⟨.ref A1, rfl, .ref A3, rfl, A1, A3, r1, r3, rfl, (NX.kp k7).f, R3.same Sa1, G1, G3, by omega, by omega, fun av oa Ha2 hPa hVa Sa2 => ?_⟩
    have k8 := k7.trans (Same.kp Sa2)
    cases oa with
    | none => exact absurd rfl (ap none hPa)
    | some za =>
    obtain ⟨Ta, rfl, hTa⟩ := hVa
    refine ⟨.ref Ta, rfl, rfl, _, rfl, ite2 (fun z => by simp at z) (fun _ => ?_)⟩
    have t18 := t1X.kp k8
    obtain ⟨dxe, fse, e1, _, e3⟩ := tar_at t18
    refine ⟨.ref one, rfl, one, dxe, fse, rfl, e1, e3, .ref three, rfl, one, three, _, _, rfl, t18, T4.same Sa2, fun v5 o5 Ha3 hP5 hV5 Sa3 => ?_⟩
    rw [part_uniq hP5 hPa] at hV5
    refine ⟨.ref Ta, rfl, v5, .ref Ta, some za, rfl, hV5, ⟨Ta, rfl, Sa3 _ _ hTa⟩, fun z e => (part_in G1 G3 (by rw [← e]; exact hPa)).1, true, rfl, ?_⟩
    have k9 := k8.trans (Same.kp Sa3)
    have t19 := t1X.kp k9
    obtain ⟨dxf, fsf, f1, _, f3⟩ := tar_at t19
    refine ⟨.ref one, rfl, one, dxf, fsf, rfl, f1, f3, .ref two, rfl, one, two, _, _, rfl, t19, t2X.kp k9, fun v6 o6 Ha4 hP6 hV6 Sa4 => ?_⟩
    rw [part_uniq hP6 hP] at hV6
    refine ⟨dv, rfl, v6, dv, o, rfl, hV6, (dvX.kp k9).kp (Same.kp Sa4), sgd, true, rfl, ?_⟩
    have t110 := t19.same Sa4
    obtain ⟨dxg, fsg, g1, _, g3⟩ := tar_at t110
    refine ⟨.ref one, rfl, one, dxg, fsg, rfl, g1, g3, .ref one, rfl, one, one, _, _, rfl, t110, t110, fun v7 o7 Ha5 hP7 hV7 Sa5 => ?_⟩
    rw [part_same G1 (List.Perm.refl _) hP7] at hV7
    obtain rfl : v7 = .non := hV7
    exact ⟨rfl, by simpa using q Ha5⟩
end
end Tb
set_option maxHeartbeats 0
namespace Tb
open PySem PySem.Spec PyProof.Rows L2
theorem cls_some {K : PySem.W.Frag} {C : Addr} (h : PySem.W.hasDictIn K C = true) : (PySem.W.clsIn K C).isSome = true := by
  obtain ⟨cd, hc, _⟩ := PySem.W.any_some h
  rw [hc]
  rfl
theorem kit_refC {K : PySem.W.Frag} {t : Value} {C : Addr} {b : Bool} (hd : PySem.W.hasDictIn K C = true) (ht : PySem.W.typeIn K (.ref C) = some (.type "type")) (hs : PySem.W.subIn K t (.ref C) = some b) : PySem.W.kitCls K t (.ref C) = some b := by
  have e2 : ((PySem.W.clsIn K C).isSome && PySem.W.typeIn K (.ref C) == some (.type "type")) = true := by rw [cls_some hd, ht]; rfl
  show (if ((PySem.W.clsIn K C).isSome && PySem.W.typeIn K (.ref C) == some (.type "type")) = true then PySem.W.subIn K t (.ref C) else none) = some b
  rw [if_pos e2]
  exact hs
theorem kit_tyC {K : PySem.W.Frag} {t : Value} {T : String} {b : Bool} (hT : PySem.W.kitMeta T = true) (hs : PySem.W.subIn K t (.type T) = some b) : PySem.W.kitCls K t (.type T) = some b := by
  show (if PySem.W.kitMeta T = true then PySem.W.subIn K t (.type T) else none) = some b
  rw [if_pos hT]
  exact hs
theorem kit_t {K : PySem.W.Frag} {t c : Value} (h : PySem.W.kitCls K t c = some true) : PySem.W.kitOne K t c = some true := by
  unfold PySem.W.kitOne
  by_cases e : (t == c) = true
  · rw [if_pos e]
  · rw [if_neg e]
    exact h
theorem kit_f {K : PySem.W.Frag} {t c : Value} (e : (t == c) = false) (h : PySem.W.kitCls K t c = some false) : PySem.W.kitOne K t c = some false := by
  unfold PySem.W.kitOne
  rw [if_neg (by rw [e]; exact Bool.false_ne_true)]
  exact h
theorem kit_nil {K : PySem.W.Frag} {t : Value} : PySem.W.kitAny K t [] = some false := rfl
theorem kit_no {K : PySem.W.Frag} {t c : Value} {r : List Value} (h : PySem.W.kitOne K t c = some false) (hr : PySem.W.kitAny K t r = some false) : PySem.W.kitAny K t (c :: r) = some false := by
  show (match PySem.W.kitOne K t c with | some true => some true | some false => PySem.W.kitAny K t r | none => none) = some false
  rw [h]
  exact hr
theorem all_mk {l : PySem.W.OpenLaw} {w : World} {K : PySem.W.Frag} {h : Heap} {mg : Str → Option Value} {fa f1 f2 f3 f4 f5 f6 f7 f8 f9 f10 f11 f12 f13 f14 f15 f16 f17 f18 f19 f20 f21 f22 f23 f24 f25 f26 f27 f28 C pR mTI KD mTr mTp mR : Addr} (X : K.In h) (G : h.Ns mainGlobals mg) (hfa : mg "law" = some (.ref fa))
    {od1 an1 od2 an2 od3 an3 od4 an4 od5 an5 od6 an6 od7 an7 od8 an8 od9 an9 od10 an10 od11 an11 od12 an12 od13 an13 od14 an14 od15 an15 od16 an16 od17 an17 od18 an18 od19 an19 od20 an20 od21 an21 od22 an22 od23 an23 od24 an24 od25 an25 od26 an26 od27 an27 od28 an28 odmTr anmTr odmTp anmTp odmR anmR : Option Addr} {sl1 sl2 sl3 sl4 sl5 sl6 sl7 sl8 sl9 sl10 sl11 sl12 sl13 sl14 sl15 sl16 sl17 sl18 sl19 sl20 sl21 sl22 sl23 sl24 sl25 sl26 sl27 sl28 slmTr slmTp slmR : Array (Option Value)} {oc1 kV1 dc1 pm1 cd1 ct1 oc2 kV2 dc2 pm2 cd2 ct2 oc3 kV3 dc3 pm3 cd3 ct3 oc4 kV4 dc4 pm4 cd4 ct4 oc5 kV5 dc5 pm5 cd5 ct5 oc6 kV6 dc6 pm6 cd6 ct6 oc7 kV7 dc7 pm7 cd7 ct7 oc8 kV8 dc8 pm8 cd8 ct8 oc9 kV9 dc9 pm9 cd9 ct9 oc10 kV10 dc10 pm10 cd10 ct10 oc11 kV11 dc11 pm11 cd11 ct11 oc12 kV12 dc12 pm12 cd12 ct12 oc13 kV13 dc13 pm13 cd13 ct13 oc14 kV14 dc14 pm14 cd14 ct14 oc15 kV15 dc15 pm15 cd15 ct15 oc16 kV16 dc16 pm16 cd16 ct16 oc17 kV17 dc17 pm17 cd17 ct17 oc18 kV18 dc18 pm18 cd18 ct18 oc19 kV19 dc19 pm19 cd19 ct19 oc20 kV20 dc20 pm20 cd20 ct20 oc21 kV21 dc21 pm21 cd21 ct21 oc22 kV22 dc22 pm22 cd22 ct22 oc23 kV23 dc23 pm23 cd23 ct23 oc24 kV24 dc24 pm24 cd24 ct24 oc25 kV25 dc25 pm25 cd25 ct25 oc26 kV26 dc26 pm26 cd26 ct26 oc27 kV27 dc27 pm27 cd27 ct27 oc28 kV28 dc28 pm28 cd28 ct28 ocmTr kVmTr dcmTr pmmTr cdmTr ctmTr ocmTp kVmTp dcmTp pmmTp cdmTp ctmTp ocmR kVmR dcmR pmmR cdmR ctmR : Value}
    {tDG tLT tHR tk0 tk1 : Tok}
    {restR : List Value}
    {ocTI dcTI pmTI cdTI ctTI : Value} {odTI anTI : Option Addr} {slTI : Array (Option Value)}
    (a1 : PySem.W.nsIn K mainGlobals "made_of" = some (some (.ref f1)))
    (l1 : K.lookup f1 = some ⟨oc1, od1, .func (PySem.W.fnOf "made_of" "made_of" (defArgs sMade) (defBody sMade) (defScope sMade) .none kV1 dc1 pm1 an1 cd1 ct1), sl1⟩)
    (c1 : PySem.W.codeIn K cd1 "made_of" = true)
    (k1 : PySem.W.keepIn K (.ref f1) = true)
    (a2 : PySem.W.nsIn K mainGlobals "spells_address" = some (some (.ref f2)))
    (l2 : K.lookup f2 = some ⟨oc2, od2, .func (PySem.W.fnOf "spells_address" "spells_address" (defArgs sSpells) (defBody sSpells) (defScope sSpells) .none kV2 dc2 pm2 an2 cd2 ct2), sl2⟩)
    (c2 : PySem.W.codeIn K cd2 "spells_address" = true)
    (k2 : PySem.W.keepIn K (.ref f2) = true)
    (a3 : PySem.W.nsIn K mainGlobals "is_name" = some (some (.ref f3)))
    (l3 : K.lookup f3 = some ⟨oc3, od3, .func (PySem.W.fnOf "is_name" "is_name" (defArgs sIsName) (defBody sIsName) (defScope sIsName) .none kV3 dc3 pm3 an3 cd3 ct3), sl3⟩)
    (c3 : PySem.W.codeIn K cd3 "is_name" = true)
    (k3 : PySem.W.keepIn K (.ref f3) = true)
    (a4 : PySem.W.nsIn K mainGlobals "is_address" = some (some (.ref f4)))
    (l4 : K.lookup f4 = some ⟨oc4, od4, .func (PySem.W.fnOf "is_address" "is_address" (defArgs sIsAddr) (defBody sIsAddr) (defScope sIsAddr) .none kV4 dc4 pm4 an4 cd4 ct4), sl4⟩)
    (c4 : PySem.W.codeIn K cd4 "is_address" = true)
    (k4 : PySem.W.keepIn K (.ref f4) = true)
    (a5 : PySem.W.nsIn K mainGlobals "by_length" = some (some (.ref f5)))
    (l5 : K.lookup f5 = some ⟨oc5, od5, .func (PySem.W.fnOf "by_length" "by_length" (defArgs sByLen) (defBody sByLen) (defScope sByLen) .none kV5 dc5 pm5 an5 cd5 ct5), sl5⟩)
    (c5 : PySem.W.codeIn K cd5 "by_length" = true)
    (k5 : PySem.W.keepIn K (.ref f5) = true)
    (a6 : PySem.W.nsIn K mainGlobals "_is_row" = some (some (.ref f6)))
    (l6 : K.lookup f6 = some ⟨oc6, od6, .func (PySem.W.fnOf "_is_row" "_is_row" (defArgs sIsRow) (defBody sIsRow) (defScope sIsRow) .none kV6 dc6 pm6 an6 cd6 ct6), sl6⟩)
    (c6 : PySem.W.codeIn K cd6 "_is_row" = true)
    (k6 : PySem.W.keepIn K (.ref f6) = true)
    (a7 : PySem.W.nsIn K mainGlobals "_free_land" = some (some (.ref f7)))
    (l7 : K.lookup f7 = some ⟨oc7, od7, .func (PySem.W.fnOf "_free_land" "_free_land" (defArgs sFree) (defBody sFree) (defScope sFree) .none kV7 dc7 pm7 an7 cd7 ct7), sl7⟩)
    (c7 : PySem.W.codeIn K cd7 "_free_land" = true)
    (k7 : PySem.W.keepIn K (.ref f7) = true)
    (a8 : PySem.W.nsIn K mainGlobals "_law_cell" = some (some (.ref f8)))
    (l8 : K.lookup f8 = some ⟨oc8, od8, .func (PySem.W.fnOf "_law_cell" "_law_cell" (defArgs sCell) (defBody sCell) (defScope sCell) .none kV8 dc8 pm8 an8 cd8 ct8), sl8⟩)
    (c8 : PySem.W.codeIn K cd8 "_law_cell" = true)
    (k8 : PySem.W.keepIn K (.ref f8) = true)
    (a9 : PySem.W.nsIn K mainGlobals "_law_box" = some (some (.ref f9)))
    (l9 : K.lookup f9 = some ⟨oc9, od9, .func (PySem.W.fnOf "_law_box" "_law_box" (defArgs sBox) (defBody sBox) (defScope sBox) .none kV9 dc9 pm9 an9 cd9 ct9), sl9⟩)
    (c9 : PySem.W.codeIn K cd9 "_law_box" = true)
    (k9 : PySem.W.keepIn K (.ref f9) = true)
    (a10 : PySem.W.nsIn K mainGlobals "_law_draw" = some (some (.ref f10)))
    (l10 : K.lookup f10 = some ⟨oc10, od10, .func (PySem.W.fnOf "_law_draw" "_law_draw" (defArgs sDraw) (defBody sDraw) (defScope sDraw) .none kV10 dc10 pm10 an10 cd10 ct10), sl10⟩)
    (c10 : PySem.W.codeIn K cd10 "_law_draw" = true)
    (k10 : PySem.W.keepIn K (.ref f10) = true)
    (a11 : PySem.W.nsIn K mainGlobals "_law_digits" = some (some (.ref f11)))
    (l11 : K.lookup f11 = some ⟨oc11, od11, .func (PySem.W.fnOf "_law_digits" "_law_digits" (defArgs sDigits) (defBody sDigits) (defScope sDigits) .none kV11 dc11 pm11 an11 cd11 ct11), sl11⟩)
    (c11 : PySem.W.codeIn K cd11 "_law_digits" = true)
    (k11 : PySem.W.keepIn K (.ref f11) = true)
    (a12 : PySem.W.nsIn K mainGlobals "_law_name" = some (some (.ref f12)))
    (l12 : K.lookup f12 = some ⟨oc12, od12, .func (PySem.W.fnOf "_law_name" "_law_name" (defArgs sName) (defBody sName) (defScope sName) .none kV12 dc12 pm12 an12 cd12 ct12), sl12⟩)
    (c12 : PySem.W.codeIn K cd12 "_law_name" = true)
    (k12 : PySem.W.keepIn K (.ref f12) = true)
    (a13 : PySem.W.nsIn K mainGlobals "_law_lands" = some (some (.ref f13)))
    (l13 : K.lookup f13 = some ⟨oc13, od13, .func (PySem.W.fnOf "_law_lands" "_law_lands" (defArgs sLands) (defBody sLands) (defScope sLands) .none kV13 dc13 pm13 an13 cd13 ct13), sl13⟩)
    (c13 : PySem.W.codeIn K cd13 "_law_lands" = true)
    (k13 : PySem.W.keepIn K (.ref f13) = true)
    (a14 : PySem.W.nsIn K mainGlobals "_law_prefix" = some (some (.ref f14)))
    (l14 : K.lookup f14 = some ⟨oc14, od14, .func (PySem.W.fnOf "_law_prefix" "_law_prefix" (defArgs sPrefix) (defBody sPrefix) (defScope sPrefix) .none kV14 dc14 pm14 an14 cd14 ct14), sl14⟩)
    (c14 : PySem.W.codeIn K cd14 "_law_prefix" = true)
    (k14 : PySem.W.keepIn K (.ref f14) = true)
    (a15 : PySem.W.nsIn K mainGlobals "_law_price" = some (some (.ref f15)))
    (l15 : K.lookup f15 = some ⟨oc15, od15, .func (PySem.W.fnOf "_law_price" "_law_price" (defArgs sPrice) (defBody sPrice) (defScope sPrice) .none kV15 dc15 pm15 an15 cd15 ct15), sl15⟩)
    (c15 : PySem.W.codeIn K cd15 "_law_price" = true)
    (k15 : PySem.W.keepIn K (.ref f15) = true)
    (a16 : PySem.W.nsIn K mainGlobals "_law_added" = some (some (.ref f16)))
    (l16 : K.lookup f16 = some ⟨oc16, od16, .func (PySem.W.fnOf "_law_added" "_law_added" (defArgs sAdded) (defBody sAdded) (defScope sAdded) .none kV16 dc16 pm16 an16 cd16 ct16), sl16⟩)
    (c16 : PySem.W.codeIn K cd16 "_law_added" = true)
    (k16 : PySem.W.keepIn K (.ref f16) = true)
    (a17 : PySem.W.nsIn K mainGlobals "_law_rows" = some (some (.ref f17)))
    (l17 : K.lookup f17 = some ⟨oc17, od17, .func (PySem.W.fnOf "_law_rows" "_law_rows" (defArgs sLRows) (defBody sLRows) (defScope sLRows) .none kV17 dc17 pm17 an17 cd17 ct17), sl17⟩)
    (c17 : PySem.W.codeIn K cd17 "_law_rows" = true)
    (k17 : PySem.W.keepIn K (.ref f17) = true)
    (a18 : PySem.W.nsIn K mainGlobals "_law_rate" = some (some (.ref f18)))
    (l18 : K.lookup f18 = some ⟨oc18, od18, .func (PySem.W.fnOf "_law_rate" "_law_rate" (defArgs sLRate) (defBody sLRate) (defScope sLRate) .none kV18 dc18 pm18 an18 cd18 ct18), sl18⟩)
    (c18 : PySem.W.codeIn K cd18 "_law_rate" = true)
    (k18 : PySem.W.keepIn K (.ref f18) = true)
    (a19 : PySem.W.nsIn K mainGlobals "_law_changed" = some (some (.ref f19)))
    (l19 : K.lookup f19 = some ⟨oc19, od19, .func (PySem.W.fnOf "_law_changed" "_law_changed" (defArgs sLChg) (defBody sLChg) (defScope sLChg) .none kV19 dc19 pm19 an19 cd19 ct19), sl19⟩)
    (c19 : PySem.W.codeIn K cd19 "_law_changed" = true)
    (k19 : PySem.W.keepIn K (.ref f19) = true)
    (a20 : PySem.W.nsIn K mainGlobals "_law_fresh" = some (some (.ref f20)))
    (l20 : K.lookup f20 = some ⟨oc20, od20, .func (PySem.W.fnOf "_law_fresh" "_law_fresh" (defArgs sFresh) (defBody sFresh) (defScope sFresh) .none kV20 dc20 pm20 an20 cd20 ct20), sl20⟩)
    (c20 : PySem.W.codeIn K cd20 "_law_fresh" = true)
    (k20 : PySem.W.keepIn K (.ref f20) = true)
    (a21 : PySem.W.nsIn K mainGlobals "_law_parting" = some (some (.ref f21)))
    (l21 : K.lookup f21 = some ⟨oc21, od21, .func (PySem.W.fnOf "_law_parting" "_law_parting" (defArgs sLPart) (defBody sLPart) (defScope sLPart) .none kV21 dc21 pm21 an21 cd21 ct21), sl21⟩)
    (c21 : PySem.W.codeIn K cd21 "_law_parting" = true)
    (k21 : PySem.W.keepIn K (.ref f21) = true)
    (a22 : PySem.W.nsIn K mainGlobals "_law_is_pair" = some (some (.ref f22)))
    (l22 : K.lookup f22 = some ⟨oc22, od22, .func (PySem.W.fnOf "_law_is_pair" "_law_is_pair" (defArgs sIsPair) (defBody sIsPair) (defScope sIsPair) .none kV22 dc22 pm22 an22 cd22 ct22), sl22⟩)
    (c22 : PySem.W.codeIn K cd22 "_law_is_pair" = true)
    (k22 : PySem.W.keepIn K (.ref f22) = true)
    (a23 : PySem.W.nsIn K mainGlobals "_law_is_rate" = some (some (.ref f23)))
    (l23 : K.lookup f23 = some ⟨oc23, od23, .func (PySem.W.fnOf "_law_is_rate" "_law_is_rate" (defArgs sIsRate) (defBody sIsRate) (defScope sIsRate) .none kV23 dc23 pm23 an23 cd23 ct23), sl23⟩)
    (c23 : PySem.W.codeIn K cd23 "_law_is_rate" = true)
    (k23 : PySem.W.keepIn K (.ref f23) = true)
    (a24 : PySem.W.nsIn K mainGlobals "_law_rows_are" = some (some (.ref f24)))
    (l24 : K.lookup f24 = some ⟨oc24, od24, .func (PySem.W.fnOf "_law_rows_are" "_law_rows_are" (defArgs sRowsAre) (defBody sRowsAre) (defScope sRowsAre) .none kV24 dc24 pm24 an24 cd24 ct24), sl24⟩)
    (c24 : PySem.W.codeIn K cd24 "_law_rows_are" = true)
    (k24 : PySem.W.keepIn K (.ref f24) = true)
    (a25 : PySem.W.nsIn K mainGlobals "_law_apart" = some (some (.ref f25)))
    (l25 : K.lookup f25 = some ⟨oc25, od25, .func (PySem.W.fnOf "_law_apart" "_law_apart" (defArgs sApart) (defBody sApart) (defScope sApart) .none kV25 dc25 pm25 an25 cd25 ct25), sl25⟩)
    (c25 : PySem.W.codeIn K cd25 "_law_apart" = true)
    (k25 : PySem.W.keepIn K (.ref f25) = true)
    (a26 : PySem.W.nsIn K mainGlobals "_law_headings" = some (some (.ref f26)))
    (l26 : K.lookup f26 = some ⟨oc26, od26, .func (PySem.W.fnOf "_law_headings" "_law_headings" (defArgs sHeads) (defBody sHeads) (defScope sHeads) .none kV26 dc26 pm26 an26 cd26 ct26), sl26⟩)
    (c26 : PySem.W.codeIn K cd26 "_law_headings" = true)
    (k26 : PySem.W.keepIn K (.ref f26) = true)
    (a27 : PySem.W.nsIn K mainGlobals "_law_rates_hold" = some (some (.ref f27)))
    (l27 : K.lookup f27 = some ⟨oc27, od27, .func (PySem.W.fnOf "_law_rates_hold" "_law_rates_hold" (defArgs sHolds) (defBody sHolds) (defScope sHolds) .none kV27 dc27 pm27 an27 cd27 ct27), sl27⟩)
    (c27 : PySem.W.codeIn K cd27 "_law_rates_hold" = true)
    (k27 : PySem.W.keepIn K (.ref f27) = true)
    (a28 : PySem.W.nsIn K mainGlobals "law" = some (some (.ref f28)))
    (l28 : K.lookup f28 = some ⟨oc28, od28, .func (PySem.W.fnOf "law" "law" (defArgs sLaw) (defBody sLaw) (defScope sLaw) .none kV28 dc28 pm28 an28 cd28 ct28), sl28⟩)
    (c28 : PySem.W.codeIn K cd28 "law" = true)
    (k28 : PySem.W.keepIn K (.ref f28) = true)
    (z_len : PySem.W.nsIn K mainGlobals "len" = some none)
    (z_int : PySem.W.nsIn K mainGlobals "int" = some none)
    (z_str : PySem.W.nsIn K mainGlobals "str" = some none)
    (z_list : PySem.W.nsIn K mainGlobals "list" = some none)
    (z_tuple : PySem.W.nsIn K mainGlobals "tuple" = some none)
    (z_dict : PySem.W.nsIn K mainGlobals "dict" = some none)
    (z_bool : PySem.W.nsIn K mainGlobals "bool" = some none)
    (z_range : PySem.W.nsIn K mainGlobals "range" = some none)
    (z_sorted : PySem.W.nsIn K mainGlobals "sorted" = some none)
    (z_all : PySem.W.nsIn K mainGlobals "all" = some none)
    (z_isinstance : PySem.W.nsIn K mainGlobals "isinstance" = some none)
    (z_sum : PySem.W.nsIn K mainGlobals "sum" = some none)
    (z_set : PySem.W.nsIn K mainGlobals "set" = some none)
    (gDG : PySem.W.nsIn K mainGlobals "DIGITS" = some (some (.str ("0123456789" : String) tDG)))
    (gLT : PySem.W.nsIn K mainGlobals "LETTERS" = some (some (.str ("abcdefghijklmnopqrstuvwxyz" : String) tLT)))
    (gHR : PySem.W.nsIn K mainGlobals "ANY" = some (some (.str ("" : String) tHR)))
    (gBR : PySem.W.nsIn K mainGlobals "BARRED" = some (some .none))
    (aT : PySem.W.nsIn K mainGlobals "Tariff" = some (some (.ref C)))
    (tI : PySem.W.findIn K (.ref C) "__init__" = some (some (.ref mTI)))
    (lTI : K.lookup mTI = some ⟨ocTI, odTI, .func (PySem.W.fnOf "__init__" "Tariff.__init__" (defArgs sTInit) (defBody sTInit) (defScope sTInit) .none (.ref KD) dcTI pmTI anTI cdTI ctTI), slTI⟩)
    (cTI : PySem.W.codeIn K cdTI "Tariff.__init__" = true)
    (kTI : PySem.W.keepIn K (.ref mTI) = true)
    (nTI : PySem.W.isFn K (.ref mTI) = true)
    (dF : PySem.W.nsIn K KD "free" = some (some (.int 0 tk0)))
    (dS : PySem.W.nsIn K KD "share" = some (some (.int 50 tk1)))
    (tTr : PySem.W.findIn K (.ref C) "rate" = some (some (.ref mTr)))
    (lmTr : K.lookup mTr = some ⟨ocmTr, odmTr, .func (PySem.W.fnOf "rate" "Tariff.rate" (defArgs sTRate) (defBody sTRate) (defScope sTRate) .none kVmTr dcmTr pmmTr anmTr cdmTr ctmTr), slmTr⟩)
    (cmTr : PySem.W.codeIn K cdmTr "Tariff.rate" = true)
    (kmTr : PySem.W.keepIn K (.ref mTr) = true)
    (nTr : PySem.W.isFn K (.ref mTr) = true)
    (tTp : PySem.W.findIn K (.ref C) "parting" = some (some (.ref mTp)))
    (lmTp : K.lookup mTp = some ⟨ocmTp, odmTp, .func (PySem.W.fnOf "parting" "Tariff.parting" (defArgs sTPart) (defBody sTPart) (defScope sTPart) .none kVmTp dcmTp pmmTp anmTp cdmTp ctmTp), slmTp⟩)
    (cmTp : PySem.W.codeIn K cdmTp "Tariff.parting" = true)
    (kmTp : PySem.W.keepIn K (.ref mTp) = true)
    (nTp : PySem.W.isFn K (.ref mTp) = true)
    (tR : PySem.W.findIn K (.ref C) "rows" = some (some (.ref pR)))
    (tRg : PySem.W.specialIn K (.ref pR) "__get__" = some (some (.builtin "property.__get__")))
    (tRt : PySem.W.takesIn K (.ref pR) = some true)
    (tRr : PySem.W.recIn K pR "property" = some (.ref mR :: restR))
    (lmR : K.lookup mR = some ⟨ocmR, odmR, .func (PySem.W.fnOf "rows" "Tariff.rows" (defArgs sTRows) (defBody sTRows) (defScope sTRows) .none kVmR dcmR pmmR anmR cdmR ctmR), slmR⟩)
    (cmR : PySem.W.codeIn K cdmR "Tariff.rows" = true)
    (kmR : PySem.W.keepIn K (.ref mR) = true)
    (tPg : PySem.W.plainGet K C Str.empty = true)
    (tHd : PySem.W.hasDictIn K C = true)
    (tPo : PySem.W.plainOver K C = true)
    (tSa : PySem.W.findIn K (.ref C) "__setattr__" = some (some (.builtin "object.__setattr__")))
    (tN1 : PySem.W.findIn K (.ref C) "land" = some none)
    (tN2 : PySem.W.findIn K (.ref C) "free" = some none)
    (tN3 : PySem.W.findIn K (.ref C) "share" = some none)
    (tN4 : PySem.W.findIn K (.ref C) "_rates" = some none)
    (tMk : PySem.W.makesIn K C = true)
    (tKp : PySem.W.keepIn K (.ref C) = true)
    : ∃ fd : FuncData, (∀ (s : Shared) (v : Value), BindsTo s fd ⟨[v], []⟩ [("script", v)]) ∧ ∀ base : Heap, K.In base → base.Ns mainGlobals mg → FnOk l.prog w K mg base CX0 7 fa fd ["script"] (spLaw K) := by
  have e := hfa.symm.trans (PySem.W.mg_of X G a28)
  cases e
  have F1 := fun_mk (st := sMade) l1 c1 k1
  have b1 := F1.binds (ps := ["text", "signs", "most"]) fun _ _ _ _ _ _ us hl => match us, hl with | [_, _, _], _ => rfl
  have D1 : Dd K mg "made_of" sMade ["text", "signs", "most"] f1 _ := ⟨F1, b1, PySem.W.mg_of X G a1⟩
  have F2 := fun_mk (st := sSpells) l2 c2 k2
  have b2 := F2.binds (ps := ["text"]) fun _ _ _ _ _ _ us hl => match us, hl with | [_], _ => rfl
  have D2 : Dd K mg "spells_address" sSpells ["text"] f2 _ := ⟨F2, b2, PySem.W.mg_of X G a2⟩
  have F3 := fun_mk (st := sIsName) l3 c3 k3
  have b3 := F3.binds (ps := ["text"]) fun _ _ _ _ _ _ us hl => match us, hl with | [_], _ => rfl
  have D3 : Dd K mg "is_name" sIsName ["text"] f3 _ := ⟨F3, b3, PySem.W.mg_of X G a3⟩
  have F4 := fun_mk (st := sIsAddr) l4 c4 k4
  have b4 := F4.binds (ps := ["text"]) fun _ _ _ _ _ _ us hl => match us, hl with | [_], _ => rfl
  have D4 : Dd K mg "is_address" sIsAddr ["text"] f4 _ := ⟨F4, b4, PySem.W.mg_of X G a4⟩
  have F5 := fun_mk (st := sByLen) l5 c5 k5
  have b5 := F5.binds (ps := ["addresses"]) fun _ _ _ _ _ _ us hl => match us, hl with | [_], _ => rfl
  have D5 : Dd K mg "by_length" sByLen ["addresses"] f5 _ := ⟨F5, b5, PySem.W.mg_of X G a5⟩
  have F6 := fun_mk (st := sIsRow) l6 c6 k6
  have b6 := F6.binds (ps := ["prefix", "land", "rate"]) fun _ _ _ _ _ _ us hl => match us, hl with | [_, _, _], _ => rfl
  have D6 : Dd K mg "_is_row" sIsRow ["prefix", "land", "rate"] f6 _ := ⟨F6, b6, PySem.W.mg_of X G a6⟩
  have F7 := fun_mk (st := sFree) l7 c7 k7
  have b7 := F7.binds (ps := ["lands"]) fun _ _ _ _ _ _ us hl => match us, hl with | [_], _ => rfl
  have D7 : Dd K mg "_free_land" sFree ["lands"] f7 _ := ⟨F7, b7, PySem.W.mg_of X G a7⟩
  have F8 := fun_mk (st := sCell) l8 c8 k8
  have b8 := F8.binds (ps := ["script", "k"]) fun _ _ _ _ _ _ us hl => match us, hl with | [_, _], _ => rfl
  have D8 : Dd K mg "_law_cell" sCell ["script", "k"] f8 _ := ⟨F8, b8, PySem.W.mg_of X G a8⟩
  have F9 := fun_mk (st := sBox) l9 c9 k9
  have b9 := F9.binds (ps := ["script", "k"]) fun _ _ _ _ _ _ us hl => match us, hl with | [_, _], _ => rfl
  have D9 : Dd K mg "_law_box" sBox ["script", "k"] f9 _ := ⟨F9, b9, PySem.W.mg_of X G a9⟩
  have F10 := fun_mk (st := sDraw) l10 c10 k10
  have b10 := F10.binds (ps := ["box", "size"]) fun _ _ _ _ _ _ us hl => match us, hl with | [_, _], _ => rfl
  have D10 : Dd K mg "_law_draw" sDraw ["box", "size"] f10 _ := ⟨F10, b10, PySem.W.mg_of X G a10⟩
  have F11 := fun_mk (st := sDigits) l11 c11 k11
  have b11 := F11.binds (ps := ["box", "size"]) fun _ _ _ _ _ _ us hl => match us, hl with | [_, _], _ => rfl
  have D11 : Dd K mg "_law_digits" sDigits ["box", "size"] f11 _ := ⟨F11, b11, PySem.W.mg_of X G a11⟩
  have F12 := fun_mk (st := sName) l12 c12 k12
  have b12 := F12.binds (ps := ["box"]) fun _ _ _ _ _ _ us hl => match us, hl with | [_], _ => rfl
  have D12 : Dd K mg "_law_name" sName ["box"] f12 _ := ⟨F12, b12, PySem.W.mg_of X G a12⟩
  have F13 := fun_mk (st := sLands) l13 c13 k13
  have b13 := F13.binds (ps := ["box"]) fun _ _ _ _ _ _ us hl => match us, hl with | [_], _ => rfl
  have D13 : Dd K mg "_law_lands" sLands ["box"] f13 _ := ⟨F13, b13, PySem.W.mg_of X G a13⟩
  have F14 := fun_mk (st := sPrefix) l14 c14 k14
  have b14 := F14.binds (ps := ["box", "stem"]) fun _ _ _ _ _ _ us hl => match us, hl with | [_, _], _ => rfl
  have D14 : Dd K mg "_law_prefix" sPrefix ["box", "stem"] f14 _ := ⟨F14, b14, PySem.W.mg_of X G a14⟩
  have F15 := fun_mk (st := sPrice) l15 c15 k15
  have b15 := F15.binds (ps := ["box"]) fun _ _ _ _ _ _ us hl => match us, hl with | [_], _ => rfl
  have D15 : Dd K mg "_law_price" sPrice ["box"] f15 _ := ⟨F15, b15, PySem.W.mg_of X G a15⟩
  have F16 := fun_mk (st := sAdded) l16 c16 k16
  have b16 := F16.binds (ps := ["rows", "prefix", "land", "price"]) fun _ _ _ _ _ _ us hl => match us, hl with | [_, _, _, _], _ => rfl
  have D16 : Dd K mg "_law_added" sAdded ["rows", "prefix", "land", "price"] f16 _ := ⟨F16, b16, PySem.W.mg_of X G a16⟩
  have F17 := fun_mk (st := sLRows) l17 c17 k17
  have b17 := F17.binds (ps := ["box", "lands", "stem"]) fun _ _ _ _ _ _ us hl => match us, hl with | [_, _, _], _ => rfl
  have D17 : Dd K mg "_law_rows" sLRows ["box", "lands", "stem"] f17 _ := ⟨F17, b17, PySem.W.mg_of X G a17⟩
  have F18 := fun_mk (st := sLRate) l18 c18 k18
  have b18 := F18.binds (ps := ["rows", "heading", "land"]) fun _ _ _ _ _ _ us hl => match us, hl with | [_, _, _], _ => rfl
  have D18 : Dd K mg "_law_rate" sLRate ["rows", "heading", "land"] f18 _ := ⟨F18, b18, PySem.W.mg_of X G a18⟩
  have F19 := fun_mk (st := sLChg) l19 c19 k19
  have b19 := F19.binds (ps := ["box", "rows", "lands", "stem"]) fun _ _ _ _ _ _ us hl => match us, hl with | [_, _, _, _], _ => rfl
  have D19 : Dd K mg "_law_changed" sLChg ["box", "rows", "lands", "stem"] f19 _ := ⟨F19, b19, PySem.W.mg_of X G a19⟩
  have F20 := fun_mk (st := sFresh) l20 c20 k20
  have b20 := F20.binds (ps := ["names"]) fun _ _ _ _ _ _ us hl => match us, hl with | [_], _ => rfl
  have D20 : Dd K mg "_law_fresh" sFresh ["names"] f20 _ := ⟨F20, b20, PySem.W.mg_of X G a20⟩
  have F21 := fun_mk (st := sLPart) l21 c21 k21
  have b21 := F21.binds (ps := ["one", "other"]) fun _ _ _ _ _ _ us hl => match us, hl with | [_, _], _ => rfl
  have D21 : Dd K mg "_law_parting" sLPart ["one", "other"] f21 _ := ⟨F21, b21, PySem.W.mg_of X G a21⟩
  have F22 := fun_mk (st := sIsPair) l22 c22 k22
  have b22 := F22.binds (ps := ["told", "due"]) fun _ _ _ _ _ _ us hl => match us, hl with | [_, _], _ => rfl
  have D22 : Dd K mg "_law_is_pair" sIsPair ["told", "due"] f22 _ := ⟨F22, b22, PySem.W.mg_of X G a22⟩
  have F23 := fun_mk (st := sIsRate) l23 c23 k23
  have b23 := F23.binds (ps := ["told", "due"]) fun _ _ _ _ _ _ us hl => match us, hl with | [_, _], _ => rfl
  have D23 : Dd K mg "_law_is_rate" sIsRate ["told", "due"] f23 _ := ⟨F23, b23, PySem.W.mg_of X G a23⟩
  have F24 := fun_mk (st := sRowsAre) l24 c24 k24
  have b24 := F24.binds (ps := ["told", "rows"]) fun _ _ _ _ _ _ us hl => match us, hl with | [_, _], _ => rfl
  have D24 : Dd K mg "_law_rows_are" sRowsAre ["told", "rows"] f24 _ := ⟨F24, b24, PySem.W.mg_of X G a24⟩
  have F25 := fun_mk (st := sApart) l25 c25 k25
  have b25 := F25.binds (ps := ["box", "rows", "lands", "stem"]) fun _ _ _ _ _ _ us hl => match us, hl with | [_, _, _, _], _ => rfl
  have D25 : Dd K mg "_law_apart" sApart ["box", "rows", "lands", "stem"] f25 _ := ⟨F25, b25, PySem.W.mg_of X G a25⟩
  have F26 := fun_mk (st := sHeads) l26 c26 k26
  have b26 := F26.binds (ps := ["box", "rows", "stem"]) fun _ _ _ _ _ _ us hl => match us, hl with | [_, _, _], _ => rfl
  have D26 : Dd K mg "_law_headings" sHeads ["box", "rows", "stem"] f26 _ := ⟨F26, b26, PySem.W.mg_of X G a26⟩
  have F27 := fun_mk (st := sHolds) l27 c27 k27
  have b27 := F27.binds (ps := ["tariff", "rows", "heads", "names"]) fun _ _ _ _ _ _ us hl => match us, hl with | [_, _, _, _], _ => rfl
  have D27 : Dd K mg "_law_rates_hold" sHolds ["tariff", "rows", "heads", "names"] f27 _ := ⟨F27, b27, PySem.W.mg_of X G a27⟩
  have F28 := fun_mk (st := sLaw) l28 c28 k28
  have FmTr := fun_mk (st := sTRate) lmTr cmTr kmTr
  have bmTr := FmTr.binds (ps := ["self", "heading", "origin"]) fun _ _ _ _ _ _ us hl => match us, hl with | [_, _, _], _ => rfl
  have FmTp := fun_mk (st := sTPart) lmTp cmTp kmTp
  have bmTp := FmTp.binds (ps := ["self", "other"]) fun _ _ _ _ _ _ us hl => match us, hl with | [_, _], _ => rfl
  have FmR := fun_mk (st := sTRows) lmR cmR kmR
  have bmR := FmR.binds (ps := ["self"]) fun _ _ _ _ _ _ us hl => match us, hl with | [_], _ => rfl
  refine ⟨PySem.W.fnOf "law" "law" (defArgs sLaw) (defBody sLaw) (defScope sLaw) .none kV28 dc28 pm28 an28 cd28 ct28, fun s v => .of_eq rfl, fun base _ _ => ?_⟩
  have B : Blt mg := ⟨PySem.W.mg_none_of X G z_len, PySem.W.mg_none_of X G z_int, PySem.W.mg_none_of X G z_str, PySem.W.mg_none_of X G z_list, PySem.W.mg_none_of X G z_tuple, PySem.W.mg_none_of X G z_dict, PySem.W.mg_none_of X G z_bool, PySem.W.mg_none_of X G z_range, PySem.W.mg_none_of X G z_sorted, PySem.W.mg_none_of X G z_all, PySem.W.mg_none_of X G z_isinstance, ⟨_, PySem.W.mg_of X G gDG⟩, ⟨_, PySem.W.mg_of X G gLT⟩, ⟨_, PySem.W.mg_of X G gHR⟩, PySem.W.mg_none_of X G z_sum, PySem.W.mg_none_of X G z_set, PySem.W.mg_of X G gBR⟩
  have TC : TCls K C := ⟨⟨tPg, tHd, tPo, tSa⟩, tN1, tN2, tN3, tN4⟩
  have FK : FunK K mTI _ := ⟨⟨ocTI, odTI, .none, .ref KD, dcTI, pmTI, anTI, cdTI, ctTI, slTI, rfl, lTI, cTI, .inl ⟨rfl, rfl⟩, .inr ⟨KD, rfl, fun q hq => by
    rcases List.mem_cons.mp hq with rfl | hq
    · exact ⟨_, dF, tk0, rfl⟩
    · rw [List.mem_singleton.mp hq]
      exact ⟨_, dS, tk1, rfl⟩⟩⟩, kTI⟩
  have cIsAddr : C1 l.prog w K mg base "is_address" sIsAddr ["text"] 3 (spT isAddr) _ _ := ⟨D4, ok_isAddr D4.F D2 D1 B⟩
  have cIsName : C1 l.prog w K mg base "is_name" sIsName ["text"] 2 (spT isName) _ _ := ⟨D3, ok_isName D3.F D1 B⟩
  have cByLen : C1 l.prog w K mg base "by_length" sByLen ["addresses"] 1 (spByLen K) _ _ := ⟨D5, ok_bylen D5.F B B.set⟩
  have cIsRow : C1 l.prog w K mg base "_is_row" sIsRow ["prefix", "land", "rate"] 4 (spIsRow) _ _ := ⟨D6, ok_isrow D6.F B cIsAddr cIsName⟩
  have cFree : C1 l.prog w K mg base "_free_land" sFree ["lands"] 1 (spFree) _ _ := ⟨D7, ok_free D7.F B⟩
  have GTI : FnOk l.prog w K mg base CX0 5 mTI _ ["self", "land", "rows", "free", "share"] (spTInit C) := ok_tinit FK B TC cIsName cIsRow
  have MK : Mk K C mTI := ⟨tMk, tI, nTI, tKp⟩
  have TK : TarK l.prog w K mg base C := ⟨TC, ⟨_, _, _, ⟨tR, tRg, tRt, ⟨_, tRr⟩⟩, bmR, ok_trows FmR B TC⟩, ⟨_, _, ⟨tTr, nTr, kmTr⟩, bmTr, ok_trate FmTr B TC⟩⟩
  have GTP : FnOk l.prog w K mg base CX0 3 mTp _ ["self", "other"] (spTPart C) := ok_tpart FmTp B TK cByLen cFree
  have cLBox : C1 l.prog w K mg base "_law_box" sBox ["script", "k"] 2 (spBox K) _ _ := ⟨D9, ok_box D9.F D8 B⟩
  have cDraw : C1 l.prog w K mg base "_law_draw" sDraw ["box", "size"] 1 (spDraw) _ _ := ⟨D10, ok_draw D10.F B⟩
  have cDigits : C1 l.prog w K mg base "_law_digits" sDigits ["box", "size"] 2 (spDigits) _ _ := ⟨D11, ok_digits D11.F cDraw B⟩
  have cName : C1 l.prog w K mg base "_law_name" sName ["box"] 2 (spName) _ _ := ⟨D12, ok_name D12.F cDraw B⟩
  have cLands : C1 l.prog w K mg base "_law_lands" sLands ["box"] 3 (spLands) _ _ := ⟨D13, ok_lands D13.F cDraw cName⟩
  have cPrefix : C1 l.prog w K mg base "_law_prefix" sPrefix ["box", "stem"] 3 (spPrefix) _ _ := ⟨D14, ok_prefix D14.F cDraw cDigits⟩
  have cPrice : C1 l.prog w K mg base "_law_price" sPrice ["box"] 2 (spPrice) _ _ := ⟨D15, ok_price D15.F cDraw⟩
  have cAdded : C1 l.prog w K mg base "_law_added" sAdded ["rows", "prefix", "land", "price"] 1 (spAdded) _ _ := ⟨D16, ok_added D16.F B⟩
  have cLRows : C1 l.prog w K mg base "_law_rows" sLRows ["box", "lands", "stem"] 4 (spLRows) _ _ := ⟨D17, ok_lrows D17.F B cDraw cPrefix cPrice cAdded⟩
  have cLRate : C1 l.prog w K mg base "_law_rate" sLRate ["rows", "heading", "land"] 1 (spLRate) _ _ := ⟨D18, ok_lrate D18.F B⟩
  have cLChg : C1 l.prog w K mg base "_law_changed" sLChg ["box", "rows", "lands", "stem"] 4 (spLChg) _ _ := ⟨D19, ok_lchg D19.F B cDraw cPrefix cPrice cAdded cLRate⟩
  have cFresh : C1 l.prog w K mg base "_law_fresh" sFresh ["names"] 1 (spFresh) _ _ := ⟨D20, ok_fresh D20.F⟩
  have cLPart : C1 l.prog w K mg base "_law_parting" sLPart ["one", "other"] 2 (spLPart) _ _ := ⟨D21, ok_lpart D21.F B cFresh cLRate⟩
  have cIsPair : C1 l.prog w K mg base "_law_is_pair" sIsPair ["told", "due"] 1 (spIsPair) _ _ := ⟨D22, ok_ispair D22.F B⟩
  have cIsRate : C1 l.prog w K mg base "_law_is_rate" sIsRate ["told", "due"] 1 (spIsRate) _ _ := ⟨D23, ok_israte D23.F B⟩
  have cRowsAre : C1 l.prog w K mg base "_law_rows_are" sRowsAre ["told", "rows"] 2 (spRowsAre) _ _ := ⟨D24, ok_rowsare D24.F B cIsPair cIsRate⟩
  have cApart : C1 l.prog w K mg base "_law_apart" sApart ["box", "rows", "lands", "stem"] 4 (spApart) _ _ := ⟨D25, ok_apart D25.F B cDraw cPrefix cLRate⟩
  have cHeads : C1 l.prog w K mg base "_law_headings" sHeads ["box", "rows", "stem"] 3 (spHeads) _ _ := ⟨D26, ok_heads D26.F B cDraw cDigits⟩
  have cHolds : C1 l.prog w K mg base "_law_rates_hold" sHolds ["tariff", "rows", "heads", "names"] 4 (spHolds C) _ _ := ⟨D27, ok_holds D27.F TK cIsRate cLRate cRowsAre⟩
  exact ok_law F28 B ⟨⟨_, _, cLBox⟩, ⟨_, _, cDraw⟩, ⟨_, _, cDigits⟩, ⟨_, _, cName⟩, ⟨_, _, cLands⟩, ⟨_, _, cLRows⟩, ⟨_, _, cLChg⟩, ⟨_, _, cLPart⟩, ⟨_, _, cIsPair⟩, ⟨_, _, cHeads⟩, ⟨_, _, cFresh⟩, ⟨_, _, cHolds⟩, ⟨_, _, cApart⟩, TC, PySem.W.mg_of X G aT, ⟨_, _, MK, FK, GTI⟩, ⟨_, _, ⟨tTp, nTp, kmTp⟩, bmTp, GTP⟩⟩
end Tb
open PySem PySem.W PyProof.Rows
set_option maxRecDepth 100000 in
set_option maxHeartbeats 0 in
theorem PySem.Challenge.cw_everyparcel_k14_whole_rates_part_holds : PySem.Challenge.rw_everyparcel_k14_whole_rates_part.Holds := by
  w_on; o_law; k_head; (case hw => w_witness2)
  k_fill
  refine L2.walk_of (l := PySem.Challenge.rw_everyparcel_k14_whole_rates_part) (n := 63) (k := 7) (x := "script") (CX := fun _ => L2.CX0) (sp := fun w => Tb.spLaw _) rfl (by decide) rfl ⟨rfl, by decide, by decide⟩ (fun w h Y => PySem.W.kIn_of Y) ?F (fun _ _ a ns hl _ hS => ⟨a, ns, rfl, hS, fun _ => rfl⟩) (fun _ _ _ _ _ h => h)
  case F =>
    intro w mg fa h KX G hmg
    refine' Tb.all_mk KX G hmg ?a1 ?l1 ?c1 ?k1 ?a2 ?l2 ?c2 ?k2 ?a3 ?l3 ?c3 ?k3 ?a4 ?l4 ?c4 ?k4 ?a5 ?l5 ?c5 ?k5 ?a6 ?l6 ?c6 ?k6 ?a7 ?l7 ?c7 ?k7 ?a8 ?l8 ?c8 ?k8 ?a9 ?l9 ?c9 ?k9 ?a10 ?l10 ?c10 ?k10 ?a11 ?l11 ?c11 ?k11 ?a12 ?l12 ?c12 ?k12 ?a13 ?l13 ?c13 ?k13 ?a14 ?l14 ?c14 ?k14 ?a15 ?l15 ?c15 ?k15 ?a16 ?l16 ?c16 ?k16 ?a17 ?l17 ?c17 ?k17 ?a18 ?l18 ?c18 ?k18 ?a19 ?l19 ?c19 ?k19 ?a20 ?l20 ?c20 ?k20 ?a21 ?l21 ?c21 ?k21 ?a22 ?l22 ?c22 ?k22 ?a23 ?l23 ?c23 ?k23 ?a24 ?l24 ?c24 ?k24 ?a25 ?l25 ?c25 ?k25 ?a26 ?l26 ?c26 ?k26 ?a27 ?l27 ?c27 ?k27 ?a28 ?l28 ?c28 ?k28 ?z_len ?z_int ?z_str ?z_list ?z_tuple ?z_dict ?z_bool ?z_range ?z_sorted ?z_all ?z_isinstance ?z_sum ?z_set ?gDG ?gLT ?gHR ?gBR ?aT ?tI ?lTI ?cTI ?kTI ?nTI ?dF ?dS ?tTr ?lmTr ?cmTr ?kmTr ?nTr ?tTp ?lmTp ?cmTp ?kmTp ?nTp ?tR ?tRg ?tRt ?tRr ?lmR ?cmR ?kmR ?tPg ?tHd ?tPo ?tSa ?tN1 ?tN2 ?tN3 ?tN4 ?tMk ?tKp
    (case a1 => k_is); (case l1 => k_is); (case c1 => k_is); (case k1 => k_is); (case a2 => k_is); (case l2 => k_is); (case c2 => k_is); (case k2 => k_is)
    (case a3 => k_is); (case l3 => k_is); (case c3 => k_is); (case k3 => k_is); (case a4 => k_is); (case l4 => k_is); (case c4 => k_is); (case k4 => k_is)
    (case a5 => k_is); (case l5 => k_is); (case c5 => k_is); (case k5 => k_is); (case a6 => k_is); (case l6 => k_is); (case c6 => k_is); (case k6 => k_is)
    (case a7 => k_is); (case l7 => k_is); (case c7 => k_is); (case k7 => k_is); (case a8 => k_is); (case l8 => k_is); (case c8 => k_is); (case k8 => k_is)
    (case a9 => k_is); (case l9 => k_is); (case c9 => k_is); (case k9 => k_is); (case a10 => k_is); (case l10 => k_is); (case c10 => k_is); (case k10 => k_is)
    (case a11 => k_is); (case l11 => k_is); (case c11 => k_is); (case k11 => k_is); (case a12 => k_is); (case l12 => k_is); (case c12 => k_is); (case k12 => k_is)
    (case a13 => k_is); (case l13 => k_is); (case c13 => k_is); (case k13 => k_is); (case a14 => k_is); (case l14 => k_is); (case c14 => k_is); (case k14 => k_is)
    (case a15 => k_is); (case l15 => k_is); (case c15 => k_is); (case k15 => k_is); (case a16 => k_is); (case l16 => k_is); (case c16 => k_is); (case k16 => k_is)
    (case a17 => k_is); (case l17 => k_is); (case c17 => k_is); (case k17 => k_is); (case a18 => k_is); (case l18 => k_is); (case c18 => k_is); (case k18 => k_is)
    (case a19 => k_is); (case l19 => k_is); (case c19 => k_is); (case k19 => k_is); (case a20 => k_is); (case l20 => k_is); (case c20 => k_is); (case k20 => k_is)
    (case a21 => k_is); (case l21 => k_is); (case c21 => k_is); (case k21 => k_is); (case a22 => k_is); (case l22 => k_is); (case c22 => k_is); (case k22 => k_is)
    (case a23 => k_is); (case l23 => k_is); (case c23 => k_is); (case k23 => k_is); (case a24 => k_is); (case l24 => k_is); (case c24 => k_is); (case k24 => k_is)
    (case a25 => k_is); (case l25 => k_is); (case c25 => k_is); (case k25 => k_is); (case a26 => k_is); (case l26 => k_is); (case c26 => k_is); (case k26 => k_is)
    (case a27 => k_is); (case l27 => k_is); (case c27 => k_is); (case k27 => k_is); (case a28 => k_is); (case l28 => k_is); (case c28 => k_is); (case k28 => k_is)
    (case z_len => k_is); (case z_int => k_is); (case z_str => k_is); (case z_list => k_is); (case z_tuple => k_is); (case z_dict => k_is); (case z_bool => k_is); (case z_range => k_is)
    (case z_sorted => k_is); (case z_all => k_is); (case z_isinstance => k_is); (case z_sum => k_is); (case z_set => k_is); (case gDG => k_is); (case gLT => k_is); (case gHR => k_is)
    (case gBR => k_is); (case aT => k_is); (case tI => k_is); (case lTI => k_is); (case cTI => k_is); (case kTI => k_is); (case nTI => k_is); (case dF => k_is)
    (case dS => k_is); (case tTr => k_is); (case lmTr => k_is); (case cmTr => k_is); (case kmTr => k_is); (case nTr => k_is); (case tTp => k_is); (case lmTp => k_is)
    (case cmTp => k_is); (case kmTp => k_is); (case nTp => k_is); (case tR => k_is); (case tRg => k_is); (case tRt => k_is); (case tRr => k_is); (case lmR => k_is)
    (case cmR => k_is); (case kmR => k_is); (case tPg => k_is); (case tHd => k_is); (case tPo => k_is); (case tSa => k_is); (case tN1 => k_is); (case tN2 => k_is)
    (case tN3 => k_is); (case tN4 => k_is); (case tMk => k_is); (case tKp => k_is)
