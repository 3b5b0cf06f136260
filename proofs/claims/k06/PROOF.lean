import PyProof.Rows.All
import Wide.All
import OpenK.AllK
import Wide.FinOn
import HandS.TupSets
import KE.SortData
import KE.KDictKeyed
import HandS.ForMost
import PyProof.Transfer
import HandS.Wide
import HandS.StrMore
import HandS.IsInst
import HandS.Codes
import HandS.Walk
import HandS.More
import HandS.Conv
import HandS.DictComp
import HandS.ListItems
import HandS.Property
import HandS.Star
import HandS.Exc
import HandS.TryOnly
import HandS.TryMany
import HandS.ExcOwn
import HandS.WordsExc
import HandS.ExcInit
import HandS.ExcField
import HandS.ExcIs
import HandS.RaiseMore
import KE.KItemsList
import KE.KExcIs
import KE.KDictList
import HandS.SetKeys
import HandS.Style
import KE.DataCmp
import HandS.Finally
import PySem.Challenge.RW_everyparcel_k06_lanes_and_paths_of_a_sor
set_option Elab.async false
set_option linter.all false
set_option maxRecDepth 100000
/-! sets of any heap keys: the table, up to 512 slots -/
namespace SH
open PySem PySem.Spec PyProof.Rows L2
/-- 1 + 5 + 25 + .. -/
def geo : Nat → Nat
  | 0 => 0
  | k + 1 => geo k * 5 + 1
theorem geo_pow : ∀ k, 5 ^ k = 4 * geo k + 1
  | 0 => rfl
  | k + 1 => by
    rw [Nat.pow_succ, geo_pow k]
    show (4 * geo k + 1) * 5 = 4 * (geo k * 5 + 1) + 1
    omega
theorem lcg_geo (m : Nat) : ∀ k, lcgN m k = geo k % (m + 1)
  | 0 => (Nat.zero_mod _).symm
  | k + 1 => by
    show (lcgN m k * 5 + 1) % (m + 1) = (geo k * 5 + 1) % (m + 1)
    rw [lcg_geo m k, Nat.add_mod, Nat.mod_mul_mod, ← Nat.add_mod]
theorem geo_eq (k : Nat) : geo k = (5 ^ k - 1) / 4 := by
  have := geo_pow k
  omega
/-- the step at which the slot j comes, bit by bit -/
def stepOf (j : Nat) : Nat := (List.range 9).foldl (fun b i => if 5 ^ b % 2 ^ (i + 3) = (4 * j + 1) % 2 ^ (i + 3) then b else b + 2 ^ i) 0
theorem steps512 : ((List.range 512).all fun j => decide (stepOf j ≤ 511 ∧ (5 ^ stepOf j - 1) / 4 % 512 = j)) = true := by decide +kernel
/-- soon enough each slot begins a run -/
def Meets (m : Nat) : Prop := ∀ (g : Int) (j : Nat), j ≤ m → ∃ n, n ≤ m + 12 ∧ runI m (SetTable.bits g) n = j
theorem meets_of {m : Nat} (all : ∀ j, j ≤ m → ∃ b, b ≤ m ∧ lcgN m b = j) (round : lcgN m (m + 1) = 0) : Meets m := by
  have per : ∀ k, lcgN m (m + 1 + k) = lcgN m k := by
    intro k
    induction k with
    | zero => exact round
    | succ k ih => exact congrArg (fun x => (x * 5 + 1) % (m + 1)) ih
  intro g j hj
  obtain ⟨a, ha, ea⟩ := all _ (runI_le m (SetTable.bits g) 12)
  obtain ⟨b, hb, eb⟩ := all j hj
  have key : ∀ k, lcgN m (a + k) = j → runI m (SetTable.bits g) (12 + k) = j := fun k e => by
    rw [runI_tail (bits_lt g), ← ea, lcgN_add, e]
  by_cases c : a ≤ b
  · exact ⟨12 + (b - a), by omega, key _ (by rw [show a + (b - a) = b by omega, eb])⟩
  · exact ⟨12 + (m + 1 + b - a), by omega, key _ (by rw [show a + (m + 1 + b - a) = m + 1 + b by omega, per, eb])⟩
theorem meets511 : Meets 511 := by
  refine meets_of (fun j hj => ?_) ?_
  · have h := List.all_eq_true.mp steps512 j (List.mem_range.mpr (by omega))
    rw [decide_eq_true_eq] at h
    exact ⟨stepOf j, h.1, by rw [lcg_geo, geo_eq]; exact h.2⟩
  · rw [lcg_geo, geo_eq]
    decide +kernel
/-- the masks that come with fewer than 300 members -/
def Mk (m : Nat) : Prop := MaskOk m ∨ m = 511
theorem Mk.meets {m : Nat} (h : Mk m) : Meets m := by
  rcases h with h | rfl
  · exact fun g j hj => run_meets h g hj
  · exact meets511
theorem Mk.odd {m : Nat} (h : Mk m) : m % 2 = 1 := by
  rcases h with h | rfl
  · exact mask_odd h
  · rfl
theorem Mk.cases {m : Nat} (h : Mk m) : m = 7 ∨ m = 31 ∨ m = 127 ∨ m = 511 := by
  rcases h with (h | h | h) | h
  · exact .inl h
  · exact .inr (.inl h)
  · exact .inr (.inr (.inl h))
  · exact .inr (.inr (.inr h))
theorem way_in (m : Nat) (g : Int) (k : Nat) : way m g k ≤ m := by
  have r := runEnd_bd (Nat.le_of_lt_succ (Nat.mod_lt (SetTable.bits g) (Nat.succ_pos m)))
  have q := nth_in (m := m) k (runAt m (SetTable.bits g % (m + 1)) (SetTable.bits g)) (by
    show SetTable.bits g % (m + 1) + (SetTable.runEnd m (SetTable.bits g % (m + 1)) - SetTable.bits g % (m + 1)) ≤ m
    rw [Nat.add_sub_cancel' r.2.1]
    exact r.1)
  exact Nat.le_trans (Nat.le_add_right _ _) q
theorem way_meets {m : Nat} (hm : Meets m) (g : Int) {j : Nat} (hj : j ≤ m) : ∃ k, k < 10 * SetTable.turns m ∧ way m g k = j := by
  obtain ⟨n, hn, e⟩ := hm g j hj
  obtain ⟨k, hk, e2⟩ := run_nth m (SetTable.bits g) n
  exact ⟨k, by unfold SetTable.turns; omega, (congrArg SetTable.Probe.j e2).trans e⟩
/-- each member is found again from its hash gs -/
structure TabM (t : SetTable) (gs : List Int) : Prop where
  up : Ris t.place.toList
  no : t.dummies = #[]
  n : t.place.size = gs.length
  msk : Mk t.mask
  le : ∀ x, x ∈ t.place.toList → x ≤ t.mask
  at' : ∀ (i : Nat) (g : Int) (j : Nat), gs[i]? = some g → t.place.toList[i]? = some j → ∃ k, way t.mask g k = j ∧ ∀ c, c < k → way t.mask g c ∈ t.place.toList
section
variable {t : SetTable} {gs : List Int}
theorem TabM.len (T : TabM t gs) : t.place.toList.length = gs.length := (Array.length_toList).trans T.n
theorem TabM.gap (T : TabM t gs) (hl : gs.length ≤ t.mask) (g : Int) : ∃ K, K < 10 * SetTable.turns t.mask ∧ way t.mask g K ∉ t.place.toList ∧ ∀ c, c < K → way t.mask g c ∈ t.place.toList := by
  obtain ⟨j, hj, hn⟩ := st_missing t.place.toList (t.mask + 1) (by rw [T.len]; omega)
  obtain ⟨k, hk, e⟩ := way_meets T.msk.meets g (Nat.le_of_lt_succ hj)
  obtain ⟨K, h1, h2, h3⟩ := st_least (p := fun c => way t.mask g c ∉ t.place.toList) k (fun z => hn (e ▸ z))
  exact ⟨K, Nat.lt_of_le_of_lt h1 hk, h2, fun c hc => Classical.not_not.mp (h3 c hc)⟩
theorem TabM.ahead (T : TabM t gs) {g : Int} {K i j : Nat} (hK : way t.mask g K ∉ t.place.toList) (hi : gs[i]? = some g) (hj : t.place.toList[i]? = some j) : ∃ k, k < K ∧ way t.mask g k = j := by
  obtain ⟨k, e, hb⟩ := T.at' i g j hi hj
  refine ⟨k, Nat.lt_of_not_le fun z => ?_, e⟩
  rcases Nat.lt_or_eq_of_le z with c | c
  · exact hK (hb K c)
  · exact hK (c ▸ e ▸ List.mem_of_getElem? hj)
theorem TabM.put (T : TabM t gs) {g : Int} {K : Nat} (hK : way t.mask g K ∉ t.place.toList) (hb : ∀ c, c < K → way t.mask g c ∈ t.place.toList) :
    SetTable.below t.place (way t.mask g K) ≤ gs.length ∧ TabM (t.put (way t.mask g K)).1 (gs.take (SetTable.below t.place (way t.mask g K)) ++ g :: gs.drop (SetTable.below t.place (way t.mask g K))) ∧ (t.put (way t.mask g K)).1.fill = gs.length + 1 := by
  have hin := way_in t.mask g K
  generalize hj : way t.mask g K = j at hK hin ⊢
  obtain ⟨c1, _, _⟩ := below_cut T.up j
  have b1 : SetTable.below t.place j ≤ t.place.toList.length := by rw [Array.length_toList]; exact c1
  have b2 : SetTable.below t.place j ≤ gs.length := T.len ▸ b1
  have pp := put_place t j
  have sz : (t.put j).1.place.size = gs.length + 1 := by rw [← Array.length_toList, pp, len_ins _ b1, T.len]
  have sub : ∀ x, x ∈ t.place.toList → x ∈ (t.put j).1.place.toList := fun x hx => by
    rw [pp]
    exact mem_ins.mpr (.inr hx)
  have pd := put_dm T.no j
  refine ⟨b2, ⟨ris_insert T.up fun e => hK (List.mem_of_getElem? (i := SetTable.below t.place j) (by rw [Array.getElem?_toList]; exact e)), pd, by rw [len_ins _ b2, sz], T.msk, fun x hx => ?_, fun i g' j' e1 e2 => ?_⟩, ?_⟩
  · rw [pp] at hx
    rcases mem_ins.mp hx with z | z
    · exact z ▸ hin
    · exact T.le x z
  · rw [tins_get gs b2] at e1
    rw [pp, tins_get _ b1] at e2
    have old : ∀ i', gs[i']? = some g' → t.place.toList[i']? = some j' → ∃ k, way t.mask g' k = j' ∧ ∀ c, c < k → way t.mask g' c ∈ (t.put j).1.place.toList := fun i' z1 z2 => by
      obtain ⟨k, e, z⟩ := T.at' i' g' j' z1 z2
      exact ⟨k, e, fun c hc => sub _ (z c hc)⟩
    by_cases lo : i < SetTable.below t.place j
    · rw [if_pos lo] at e1 e2
      exact old i e1 e2
    · rw [if_neg lo] at e1 e2
      by_cases eq : i = SetTable.below t.place j
      · rw [if_pos eq] at e1 e2
        cases e1
        cases e2
        exact ⟨K, hj, fun c hc => sub _ (hb c hc)⟩
      · rw [if_neg eq] at e1 e2
        exact old (i - 1) e1 e2
  · show (t.put j).1.place.size + (t.put j).1.dummies.size = _
    rw [sz, pd]
    rfl
end
/-! laying anew -/
theorem free_way {m : Nat} (hm : Meets m) (ow : Array (Option Nat)) (g : Int) {j : Nat} (hj : j ≤ m) (hf : oAt ow j = none) :
    ∃ K, SetTable.layClean.free m ow (SetTable.turns m) (SetTable.bits g % (m + 1)) (SetTable.bits g) = some (way m g K) ∧ oAt ow (way m g K) = none ∧ ∀ c, c < K → oAt ow (way m g c) ≠ none := by
  obtain ⟨n, hn, e⟩ := hm g j hj
  have hw : way m g (off m (SetTable.bits g % (m + 1)) (SetTable.bits g) n) = j := by
    show (nth m (runAt m _ _) _).j = j
    rw [nth_off, itL_run]
    exact e
  obtain ⟨K, k1, k2, k3⟩ := st_least (p := fun c => oAt ow (way m g c) = none) _ (show oAt ow (way m g (off m (SetTable.bits g % (m + 1)) (SetTable.bits g) n)) = none by rw [hw]; exact hf)
  refine ⟨K, free_spec m ow _ n _ _ K (by unfold SetTable.turns; omega) k1 (fun c hc => ?_) (by rw [show oAt ow (nth m _ K).j = none from k2]; rfl), k2, k3⟩
  cases z : oAt ow (nth m (runAt m (SetTable.bits g % (m + 1)) (SetTable.bits g)) c).j with
  | none => exact absurd z (k3 c hc)
  | some _ => rfl
theorem own_next {m : Nat} (hm : Meets m) {done : List Int} {ow : Array (Option Nat)} (W : Own m done ow) (hl : done.length ≤ m) (g : Int) :
    ∃ j, SetTable.layClean.free m ow (SetTable.turns m) (SetTable.bits g % (m + 1)) (SetTable.bits g) = some j ∧ Own m (done ++ [g]) (ow.setIfInBounds j (some done.length)) := by
  obtain ⟨ps, hps, hin⟩ := W.ps
  obtain ⟨j0, h0, hn0⟩ := st_missing ps (m + 1) (hps ▸ Nat.lt_succ_of_le hl)
  obtain ⟨K, e1, e2, e3⟩ := free_way hm ow g (Nat.le_of_lt_succ h0) (Classical.byContradiction fun z => hn0 (hin j0 (Nat.le_of_lt_succ h0) z))
  have hjm := way_in m g K
  generalize hj : way m g K = j at e1 e2 hjm
  have hjs : j < ow.size := by rw [W.sz]; omega
  have self := oAt_set_self (some done.length) hjs
  have up : ∀ i, oAt ow i ≠ none → oAt (ow.setIfInBounds j (some done.length)) i ≠ none := fun i hi => by
    by_cases c : i = j
    · rw [c, self]
      exact Option.some_ne_none _
    · rw [oAt_set_ne _ c]
      exact hi
  refine ⟨j, e1, by rw [Array.size_setIfInBounds]; exact W.sz, fun i k hi e => ?_, fun k hk => ?_, j :: ps, by simp [hps], fun i hi e => ?_⟩
  · by_cases c : i = j
    · rw [c, self] at e
      cases e
      exact ⟨g, K, by rw [List.getElem?_append_right (Nat.le_refl _), Nat.sub_self]; rfl, hj.trans c.symm, fun c' hc' => up _ (e3 c' hc')⟩
    · rw [oAt_set_ne _ c] at e
      obtain ⟨g', K', a1, a2, a3⟩ := W.at_ i k hi e
      exact ⟨g', K', by rw [List.getElem?_append_left (List.getElem?_eq_some_iff.mp a1).1]; exact a1, a2, fun c' hc' => up _ (a3 c' hc')⟩
  · by_cases c : k = done.length
    · exact ⟨j, hjm, c ▸ self⟩
    · rw [List.length_append] at hk
      obtain ⟨i, hi, e⟩ := W.all k (by simp at hk; omega)
      exact ⟨i, hi, by rw [oAt_set_ne _ (fun z => by rw [z, e2] at e; cases e)]; exact e⟩
  · by_cases c : i = j
    · exact c ▸ List.mem_cons_self
    · rw [oAt_set_ne _ c] at e
      exact List.mem_cons_of_mem _ (hin i hi e)
theorem lay_fold {m : Nat} (hm : Meets m) : ∀ (more done : List Int) (ow : Array (Option Nat)), Own m done ow → done.length + more.length ≤ m → ∃ ow', more.foldl (stepF m) (some (ow, done.length)) = some (ow', (done ++ more).length) ∧ Own m (done ++ more) ow'
  | [], done, ow, W, _ => by
    rw [List.append_nil]
    exact ⟨ow, rfl, W⟩
  | g :: more, done, ow, W, hl => by
    have hl2 : done.length + (more.length + 1) ≤ m := hl
    obtain ⟨j, e, W'⟩ := own_next hm W (by omega) g
    have q := lay_fold hm more (done ++ [g]) _ W' (by rw [List.length_append]; show done.length + 1 + more.length ≤ m; omega)
    rw [List.append_assoc, List.length_append] at q
    obtain ⟨ow', f, W2⟩ := q
    refine ⟨ow', ?_, W2⟩
    rw [List.foldl_cons, stepF_some (k := done.length) e]
    exact f
theorem lay_clean {m : Nat} (hm : Meets m) {hs : Array Int} (hn : hs.size ≤ m) : ∃ ow, SetTable.layClean m hs = some ow ∧ Own m hs.toList ow := by
  obtain ⟨ow, f, W⟩ := lay_fold hm hs.toList [] _ (Own.init m) (by show 0 + hs.toList.length ≤ m; rw [Array.length_toList]; omega)
  exact ⟨ow, by rw [layClean_eq, show hs.toList.foldl (stepF m) (some (Array.replicate (m + 1) none, 0)) = _ from f]; rfl, W⟩
theorem relaid_tab (t : SetTable) {hs : Array Int} {wanted M : Nat} (hw : SetTable.sizeAbove wanted - 1 = M) (hM : Mk M) (hn : hs.size ≤ M) :
    ∃ t' order, t.relaid hs wanted = some (t', order) ∧ order.toList.Perm (List.range hs.size) ∧ TabM t' (order.toList.map fun i => hs.getD i 0) ∧ t'.mask = M ∧ t'.led = t.led := by
  obtain ⟨ow, e, W⟩ := lay_clean hM.meets hn
  have er : t.relaid hs wanted = some (tabOf t M ow, ((liveOf M ow).map (·.2)).toArray) := by
    rw [relaid_eq, hw, e]
    rfl
  have rr := ris_live (fun j => ow.getD j none) (List.range (M + 1)) (by unfold Ris; exact List.pairwise_lt_range)
  have r1 : Ris ((liveOf M ow).map (·.1)) := rr.1
  have r2 : ∀ x ∈ (liveOf M ow).map (·.1), x ∈ List.range (M + 1) := rr.2
  have hz : hs.toList.length = hs.size := Array.length_toList
  have hlen : (liveOf M ow).length = hs.size := by
    obtain ⟨ps, p1, p2⟩ := W.ps
    have a : ((liveOf M ow).map (·.1)).length ≤ ps.length := nat_nodup_len _ ps (List.Pairwise.imp (fun h => Nat.ne_of_lt h) r1) fun x hx => by
      obtain ⟨⟨y, k⟩, hq, rfl⟩ := List.mem_map.mp hx
      have ⟨b1, b2⟩ := (mem_live W.sz).mp hq
      exact p2 y b1 (by rw [b2]; exact Option.some_ne_none _)
    have b : (List.range hs.size).length ≤ ((liveOf M ow).map (·.2)).length := nat_nodup_len _ _ List.nodup_range fun k hk => by
      obtain ⟨j, b1, b2⟩ := W.all k (by rw [hz]; exact List.mem_range.mp hk)
      exact List.mem_map.mpr ⟨_, (mem_live W.sz).mpr ⟨b1, b2⟩, rfl⟩
    rw [List.length_map] at a b
    rw [List.length_range] at b
    omega
  refine ⟨_, _, er, perm_range hs.size _ (by simpa using hlen) fun k hk => ?_, ⟨r1, rfl, by simp [tabOf], hM, fun x hx => Nat.le_of_lt_succ (List.mem_range.mp (r2 x hx)), fun i g j h1 h2 => ?_⟩, rfl, rfl⟩
  · obtain ⟨j, b1, b2⟩ := W.all k (by rw [hz]; exact hk)
    exact List.mem_map.mpr ⟨_, (mem_live W.sz).mpr ⟨b1, b2⟩, rfl⟩
  · have z1 : (((liveOf M ow).map (·.2)).map fun i => hs.getD i 0)[i]? = some g := h1
    have z2 : ((liveOf M ow).map (·.1))[i]? = some j := h2
    rw [List.getElem?_map, List.getElem?_map] at z1
    rw [List.getElem?_map] at z2
    cases hq : (liveOf M ow)[i]? with
    | none =>
      rw [hq] at z2
      cases z2
    | some q =>
      rw [hq] at z1 z2
      cases z2
      have ⟨b1, b2⟩ := (mem_live W.sz).mp (List.mem_of_getElem? hq)
      obtain ⟨g0, K, a1, a2, a3⟩ := W.at_ q.1 q.2 b1 b2
      have eg : g0 = g := by
        have u : hs.getD q.2 0 = g := Option.some.inj z1
        rw [Array.getD_eq_getD_getElem?, ← Array.getElem?_toList, a1] at u
        exact u
      subst eg
      refine ⟨K, a2, fun c hc => ?_⟩
      show way M g0 c ∈ (liveOf M ow).map (·.1)
      cases z : oAt ow (way M g0 c) with
      | none => exact absurd z (a3 c hc)
      | some k2 => exact List.mem_map.mpr ⟨(way M g0 c, k2), (mem_live W.sz).2 ⟨way_in M g0 c, z⟩, rfl⟩
theorem sizes : SetTable.sizeAbove (SetTable.grown 5) = 32 ∧ SetTable.sizeAbove (SetTable.grown 19) = 128 ∧ SetTable.sizeAbove (SetTable.grown 77) = 512 := by decide +kernel
end SH
/-! sets of any heap keys: the search, and adding -/
namespace SH
open PySem PySem.Spec PyProof.Rows L2
/-- the c-th probe for the hash g -/
def pb (m : Nat) (g : Int) (c : Nat) : SetTable.Probe := nth m (runAt m (SetTable.bits g % (m + 1)) (SetTable.bits g)) c
theorem pb_add (m : Nat) (g : Int) (c q : Nat) : nth m (pb m g c) q = pb m g (c + q) := (nth_add m c _ q).symm
theorem pb_dummy (m : Nat) (g : Int) : ∀ c, (pb m g c).dummy = none
  | 0 => rfl
  | c + 1 => by
    rw [← pb_add m g c 1]
    show (adv m (pb m g c)).dummy = none
    unfold adv
    split <;> exact pb_dummy m g c
section
variable {P : Program} {w : World} {κ : Type} [DecidableEq κ] {knd : HeapKind P w κ} {A : Around} {E : Value → Shared → Prop} {s : Shared}
/-- what a set asks of a member beside its hash -/
structure Calm (knd : HeapKind P w κ) : Prop where
  st : knd.Stays
  cl : ∀ {A : Around} {E : Value → Shared → Prop} {s : Shared} {k : κ} {b : Addr} {Q : Bool → Shared → Prop}, knd.is s.heap k b → Q false s → wpAny (model P w) A (ofAClassStatement 8 (.ref b)) Q E s
  hv : ∀ {A : Around} {E : Value → Shared → Prop} {s : Shared} {k : κ} {b : Addr} {Q : Bool → Shared → Prop}, knd.is s.heap k b → (∀ r, Q r s) → wpAny (model P w) A (hashByValue 8 (.ref b)) Q E s
theorem seen_no (C : Calm knd) {k : κ} {b : Addr} {Q : Bool → Shared → Prop} (hk : knd.is s.heap k b) {ys : List Value} (hy : ∀ y ∈ ys, ∃ k' c, y = Value.ref c ∧ knd.is s.heap k' c) (h : Q false s) :
    wpAny (model P w) A (searchCouldBeSeen (.ref b) ys) Q E s := by
  unfold searchCouldBeSeen
  refine wpAny_bind (wpAny_forIn_list _ (fun rest r z => z = s ∧ r.1 = none ∧ ∀ y ∈ rest, ∃ k' c, y = Value.ref c ∧ knd.is s.heap k' c) _ (fun v rest r z hz => ?_) (fun r z hz => ?_) _ _ ⟨rfl, rfl, hy⟩)
  · obtain ⟨rfl, hr, al⟩ := hz
    obtain ⟨k', c, rfl, hc⟩ := al v List.mem_cons_self
    have tl : ∀ y ∈ rest, ∃ k' c, y = Value.ref c ∧ knd.is z.heap k' c := fun y hy => al y (List.mem_cons_of_mem _ hy)
    dsimp only
    by_cases e : (b == c || (carriedByValue (.ref b) && carriedByValue (.ref c))) = true
    · exact wp_if_pos e (wpAny_pure ⟨rfl, rfl, tl⟩)
    · refine wp_if_neg e (wpAny_bind (knd.quiet hk ?_))
      rw [Bool.not_true, if_neg Bool.false_ne_true]
      refine wpAny_bind (knd.quiet hc ?_)
      rw [Bool.not_true, if_neg Bool.false_ne_true]
      refine wpAny_bind (C.cl hk ?_)
      rw [if_neg Bool.false_ne_true]
      refine wpAny_bind (C.cl hc ?_)
      rw [if_neg Bool.false_ne_true]
      exact wpAny_pure ⟨rfl, rfl, tl⟩
  · obtain ⟨r1, r2⟩ := r
    obtain ⟨rfl, hr, _⟩ := hz
    cases (show r1 = none from hr)
    exact wpAny_pure h
/-- the set at a, of the members L (their places, their keys) in the table's order -/
structure SetH (knd : HeapKind P w κ) (h : Heap) (a : Addr) (L : List (Addr × κ)) (es : Array (Int × Value)) (ep : Nat) (t : SetTable) : Prop where
  ob : ∃ o, h.get? a = some o ∧ o.ExactSet ∧ o.data = .set es ep t
  rows : es.toList = L.map fun p => (knd.hash p.2, Value.ref p.1)
  tab : TabM t (L.map fun p => knd.hash p.2)
  nd : (L.map (·.2)).Nodup
  el : ∀ p ∈ L, knd.is h p.2 p.1
  ld : w.params.followText "set-order" = true ∨ t.led = true
  gap : L.length * 5 < t.mask * 3
variable {a : Addr} {L : List (Addr × κ)} {es : Array (Int × Value)} {ep : Nat} {t : SetTable}
theorem rows_size (h : es.toList = L.map fun p => (knd.hash p.2, Value.ref p.1)) : es.size = L.length := by
  rw [← Array.length_toList, h, List.length_map]
theorem rows_at (h : es.toList = L.map fun p => (knd.hash p.2, Value.ref p.1)) {i : Nat} {p : Addr × κ} (e : L[i]? = some p) : es[i]? = some (knd.hash p.2, Value.ref p.1) := by
  rw [← Array.getElem?_toList, h, List.getElem?_map, e]
  rfl
theorem fits_of {gs : List Int} (T : TabM t gs) {n : Nat} (hn : gs.length = n) (hl : n ≤ t.mask) : t.fits n = true := by
  have := T.n
  unfold SetTable.fits SetTable.fill
  rw [T.no, Bool.and_eq_true, beq_iff_eq, decide_eq_true_eq]
  show t.place.size = n ∧ t.place.size + 0 ≤ t.mask
  omega
theorem SetH.fits (R : SetH knd s.heap a L es ep t) : t.fits es.size = true := by
  have h2 := R.gap
  have h3 := rows_size R.rows
  exact fits_of R.tab (by rw [List.length_map]; exact h3.symm) (by omega)
theorem SetH.small (R : SetH knd s.heap a L es ep t) : L.length ≤ 306 := by
  have h2 := R.gap
  rcases R.tab.msk.cases with e | e | e | e <;> omega
/-- the search from its c-th step on; K: the first gap on the way -/
theorem look (C : Calm knd) (R : SetH knd s.heap a L es ep t) {x : Addr} {k : κ} (hx : knd.is s.heap k x) (hr : knd.room A) {K : Nat} (hKf : K < 10 * SetTable.turns t.mask)
    (hK : way t.mask (knd.hash k) K ∉ t.place.toList) (hKb : ∀ c, c < K → way t.mask (knd.hash k) c ∈ t.place.toList) {Q : SetFound → Shared → Prop}
    (yes : k ∈ L.map (·.2) → Q (.there none) s) (no : k ∉ L.map (·.2) → Q (.free (way t.mask (knd.hash k) K) false) s) :
    ∀ (f c : Nat) (stand : Option SetTable.Probe), stand.getD (t.probeStart (knd.hash k)) = pb t.mask (knd.hash k) c → c ≤ K → K - c < f →
      (∀ (i : Nat) p, L[i]? = some p → p.2 = k → ∃ d, c ≤ d ∧ d < K ∧ t.place.toList[i]? = some (way t.mask (knd.hash k) d)) →
      wpAny (model P w) A (setSearchFrom a (.ref x) (knd.hash k) true f stand) Q E s
  | 0, c, stand, _, _, hf, _ => absurd hf (Nat.not_lt_zero _)
  | f + 1, c, stand, hst, hc, hf, hre => by
    obtain ⟨o, ho, hex, hd⟩ := R.ob
    have odd := R.tab.msk.odd
    rw [setSearchFrom_succ]
    refine wpAny_bind (wpAny_setState_of ho hd R.fits ?_)
    dsimp only
    refine wp_if_neg (by unfold SetTable.gaveWay; rw [odd]; decide) ?_
    try refine wpAny_bind (wpAny_pure ?_)
    have hz : c + (K - c) = K := by omega
    have hs : ∀ (i : Nat) p, L[i]? = some p → (fun i => (es[i]?.map (·.1)).getD 0) i = knd.hash p.2 := fun i p hp => by
      show (es[i]?.map (·.1)).getD 0 = _
      rw [rows_at R.rows hp]
      rfl
    have J : ∀ q, (nth t.mask (pb t.mask (knd.hash k) c) q).j = way t.mask (knd.hash k) (c + q) := fun q => congrArg SetTable.Probe.j (pb_add t.mask (knd.hash k) c q)
    rcases go_spec t R.tab.up R.tab.no (fun i => (es[i]?.map (·.1)).getD 0) (knd.hash k) (10 * SetTable.turns t.mask) (K - c) (pb t.mask (knd.hash k) c) (pb_dummy _ _ _) (by omega)
      (fun q hq => by rw [J]; exact hKb _ (by omega)) (by rw [J, hz]; exact hK) with ⟨q, i, hq, hi, _, first, pr⟩ | ⟨first, pr⟩
    · rw [J] at hi
      have pr2 : t.probe (fun i => (es[i]?.map (·.1)).getD 0) (knd.hash k) (stand.getD (t.probeStart (knd.hash k))) = some (.candidate (way t.mask (knd.hash k) (c + q)) i (pb t.mask (knd.hash k) (c + (q + 1)))) := by
        rw [hst, ← J, ← pb_add]
        exact pr
      rw [pr2]
      dsimp only
      have il : i < L.length := by
        have h1 := (List.getElem?_eq_some_iff.mp hi).1
        rw [R.tab.len, List.length_map] at h1
        exact h1
      obtain ⟨p, hp⟩ : ∃ p, L[i]? = some p := ⟨_, List.getElem?_eq_getElem il⟩
      have pm := List.mem_of_getElem? hp
      have rest : wpAny (model P w) A (searchRest a (.ref x) (knd.hash k) true f es t (way t.mask (knd.hash k) (c + q)) i (pb t.mask (knd.hash k) (c + (q + 1)))) Q E s := by
        unfold searchRest
        rw [rows_at R.rows hp]
        dsimp only
        refine wpAny_bind (wpAny_holding (knd.eqBool hr (R.el p pm) hx (wpAny_bind (wpAny_setState_of ho hd R.fits ?_))))
        dsimp only
        by_cases e : p.2 = k
        · exact wp_if_pos (by simp [e]) (wpAny_pure (yes (List.mem_map.mpr ⟨p, pm, e⟩)))
        · refine wp_if_neg (by simp [e]) ?_
          try refine wpAny_bind (wpAny_pure ?_)
          have live : t.slot (way t.mask (knd.hash k) (c + q)) = .live i := slot_live R.tab.up hi
          rw [sameMem]
          dsimp only
          simp only [if_true, live, rows_at R.rows hp]
          refine wpAny_bind (wpAny_isSame_ref_self (wpAny_bind (wpAny_pure ?_)))
          simp only [if_true]
          refine wp_if_neg (by simp [e]) ?_
          refine look C R hx hr hKf hK hKb yes no f (c + (q + 1)) _ rfl (by omega) (by omega) fun i0 p0 h0 k0 => ?_
          obtain ⟨d, d1, d2, d3⟩ := hre i0 p0 h0 k0
          refine ⟨d, Nat.lt_of_not_le fun z => ?_, d2, d3⟩
          rcases Nat.lt_or_eq_of_le z with z | z
          · exact first (d - c) i0 (Nat.sub_lt_left_of_lt_add d1 z) (by rw [J, Nat.add_sub_cancel' d1]; exact d3) ((hs i0 p0 h0).trans (congrArg knd.hash k0))
          · have z : d = c + q := z
            have s0 := slot_live R.tab.up d3
            rw [z, live] at s0
            cases s0
            rw [hp] at h0
            cases h0
            exact e k0
      by_cases hl : t.led = true
      · refine wp_if_neg (by simp [hl]) ?_
        try refine wpAny_bind (wpAny_pure ?_)
        exact rest
      · refine wp_if_pos (by simp [hl]) (wpAny_bind (seen_no C hx (fun y hy => ?_) ?_))
        · obtain ⟨u, hu, rfl⟩ := List.mem_map.mp hy
          have hu2 : u ∈ es.toList := by
            have h1 : u ∈ es ∧ u.1 = knd.hash k := by simpa using hu
            simpa using h1.1
          rw [R.rows] at hu2
          obtain ⟨p2, hp2, rfl⟩ := List.mem_map.mp hu2
          exact ⟨p2.2, p2.1, rfl, R.el p2 hp2⟩
        · refine wp_if_neg (by decide) ?_
          try refine wpAny_bind (wpAny_pure ?_)
          exact rest
    · have pr2 : t.probe (fun i => (es[i]?.map (·.1)).getD 0) (knd.hash k) (stand.getD (t.probeStart (knd.hash k))) = some (.empty (way t.mask (knd.hash k) K) none) := by
        have e2 := J (K - c)
        rw [hz] at e2
        rw [hst, ← e2]
        exact pr
      rw [pr2]
      dsimp only
      refine wpAny_pure (no fun hm => ?_)
      obtain ⟨p0, h0, k0⟩ := List.mem_map.mp hm
      obtain ⟨i0, hi0⟩ := List.mem_iff_getElem?.mp h0
      obtain ⟨d, d1, d2, d3⟩ := hre i0 p0 hi0 k0
      exact first (d - c) i0 (by omega) (by rw [J, Nat.add_sub_cancel' d1]; exact d3) ((hs i0 p0 hi0).trans (congrArg knd.hash k0))
/-- the search that adding makes -/
theorem look_at (C : Calm knd) (R : SetH knd s.heap a L es ep t) {x : Addr} {k : κ} (hx : knd.is s.heap k x) (hr : knd.room A) {Q : SetFound → Shared → Prop} (yes : k ∈ L.map (·.2) → Q (.there none) s)
    (no : ∀ K, k ∉ L.map (·.2) → way t.mask (knd.hash k) K ∉ t.place.toList → (∀ c, c < K → way t.mask (knd.hash k) c ∈ t.place.toList) → Q (.free (way t.mask (knd.hash k) K) false) s) :
    wpAny (model P w) A (setSearch a (.ref x) (knd.hash k) true) Q E s := by
  have g := R.gap
  obtain ⟨K, k1, k2, k3⟩ := R.tab.gap (by rw [List.length_map]; omega) (knd.hash k)
  have big : 10 * SetTable.turns t.mask ≤ 10000 := by
    unfold SetTable.turns
    rcases R.tab.msk.cases with e | e | e | e <;> omega
  unfold setSearch
  refine look C R hx hr k1 k2 k3 yes (fun n => no K n k2 k3) 100000 0 none rfl (Nat.zero_le _) (by omega) fun i p hp hk => ?_
  have hi : (L.map fun p => knd.hash p.2)[i]? = some (knd.hash k) := by
    rw [List.getElem?_map, hp, ← hk]
    rfl
  have hil : i < t.place.toList.length := by
    rw [R.tab.len]
    exact (List.getElem?_eq_some_iff.mp hi).1
  obtain ⟨c, hc, e⟩ := R.tab.ahead k2 hi (List.getElem?_eq_getElem hil)
  exact ⟨c, Nat.zero_le _, hc, by rw [List.getElem?_eq_getElem hil, e]⟩
/-- a member isn't the set -/
theorem el_same (C : Calm knd) {h h' : Heap} {k : κ} {b : Addr} {o : Obj} (hb : knd.is h k b) (ho : h.get? a = some o) (hd : o.data = .set es ep t) (hs : Heap.SameBut a h h') : knd.is h' k b := by
  refine C.st.stays (fun c u vs n hc hu => ?_) hb
  refine (hs.2 c fun e => ?_).trans hc
  rw [e, ho] at hc
  cases hc
  rw [hd] at hu
  cases hu
/-- the rows in the order of another table -/
theorem rows_order (h : es.toList = L.map fun p => (knd.hash p.2, Value.ref p.1)) (od : Array Nat) (hp : od.toList.Perm (List.range L.length)) :
    ∃ L2 : List (Addr × κ), (od.filterMap (es[·]?)).toList = (L2.map fun p => (knd.hash p.2, Value.ref p.1)) ∧ L2.Perm L ∧ (L2.map fun p => knd.hash p.2) = od.toList.map fun i => (es.map (·.1)).getD i 0 := by
  have all : (List.range L.length).filterMap (fun i => L[i]?) = L := by
    clear hp h
    have gen : ∀ (M : List (Addr × κ)), (List.range M.length).filterMap (fun i => M[i]?) = M := by
      intro M
      induction M with
      | nil => rfl
      | cons x M ih =>
        rw [List.length_cons, List.range_succ_eq_map, List.filterMap_cons_some (f := fun i => (x :: M)[i]?) (a := 0) (b := x) rfl, List.filterMap_map]
        exact congrArg (x :: ·) ih
    exact gen L
  have one : ∀ l : List Nat, (∀ i ∈ l, i < L.length) → l.filterMap (fun i => es[i]?) = ((l.filterMap fun i => L[i]?).map fun p => (knd.hash p.2, Value.ref p.1)) ∧ ((l.filterMap fun i => L[i]?).map fun p => knd.hash p.2) = l.map fun i => (es.map (·.1)).getD i 0 := by
    intro l
    induction l with
    | nil => exact fun _ => ⟨rfl, rfl⟩
    | cons i l ih =>
      intro hl
      have hi := List.getElem?_eq_getElem (hl i List.mem_cons_self)
      obtain ⟨e1, e2⟩ := ih fun j hj => hl j (List.mem_cons_of_mem _ hj)
      have e5 : (es.map (·.1))[i]? = some (knd.hash (L[i]'(hl i List.mem_cons_self)).2) := by
        rw [Array.getElem?_map, rows_at h hi]
        rfl
      rw [List.filterMap_cons_some (rows_at h hi), List.filterMap_cons_some hi, e1, List.map_cons, List.map_cons, List.map_cons, e2]
      exact ⟨rfl, by rw [Array.getD_eq_getD_getElem?, e5]; rfl⟩
  obtain ⟨e1, e2⟩ := one od.toList fun i hi => List.mem_range.mp (hp.mem_iff.mp hi)
  refine ⟨od.toList.filterMap fun i => L[i]?, by rw [Array.toList_filterMap]; exact e1, ?_, e2⟩
  have q := hp.filterMap fun i => L[i]?
  rw [all] at q
  exact q
/-- the members in a larger table -/
theorem relay (C : Calm knd) {o : Obj} (ho : s.heap.get? a = some o) (hex : o.ExactSet) (hd : o.data = .set es ep t) (rows : es.toList = L.map fun p => (knd.hash p.2, Value.ref p.1)) (hf : t.fits es.size = true)
    (nd : (L.map (·.2)).Nodup) (el : ∀ p ∈ L, knd.is s.heap p.2 p.1) (ld : w.params.followText "set-order" = true ∨ t.led = true) {wanted M : Nat}
    (hw : SetTable.sizeAbove wanted = M + 1) (hM : Mk M) (hn : L.length * 5 < M * 3) {Q : Unit → Shared → Prop}
    (hQ : ∀ h' L' es' ep' t', Heap.SameBut a s.heap h' → SetH knd h' a L' es' ep' t' → L'.Perm L → Q () { s with heap := h' }) : wpAny (model P w) A (setRelay a wanted) Q E s := by
  have hz := rows_size rows
  have hM5 : M ≤ 511 := by rcases hM.cases with e | e | e | e <;> omega
  obtain ⟨t', od, e, hp, T, em, el'⟩ := relaid_tab t (hs := es.map (·.1)) (wanted := wanted) (M := M) (by omega) hM (by rw [Array.size_map]; omega)
  rw [Array.size_map, hz] at hp
  obtain ⟨L2, r1, r2, r3⟩ := rows_order rows od hp
  rw [← r3] at T
  have z2 := (rows_size r1).trans (r2.length_eq.trans hz.symm)
  have line : sizeLine = 16777216 := rfl
  rw [setRelay_eq]
  refine wpAny_bind (wpAny_setState_of ho hd hf ?_)
  dsimp only
  refine wp_if_neg (by rw [hw]; omega) ?_
  try refine wpAny_bind (wpAny_pure ?_)
  rw [e]
  dsimp only
  refine wpAny_bind (wp_if_neg (by rw [z2]; simp) ?_)
  try refine wpAny_bind (wpAny_pure ?_)
  refine wpAny_pure ?_
  dsimp only
  refine wpAny_storeSet_of ho hd (hQ _ L2 (od.filterMap (es[·]?)) (ep + 1) t' (Heap.SameBut.update ..) ⟨⟨_, store_at ho hd, ⟨hex.1, hex.2.1, hex.2.2⟩, rfl⟩, r1, T, (r2.map (·.2)).nodup_iff.mpr nd, fun p hpm => el_same C (el p (r2.mem_iff.mp hpm)) ho hd (Heap.SameBut.update ..), by rw [el']; exact ld, by rw [r2.length_eq, em]; exact hn⟩ r2) (by rw [z2]; omega)
/-- one more member -/
theorem add (C : Calm knd) (R : SetH knd s.heap a L es ep t) {x : Addr} {k : κ} (hx : knd.is s.heap k x) (hr : knd.room A) (few : L.length + 1 ≤ 300) {Q : Bool → Shared → Prop}
    (hQ : ∀ b h' L' es' ep' t', Heap.SameBut a s.heap h' → SetH knd h' a L' es' ep' t' → (k ∈ L.map (·.2) → L' = L) → (k ∉ L.map (·.2) → L'.Perm ((x, k) :: L)) → Q b { s with heap := h' }) :
    wpAny (model P w) A (setAddHashed a (.ref x) (knd.hash k)) Q E s := by
  obtain ⟨o, ho, hex, hd⟩ := R.ob
  have line : sizeLine = 16777216 := rfl
  unfold setAddHashed
  rw [show (100000 : Nat) = 99999 + 1 from rfl, setAddHashedIn_succ]
  refine wpAny_holding (wpAny_bind (wpAny_setState_of ho hd R.fits ?_))
  dsimp only
  refine wp_if_neg (by simp [byScan, Value.scannable]) ?_
  try refine wpAny_bind (wpAny_pure ?_)
  refine wpAny_bind (look_at C R hx hr (fun hm => ?_) fun K hm hK hb => ?_)
  · exact wpAny_pure (hQ false s.heap L es ep t (Heap.SameBut.refl a s.heap) R (fun _ => rfl) fun z => absurd hm z)
  · dsimp only
    refine wpAny_bind (wpAny_setState_of ho hd R.fits ?_)
    dsimp only
    obtain ⟨q1, q2, q3⟩ := R.tab.put hK hb
    have zL := rows_size R.rows
    have gap := R.gap
    -- the table with the new slot
    have v1 : (t.put (way t.mask (knd.hash k) K)).2 = SetTable.below t.place (way t.mask (knd.hash k) K) := rfl
    have v2 : (t.put (way t.mask (knd.hash k) K)).1.mask = t.mask := rfl
    have v3 : (t.put (way t.mask (knd.hash k) K)).1.led = t.led := rfl
    generalize t.put (way t.mask (knd.hash k) K) = pt at q2 q3 v1 v2 v3 ⊢
    obtain ⟨t1, p⟩ := pt
    dsimp only at q2 q3 v1 v2 v3 ⊢
    rw [← v1] at q1 q2
    have rows1 : (SetTable.insertAt es p (knd.hash k, Value.ref x)).toList = (L.take p ++ (x, k) :: L.drop p).map fun p => (knd.hash p.2, Value.ref p.1) := by
      rw [SetTable.toList_insertAt, R.rows, List.map_append, List.map_cons, List.map_take, List.map_drop]
    have pm : (L.take p ++ (x, k) :: L.drop p).Perm ((x, k) :: L) := by
      have h := List.perm_middle (a := (x, k)) (l₁ := L.take p) (l₂ := L.drop p)
      rw [List.take_append_drop] at h
      exact h
    have hg : (L.map fun p => knd.hash p.2).take p ++ knd.hash k :: (L.map fun p => knd.hash p.2).drop p = (L.take p ++ (x, k) :: L.drop p).map fun p => knd.hash p.2 := by
      rw [List.map_append, List.map_cons, List.map_take, List.map_drop]
    rw [hg] at q2
    generalize L.take p ++ (x, k) :: L.drop p = L1 at rows1 pm q2
    have l1 := pm.length_eq
    rw [List.length_cons] at l1
    have nd1 : (L1.map (·.2)).Nodup := (pm.map (·.2)).nodup_iff.mpr (List.nodup_cons.mpr ⟨hm, R.nd⟩)
    have z1 := rows_size rows1
    generalize SetTable.insertAt es p (knd.hash k, Value.ref x) = es1 at rows1 z1
    rw [List.length_map] at q3
    -- whatever becomes of the mark «plain»
    have main : ∀ t2 : SetTable, TabM t2 (L1.map fun p => knd.hash p.2) → t2.mask = t.mask → t2.led = t.led → t2.fill = L.length + 1 →
        wpAny (model P w) A (storeSet a es1 t2 >>= fun _ => if (!false && t2.tooFull) = true then (setRelay a (SetTable.grown (es.size + 1)) >>= fun _ => pure true) else pure true) Q E s := fun t2 T2 m2 d2 f2 => by
      refine wpAny_bind (wpAny_storeSet_of ho hd ?_ (by rw [z1]; omega))
      have sb : Heap.SameBut a s.heap (s.heap.update a (Obj.putSet es1 t2)) := Heap.SameBut.update ..
      have ho1 := store_at (es' := es1) (t' := t2) ho hd
      generalize s.heap.update a (Obj.putSet es1 t2) = h1 at sb ho1 ⊢
      have el1 : ∀ p ∈ L1, knd.is h1 p.2 p.1 := fun p hp => by
        rcases List.mem_cons.mp (pm.mem_iff.mp hp) with e | hp
        · rw [e]
          exact el_same C hx ho hd sb
        · exact el_same C (R.el p hp) ho hd sb
      have ld1 : w.params.followText "set-order" = true ∨ t2.led = true := d2.symm ▸ R.ld
      by_cases hf : t2.tooFull = true
      · have full : (L.length + 1) * 5 ≥ t.mask * 3 := by
          have h := hf
          unfold SetTable.tooFull at h
          rw [decide_eq_true_eq, f2, m2] at h
          exact h
        have big : ∃ M, SetTable.sizeAbove (SetTable.grown (es.size + 1)) = M + 1 ∧ Mk M ∧ L1.length * 5 < M * 3 ∧ t.mask < M := by
          rcases R.tab.msk.cases with e | e | e | e
          · exact ⟨31, by rw [show es.size + 1 = 5 by omega]; exact sizes.1, .inl (.inr (.inl rfl)), by omega, by omega⟩
          · exact ⟨127, by rw [show es.size + 1 = 19 by omega]; exact sizes.2.1, .inl (.inr (.inr rfl)), by omega, by omega⟩
          · exact ⟨511, by rw [show es.size + 1 = 77 by omega]; exact sizes.2.2, .inr rfl, by omega, by omega⟩
          · omega
        obtain ⟨M, b1, b2, b3, b4⟩ := big
        have fin : wpAny (model P w) A (setRelay a (SetTable.grown (es.size + 1))) (fun _ s' => Q true s') E { s with heap := h1 } :=
          relay (s := { s with heap := h1 }) C ho1 ⟨hex.1, hex.2.1, hex.2.2⟩ rfl rows1 (fits_of T2 (by rw [List.length_map, z1]) (by omega)) nd1 el1 ld1 b1 b2 b3 fun h2 L2 es2 ep2 t3 sb2 R2 pm2 => hQ true h2 L2 es2 ep2 t3 (sb.trans sb2) R2 (fun z => absurd z hm) fun _ => pm2.trans pm
        exact wp_if_pos (by rw [hf]; rfl) (wpAny_bind (wpAny_mono fin (fun _ _ h => wpAny_pure h) fun _ _ h => h))
      · have fin : Q true { s with heap := h1 } := hQ true h1 L1 es1 (ep + 1) t2 sb ⟨⟨_, ho1, ⟨hex.1, hex.2.1, hex.2.2⟩, rfl⟩, rows1, T2, nd1, el1, ld1, by
          have h := hf
          unfold SetTable.tooFull at h
          rw [decide_eq_true_eq, f2, m2] at h
          omega⟩ (fun z => absurd z hm) fun _ => pm
        exact wp_if_neg (by rw [Bool.eq_false_iff.mpr hf]; decide) (wpAny_pure fin)
    have both : ∀ r : Bool, ∃ t2, (if r = true then t1 else { t1 with plain := false }) = t2 ∧ TabM t2 (L1.map fun p => knd.hash p.2) ∧ t2.mask = t.mask ∧ t2.led = t.led ∧ t2.fill = L.length + 1 := fun r => by
      cases r
      · exact ⟨{ t1 with plain := false }, rfl, ⟨q2.up, q2.no, q2.n, q2.msk, q2.le, q2.at'⟩, v2, v3, q3⟩
      · exact ⟨t1, rfl, q2, v2, v3, q3⟩
    by_cases pl : t1.plain = true
    · refine wp_if_pos pl (wpAny_bind (C.hv hx fun r => ?_))
      obtain ⟨t2, e2, f1, f2, f3, f4⟩ := both r
      rw [e2]
      exact main t2 f1 f2 f3 f4
    · refine wp_if_neg pl (wpAny_bind (wpAny_pure ?_))
      obtain ⟨t2, e2, f1, f2, f3, f4⟩ := both true
      rw [e2]
      exact main t2 f1 f2 f3 f4
end
end SH
/-! set(xs) of a list, whatever the members: by what holds of the set behind i items -/
namespace SH
open PySem PySem.Spec PyProof.Rows L2
/-- a set just made -/
abbrev fs (w : World) : Obj := { cls := .type "set", dict := none, data := .set #[] 0 (.fresh 0 0 (!w.params.followText "set-order")) }
section
variable {P : Program} {w : World} {A : Around} {E : Value → Shared → Prop} {s : Shared}
/-- what adding the item v to the set at S leaves -/
def Adds (P : Program) (w : World) (A : Around) (S : Addr) (v : Value) (J : Heap → Prop) (z : Shared) : Prop :=
  ∀ E' : Value → Shared → Prop, wpAny (model P w) A (setAdd S v) (fun _ y => ∃ h' tk, z.toks ≤ tk ∧ y = { z with heap := h', toks := tk } ∧ Heap.SameBut S z.heap h' ∧ J h') E' z
theorem set_loop {it : Addr} {fp wr : List Addr} {G : Array GenState → Array GenState → Prop} {n : Nat} {Pv : Nat → Value → Prop} {St : Nat → Shared → Prop} {R : Result → Shared → Prop} (W : WalksS P w A.in1 it fp wr G n Pv St)
    {S : Addr} (hSf : S ∉ fp) (J : Nat → Heap → Prop) (h0 : Heap) (hS0 : h0.get? S = none) (hw0 : ∀ b ∈ wr, h0.get? b = none)
    (fr : ∀ i h h', J i h → (∀ o, h.get? S = some o → h'.get? S = some o) → (∀ b o, h0.get? b = some o → h'.get? b = some o) → J i h')
    (step : ∀ i v (z : Shared), i < n → Pv i v → (∀ b o, h0.get? b = some o → z.heap.get? b = some o) → J i z.heap → Adds P w A.in1 S v (J (i + 1)) z) :
    ∀ (k i : Nat) (s : Shared), n - i = k → i ≤ n → St i s → (∀ b o, h0.get? b = some o → s.heap.get? b = some o) → J i s.heap →
      (∀ s', Moved (S :: wr) G s s' → J n s'.heap → (∀ b o, h0.get? b = some o → s'.heap.get? b = some o) → R (.ok (.ret .none)) s') →
      codeAny (model P w) A (.builtin "set.update.loop" ⟨[.ref S, .ref it], []⟩) R s := by
  have notin : S ∉ wr := fun h => hSf (W.sub _ h)
  have up : ∀ b ∈ wr, b ∈ S :: wr := fun b hb => List.mem_cons_of_mem _ hb
  have keep : ∀ {z z' : Shared}, Moved wr G z z' → (∀ b o, h0.get? b = some o → z.heap.get? b = some o) → ∀ b o, h0.get? b = some o → z'.heap.get? b = some o := fun m k b o e =>
    m.heap b o (fun hb => absurd e (by rw [hw0 b hb]; exact fun z => nomatch z)) (k b o e)
  intro k
  induction k with
  | zero =>
    intro i s hk hi hst old hJ hR
    obtain rfl : i = n := by omega
    refine codeAny_builtin F.entry_set_update_loop ?_
    rw [Around.under_plainId (id := "set.update.loop") F.plain_set_update_loop]
    show wpAny (model P w) A.in1 (pyNext (.ref it) >>= _) _ _ s
    refine wpAny_bind (W.done s _ _ hst fun z m => ?_)
    show wpAny _ A.in1 (ret .none) _ _ z
    exact wpAny_pure (hR z (m.mono up) (fr _ _ _ hJ (fun o e => m.heap S o notin e) (keep m old)) (keep m old))
  | succ k ih =>
    intro i s hk hi hst old hJ hR
    have lt : i < n := by omega
    refine codeAny_builtin F.entry_set_update_loop ?_
    rw [Around.under_plainId (id := "set.update.loop") F.plain_set_update_loop]
    show wpAny (model P w) A.in1 (pyNext (.ref it) >>= _) _ _ s
    refine wpAny_bind (W.item i s _ _ lt hst fun v z hv hz m => ?_)
    have old' := keep m old
    show wpAny _ A.in1 (holding [v] (setAdd S v) >>= _) _ _ z
    refine wpAny_bind (wpAny_holding (wpAny_mono (step i v z lt hv old' (fr _ _ _ hJ (fun o e => m.heap S o notin e) old') _) (fun _ y hy => ?_) fun _ _ h => h))
    obtain ⟨h', tk, htk, rfl, sb, hJ'⟩ := hy
    have old2 : ∀ b o, h0.get? b = some o → h'.get? b = some o := fun b o e => (sb.2 b (fun e2 => by rw [e2, hS0] at e; cases e)).trans (old' b o e)
    refine wpAny_pure ⟨plainId_quiet F.plain_set_update_loop _, ih (i + 1) _ (by omega) lt (W.frame _ z _ _ hz htk fun b hb o e => ?_) old2 hJ' fun y my hy oy => ?_⟩
    · rw [sb.2 b fun e2 => hSf (e2 ▸ hb)]
      exact e
    · refine hR y (Moved.trans W.gtrans ((m.mono up).then_heap htk fun b o hb e => ?_) my) hy oy
      rw [sb.2 b fun e2 => hb (e2 ▸ List.mem_cons_self)]
      exact e
set_option maxHeartbeats 3200000 in
/-- set(xs), xs a list: J i holds of the heap once i items are in -/
theorem call_set_of {l : Addr} {its : Array Value} {Q : Value → Shared → Prop} (hh : A.handled = none) (hl : s.heap.IsList l its) (J : Nat → Heap → Prop)
    (fr : ∀ i h h', J i h → (∀ o, h.get? s.heap.objs.size = some o → h'.get? s.heap.objs.size = some o) → (∀ b o, s.heap.get? b = some o → h'.get? b = some o) → J i h')
    (start : ∀ h, h.get? s.heap.objs.size = some (fs w) → (∀ b o, s.heap.get? b = some o → h.get? b = some o) → J 0 h)
    (step : ∀ i v (z : Shared), its[i]? = some v → (∀ b o, s.heap.get? b = some o → z.heap.get? b = some o) → J i z.heap → Adds P w A.in1.in1.in1 s.heap.objs.size v (J (i + 1)) z)
    (fin : ∀ (h' : Heap) (tk : Nat), J its.size h' → (∀ b o, s.heap.get? b = some o → h'.get? b = some o) → Q (.ref s.heap.objs.size) { s with heap := h', toks := tk }) :
    wpAny (model P w) A (call (.type "set") [.ref l]) Q E s := by
  generalize hS : s.heap.objs.size = S at fr start step fin
  obtain ⟨c, tl, hmro⟩ := F.called_set.mro
  have hmade := F.called_set.made
  have hsub := F.called_set.sub
  refine wpAny_call (codeAny_of_tree ?_)
  show wpAny _ _ (callAny (.type "set") _) _ _ _
  refine wpAny_pure ⟨Code.quiet_builtin _ (by decide +kernel), codeAny_builtin F.entry_type_call ?_⟩
  rw [Around.under_plain (weight_type_call_type "set" [.ref l] []) rfl]
  have h1 := F.called_set.notType
  have h2 := F.called_set.canCreate
  have hct := F.typeCall_set_1 (.ref l)
  repeat (any_goals (first | assumption | wp_step))
  refine codeAny_mono (code_set_led1 (.ref l) (E := E) (Q₁ := fun x z => x = .ref S ∧ z = { s with heap := s.heap.push (fs w) }) ⟨congrArg Value.ref hS, rfl⟩) fun r z hr => ?_
  cases r with
  | error e => exact hr
  | ok fl =>
    cases fl with
    | ret x =>
      obtain ⟨rfl, rfl⟩ := hr
      have atS : (s.heap.push (fs w)).get? S = some (fs w) := hS ▸ Heap.get?_push_size _ rfl
      have hT : Shared.TypeIs { s with heap := s.heap.push (fs w) } (.ref S) "set" := ⟨_, atS, rfl⟩
      have hli := F.called_set.init.lookup
      have hbi := F.called_set.init.bind (.ref S)
      repeat (any_goals (first | assumption | wp_step))
      refine codeAny_mono (codeAny_call_builtin (R := wants (fun r y => r = .none ∧ ∃ h' tk, y = { s with heap := h', toks := tk } ∧ J its.size h' ∧ ∀ b o, s.heap.get? b = some o → h'.get? b = some o) E) F.called_set.init.plain F.entry_set_init (check_set_init_1 hT ?_)) fun r y hr => ?_
      · obtain ⟨ol, hol, hcl, nl, hdl⟩ := hl
        obtain ⟨ocls, odict, odata, oslots⟩ := ol
        simp only at hcl hdl
        subst hcl
        subst hdl
        have hol' : (s.heap.push (fs w)).get? l = some { cls := .type "list", dict := odict, data := .seq its nl, slots := oslots } := Heap.get?_push_of_some _ hol
        have hl1 : (s.heap.push (fs w)).IsList l its := ⟨_, hol', rfl, nl, rfl⟩
        have hsls := F.sub_list_set
        have hslf := F.sub_list_frozenset
        have hne : (Value.type "list" == Value.type "dict") = false := by decide
        unfold Builtin.«set.__init__» noKeywords Builtin.Frozenset.updateFrom
        generalize hPI : pyIter = PI
        wp_walk
        subst hPI
        refine wpAny_pyIter_list hl1 (wpAny_bind (wpAny_runValue ?_))
        have lS : l < S := hS ▸ Heap.lt_size hol
        have z1 : (s.heap.push (fs w)).objs.size = S + 1 := by rw [Heap.size_push, hS]
        have none_of : ∀ b, S ≤ b → s.heap.get? b = none := fun b hb => by
          cases q : s.heap.get? b with
          | none => rfl
          | some o => exact absurd (Heap.lt_size q) (Nat.not_lt.mpr (hS.symm ▸ hb))
        have hh3 : A.in1.in1.in1.handled = none := by simp [hh]
        have push2 : ∀ b o, (s.heap.push (fs w)).get? b = some o → ((s.heap.push (fs w)).push { cls := .type "list_iterator", data := .fields #[.ref l, .int 0 0] }).get? b = some o := fun b o e => Heap.get?_push_of_some _ e
        refine set_loop (Walks.list hh3 (s.heap.push (fs w)).objs.size l (by rw [z1]; exact Nat.ne_of_lt (Nat.lt_succ_of_lt lS)) its).toS (S := S) (by rw [z1]; simp; exact fun e => Nat.lt_irrefl S (e.symm ▸ lS)) J s.heap (none_of S (Nat.le_refl _)) (fun b hb => none_of b (by rw [List.mem_singleton.mp hb, z1]; omega)) fr (fun i v z _ hv oz jz => step i v z hv oz jz)
          (its.size - 0) 0 _ rfl (Nat.zero_le _) ⟨⟨_, Heap.get?_push_size _ rfl, rfl, rfl⟩, hl1.push _⟩ (fun b o e => push2 b o (Heap.get?_push_of_some _ e)) (start _ (push2 S _ atS) fun b o e => push2 b o (Heap.get?_push_of_some _ e)) fun y m jy oy => ?_
        obtain ⟨h', g', d', tk', os'⟩ := y
        obtain rfl : g' = s.gens := m.gens
        obtain rfl : d' = s.drawn := m.drawn
        obtain rfl : os' = s.os := m.os
        show wpAny _ _ _ _ _ _
        refine wpAny_pure ?_
        show wpAny _ _ (ret .none) _ _ _
        exact wpAny_pure ⟨rfl, h', tk', rfl, jy, oy⟩
      · cases r with
        | error e => exact hr
        | ok fl =>
          cases fl with
          | ret r =>
            obtain ⟨rfl, h', tk, rfl, jy, oy⟩ := hr
            repeat (any_goals (first | assumption | wp_step))
            exact fin _ _ jy oy
          | _ => exact hr.elim
    | _ => exact hr.elim
end
end SH
/-! the layer's rules: set(xs) of tuples of keys, sorted of a set -/
namespace SH
open PySem PySem.Spec PyProof.Rows L2
open PySem.W (EachIs AllAlike Sortable dataLe)
/-! tuples of keys -/
abbrev TKK (P : Program) (w : World) : HeapKind P w (List Key) := tupleKind (mixKind P w)
section
variable {P : Program} {w : World} {A : Around} {E : Value → Shared → Prop} {s : Shared}
theorem items_keys {k : List Key} {vs : List Value} (h : ItemsAre (mixKind P w) k vs) : ∀ v ∈ vs, (∃ i t, v = Value.int i t) ∨ ∃ x t, v = Value.str x t := by
  induction h with
  | nil => exact fun v hv => nomatch hv
  | @cons k0 v' ks vs h1 _ ih =>
    intro v hv
    rcases List.mem_cons.mp hv with rfl | hv
    · rcases keyIs_shape h1 with ⟨i, t, _, e⟩ | ⟨x, t, _, e⟩
      · exact .inl ⟨i, t, e⟩
      · exact .inr ⟨x, t, e⟩
    · exact ih v hv
theorem cl_keys {k : List Key} {b : Addr} {Q : Bool → Shared → Prop} (hk : (TKK P w).is s.heap k b) (h : Q false s) : wpAny (model P w) A (ofAClassStatement 8 (.ref b)) Q E s := by
  have hT := IsTupleKey.typeIs hk
  obtain ⟨o, items, n, ho, _, hd, hi⟩ := hk
  unfold ofAClassStatement
  refine wpAny_bind (wpAny_typeOf hT ?_)
  dsimp only
  simp only [show (("tuple" : String) == "tuple") = true by decide, if_true, Bool.not_true, Bool.false_eq_true, if_false]
  try refine wpAny_bind (wpAny_pure ?_)
  try simp only [Bool.not_true, Bool.false_eq_true, if_false]
  show wpAny _ _ (seqItems? (.ref b) >>= _) _ _ s
  refine wpAny_bind (wpAny_seqItems ho hd ?_)
  dsimp only
  refine wpAny_bind ?_
  show wpAny _ _ (forIn items _ _) _ _ s
  rw [← Array.forIn_toList]
  refine wpAny_forIn_list _ (fun rest r z => z = s ∧ r.1 = none ∧ ∀ v ∈ rest, (∃ i t, v = Value.int i t) ∨ ∃ x t, v = Value.str x t) _ (fun v rest r z hz => ?_) (fun r z hz => ?_) _ _ ⟨rfl, rfl, items_keys hi⟩
  · obtain ⟨rfl, hr, al⟩ := hz
    have tl := fun u hu => al u (List.mem_cons_of_mem v hu)
    have e : ∀ n, ofAClassStatement n v = pure false := fun n => by
      rcases al v List.mem_cons_self with ⟨i, t, rfl⟩ | ⟨x, t, rfl⟩ <;> cases n <;> rfl
    rw [e]
    refine wpAny_bind (wpAny_pure ?_)
    rw [if_neg Bool.false_ne_true]
    exact wpAny_pure ⟨rfl, rfl, tl⟩
  · obtain ⟨r1, r2⟩ := r
    obtain ⟨rfl, hr, _⟩ := hz
    cases (show r1 = none from hr)
    exact wpAny_pure h
theorem hv_keys {k : List Key} {b : Addr} {Q : Bool → Shared → Prop} (hk : (TKK P w).is s.heap k b) (h : ∀ r, Q r s) : wpAny (model P w) A (hashByValue 8 (.ref b)) Q E s := by
  have hT := IsTupleKey.typeIs hk
  obtain ⟨o, items, n, ho, _, hd, hi⟩ := hk
  unfold hashByValue
  refine wpAny_bind (wpAny_specialOf hT F.slot_tuple_hash.lookup ?_)
  show wpAny _ _ (seqItems? (.ref b) >>= _) _ _ s
  refine wpAny_bind (wpAny_seqItems ho hd (wpAny_bind ?_))
  show wpAny _ _ (forIn items _ _) _ _ s
  rw [← Array.forIn_toList]
  refine wpAny_forIn_list _ (fun rest r z => z = s ∧ r.1 = none ∧ ∀ v ∈ rest, (∃ i t, v = Value.int i t) ∨ ∃ x t, v = Value.str x t) _ (fun v rest r z hz => ?_) (fun r z hz => ?_) _ _ ⟨rfl, rfl, items_keys hi⟩
  · obtain ⟨rfl, hr, al⟩ := hz
    have tl := fun u hu => al u (List.mem_cons_of_mem v hu)
    rcases al v List.mem_cons_self with ⟨i, t, rfl⟩ | ⟨x, t, rfl⟩
    · have e : ∀ n, hashByValue n (.int i t) = pure true := fun n => by cases n <;> rfl
      rw [e]
      refine wpAny_bind (wpAny_pure ?_)
      rw [Bool.not_true, if_neg Bool.false_ne_true]
      exact wpAny_pure ⟨rfl, rfl, tl⟩
    · have e : ∀ n, hashByValue n (.str x t) = pure false := fun n => by cases n <;> rfl
      rw [e]
      refine wpAny_bind (wpAny_pure ?_)
      rw [Bool.not_false, if_pos rfl]
      exact wpAny_pure (wpAny_pure (h false))
  · obtain ⟨r1, r2⟩ := r
    obtain ⟨rfl, hr, _⟩ := hz
    cases (show r1 = none from hr)
    exact wpAny_pure (h true)
theorem calm_keys : Calm (TKK P w) := ⟨tupleKind_stays, fun hk h => cl_keys hk h, fun hk h => hv_keys hk h⟩
end
/-! what the set has of the first i items -/
structure Has {κ : Type} (ks : List (Addr × κ)) (i : Nat) (L : List (Addr × κ)) : Prop where
  sub : ∀ p, p ∈ L → p ∈ ks.take i
  all : ∀ p, p ∈ ks.take i → p.2 ∈ L.map (·.2)
  len : L.length ≤ i
theorem Has.old {κ : Type} {ks L : List (Addr × κ)} {i : Nat} {x : Addr × κ} (g : Has ks i L) (h : ks[i]? = some x) (hm : x.2 ∈ L.map (·.2)) : Has ks (i + 1) L := by
  have e : ks.take (i + 1) = ks.take i ++ [x] := by rw [List.take_add_one, h]; rfl
  refine ⟨fun p hp => e ▸ List.mem_append_left _ (g.sub p hp), fun p hp => ?_, Nat.le_succ_of_le g.len⟩
  rw [e] at hp
  rcases List.mem_append.mp hp with z | z
  · exact g.all p z
  · exact List.mem_singleton.mp z ▸ hm
theorem Has.new {κ : Type} {ks L L' : List (Addr × κ)} {i : Nat} {x : Addr × κ} (g : Has ks i L) (h : ks[i]? = some x) (pm : L'.Perm (x :: L)) : Has ks (i + 1) L' := by
  have e : ks.take (i + 1) = ks.take i ++ [x] := by rw [List.take_add_one, h]; rfl
  refine ⟨fun p hp => ?_, fun p hp => ?_, ?_⟩
  · rw [e]
    rcases List.mem_cons.mp (pm.mem_iff.mp hp) with z | z
    · exact z ▸ List.mem_append_right _ List.mem_cons_self
    · exact List.mem_append_left _ (g.sub p z)
  · rw [(pm.map (·.2)).mem_iff, List.map_cons]
    rw [e] at hp
    rcases List.mem_append.mp hp with z | z
    · exact List.mem_cons_of_mem _ (g.all p z)
    · exact List.mem_singleton.mp z ▸ List.mem_cons_self
  · have := pm.length_eq
    have := g.len
    simp at *
    omega
/-! a set that can be walked: its members' values, in some order -/
def Walked (w : World) (h : Heap) (a : Addr) (xs : List V) : Prop := ∃ (es : Array (Int × Value)) (ep : Nat) (t : SetTable), SetAt h a es ep t ∧ t.fits es.size = true ∧ es.size < scanBound ∧ Ris t.place.toList ∧
  (w.params.followText "set-order" = true ∨ t.led = true) ∧ Vals xs (es.toList.map (·.2))
/-- the set at a of the tuples L -/
def SetP (P : Program) (w : World) (a : Addr) (L : List (Addr × List Key)) (h : Heap) : Prop := ∃ (es : Array (Int × Value)) (ep : Nat) (t : SetTable), (∃ o, h.get? a = some o ∧ o.ExactSet ∧ o.data = .set es ep t) ∧
  es.toList = (L.map fun p => ((TKK P w).hash p.2, Value.ref p.1)) ∧ TabM t (L.map fun p => (TKK P w).hash p.2) ∧ (L.map (·.2)).Nodup ∧ (w.params.followText "set-order" = true ∨ t.led = true) ∧ L.length * 5 < t.mask * 3
def SetT (P : Program) (w : World) (a : Addr) (L : List (Addr × List Key)) : HO := .ext (SetP P w a L)
theorem SetP.walked {P : Program} {w : World} {a : Addr} {L : List (Addr × List Key)} {h : Heap} (R : SetP P w a L h) : Walked w h a (L.map fun p => V.ref p.1) := by
  obtain ⟨es, ep, t, ⟨o, ho, hx, hd⟩, rows, T, _, ld, gap⟩ := R
  have z := rows_size rows
  have sm : L.length ≤ 306 := by rcases T.msk.cases with e | e | e | e <;> omega
  have sb : scanBound = 4096 := rfl
  refine ⟨es, ep, t, ⟨o, ho, hx.1, hd⟩, fits_of T (by rw [List.length_map, z]) (by omega), by omega, T.up, ld, ?_⟩
  rw [rows, List.map_map]
  have gen : ∀ M : List (Addr × List Key), Vals (M.map fun p => V.ref p.1) (M.map fun p => Value.ref p.1) := fun M => by
    induction M with
    | nil => exact .nil
    | cons p M ih => exact .cons rfl ih
  exact gen L
theorem setT_ok {P : Program} {w : World} {H : Hp} {h : Heap} {a : Addr} {L : List (Addr × List Key)} (R : SetP P w a L h) : ObjOk P w H h a (SetT P w a L) := by
  have ⟨es, ep, t, ⟨o, ho, r⟩, q⟩ := R
  refine ⟨R, ⟨o, ho⟩, fun h1 h2 p k => ?_⟩
  obtain ⟨es', ep', t', ⟨o', ho', r'⟩, q'⟩ := p
  exact ⟨es', ep', t', ⟨o', k o' ho', r'⟩, q'⟩
theorem items_vals {P : Program} {w : World} : ∀ {k : List Key} {us : List Value}, Vals (k.map kV) us → ItemsAre (mixKind P w) k us
  | [], _, .nil => .nil
  | n :: k, _, .cons r t => .cons (kV_is r) (items_vals t)
theorem refs_vals : ∀ {ks : List (Addr × List Key)} {us : List Value}, Vals (ks.map fun p => V.ref p.1) us → us = ks.map fun p => Value.ref p.1
  | [], _, .nil => rfl
  | p :: ks, _, .cons r t => by
    cases r
    rw [refs_vals t]
    rfl
section
variable {X : Cx}
theorem key_tup {pins : List (Addr × Obj)} {σ : L2.St} {H : Hp} {s : Shared} {b : Addr} {k : List Key} (I : Inv X pins σ H s) (h : SqT X.K H b (k.map kV)) : (TKK X.prog X.w).is s.heap k b := by
  obtain ⟨its, r, ⟨o, ho, hc, n, hd⟩, _⟩ := I.tuple h
  exact ⟨o, its.toArray, n, ho, hc, hd, items_vals r⟩
/-- set(xs), xs a list of tuples of keys -/
def rSetT (K : PySem.W.Frag) (P : Program) (w : World) : List V → Hp → VK → Prop := fun xs H Q => ∃ (l : Addr) (ks : List (Addr × List Key)), xs = [V.ref l] ∧ SqL K H l (ks.map fun p => V.ref p.1) ∧ (∀ p ∈ ks, SqT K H p.1 (p.2.map kV)) ∧ ks.length ≤ 300 ∧
  ∀ a L, H a = none → Has ks ks.length L → (L.map (·.2)).Nodup → Q (.ref a) (upd H a (SetT P w a L))
theorem cr_setT (hc : X.calm = true) (hu : X.A.units + 64 < cLine) : CallR X (.type "set") (rSetT X.K X.prog X.w) := by
  intro pins s σ H xs us Q I r h
  obtain ⟨l, ks, rfl, hl, hk, hf, q⟩ := h
  rw [Vals.ref1 r]
  obtain ⟨its, rv, pl, hz⟩ := I.list hl
  have hits : its = ks.map fun p => Value.ref p.1 := refs_vals rv
  have hn : H s.heap.objs.size = none := I.hok.fresh (Nat.le_refl _)
  have mem : ∀ p ∈ ks, (TKK X.prog X.w).is s.heap p.2 p.1 := fun p hp => key_tup I (hk p hp)
  have room : X.A.in1.in1.in1.units < cLine := by
    show X.A.units + 1 + 1 + 1 < cLine
    omega
  have none0 : s.heap.get? s.heap.objs.size = none := by
    cases e : s.heap.get? s.heap.objs.size with
    | none => rfl
    | some o => exact absurd (Heap.lt_size e) (Nat.lt_irrefl _)
  refine call_set_of (P := X.prog) (w := X.w) (I.ok.hd hc) pl.isList (fun i h => ∃ L es ep t, SetH (TKK X.prog X.w) h s.heap.objs.size L es ep t ∧ Has ks i L) (fun i h h' ⟨L, es, ep, t, R, g⟩ k1 k2 => ?_) (fun h e _ => ?_) (fun i v z hv old ⟨L, es, ep, t, R, g⟩ E' => ?_) fun h' tk ⟨L, es, ep, t, R, g⟩ old => ?_
  · obtain ⟨o, ho, rr⟩ := R.ob
    exact ⟨L, es, ep, t, ⟨⟨o, k1 o ho, rr⟩, R.rows, R.tab, R.nd, fun p hp => calm_keys.st.stays (fun b o vs n hb _ => k2 b o hb) (mem p (List.mem_of_mem_take (g.sub p hp))), R.ld, R.gap⟩, g⟩
  · refine ⟨[], #[], 0, _, ⟨⟨_, e, ⟨rfl, rfl, rfl⟩, rfl⟩, rfl, ⟨List.Pairwise.nil, rfl, rfl, .inl (.inl rfl), fun x hx => (by cases hx), fun i h j hi => (by simp at hi)⟩, List.nodup_nil, fun p hp => (by cases hp), ?_, by show 0 * 5 < 7 * 3; decide⟩, ⟨fun p h => (by cases h), fun p h => (by simp at h), Nat.le_refl _⟩⟩
    show _ ∨ (!X.w.params.followText "set-order") = true
    cases X.w.params.followText "set-order"
    · exact .inr rfl
    · exact .inl rfl
  · have hv2 : (ks.map fun p => Value.ref p.1)[i]? = some v := by
      rw [← hits, ← hv]
      simp
    rw [List.getElem?_map] at hv2
    cases hp : ks[i]? with
    | none =>
      rw [hp] at hv2
      cases hv2
    | some p =>
      rw [hp] at hv2
      cases hv2
      have hx : (TKK X.prog X.w).is z.heap p.2 p.1 := calm_keys.st.stays (fun b o vs n hb _ => old b o hb) (mem p (List.mem_of_getElem? hp))
      have il := (List.getElem?_eq_some_iff.mp hp).1
      unfold setAdd
      refine wpAny_holding (wpAny_bind ((TKK X.prog X.w).pyHash room hx ?_))
      refine add (s := { z with toks := z.toks + (TKK X.prog X.w).draws p.2 }) calm_keys R hx room (by have := g.len; omega) fun b h' L' es' ep' t' sb R' c1 c2 => ⟨h', _, Nat.le_add_right _ _, rfl, sb, L', es', ep', t', R', ?_⟩
      by_cases c : p.2 ∈ L.map (·.2)
      · rw [c1 c]
        exact g.old hp c
      · exact g.new hp (c2 c)
  · have e : its.toArray.size = ks.length := by
      rw [hits]
      simp
    rw [e] at g
    exact ⟨.ref s.heap.objs.size, upd H s.heap.objs.size (SetT X.prog X.w s.heap.objs.size L), I.laid (t' := tk) old (Nat.le_refl _) (setT_ok ⟨es, ep, t, R.ob, R.rows, R.tab, R.nd, R.ld, R.gap⟩), rfl, q _ L hn g R.nd⟩
/-! sorted(a set) -/
theorem each_perm {α β : Type} {R : α → β → Prop} {us vs : List α} (p : us.Perm vs) : ∀ {bs : List β}, EachIs R us bs → ∃ cs : List β, cs.Perm bs ∧ EachIs R vs cs := by
  induction p with
  | nil => exact fun {bs} h => ⟨bs, .refl _, h⟩
  | cons x _ ih =>
    intro bs h
    cases h with
    | cons h t =>
      obtain ⟨cs, c, e⟩ := ih t
      exact ⟨_ :: cs, c.cons _, .cons h e⟩
  | swap x y l =>
    intro bs h
    cases h with
    | cons h t =>
      cases t with
      | cons h2 t => exact ⟨_ :: _ :: _, .swap _ _ _, .cons h2 (.cons h t)⟩
  | trans _ _ ih1 ih2 =>
    intro bs h
    obtain ⟨cs, c, e⟩ := ih1 h
    obtain ⟨ds, d, f⟩ := ih2 e
    exact ⟨ds, d.trans c, f⟩
theorem each_of_vals : ∀ {bs : List (V × PyData)} {us : List Value}, Vals (bs.map Prod.fst) us → EachIs (fun (v : Value) (b : V × PyData) => RelV b.1 v) us bs
  | [], _, r => by cases r; exact .nil
  | b :: bs, _, r => by
    cases r with
    | cons r1 r2 => exact .cons r1 (each_of_vals r2)
theorem vals_of_each : ∀ {bs : List (V × PyData)} {us : List Value}, EachIs (fun (v : Value) (b : V × PyData) => RelV b.1 v) us bs → Vals (bs.map Prod.fst) us
  | [], _, r => by cases r; exact .nil
  | b :: bs, _, r => by
    cases r with
    | cons r1 r2 => exact .cons r1 (vals_of_each r2)
theorem each_and {α β : Type} {R S : α → β → Prop} : ∀ {as : List α} {bs : List β}, EachIs R as bs → (∀ a b, b ∈ bs → R a b → S a b) → EachIs S as bs
  | _, _, .nil, _ => .nil
  | _, _, .cons h t, k => .cons (k _ _ List.mem_cons_self h) (each_and t fun a b hb => k a b (List.mem_cons_of_mem _ hb))
def rSortSet (K : PySem.W.Frag) (w : World) : List V → Hp → VK → Prop := fun vs H Q => ∃ (a : Addr) (bs : List (V × PyData)) (U : Heap → Prop), vs = [V.ref a] ∧ H a = some (.ext U) ∧ (∀ h, U h → Walked w h a (bs.map Prod.fst)) ∧ (∀ b ∈ bs, Dp K H b.1 b.2) ∧
  AllAlike (bs.map Prod.snd) ∧ Sortable (bs.map Prod.snd) ∧ (∀ b ∈ bs, b.2.depth ≤ 10) ∧
  ∀ (cs : List (V × PyData)) (p : Addr), cs.Perm bs → cs.Pairwise (fun x y => dataLe false Prod.snd x y = true) → H p = none → Q (.ref p) (upd H p (.lst (cs.map Prod.fst)))
theorem cr_sortSet (hc : X.calm = true) (hu : X.A.units + 64 < cLine) : CallR X (.builtin "sorted") (rSortSet X.K X.w) := by
  intro pins s σ H vs us Q I r h
  obtain ⟨a, bs, U, rfl, ha, hw, hd, hal, hso, hdp, q⟩ := h
  rw [Vals.ref1 r]
  obtain ⟨es, ep, t, hat, hf, hsz, ris, ld, rv⟩ := hw _ (I.hok a _ ha).1
  have line : sizeLine = 16777216 := rfl
  have sbd : scanBound = 4096 := rfl
  refine Calls.call_function_entry kind_sorted plain_sorted entry_sorted (args_sorted1 _) ?_
  unfold Builtin.«sorted»
  refine wpAny_bind (m := checkCount "sorted" 1 1 _) (wpAny_pure ?_)
  refine wpAny_bind (collect_set (A := X.A.in1) (I.ok.hd hc) hat hf hsz ris ld fun s1 vs k1 hz g1 o1 pm => ?_)
  obtain ⟨cs, pc, ec⟩ := each_perm pm.symm (each_of_vals rv)
  have hl : vs.length = bs.length := ec.length.trans pc.length_eq
  have lb : bs.length = es.size := by
    have h1 := (each_of_vals rv).length
    simp at h1
    exact h1.symm
  refine wpAny_bind (wpAny_newList ?_ (by omega))
  have hoL : (s1.heap.push (seqObj "list" vs.toArray 0)).get? s1.heap.objs.size = some (seqObj "list" vs.toArray 0) := Heap.get?_push_size _ rfl
  show wpAny _ _ _ _ _ { s1 with heap := s1.heap.push (seqObj "list" vs.toArray 0) }
  have er : EachIs (fun (v : Value) (b : V × PyData) => ∃ as, Reads (s1.heap.push (seqObj "list" vs.toArray 0)) v b.2 as ∧ s1.heap.objs.size ∉ as) vs cs := each_and ec fun v b hb rb => by
    obtain ⟨as, hr⟩ := Dp.reads I b.2 b.1 v (hd b (pc.mem_iff.mp hb)) rb
    have hr1 : Reads s1.heap v b.2 as := Reads.keeps k1 hr
    refine ⟨as, Reads.keeps (fun b o e => Heap.get?_push_of_some _ e) hr1, fun hm => ?_⟩
    obtain ⟨o, ho⟩ := PyProof.On.reads_mem_get hr1 _ hm
    exact absurd (Heap.lt_size ho) (Nat.lt_irrefl _)
  have pd := pc.map Prod.snd
  have hal' : AllAlike (cs.map Prod.snd) := fun d h1 d' h2 => hal d (pd.mem_iff.mp h1) d' (pd.mem_iff.mp h2)
  have hso' : Sortable (cs.map Prod.snd) := by
    rcases hso with z | z
    · exact .inl fun d h1 => z d (pd.mem_iff.mp h1)
    · exact .inr fun d h1 => z d (pd.mem_iff.mp h1)
  refine wpAny_bind (wpAny_holding (PySem.W.list_sort_data (enc := Prod.snd) (s := { s1 with heap := s1.heap.push (seqObj "list" vs.toArray 0) }) hoL ec er hal' hso' (by have := pc.length_eq; omega) ?k4 fun out ho eo => ?_))
  case k4 =>
    intro b hb
    have h1 := hdp b (pc.mem_iff.mp hb)
    have h2 : X.A.in1.units = X.A.units + 1 := rfl
    omega
  obtain ⟨c, hcat⟩ := sortedHeap_at (vs := vs) (out := out.toArray) hoL
  have pw : (cs.mergeSort (dataLe false Prod.snd)).Pairwise (fun x y => dataLe false Prod.snd x y = true) := PySem.W.sort_pairwise (by unfold dataLe; exact PySem.W.sortLe_total _ _ _) cs
  have pm2 : (cs.mergeSort (dataLe false Prod.snd)).Perm bs := (List.mergeSort_perm cs _).trans pc
  generalize cs.mergeSort (dataLe false Prod.snd) = ds at eo pw pm2
  have ev := vals_of_each eo
  have hn : H s1.heap.objs.size = none := I.hok.fresh hz
  have hlen : (ds.map Prod.fst).length ≤ sizeLine := by
    rw [List.length_map, pm2.length_eq]
    omega
  have J : Inv X pins σ (upd H s1.heap.objs.size (.lst (ds.map Prod.fst))) { s with heap := sortedHeap (s1.heap.push (seqObj "list" vs.toArray 0)) s1.heap.objs.size vs out.toArray, gens := s1.gens, drawn := s1.drawn, toks := s1.toks } := by
    have old : ∀ b u, s.heap.get? b = some u → (sortedHeap (s1.heap.push (seqObj "list" vs.toArray 0)) s1.heap.objs.size vs out.toArray).get? b = some u := fun b u e => by
      have q2 := k1 b u e
      have hlt := Heap.lt_size q2
      rw [sortedHeap_old (Nat.ne_of_lt hlt) (by rw [size_push']; exact Nat.lt_succ_of_lt hlt)]
      exact Heap.get?_push_of_some _ q2
    exact I.call (ch := []) (Un.laid old hz hn) (I.hok.laid old hz ⟨hlen, out, c, ev, hcat⟩) (by rw [g1]; exact I.bare) (fun _ z => nomatch z)
  refine wpAny_pure ⟨_, rfl, ?_⟩
  have e : ({ s1 with heap := sortedHeap (s1.heap.push (seqObj "list" vs.toArray 0)) s1.heap.objs.size vs out.toArray } : Shared) = { s with heap := sortedHeap (s1.heap.push (seqObj "list" vs.toArray 0)) s1.heap.objs.size vs out.toArray, gens := s1.gens, drawn := s1.drawn, toks := s1.toks } := by
    cases s1
    cases s
    cases o1
    rfl
  rw [e]
  exact ⟨.ref s1.heap.objs.size, _, J, rfl, q ds _ pm2 pw hn⟩
end
end SH
/-! set(xs) of texts and ints: what it holds can be walked -/
namespace SH
open PySem PySem.Spec PyProof.Rows L2
open PySem.W (EachIs)
/-- the set at a of the keys L -/
def SetQ (P : Program) (w : World) (h : Heap) (a : Addr) (L : List Key) : Prop := ∃ (es : Array (Int × Value)) (ep : Nat) (t : SetTable), (∃ o, h.get? a = some o ∧ o.ExactSet ∧ o.data = .set es ep t) ∧ ElemsOf (mixKind P w) es.toList ∧
  EachIs (fun (e : Int × Value) (k : Key) => (mixKind P w).is k e.2 = true) es.toList L ∧ L.Nodup ∧ es.size < scanBound ∧ t.fits es.size = true ∧ Ris t.place.toList ∧ (w.params.followText "set-order" = true ∨ t.led = true)
theorem each_find {α β : Type} {R : α → β → Prop} : ∀ {as : List α} {bs : List β}, EachIs R as bs → ∀ a ∈ as, ∃ b ∈ bs, R a b
  | _, _, .nil, _, h => by cases h
  | _, _, .cons r t, a, h => by
    rcases List.mem_cons.mp h with rfl | h
    · exact ⟨_, List.mem_cons_self, r⟩
    · obtain ⟨b, hb, q⟩ := each_find t a h
      exact ⟨b, List.mem_cons_of_mem _ hb, q⟩
theorem each_back {α β : Type} {R : α → β → Prop} : ∀ {as : List α} {bs : List β}, EachIs R as bs → ∀ b ∈ bs, ∃ a ∈ as, R a b
  | _, _, .nil, _, h => by cases h
  | _, _, .cons r t, b, h => by
    rcases List.mem_cons.mp h with rfl | h
    · exact ⟨_, List.mem_cons_self, r⟩
    · obtain ⟨a, ha, q⟩ := each_back t b h
      exact ⟨a, List.mem_cons_of_mem _ ha, q⟩
section
variable {P : Program} {w : World} {A : Around} {E : Value → Shared → Prop} {s : Shared} {a : Addr} {L : List Key}
theorem key_scannable {k : Key} {v : Value} (h : (mixKind P w).is k v = true) : v.scannable = true := by
  rcases keyIs_shape h with ⟨i, t, _, rfl⟩ | ⟨x, t, _, rfl⟩ <;> rfl
/-- the last rows of adding by scan -/
theorem add_tail {g : Bool → Sem Unit} (hg : ∀ (b : Bool) (z : Shared) (Q' : Unit → Shared → Prop), Q' () z → wpAny (model P w) A (g b) Q' E z) {o : Obj} {es es1 : Array (Int × Value)} {ep : Nat} {t t2 : SetTable}
    (ho : s.heap.get? a = some o) (hex : o.ExactSet) (hd : o.data = .set es ep t) (el : ElemsOf (mixKind P w) es1.toList) (ei : EachIs (fun (e : Int × Value) (k : Key) => (mixKind P w).is k e.2 = true) es1.toList L) (nd : L.Nodup)
    (hb : es1.size < scanBound) (hf : t2.fits es1.size = true) (ris : Ris t2.place.toList) (ld : w.params.followText "set-order" = true ∨ t2.led = true) {dm : Bool} {R : Option Bool → Shared → Prop}
    (hR : ∀ h' L', Heap.SameBut a s.heap h' → SetQ P w h' a L' → L'.Perm L → R (some true) { s with heap := h' }) :
    wpAny (model P w) A (storeSet a es1 t2 >>= fun _ => if (!dm && t2.tooFull) = true then (g (relayAll t2 es1 (SetTable.grown es1.size)).2.2 >>= fun _ => storeSet a (relayAll t2 es1 (SetTable.grown es1.size)).1 (relayAll t2 es1 (SetTable.grown es1.size)).2.1 >>= fun _ => pure (some true)) else pure (some true)) R E s := by
  refine wpAny_bind (wpAny_storeSet_of ho hd ?_ (fits_of_scanBound hb))
  have ho1 := store_at (es' := es1) (t' := t2) ho hd
  have sb1 := Heap.SameBut.update s.heap a (Obj.putSet es1 t2)
  by_cases c : (!dm && t2.tooFull) = true
  · refine wp_if_pos c ?_
    have pm := relayAll_perm t2 es1 (SetTable.grown es1.size)
    have f3 := relayAll_fits t2 es1 (SetTable.grown es1.size)
    have r3 := relayAll_ris t2 es1 (SetTable.grown es1.size)
    have l3 := relayAll_led t2 es1 (SetTable.grown es1.size)
    generalize relayAll t2 es1 (SetTable.grown es1.size) = Z at pm f3 r3 l3 ⊢
    obtain ⟨es2, t3, gave⟩ := Z
    dsimp only at pm f3 r3 l3 ⊢
    have z2 : es2.size = es1.size := by rw [← Array.length_toList, pm.length_eq, Array.length_toList]
    obtain ⟨L2, p2, e2⟩ := each_perm pm.symm ei
    refine wpAny_bind (hg _ _ _ (wpAny_bind (wpAny_storeSet_of ho1 rfl (wpAny_pure (hR _ L2 (sb1.trans (Heap.SameBut.update _ a _)) ⟨es2, _, t3, ⟨_, store_at ho1 rfl, hex, rfl⟩, fun e he => el e (pm.mem_iff.mp he), e2, p2.nodup_iff.mpr nd, z2 ▸ hb, f3, r3, ld.imp id fun z => l3 ▸ z⟩ p2)) (fits_of_scanBound (z2 ▸ hb)))))
  · exact wp_if_neg c (wpAny_pure (hR _ L sb1 ⟨es1, _, t2, ⟨_, ho1, hex, rfl⟩, el, ei, nd, hb, hf, ris, ld⟩ (.refl _)))
theorem addQ (R : SetQ P w s.heap a L) {k : Key} {v : Value} (hk : (mixKind P w).is k v = true) (few : L.length + 1 < scanBound) {Q : Bool → Shared → Prop}
    (hQ : ∀ b h' L', Heap.SameBut a s.heap h' → SetQ P w h' a L' → (k ∈ L → L' = L) → (k ∉ L → L'.Perm (k :: L)) → Q b { s with heap := h' }) :
    wpAny (model P w) A (setAddHashed a v ((mixKind P w).hash k)) Q E s := by
  obtain ⟨es, ep, t, ⟨o, ho, hex, hd⟩, el, ei, nd, hb, hf, ris, ld⟩ := id R
  have sc := key_scannable hk
  have zL : es.size = L.length := by rw [← Array.length_toList]; exact ei.length
  unfold setAddHashed setAddHashedIn
  refine wpAny_holding (wpAny_bind (wpAny_setState_of ho hd hf ?_))
  dsimp only
  rw [byScan_of sc hb el, if_pos rfl]
  unfold setAddByScan
  refine wpAny_bind (wpAny_bind (wpAny_rule (wpAny_bind (wpAny_setScan_of hk ho hd hf el ?_))))
  cases hfi : List.findIdx? (fun e => (mixKind P w).is k e.2) es.toList with
  | some j =>
    dsimp only
    obtain ⟨hj, pj, _⟩ := List.findIdx?_eq_some_iff_getElem.mp hfi
    obtain ⟨k', hk', e'⟩ := each_find ei _ (List.getElem_mem hj)
    have ek : k' = k := (mixKind P w).inj _ _ _ e' pj
    exact wpAny_pure (wpAny_pure (hQ false s.heap L (Heap.SameBut.refl a s.heap) R (fun _ => rfl) fun z => absurd (ek ▸ hk') z))
  | none =>
    dsimp only
    have nk : k ∉ L := fun z => by
      obtain ⟨e, he, q⟩ := each_back ei k z
      have c := List.findIdx?_eq_none_iff.mp hfi e he
      rw [q] at c
      cases c
    have gw : ∀ (b : Bool) {z : Shared} {Q' : Unit → Shared → Prop}, Q' () z → wpAny (model P w) A (match b with | true => rule "set.scan.the-table-gave-way" | false => pure ()) Q' E z :=
      fun b z Q' q => by cases b <;> first | exact wpAny_pure q | exact wpAny_rule q
    have pm := layNew_perm t es ((mixKind P w).hash k) v
    have f1 := layNew_fits t es ((mixKind P w).hash k) v
    have r1 := layNew_ris t es ((mixKind P w).hash k) v ris
    have l1 := layNew_led t es ((mixKind P w).hash k) v
    generalize layNew t es ((mixKind P w).hash k) v = Z at pm f1 r1 l1 ⊢
    obtain ⟨es1, t1, dm, gave⟩ := Z
    dsimp only at pm f1 r1 l1 ⊢
    rw [Array.toList_push] at pm
    have pc : es1.toList.Perm (((mixKind P w).hash k, v) :: es.toList) := pm.trans (List.perm_append_singleton _ _)
    obtain ⟨L1, p1, e1⟩ := each_perm pc.symm (EachIs.cons (R := fun (e : Int × Value) (k : Key) => (mixKind P w).is k e.2 = true) (a := ((mixKind P w).hash k, v)) (b := k) hk ei)
    have el1 : ElemsOf (mixKind P w) es1.toList := fun e he => by
      rcases List.mem_cons.mp (pc.mem_iff.mp he) with z | z
      · exact z ▸ ⟨⟨k, hk, rfl⟩, sc⟩
      · exact el e z
    have nd1 : L1.Nodup := p1.nodup_iff.mpr (List.nodup_cons.mpr ⟨nk, nd⟩)
    have z1 : es1.size = L.length + 1 := by rw [← Array.length_toList, pc.length_eq, List.length_cons, Array.length_toList, zL]
    have ld1 : w.params.followText "set-order" = true ∨ t1.led = true := ld.imp id fun z => l1 ▸ z
    have fin : ∀ h' L', Heap.SameBut a s.heap h' → SetQ P w h' a L' → L'.Perm L1 → Q true { s with heap := h' } := fun h' L' sb r p => hQ true h' L' sb r (fun z => absurd z nk) fun _ => p.trans p1
    refine wpAny_bind (gw _ ?_)
    have hb1 : es1.size < scanBound := by rw [z1]; exact few
    split
    · refine wpAny_bind ?_
      rw [hashByValue_scannable 8 sc]
      refine wpAny_pure ?_
      refine add_tail (L := L1) (fun b z Q' q => by cases b <;> first | exact wpAny_pure q | exact wpAny_rule q) ho hex hd el1 e1 nd1 hb1 ?_ ?_ ?_ fun h' L' sb r p => ?_
      · first | (split <;> first | exact f1 | exact SetTable.fits_plain_off f1) | exact f1
      · first | (split <;> exact r1) | exact r1
      · first | (split <;> exact ld1) | exact ld1
      · exact wpAny_pure (fin h' L' sb r p)
    · refine wpAny_bind (wpAny_pure ?_)
      rw [if_pos rfl]
      exact add_tail (L := L1) (fun b z Q' q => by cases b <;> first | exact wpAny_pure q | exact wpAny_rule q) ho hex hd el1 e1 nd1 hb1 f1 r1 ld1 fun h' L' sb r p => wpAny_pure (fin h' L' sb r p)
end
def SetK2 (P : Program) (w : World) (a : Addr) (L : List Key) : HO := .ext fun h => SetQ P w h a L
theorem SetQ.kept {P : Program} {w : World} {h h' : Heap} {a : Addr} {L : List Key} (R : SetQ P w h a L) (k : ∀ o, h.get? a = some o → h'.get? a = some o) : SetQ P w h' a L := by
  obtain ⟨es, ep, t, ⟨o, ho, r⟩, q⟩ := R
  exact ⟨es, ep, t, ⟨o, k o ho, r⟩, q⟩
theorem setK2_ok {P : Program} {w : World} {H : Hp} {h : Heap} {a : Addr} {L : List Key} (R : SetQ P w h a L) : ObjOk P w H h a (SetK2 P w a L) := by
  have ⟨_, _, _, ⟨o, ho, _⟩, _⟩ := R
  exact ⟨R, ⟨o, ho⟩, fun h1 h2 p k => SetQ.kept p k⟩
theorem SetQ.walked {P : Program} {w : World} {a : Addr} {L : List Key} {h : Heap} (R : SetQ P w h a L) : Walked w h a (L.map kV) := by
  obtain ⟨es, ep, t, ⟨o, ho, hx, hd⟩, _, ei, _, hb, hf, ris, ld⟩ := R
  refine ⟨es, ep, t, ⟨o, ho, hx.1, hd⟩, hf, hb, ris, ld, ?_⟩
  have gen : ∀ {l : List (Int × Value)} {L : List Key}, EachIs (fun (e : Int × Value) (k : Key) => (mixKind P w).is k e.2 = true) l L → Vals (L.map kV) (l.map (·.2)) := fun h => by
    induction h with
    | nil => exact .nil
    | cons r t ih =>
      refine .cons ?_ ih
      rcases keyIs_shape r with ⟨i, t, rfl, e⟩ | ⟨x, t, rfl, e⟩
      · exact ⟨t, e⟩
      · exact ⟨t, e⟩
  exact gen ei
section
variable {X : Cx}
/-- set(xs), xs a list of texts or ints -/
def rSetQ (K : PySem.W.Frag) (P : Program) (w : World) : List V → Hp → VK → Prop := fun xs H Q => ∃ (l : Addr) (ks : List Key), xs = [V.ref l] ∧ SqL K H l (ks.map kV) ∧ ks.length ≤ 4000 ∧ ∀ a L, H a = none → L.Nodup → (∀ k, k ∈ L ↔ k ∈ ks) → L.length ≤ ks.length → Q (.ref a) (upd H a (SetK2 P w a L))
theorem cr_setQ (hc : X.calm = true) : CallR X (.type "set") (rSetQ X.K X.prog X.w) := by
  intro pins s σ H xs us Q I r h
  obtain ⟨l, ks, rfl, hl, hf, q⟩ := h
  rw [Vals.ref1 r]
  obtain ⟨its, rv, pl, hz⟩ := I.list hl
  have hn : H s.heap.objs.size = none := I.hok.fresh (Nat.le_refl _)
  have sbd : scanBound = 4096 := rfl
  refine call_set_of (P := X.prog) (w := X.w) (I.ok.hd hc) pl.isList (fun i h => ∃ L, SetQ X.prog X.w h s.heap.objs.size L ∧ L.Nodup ∧ (∀ k, k ∈ L ↔ k ∈ ks.take i) ∧ L.length ≤ i) (fun i h h' ⟨L, R, g⟩ k1 k2 => ⟨L, R.kept k1, g⟩) (fun h e _ => ?_) (fun i v z hv old ⟨L, R, g1, g2, g3⟩ E' => ?_) fun h' tk ⟨L, R, g1, g2, g3⟩ old => ?_
  · refine ⟨[], ⟨#[], 0, _, ⟨_, e, ⟨rfl, rfl, rfl⟩, rfl⟩, fun e he => (by simp at he), .nil, List.nodup_nil, by decide, by rfl, List.Pairwise.nil, ?_⟩, List.nodup_nil, fun k => by simp, Nat.le_refl _⟩
    show _ ∨ (!X.w.params.followText "set-order") = true
    cases X.w.params.followText "set-order"
    · exact .inr rfl
    · exact .inl rfl
  · have hv2 : its[i]? = some v := by simpa using hv
    have hil : i < ks.length := by
      have h1 := rv.length
      rw [List.length_map] at h1
      rw [h1]
      exact (List.getElem?_eq_some_iff.mp hv2).1
    obtain ⟨k, hk⟩ : ∃ k, ks[i]? = some k := ⟨_, List.getElem?_eq_getElem hil⟩
    obtain ⟨u, hu, ru⟩ := rv.get (i := i) (x := kV k) (by rw [List.getElem?_map, hk]; rfl)
    rw [hv2] at hu
    cases hu
    have ek : ks.take (i + 1) = ks.take i ++ [k] := by rw [List.take_add_one, hk]; rfl
    unfold setAdd
    refine wpAny_holding (wpAny_bind ((mixKind X.prog X.w).pyHash (kV_is ru) ?_))
    refine addQ (s := { z with toks := z.toks + 1 }) R (kV_is ru) (by have := (show ks.length ≤ 4000 from hf); omega) fun b h' L' sb R' c1 c2 => ⟨h', _, Nat.le_add_right _ _, rfl, sb, L', R', ?_⟩
    by_cases c : k ∈ L
    · rw [c1 c]
      refine ⟨g1, fun j => ?_, Nat.le_succ_of_le g3⟩
      rw [ek, List.mem_append, List.mem_singleton, g2]
      exact ⟨.inl, fun z => z.elim id fun e => e ▸ (g2 k).mp c⟩
    · have pm := c2 c
      refine ⟨pm.nodup_iff.mpr (List.nodup_cons.mpr ⟨c, g1⟩), fun j => ?_, by have := pm.length_eq; rw [List.length_cons] at this; omega⟩
      rw [pm.mem_iff, List.mem_cons, ek, List.mem_append, List.mem_singleton, g2]
      exact Or.comm
  · have e : its.toArray.size = ks.length := by
      have h1 := rv.length
      rw [List.length_map] at h1
      simp [h1]
    rw [e, List.take_length] at g2
    rw [e] at g3
    exact ⟨.ref s.heap.objs.size, upd H s.heap.objs.size (SetK2 X.prog X.w s.heap.objs.size L), I.laid (t' := tk) old (Nat.le_refl _) (setK2_ok R), rfl, q _ L hn g1 g2 g3⟩
end
end SH
namespace Tb
open PySem PySem.Spec PyProof.Rows L2
def topS (i : Nat) : Stmt := PySem.Challenge.pw_everyparcel_k06_lanes_and_paths_of_a_sor.main.body.getD i (.Pass ⟨0, 0, 0, 0⟩)
abbrev sMade : Stmt := topS 8
abbrev sSpells : Stmt := topS 9
abbrev sIsName : Stmt := topS 11
abbrev sIsAddr : Stmt := topS 14
abbrev sLong : Stmt := topS 15
abbrev sIsLane : Stmt := topS 17
abbrev sLane : Stmt := topS 18
/-- a def of the text: it stands, its arguments bind, its global is it -/
structure Dd (K : PySem.W.Frag) (mg : Str → Option Value) (x : Str) (st : Stmt) (ps : List Str) (f : Addr) (fd : FuncData) : Prop where
  F : Fun K x x st f fd
  b : Binds K fd ps []
  g : mg x = some (.ref f)
/-- the globals that are the built-ins, and the two texts -/
structure Blt (mg : Str → Option Value) : Prop where
  len : mg "len" = none
  int : mg "int" = none
  str : mg "str" = none
  list : mg "list" = none
  tuple : mg "tuple" = none
  dict : mg "dict" = none
  bool : mg "bool" = none
  range : mg "range" = none
  sorted : mg "sorted" = none
  all : mg "all" = none
  isi : mg "isinstance" = none
  dg : ∃ t, mg "DIGITS" = some (.str ("0123456789" : String) t)
  lt : ∃ t, mg "LETTERS" = some (.str ("abcdefghijklmnopqrstuvwxyz" : String) t)
  hr : ∃ t, mg "HERE" = some (.str ("" : String) t)
theorem sqOf {K : PySem.W.Frag} {H : Hp} {p : Addr} {xs : List V} (h : H p = some (.lst xs)) : SqL K H p xs := .inl (.inl h)
theorem same_upd {H : Hp} {p : Addr} {o : HO} (h : H p = none) : Same H (upd H p o) := fun b x e => by
  rw [upd_ne (ne_of_none e h)]
  exact e
def digits : Str := ("0123456789" : String)
def letters : Str := ("abcdefghijklmnopqrstuvwxyz" : String)
/-- a module's name that holds a text -/
theorem pe_txt {X : Cx} {x z : Str} {pos : Pos} (hg : Gl X x) (h : ∃ t, X.mg x = some (.str z t)) (hd : (x == ("__debug__" : Str)) = false := by decide) : PE X (.Name x pos) (tC (.str z)) := by
  obtain ⟨t, h⟩ := h
  exact pe_glob hg h (show RelV (.str z) (.str z t) from ⟨t, rfl⟩) hd
/-! ### the mirrors -/
def isIn (signs : Str) (c : Nat) : Bool := decide (c ∈ signs.cps.toList)
def made (t signs : Str) (most : Int) : Bool := decide (1 ≤ (t.length : Int)) && decide ((t.length : Int) ≤ most) && t.cps.toList.all (isIn signs)
def isAddr (t : Str) : Bool := made t digits 8
def isName (t : Str) : Bool := made t (letters ++ digits) 12 && (match t.cps[0]? with | some c => isIn letters c | none => false)
def isLane (t : Str) : Bool := decide (t = Str.ofString "") || isName t
section
variable {P : Program} {w : World} {K : PySem.W.Frag} {mg : Str → Option Value} {base : Heap}
theorem scMade : FnScope ["text", "signs", "most", "sign"] ["text", "signs", "most"] (defScope sMade) := ⟨rfl, rfl, rfl, by decide +kernel, rfl, by decide +kernel, by decide +kernel⟩
def spMade : Sp := fun vs H Q _ => ∃ (t signs : Str) (most : Int), vs = [.str t, .str signs, .int most] ∧ t.length ≤ 1000 ∧ ∀ H', Same H H' → Q (.bl (made t signs most)) H'
theorem ok_made {f : Addr} {fd : FuncData} {k : Nat} (F : Fun K "made_of" "made_of" sMade f fd) (B : Blt mg) : FnOk P w K mg base CX0 (k + 1) f fd ["text", "signs", "most"] spMade := by
  refine F.ok scMade (fun vs H Q E h => ?_) (fun cdv A outer s H vs Q E hr h => ?_)
  · obtain ⟨t, sg, m, rfl, _⟩ := h
    rfl
  · obtain ⟨t, sg, m, rfl, hl, q⟩ := h
    refine ⟨_, pss_one (ps_ret (pe_and (pe_chain op_le op_le pe_int (pe_callB call_len_str (by rfl) B.len PySem.boot_len (pa_cons (pv 0) pa_nil)) (pv 2))
      (pe_one (pe_callB (cr_all rfl) (by rfl) B.all (by decide +kernel) (pa_cons (pe_lc (own := [("sign", 3)]) (g := gName 3) (by rfl) scMade.nd (pi_str (pv 0)) (blkOk_by (N := ["text", "signs", "most", "sign"]) (sc := defScope sMade) (by decide +kernel)) (fun _ _ _ _ _ => pg_name (i := 3) scMade.nd rfl (Or.inl rfl)) (fun _ _ _ _ _ => pts_nil) (fun _ _ _ _ _ => pe_cmpR op_in_sign (pv 3) (pv 1) (by rfl))) pa_nil))))), ?_⟩
    refine ⟨.str t, rfl, t, rfl, Nat.le_trans hl (by decide), 1, (t.length : Int), rfl, rfl, _, rfl, ?_⟩
    have h0 : ∀ c : Bool, c = false → Q (.bl c) H → made t sg m = false → Q (.bl (made t sg m)) H := fun c e q e2 => by rw [e2, ← e]; exact q
    refine ite2 (fun e1 => ?_) (fun e1 => ?_)
    · refine ⟨.int m, rfl, (t.length : Int), m, rfl, rfl, _, rfl, ite2 (fun e2 => ?_) (fun e2 => ?_)⟩
      · refine ⟨.str t, rfl, t, rfl, fun D nD => lc_it (walk_str (z := t)) (fun i H' => Same H H' ∧ H' D = some (.lst (((t.cps.toList.take i).map (isIn sg)).map V.bl))) ⟨same_upd nD, upd_same⟩ (fun _ _ _ _ => trivial) (fun i x H1 H2 hi hP hy => ?_) (fun H1 hP => ?_)⟩
        · obtain ⟨hS, hD⟩ := hP
          obtain ⟨rfl, c, hc, rfl⟩ := hy
          refine ⟨rfl, ?_⟩
          have hi' : i < t.cps.toList.length := by rw [Array.length_toList]; exact hi
          have hc' : t.cps.toList[i]? = some c := by rw [Array.getElem?_toList]; exact hc
          refine ⟨_, rfl, .str sg, rfl, c, sg, rfl, rfl, _, hD, ?_, ?_, ?_⟩
          · rw [List.length_map, List.length_map, List.length_take, Array.length_toList]
            exact small1000 (Nat.le_trans (Nat.min_le_right _ _) hl)
          · intro b o hb
            rw [upd_ne (ne_of_none hb nD)]
            exact hS _ _ hb
          · rw [upd_same, List.take_add_one, hc', List.map_append, List.map_append]
            rfl
        · obtain ⟨hS, hD⟩ := hP
          refine ⟨D, (t.cps.toList.map (isIn sg)), rfl, sqOf (by rw [hD, ← Array.length_toList, List.take_length]), ?_⟩
          have e : (t.cps.toList.map (isIn sg)).all id = made t sg m := by
            unfold made
            rw [of_decide_eq_true e1 |> decide_eq_true, of_decide_eq_true e2 |> decide_eq_true, List.all_map]
            rfl
          rw [e]
          exact q _ hS
      · have e : made t sg m = false := by
          unfold made
          rw [Bool.eq_false_iff.mpr e2, Bool.and_false, Bool.false_and]
        have := q H (Same.refl _)
        rw [e] at this
        exact this
    · have e : made t sg m = false := by
        unfold made
        rw [Bool.eq_false_iff.mpr e1, Bool.false_and, Bool.false_and]
      have := q H (Same.refl _)
      rw [e] at this
      exact ⟨false, rfl, this⟩
theorem scSpells : FnScope ["text"] ["text"] (defScope sSpells) := ⟨rfl, rfl, rfl, by decide +kernel, rfl, by decide +kernel, by decide +kernel⟩
theorem scIsName : FnScope ["text"] ["text"] (defScope sIsName) := ⟨rfl, rfl, rfl, by decide +kernel, rfl, by decide +kernel, by decide +kernel⟩
theorem scIsAddr : FnScope ["text"] ["text"] (defScope sIsAddr) := ⟨rfl, rfl, rfl, by decide +kernel, rfl, by decide +kernel, by decide +kernel⟩
theorem scIsLane : FnScope ["text"] ["text"] (defScope sIsLane) := ⟨rfl, rfl, rfl, by decide +kernel, rfl, by decide +kernel, by decide +kernel⟩
/-- one text in, a bool out -/
def spT (g : Str → Bool) : Sp := fun vs H Q _ => ∃ (t : Str), vs = [.str t] ∧ t.length ≤ 1000 ∧ ∀ H', Same H H' → Q (.bl (g t)) H'
theorem ok_spells {f g : Addr} {fd gd : FuncData} (F : Fun K "spells_address" "spells_address" sSpells f fd) (D : Dd K mg "made_of" sMade ["text", "signs", "most"] g gd) (B : Blt mg) : FnOk P w K mg base CX0 2 f fd ["text"] (spT isAddr) := by
  have G : FnOk P w K mg base CX0 1 g gd ["text", "signs", "most"] spMade := ok_made D.F B
  refine F.ok scSpells (fun vs H Q E h => ?_) (fun cdv A outer s H vs Q E hr h => ?_)
  · obtain ⟨t, rfl, _⟩ := h
    rfl
  · obtain ⟨t, rfl, hl, q⟩ := h
    refine ⟨_, pss_one (ps_ret (pe_call G hr (by rfl) D.g D.F.kp D.b .nil pass0 (pa_cons (pv 0) (pa_cons (pe_txt (by rfl) B.dg) (pa_cons pe_int pa_nil))))), ?_⟩
    exact ⟨.str t, rfl, t, digits, 8, rfl, hl, q⟩
theorem ok_isAddr {f g g2 : Addr} {fd gd gd2 : FuncData} (F : Fun K "is_address" "is_address" sIsAddr f fd) (D : Dd K mg "spells_address" sSpells ["text"] g gd) (D2 : Dd K mg "made_of" sMade ["text", "signs", "most"] g2 gd2) (B : Blt mg) : FnOk P w K mg base CX0 3 f fd ["text"] (spT isAddr) := by
  have G : FnOk P w K mg base CX0 2 g gd ["text"] (spT isAddr) := ok_spells D.F D2 B
  refine F.ok scIsAddr (fun vs H Q E h => ?_) (fun cdv A outer s H vs Q E hr h => ?_)
  · obtain ⟨t, rfl, _⟩ := h
    rfl
  · obtain ⟨t, rfl, hl, q⟩ := h
    refine ⟨_, pss_one (ps_ret (pe_call G hr (by rfl) D.g D.F.kp D.b .nil pass0 (pa_cons (pv 0) pa_nil))), ?_⟩
    exact ⟨.str t, rfl, t, rfl, hl, q⟩
theorem ok_isName {f g : Addr} {fd gd : FuncData} (F : Fun K "is_name" "is_name" sIsName f fd) (D : Dd K mg "made_of" sMade ["text", "signs", "most"] g gd) (B : Blt mg) : FnOk P w K mg base CX0 2 f fd ["text"] (spT isName) := by
  have G : FnOk P w K mg base CX0 1 g gd ["text", "signs", "most"] spMade := ok_made D.F B
  refine F.ok scIsName (fun vs H Q E h => ?_) (fun cdv A outer s H vs Q E hr h => ?_)
  · obtain ⟨t, rfl, _⟩ := h
    rfl
  · obtain ⟨t, rfl, hl, q⟩ := h
    refine ⟨_, pss_one (ps_ret (pe_and (pe_call G hr (by rfl) D.g D.F.kp D.b .nil pass0 (pa_cons (pv 0) (pa_cons (pe_op op_add_str (pe_txt (by rfl) B.lt) (pe_txt (by rfl) B.dg)) (pa_cons pe_int pa_nil))))
      (pe_one (pe_cmpR op_in_sign (pe_item_str (pv 0) pe_int (fun _ _ => rfl)) (pe_txt (by rfl) B.lt) (by rfl))))), ?_⟩
    refine ⟨.str t, rfl, _, _, rfl, rfl, by decide +kernel, t, letters ++ digits, 12, rfl, hl, fun H1 S1 => ⟨_, rfl, ite2 (fun e => ?_) (fun e => ?_)⟩⟩
    · have e' : (decide (1 ≤ (t.length : Int)) && decide ((t.length : Int) ≤ 12) && t.cps.toList.all (isIn (letters ++ digits))) = true := e
      rw [Bool.and_eq_true, Bool.and_eq_true] at e'
      have h1 : 1 ≤ (t.length : Int) := of_decide_eq_true e'.1.1
      have h2 : 0 < t.cps.size := by
        show 0 < t.length
        omega
      have hc : t.cps[0]? = some t.cps[0] := Array.getElem?_eq_getElem h2
      refine ⟨.str t, rfl, t, 0, t.cps[0], rfl, rfl, by decide, by decide, by omega, hc, t.cps[0], letters, rfl, rfl, ?_⟩
      have en : isName t = decide (t.cps[0] ∈ letters.cps.toList) := by
        unfold isName
        rw [show made t (letters ++ digits) 12 = true from e, hc, Bool.true_and]
        rfl
      rw [← en]
      exact q _ S1
    · have en : isName t = false := by
        unfold isName
        rw [show made t (letters ++ digits) 12 = false from Bool.eq_false_iff.mpr e, Bool.false_and]
      have := q _ S1
      rw [en] at this
      exact this
theorem ok_isLane {f g g2 : Addr} {fd gd gd2 : FuncData} (F : Fun K "_is_lane" "_is_lane" sIsLane f fd) (D : Dd K mg "is_name" sIsName ["text"] g gd) (D2 : Dd K mg "made_of" sMade ["text", "signs", "most"] g2 gd2) (B : Blt mg) : FnOk P w K mg base CX0 3 f fd ["text"] (spT isLane) := by
  have G : FnOk P w K mg base CX0 2 g gd ["text"] (spT isName) := ok_isName D.F D2 B
  refine F.ok scIsLane (fun vs H Q E h => ?_) (fun cdv A outer s H vs Q E hr h => ?_)
  · obtain ⟨t, rfl, _⟩ := h
    rfl
  · obtain ⟨t, rfl, hl, q⟩ := h
    refine ⟨_, pss_one (ps_ret (pe_or (pe_cmpR op_eq (pv 0) (pe_txt (by rfl) B.hr) (nomark _)) (pe_one (pe_call G hr (by rfl) D.g D.F.kp D.b .nil pass0 (pa_cons (pv 0) pa_nil))))), ?_⟩
    refine ⟨.str t, rfl, rfl, _, rfl, ite2 (fun e => ?_) (fun e => ?_)⟩
    · have e1 : V.str t = V.str (Str.ofString "") := of_decide_eq_true e
      have e2 : t = Str.ofString "" := V.str.inj e1
      have el : isLane t = true := by
        unfold isLane
        rw [decide_eq_true e2, Bool.true_or]
      have := q H (Same.refl _)
      rw [el] at this
      exact this
    · have e2 : ¬ t = Str.ofString "" := fun z => e (decide_eq_true (congrArg V.str z))
      have el : isLane t = isName t := by
        unfold isLane
        rw [decide_eq_false e2, Bool.false_or]
      refine ⟨.str t, rfl, t, rfl, hl, fun H' S => ?_⟩
      rw [← el]
      exact q H' S
end
end Tb
namespace Tb
open PySem PySem.Spec PyProof.Rows L2
/-! ### prefixes and lanes: the mirrors -/
/-- the first n signs -/
def pre (a : Str) (n : Nat) : Str := cutS a none (some (n : Int))
abbrev Kvs := List (Key × V)
/-- the longest of the first n beginnings that is a key -/
def lp (kvs : Kvs) (a : Str) : Nat → Option Str
  | 0 => none
  | n + 1 => if (valV kvs (Sum.inr (pre a (n + 1)))).isSome = true then some (pre a (n + 1)) else lp kvs a n
def long (kvs : Kvs) (a : Str) : Option Str := lp kvs a a.length
def oStr : Option Str → V
  | none => .non
  | some z => .str z
/-- the lane of an address -/
def laneV (kvs : Kvs) (a : Str) : V := match long kvs a with
  | none => .non
  | some p => (valV kvs (Sum.inr p)).getD .non
theorem lp_some {kvs : Kvs} {a : Str} : ∀ {n : Nat} {p : Str}, lp kvs a n = some p → ∃ v, valV kvs (Sum.inr p) = some v
  | 0, _, h => by cases h
  | n + 1, p, h => by
    unfold lp at h
    by_cases c : (valV kvs (Sum.inr (pre a (n + 1)))).isSome = true
    · rw [if_pos c] at h
      cases h
      exact Option.isSome_iff_exists.mp c
    · rw [if_neg c] at h
      exact lp_some h
theorem lp_len {kvs : Kvs} {a : Str} : ∀ {n : Nat} {p : Str}, lp kvs a n = some p → p.length ≤ a.length
  | 0, _, h => by cases h
  | n + 1, p, h => by
    unfold lp at h
    by_cases c : (valV kvs (Sum.inr (pre a (n + 1)))).isSome = true
    · rw [if_pos c] at h
      cases h
      exact cutS_length a _ _
    · rw [if_neg c] at h
      exact lp_len h
section
variable {P : Program} {w : World} {K : PySem.W.Frag} {mg : Str → Option Value} {base : Heap}
theorem scLong : FnScope ["prefixes", "address", "end"] ["prefixes", "address"] (defScope sLong) := ⟨rfl, rfl, rfl, by decide +kernel, rfl, by decide +kernel, by decide +kernel⟩
theorem scLane : FnScope ["lanes", "address", "prefix"] ["lanes", "address"] (defScope sLane) := ⟨rfl, rfl, rfl, by decide +kernel, rfl, by decide +kernel, by decide +kernel⟩
/-- a dict and an address in; what g says out, the heap as it was -/
def spDA (g : Kvs → Str → V) : Sp := fun vs H Q _ => ∃ (d : Addr) (kvs : Kvs) (a : Str), vs = [.ref d, .str a] ∧ H d = some (.dK kvs) ∧ a.length ≤ 1000 ∧ Q (g kvs a) H
theorem ok_long {f : Addr} {fd : FuncData} {k : Nat} (F : Fun K "longest_prefix" "longest_prefix" sLong f fd) (B : Blt mg) : FnOk P w K mg base CX0 (k + 1) f fd ["prefixes", "address"] (spDA fun kvs a => oStr (long kvs a)) := by
  refine F.ok scLong (fun vs H Q E h => ?_) (fun cdv A outer s H vs Q E hr h => ?_)
  · obtain ⟨d, kvs, a, rfl, _⟩ := h
    rfl
  · obtain ⟨d, kvs, a, rfl, hd, hl, q⟩ := h
    have hu := hu_of hr
    refine ⟨_, pss_cons (ps_for PassesOwn.never rfl (pi_range3 (by rfl) B.range (pa_cons (pe_callB call_len_str (by rfl) B.len PySem.boot_len (pa_cons (pv 1) pa_nil)) (pa_cons pe_int (pa_cons (pe_un un_neg pe_int) pa_nil)))) (pg_name (i := 2) scLong.nd rfl (.inl rfl))
        (pss_one (ps_if (pt_cmp (pc_din hu (pe_slice sl_str (pv 1) po_none (po_some (pv 2))) (pv 0))) (pss_one (ps_ret (pe_slice sl_str (pv 1) po_none (po_some (pv 2))))) pss_nil)))
      (pss_one (ps_ret pe_non)), ?_⟩
    have hz : sizeLine = 16777216 := rfl
    refine ⟨.str a, rfl, a, rfl, by omega, 1, rfl, (a.length : Int), 0, -1, ((a.length : Int) - 0).toNat, rfl, RgC.neg (by omega) (by omega) (by omega) (by omega), ?_⟩
    refine for_rangeC (lo := (a.length : Int)) (c := -1) (n := ((a.length : Int) - 0).toNat) (fun i σ H' => ∃ y, σ = [some (.ref d), some (.str a), y] ∧ H' = H ∧ long kvs a = lp kvs a (a.length - i)) ⟨none, rfl, rfl, rfl⟩ ?_ ?_
    · rintro i σ H' hi ⟨y, rfl, rfl, e⟩
      have hi' : i < a.length := by omega
      have ei : (a.length : Int) + (i : Int) * -1 = ((a.length - i : Nat) : Int) := by omega
      rw [ei]
      refine ⟨.str a, rfl, .int ((a.length - i : Nat) : Int), rfl, ((a.length - i : Nat) : Int), rfl, a, rfl, by omega, .ref d, rfl, d, _, rfl, DGet.k (k := Sum.inr (pre a (a.length - i))) hd, ?_⟩
      obtain ⟨m, em⟩ : ∃ m, a.length - i = m + 1 := ⟨a.length - i - 1, by omega⟩
      by_cases c : (valV kvs (Sum.inr (pre a (a.length - i)))).isSome = true
      · refine ⟨_, rfl, ?_⟩
        rw [c]
        refine ⟨.str a, rfl, .int ((a.length - i : Nat) : Int), rfl, ((a.length - i : Nat) : Int), rfl, a, rfl, by omega, ?_⟩
        have : long kvs a = some (pre a (a.length - i)) := by
          rw [e, em]
          unfold lp
          rw [← em, if_pos c]
        have q : Q (oStr (long kvs a)) H' := q
        rw [this] at q
        exact q
      · refine ⟨_, rfl, ?_⟩
        rw [Bool.eq_false_iff.mpr c]
        refine ⟨_, rfl, rfl, ?_⟩
        rw [e, em]
        show (if (valV kvs (Sum.inr (pre a (m + 1)))).isSome = true then some (pre a (m + 1)) else lp kvs a m) = _
        rw [← em, if_neg c, show a.length - (i + 1) = m by omega]
    · rintro σ H' ⟨y, rfl, rfl, e⟩
      rw [show a.length - ((a.length : Int) - 0).toNat = 0 by omega] at e
      have q : Q (oStr (long kvs a)) H' := q
      rw [e] at q
      exact q
theorem ok_lane {f g : Addr} {fd gd : FuncData} (F : Fun K "_lane" "_lane" sLane f fd) (D : Dd K mg "longest_prefix" sLong ["prefixes", "address"] g gd) (B : Blt mg) : FnOk P w K mg base CX0 2 f fd ["lanes", "address"] (spDA laneV) := by
  have G : FnOk P w K mg base CX0 1 g gd ["prefixes", "address"] (spDA fun kvs a => oStr (long kvs a)) := ok_long D.F B
  refine F.ok scLane (fun vs H Q E h => ?_) (fun cdv A outer s H vs Q E hr h => ?_)
  · obtain ⟨d, kvs, a, rfl, _⟩ := h
    rfl
  · obtain ⟨d, kvs, a, rfl, hd, hl, q⟩ := h
    have hu := hu_of hr
    refine ⟨_, pss_cons (ps_set (i := 2) scLane.nd rfl (.inl rfl) (pe_call G hr (by rfl) D.g D.F.kp D.b .nil pass0 (pa_cons (pv 0) (pa_cons (pv 1) pa_nil))))
      (pss_cons (ps_if (pt_cmpR op_isN (pv 2) pe_non (nomark _)) (pss_one (ps_ret pe_non)) pss_nil)
      (pss_one (ps_ret (pe_dget hu (pv 0) (pv 2) (fun _ _ => rfl))))), ?_⟩
    refine ⟨.ref d, rfl, .str a, rfl, d, kvs, a, rfl, hd, hl, ?_⟩
    have q : Q (laneV kvs a) H := q
    show gName 2 (oStr (long kvs a)) _ _ _
    unfold laneV at q
    cases e : long kvs a with
    | none =>
      rw [e] at q
      exact ⟨.non, rfl, rfl, true, rfl, q⟩
    | some p =>
      rw [e] at q
      obtain ⟨v, ev⟩ := lp_some e
      have q : Q ((valV kvs (Sum.inr p)).getD .non) H := q
      rw [ev] at q
      refine ⟨.str p, rfl, rfl, false, rfl, .ref d, rfl, .str p, rfl, d, v, rfl, ?_, q⟩
      rw [← ev]
      exact DGet.k (k := Sum.inr p) hd
end
end Tb
namespace Tb
open PySem PySem.Spec PyProof.Rows L2
open PySem.W (EachIs AllAlike Sortable dataLe)
/-! ### sorted, any number of items -/
theorem vals_each : ∀ {bs : List (V × PyData)} {us : List Value}, Vals (bs.map Prod.fst) us → EachIs (fun (v : Value) (b : V × PyData) => RelV b.1 v) us bs
  | [], _, r => by cases r; exact .nil
  | b :: bs, _, r => by
    cases r with
    | cons r1 r2 => exact .cons r1 (vals_each r2)
theorem each_vals : ∀ {bs : List (V × PyData)} {us : List Value}, EachIs (fun (v : Value) (b : V × PyData) => RelV b.1 v) us bs → Vals (bs.map Prod.fst) us
  | [], _, r => by cases r; exact .nil
  | b :: bs, _, r => by
    cases r with
    | cons r1 r2 => exact .cons r1 (each_vals r2)
theorem each_imp {α β : Type} {R S : α → β → Prop} : ∀ {as : List α} {bs : List β}, EachIs R as bs → (∀ a b, b ∈ bs → R a b → S a b) → EachIs S as bs
  | _, _, .nil, _ => .nil
  | _, _, .cons h t, k => .cons (k _ _ (List.mem_cons_self ..) h) (each_imp t fun a b hb => k a b (List.mem_cons_of_mem _ hb))
def rSortDt (K : PySem.W.Frag) : List V → Hp → VK → Prop := fun vs H Q => ∃ (a : Addr) (bs : List (V × PyData)), vs = [.ref a] ∧ SqL K H a (bs.map Prod.fst) ∧ (∀ b ∈ bs, Dp K H b.1 b.2) ∧ AllAlike (bs.map Prod.snd) ∧ Sortable (bs.map Prod.snd) ∧ (∀ b ∈ bs, b.2.depth ≤ 10) ∧
  ∀ p, H p = none → Q (.ref p) (upd H p (.lst ((bs.mergeSort (dataLe false Prod.snd)).map Prod.fst)))
section
variable {X : Cx}
theorem cr_sortedDt (hu : X.A.units + 64 < cLine) : CallR X (.builtin "sorted") (rSortDt X.K) := by
  intro pins s σ H vs us Q I r h
  obtain ⟨a, bs, rfl, hs, hd, hal, hso, hdp, q⟩ := h
  obtain ⟨its, rv, hl, hz⟩ := I.list hs
  rw [Vals.ref1 r]
  have e := vals_each rv
  rw [List.length_map] at hz
  refine PySem.W.sorted_data (enc := Prod.snd) hl.isList e (each_imp e fun v b hb rb => Dp.reads I b.2 b.1 v (hd b hb) rb) hal hso hz (fun b hb => by have := hdp b hb; omega) fun out ho eo => ?_
  obtain ⟨ep, he'⟩ := PyProof.Rows.sortedAll_at s.heap its out.toArray
  have hlen : ((bs.mergeSort (dataLe false Prod.snd)).map Prod.fst).length ≤ sizeLine := by
    rw [List.length_map, List.length_mergeSort]
    exact hz
  exact ⟨.ref _, upd H (s.heap.objs.size + 1) (.lst ((bs.mergeSort (dataLe false Prod.snd)).map Prod.fst)), I.laid (t' := s.toks) (fun _ _ => PyProof.Rows.sortedAll_old) (Nat.le_succ _) ⟨hlen, out, ep, each_vals eo, he'⟩, rfl, q _ (I.hok.fresh (Nat.le_succ _))⟩
/-- sorted(d), the keys texts, any number of them -/
theorem cr_sortedDk (hcalm : X.calm = true) (hu : X.A.units + 64 < cLine) : CallR X (.builtin "sorted") (fun xs H Q => ∃ (a : Addr) (kvs : List (Key × V)) (ks : List Str), xs = [.ref a] ∧ Rd H a (.dK kvs) ∧ kvs.map (·.1) = ks.map Sum.inr ∧ ks.length ≤ 1000 ∧
    ∀ p, H p = none → Q (.ref p) (upd H p (.lst ((ks.mergeSort (dataLe false PyData.str)).map V.str)))) := by
  intro pins s σ H xs us Q I r q
  obtain ⟨a, kvs, ks, rfl, hd, hks, hln, q⟩ := q
  obtain ⟨u, rfl, rx⟩ := vals1 r
  cases rx
  obtain ⟨z, lo, vs, rel, dd⟩ := dk_rd I.hok hd
  obtain ⟨ep, hat⟩ := dd.dictAt
  have hkeys : vs.map (·.1) = ks.map Sum.inr := rel.keys.symm.trans hks
  have hl : vs.length = ks.length := by
    have e := congrArg List.length hkeys
    rwa [List.length_map, List.length_map] at e
  have hline : sizeLine = 16777216 := rfl
  refine Calls.call_function_entry PyProof.Rows.kind_sorted PyProof.Rows.plain_sorted PyProof.Rows.entry_sorted (PyProof.Rows.args_sorted1 _) ?_
  unfold Builtin.«sorted»
  refine wpAny_bind (m := checkCount "sorted" 1 1 _) (wpAny_pure ?_)
  refine wpAny_bind (PySem.W.kdu_collect (A := X.A.in1) (PySem.W.kdl_dict (knd := mixKind X.prog X.w) (kvs := vs) (ep := ep) lo) (I.ok.hd hcalm) hat (by omega) fun h' tk acc hk hacc => ?_)
  have hal : acc.toList.length = ks.length := by rw [Array.length_toList, hacc.1, hl]
  -- the values are the texts
  have each : EachIs (fun (v : Value) (x : Str) => ∃ t, v = .str x t) acc.toList ks := by
    have gen : ∀ (n : Nat) (us : List Value) (xs : List Str), us.length = xs.length → (∀ (j : Nat) (v : Value), us[j]? = some v → ∃ (x : Str) (t : Tok), xs[j]? = some x ∧ v = Value.str x t) →
      EachIs (fun (v : Value) (x : Str) => ∃ t, v = .str x t) us xs := by
      intro _ us
      induction us with
      | nil =>
        intro xs e _
        cases xs with
        | nil => exact .nil
        | cons _ _ => cases e
      | cons u us ih =>
        intro xs e k
        cases xs with
        | nil => cases e
        | cons x xs =>
          obtain ⟨x', t, e1, e2⟩ := k 0 u rfl
          cases e1
          exact .cons ⟨t, e2⟩ (ih xs (Nat.succ.inj e) fun j v hv => k (j + 1) v hv)
    refine gen 0 _ _ hal fun j v e => ?_
    obtain ⟨k, x, e1, e2⟩ := hacc.2 j v (by rw [← Array.getElem?_toList]; exact e)
    have e3 : (vs.map (·.1))[j]? = some k := by rw [List.getElem?_map, e1]; rfl
    rw [hkeys, List.getElem?_map] at e3
    cases e4 : ks[j]? with
    | none => rw [e4] at e3; cases e3
    | some y =>
      rw [e4] at e3
      cases (Option.some.inj e3 : Sum.inr y = k)
      obtain ⟨t, ev⟩ := Value.isStrOf_shape (x := y) (v := v) e2
      exact ⟨y, t, rfl, ev⟩
  have I1 : Inv X pins σ H { s with heap := h', toks := tk } := I.kept hk
  refine wpAny_bind (wpAny_newList ?_ (by rw [hal]; omega))
  have hoL : (h'.push (seqObj "list" acc.toList.toArray 0)).get? h'.objs.size = some (seqObj "list" acc.toList.toArray 0) := Heap.get?_push_size _ rfl
  show wpAny _ _ _ _ _ { s with heap := h'.push (seqObj "list" acc.toList.toArray 0), toks := tk }
  have alike1 : AllAlike (ks.map PyData.str) := fun d hd d' hd' => by
    obtain ⟨x, _, rfl⟩ := List.mem_map.mp hd
    obtain ⟨y, _, rfl⟩ := List.mem_map.mp hd'
    simp [PySem.W.alike]
  have srt1 : Sortable (ks.map PyData.str) := .inr fun d hd => by
    obtain ⟨x, _, rfl⟩ := List.mem_map.mp hd
    exact ⟨PyData.noConfusion, fun _ => PyData.noConfusion⟩
  refine wpAny_bind (wpAny_holding (PySem.W.list_sort_data (enc := PyData.str) (s := { s with heap := h'.push (seqObj "list" acc.toList.toArray 0), toks := tk }) hoL each (each_imp each fun v x _ ⟨t, e⟩ => ⟨[], by rw [e]; exact Reads.str x t, List.not_mem_nil⟩) alike1 srt1 (by omega) ?k4 fun out ho eo => ?_))
  case k4 =>
    intro b _
    have h1 : (PyData.str b).depth ≤ 1 := by simp [PyData.depth]
    have h2 : X.A.in1.units = X.A.units + 1 := rfl
    omega
  obtain ⟨ep', he'⟩ := PyProof.Rows.sortedHeap_at (vs := acc.toList) (out := out.toArray) hoL
  have hlen : ((ks.mergeSort (dataLe false PyData.str)).map V.str).length ≤ sizeLine := by
    rw [List.length_map, List.length_mergeSort]
    omega
  have ev : Vals ((ks.mergeSort (dataLe false PyData.str)).map V.str) out := by
    generalize ks.mergeSort (dataLe false PyData.str) = zs at eo
    clear ho he' hlen
    induction eo with
    | nil => exact .nil
    | cons h _ ih => exact .cons h ih
  have hnew : H h'.objs.size = none := I1.hok.fresh (Nat.le_refl _)
  refine wpAny_pure ⟨_, rfl, .ref h'.objs.size, upd H h'.objs.size (.lst ((ks.mergeSort (dataLe false PyData.str)).map V.str)), I1.laid (t' := tk) (fun b o e => ?_) (Nat.le_refl _) ⟨hlen, out, ep', ev, he'⟩, rfl, q _ hnew⟩
  have hb : b < h'.objs.size := Heap.lt_size e
  rw [PyProof.Rows.sortedHeap_old (Nat.ne_of_lt hb) (by rw [size_push']; exact Nat.lt_succ_of_lt hb)]
  exact Heap.get?_push_of_some _ e
end
end Tb
namespace Tb
open PySem PySem.Spec PyProof.Rows L2
open PySem.W (EachIs AllAlike Sortable dataLe)
/-! ### sorted(d.items()) -/
abbrev Pr := Str × Str
def enc2 (p : Pr) : PyData := .tuple [.str p.1, .str p.2]
def kvP (ps : List Pr) : Kvs := ps.map fun p => (Sum.inr p.1, V.str p.2)
section
variable {prog : Program} {w : World} {κ : Type} [DecidableEq κ] {knd : KeyKind prog w κ} {A : Around} {E : Value → Shared → Prop} {s : Shared} {r d : Addr} {kvs : List (κ × Value)} {ep : Nat}
theorem collect_items {R : List Value → Shared → Prop} (hh : A.handled = none) (hv : s.heap.IsItemsView r d) (hm : s.heap.DictAt knd d kvs ep) (hn : kvs.length ≤ sizeLine)
    (h : ∀ (h' : Heap) (tk : Nat) (acc : Array Value) (c : Nat) (as : List Addr), (∀ b o, s.heap.get? b = some o → h'.get? b = some o) → h'.get? s.heap.objs.size = some { cls := .type "list", dict := none, data := .seq acc c, slots := #[] } → as.length = kvs.length → PySem.W.KdxG knd kvs s.heap.objs.size h' as →
      acc.toList = as.map Value.ref → R (as.map Value.ref) { s with heap := h', toks := tk }) :
    wpAny (model prog w) A (collect (.ref r)) R E s := by
  obtain ⟨ov, hov, hvr⟩ := id hv
  have hr : r < s.heap.objs.size := Heap.lt_size hov
  have hd : d < s.heap.objs.size := by
    obtain ⟨od, _, hod, _⟩ := id hm
    exact Heap.lt_size hod
  unfold collect
  refine wpAny_bind (wpAny_runValue (codeAny_builtin entry_proto_collect' ?_))
  rw [Around.under_plainId PySem.F.plain_proto_collect _]
  show wpAny _ A.in1 (newList [] >>= fun l => again (.builtin "list.__iadd__" ⟨[l, .ref r], []⟩)) _ _ s
  refine wpAny_bind (wpAny_newObj_type ?_)
  refine wpAny_pure ⟨plainId_quiet PySem.F.plain_list_iadd _, codeAny_builtin entry_list_iadd' ?_⟩
  rw [Around.under_plainId PySem.F.plain_list_iadd _]
  have up : ∀ b o, s.heap.get? b = some o → (s.heap.push { cls := .type "list", data := .seq ([] : List Value).toArray }).get? b = some o := fun b o e => Heap.get?_push_of_some _ e
  have key := PySem.W.kdx_extend (A := A) (knd := knd) (kvs := kvs) (ep := ep) (s := { s with heap := s.heap.push { cls := .type "list", data := .seq ([] : List Value).toArray } })
    (R := fun (q : Result) (s' : Shared) => ∃ (h' : Heap) (tk : Nat) (acc : Array Value) (c : Nat) (as : List Addr), q = .ok (.ret (.ref s.heap.objs.size)) ∧ s' = { s with heap := h', toks := tk } ∧ (∀ b o, s.heap.get? b = some o → h'.get? b = some o) ∧
      h'.get? s.heap.objs.size = some { cls := .type "list", dict := none, data := .seq acc c, slots := #[] } ∧ as.length = kvs.length ∧ PySem.W.KdxG knd kvs s.heap.objs.size h' as ∧ acc.toList = as.map Value.ref)
    hh ⟨ov, up _ _ hov, hvr⟩ (hm.at' fun o e => up _ _ e) s.heap.objs.size (Nat.ne_of_gt hr) (Nat.ne_of_lt hd) (.ref s.heap.objs.size) 0 (Heap.get?_push_size _ rfl)
    (fun h' tk acc c as hk hS hl hG hacc => ⟨h', tk, acc, c, as, rfl, rfl, fun b o e => hk b o (Nat.ne_of_lt (Heap.lt_size e)) (up _ _ e), hS, hl, hG.low (by show s.heap.objs.size ≤ (s.heap.push _).objs.size; rw [Heap.size_push]; exact Nat.le_succ _), hacc⟩) hn
  refine wpAny_mono key (fun fin s' x => ?_) fun e s' x => ?_
  · cases fin with
    | done f =>
      obtain ⟨h', tk, acc, c, as, e, rfl, hk, hS, hl, hG, hacc⟩ := x
      cases e
      show wpAny _ A (load s.heap.objs.size >>= _) _ _ _
      refine wpAny_bind (wpAny_load hS ?_)
      refine wpAny_pure ?_
      show R acc.toList _
      rw [hacc]
      exact h h' tk acc c as hk hS hl hG hacc
    | again c₁ =>
      refine ⟨x.1, codeAny_mono x.2 fun q s₂ y => ?_⟩
      obtain ⟨h', tk, acc, c, as, rfl, rfl, hk, hS, hl, hG, hacc⟩ := y
      show wpAny _ A (load s.heap.objs.size >>= _) _ _ _
      refine wpAny_bind (wpAny_load hS ?_)
      refine wpAny_pure ?_
      show R acc.toList _
      rw [hacc]
      exact h h' tk acc c as hk hS hl hG hacc
  · obtain ⟨_, _, _, _, _, e', _⟩ := x
    cases e'
end
/-- the order of the pairs, and of the texts -/
def le2 : Pr → Pr → Bool := dataLe false enc2
def le1 : Str → Str → Bool := dataLe false PyData.str
theorem alike2 (ps : List Pr) : AllAlike (ps.map enc2) := fun d hd d' hd' => by
  obtain ⟨x, _, rfl⟩ := List.mem_map.mp hd
  obtain ⟨y, _, rfl⟩ := List.mem_map.mp hd'
  simp [enc2, PySem.W.alike, PySem.W.alikeAll]
theorem sortable2 (ps : List Pr) : Sortable (ps.map enc2) := .inl fun d hd => by
  obtain ⟨x, _, rfl⟩ := List.mem_map.mp hd
  exact ⟨_, _, rfl⟩
theorem depth2 (p : Pr) : (enc2 p).depth ≤ 2 := by simp [enc2, PyData.depth, PyData.depthAll]
/-- a list of refs to pairs of texts -/
structure PrsAt (K : PySem.W.Frag) (H : Hp) (l : Addr) (ts : List (Addr × Pr)) : Prop where
  l : SqL K H l (ts.map fun t => V.ref t.1)
  t : ∀ t ∈ ts, SqT K H t.1 [.str t.2.1, .str t.2.2]
theorem kvP_keys (ps : List Pr) : (kvP ps).map (·.1) = (ps.map (·.1)).map Sum.inr := by
  unfold kvP
  rw [List.map_map, List.map_map]
  rfl
/-- sorted(e.items()) -/
def tSortItems (te : TE) : TE := fun σ H Q => te σ H fun x H1 => ∃ (d : Addr) (ps : List Pr), x = .ref d ∧ H1 d = some (.dK (kvP ps)) ∧ ps.length ≤ 1000 ∧
  ∀ (H' : Hp) (p : Addr) (ts : List (Addr × Pr)), Same H1 H' → H1 p = none → H' p = some (.lst (ts.map fun t => V.ref t.1)) → (∀ t ∈ ts, H' t.1 = some (.tup [.str t.2.1, .str t.2.2])) → ts.map (·.2) = ps.mergeSort le2 → Q (.ref p) H'
section
variable {X : Cx} {e : Expr} {te : TE} {p apos cpos pos : Pos}
theorem pe_sortedItems (hc : X.calm = true) (hu : X.A.units + 64 < cLine) (he : PE X e te) (hg : Gl X "sorted") (hm : X.mg "sorted" = none) (hbase : attributeBase e "items" X.env (eval e X.env) = eval e X.env := by rfl) (hline : (apos.endLine == cpos.line) = true := by rfl)
    (hs : starEach [.Call (.Attribute e "items" apos) [] [] cpos] X.env = (false, eval (.Call (.Attribute e "items" apos) [] [] cpos) X.env) :: starEach [] X.env := by rfl) :
    PE X (.Call (.Name "sorted" p) [.Call (.Attribute e "items" apos) [] [] cpos] [] pos) (tSortItems te) := by
  refine ⟨fun pins s σ H Q I hq => ?_⟩
  refine wpAny_Call_Name_kw (ld_blt I hg hm PyProof.Rows.boot_sorted ?_)
  refine PyProof.Rows.callWith_builtin1 ?_ hs rfl
  rw [hs]
  show wpAny _ _ (spliced ((false, eval (.Call (.Attribute e "items" apos) [] [] cpos) X.env) :: backTo pos (starEach [] X.env))) _ _ s
  refine Calls.spliced_cons ?_
  refine wpAny_Call_method (T := "dict") (id := "dict.items") hbase rfl hline PySem.F.plainAttrs_dict PySem.F.slot_dict_items PySem.F.type_dict_items (thn (he.run pins s σ H _ I hq) fun u s1 ⟨x, H1, I1, rx, d, ps, ex, hd, hln, q⟩ => ?_)
  subst ex
  obtain rfl : u = Value.ref d := rx
  obtain ⟨hz, hs0, vs, kv, hdo⟩ := I1.hok d _ hd
  obtain ⟨ep, hat⟩ := hdo.dictAt
  have lk : (kvP ps).length = vs.length := Paired.length kv
  have lps : (kvP ps).length = ps.length := by unfold kvP; rw [List.length_map]
  have hline' : sizeLine = 16777216 := rfl
  have I2 : Inv X pins σ H1 { s1 with heap := s1.heap.push { cls := .type "dict_items", data := .fields #[.ref d] } } := I1.kept (t' := s1.toks) fun b ob q => Heap.get?_push_of_some _ q
  refine ⟨hdo.typeIs, hdo.mapOf.noDict, ?_⟩
  show wpAny _ _ (callWith cpos (.builtin "dict.items") [.ref d] [] []) _ X.xe s1
  refine method_meetsIn PySem.F.slot_dict_items PySem.F.entry_dict_items rfl (PySem.evalArgs_none ⟨rfl, hdo.typeIs, PySem.F.args_dict_items_1 _, _, meets_dict_items (mixKind X.prog X.w) d hs0, ⟨vs, hdo⟩, ?_⟩)
  refine Calls.spliced_nil ?_
  refine Calls.call_function_entry PyProof.Rows.kind_sorted PyProof.Rows.plain_sorted PyProof.Rows.entry_sorted (PyProof.Rows.args_sorted1 _) ?_
  unfold Builtin.«sorted»
  refine wpAny_bind (m := checkCount "sorted" 1 1 _) (wpAny_pure ?_)
  refine wpAny_bind (collect_items (A := X.A.in1) (knd := mixKind X.prog X.w) (kvs := vs) (ep := ep) (I1.ok.hd hc) ⟨_, Heap.get?_push_size _ rfl, rfl, rfl⟩ (hat.push _) (by omega) fun h' tk acc c as hk hS hl hG hacc => ?_)
  obtain ⟨H', k1, k2, k3, k4, k5, k6, J⟩ := LiI.items_laid (tk := tk) I2 hz kv hk hS hl hG hacc
  have las : as.length = ps.length := by omega
  -- the pairs with their places
  have pr : ∀ t ∈ as.zip ps, H' t.1 = some (.tup [.str t.2.1, .str t.2.2]) := by
    intro t ht
    obtain ⟨j, hj⟩ := List.mem_iff_getElem?.mp ht
    rw [List.getElem?_zip_eq_some] at hj
    obtain ⟨y, hy, hy2⟩ := LiI.paired_get k6 hj.1
    unfold kvP at hy
    rw [List.getElem?_map, hj.2] at hy
    cases (Option.some.inj hy)
    exact hy2
  have z1 : (as.zip ps).map Prod.fst = as := List.map_fst_zip (by omega)
  have z2 : (as.zip ps).map Prod.snd = ps := List.map_snd_zip (by omega)
  generalize as.zip ps = bs at pr z1 z2
  have lbs : bs.length = as.length := by rw [← z1, List.length_map]
  refine wpAny_bind (wpAny_newList ?_ (by rw [List.length_map]; omega))
  have hoL : (h'.push (seqObj "list" (as.map Value.ref).toArray 0)).get? h'.objs.size = some (seqObj "list" (as.map Value.ref).toArray 0) := Heap.get?_push_size _ rfl
  show wpAny _ _ _ _ _ { s1 with heap := h'.push (seqObj "list" (as.map Value.ref).toArray 0), toks := tk }
  have e2 : bs.map (fun t : Addr × Pr => enc2 t.2) = ps.map enc2 := by rw [← z2, List.map_map]; rfl
  have each : EachIs (fun (v : Value) (t : Addr × Pr) => v = .ref t.1) (as.map Value.ref) bs := by
    rw [← z1, List.map_map]
    clear pr z1 z2 lbs e2
    induction bs with
    | nil => exact .nil
    | cons b bs ih => exact .cons rfl ih
  have Jn := J
  have old : ∀ b o, h'.get? b = some o → (h'.push (seqObj "list" (as.map Value.ref).toArray 0)).get? b = some o := fun b o e => Heap.get?_push_of_some _ e
  have rd : EachIs (fun (v : Value) (t : Addr × Pr) => ∃ as', Reads (h'.push (seqObj "list" (as.map Value.ref).toArray 0)) v (enc2 t.2) as' ∧ h'.objs.size ∉ as') (as.map Value.ref) bs := by
    refine each_imp each fun v t ht hv => ?_
    subst hv
    obtain ⟨_, its, rv, o, h1, h2, n, h3⟩ := (show ObjOk X.prog X.w H' h' t.1 (.tup [.str t.2.1, .str t.2.2]) from J.hok t.1 _ (pr t ht))
    obtain ⟨u1, u2, rfl, r1, r2⟩ := vals2 rv
    obtain ⟨t1, rfl⟩ := r1
    obtain ⟨t2, rfl⟩ := r2
    exact ⟨[], Reads.tuple (old _ _ h1) h2 h3 (ReadsAll.cons (Reads.str _ _) (ReadsAll.cons (Reads.str _ _) ReadsAll.nil)), List.not_mem_nil⟩
  refine wpAny_bind (wpAny_holding (PySem.W.list_sort_data (enc := fun t : Addr × Pr => enc2 t.2) (s := { s1 with heap := h'.push (seqObj "list" (as.map Value.ref).toArray 0), toks := tk }) hoL each rd (by rw [e2]; exact alike2 ps) (by rw [e2]; exact sortable2 ps) (by omega) ?k4 fun out ho eo => ?_))
  case k4 =>
    intro b _
    have h1 := depth2 b.2
    have h2 : X.A.in1.units = X.A.units + 1 := rfl
    omega
  obtain ⟨ep', he'⟩ := PyProof.Rows.sortedHeap_at (vs := as.map Value.ref) (out := out.toArray) hoL
  have hsm : (bs.mergeSort (dataLe false fun t : Addr × Pr => enc2 t.2)).map (·.2) = ps.mergeSort le2 := by
    have h := PySem.W.sort_maps (r := dataLe false fun t : Addr × Pr => enc2 t.2) (s := le2) (l := bs) (fun t : Addr × Pr => t.2) (fun _ _ _ _ => rfl)
    rw [z2] at h
    exact h
  have hmem : ∀ t ∈ bs.mergeSort (dataLe false fun t : Addr × Pr => enc2 t.2), H' t.1 = some (.tup [.str t.2.1, .str t.2.2]) := fun t ht => pr t (List.mem_mergeSort.mp ht)
  have hlen : ((bs.mergeSort (dataLe false fun t : Addr × Pr => enc2 t.2)).map fun t => V.ref t.1).length ≤ sizeLine := by
    rw [List.length_map, List.length_mergeSort]
    omega
  generalize bs.mergeSort (dataLe false fun t : Addr × Pr => enc2 t.2) = ts at eo hsm hmem hlen
  have ev : Vals (ts.map fun t => V.ref t.1) out := by
    clear ho he' hlen hsm hmem
    induction eo with
    | nil => exact .nil
    | cons h _ ih => exact .cons h ih
  have hnew : H' h'.objs.size = none := J.hok.fresh (Nat.le_refl _)
  refine wpAny_pure ⟨_, rfl, .ref h'.objs.size, upd H' h'.objs.size (.lst (ts.map fun t => V.ref t.1)), J.laid (t' := tk) (fun b o e => ?_) (Nat.le_refl _) ⟨hlen, out, ep', ev, he'⟩, rfl, q _ _ ts ((show Same H1 H' from k1).trans (same_upd hnew)) ((show Same H1 H' from k1).free hnew) upd_same (fun t ht => by rw [upd_ne (ne_of_none (hmem t ht) hnew)]; exact hmem t ht) hsm⟩
  have hb : b < h'.objs.size := Heap.lt_size e
  rw [PyProof.Rows.sortedHeap_old (Nat.ne_of_lt hb) (by rw [size_push']; exact Nat.lt_succ_of_lt hb)]
  exact old b o e
end
end Tb
namespace Tb
open PySem PySem.Spec PyProof.Rows L2
/-! ### errors with one field (as in wip/k17 X17A, over this text) -/
structure ErrC (K : PySem.W.Frag) (C fI : Addr) (n : Str) : Prop where
  ox : OexC K C
  xf : XfC K C
  no : PySem.W.findIn K (.ref C) n = some none
  iC : PySem.W.findIn K (.ref C) "__init__" = some (some (.ref fI))
  tI : PySem.W.typeIn K (.ref fI) = some (.type "function")
  cl : (PySem.W.clsIn K C).isSome = true
  ha : PySem.W.findIn K (.ref C) "__class__" = some (some (.builtin "object.__class__"))
  hm : PySem.W.mroIn K C (.type "object") = some true
  hn : PySem.W.specialIn K (.builtin "object.__class__") "__get__" = some (some (.builtin "getset_descriptor.__get__"))
  tk : PySem.W.takesIn K (.builtin "object.__class__") = some true
def spErr (K : PySem.W.Frag) (n : Str) : Sp := fun vs H Q _ => ∃ (a C : Addr) (v : V), vs = [.ref a, v] ∧ OexC K C ∧ PySem.W.findIn K (.ref C) n = some none ∧ H a = some (exo a C none) ∧ ∀ dx, H dx = none → dx ≠ a → Q .non (upd (upd H dx (exd dx [(n, v)])) a (exo a C (some dx)))
theorem err_made {K : PySem.W.Frag} {C fI : Addr} {n : Str} (T : ErrC K C fI n) {v : V} {H : Hp} {Q : XK} (q : ∀ d H', Same H H' → H' d = some (.xd [(n, v)]) → Q (.ref C) (some d) H') :
    ∀ a, H a = none → spErr K n [.ref a, v] (upd H a (exo a C none)) (fun u H2 => u = .non ∧ ∃ (d : Addr) (fs : List (Str × V)), H2 a = some (exo a C (some d)) ∧ H2 d = some (exd d fs) ∧ H d = none ∧ Q (.ref C) (some d) (upd (del H2 a) d (.xd fs))) (fun _ _ _ => False) := by
  intro a na
  refine ⟨a, C, v, rfl, T.ox, T.no, upd_same, fun d nd da => ⟨rfl, d, [(n, v)], upd_same, ?_, ?_, ?_⟩⟩
  · rw [upd_ne da]
    exact upd_same
  · rw [upd_ne da] at nd
    exact nd
  · rw [upd_ne da] at nd
    refine q d _ (fun b o hb => ?_) upd_same
    have hba : b ≠ a := ne_of_none hb na
    have hbd : b ≠ d := ne_of_none hb nd
    rw [upd_ne hbd, del_ne hba, upd_ne hba, upd_ne hbd, upd_ne hba]
    exact hb
section
variable {X : Cx} {a D : Addr} {oe : Obj} {pn : List (Addr × Obj)} {d : Option Addr} {cls : Value}
def rIsX (K : PySem.W.Frag) (D a : Addr) (cls : Value) (d : Option Addr) : List V → Hp → VK → Prop := fun xs H Q => cls = .ref D ∧ ∃ (c : V) (cv : Value) (b : Bool) (dd : Addr) (fs : List (Str × V)), xs = [.ref a, c] ∧ ClsV c cv ∧ d = some dd ∧ H dd = some (.xd fs) ∧ PySem.W.kitOne K (.ref D) cv = some b ∧ Q (.bl b) H
theorem inst_at {pins : List (Addr × Obj)} {σ : L2.St} {H : Hp} {s : Shared} {dd : Addr} {fs : List (Str × V)} (hz : Zc (.ref D) (some dd) oe) (hf : ∃ vs, oe.data = .fields vs) (I : Inv (X.suite a ((a, oe) :: pn)) pins σ H s) (hd : H dd = some (.xd fs)) : ∃ od, PySem.W.InstAt s.heap a oe D (some od) := by
  obtain ⟨ha, _⟩ := I.pin (a, oe) (List.mem_append_left _ List.mem_cons_self)
  obtain ⟨vs, hv⟩ := hf
  have hx : ObjOk X.prog X.w H s.heap dd (.xd fs) := I.hok dd _ hd
  obtain ⟨mA, hns, _⟩ := hx
  obtain ⟨od, ho, _⟩ := lookIn_ns hns
  refine ⟨od, ha, hz.1, ?_, ?_⟩
  · unfold PySem.W.notCls
    rw [hv]
  · rw [hz.2]
    exact ho
theorem call_isX {fI : Addr} {n : Str} (T : ErrC X.K D fI n) (hz : Zc cls d oe) (hf : ∃ vs, oe.data = .fields vs) : CallR (X.suite a ((a, oe) :: pn)) (.builtin "isinstance") (rIsX X.K D a cls d) := by
  intro pins s σ H xs us Q I r h
  obtain ⟨rfl, c, cv, b, dd, fs, rfl, hc, rfl, hdd, e, q⟩ := h
  obtain ⟨u1, u2, rfl, r1, r2⟩ := vals2 r
  cases (show u1 = Value.ref a from r1)
  obtain rfl := hc.eq r2
  obtain ⟨od, J⟩ := inst_at hz hf I hdd
  exact PySem.W.kia_one (PySem.W.kitx_exc T.cl T.xf.ga T.xf.gg T.xf.exC T.ha T.hn T.tk T.hm) I.kIn J e (fun z => nomatch z) fun tk => ⟨.bl b, H, I.tok tk, rfl, q⟩
end
abbrev sInv : Stmt := inClass (topS 3) 0
abbrev sUnk : Stmt := inClass (topS 4) 0
theorem scInv : FnScope ["self", "what"] ["self", "what"] (defScope sInv) := ⟨rfl, rfl, rfl, by decide +kernel, rfl, by decide +kernel, by decide +kernel⟩
theorem scUnk : FnScope ["self", "name"] ["self", "name"] (defScope sUnk) := ⟨rfl, rfl, rfl, by decide +kernel, rfl, by decide +kernel, by decide +kernel⟩
abbrev wWhat : Str := ("what" : String)
abbrev wName : Str := ("name" : String)
abbrev wTable : Str := ("table" : String)
abbrev wLanes : Str := ("_lanes" : String)
/-- a method of the text -/
structure Mm (K : PySem.W.Frag) (x qual : Str) (st : Stmt) (ps : List Str) (f : Addr) (fd : FuncData) : Prop where
  F : Fun K x qual st f fd
  b : Binds K fd ps []
section
variable {P : Program} {w : World} {K : PySem.W.Frag} {mg : Str → Option Value} {base : Heap}
theorem ok_inv {f : Addr} {fd : FuncData} {k : Nat} (F : Fun K "__init__" "Invalid.__init__" sInv f fd) : FnOk P w K mg base CX0 (k + 1) f fd ["self", "what"] (spErr K wWhat) := by
  refine F.ok scInv (fun vs H Q E h => ?_) (fun cdv A outer s H vs Q E hr h => ?_)
  · obtain ⟨a, C, v, rfl, _⟩ := h
    rfl
  · obtain ⟨a, C, v, rfl, ox, no, ha, q⟩ := h
    refine ⟨_, pss_one (ps_ost (pv 0) (pv 1)), ?_⟩
    exact ⟨v, rfl, .ref a, rfl, a, C, rfl, ox, no, .inl ⟨ha, fun dx nd da => q dx nd da⟩⟩
theorem ok_unk {f : Addr} {fd : FuncData} {k : Nat} (F : Fun K "__init__" "Unknown.__init__" sUnk f fd) : FnOk P w K mg base CX0 (k + 1) f fd ["self", "name"] (spErr K wName) := by
  refine F.ok scUnk (fun vs H Q E h => ?_) (fun cdv A outer s H vs Q E hr h => ?_)
  · obtain ⟨a, C, v, rfl, _⟩ := h
    rfl
  · obtain ⟨a, C, v, rfl, ox, no, ha, q⟩ := h
    refine ⟨_, pss_one (ps_ost (pv 0) (pv 1)), ?_⟩
    exact ⟨v, rfl, .ref a, rfl, a, C, rfl, ox, no, .inl ⟨ha, fun dx nd da => q dx nd da⟩⟩
/-- the class Invalid and its __init__ -/
structure EInv (K : PySem.W.Frag) (mg : Str → Option Value) (C fI : Addr) (fdI : FuncData) : Prop where
  T : ErrC K C fI wWhat
  M : Mm K "__init__" "Invalid.__init__" sInv ["self", "what"] fI fdI
  g : mg "Invalid" = some (.ref C)
/-- the class Unknown and its __init__ -/
structure EUnk (K : PySem.W.Frag) (mg : Str → Option Value) (C fI : Addr) (fdI : FuncData) : Prop where
  T : ErrC K C fI wName
  M : Mm K "__init__" "Unknown.__init__" sUnk ["self", "name"] fI fdI
  g : mg "Unknown" = some (.ref C)
end
/-! ### heaps -/
def But (p : Addr) (H H' : Hp) : Prop := ∀ b o, H b = some o → b ≠ p → H' b = some o
theorem But.refl (p : Addr) (H : Hp) : But p H H := fun _ _ h _ => h
theorem But.trans {p : Addr} {H H1 H2 : Hp} (a : But p H H1) (b : But p H1 H2) : But p H H2 := fun c o h n => b c o (a c o h n) n
theorem But.upd {p : Addr} {H : Hp} {o : HO} : But p H (upd H p o) := fun b x e n => by rw [upd_ne n]; exact e
theorem Same.but {p : Addr} {H H' : Hp} (h : Same H H') : But p H H' := fun b o e _ => h b o e
/-! ### rows -/
def Good (ps : List Pr) : Prop := (∀ p ∈ ps, isAddr p.1 = true ∧ isLane p.2 = true) ∧ (ps.map Prod.fst).Nodup
def ok1 (kvs : Kvs) (p : Pr) : Bool := isAddr p.1 && isLane p.2 && (valV kvs (Sum.inr p.1)).isNone
theorem valV_kvP (k : Str) : ∀ ps : List Pr, (valV (kvP ps) (Sum.inr k)).isSome = true ↔ k ∈ ps.map Prod.fst
  | [] => by simp [kvP, valV]
  | p :: ps => by
    have ih := valV_kvP k ps
    by_cases c : p.1 = k
    · rw [show kvP (p :: ps) = (Sum.inr p.1, V.str p.2) :: kvP ps from rfl, valV_pos (by rw [c])]
      simp [c]
    · rw [show kvP (p :: ps) = (Sum.inr p.1, V.str p.2) :: kvP ps from rfl, valV_neg (by simpa using c), ih]
      simp [c, Ne.symm c, eq_comm]
theorem good_snoc {ps : List Pr} {p : Pr} (h : Good ps) (c : ok1 (kvP ps) p = true) : Good (ps ++ [p]) := by
  unfold ok1 at c
  rw [Bool.and_eq_true, Bool.and_eq_true] at c
  obtain ⟨⟨c1, c2⟩, c3⟩ := c
  refine ⟨fun q hq => ?_, ?_⟩
  · rcases List.mem_append.mp hq with hq | hq
    · exact h.1 q hq
    · cases List.mem_singleton.mp hq
      exact ⟨c1, c2⟩
  · rw [List.map_append, List.nodup_append]
    refine ⟨h.2, by simp, fun x hx y hy e => ?_⟩
    subst e
    rw [List.map_singleton, List.mem_singleton] at hy
    subst hy
    have := (valV_kvP p.1 ps).mpr hx
    rw [Option.isNone_iff_eq_none] at c3
    rw [c3] at this
    cases this
theorem good_ok {ps qs : List Pr} {p : Pr} (h : Good (ps ++ p :: qs)) : ok1 (kvP ps) p = true := by
  obtain ⟨h1, h2⟩ := h
  have a := h1 p (List.mem_append_right _ List.mem_cons_self)
  unfold ok1
  rw [a.1, a.2, Bool.true_and, Bool.true_and, Option.isNone_iff_eq_none]
  cases e : valV (kvP ps) (Sum.inr p.1) with
  | none => rfl
  | some v =>
    exfalso
    have m := (valV_kvP p.1 ps).mp (by rw [e]; rfl)
    rw [List.map_append, List.nodup_append] at h2
    exact h2.2.2 _ m _ (by simp) rfl
theorem put_snoc {ps : List Pr} {p : Pr} (c : ok1 (kvP ps) p = true) : putK (kvP ps) (Sum.inr p.1) (V.str p.2) = kvP (ps ++ [p]) := by
  unfold ok1 at c
  rw [Bool.and_eq_true] at c
  rw [putK_new _ (Option.isNone_iff_eq_none.mp c.2)]
  unfold kvP
  rw [List.map_append]
  rfl
end Tb
namespace Tb
open PySem PySem.Spec PyProof.Rows L2
open PySem.W (TotalLe dataLe)
/-! ### the order of the rows -/
def sLt (a b : Str) : Bool := decide (a.cps.toList < b.cps.toList)
theorem sLt_tri {a b : Str} (h1 : sLt a b = false) (h2 : sLt b a = false) : a = b := by
  have h1 : ¬ a.cps.toList < b.cps.toList := of_decide_eq_false h1
  have h2 : ¬ b.cps.toList < a.cps.toList := of_decide_eq_false h2
  have e : a.cps.toList = b.cps.toList := List.le_antisymm (List.not_lt.mp h2) (List.not_lt.mp h1)
  cases a; cases b
  simp only at e
  congr 1
  exact Array.ext' e
theorem lt2 (a b : Pr) : PySem.W.dataLt (enc2 a) (enc2 b) = if a.1 = b.1 then sLt a.2 b.2 else sLt a.1 b.1 := by
  have q : ∀ x y : Str, PyData.eqv (.str x) (.str y) = decide (x = y) := fun x y => by rw [PyData.eqv]; exact Bool.beq_eq_decide_eq x y
  unfold enc2
  rw [PySem.W.dataLt_pair (by simp [PySem.W.alike]) (by simp [PySem.W.alike]), q, q, PySem.W.dataLt_str, PySem.W.dataLt_str]
  by_cases c : a.1 = b.1
  · rw [if_pos (decide_eq_true c), if_pos c]
    by_cases c2 : a.2 = b.2
    · rw [if_pos (decide_eq_true c2), c2]
      exact (decide_eq_false (List.lt_irrefl _)).symm
    · rw [if_neg (by simpa using c2)]
      rfl
  · rw [if_neg (by simpa using c), if_neg c]
    rfl
theorem le2_eq (a b : Pr) : le2 a b = !(if b.1 = a.1 then sLt b.2 a.2 else sLt b.1 a.1) := by
  unfold le2
  rw [PySem.W.dataLe_eq]
  show (!PySem.W.dataLt (enc2 b) (enc2 a)) = _
  rw [lt2]
theorem le1_eq (a b : Str) : le1 a b = !sLt b a := by
  unfold le1
  rw [PySem.W.dataLe_eq]
  show (!PySem.W.dataLt (.str b) (.str a)) = _
  rw [PySem.W.dataLt_str]
  rfl
theorem le2_total : TotalLe le2 := by
  unfold le2 dataLe
  exact PySem.W.sortLe_total _ _ _
theorem le2_anti {a b : Pr} (h1 : le2 a b = true) (h2 : le2 b a = true) : a = b := by
  rw [le2_eq, Bool.not_eq_true'] at h1 h2
  by_cases c : a.1 = b.1
  · rw [if_pos c.symm] at h1
    rw [if_pos c] at h2
    exact Prod.ext c (sLt_tri h2 h1)
  · rw [if_neg (Ne.symm c)] at h1
    rw [if_neg c] at h2
    exact absurd (sLt_tri h2 h1) c
/-- the sorted list is one -/
theorem sort_perm {ps qs : List Pr} (h : ps.Perm qs) : ps.mergeSort le2 = qs.mergeSort le2 := by
  refine List.Perm.eq_of_pairwise (le := fun a b => le2 a b = true) (fun a b _ _ h1 h2 => le2_anti h1 h2) (PySem.W.sort_pairwise le2_total ps) (PySem.W.sort_pairwise le2_total qs) ?_
  exact ((List.mergeSort_perm ps le2).trans h).trans (List.mergeSort_perm qs le2).symm
/-- the first parts of the sorted rows are the sorted first parts -/
theorem sort_keys {ps : List Pr} (h : (ps.map Prod.fst).Nodup) : (ps.mergeSort le2).map Prod.fst = (ps.map Prod.fst).mergeSort le1 := by
  refine PySem.W.sort_maps (r := le2) (s := le1) Prod.fst fun a ha b hb => ?_
  rw [le2_eq, le1_eq]
  by_cases c : b.1 = a.1
  · have e : a = b := by
      have := List.pairwise_map.mp h
      exact Classical.byContradiction fun n => by
        have : ∀ (l : List Pr), l.Pairwise (fun x y => x.1 ≠ y.1) → ∀ x ∈ l, ∀ y ∈ l, x.1 = y.1 → x = y := by
          intro l hl
          induction hl with
          | nil => intro x hx; cases hx
          | cons h1 _ ih =>
            intro x hx y hy e
            rcases List.mem_cons.mp hx with rfl | hx
            · rcases List.mem_cons.mp hy with rfl | hy
              · rfl
              · exact absurd e (h1 y hy)
            · rcases List.mem_cons.mp hy with e2 | hy
              · rw [e2] at e; exact absurd e.symm (h1 x hx)
              · exact ih x hx y hy e
        exact n (this ps (List.pairwise_map.mp h) a ha b hb c.symm)
    rw [if_pos c, e]
    unfold sLt
    rw [decide_eq_false (List.lt_irrefl _), decide_eq_false (List.lt_irrefl _)]
  · rw [if_neg c]
theorem valV_mem {ps : List Pr} (h : (ps.map Prod.fst).Nodup) {p : Pr} (hp : p ∈ ps) : valV (kvP ps) (Sum.inr p.1) = some (.str p.2) := by
  induction ps with
  | nil => cases hp
  | cons q ps ih =>
    rw [List.map_cons, List.nodup_cons] at h
    show valV ((Sum.inr q.1, V.str q.2) :: kvP ps) _ = _
    rcases List.mem_cons.mp hp with rfl | hp
    · rw [valV_pos rfl]
    · rw [valV_neg, ih h.2 hp]
      intro e
      have e2 : q.1 = p.1 := Sum.inr.inj e
      exact h.1 (List.mem_map.mpr ⟨p, hp, e2.symm⟩)
theorem nodup_sort {ps : List Pr} (h : (ps.map Prod.fst).Nodup) : ((ps.mergeSort le2).map Prod.fst).Nodup := ((List.mergeSort_perm ps le2).map Prod.fst).nodup_iff.mpr h
theorem mem_sort {ps : List Pr} {p : Pr} : p ∈ ps.mergeSort le2 ↔ p ∈ ps := List.mem_mergeSort
theorem len_sort {ps : List Pr} : (ps.mergeSort le2).length = ps.length := List.length_mergeSort _
end Tb
namespace Tb
open PySem PySem.Spec PyProof.Rows L2
abbrev sTInit : Stmt := inClass (topS 19) 0
theorem scTInit : FnScope ["self", "rows", "lanes", "prefix", "lane"] ["self", "rows"] (defScope sTInit) := ⟨rfl, rfl, rfl, by decide +kernel, rfl, by decide +kernel, by decide +kernel⟩
/-- rows in a list (lst) or a tuple: pairs of texts -/
structure RowsAt (H : Hp) (r : Addr) (lst : Bool) (ts : List (Addr × Pr)) : Prop where
  l : H r = some (if lst = true then .lst (ts.map fun t => V.ref t.1) else .tup (ts.map fun t => V.ref t.1))
  t : ∀ t ∈ ts, H t.1 = some (.tup [.str t.2.1, .str t.2.2])
  n : ts.length ≤ 1000
  z : ∀ t ∈ ts, t.2.1.length ≤ 1000 ∧ t.2.2.length ≤ 1000
theorem RowsAt.same {H H' : Hp} {r : Addr} {l : Bool} {ts : List (Addr × Pr)} (R : RowsAt H r l ts) (h : Same H H') : RowsAt H' r l ts := ⟨h _ _ R.l, fun t ht => h _ _ (R.t t ht), R.n, R.z⟩
def spInit (C CI : Addr) : Sp := fun vs H Q E => ∃ (x dx r : Addr) (lst : Bool) (ts : List (Addr × Pr)), vs = [.ref x, .ref r] ∧ H x = some (.ins C dx []) ∧ RowsAt H r lst ts ∧
  (Good (ts.map (·.2)) → ∀ d H', But x H H' → H d = none → H' x = some (.ins C dx [(wLanes, .ref d)]) → H' d = some (.dK (kvP ((ts.map (·.2)).mergeSort le2))) → Q .non H') ∧
  (¬ Good (ts.map (·.2)) → ∀ e H', Same H H' → H' e = some (.xd [(wWhat, .str wTable)]) → E (.ref CI) (some e) H')
/-- of the class Table itself -/
structure TCls (K : PySem.W.Frag) (C : Addr) : Prop where
  c : Cls K C
  no : NoAttr K C wLanes
section
variable {P : Program} {w : World} {K : PySem.W.Frag} {mg : Str → Option Value} {base : Heap}
theorem kvP_take {ps : List Pr} {i : Nat} : (kvP ps).take i = kvP (ps.take i) := by
  unfold kvP
  rw [List.map_take]
theorem kvP_len {ps : List Pr} : (kvP ps).length = ps.length := by
  unfold kvP
  rw [List.length_map]
end
end Tb
namespace Tb
open PySem PySem.Spec PyProof.Rows L2
/-- a dict comprehension over a walk: Pv by the turn and the heap (the new dict at D within) -/
theorem dc_it {J : It} {n : Nat} {G : Hp → Prop} {Y : Nat → Hp → V → Hp → Prop} (w : Walk J n G Y) {g : TG} {tt : TT} {tk tv : TE} {vs : List Nat} {σ : L2.St} {H1 : Hp} {D : Addr} {Qd : Hp → Prop} (Pv : Nat → Hp → Prop) (h0 : Pv 0 (upd H1 D (.dK []))) (hG : ∀ i H, i ≤ n → Pv i H → G H)
    (hs : ∀ i x H H', i < n → Pv i H → Y i H x H' → g x (wipe σ vs) H' fun σ2 H2 => wipe σ2 vs = wipe σ vs ∧ tt σ2 H2 fun b H3 =>
      if b = true then tk σ2 H3 fun y H4 => tv σ2 H4 fun z H5 => ∃ kvs k, y = kV k ∧ H5 D = some (.dK kvs) ∧ kvs.length < sizeLine ∧ Pv (i + 1) (upd H5 D (.dK (putK kvs k z))) else Pv (i + 1) H3) (hd : ∀ H, Pv n H → Qd H) :
    ∃ W : Nat → Nat → Hp → Prop, (∃ m, W 0 m (upd H1 D (.dK []))) ∧ ∀ i m H, W i m H →
      (J.stop i H ∧ Qd H) ∨ (J.go i H ∧ ∃ Nx : Hp → Prop, (∀ H', Nx H' → ∃ m', m' < m ∧ W (i + 1) m' H') ∧ ∀ x H', J.yld i H x H' → g x (wipe σ vs) H' fun σ2 H2 => wipe σ2 vs = wipe σ vs ∧ tt σ2 H2 fun b H3 =>
        if b = true then tk σ2 H3 fun y H4 => tv σ2 H4 fun z H5 => ∃ kvs k, y = kV k ∧ H5 D = some (.dK kvs) ∧ kvs.length < sizeLine ∧ Nx (upd H5 D (.dK (putK kvs k z))) else Nx H3) := by
  refine ⟨fun i m H => m = n - i ∧ i ≤ n ∧ Pv i H, ⟨n, by simp, Nat.zero_le _, h0⟩, ?_⟩
  rintro i m H ⟨rfl, hi, p⟩
  have q := hG i H hi p
  by_cases hlt : i < n
  · exact .inr ⟨w.goes i H hlt q, Pv (i + 1), fun H' p' => ⟨n - (i + 1), by omega, rfl, hlt, p'⟩, fun x H' y => hs i x H H' hlt p (w.yields i H x H' hlt q y)⟩
  · have e : i = n := by omega
    subst e
    exact .inl ⟨w.stops H q, hd H p⟩
theorem good_nil : Good [] := ⟨fun p hp => (List.not_mem_nil hp).elim, List.nodup_nil⟩
/-- the sorted keys with their rows -/
theorem sorted_take {ps : List Pr} (h : (ps.map Prod.fst).Nodup) {i : Nat} {k : Str} (hk : ((ps.map Prod.fst).mergeSort le1)[i]? = some k) :
    ∃ p, (ps.mergeSort le2)[i]? = some p ∧ p.1 = k ∧ valV (kvP ps) (Sum.inr k) = some (.str p.2) ∧ valV (kvP ((ps.mergeSort le2).take i)) (Sum.inr k) = none := by
  rw [← sort_keys h, List.getElem?_map] at hk
  cases e : (ps.mergeSort le2)[i]? with
  | none => rw [e] at hk; cases hk
  | some p =>
    rw [e] at hk
    have ek : p.1 = k := Option.some.inj hk
    subst ek
    have m : p ∈ ps := mem_sort.mp (List.mem_of_getElem? e)
    refine ⟨p, rfl, rfl, valV_mem h m, ?_⟩
    cases e2 : valV (kvP ((ps.mergeSort le2).take i)) (Sum.inr p.1) with
    | none => rfl
    | some v =>
      exfalso
      have mm := (valV_kvP p.1 _).mp (by rw [e2]; rfl)
      have nd := nodup_sort h
      obtain ⟨q, hq, eq⟩ := List.mem_map.mp mm
      obtain ⟨j, hj⟩ := List.mem_iff_getElem?.mp hq
      rw [List.getElem?_take] at hj
      by_cases hji : j < i
      · rw [if_pos hji] at hj
        have a1 : ((ps.mergeSort le2).map Prod.fst)[j]? = some p.1 := by rw [List.getElem?_map, hj, ← eq]; rfl
        have a2 : ((ps.mergeSort le2).map Prod.fst)[i]? = some p.1 := by rw [List.getElem?_map, e]; rfl
        obtain ⟨l1, g1⟩ := List.getElem?_eq_some_iff.mp a1
        obtain ⟨l2, g2⟩ := List.getElem?_eq_some_iff.mp a2
        have np := List.pairwise_iff_getElem.mp nd j i l1 l2 hji
        exact np (g1.trans g2.symm)
      · rw [if_neg hji] at hj
        cases hj
section
variable {P : Program} {w : World} {K : PySem.W.Frag} {mg : Str → Option Value} {base : Heap}
theorem ok_init {f gA gL gI C CI : Addr} {fd gdA gdL gdI : FuncData} (F : Fun K "__init__" "Table.__init__" sTInit f fd) (B : Blt mg) (T : TCls K C) (R : EInv K mg CI gI gdI)
    (DA : Dd K mg "is_address" sIsAddr ["text"] gA gdA) (GA : FnOk P w K mg base CX0 3 gA gdA ["text"] (spT isAddr)) (DL : Dd K mg "_is_lane" sIsLane ["text"] gL gdL) (GL : FnOk P w K mg base CX0 3 gL gdL ["text"] (spT isLane)) :
    FnOk P w K mg base (L2.CX P w) 4 f fd ["self", "rows"] (spInit C CI) := by
  have GE : FnOk P w K mg base CX0 1 gI gdI ["self", "what"] (spErr K wWhat) := ok_inv R.M.F
  refine F.okX scTInit (fun vs H Q E h => ?_) (fun cdv A outer s H vs Q E hr h => ?_)
  · obtain ⟨x, dx, r, lst, ts, rfl, _⟩ := h
    rfl
  · obtain ⟨x, dx, r, lst, ts, rfl, hx, hR, qG, qB⟩ := h
    have hu := hu_of hr
    have hr2 : Room 2 _ := hr.mono (show 2 ≤ 3 by decide)
    have hz : sizeLine = 16777216 := rfl
    generalize eps : ts.map (·.2) = ps at qG qB
    have lps : ps.length = ts.length := by rw [← eps, List.length_map]
    cases lst with
    | true =>
      refine ⟨_, pss_cons (ps_set (i := 2) scTInit.nd rfl (.inr rfl) pe_dnewK)
        (pss_cons (ps_for (passes_of rfl) rfl (pi_list (pv 1)) (pg_tup rfl (pgs_cons (pg_name (i := 3) scTInit.nd rfl (.inl rfl)) (pgs_cons (pg_name (i := 4) scTInit.nd rfl (.inl rfl)) pgs_nil)))
          (pss_cons (ps_if (PW.pt (pw_or (pt_not (pt_val (pe_call GA hr (by rfl) DA.g DA.F.kp DA.b .nil pass0 (pa_cons (pv 3) pa_nil))))
            (pw_or (pt_not (pt_val (pe_call GL hr (by rfl) DL.g DL.F.kp DL.b .nil pass0 (pa_cons (pv 4) pa_nil)))) (pw_or1 (pt_cmp (pc_din hu (pv 3) (pv 2)))))))
            (pss_one (ps_raise rfl (takes_of rfl rfl rfl rfl) (pmk_oex R.T.ox R.T.iC R.T.tI GE hr2 R.M.b .nil pass0 (by rfl) R.g (pa_cons pe_str pa_nil)))) pss_nil)
          (pss_one (ps_dput hu (pv 2) (pv 3) (pv 4) (by rfl)))))
        (pss_one (ps_fld (pv 0) (pe_dc (own := [("prefix", 3)]) (g := gName 3) (by rfl) scTInit.nd (pi_list (pe_callB (cr_sortedDk rfl hr.units) (by rfl) B.sorted PyProof.Rows.boot_sorted (pa_cons (pv 2) pa_nil)))
          (blkOk_by (N := ["self", "rows", "lanes", "prefix", "lane"]) (sc := defScope sTInit) (by decide +kernel)) (fun _ _ _ _ _ => pg_name (i := 3) scTInit.nd rfl (Or.inl rfl)) (fun _ _ _ _ _ => pts_nil) (fun _ _ _ _ _ => pv 3)
          (fun _ _ _ _ _ => pe_dget hu (pv 2) (pv 3) (fun _ _ => rfl))) (by rfl)))), ?_⟩
      intro D nD
      have S0 : Same H (upd H D (.dK [])) := same_upd nD
      refine ⟨.ref r, rfl, r, rfl, ⟨_, sqOf (S0 _ _ hR.l)⟩, ?_⟩
      refine for_it (walk_list (a := r) (xs := ts.map fun t => V.ref t.1)) (fun i σ H' => ∃ y3 y4, σ = [some (.ref x), some (.ref r), some (.ref D), y3, y4] ∧ Same H H' ∧ H' D = some (.dK (kvP (ps.take i))) ∧ Good (ps.take i))
        ⟨none, none, rfl, S0, upd_same, good_nil⟩ (fun i σ H' _ hP => ?_) (fun i v σ H1 H2 hi hP hy => ?_) (fun σ H1 hP => ?_)
      · obtain ⟨_, _, _, S1, _⟩ := hP
        exact sqOf (S1 _ _ hR.l)
      · obtain ⟨y3, y4, rfl, S1, hD, hg⟩ := hP
        obtain ⟨rfl, ev⟩ := hy
        rw [List.getElem?_map] at ev
        cases et : ts[i]? with
        | none => rw [et] at ev; cases ev
        | some t =>
        rw [et] at ev
        cases (Option.some.inj ev)
        have mt : t ∈ ts := List.mem_of_getElem? et
        have ep : ps[i]? = some t.2 := by rw [← eps, List.getElem?_map, et]; rfl
        have li : i < ps.length := (List.getElem?_eq_some_iff.mp ep).1
        have spl : ps = ps.take i ++ t.2 :: ps.drop (i + 1) := by
          have e1 := (List.getElem?_eq_some_iff.mp ep).2
          rw [← e1, ← List.drop_eq_getElem_cons li, List.take_append_drop]
        have bad : ok1 (kvP (ps.take i)) t.2 = false → ¬ Good ps := fun e g => by
          rw [spl] at g
          rw [good_ok g] at e
          cases e
        refine ⟨t.1, _, rfl, .of (S1 _ _ (hR.t t mt)), rfl, .str t.2.1, _, rfl, .str t.2.2, _, rfl, rfl, ?_⟩
        have z := hR.z t mt
        refine ⟨.str t.2.1, rfl, t.2.1, rfl, z.1, fun H3 S3 => ⟨_, rfl, ?_⟩⟩
        have raise : ∀ H3, Same H2 H3 → ok1 (kvP (ps.take i)) t.2 = false → ∀ a, H3 a = none → spErr K wWhat [.ref a, .str wTable] (upd H3 a (exo a CI none)) (fun u H4 => u = .non ∧ ∃ (d : Addr) (fs : List (Str × V)), H4 a = some (exo a CI (some d)) ∧ H4 d = some (exd d fs) ∧ H3 d = none ∧ E (.ref CI) (some d) (upd (del H4 a) d (.xd fs))) (fun _ _ _ => False) :=
          fun H3 S3 e => err_made R.T (Q := E) fun d H4 S4 hd => qB (bad e) d H4 ((S1.trans S3).trans S4) hd
        cases eA : isAddr t.2.1 with
        | false => exact ⟨by decide, raise H3 S3 (by unfold ok1; rw [eA]; rfl)⟩
        | true =>
        refine ⟨.str t.2.2, rfl, t.2.2, rfl, z.2, fun H4 S4 => ⟨_, rfl, ?_⟩⟩
        cases eL : isLane t.2.2 with
        | false => exact ⟨by decide, raise H4 (S3.trans S4) (by unfold ok1; rw [eA, eL]; rfl)⟩
        | true =>
        have hD4 := S4 _ _ (S3 _ _ hD)
        refine ⟨.str t.2.1, rfl, .ref D, rfl, D, _, rfl, DGet.k (k := Sum.inr t.2.1) hD4, _, rfl, ?_⟩
        cases eV : (valV (kvP (ps.take i)) (Sum.inr t.2.1)).isSome with
        | true => exact ⟨by decide, raise H4 (S3.trans S4) (by unfold ok1; rw [eA, eL, Option.isNone_eq_false_iff.mpr eV]; rfl)⟩
        | false =>
        have ok : ok1 (kvP (ps.take i)) t.2 = true := by
          unfold ok1
          rw [eA, eL]
          exact Option.isNone_iff_eq_none.mpr (Option.isSome_eq_false_iff.mp eV |> Option.isNone_iff_eq_none.mp)
        refine ⟨.str t.2.2, rfl, .ref D, rfl, .str t.2.1, rfl, D, _, rfl, DPut.k (k := Sum.inr t.2.1) hD4 (by rw [kvP_len, List.length_take]; have := hR.n; omega), ?_⟩
        have tk : ps.take (i + 1) = ps.take i ++ [t.2] := by rw [List.take_add_one, ep]; rfl
        refine ⟨_, _, rfl, ?_, ?_, ?_⟩
        · exact fun b o hb => by rw [upd_ne (ne_of_none hb nD)]; exact S4 _ _ (S3 _ _ (S1 _ _ hb))
        · rw [upd_same, put_snoc ok, tk]
        · rw [tk]
          exact good_snoc hg ok
      · obtain ⟨y3, y4, rfl, S1, hD, hg⟩ := hP
        rw [List.length_map, ← lps, List.take_length] at hD hg
        refine ⟨.ref D, rfl, D, _, ps.map Prod.fst, rfl, .of hD, kvP_keys ps, by rw [List.length_map, lps]; exact hR.n, fun p np => ⟨p, rfl, ⟨_, sqOf upd_same⟩, fun D2 nD2 => ?_⟩⟩
        have nD2p : p ≠ D2 := fun e => by rw [e, upd_same] at nD2; cases nD2
        have nD2' : H1 D2 = none := by rw [upd_ne (Ne.symm nD2p)] at nD2; exact nD2
        have nDD : D ≠ D2 := fun e => by rw [e, nD2'] at hD; cases hD
        have nDp : D ≠ p := fun e => by rw [e, np] at hD; cases hD
        refine dc_it (walk_list (a := p) (xs := ((ps.map Prod.fst).mergeSort (PySem.W.dataLe false PyData.str)).map V.str)) (fun i H' => Same H1 H' ∧ H' p = some (.lst (((ps.map Prod.fst).mergeSort (PySem.W.dataLe false PyData.str)).map V.str)) ∧ H' D2 = some (.dK (kvP ((ps.mergeSort le2).take i))))
          ⟨(same_upd np).trans (same_upd nD2), by rw [upd_ne nD2p]; exact upd_same, upd_same⟩ (fun i H' _ hP => sqOf hP.2.1) (fun i v H2 H3 hi hP hy => ?_) (fun H2 hP => ?_)
        · obtain ⟨S2, hp, hD2⟩ := hP
          obtain ⟨rfl, ev⟩ := hy
          rw [List.getElem?_map] at ev
          cases ek : ((ps.map Prod.fst).mergeSort (PySem.W.dataLe false PyData.str))[i]? with
          | none => rw [ek] at ev; cases ev
          | some k =>
          rw [ek] at ev
          cases (Option.some.inj ev)
          obtain ⟨q, eq, rfl, evq, enq⟩ := sorted_take hg.2 ek
          refine ⟨rfl, .str q.1, rfl, .ref D, rfl, .str q.1, rfl, D, .str q.2, rfl, ?_, ?_⟩
          · rw [← evq]
            exact DGet.k (k := Sum.inr q.1) (S2 _ _ hD)
          · refine ⟨_, Sum.inr q.1, rfl, hD2, by rw [kvP_len, List.length_take]; have := hR.n; have := @len_sort ps; omega, ?_, ?_, ?_⟩
            · exact fun b o hb => by rw [upd_ne (ne_of_none hb nD2')]; exact S2 _ _ hb
            · rw [upd_ne nD2p]
              exact hp
            · rw [upd_same, putK_new _ enq, List.take_add_one, eq]
              unfold kvP
              rw [List.map_append]
              rfl
        · obtain ⟨S2, hp, hD2⟩ := hP
          have hl : (((ps.map Prod.fst).mergeSort (PySem.W.dataLe false PyData.str)).map V.str).length = (ps.mergeSort le2).length := by
            rw [List.length_map, List.length_mergeSort, List.length_map, len_sort]
          rw [hl, List.take_length] at hD2
          have hx2 := S2 _ _ (S1 _ _ hx)
          have nDx : x ≠ D2 := fun e => by rw [e] at hx; rw [S1 _ _ hx] at nD2'; cases nD2'
          have HD2 : H D2 = none := by
            cases e : H D2 with
            | none => rfl
            | some o => rw [S1 _ _ e] at nD2'; cases nD2'
          refine ⟨.ref x, rfl, x, C, dx, [], rfl, hx2, T.c, T.no, by decide, ?_⟩
          refine qG hg D2 _ (fun b o hb nb => by rw [upd_ne nb]; exact S2 _ _ (S1 _ _ hb)) HD2 upd_same ?_
          rw [upd_ne (Ne.symm nDx)]
          exact hD2
    | false =>
      refine ⟨_, pss_cons (ps_set (i := 2) scTInit.nd rfl (.inr rfl) pe_dnewK)
        (pss_cons (ps_for (passes_of rfl) rfl (pi_tup (pv 1)) (pg_tup rfl (pgs_cons (pg_name (i := 3) scTInit.nd rfl (.inl rfl)) (pgs_cons (pg_name (i := 4) scTInit.nd rfl (.inl rfl)) pgs_nil)))
          (pss_cons (ps_if (PW.pt (pw_or (pt_not (pt_val (pe_call GA hr (by rfl) DA.g DA.F.kp DA.b .nil pass0 (pa_cons (pv 3) pa_nil))))
            (pw_or (pt_not (pt_val (pe_call GL hr (by rfl) DL.g DL.F.kp DL.b .nil pass0 (pa_cons (pv 4) pa_nil)))) (pw_or1 (pt_cmp (pc_din hu (pv 3) (pv 2)))))))
            (pss_one (ps_raise rfl (takes_of rfl rfl rfl rfl) (pmk_oex R.T.ox R.T.iC R.T.tI GE hr2 R.M.b .nil pass0 (by rfl) R.g (pa_cons pe_str pa_nil)))) pss_nil)
          (pss_one (ps_dput hu (pv 2) (pv 3) (pv 4) (by rfl)))))
        (pss_one (ps_fld (pv 0) (pe_dc (own := [("prefix", 3)]) (g := gName 3) (by rfl) scTInit.nd (pi_list (pe_callB (cr_sortedDk rfl hr.units) (by rfl) B.sorted PyProof.Rows.boot_sorted (pa_cons (pv 2) pa_nil)))
          (blkOk_by (N := ["self", "rows", "lanes", "prefix", "lane"]) (sc := defScope sTInit) (by decide +kernel)) (fun _ _ _ _ _ => pg_name (i := 3) scTInit.nd rfl (Or.inl rfl)) (fun _ _ _ _ _ => pts_nil) (fun _ _ _ _ _ => pv 3)
          (fun _ _ _ _ _ => pe_dget hu (pv 2) (pv 3) (fun _ _ => rfl))) (by rfl)))), ?_⟩
      intro D nD
      have S0 : Same H (upd H D (.dK [])) := same_upd nD
      refine ⟨.ref r, rfl, r, rfl, ⟨_, .of (S0 _ _ hR.l)⟩, ?_⟩
      refine for_it (walk_tup (a := r) (xs := ts.map fun t => V.ref t.1)) (fun i σ H' => ∃ y3 y4, σ = [some (.ref x), some (.ref r), some (.ref D), y3, y4] ∧ Same H H' ∧ H' D = some (.dK (kvP (ps.take i))) ∧ Good (ps.take i))
        ⟨none, none, rfl, S0, upd_same, good_nil⟩ (fun i σ H' _ hP => ?_) (fun i v σ H1 H2 hi hP hy => ?_) (fun σ H1 hP => ?_)
      · obtain ⟨_, _, _, S1, _⟩ := hP
        exact .of (S1 _ _ hR.l)
      · obtain ⟨y3, y4, rfl, S1, hD, hg⟩ := hP
        obtain ⟨rfl, ev⟩ := hy
        rw [List.getElem?_map] at ev
        cases et : ts[i]? with
        | none => rw [et] at ev; cases ev
        | some t =>
        rw [et] at ev
        cases (Option.some.inj ev)
        have mt : t ∈ ts := List.mem_of_getElem? et
        have ep : ps[i]? = some t.2 := by rw [← eps, List.getElem?_map, et]; rfl
        have li : i < ps.length := (List.getElem?_eq_some_iff.mp ep).1
        have spl : ps = ps.take i ++ t.2 :: ps.drop (i + 1) := by
          have e1 := (List.getElem?_eq_some_iff.mp ep).2
          rw [← e1, ← List.drop_eq_getElem_cons li, List.take_append_drop]
        have bad : ok1 (kvP (ps.take i)) t.2 = false → ¬ Good ps := fun e g => by
          rw [spl] at g
          rw [good_ok g] at e
          cases e
        refine ⟨t.1, _, rfl, .of (S1 _ _ (hR.t t mt)), rfl, .str t.2.1, _, rfl, .str t.2.2, _, rfl, rfl, ?_⟩
        have z := hR.z t mt
        refine ⟨.str t.2.1, rfl, t.2.1, rfl, z.1, fun H3 S3 => ⟨_, rfl, ?_⟩⟩
        have raise : ∀ H3, Same H2 H3 → ok1 (kvP (ps.take i)) t.2 = false → ∀ a, H3 a = none → spErr K wWhat [.ref a, .str wTable] (upd H3 a (exo a CI none)) (fun u H4 => u = .non ∧ ∃ (d : Addr) (fs : List (Str × V)), H4 a = some (exo a CI (some d)) ∧ H4 d = some (exd d fs) ∧ H3 d = none ∧ E (.ref CI) (some d) (upd (del H4 a) d (.xd fs))) (fun _ _ _ => False) :=
          fun H3 S3 e => err_made R.T (Q := E) fun d H4 S4 hd => qB (bad e) d H4 ((S1.trans S3).trans S4) hd
        cases eA : isAddr t.2.1 with
        | false => exact ⟨by decide, raise H3 S3 (by unfold ok1; rw [eA]; rfl)⟩
        | true =>
        refine ⟨.str t.2.2, rfl, t.2.2, rfl, z.2, fun H4 S4 => ⟨_, rfl, ?_⟩⟩
        cases eL : isLane t.2.2 with
        | false => exact ⟨by decide, raise H4 (S3.trans S4) (by unfold ok1; rw [eA, eL]; rfl)⟩
        | true =>
        have hD4 := S4 _ _ (S3 _ _ hD)
        refine ⟨.str t.2.1, rfl, .ref D, rfl, D, _, rfl, DGet.k (k := Sum.inr t.2.1) hD4, _, rfl, ?_⟩
        cases eV : (valV (kvP (ps.take i)) (Sum.inr t.2.1)).isSome with
        | true => exact ⟨by decide, raise H4 (S3.trans S4) (by unfold ok1; rw [eA, eL, Option.isNone_eq_false_iff.mpr eV]; rfl)⟩
        | false =>
        have ok : ok1 (kvP (ps.take i)) t.2 = true := by
          unfold ok1
          rw [eA, eL]
          exact Option.isNone_iff_eq_none.mpr (Option.isSome_eq_false_iff.mp eV |> Option.isNone_iff_eq_none.mp)
        refine ⟨.str t.2.2, rfl, .ref D, rfl, .str t.2.1, rfl, D, _, rfl, DPut.k (k := Sum.inr t.2.1) hD4 (by rw [kvP_len, List.length_take]; have := hR.n; omega), ?_⟩
        have tk : ps.take (i + 1) = ps.take i ++ [t.2] := by rw [List.take_add_one, ep]; rfl
        refine ⟨_, _, rfl, ?_, ?_, ?_⟩
        · exact fun b o hb => by rw [upd_ne (ne_of_none hb nD)]; exact S4 _ _ (S3 _ _ (S1 _ _ hb))
        · rw [upd_same, put_snoc ok, tk]
        · rw [tk]
          exact good_snoc hg ok
      · obtain ⟨y3, y4, rfl, S1, hD, hg⟩ := hP
        rw [List.length_map, ← lps, List.take_length] at hD hg
        refine ⟨.ref D, rfl, D, _, ps.map Prod.fst, rfl, .of hD, kvP_keys ps, by rw [List.length_map, lps]; exact hR.n, fun p np => ⟨p, rfl, ⟨_, sqOf upd_same⟩, fun D2 nD2 => ?_⟩⟩
        have nD2p : p ≠ D2 := fun e => by rw [e, upd_same] at nD2; cases nD2
        have nD2' : H1 D2 = none := by rw [upd_ne (Ne.symm nD2p)] at nD2; exact nD2
        have nDD : D ≠ D2 := fun e => by rw [e, nD2'] at hD; cases hD
        have nDp : D ≠ p := fun e => by rw [e, np] at hD; cases hD
        refine dc_it (walk_list (a := p) (xs := ((ps.map Prod.fst).mergeSort (PySem.W.dataLe false PyData.str)).map V.str)) (fun i H' => Same H1 H' ∧ H' p = some (.lst (((ps.map Prod.fst).mergeSort (PySem.W.dataLe false PyData.str)).map V.str)) ∧ H' D2 = some (.dK (kvP ((ps.mergeSort le2).take i))))
          ⟨(same_upd np).trans (same_upd nD2), by rw [upd_ne nD2p]; exact upd_same, upd_same⟩ (fun i H' _ hP => sqOf hP.2.1) (fun i v H2 H3 hi hP hy => ?_) (fun H2 hP => ?_)
        · obtain ⟨S2, hp, hD2⟩ := hP
          obtain ⟨rfl, ev⟩ := hy
          rw [List.getElem?_map] at ev
          cases ek : ((ps.map Prod.fst).mergeSort (PySem.W.dataLe false PyData.str))[i]? with
          | none => rw [ek] at ev; cases ev
          | some k =>
          rw [ek] at ev
          cases (Option.some.inj ev)
          obtain ⟨q, eq, rfl, evq, enq⟩ := sorted_take hg.2 ek
          refine ⟨rfl, .str q.1, rfl, .ref D, rfl, .str q.1, rfl, D, .str q.2, rfl, ?_, ?_⟩
          · rw [← evq]
            exact DGet.k (k := Sum.inr q.1) (S2 _ _ hD)
          · refine ⟨_, Sum.inr q.1, rfl, hD2, by rw [kvP_len, List.length_take]; have := hR.n; have := @len_sort ps; omega, ?_, ?_, ?_⟩
            · exact fun b o hb => by rw [upd_ne (ne_of_none hb nD2')]; exact S2 _ _ hb
            · rw [upd_ne nD2p]
              exact hp
            · rw [upd_same, putK_new _ enq, List.take_add_one, eq]
              unfold kvP
              rw [List.map_append]
              rfl
        · obtain ⟨S2, hp, hD2⟩ := hP
          have hl : (((ps.map Prod.fst).mergeSort (PySem.W.dataLe false PyData.str)).map V.str).length = (ps.mergeSort le2).length := by
            rw [List.length_map, List.length_mergeSort, List.length_map, len_sort]
          rw [hl, List.take_length] at hD2
          have hx2 := S2 _ _ (S1 _ _ hx)
          have nDx : x ≠ D2 := fun e => by rw [e] at hx; rw [S1 _ _ hx] at nD2'; cases nD2'
          have HD2 : H D2 = none := by
            cases e : H D2 with
            | none => rfl
            | some o => rw [S1 _ _ e] at nD2'; cases nD2'
          refine ⟨.ref x, rfl, x, C, dx, [], rfl, hx2, T.c, T.no, by decide, ?_⟩
          refine qG hg D2 _ (fun b o hb nb => by rw [upd_ne nb]; exact S2 _ _ (S1 _ _ hb)) HD2 upd_same ?_
          rw [upd_ne (Ne.symm nDx)]
          exact hD2
end
end Tb
namespace Tb
open PySem PySem.Spec PyProof.Rows L2
/-! ### rows put and dropped: the mirrors -/
def putP (ps : List Pr) (p l : Str) : List Pr := if (ps.any fun q => decide (q.1 = p)) = true then ps.map (fun q => if q.1 = p then (q.1, l) else q) else ps ++ [(p, l)]
def dropP (ps : List Pr) (p : Str) : List Pr := ps.filter fun q => decide (q.1 ≠ p)
/-- after the change -/
def aft (ps : List Pr) (p : Str) : Option Str → List Pr
  | none => dropP ps p
  | some l => putP ps p l
theorem any_kvP (ps : List Pr) (p : Str) : ((kvP ps).any fun kv => decide (kv.1 = Sum.inr p)) = ps.any fun q => decide (q.1 = p) := by
  unfold kvP
  rw [List.any_map]
  congr 1
  funext q
  show decide ((Sum.inr q.1 : Key) = Sum.inr p) = decide (q.1 = p)
  exact decide_eq_decide.mpr ⟨Sum.inr.inj, fun e => by rw [e]⟩
theorem put_kvP (ps : List Pr) (p l : Str) : putK (kvP ps) (Sum.inr p) (V.str l) = kvP (putP ps p l) := by
  unfold putK putP
  rw [any_kvP]
  by_cases c : (ps.any fun q => decide (q.1 = p)) = true
  · rw [if_pos c, if_pos c]
    unfold kvP
    rw [List.map_map, List.map_map]
    refine List.map_congr_left fun q _ => ?_
    show (if (Sum.inr q.1 : Key) = Sum.inr p then ((Sum.inr q.1 : Key), V.str l) else (Sum.inr q.1, V.str q.2)) = (Sum.inr (if q.1 = p then (q.1, l) else q).1, V.str (if q.1 = p then (q.1, l) else q).2)
    by_cases e : q.1 = p
    · rw [if_pos (by rw [e]), if_pos e]
    · rw [if_neg (fun x => e (Sum.inr.inj x)), if_neg e]
  · rw [if_neg c, if_neg c]
    unfold kvP
    rw [List.map_append]
    rfl
theorem drop_kvP (ps : List Pr) (p : Str) : dropK (kvP ps) (Sum.inr p) = kvP (dropP ps p) := by
  unfold dropK dropP kvP
  rw [List.filter_map]
  congr 1
  refine List.filter_congr fun q _ => ?_
  show decide ((Sum.inr q.1 : Key) ≠ Sum.inr p) = decide (q.1 ≠ p)
  exact decide_eq_decide.mpr ⟨fun e x => e (by rw [x]), fun e x => e (Sum.inr.inj x)⟩
theorem any_perm {ps qs : List Pr} (h : ps.Perm qs) (f : Pr → Bool) : ps.any f = qs.any f := by
  rw [Bool.eq_iff_iff, List.any_eq_true, List.any_eq_true]
  exact ⟨fun ⟨x, hx, e⟩ => ⟨x, h.mem_iff.mp hx, e⟩, fun ⟨x, hx, e⟩ => ⟨x, h.mem_iff.mpr hx, e⟩⟩
theorem put_perm {ps qs : List Pr} (h : ps.Perm qs) (p l : Str) : (putP ps p l).Perm (putP qs p l) := by
  unfold putP
  rw [any_perm h]
  by_cases c : (qs.any fun q => decide (q.1 = p)) = true
  · rw [if_pos c, if_pos c]
    exact h.map _
  · rw [if_neg c, if_neg c]
    exact h.append_right _
theorem aft_perm {ps qs : List Pr} (h : ps.Perm qs) (p : Str) (o : Option Str) : (aft ps p o).Perm (aft qs p o) := by
  cases o with
  | none => exact h.filter _
  | some l => exact put_perm h p l
theorem put_keys {ps : List Pr} {p l : Str} (h : (ps.any fun q => decide (q.1 = p)) = true) : (putP ps p l).map Prod.fst = ps.map Prod.fst := by
  unfold putP
  rw [if_pos h, List.map_map]
  refine List.map_congr_left fun q _ => ?_
  show (if q.1 = p then (q.1, l) else q).1 = q.1
  by_cases e : q.1 = p
  · rw [if_pos e]
  · rw [if_neg e]
theorem any_mem {ps : List Pr} {p : Str} : (ps.any fun q => decide (q.1 = p)) = true ↔ p ∈ ps.map Prod.fst := by
  rw [List.any_eq_true, List.mem_map]
  exact ⟨fun ⟨x, hx, e⟩ => ⟨x, hx, of_decide_eq_true e⟩, fun ⟨x, hx, e⟩ => ⟨x, hx, decide_eq_true e⟩⟩
theorem put_nodup {ps : List Pr} {p l : Str} (h : (ps.map Prod.fst).Nodup) : ((putP ps p l).map Prod.fst).Nodup := by
  by_cases c : (ps.any fun q => decide (q.1 = p)) = true
  · rw [put_keys c]
    exact h
  · have c2 : p ∉ ps.map Prod.fst := fun z => c (any_mem.mpr z)
    unfold putP
    rw [if_neg c, List.map_append, List.nodup_append]
    refine ⟨h, by simp, fun x hx y hy e => ?_⟩
    subst e
    rw [List.map_singleton, List.mem_singleton] at hy
    exact c2 (by rw [show x = p from hy] at hx; exact hx)
theorem mem_put {ps : List Pr} {p l : Str} {q : Pr} (h : q ∈ putP ps p l) : q ∈ ps ∨ q = (p, l) := by
  unfold putP at h
  by_cases c : (ps.any fun q => decide (q.1 = p)) = true
  · rw [if_pos c] at h
    obtain ⟨x, hx, e⟩ := List.mem_map.mp h
    by_cases e2 : x.1 = p
    · rw [if_pos e2] at e
      exact .inr (by rw [← e, e2])
    · rw [if_neg e2] at e
      exact .inl (by rw [← e]; exact hx)
  · rw [if_neg c] at h
    rcases List.mem_append.mp h with h | h
    · exact .inl h
    · exact .inr (List.mem_singleton.mp h)
theorem put_mem (ps : List Pr) (p l : Str) : (p, l) ∈ putP ps p l := by
  unfold putP
  by_cases c : (ps.any fun q => decide (q.1 = p)) = true
  · rw [if_pos c]
    obtain ⟨x, hx, e⟩ := List.any_eq_true.mp c
    have e := of_decide_eq_true e
    exact List.mem_map.mpr ⟨x, hx, by rw [if_pos e, e]⟩
  · rw [if_neg c]
    exact List.mem_append_right _ (List.mem_singleton.mpr rfl)
theorem put_good {ps : List Pr} {p l : Str} (h : Good ps) (h1 : isAddr p = true) (h2 : isLane l = true) : Good (putP ps p l) :=
  ⟨fun q hq => by
    rcases mem_put hq with hq | rfl
    · exact h.1 q hq
    · exact ⟨h1, h2⟩, put_nodup h.2⟩
theorem put_bad {ps : List Pr} {p l : Str} (h2 : isLane l = false) : ¬ Good (putP ps p l) := fun g => by
  have := (g.1 _ (put_mem ps p l)).2
  rw [h2] at this
  cases this
theorem drop_good {ps : List Pr} {p : Str} (h : Good ps) : Good (dropP ps p) :=
  ⟨fun q hq => h.1 q (List.mem_filter.mp hq).1, List.Nodup.sublist (List.filter_sublist.map Prod.fst) h.2⟩
theorem drop_len (ps : List Pr) (p : Str) : (dropP ps p).length ≤ ps.length := List.length_filter_le _ _
theorem put_len (ps : List Pr) (p l : Str) : (putP ps p l).length ≤ ps.length + 1 := by
  unfold putP
  by_cases c : (ps.any fun q => decide (q.1 = p)) = true
  · rw [if_pos c, List.length_map]
    omega
  · rw [if_neg c, List.length_append]
    exact Nat.le_refl _
theorem good_perm {ps qs : List Pr} (h : ps.Perm qs) (g : Good ps) : Good qs := ⟨fun p hp => g.1 p (h.mem_iff.mpr hp), (h.map Prod.fst).nodup_iff.mp g.2⟩
theorem good_sort {ps : List Pr} : Good (ps.mergeSort le2) ↔ Good ps := ⟨good_perm (List.mergeSort_perm ps le2), good_perm (List.mergeSort_perm ps le2).symm⟩
theorem addr_len {t : Str} (h : isAddr t = true) : t.length ≤ 8 := by
  unfold isAddr made at h
  rw [Bool.and_eq_true, Bool.and_eq_true] at h
  have := of_decide_eq_true h.1.2
  omega
theorem lane_len {t : Str} (h : isLane t = true) : t.length ≤ 12 := by
  unfold isLane at h
  rw [Bool.or_eq_true] at h
  rcases h with h | h
  · have e := of_decide_eq_true h
    rw [e]
    decide
  · unfold isName made at h
    rw [Bool.and_eq_true, Bool.and_eq_true, Bool.and_eq_true] at h
    have := of_decide_eq_true h.1.1.2
    omega
theorem valV_kvP_eq {ps : List Pr} {k : Str} : valV (kvP ps) (Sum.inr k) = (ps.find? fun q => decide (q.1 = k)).map fun q => V.str q.2 := by
  induction ps with
  | nil => rfl
  | cons p ps ih =>
    show valV ((Sum.inr p.1, V.str p.2) :: kvP ps) _ = _
    by_cases c : p.1 = k
    · rw [valV_pos (by rw [c]), List.find?_cons_of_pos (by exact decide_eq_true c)]
      rfl
    · rw [valV_neg (by intro e; exact c (Sum.inr.inj e)), ih, List.find?_cons_of_neg (by simpa using c)]
/-- a dict's rows in another order say the same -/
theorem valV_perm {ps qs : List Pr} (h : ps.Perm qs) (n : (ps.map Prod.fst).Nodup) (k : Str) : valV (kvP ps) (Sum.inr k) = valV (kvP qs) (Sum.inr k) := by
  by_cases c : k ∈ ps.map Prod.fst
  · obtain ⟨p, hp, e⟩ := List.mem_map.mp c
    subst e
    rw [valV_mem n hp, valV_mem ((h.map Prod.fst).nodup_iff.mp n) (h.mem_iff.mp hp)]
  · have c2 : k ∉ qs.map Prod.fst := fun z => c ((h.map Prod.fst).mem_iff.mpr z)
    have a1 : valV (kvP ps) (Sum.inr k) = none := by
      cases e : valV (kvP ps) (Sum.inr k) with
      | none => rfl
      | some v => exact absurd ((valV_kvP k ps).mp (by rw [e]; rfl)) c
    have a2 : valV (kvP qs) (Sum.inr k) = none := by
      cases e : valV (kvP qs) (Sum.inr k) with
      | none => rfl
      | some v => exact absurd ((valV_kvP k qs).mp (by rw [e]; rfl)) c2
    rw [a1, a2]
theorem lp_congr {kvs kvs' : Kvs} (h : ∀ k : Str, valV kvs (Sum.inr k) = valV kvs' (Sum.inr k)) (a : Str) : ∀ n, lp kvs a n = lp kvs' a n
  | 0 => rfl
  | n + 1 => by
    unfold lp
    rw [h, lp_congr h a n]
theorem laneV_congr {kvs kvs' : Kvs} (h : ∀ k : Str, valV kvs (Sum.inr k) = valV kvs' (Sum.inr k)) (a : Str) : laneV kvs a = laneV kvs' a := by
  unfold laneV long
  rw [lp_congr h]
  cases lp kvs' a a.length with
  | none => rfl
  | some p =>
    show (valV kvs (Sum.inr p)).getD _ = (valV kvs' (Sum.inr p)).getD _
    rw [h]
/-- what the table says of an address -/
theorem laneV_sort {own : List Pr} (n : (own.map Prod.fst).Nodup) (a : Str) : laneV (kvP (own.mergeSort le2)) a = laneV (kvP own) a :=
  laneV_congr (fun k => (valV_perm (List.mergeSort_perm own le2).symm n k).symm) a
end Tb
namespace Tb
open PySem PySem.Spec PyProof.Rows L2
abbrev sTCall : Stmt := inClass (topS 19) 1
abbrev sTLen : Stmt := inClass (topS 19) 3
abbrev sTRows : Stmt := inClass (topS 19) 4
abbrev sTChanged : Stmt := inClass (topS 19) 7
theorem scTCall : FnScope ["self", "address"] ["self", "address"] (defScope sTCall) := ⟨rfl, rfl, rfl, by decide +kernel, rfl, by decide +kernel, by decide +kernel⟩
theorem scTLen : FnScope ["self"] ["self"] (defScope sTLen) := ⟨rfl, rfl, rfl, by decide +kernel, rfl, by decide +kernel, by decide +kernel⟩
theorem scTRows : FnScope ["self"] ["self"] (defScope sTRows) := ⟨rfl, rfl, rfl, by decide +kernel, rfl, by decide +kernel, by decide +kernel⟩
theorem scTChanged : FnScope ["self", "prefix", "lane", "lanes"] ["self", "prefix", "lane"] (defScope sTChanged) := ⟨rfl, rfl, rfl, by decide +kernel, rfl, by decide +kernel, by decide +kernel⟩
/-- at b: a table of these rows -/
structure TabOf (C : Addr) (H : Hp) (b : Addr) (own : List Pr) : Prop where
  ex : ∃ dx d, H b = some (.ins C dx [(wLanes, .ref d)]) ∧ H d = some (.dK (kvP (own.mergeSort le2)))
  g : Good own
  n : own.length ≤ 900
theorem TabOf.same {C : Addr} {H H' : Hp} {b : Addr} {own : List Pr} (T : TabOf C H b own) (h : Same H H') : TabOf C H' b own := by
  obtain ⟨⟨dx, d, h1, h2⟩, g, n⟩ := T
  exact ⟨⟨dx, d, h _ _ h1, h _ _ h2⟩, g, n⟩
theorem TabOf.but {C : Addr} {H H' : Hp} {b p : Addr} {own : List Pr} {xs : List V} (T : TabOf C H b own) (hp : H p = some (.lst xs)) (h : But p H H') : TabOf C H' b own := by
  obtain ⟨⟨dx, d, h1, h2⟩, g, n⟩ := T
  exact ⟨⟨dx, d, h _ _ h1 (fun e => by rw [e, hp] at h1; cases h1), h _ _ h2 (fun e => by rw [e, hp] at h2; cases h2)⟩, g, n⟩
theorem TabOf.perm {C : Addr} {H : Hp} {b : Addr} {own own' : List Pr} (T : TabOf C H b own) (h : own.Perm own') : TabOf C H b own' := by
  obtain ⟨⟨dx, d, h1, h2⟩, g, n⟩ := T
  exact ⟨⟨dx, d, h1, by rw [← sort_perm h]; exact h2⟩, good_perm h g, by rw [← h.length_eq]; exact n⟩
theorem lk1 {f : Str} {v : V} : List.lookup f [(f, v)] = some v := by
  rw [List.lookup_cons, beq_self_eq_true]
/-- Table(rows): from what __init__ says -/
theorem tab_made {C CI : Addr} {H : Hp} {r : Addr} {lst : Bool} {ts : List (Addr × Pr)} {Q : VK} {E : XK} (R : RowsAt H r lst ts) (hn : ts.length ≤ 900)
    (qG : Good (ts.map (·.2)) → ∀ b H', Same H H' → H b = none → TabOf C H' b (ts.map (·.2)) → Q (.ref b) H')
    (qB : ¬ Good (ts.map (·.2)) → ∀ e H', Same H H' → H' e = some (.xd [(wWhat, .str wTable)]) → E (.ref CI) (some e) H') :
    ∀ x dx, H x = none → H dx = none → dx ≠ x → spInit C CI (V.ref x :: ([V.ref r] ++ [])) (upd (upd H dx (.own x)) x (.ins C dx [])) (fun v H2 => v = .non ∧ Q (.ref x) H2) E := by
  intro x dx nx ndx hne
  have S0 : Same H (upd (upd H dx (.own x)) x (.ins C dx [])) := (same_upd ndx).trans (same_upd (by rw [upd_ne (Ne.symm hne)]; exact nx))
  refine ⟨x, dx, r, lst, ts, rfl, upd_same, R.same S0, fun g d H' S nd hx hd => ⟨rfl, ?_⟩, fun g e H' S he => qB g e H' (S0.trans S) he⟩
  refine qG g x H' (fun b o hb => ?_) nx ⟨⟨dx, d, hx, hd⟩, g, by rw [List.length_map]; exact hn⟩
  exact S b o (S0 _ _ hb) (fun e => by rw [e, nx] at hb; cases hb)
section
variable {P : Program} {w : World} {K : PySem.W.Frag} {mg : Str → Option Value} {base : Heap}
/-- __call__ -/
def spTCall (C : Addr) : Sp := fun vs H Q _ => ∃ (b : Addr) (own : List Pr) (a : Str), vs = [.ref b, .str a] ∧ TabOf C H b own ∧ a.length ≤ 1000 ∧ Q (laneV (kvP own) a) H
theorem ok_tcall {f g C : Addr} {fd gd : FuncData} (F : Fun K "__call__" "Table.__call__" sTCall f fd) (D : Dd K mg "_lane" sLane ["lanes", "address"] g gd) (G : FnOk P w K mg base CX0 2 g gd ["lanes", "address"] (spDA laneV)) (T : TCls K C) : FnOk P w K mg base CX0 3 f fd ["self", "address"] (spTCall C) := by
  refine F.ok scTCall (fun vs H Q E h => ?_) (fun cdv A outer s H vs Q E hr h => ?_)
  · obtain ⟨b, own, a, rfl, _⟩ := h
    rfl
  · obtain ⟨b, own, a, rfl, hT, hl, q⟩ := h
    obtain ⟨dx, d, h1, h2⟩ := hT.ex
    refine ⟨_, pss_one (ps_ret (pe_call G hr (by rfl) D.g D.F.kp D.b .nil pass0 (pa_cons (pe_fld (pv 0) (by rfl)) (pa_cons (pv 1) pa_nil)))), ?_⟩
    refine ⟨.ref b, rfl, b, C, dx, _, .ref d, rfl, h1, T.c, T.no, lk1, .str a, rfl, d, _, a, rfl, h2, hl, ?_⟩
    rw [laneV_sort hT.g.2]
    exact q
/-- __len__ -/
def spTLen (C : Addr) : Sp := fun vs H Q _ => ∃ (b : Addr) (own : List Pr), vs = [.ref b] ∧ TabOf C H b own ∧ Q (.int (own.length : Int)) H
theorem ok_tlen {f C : Addr} {fd : FuncData} {k : Nat} (F : Fun K "__len__" "Table.__len__" sTLen f fd) (B : Blt mg) (T : TCls K C) : FnOk P w K mg base CX0 (k + 1) f fd ["self"] (spTLen C) := by
  refine F.ok scTLen (fun vs H Q E h => ?_) (fun cdv A outer s H vs Q E hr h => ?_)
  · obtain ⟨b, own, rfl, _⟩ := h
    rfl
  · obtain ⟨b, own, rfl, hT, q⟩ := h
    obtain ⟨dx, d, h1, h2⟩ := hT.ex
    refine ⟨_, pss_one (ps_ret (pe_callB call_lenD (by rfl) B.len PySem.boot_len (pa_cons (pe_fld (pv 0) (by rfl)) pa_nil))), ?_⟩
    refine ⟨.ref b, rfl, b, C, dx, _, .ref d, rfl, h1, T.c, T.no, lk1, d, _, rfl, h2, ?_⟩
    rw [kvP_len, len_sort]
    exact q
/-- rows -/
def spTRows (C : Addr) : Sp := fun vs H Q _ => ∃ (b : Addr) (own : List Pr), vs = [.ref b] ∧ TabOf C H b own ∧ ∀ (p : Addr) (ts : List (Addr × Pr)) (H' : Hp), Same H H' → H p = none → H' p = some (.lst (ts.map fun t => V.ref t.1)) → (∀ t ∈ ts, H' t.1 = some (.tup [.str t.2.1, .str t.2.2])) → ts.map (·.2) = own.mergeSort le2 → Q (.ref p) H'
/-- the items of a dict of texts -/
theorem items_rows {H' : Hp} : ∀ {as : List Addr} {ps : List Pr}, Paired (fun (t : Addr) (q : Key × V) => H' t = some (.tup [kV q.1, q.2])) as (kvP ps) → ∃ ts : List (Addr × Pr), ts.map Prod.fst = as ∧ ts.map Prod.snd = ps ∧ ∀ t ∈ ts, H' t.1 = some (.tup [.str t.2.1, .str t.2.2])
  | _, [], .nil => ⟨[], rfl, rfl, fun t ht => (List.not_mem_nil ht).elim⟩
  | _, p :: ps, .cons (a := a) h t => by
    obtain ⟨ts, e1, e2, e3⟩ := items_rows t
    exact ⟨(a, p) :: ts, by rw [List.map_cons, e1], by rw [List.map_cons, e2], fun x hx => by
      rcases List.mem_cons.mp hx with rfl | hx
      · exact h
      · exact e3 x hx⟩
theorem ok_trows {f C : Addr} {fd : FuncData} {k : Nat} (F : Fun K "rows" "Table.rows" sTRows f fd) (B : Blt mg) (T : TCls K C) : FnOk P w K mg base CX0 (k + 1) f fd ["self"] (spTRows C) := by
  refine F.ok scTRows (fun vs H Q E h => ?_) (fun cdv A outer s H vs Q E hr h => ?_)
  · obtain ⟨b, own, rfl, _⟩ := h
    rfl
  · obtain ⟨b, own, rfl, hT, q⟩ := h
    obtain ⟨dx, d, h1, h2⟩ := hT.ex
    refine ⟨_, pss_one (ps_ret (LiI.pe_listItems rfl (pe_fld (pv 0) (by rfl)) (by rfl) B.list PyProof.Rows.boot_list)), ?_⟩
    refine ⟨.ref b, rfl, b, C, dx, _, .ref d, rfl, h1, T.c, T.no, lk1, d, _, rfl, h2, fun H' p as S np _ _ hp hpr => ?_⟩
    obtain ⟨ts, e1, e2, e3⟩ := items_rows hpr
    refine q p ts H' S np ?_ e3 e2
    rw [hp, ← e1, List.map_map]
    rfl
end
end Tb
namespace Tb
open PySem PySem.Spec PyProof.Rows L2
/-- what `changed` answers -/
def spTChanged (C CI CU : Addr) : Sp := fun vs H Q E => ∃ (b : Addr) (own : List Pr) (p : Str) (o : Option Str), vs = [.ref b, .str p, oStr o] ∧ TabOf C H b own ∧ own.length < 900 ∧ p.length ≤ 1000 ∧ (∀ l, o = some l → l.length ≤ 1000) ∧
  ((isAddr p = false ∨ ∃ l, o = some l ∧ isLane l = false) → ∀ e H', Same H H' → H' e = some (.xd [(wWhat, .str wTable)]) → E (.ref CI) (some e) H') ∧
  (isAddr p = true → o = none → p ∉ own.map Prod.fst → ∀ e H', Same H H' → H' e = some (.xd [(wName, .str p)]) → E (.ref CU) (some e) H') ∧
  (isAddr p = true → (∀ l, o = some l → isLane l = true) → (o = none → p ∈ own.map Prod.fst) → ∀ b' H', Same H H' → TabOf C H' b' (aft own p o) → Q (.ref b') H')
theorem rows_z {own : List Pr} {p : Str} {o : Option Str} (g : Good own) (hp : p.length ≤ 1000) (ho : ∀ l, o = some l → l.length ≤ 1000) {q : Pr} (hq : q ∈ aft own p o) : q.1.length ≤ 1000 ∧ q.2.length ≤ 1000 := by
  have base : ∀ q ∈ own, q.1.length ≤ 1000 ∧ q.2.length ≤ 1000 := fun q hq => by
    have h := g.1 q hq
    have h1 := addr_len h.1
    have h2 := lane_len h.2
    omega
  cases o with
  | none => exact base q (List.mem_filter.mp hq).1
  | some l =>
    rcases mem_put hq with hq | rfl
    · exact base q hq
    · exact ⟨hp, ho l rfl⟩
theorem aft_len {own : List Pr} {p : Str} {o : Option Str} : (aft own p o).length ≤ own.length + 1 := by
  cases o with
  | none => exact Nat.le_trans (drop_len own p) (Nat.le_succ _)
  | some l => exact put_len own p l
theorem aft_good {own : List Pr} {p : Str} {o : Option Str} (g : Good own) (hp : isAddr p = true) : Good (aft own p o) ↔ ∀ l, o = some l → isLane l = true := by
  cases o with
  | none => exact ⟨fun _ l e => by (cases e), fun _ => drop_good g⟩
  | some l =>
    refine ⟨fun h l' e => ?_, fun h => put_good g hp (h l rfl)⟩
    cases e
    cases e2 : isLane l with
    | true => rfl
    | false => exact absurd h (put_bad e2)
section
variable {P : Program} {w : World} {K : PySem.W.Frag} {mg : Str → Option Value} {base : Heap}
theorem ok_tchanged {f gA gT gI gU C CI CU : Addr} {fd gdA gdT gdI gdU : FuncData} (F : Fun K "changed" "Table.changed" sTChanged f fd) (B : Blt mg) (T : TCls K C) (R : EInv K mg CI gI gdI) (U : EUnk K mg CU gU gdU)
    (DA : Dd K mg "is_address" sIsAddr ["text"] gA gdA) (GA : FnOk P w K mg base CX0 3 gA gdA ["text"] (spT isAddr))
    (MK : Mk K C gT) (gC : mg "Table" = some (.ref C)) (bT : Binds K gdT ["self", "rows"] []) (GT : FnOk P w K mg base (L2.CX P w) 4 gT gdT ["self", "rows"] (spInit C CI)) :
    FnOk P w K mg base (L2.CX P w) 6 f fd ["self", "prefix", "lane"] (spTChanged C CI CU) := by
  have GI : FnOk P w K mg base CX0 1 gI gdI ["self", "what"] (spErr K wWhat) := ok_inv R.M.F
  have GU : FnOk P w K mg base CX0 1 gU gdU ["self", "name"] (spErr K wName) := ok_unk U.M.F
  refine F.okX scTChanged (fun vs H Q E h => ?_) (fun cdv A outer s H vs Q E hr h => ?_)
  · obtain ⟨b, own, p, o, rfl, _⟩ := h
    rfl
  · obtain ⟨b, own, p, o, rfl, hT, hn, hp, ho, qI, qU, qT⟩ := h
    have hu := hu_of hr
    have hr2 : Room 2 _ := hr.mono (show 2 ≤ 5 by decide)
    have hr3 : Room 3 _ := hr.mono (show 3 ≤ 5 by decide)
    obtain ⟨dx, d, h1, h2⟩ := hT.ex
    refine ⟨_, pss_cons (ps_if (pt_not (pt_val (pe_call GA hr3 (by rfl) DA.g DA.F.kp DA.b .nil pass0 (pa_cons (pv 1) pa_nil))))
        (pss_one (ps_raise rfl (takes_of rfl rfl rfl rfl) (pmk_oex R.T.ox R.T.iC R.T.tI GI hr2 R.M.b .nil pass0 (by rfl) R.g (pa_cons pe_str pa_nil)))) pss_nil)
      (pss_cons (ps_set (i := 3) scTChanged.nd rfl (.inl rfl) (pe_callTy call_dictD (by rfl) B.dict PyProof.Rows.boot_dict (pa_cons (pe_fld (pv 0) (by rfl)) pa_nil)))
      (C8.pss_cut (ps_if (pt_cmp (pc_notN (pv 2))) (pss_one (ps_dput hu (pv 3) (pv 1) (pv 2) (by rfl)))
        (pss_one (ps_if (pt_cmp (pc_din hu (pv 1) (pv 3))) (pss_one (ps_ddel (pv 3) (pv 1))) (pss_one (ps_raise rfl (takes_of rfl rfl rfl rfl) (pmk_oex U.T.ox U.T.iC U.T.tI GU hr2 U.M.b .nil pass0 (by rfl) U.g (pa_cons (pv 1) pa_nil)))))))
      (pss_one (ps_ret (pe_make MK GT hr (by rfl) gC bT .nil (passes_call (takes_of rfl rfl rfl rfl) fun _ _ _ _ h => h) (pa_cons (LiI.pe_listItems rfl (pv 3) (by rfl) B.list PyProof.Rows.boot_list) pa_nil)))))), ?_⟩
    refine ⟨.str p, rfl, p, rfl, hp, fun H1 S1 => ⟨_, rfl, ?_⟩⟩
    cases eA : isAddr p with
    | false => exact ⟨by decide, err_made R.T (Q := E) fun e H4 S4 hd => qI (.inl eA) e H4 (S1.trans S4) hd⟩
    | true =>
    refine ⟨.ref b, rfl, b, C, dx, _, .ref d, rfl, S1 _ _ h1, T.c, T.no, lk1, d, _, rfl, .of (S1 _ _ h2), fun D nD => ?_⟩
    have S2 : Same H (upd H1 D (.dK (kvP (own.mergeSort le2)))) := S1.trans (same_upd nD)
    have HD : H D = none := by
      cases e : H D with
      | none => rfl
      | some z => rw [S1 _ _ e] at nD; cases nD
    refine ⟨fun σ' H' => σ' = [some (.ref b), some (.str p), some (oStr o), some (.ref D)] ∧ Same H H' ∧ H' D = some (.dK (kvP (aft (own.mergeSort le2) p o))) ∧ (o = none → p ∈ own.map Prod.fst), ?_, ?_⟩
    · cases o with
      | some l =>
        refine ⟨.str l, rfl, true, rfl, .str l, rfl, .ref D, rfl, .str p, rfl, D, _, rfl, DPut.k (k := Sum.inr p) upd_same ?_, rfl, fun c z hc => ?_, ?_, fun z => by (cases z)⟩
        · rw [kvP_len, len_sort]
          have hz : sizeLine = 16777216 := rfl
          omega
        · rw [upd_ne (ne_of_none hc HD)]
          exact S2 _ _ hc
        · rw [upd_same, put_kvP]
          rfl
      | none =>
        refine ⟨.non, rfl, false, rfl, .str p, rfl, .ref D, rfl, D, _, rfl, DGet.k (k := Sum.inr p) upd_same, _, rfl, ?_⟩
        cases eV : (valV (kvP (own.mergeSort le2)) (Sum.inr p)).isSome with
        | true =>
          have m : p ∈ own.map Prod.fst := ((List.mergeSort_perm own le2).map Prod.fst).mem_iff.mp ((valV_kvP p _).mp eV)
          refine ⟨.ref D, rfl, .str p, rfl, D, _, Sum.inr p, rfl, upd_same, rfl, eV, rfl, fun c z hc => ?_, ?_, fun _ => m⟩
          · rw [upd_ne (ne_of_none hc HD)]
            exact S2 _ _ hc
          · rw [upd_same, drop_kvP]
            rfl
        | false =>
          have m : p ∉ own.map Prod.fst := fun z => by
            have := (valV_kvP p _).mpr (((List.mergeSort_perm own le2).map Prod.fst).mem_iff.mpr z)
            rw [eV] at this
            cases this
          refine ⟨.str p, rfl, (by show 1 ≤ 1000; decide), err_made U.T (Q := E) fun e H4 S4 hd => qU eA rfl m e H4 (S2.trans S4) hd⟩
    · rintro σ' H' ⟨rfl, S3, hD, hm⟩
      refine ⟨.ref D, rfl, D, _, rfl, hD, fun H4 pr as S4 npr _ _ hpr hpd => ?_⟩
      obtain ⟨ts, e1, e2, e3⟩ := items_rows hpd
      have hl : ts.length ≤ 900 := by
        have e4 : ts.length = (aft (own.mergeSort le2) p o).length := by rw [← e2, List.length_map]
        have e5 := @aft_len (own.mergeSort le2) p o
        rw [len_sort] at e5
        omega
      have RA : RowsAt H4 pr true ts := ⟨by rw [hpr, ← e1, List.map_map]; rfl, e3, by omega, fun t ht => rows_z (good_sort.mpr hT.g) hp ho (by rw [← e2]; exact List.mem_map.mpr ⟨t, ht, rfl⟩)⟩
      have S5 : Same H H4 := S3.trans S4
      refine tab_made RA hl (fun g b' H5 S6 nb T5 => ?_) (fun g e H5 S6 he => ?_)
      · rw [e2] at g T5
        have ok := (aft_good (good_sort.mpr hT.g) eA).mp g
        exact qT eA ok hm b' H5 (S5.trans S6) (T5.perm (aft_perm (List.mergeSort_perm own le2) p o))
      · rw [e2] at g
        refine qI (.inr ?_) e H5 (S5.trans S6) he
        refine Classical.byContradiction fun n => g ((aft_good (good_sort.mpr hT.g) eA).mpr fun l el => ?_)
        cases e6 : isLane l with
        | true => rfl
        | false => exact absurd ⟨l, el, e6⟩ n
end
end Tb
namespace Tb
open PySem PySem.Spec PyProof.Rows L2
theorem cut_hi (xs : List V) (k : Nat) : cutV xs none (some (k : Int)) = xs.take k := by
  unfold cutV
  rw [HT.sIx_nat, HT.sIx_none, List.drop_zero, Nat.sub_zero]
  by_cases h : k ≤ xs.length
  · rw [Nat.min_eq_left h]
  · rw [Nat.min_eq_right (by omega), List.take_length, List.take_of_length_le (by omega)]
abbrev sBag : Stmt := topS 25
abbrev sDraw : Stmt := topS 26
theorem scBag : FnScope ["script", "cell"] ["script"] (defScope sBag) := ⟨rfl, rfl, rfl, by decide +kernel, rfl, by decide +kernel, by decide +kernel⟩
theorem scDraw : FnScope ["bag", "size", "cell", "digit", "mixed"] ["bag", "size"] (defScope sDraw) := ⟨rfl, rfl, rfl, by decide +kernel, rfl, by decide +kernel, by decide +kernel⟩
abbrev MM : Int := 2147483647
/-- the bag of the draws -/
def bagL (n c m : Int) (ns : List Int) : HO := .lst (.int n :: .int c :: .int m :: ns.map V.int)
def Bag (H : Hp) (p : Addr) : Prop := ∃ (n c m : Int) (ns : List Int), H p = some (bagL n c m ns) ∧ 0 ≤ c ∧ 0 ≤ m ∧ m < MM ∧ ns.length ≤ 63
theorem Bag.same {H H' : Hp} {p : Addr} (B : Bag H p) (h : Same H H') : Bag H' p := by
  obtain ⟨n, c, m, ns, hp, rest⟩ := B
  exact ⟨n, c, m, ns, h _ _ hp, rest⟩
section
variable {P : Program} {w : World} {K : PySem.W.Frag} {mg : Str → Option Value} {base : Heap}
def spBag (K : PySem.W.Frag) : Sp := fun vs H Q _ => ∃ (a : Addr) (ns : List Int), vs = [.ref a] ∧ SqL K H a (ns.map V.int) ∧ ∀ (p : Addr) (H' : Hp), Same H H' → H p = none → Bag H' p → Q (.ref p) H'
theorem ok_bag {f : Addr} {fd : FuncData} {k : Nat} (F : Fun K "_law_bag" "_law_bag" sBag f fd) (B : Blt mg) : FnOk P w K mg base CX0 (k + 1) f fd ["script"] (spBag K) := by
  refine F.ok scBag (fun vs H Q E h => ?_) (fun cdv A outer s H vs Q E hr h => ?_)
  · obtain ⟨a, ns, rfl, _⟩ := h
    rfl
  · obtain ⟨a, ns, rfl, hS, q⟩ := h
    refine ⟨_, pss_one (ps_ret (pe_op op_cat (pe_lst (pa_cons pe_int (pa_cons pe_int (pa_cons pe_int pa_nil))))
      (pe_lc (own := [("cell", 1)]) (g := gName 1) (by rfl) scBag.nd (pi_list (pe_slice sl_list (pv 0) po_none (po_some pe_int))) (blkOk_by (N := ["script", "cell"]) (sc := defScope sBag) (by decide +kernel)) (fun _ _ _ _ _ => pg_name (i := 1) scBag.nd rfl (Or.inl rfl)) (fun _ _ _ _ _ => pts_nil)
        (fun _ _ _ _ _ => pe_callTy call_int1 (by rfl) B.int PyProof.Rows.boot_int (pa_cons (pv 1) pa_nil))))), ?_⟩
    refine ⟨by show 3 ≤ sizeLine; decide, fun l nl => ?_⟩
    have S1 : Same H (upd H l (.lst [V.int 0, V.int 0, V.int 0])) := same_upd nl
    refine ⟨.ref a, rfl, 63, rfl, a, ns.map V.int, rfl, S1.seq hS, fun p np => ?_⟩
    refine ⟨p, rfl, ⟨_, sqOf upd_same⟩, fun D nD => ?_⟩
    have hl : (upd (upd H l (.lst [V.int 0, V.int 0, V.int 0])) p (.lst (cutV (ns.map V.int) none (some 63)))) l = some (.lst [V.int 0, V.int 0, V.int 0]) := by
      rw [upd_ne (ne_of_none upd_same np)]
      exact upd_same
    have e63 : cutV (ns.map V.int) none (some 63) = (ns.take 63).map V.int := (cut_hi (ns.map V.int) 63).trans List.map_take.symm
    have hp : (upd (upd H l (.lst [V.int 0, V.int 0, V.int 0])) p (.lst (cutV (ns.map V.int) none (some 63)))) p = some (.lst ((ns.take 63).map V.int)) := by rw [upd_same, e63]
    have S2 : Same H (upd (upd H l (.lst [V.int 0, V.int 0, V.int 0])) p (.lst (cutV (ns.map V.int) none (some 63)))) := S1.trans (same_upd np)
    have l63 : (ns.take 63).length ≤ 63 := by rw [List.length_take]; exact Nat.min_le_left _ _
    generalize ns.take 63 = ks at *
    generalize eH : upd (upd H l (.lst [V.int 0, V.int 0, V.int 0])) p (.lst (cutV (ns.map V.int) none (some 63))) = H2 at *
    refine lc_it (walk_list (a := p) (xs := cutV (ns.map V.int) none (some 63))) (fun i H' => Same H2 H' ∧ H' D = some (.lst ((ks.take i).map V.int))) ⟨same_upd nD, upd_same⟩ (fun i H' _ hP => sqOf (by rw [e63]; exact hP.1 _ _ hp)) (fun i v H3 H4 hi hP hy => ?_) (fun H3 hP => ?_)
    · obtain ⟨S3, hD⟩ := hP
      obtain ⟨rfl, ev⟩ := hy
      rw [e63, List.getElem?_map] at ev
      cases ek : ks[i]? with
      | none => rw [ek] at ev; cases ev
      | some k =>
      rw [ek] at ev
      cases (Option.some.inj ev)
      refine ⟨rfl, .int k, rfl, .inl ⟨k, rfl, _, hD, ?_, fun b o hb => by rw [upd_ne (ne_of_none hb nD)]; exact S3 _ _ hb, ?_⟩⟩
      · rw [List.length_map, List.length_take]
        have hz : sizeLine = 16777216 := rfl
        omega
      · rw [upd_same, List.take_add_one, ek, List.map_append]
        rfl
    · obtain ⟨S3, hD⟩ := hP
      rw [e63, List.length_map, List.take_length] at hD
      refine ⟨l, D, _, _, rfl, rfl, S3 _ _ hl, hD, ?_, fun r nr => ?_⟩
      · rw [List.length_map]
        show 3 + ks.length ≤ sizeLine
        have hz : sizeLine = 16777216 := rfl
        omega
      · refine q r _ ((S2.trans S3).trans (same_upd nr)) ((S2.trans S3).free nr) ⟨0, 0, 0, ks, ?_, by decide, by decide, by decide, l63⟩
        rw [upd_same]
        rfl
theorem ixN_nat' {n j : Nat} (hj : j < n) : ixN n (j : Int) = some j := by
  unfold ixN
  rw [if_pos (by omega), if_pos (by omega)]
  rfl
theorem ix0 {a b c : V} {xs : List V} : ixN (a :: b :: c :: xs).length 0 = some 0 := ixN_nat' (n := (a :: b :: c :: xs).length) (j := 0) (by simp)
theorem ix1 {a b c : V} {xs : List V} : ixN (a :: b :: c :: xs).length 1 = some 1 := ixN_nat' (n := (a :: b :: c :: xs).length) (j := 1) (by simp)
theorem ix2 {a b c : V} {xs : List V} : ixN (a :: b :: c :: xs).length 2 = some 2 := ixN_nat' (n := (a :: b :: c :: xs).length) (j := 2) (by simp)
theorem six3 {a b c d : V} {xs : List V} : seqIndex? 3 (a :: b :: c :: d :: xs).length = some 3 := (ixN_seq (ixN_nat' (n := (a :: b :: c :: d :: xs).length) (j := 3) (by simp))).1
/-- `size` at least 1 -/
def spDraw : Sp := fun vs H Q _ => ∃ (p : Addr) (n : Int), vs = [.ref p, .int n] ∧ Bag H p ∧ 0 < n ∧ n < 2 ^ 60 ∧ ∀ (z : Int) (H' : Hp), 0 ≤ z → z < n → Bag H' p → But p H H' → Q (.int z) H'
theorem ok_draw {f : Addr} {fd : FuncData} {k : Nat} (F : Fun K "_law_draw" "_law_draw" sDraw f fd) (B : Blt mg) : FnOk P w K mg base CX0 (k + 1) f fd ["bag", "size"] spDraw := by
  refine F.ok scDraw (fun vs H Q E h => ?_) (fun cdv A outer s H vs Q E hr h => ?_)
  · obtain ⟨p, n, rfl, _⟩ := h
    rfl
  · obtain ⟨p, sz, rfl, hB, hn0, hn, q⟩ := h
    obtain ⟨n, c, m, ns, hp, c0, m0, m1, l63⟩ := hB
    have hz : sizeLine = 16777216 := rfl
    refine ⟨_, pss_cons (ps_asg (pe_op op_add (pe_ix ix_list (pv 0) pe_int (fun _ _ => rfl)) pe_int) (pg_sub (pv 0) pe_int set_list))
      (C8.pss_cut (ps_if (PW.pt (pw_and (pt_cmp (pc_eqI (pe_ix ix_list (pv 0) pe_int (fun _ _ => rfl)) pe_int)) (pw_and1 (pt_cmpR op_gt (pe_callB call_len_seq (by rfl) B.len PySem.boot_len (pa_cons (pv 0) pa_nil)) pe_int (nomark _)))))
        (pss_cons (ps_set (i := 2) scDraw.nd rfl (.inl rfl) (pe_bm PySem.F.plainAttrs_list PySem.F.slot_list_pop PySem.F.type_list_pop mt_popAt (pv 0) (pa_cons pe_int pa_nil)))
        (pss_cons (ps_asg (pe_op op_mod (pe_callTy call_int1 (by rfl) B.int PyProof.Rows.boot_int (pa_cons (pe_op op_add (pe_op op_add (pe_op op_mul (pe_ix ix_list (pv 0) pe_int (fun _ _ => rfl)) pe_int) (pv 2)) pe_int) pa_nil)) pe_int) (pg_sub (pv 0) pe_int set_list))
        (pss_one (ps_if (pt_cmpR op_ge (pv 2) (pe_op op_pow pe_int pe_int) (nomark _)) (pss_one (ps_asg (pv 2) (pg_sub (pv 0) pe_int set_list))) pss_nil)))) pss_nil)
      (pss_cons (ps_if (pt_cmpR op_gt (pe_ix ix_list (pv 0) pe_int (fun _ _ => rfl)) pe_int (nomark _))
        (pss_cons (ps_set (i := 3) scDraw.nd rfl (.inl rfl) (pe_op op_mod (pe_callTy call_int1 (by rfl) B.int PyProof.Rows.boot_int (pa_cons (pe_ix ix_list (pv 0) pe_int (fun _ _ => rfl)) pa_nil)) (pv 1)))
        (pss_cons (ps_asg (pe_op op_fdivW (pe_ix ix_list (pv 0) pe_int (fun _ _ => rfl)) (pv 1)) (pg_sub (pv 0) pe_int set_list))
        (pss_one (ps_ret (pv 3))))) pss_nil)
      (pss_cons (ps_set (i := 4) scDraw.nd rfl (.inl rfl) (pe_op op_mod (pe_callTy call_int1 (by rfl) B.int PyProof.Rows.boot_int (pa_cons (pe_op op_add (pe_op op_add (pe_op op_mul (pe_ix ix_list (pv 0) pe_int (fun _ _ => rfl)) pe_int) (pe_op op_mul (pe_ix ix_list (pv 0) pe_int (fun _ _ => rfl)) pe_int)) pe_int) pa_nil)) pe_int))
      (pss_cons (ps_set (i := 4) scDraw.nd rfl (.inl rfl) (pe_op op_mod (pe_callTy call_int1 (by rfl) B.int PyProof.Rows.boot_int (pa_cons (pe_op op_add (pe_op op_fdiv (pe_op op_mul (pv 4) (pv 4)) pe_int) (pe_op op_mul (pv 4) pe_int)) pa_nil)) pe_int))
      (pss_one (ps_ret (pe_op op_mod (pe_callTy call_int1 (by rfl) B.int PyProof.Rows.boot_int (pa_cons (pe_op op_fdiv (pv 4) pe_int) pa_nil)) (pv 1)))))))), ?_⟩
    -- bag[0] = bag[0] + 1
    refine ⟨.ref p, rfl, p, _, 0, .int n, rfl, rfl, sqOf hp, atI_nat (j := 0) rfl, n, 1, rfl, rfl, .ref p, rfl, p, _, 0, 0, rfl, rfl, hp, ix0, ?_⟩
    have B1 : But p H (upd H p (bagL (n + 1) c m ns)) := But.upd
    have hp1 : (upd H p (bagL (n + 1) c m ns)) p = some (bagL (n + 1) c m ns) := upd_same
    show ∃ Mid : L2.St → Hp → Prop, _ ∧ _
    refine ⟨fun σ' H' => ∃ (y : Option V) (n c m : Int) (ns : List Int), σ' = [some (.ref p), some (.int sz), y, none, none] ∧ H' p = some (bagL n c m ns) ∧ 0 ≤ c ∧ 0 ≤ m ∧ m < MM ∧ ns.length ≤ 63 ∧ But p H H', ?_, ?_⟩
    · change tIfS _ _ _ _ _ (upd H p (bagL (n + 1) c m ns))
      generalize upd H p (bagL (n + 1) c m ns) = H1 at B1 hp1
      refine ⟨.ref p, rfl, p, _, 1, .int c, rfl, rfl, sqOf hp1, atI_nat (j := 1) rfl, c, 0, rfl, rfl, _, rfl, ite2 (fun e1 => ?_) (fun e1 => ?_)⟩
      · refine ⟨.ref p, rfl, p, _, rfl, .inl (sqOf hp1), _, 3, rfl, rfl, _, rfl, ite2 (fun e2 => ?_) (fun e2 => ?_)⟩
        · cases ns with
          | nil => exact absurd (of_decide_eq_true e2) (by simp)
          | cons k ks =>
          have lk : ks.length ≤ 63 := Nat.le_of_succ_le l63
          refine ⟨.ref p, rfl, .inl ⟨rfl, _, sqOf hp1⟩, p, _, 3, 3, .int k, rfl, rfl, hp1, by decide, by decide, six3, rfl, ?_⟩
          refine ⟨.ref p, rfl, p, V.int (n + 1) :: V.int c :: V.int m :: ks.map V.int, 2, .int m, rfl, rfl, sqOf upd_same, atI_nat (j := 2) rfl, m, 48271, rfl, rfl, .inr ⟨by decide, by decide⟩, .int k, rfl, _, _, rfl, rfl, _, _, rfl, rfl, .inl ⟨_, rfl, _, MM, rfl, rfl, (by show (0 : Int) < MM; decide), .ref p, rfl, p, V.int (n + 1) :: V.int c :: V.int m :: ks.map V.int, 2, 2, rfl, rfl, upd_same, ix2, ?_⟩⟩
          have z0 : 0 ≤ (m * 48271 + k + 11) % MM := Int.emod_nonneg _ (by decide)
          have z1 : (m * 48271 + k + 11) % MM < MM := Int.emod_lt_of_pos _ (by decide)
          refine ⟨.int k, rfl, 10, 18, rfl, rfl, ⟨by decide, by decide, by decide⟩, k, _, rfl, rfl, _, rfl, ite2 (fun e3 => ?_) (fun e3 => ?_)⟩
          · have h1 : (10 : Int) ^ (18 : Int).toNat ≤ k := of_decide_eq_true e3
            have h0 : (0 : Int) ≤ (10 : Int) ^ (18 : Int).toNat := by decide
            refine ⟨.int k, rfl, .ref p, rfl, p, V.int (n + 1) :: V.int c :: V.int ((m * 48271 + k + 11) % MM) :: ks.map V.int, 1, 1, rfl, rfl, upd_same, ix1, ?_⟩
            exact ⟨some (.int k), n + 1, k, _, ks, rfl, upd_same, by omega, z0, z1, lk, ((B1.trans But.upd).trans But.upd).trans But.upd⟩
          · exact ⟨some (.int k), n + 1, c, _, ks, rfl, upd_same, c0, z0, z1, lk, (B1.trans But.upd).trans But.upd⟩
        · exact ⟨none, n + 1, c, m, ns, rfl, hp1, c0, m0, m1, l63, B1⟩
      · exact ⟨none, n + 1, c, m, ns, rfl, hp1, c0, m0, m1, l63, B1⟩
    · rintro σ' H2 ⟨y, n, c, m, ns, rfl, hp, c0, m0, m1, l63, B2⟩
      have hn9 : sz.natAbs < 2 ^ 61 := by omega
      refine ⟨.ref p, rfl, p, _, 1, .int c, rfl, rfl, sqOf hp, atI_nat (j := 1) rfl, c, 0, rfl, rfl, _, rfl, ite2 (fun e2 => ?_) (fun e2 => ?_)⟩
      · refine ⟨.ref p, rfl, p, _, 1, .int c, rfl, rfl, sqOf hp, atI_nat (j := 1) rfl, .inl ⟨_, rfl, .int sz, rfl, _, _, rfl, rfl, (by show (0 : Int) < sz; omega), ?_⟩⟩
        refine ⟨.ref p, rfl, p, _, 1, .int c, rfl, rfl, sqOf hp, atI_nat (j := 1) rfl, .int sz, rfl, c, sz, rfl, rfl, wide_div (by omega) hn9 (by decide) (by decide), .ref p, rfl, p, _, 1, 1, rfl, rfl, hp, ix1, ?_⟩
        exact ⟨_, rfl, q _ _ (Int.emod_nonneg _ (by omega)) (Int.emod_lt_of_pos _ (by omega)) ⟨n, c / sz, m, ns, upd_same, Int.ediv_nonneg c0 (by omega), m0, m1, l63⟩ (B2.trans But.upd)⟩
      · refine ⟨.ref p, rfl, p, _, 2, .int m, rfl, rfl, sqOf hp, atI_nat (j := 2) rfl, m, 69621, rfl, rfl, .inr ⟨by decide, by decide⟩, .ref p, rfl, p, _, 0, .int n, rfl, rfl, sqOf hp, atI_nat (j := 0) rfl, n, 40692, rfl, rfl, .inr ⟨by decide, by decide⟩, _, _, rfl, rfl, _, 7, rfl, rfl, .inl ⟨_, rfl, _, 2147483399, rfl, rfl, (by show (0 : Int) < 2147483399; decide), ?_⟩⟩
        have x0 : 0 ≤ (m * 69621 + n * 40692 + 7) % 2147483399 := Int.emod_nonneg _ (by decide)
        have x1 : (m * 69621 + n * 40692 + 7) % 2147483399 < 2147483399 := Int.emod_lt_of_pos _ (by decide)
        show tSeq _ _ _ ([some (.ref p), some (.int sz), y, none, some (.int ((m * 69621 + n * 40692 + 7) % 2147483399))] : L2.St) _
        generalize (m * 69621 + n * 40692 + 7) % 2147483399 = x at x0 x1
        refine ⟨.int x, rfl, .int x, rfl, x, x, rfl, rfl, .inl ⟨by omega, by omega⟩, _, 65537, rfl, rfl, ⟨by decide, by decide⟩, .int x, rfl, x, 48271, rfl, rfl, .inr ⟨by decide, by decide⟩, _, _, rfl, rfl, .inl ⟨_, rfl, _, MM, rfl, rfl, (by show (0 : Int) < MM; decide), ?_⟩⟩
        exact ⟨.int ((x * x / 65537 + x * 48271) % MM), rfl, _, 32, rfl, rfl, ⟨by decide, by decide⟩, .inl ⟨_, rfl, .int sz, rfl, _, _, rfl, rfl, (by show (0 : Int) < sz; omega), q _ _ (Int.emod_nonneg _ (by omega)) (Int.emod_lt_of_pos _ (by omega)) ⟨n, c, m, ns, hp, c0, m0, m1, l63⟩ B2⟩⟩
end
end Tb
namespace Tb
open PySem PySem.Spec PyProof.Rows L2
/-! ### texts by their signs -/
abbrev tl (z : Str) : List Nat := z.cps.toList
theorem len_tl (z : Str) : z.length = (tl z).length := (Array.length_toList).symm
theorem tl_one (c : Nat) : tl ⟨#[c]⟩ = [c] := rfl
theorem tl_app (a b : Str) : tl (a ++ b) = tl a ++ tl b := by
  show (a.cps ++ b.cps).toList = _
  rw [Array.toList_append]
theorem tl_hi (z : Str) (k : Nat) : tl (cutS z none (some (k : Int))) = (tl z).take k := by
  show ((z.cps.toList.drop (HT.sIx z.length 0 none)).take (HT.sIx z.length z.length (some (k : Int)) - HT.sIx z.length 0 none)).toArray.toList = _
  rw [List.toList_toArray, HT.sIx_nat, HT.sIx_none, List.drop_zero, Nat.sub_zero]
  by_cases h : k ≤ z.length
  · rw [Nat.min_eq_left h]
  · have : z.cps.toList.length = z.length := Array.length_toList
    rw [Nat.min_eq_right (by omega), ← this, List.take_length, List.take_of_length_le (by show z.cps.toList.length ≤ k; omega)]
theorem tl_lo (z : Str) (k : Nat) : tl (cutS z (some (k : Int)) none) = (tl z).drop k := by
  show ((z.cps.toList.drop (HT.sIx z.length 0 (some (k : Int)))).take (HT.sIx z.length z.length none - HT.sIx z.length 0 (some (k : Int)))).toArray.toList = _
  have e0 : z.cps.toList.length = z.length := Array.length_toList
  have e1 : HT.sIx z.length 0 (some (k : Int)) = min k z.length := HT.sIx_nat _ _ _
  rw [List.toList_toArray, e1, HT.sIx_none]
  have e2 : z.cps.toList.drop (min k z.length) = z.cps.toList.drop k := by
    by_cases h : k ≤ z.length
    · rw [Nat.min_eq_left h]
    · rw [Nat.min_eq_right (by omega), List.drop_eq_nil_of_le (by omega), List.drop_eq_nil_of_le (by omega)]
  rw [e2, List.take_of_length_le (by rw [List.length_drop]; omega)]
theorem tl_inj {a b : Str} (h : tl a = tl b) : a = b := by
  cases a; cases b
  congr 1
  exact Array.ext' h
def Sg (z : Str) : Prop := ∀ c ∈ tl z, c < 1114112
structure Tx (z : Str) : Prop where
  len : z.length ≤ 100
  sg : Sg z
def Nm (l : List Nat) : Prop := l.length ≤ 12 ∧ (∀ d ∈ l, isIn (letters ++ digits) d = true) ∧ ∃ c, l[0]? = some c ∧ isIn letters c = true
def Ad (l : List Nat) : Prop := 1 ≤ l.length ∧ l.length ≤ 8 ∧ ∀ d ∈ l, isIn digits d = true
theorem isName_iff (t : Str) : isName t = true ↔ Nm (tl t) := by
  have e0 : t.cps.toList.length = t.length := Array.length_toList
  unfold isName made Nm
  rw [Bool.and_eq_true, Bool.and_eq_true, Bool.and_eq_true, List.all_eq_true, decide_eq_true_eq, decide_eq_true_eq, ← Array.getElem?_toList]
  constructor
  · rintro ⟨⟨⟨h1, h2⟩, h3⟩, h4⟩
    refine ⟨by show t.cps.toList.length ≤ 12; omega, h3, ?_⟩
    cases e : t.cps.toList[0]? with
    | none => rw [e] at h4; cases h4
    | some c => rw [e] at h4; exact ⟨c, rfl, h4⟩
  · rintro ⟨h1, h2, c, h3, h4⟩
    have h1 : t.cps.toList.length ≤ 12 := h1
    have h3 : t.cps.toList[0]? = some c := h3
    have := (List.getElem?_eq_some_iff.mp h3).1
    rw [h3]
    exact ⟨⟨⟨by omega, by omega⟩, h2⟩, h4⟩
theorem isAddr_iff (t : Str) : isAddr t = true ↔ Ad (tl t) := by
  have e0 : t.cps.toList.length = t.length := Array.length_toList
  unfold isAddr made Ad
  rw [Bool.and_eq_true, Bool.and_eq_true, List.all_eq_true, decide_eq_true_eq, decide_eq_true_eq]
  constructor
  · rintro ⟨⟨h1, h2⟩, h3⟩
    exact ⟨by show 1 ≤ t.cps.toList.length; omega, by show t.cps.toList.length ≤ 8; omega, h3⟩
  · rintro ⟨h1, h2, h3⟩
    have h1 : 1 ≤ t.cps.toList.length := h1
    have h2 : t.cps.toList.length ≤ 8 := h2
    exact ⟨⟨by omega, by omega⟩, h3⟩
theorem in_lt {s : Str} (hs : (tl s).all (fun c => decide (c < 1114112)) = true) {c : Nat} (h : isIn s c = true) : c < 1114112 :=
  of_decide_eq_true (List.all_eq_true.mp hs c (of_decide_eq_true h))
theorem nm_tx {t : Str} (h : Nm (tl t)) : Tx t :=
  ⟨by rw [len_tl]; have := h.1; omega, fun c hc => in_lt (by decide +kernel) (h.2.1 c hc)⟩
theorem ad_tx {t : Str} (h : Ad (tl t)) : Tx t :=
  ⟨by rw [len_tl]; have := h.2.1; omega, fun c hc => in_lt (by decide +kernel) (h.2.2 c hc)⟩
/-- a sign put in the place -/
def rep (l : List Nat) (s d : Nat) : List Nat := l.take s ++ [d] ++ l.drop (s + 1)
theorem rep_len {l : List Nat} {s d : Nat} (h : s < l.length) : (rep l s d).length = l.length := by
  unfold rep
  rw [List.length_append, List.length_append, List.length_take, List.length_drop, List.length_singleton]
  omega
theorem rep_mem {l : List Nat} {s d e : Nat} (h : e ∈ rep l s d) : e ∈ l ∨ e = d := by
  unfold rep at h
  rcases List.mem_append.mp h with h | h
  · rcases List.mem_append.mp h with h | h
    · exact .inl (List.mem_of_mem_take h)
    · exact .inr (List.mem_singleton.mp h)
  · exact .inl (List.mem_of_mem_drop h)
theorem rep_head {l : List Nat} {s d : Nat} (h : s < l.length) : (rep l s d)[0]? = if s = 0 then some d else l[0]? := by
  unfold rep
  cases s with
  | zero => rfl
  | succ s =>
    cases l with
    | nil => cases h
    | cons a l => rfl
theorem rep_tl (t : Str) (s d : Nat) : tl ((cutS t none (some (s : Int)) ++ ⟨#[d]⟩) ++ cutS t (some ((s : Int) + 1)) none) = rep (tl t) s d := by
  rw [tl_app, tl_app, tl_hi, show ((s : Int) + 1) = ((s + 1 : Nat) : Int) from rfl, tl_lo]
  rfl
theorem nm_rep {l : List Nat} {s d : Nat} (h : Nm l) (hs : s < l.length) (hd : isIn (letters ++ digits) d = true) (h0 : s = 0 → isIn letters d = true) : Nm (rep l s d) := by
  obtain ⟨h1, h2, c, h3, h4⟩ := h
  refine ⟨by rw [rep_len hs]; exact h1, fun e he => ?_, ?_⟩
  · rcases rep_mem he with he | rfl
    · exact h2 e he
    · exact hd
  · rw [rep_head hs]
    by_cases e : s = 0
    · exact ⟨d, by rw [if_pos e], h0 e⟩
    · exact ⟨c, by rw [if_neg e]; exact h3, h4⟩
theorem ad_rep {l : List Nat} {s d : Nat} (h : Ad l) (hs : s < l.length) (hd : isIn digits d = true) : Ad (rep l s d) := by
  obtain ⟨h1, h2, h3⟩ := h
  refine ⟨by rw [rep_len hs]; exact h1, by rw [rep_len hs]; exact h2, fun e he => ?_⟩
  rcases rep_mem he with he | rfl
  · exact h3 e he
  · exact hd
abbrev LD : Str := (("abcdefghijklmnopqrstuvwxyz0123456789" : String) : Str)
theorem ld_len : (LD.length : Int) = 36 := by decide +kernel
theorem ld_any {n c : Nat} (h : LD.cps[n]? = some c) : isIn (letters ++ digits) c = true := by
  have k : ∀ m : Fin 36, isIn (letters ++ digits) (LD.cps[m.val]?.getD 0) = true := by decide +kernel
  have hl : n < 36 := by
    have := (Array.getElem?_eq_some_iff.mp h).1
    have e : LD.cps.size = 36 := by decide +kernel
    omega
  have := k ⟨n, hl⟩
  rw [h] at this
  exact this
theorem ld_lo {n c : Nat} (h : LD.cps[n]? = some c) (hn : n < 26) : isIn letters c = true := by
  have k : ∀ m : Fin 26, isIn letters (LD.cps[m.val]?.getD 0) = true := by decide +kernel
  have := k ⟨n, hn⟩
  rw [h] at this
  exact this
theorem dg_any {n c : Nat} (h : digits.cps[n]? = some c) : isIn digits c = true := decide_eq_true (by
  rw [Array.mem_toList_iff]
  exact Array.mem_of_getElem? h)
theorem dg_len : (digits.length : Int) = 10 := by decide +kernel
theorem at_sign {z : Str} {i : Int} (h : i < z.length) (h0 : 0 ≤ i) : ∃ c, z.cps[i.toNat]? = some c := by
  have : i.toNat < z.cps.size := by
    show i.toNat < z.length
    omega
  exact ⟨_, Array.getElem?_eq_getElem this⟩
theorem nm_app {l m : List Nat} (h : Nm l) (hm : ∀ d ∈ m, isIn (letters ++ digits) d = true) (hl : l.length + m.length ≤ 12) : Nm (l ++ m) := by
  obtain ⟨h1, h2, c, h3, h4⟩ := h
  refine ⟨by rw [List.length_append]; exact hl, fun e he => ?_, c, ?_, h4⟩
  · rcases List.mem_append.mp he with he | he
    · exact h2 e he
    · exact hm e he
  · rw [List.getElem?_append_left (List.getElem?_eq_some_iff.mp h3).1]
    exact h3
theorem nm_take {l : List Nat} (h : Nm l) {k : Nat} (hk : 0 < k) : Nm (l.take k) := by
  obtain ⟨h1, h2, c, h3, h4⟩ := h
  refine ⟨by rw [List.length_take]; omega, fun e he => h2 e (List.mem_of_mem_take he), c, ?_, h4⟩
  rw [List.getElem?_take, if_pos hk]
  exact h3
theorem nm_pos {l : List Nat} (h : Nm l) : 0 < l.length := by
  obtain ⟨_, _, c, h3, _⟩ := h
  exact (List.getElem?_eq_some_iff.mp h3).1
theorem num100 {k : Nat} (h : k < 100) : (tl (Str.ofString (toString (k : Int)))).length ≤ 2 ∧ ∀ d ∈ tl (Str.ofString (toString (k : Int))), isIn (letters ++ digits) d = true := by
  have k1 : ∀ m : Fin 100, (decide ((tl (Str.ofString (toString (m.val : Int)))).length ≤ 2) && (tl (Str.ofString (toString (m.val : Int)))).all (isIn (letters ++ digits))) = true := by decide +kernel
  have := k1 ⟨k, h⟩
  rw [Bool.and_eq_true, List.all_eq_true] at this
  exact ⟨of_decide_eq_true this.1, this.2⟩
end Tb
namespace Tb
open PySem PySem.Spec PyProof.Rows L2
abbrev sFresh : Stmt := topS 27
abbrev NF8 : List Str := ["bag", "known", "letters", "text", "spot", "sign", "size", "k", "base"]
theorem scFresh : FnScope NF8 ["bag", "known"] (defScope sFresh) := ⟨rfl, rfl, rfl, by decide +kernel, rfl, by decide +kernel, by decide +kernel⟩
/-- a list of texts -/
structure Txs (H : Hp) (l : Addr) (ks : List Str) : Prop where
  l : H l = some (.lst (ks.map V.str))
  n : ks.length ≤ 400
  t : ∀ x ∈ ks, Tx x
theorem Txs.off {H : Hp} {l p : Addr} {ks : List Str} (T : Txs H l ks) (B : Bag H p) : l ≠ p := fun e => by
  obtain ⟨n, c, m, ns, hp, _⟩ := B
  have h := T.l
  rw [e, hp] at h
  have e2 : V.int n :: V.int c :: V.int m :: ns.map V.int = ks.map V.str := HO.lst.inj (Option.some.inj h)
  cases ks with
  | nil => cases e2
  | cons k ks => cases e2
theorem Txs.but {H H' : Hp} {l p : Addr} {ks : List Str} (T : Txs H l ks) (B : Bag H p) (h : But p H H') : Txs H' l ks := ⟨h _ _ T.l (T.off B), T.n, T.t⟩
theorem Txs.same {H H' : Hp} {l : Addr} {ks : List Str} (T : Txs H l ks) (h : Same H H') : Txs H' l ks := ⟨h _ _ T.l, T.n, T.t⟩
theorem dp_strs {K : PySem.W.Frag} {H : Hp} : ∀ ks : List Str, DpAll K H (ks.map V.str) (ks.map PyData.str)
  | [] => .nil
  | k :: ks => .cons (.str k) (dp_strs ks)
theorem strOk_sg {z : Str} (h : Sg z) : PySem.PyData.strOk z = true := by
  unfold PySem.PyData.strOk
  rw [Array.all_eq_true']
  intro c hc
  exact decide_eq_true (h c (Array.mem_toList_iff.mpr hc))
theorem lay_strs : ∀ {ks : List Str}, (∀ x ∈ ks, Tx x) → PyData.canLayAll0 (ks.map PyData.str) = true ∧ PyData.depthAll (ks.map PyData.str) ≤ 1
  | [], _ => by simp [PyData.canLayAll0, PyData.depthAll]
  | k :: ks, h => by
    obtain ⟨b1, b2⟩ := lay_strs (ks := ks) fun q hq => h q (List.mem_cons_of_mem _ hq)
    have a1 := strOk_sg (h k List.mem_cons_self).sg
    refine ⟨?_, ?_⟩
    · simp only [List.map_cons, PyData.canLayAll0, PyData.canLay0, a1, b1, Bool.and_true]
    · simp only [List.map_cons, PyData.depthAll, PyData.depth]
      omega
theorem shaped_strs {ks : List Str} (h : ∀ x ∈ ks, Tx x) : SeqAt.shaped (.list (ks.map PyData.str)) = true := by
  obtain ⟨h1, h2⟩ := lay_strs h
  show (PyData.canLay0 (.list (ks.map PyData.str)) && decide (PyData.depth (.list (ks.map PyData.str)) ≤ 64)) = true
  rw [Bool.and_eq_true]
  refine ⟨by simp only [PyData.canLay0]; exact h1, decide_eq_true ?_⟩
  simp only [PyData.depth]
  omega
theorem eqv_nil {ds : List PyData} : PyData.eqv (.list ds) (.list []) = ds.isEmpty := by
  cases ds <;> simp [PyData.eqv, PyData.eqvAll]
theorem flat_strs (ks : List Str) : (ks.map V.str).all flatV = true := by
  rw [List.all_map, List.all_eq_true]
  exact fun _ _ => rfl
/-- draws that leave the rest -/
abbrev Drawn (p : Addr) (H H' : Hp) : Prop := Bag H' p ∧ But p H H'
theorem ifS_via {tc : TT} {t u : TS} {D : Ends} {σ : L2.St} {H : Hp} (R : Bool → Hp → Prop) (h : ∀ Q : Bool → Hp → Prop, (∀ b H1, R b H1 → Q b H1) → tc σ H Q) (k : ∀ b H1, R b H1 → (if b = true then t D σ H1 else u D σ H1)) : tIfS tc t u D σ H := h _ k
theorem at_nat {α : Type} {xs : List α} {i : Int} {v : α} (h0 : 0 ≤ i) (h : xs[i.toNat]? = some v) : atI xs i = some v := by
  have e : i = (i.toNat : Int) := by omega
  rw [e]
  exact atI_nat h
theorem pick {ks : List Str} {i : Int} (h0 : 0 ≤ i) (h1 : i < ((ks.map V.str).length : Int)) : ∃ x ∈ ks, atI (ks.map V.str) i = some (V.str x) := by
  rw [List.length_map] at h1
  have hl : i.toNat < ks.length := by omega
  refine ⟨ks[i.toNat], List.getElem_mem hl, at_nat h0 ?_⟩
  rw [List.getElem?_map, List.getElem?_eq_getElem hl]
  rfl
theorem app_len (a b : Str) : (a ++ b).length = a.length + b.length := by
  rw [len_tl, tl_app, List.length_append, ← len_tl, ← len_tl]
theorem one_len (c : Nat) : (⟨#[c]⟩ : Str).length = 1 := rfl
theorem cut_le (z : Str) (lo hi : Option Int) : (cutS z lo hi).length ≤ z.length := cutS_length z lo hi
def numT (k : Nat) : Str := Str.ofString (toString (k : Int))
theorem num_inj : ((List.range 99).map numT).Nodup := by decide +kernel
theorem sub_len {α : Type} [DecidableEq α] : ∀ (l D : List α), l.Nodup → (∀ x ∈ l, x ∈ D) → l.length ≤ D.length
  | [], _, _, _ => Nat.zero_le _
  | x :: l, D, hn, hs => by
    obtain ⟨h1, h2⟩ := List.nodup_cons.mp hn
    have hx := hs x List.mem_cons_self
    have ih := sub_len l (D.erase x) h2 fun y hy => (List.mem_erase_of_ne fun e => h1 (by rw [← e]; exact hy)).mpr (hs y (List.mem_cons_of_mem _ hy))
    have e := List.length_erase_of_mem hx
    have hp := List.length_pos_of_mem hx
    simp only [List.length_cons]
    omega
theorem app_inj {a b c : Str} (h : a ++ b = a ++ c) : b = c := by
  have e : tl (a ++ b) = tl (a ++ c) := by rw [h]
  rw [tl_app, tl_app] at e
  exact tl_inj (List.append_cancel_left e)
/-- ninety-nine texts on one base -/
theorem pigeon (bs : Str) (ks : List Str) (h : ∀ j, j < 99 → bs ++ numT j ∈ ks) : 99 ≤ ks.length := by
  have nd : (((List.range 99).map numT).map fun x => bs ++ x).Nodup := List.pairwise_map.mpr (List.Pairwise.imp (fun hne e => hne (app_inj e)) num_inj)
  have q := sub_len _ ks nd fun x hx => by
    rw [List.map_map] at hx
    obtain ⟨j, hj, rfl⟩ := List.mem_map.mp hx
    exact h j (List.mem_range.mp hj)
  rw [List.length_map, List.length_map, List.length_range] at q
  exact q
theorem inV_str {z : Str} {ks : List Str} (h : z ∈ ks) : inV (.str z) (ks.map V.str) = true := by
  unfold inV
  rw [List.any_map, List.any_eq_true]
  exact ⟨z, h, by show (z == z) = true; exact beq_self_eq_true z⟩
theorem str_inV {z : Str} {ks : List Str} (h : inV (.str z) (ks.map V.str) = true) : z ∈ ks := by
  unfold inV at h
  rw [List.any_map, List.any_eq_true] at h
  obtain ⟨x, hx, e⟩ := h
  have e2 : (z == x) = true ∨ (x == z) = true := by first | exact .inl e | exact .inr e
  rcases e2 with e2 | e2
  · rw [eq_of_beq e2]; exact hx
  · rw [← eq_of_beq e2]; exact hx
section
variable {P : Program} {w : World} {K : PySem.W.Frag} {mg : Str → Option Value} {base : Heap}
def spFresh : Sp := fun vs H Q _ => ∃ (p l : Addr) (ks : List Str), vs = [.ref p, .ref l] ∧ Bag H p ∧ Txs H l ks ∧ (∀ x ∈ ks, Nm (tl x)) ∧ ∀ (z : Str) (H' : Hp), Nm (tl z) → (ks.length ≤ 90 → z ∉ ks) → Bag H' p → But p H H' → Q (.str z) H'
theorem ok_fresh {f g : Addr} {fd gd : FuncData} (F : Fun K "_law_fresh_name" "_law_fresh_name" sFresh f fd) (D : Dd K mg "_law_draw" sDraw ["bag", "size"] g gd) (B : Blt mg) : FnOk P w K mg base CX0 2 f fd ["bag", "known"] spFresh := by
  have GD : FnOk P w K mg base CX0 1 g gd ["bag", "size"] spDraw := ok_draw D.F B
  refine F.ok scFresh (fun vs H Q E h => ?_) (fun cdv A outer s H vs Q E hr h => ?_)
  · obtain ⟨p, l, ks, rfl, _⟩ := h
    rfl
  · obtain ⟨p, l, ks, rfl, hB, hT, hN, q⟩ := h
    have hz : sizeLine = 16777216 := rfl
    refine ⟨_, pss_cons (ps_set (i := 2) scFresh.nd rfl (.inl rfl) pe_str)
      (C8.pss_cut (ps_if (PW.pt (pw_and (pt_cmpR (op_neD hr.units) (pv 1) (pe_lst pa_nil) (nomark _)) (pw_and1 (pt_cmpR op_eq (pe_call GD hr (by rfl) D.g D.F.kp D.b .nil pass0 (pa_cons (pv 0) (pa_cons pe_int pa_nil))) pe_int (nomark _)))))
        (pss_cons (ps_set (i := 3) scFresh.nd rfl (.inl rfl) (pe_ix ix_list (pv 1) (pe_call GD hr (by rfl) D.g D.F.kp D.b .nil pass0 (pa_cons (pv 0) (pa_cons (pe_callB call_len_seq (by rfl) B.len PySem.boot_len (pa_cons (pv 1) pa_nil)) pa_nil))) (fun _ _ => rfl)))
        (pss_cons (ps_set (i := 4) scFresh.nd rfl (.inl rfl) (pe_call GD hr (by rfl) D.g D.F.kp D.b .nil pass0 (pa_cons (pv 0) (pa_cons (pe_callB call_len_str (by rfl) B.len PySem.boot_len (pa_cons (pv 3) pa_nil)) pa_nil))))
        (pss_cons (ps_set (i := 5) scFresh.nd rfl (.inl rfl) (pe_item_str (pv 2) (pe_call GD hr (by rfl) D.g D.F.kp D.b .nil pass0 (pa_cons (pv 0) (pa_cons (pe_op op_add pe_int (pe_op op_mul pe_int (pe_callTy call_int1 (by rfl) B.int PyProof.Rows.boot_int (pa_cons (pe_cmpR op_gt (pv 4) pe_int (nomark _)) pa_nil)))) pa_nil))) (fun _ _ => rfl)))
        (pss_one (ps_set (i := 3) scFresh.nd rfl (.inl rfl) (pe_op op_add_str (pe_op op_add_str (pe_slice sl_str (pv 3) po_none (po_some (pv 4))) (pv 5)) (pe_slice sl_str (pv 3) (po_some (pe_op op_add (pv 4) pe_int)) po_none)))))))
        (pss_cons (ps_set (i := 6) scFresh.nd rfl (.inl rfl) (pe_op op_add pe_int (pe_call GD hr (by rfl) D.g D.F.kp D.b .nil pass0 (pa_cons (pv 0) (pa_cons pe_int pa_nil)))))
        (C8.pss_cut (ps_if (pt_cmpR op_eq (pe_call GD hr (by rfl) D.g D.F.kp D.b .nil pass0 (pa_cons (pv 0) (pa_cons pe_int pa_nil))) pe_int (nomark _)) (pss_one (ps_set (i := 6) scFresh.nd rfl (.inl rfl) (pe_op op_add pe_int (pe_call GD hr (by rfl) D.g D.F.kp D.b .nil pass0 (pa_cons (pv 0) (pa_cons pe_int pa_nil)))))) pss_nil)
        (pss_cons (ps_set (i := 3) scFresh.nd rfl (.inl rfl) (pe_item_str (pv 2) (pe_call GD hr (by rfl) D.g D.F.kp D.b .nil pass0 (pa_cons (pv 0) (pa_cons pe_int pa_nil))) (fun _ _ => rfl)))
        (pss_one (ps_for PassesOwn.never rfl (pi_range1 (by rfl) B.range (pa_cons (pe_op op_sub (pv 6) pe_int) pa_nil)) (pg_name (i := 7) scFresh.nd rfl (.inl rfl)) (pss_one (ps_set (i := 3) scFresh.nd rfl (.inl rfl) (pe_op op_add_str (pv 3) (pe_item_str (pv 2) (pe_call GD hr (by rfl) D.g D.F.kp D.b .nil pass0 (pa_cons (pv 0) (pa_cons pe_int pa_nil))) (fun _ _ => rfl)))))))))))
      (pss_cons (ps_set (i := 8) scFresh.nd rfl (.inl rfl) (pe_slice sl_str (pv 3) po_none (po_some pe_int)))
      (pss_cons (ps_for PassesOwn.never rfl (pi_range1 (by rfl) B.range (pa_cons pe_int pa_nil)) (pg_name (i := 7) scFresh.nd rfl (.inl rfl))
        (pss_cons (ps_if (pt_cmpR op_notIn_seq (pv 3) (pv 1) (by rfl)) (pss_one ps_break) pss_nil)
        (pss_one (ps_set (i := 3) scFresh.nd rfl (.inl rfl) (pe_op op_add_str (pv 8) (pe_callTy call_str_int (by rfl) B.str PyProof.Rows.boot_str (pa_cons (pv 7) pa_nil)))))))
      (pss_one (ps_ret (pv 3)))))), ?_⟩
    refine ⟨fun σ' H' => ∃ (t : Str) (y4 y5 y6 y7 : Option V), σ' = [some (.ref p), some (.ref l), some (.str LD), some (.str t), y4, y5, y6, y7, none] ∧ Nm (tl t) ∧ Bag H' p ∧ But p H H', ?_, ?_⟩
    · refine ifS_via (fun b H1 => Bag H1 p ∧ But p H H1 ∧ (b = true → ks ≠ [])) (fun Q hQ => ?_) (fun b H1 hR => ?_)
      · refine ⟨.ref l, rfl, by decide, fun e ne => ⟨_, _, .lst (sqOf (same_upd ne _ _ hT.l)) (dp_strs ks), .lst (sqOf upd_same) .nil, shaped_strs hT.t, by decide, _, rfl, ?_⟩⟩
        rw [eqv_nil]
        cases ks with
        | nil => exact hQ _ _ ⟨hB.same (same_upd ne), Same.but (same_upd ne), fun z => by cases z⟩
        | cons x xs =>
          refine ⟨.ref p, rfl, p, 2, rfl, hB.same (same_upd ne), by decide, by decide, fun i H2 i0 i1 B2 b2 => ⟨rfl, _, rfl, ?_⟩⟩
          exact hQ _ _ ⟨B2, (Same.but (same_upd ne)).trans b2, fun _ => by simp⟩
      · obtain ⟨B1, b1, hne⟩ := hR
        have T1 := hT.but hB b1
        cases b with
        | true =>
          have kpos : 0 < ks.length := List.length_pos_iff.mpr (hne rfl)
          refine ⟨.ref l, rfl, .ref p, rfl, .ref l, rfl, l, _, rfl, .inl (sqOf T1.l), p, _, rfl, B1, by rw [List.length_map]; omega, by rw [List.length_map]; have := hT.n; omega, fun i H2 i0 i1 B2 b2 => ?_⟩
          obtain ⟨t, ht, et⟩ := pick i0 i1
          have N := hN t ht
          have tpos := nm_pos N
          have tmax := N.1
          have el : t.length = (tl t).length := len_tl t
          refine ⟨l, _, i, .str t, rfl, rfl, sqOf (T1.but B1 b2).l, et, ?_⟩
          refine ⟨.ref p, rfl, .str t, rfl, t, rfl, by omega, p, _, rfl, B2, by omega, by omega, fun s H3 s0 s1 B3 b3 => ?_⟩
          obtain ⟨s, rfl⟩ : ∃ k : Nat, s = (k : Int) := ⟨s.toNat, by omega⟩
          refine ⟨_, rfl, .ref p, rfl, .int (s : Int), rfl, (s : Int), 0, rfl, rfl, .inr ⟨_, rfl, 10, _, rfl, rfl, .inl ⟨by decide, by decide⟩, 26, _, rfl, rfl, ?_⟩⟩
          have lim : ∀ b : Bool, b = decide ((0 : Int) < (s : Int)) → (26 : Int) + 10 * (if b = true then 1 else 0) ≤ 36 ∧ 26 ≤ (26 : Int) + 10 * (if b = true then 1 else 0) ∧ (s = 0 → (26 : Int) + 10 * (if b = true then 1 else 0) = 26) := by
            intro b hb
            cases b with
            | true =>
              have := of_decide_eq_true hb.symm
              rw [if_pos rfl]
              omega
            | false => rw [if_neg Bool.false_ne_true]; omega
          obtain ⟨lm, h36, lim⟩ : ∃ lm, (26 : Int) + 10 * (if decide ((0 : Int) < (s : Int)) = true then 1 else 0) = lm ∧ lm ≤ 36 ∧ 26 ≤ lm ∧ (s = 0 → lm = 26) := ⟨_, rfl, lim _ rfl⟩
          refine ⟨p, lm, congrArg (fun z => [V.ref p, V.int z]) h36, B3, by omega, by omega, fun j H4 j0 j1 B4 b4 => ?_⟩
          have hz36 := ld_len
          obtain ⟨c, ec⟩ := at_sign (z := LD) (i := j) (by omega) j0
          refine ⟨LD, j, c, rfl, rfl, j0, by omega, by omega, ec, ?_⟩
          have l1 := cut_le t none (some (s : Int))
          have l2 := cut_le t (some ((s : Int) + 1)) none
          refine ⟨.str t, rfl, .int (s : Int), rfl, (s : Int), rfl, t, rfl, by omega, .str ⟨#[c]⟩, rfl, _, _, rfl, rfl, by rw [one_len]; omega, .str t, rfl, .int (s : Int), rfl, (s : Int), 1, rfl, rfl, (s : Int) + 1, rfl, t, rfl, by omega, _, _, rfl, rfl, by rw [app_len, one_len]; omega, ?_⟩
          refine ⟨_, _, _, _, _, rfl, ?_, B4, ((b1.trans b2).trans b3).trans b4⟩
          rw [rep_tl]
          exact nm_rep N (by omega) (ld_any ec) (fun z => ld_lo ec (by have := lim.2.2 z; omega))
        | false =>
          refine ⟨.ref p, rfl, p, 3, rfl, B1, by decide, by decide, fun i H2 i0 i1 B2 b2 => ⟨1, i, rfl, rfl, ?_⟩⟩
          refine ⟨fun σ' H' => ∃ (n : Int), σ' = [some (.ref p), some (.ref l), some (.str LD), none, none, none, some (.int n), none, none] ∧ 1 ≤ n ∧ n ≤ 12 ∧ Bag H' p ∧ But p H H', ?_, ?_⟩
          · refine ⟨.ref p, rfl, p, 4, rfl, B2, by decide, by decide, fun j H3 j0 j1 B3 b3 => ⟨rfl, _, rfl, ite2 (fun e => ?_) (fun e => ?_)⟩⟩
            · refine ⟨.ref p, rfl, p, 12, rfl, B3, by decide, by decide, fun k H4 k0 k1 B4 b4 => ⟨1, k, rfl, rfl, ?_⟩⟩
              exact ⟨1 + k, rfl, by omega, by omega, B4, ((b1.trans b2).trans b3).trans b4⟩
            · exact ⟨1 + i, rfl, by omega, by omega, B3, (b1.trans b2).trans b3⟩
          · rintro σ' H3 ⟨n, rfl, n1, n2, B3, b3⟩
            have hz36 := ld_len
            refine ⟨_, rfl, .ref p, rfl, p, 26, rfl, B3, by decide, by decide, fun j H4 j0 j1 B4 b4 => ?_⟩
            obtain ⟨c, ec⟩ := at_sign (z := LD) (i := j) (by omega) j0
            refine ⟨LD, j, c, rfl, rfl, j0, by omega, by omega, ec, ?_⟩
            refine ⟨.int n, rfl, n, 1, rfl, rfl, n - 1, rfl, by omega, by omega, ?_⟩
            refine for_it (walk_range (lo := 0) (n := (n - 1).toNat)) (fun i σ H' => ∃ (t : Str) (y7 : Option V), σ = [some (.ref p), some (.ref l), some (.str LD), some (.str t), none, none, some (.int n), y7, none] ∧ Nm (tl t) ∧ (tl t).length = i + 1 ∧ Bag H' p ∧ But p H H')
              ⟨_, none, rfl, ⟨by show 1 ≤ 12; decide, fun d hd => ?_, c, rfl, ld_lo ec (by omega)⟩, rfl, B4, b3.trans b4⟩ (fun _ _ _ _ _ => trivial) (fun i x σ H5 H6 hi hP hy => ?_) (fun σ H5 hP => ?_)
            · rw [show d = c from List.mem_singleton.mp hd]
              exact ld_any ec
            · obtain ⟨t, y7, rfl, N, tn, B5, b5⟩ := hP
              obtain ⟨rfl, rfl⟩ := hy
              refine ⟨.str t, rfl, _, rfl, .ref p, rfl, p, 36, rfl, B5, by decide, by decide, fun j H7 j0 j1 B7 b7 => ?_⟩
              obtain ⟨c2, ec2⟩ := at_sign (z := LD) (i := j) (by omega) j0
              have el : t.length = (tl t).length := len_tl t
              refine ⟨LD, j, c2, rfl, rfl, j0, by omega, by omega, ec2, t, _, rfl, rfl, by rw [one_len]; omega, ?_⟩
              refine ⟨t ++ ⟨#[c2]⟩, _, rfl, ?_, ?_, B7, b5.trans b7⟩
              · rw [tl_app]
                refine nm_app N (fun d hd => ?_) (by rw [tl_one, List.length_singleton]; omega)
                rw [show d = c2 from List.mem_singleton.mp hd]
                exact ld_any ec2
              · rw [tl_app, List.length_append, tn]
                rfl
            · obtain ⟨t, y7, rfl, N, tn, B5, b5⟩ := hP
              exact ⟨t, _, _, _, _, rfl, N, B5, b5⟩
    · rintro σ' H1 ⟨t, y4, y5, y6, y7, rfl, N, B1, b1⟩
      have el : t.length = (tl t).length := len_tl t
      have tmax := N.1
      have T1 := hT.but hB b1
      refine ⟨.str t, rfl, 10, rfl, t, rfl, by omega, ?_⟩
      have Nb : Nm (tl (cutS t none (some 10))) := by
        rw [show (10 : Int) = ((10 : Nat) : Int) from rfl, tl_hi]
        exact nm_take N (by decide)
      have Lb : (tl (cutS t none (some 10))).length ≤ 10 := by
        rw [show (10 : Int) = ((10 : Nat) : Int) from rfl, tl_hi, List.length_take]
        omega
      have elb : (cutS t none (some 10)).length = (tl (cutS t none (some 10))).length := len_tl _
      generalize cutS t none (some 10) = bs at Nb Lb elb
      refine ⟨100, rfl, by decide, by decide, ?_⟩
      refine for_it (walk_range (lo := 0) (n := (100 : Int).toNat)) (fun i σ H' => ∃ (t : Str) (y7 : Option V), σ = [some (.ref p), some (.ref l), some (.str LD), some (.str t), y4, y5, y6, y7, some (.str bs)] ∧ Nm (tl t) ∧ H' = H1 ∧ (0 < i → t = bs ++ numT (i - 1)) ∧ ∀ j, j + 1 < i → bs ++ numT j ∈ ks)
        ⟨t, y7, rfl, N, rfl, fun h => absurd h (Nat.lt_irrefl 0), fun j h => absurd h (Nat.not_lt_zero _)⟩ (fun _ _ _ _ _ => trivial) (fun i x σ H5 H6 hi hP hy => ?_) (fun σ H5 hP => ?_)
      · obtain ⟨t, y7, rfl, N, rfl, et, al⟩ := hP
        obtain ⟨rfl, ex⟩ := hy
        have ex2 : x = .int (i : Int) := by
          rw [ex]
          show V.int (0 + (i : Int)) = _
          rw [Int.zero_add]
        subst ex2
        refine ⟨.str t, rfl, .ref l, rfl, l, _, rfl, .inl (sqOf T1.l), rfl, flat_strs ks, _, rfl, ite2 (fun e => ?_) (fun e => ?_)⟩
        · have e : inV (.str t) (ks.map V.str) = false := by simpa using e
          refine ⟨.str t, rfl, q t _ N (fun _ => fun m => ?_) B1 b1⟩
          rw [inV_str m] at e
          cases e
        · have hi : i < 100 := hi
          have n100 := num100 hi
          have tin : t ∈ ks := str_inV (by simpa using e)
          refine ⟨.str bs, rfl, .int (i : Int), rfl, (i : Int), rfl, ?_, _, _, rfl, rfl, ?_, ?_⟩
          · show (i : Int).natAbs.log2 < 1920
            exact Nat.lt_of_le_of_lt (Nat.log2_le_self _) (by omega)
          · rw [len_tl (Str.ofString (toString (i : Int)))]
            omega
          · refine ⟨bs ++ Str.ofString (toString (i : Int)), _, rfl, ?_, rfl, fun _ => rfl, fun j hj => ?_⟩
            · rw [tl_app]
              exact nm_app Nb n100.2 (by omega)
            · by_cases c : j + 1 < i
              · exact al j c
              · have e2 : j = i - 1 := by omega
                rw [e2, ← et (by omega)]
                exact tin
      · obtain ⟨t, y7, rfl, N, rfl, et, al⟩ := hP
        refine ⟨.str t, rfl, q t _ N (fun h90 => absurd (pigeon bs ks fun j hj => al j (by show j + 1 < 100; omega)) (by omega)) B1 b1⟩
end
end Tb
namespace Tb
open PySem PySem.Spec PyProof.Rows L2
abbrev sPrefix : Stmt := topS 28
abbrev sText : Stmt := topS 29
abbrev NPf : List Str := ["bag", "known", "digits", "kind", "text", "spot", "sign", "size", "k"]
abbrev NTx : List Str := ["bag", "most", "plain", "wide", "reach", "size", "text", "k", "spot"]
theorem scPrefix : FnScope NPf ["bag", "known"] (defScope sPrefix) := ⟨rfl, rfl, rfl, by decide +kernel, rfl, by decide +kernel, by decide +kernel⟩
theorem scText : FnScope NTx ["bag", "most"] (defScope sText) := ⟨rfl, rfl, rfl, by decide +kernel, rfl, by decide +kernel, by decide +kernel⟩
theorem ad_take {l : List Nat} (h : Ad l) {k : Nat} (hk : 0 < k) : Ad (l.take k) := by
  obtain ⟨h1, h2, h3⟩ := h
  exact ⟨by rw [List.length_take]; omega, by rw [List.length_take]; omega, fun e he => h3 e (List.mem_of_mem_take he)⟩
theorem seqIf_via {tc : TT} {t u v : TS} {D : Ends} {σ : L2.St} {H : Hp} (R : Bool → Hp → Prop) (h : ∀ Q : Bool → Hp → Prop, (∀ b H1, R b H1 → Q b H1) → tc σ H Q) (k : ∀ b H1, R b H1 → (if b = true then t { D with nx := v D } σ H1 else u { D with nx := v D } σ H1)) : tSeq (tIfS tc t u) v D σ H := h _ k
section
variable {P : Program} {w : World} {K : PySem.W.Frag} {mg : Str → Option Value} {base : Heap}
def spPrefix : Sp := fun vs H Q _ => ∃ (p l : Addr) (ks : List Str), vs = [.ref p, .ref l] ∧ Bag H p ∧ Txs H l ks ∧ (∀ x ∈ ks, Ad (tl x)) ∧ ∀ (z : Str) (H' : Hp), Ad (tl z) → Bag H' p → But p H H' → Q (.str z) H'
theorem ok_prefix {f g : Addr} {fd gd : FuncData} (F : Fun K "_law_prefix" "_law_prefix" sPrefix f fd) (D : Dd K mg "_law_draw" sDraw ["bag", "size"] g gd) (B : Blt mg) : FnOk P w K mg base CX0 2 f fd ["bag", "known"] spPrefix := by
  have GD : FnOk P w K mg base CX0 1 g gd ["bag", "size"] spDraw := ok_draw D.F B
  refine F.ok scPrefix (fun vs H Q E h => ?_) (fun cdv A outer s H vs Q E hr h => ?_)
  · obtain ⟨p, l, ks, rfl, _⟩ := h
    rfl
  · obtain ⟨p, l, ks, rfl, hB, hT, hN, q⟩ := h
    have hz : sizeLine = 16777216 := rfl
    refine ⟨_, pss_cons (ps_set (i := 2) scPrefix.nd rfl (.inl rfl) pe_str)
      (C8.pss_cut (ps_set (i := 3) scPrefix.nd rfl (.inl rfl) (pe_call GD hr (by rfl) D.g D.F.kp D.b .nil pass0 (pa_cons (pv 0) (pa_cons pe_int pa_nil))))
      (pss_cons (ps_if (PW.pt (pw_and (pt_cmpR (op_neD hr.units) (pv 1) (pe_lst pa_nil) (nomark _)) (pw_and1 (pt_cmpR op_lt (pv 3) pe_int (nomark _)))))
        (pss_cons (ps_set (i := 4) scPrefix.nd rfl (.inl rfl) (pe_ix ix_list (pv 1) (pe_call GD hr (by rfl) D.g D.F.kp D.b .nil pass0 (pa_cons (pv 0) (pa_cons (pe_callB call_len_seq (by rfl) B.len PySem.boot_len (pa_cons (pv 1) pa_nil)) pa_nil))) (fun _ _ => rfl)))
        (pss_cons (ps_set (i := 5) scPrefix.nd rfl (.inl rfl) (pe_call GD hr (by rfl) D.g D.F.kp D.b .nil pass0 (pa_cons (pv 0) (pa_cons (pe_callB call_len_str (by rfl) B.len PySem.boot_len (pa_cons (pv 4) pa_nil)) pa_nil))))
        (pss_cons (ps_set (i := 6) scPrefix.nd rfl (.inl rfl) (pe_item_str (pv 2) (pe_call GD hr (by rfl) D.g D.F.kp D.b .nil pass0 (pa_cons (pv 0) (pa_cons pe_int pa_nil))) (fun _ _ => rfl)))
        (pss_cons (ps_if (pt_cmpR op_eq (pv 3) pe_int (nomark _)) (pss_one (ps_ret (pe_slice sl_str (pv 4) po_none (po_some (pe_op op_add (pv 5) pe_int))))) pss_nil)
        (pss_cons (ps_if (pt_cmpR op_eq (pv 3) pe_int (nomark _)) (pss_one (ps_ret (pe_op op_add_str (pe_op op_add_str (pe_slice sl_str (pv 4) po_none (po_some (pv 5))) (pv 6)) (pe_slice sl_str (pv 4) (po_some (pe_op op_add (pv 5) pe_int)) po_none)))) pss_nil)
        (pss_one (ps_ret (pe_op op_add_str (pe_slice sl_str (pv 4) po_none (po_some pe_int)) (pv 6))))))))) pss_nil)
      (pss_cons (ps_set (i := 7) scPrefix.nd rfl (.inl rfl) (pe_op op_add pe_int (pe_call GD hr (by rfl) D.g D.F.kp D.b .nil pass0 (pa_cons (pv 0) (pa_cons pe_int pa_nil)))))
      (C8.pss_cut (ps_if (pt_cmpR op_eq (pe_call GD hr (by rfl) D.g D.F.kp D.b .nil pass0 (pa_cons (pv 0) (pa_cons pe_int pa_nil))) pe_int (nomark _)) (pss_one (ps_set (i := 7) scPrefix.nd rfl (.inl rfl) (pe_op op_add pe_int (pe_call GD hr (by rfl) D.g D.F.kp D.b .nil pass0 (pa_cons (pv 0) (pa_cons pe_int pa_nil)))))) pss_nil)
      (pss_cons (ps_set (i := 4) scPrefix.nd rfl (.inl rfl) pe_str)
      (pss_cons (ps_for PassesOwn.never rfl (pi_range1 (by rfl) B.range (pa_cons (pv 7) pa_nil)) (pg_name (i := 8) scPrefix.nd rfl (.inl rfl)) (pss_one (ps_set (i := 4) scPrefix.nd rfl (.inl rfl) (pe_op op_add_str (pv 4) (pe_item_str (pv 2) (pe_call GD hr (by rfl) D.g D.F.kp D.b .nil pass0 (pa_cons (pv 0) (pa_cons pe_int pa_nil))) (fun _ _ => rfl))))))
      (pss_one (ps_ret (pv 4))))))))), ?_⟩
    refine ⟨fun σ' H' => ∃ kd : Int, σ' = [some (.ref p), some (.ref l), some (.str digits), some (.int kd), none, none, none, none, none] ∧ Bag H' p ∧ But p H H', ?_, ?_⟩
    · exact ⟨.ref p, rfl, p, 5, rfl, hB, by decide, by decide, fun kd H1 kd0 kd1 B1 b1 => ⟨kd, rfl, B1, b1⟩⟩
    rintro σ' H1 ⟨kd, rfl, B1, b1⟩
    have T1 := hT.but hB b1
    have hz10 := dg_len
    refine seqIf_via (fun b H2 => Bag H2 p ∧ But p H H2 ∧ (b = true → ks ≠ [])) (fun Q hQ => ?_) (fun b H2 hR => ?_)
    · refine ⟨.ref l, rfl, by decide, fun e ne => ⟨_, _, .lst (sqOf (same_upd ne _ _ T1.l)) (dp_strs ks), .lst (sqOf upd_same) .nil, shaped_strs hT.t, by decide, _, rfl, ?_⟩⟩
      rw [eqv_nil]
      cases ks with
      | nil => exact hQ _ _ ⟨B1.same (same_upd ne), b1.trans (Same.but (same_upd ne)), fun z => by cases z⟩
      | cons x xs =>
        refine ⟨.int kd, rfl, kd, 4, rfl, rfl, _, rfl, ?_⟩
        exact hQ _ _ ⟨B1.same (same_upd ne), b1.trans (Same.but (same_upd ne)), fun _ => by simp⟩
    · obtain ⟨B2, b2, hne⟩ := hR
      have T2 := hT.but hB b2
      cases b with
      | true =>
        have kpos : 0 < ks.length := List.length_pos_iff.mpr (hne rfl)
        refine ⟨.ref l, rfl, .ref p, rfl, .ref l, rfl, l, _, rfl, .inl (sqOf T2.l), p, _, rfl, B2, by rw [List.length_map]; omega, by rw [List.length_map]; have := hT.n; omega, fun i H3 i0 i1 B3 b3 => ?_⟩
        obtain ⟨t, ht, et⟩ := pick i0 i1
        have N := hN t ht
        obtain ⟨tpos, tmax, _⟩ := id N
        have el : t.length = (tl t).length := len_tl t
        refine ⟨l, _, i, .str t, rfl, rfl, sqOf (T2.but B2 b3).l, et, ?_⟩
        refine ⟨.ref p, rfl, .str t, rfl, t, rfl, by omega, p, _, rfl, B3, by omega, by omega, fun s H4 s0 s1 B4 b4 => ?_⟩
        obtain ⟨s, rfl⟩ : ∃ k : Nat, s = (k : Int) := ⟨s.toNat, by omega⟩
        refine ⟨_, rfl, .ref p, rfl, p, 10, rfl, B4, by decide, by decide, fun j H5 j0 j1 B5 b5 => ?_⟩
        obtain ⟨c, ec⟩ := at_sign (z := digits) (i := j) (by omega) j0
        have b5' := ((b2.trans b3).trans b4).trans b5
        refine ⟨digits, j, c, rfl, rfl, j0, by omega, by omega, ec, ?_⟩
        have l1 := cut_le t none (some (s : Int))
        have l2 := cut_le t (some ((s : Int) + 1)) none
        have l3 := cut_le t none (some 7)
        refine ⟨.int kd, rfl, rfl, _, rfl, ite2 (fun e1 => ?_) (fun e1 => ?_)⟩
        · refine ⟨.str t, rfl, .int (s : Int), rfl, (s : Int), 1, rfl, rfl, (s : Int) + 1, rfl, t, rfl, by omega, q _ _ ?_ B5 b5'⟩
          rw [show ((s : Int) + 1) = ((s + 1 : Nat) : Int) from rfl, tl_hi]
          exact ad_take N (Nat.succ_pos _)
        · refine ⟨.int kd, rfl, rfl, _, rfl, ite2 (fun e2 => ?_) (fun e2 => ?_)⟩
          · refine ⟨.str t, rfl, .int (s : Int), rfl, (s : Int), rfl, t, rfl, by omega, .str ⟨#[c]⟩, rfl, _, _, rfl, rfl, by rw [one_len]; omega, .str t, rfl, .int (s : Int), rfl, (s : Int), 1, rfl, rfl, (s : Int) + 1, rfl, t, rfl, by omega, _, _, rfl, rfl, by rw [app_len, one_len]; omega, q _ _ ?_ B5 b5'⟩
            rw [rep_tl]
            exact ad_rep N (by omega) (dg_any ec)
          · refine ⟨.str t, rfl, 7, rfl, t, rfl, by omega, .str ⟨#[c]⟩, rfl, _, _, rfl, rfl, by rw [one_len]; omega, q _ _ ?_ B5 b5'⟩
            rw [tl_app, show (7 : Int) = ((7 : Nat) : Int) from rfl, tl_hi, tl_one]
            obtain ⟨n1, n2, n3⟩ := N
            refine ⟨by rw [List.length_append, List.length_singleton]; omega, by rw [List.length_append, List.length_take, List.length_singleton]; omega, fun d hd => ?_⟩
            rcases List.mem_append.mp hd with hd | hd
            · exact n3 d (List.mem_of_mem_take hd)
            · rw [List.mem_singleton.mp hd]
              exact dg_any ec
      | false =>
        refine ⟨.ref p, rfl, p, 2, rfl, B2, by decide, by decide, fun i H3 i0 i1 B3 b3 => ⟨1, i, rfl, rfl, ?_⟩⟩
        refine ⟨fun σ' H' => ∃ (n : Int), σ' = [some (.ref p), some (.ref l), some (.str digits), some (.int kd), none, none, none, some (.int n), none] ∧ 1 ≤ n ∧ n ≤ 8 ∧ Bag H' p ∧ But p H H', ?_, ?_⟩
        · refine ⟨.ref p, rfl, p, 4, rfl, B3, by decide, by decide, fun j H4 j0 j1 B4 b4 => ⟨rfl, _, rfl, ite2 (fun e => ?_) (fun e => ?_)⟩⟩
          · refine ⟨.ref p, rfl, p, 8, rfl, B4, by decide, by decide, fun k H5 k0 k1 B5 b5 => ⟨1, k, rfl, rfl, ?_⟩⟩
            exact ⟨1 + k, rfl, by omega, by omega, B5, ((b2.trans b3).trans b4).trans b5⟩
          · exact ⟨1 + i, rfl, by omega, by omega, B4, (b2.trans b3).trans b4⟩
        · rintro σ' H4 ⟨n, rfl, n1, n2, B4, b4⟩
          refine ⟨.int n, rfl, n, rfl, by omega, by omega, ?_⟩
          refine for_it (walk_range (lo := 0) (n := n.toNat)) (fun i σ H' => ∃ (t : Str) (y8 : Option V), σ = [some (.ref p), some (.ref l), some (.str digits), some (.int kd), some (.str t), none, none, some (.int n), y8] ∧ (∀ d ∈ tl t, isIn digits d = true) ∧ (tl t).length = i ∧ Bag H' p ∧ But p H H')
            ⟨_, none, rfl, (fun d hd => by cases hd), rfl, B4, b4⟩ (fun _ _ _ _ _ => trivial) (fun i x σ H5 H6 hi hP hy => ?_) (fun σ H5 hP => ?_)
          · obtain ⟨t, y8, rfl, N, tn, B5, b5⟩ := hP
            obtain ⟨rfl, rfl⟩ := hy
            refine ⟨.str t, rfl, _, rfl, .ref p, rfl, p, 10, rfl, B5, by decide, by decide, fun j H7 j0 j1 B7 b7 => ?_⟩
            obtain ⟨c2, ec2⟩ := at_sign (z := digits) (i := j) (by omega) j0
            have el : t.length = (tl t).length := len_tl t
            refine ⟨digits, j, c2, rfl, rfl, j0, by omega, by omega, ec2, t, _, rfl, rfl, by rw [one_len]; omega, ?_⟩
            refine ⟨t ++ ⟨#[c2]⟩, _, rfl, fun d hd => ?_, ?_, B7, b5.trans b7⟩
            · rw [tl_app] at hd
              rcases List.mem_append.mp hd with hd | hd
              · exact N d hd
              · rw [show d = c2 from List.mem_singleton.mp hd]
                exact dg_any ec2
            · rw [tl_app, List.length_append, tn]
              rfl
          · obtain ⟨t, y8, rfl, N, tn, B5, b5⟩ := hP
            exact ⟨.str t, rfl, q t _ ⟨by omega, by omega, N⟩ B5 b5⟩
def spText : Sp := fun vs H Q _ => ∃ (p : Addr) (m : Int), vs = [.ref p, .int m] ∧ Bag H p ∧ 2 ≤ m ∧ m ≤ 20 ∧ ∀ (z : Str) (H' : Hp), Tx z → z.length ≤ 22 → Bag H' p → But p H H' → Q (.str z) H'
theorem ok_text {f g : Addr} {fd gd : FuncData} (F : Fun K "_law_text" "_law_text" sText f fd) (D : Dd K mg "_law_draw" sDraw ["bag", "size"] g gd) (B : Blt mg) : FnOk P w K mg base CX0 2 f fd ["bag", "most"] spText := by
  have GD : FnOk P w K mg base CX0 1 g gd ["bag", "size"] spDraw := ok_draw D.F B
  refine F.ok scText (fun vs H Q E h => ?_) (fun cdv A outer s H vs Q E hr h => ?_)
  · obtain ⟨p, m, rfl, _⟩ := h
    rfl
  · obtain ⟨p, m, rfl, hB, hm, hm2, q⟩ := h
    have hz : sizeLine = 16777216 := rfl
    refine ⟨_, pss_cons (ps_set (i := 2) scText.nd rfl (.inl rfl) pe_str)
      (pss_cons (ps_set (i := 3) scText.nd rfl (.inl rfl) (pe_op op_add_str pe_str (pv 2)))
      (pss_cons (ps_set (i := 4) scText.nd rfl (.inl rfl) (pe_op op_add pe_int (pe_op op_mul pe_int (pe_call GD hr (by rfl) D.g D.F.kp D.b .nil pass0 (pa_cons (pv 0) (pa_cons pe_int pa_nil))))))
      (pss_cons (ps_set (i := 5) scText.nd rfl (.inl rfl) (pe_call GD hr (by rfl) D.g D.F.kp D.b .nil pass0 (pa_cons (pv 0) (pa_cons (pe_op op_add (pv 1) pe_int) pa_nil))))
      (C8.pss_cut (ps_if (pt_cmpR op_eq (pe_call GD hr (by rfl) D.g D.F.kp D.b .nil pass0 (pa_cons (pv 0) (pa_cons pe_int pa_nil))) pe_int (nomark _)) (pss_one (ps_set (i := 5) scText.nd rfl (.inl rfl) (pe_op op_add (pe_op op_sub (pv 1) pe_int) (pe_call GD hr (by rfl) D.g D.F.kp D.b .nil pass0 (pa_cons (pv 0) (pa_cons pe_int pa_nil)))))) pss_nil)
      (pss_cons (ps_set (i := 6) scText.nd rfl (.inl rfl) pe_str)
      (pss_cons (ps_for PassesOwn.never rfl (pi_range1 (by rfl) B.range (pa_cons (pv 5) pa_nil)) (pg_name (i := 7) scText.nd rfl (.inl rfl)) (pss_one (ps_set (i := 6) scText.nd rfl (.inl rfl) (pe_op op_add_str (pv 6) (pe_item_str (pv 2) (pe_call GD hr (by rfl) D.g D.F.kp D.b .nil pass0 (pa_cons (pv 0) (pa_cons (pv 4) pa_nil))) (fun _ _ => rfl))))))
      (pss_cons (ps_if (PW.pt (pw_and (pt_cmpR op_gt (pv 5) pe_int (nomark _)) (pw_and1 (pt_cmpR op_eq (pe_call GD hr (by rfl) D.g D.F.kp D.b .nil pass0 (pa_cons (pv 0) (pa_cons pe_int pa_nil))) pe_int (nomark _)))))
        (pss_cons (ps_set (i := 8) scText.nd rfl (.inl rfl) (pe_call GD hr (by rfl) D.g D.F.kp D.b .nil pass0 (pa_cons (pv 0) (pa_cons (pv 5) pa_nil))))
        (pss_one (ps_set (i := 6) scText.nd rfl (.inl rfl) (pe_op op_add_str (pe_op op_add_str (pe_slice sl_str (pv 6) po_none (po_some (pv 8))) (pe_item_str (pv 3) (pe_call GD hr (by rfl) D.g D.F.kp D.b .nil pass0 (pa_cons (pv 0) (pa_cons (pe_callB call_len_str (by rfl) B.len PySem.boot_len (pa_cons (pv 3) pa_nil)) pa_nil))) (fun _ _ => rfl))) (pe_slice sl_str (pv 6) (po_some (pe_op op_add (pv 8) pe_int)) po_none))))) pss_nil)
      (pss_one (ps_ret (pv 6)))))))))), ?_⟩
    have hp : ((("0123456789abcdefghijklmnopqrstuvwxyz" : String) : Str).length : Int) = 36 := by decide +kernel
    have sp : Sg (("0123456789abcdefghijklmnopqrstuvwxyz" : String) : Str) := by unfold Sg; decide +kernel
    generalize hplain : (("0123456789abcdefghijklmnopqrstuvwxyz" : String) : Str) = plain at hp sp
    generalize hw0 : ((" !\"#$&'()*+,-./:;<=>?@ABCDEFGHIJKLMNOPQRSTUVWXYZ[\\]^_`{|}~" : String) : Str) = w0
    have hwl : w0.length ≤ 100 ∧ Sg w0 := by
      subst hw0
      exact ⟨by decide +kernel, by unfold Sg; decide +kernel⟩
    refine ⟨_, rfl, w0, plain, rfl, rfl, by omega, ?_⟩
    have sw : Sg (w0 ++ plain) := fun d hd => by
      rw [tl_app] at hd
      exact (List.mem_append.mp hd).elim (hwl.2 d) (sp d)
    have lw : 36 ≤ (w0 ++ plain).length ∧ (w0 ++ plain).length ≤ 200 := by
      rw [app_len]
      omega
    generalize w0 ++ plain = wide at sw lw
    refine ⟨.ref p, rfl, p, 2, rfl, hB, by decide, by decide, fun x H1 x0 x1 B1 b1 => ⟨26, x, rfl, rfl, .inl ⟨by decide, by decide⟩, 10, _, rfl, rfl, ?_⟩⟩
    refine ⟨.ref p, rfl, .int m, rfl, m, 1, rfl, rfl, p, _, rfl, B1, by omega, by omega, fun y H2 y0 y1 B2 b2 => ?_⟩
    refine ⟨fun σ' H' => ∃ (r n : Int), σ' = [some (.ref p), some (.int m), some (.str plain), some (.str wide), some (.int r), some (.int n), none, none, none] ∧ 1 ≤ r ∧ r ≤ 36 ∧ 0 ≤ n ∧ n ≤ 20 ∧ Bag H' p ∧ But p H H', ?_, ?_⟩
    · refine ⟨.ref p, rfl, p, 3, rfl, B2, by decide, by decide, fun j H3 j0 j1 B3 b3 => ⟨rfl, _, rfl, ite2 (fun e => ?_) (fun e => ?_)⟩⟩
      · refine ⟨.int m, rfl, m, 2, rfl, rfl, .ref p, rfl, p, 3, rfl, B3, by decide, by decide, fun k H4 k0 k1 B4 b4 => ⟨m - 2, k, rfl, rfl, ?_⟩⟩
        exact ⟨_, m - 2 + k, rfl, by omega, by omega, by omega, by omega, B4, ((b1.trans b2).trans b3).trans b4⟩
      · exact ⟨_, y, rfl, by omega, by omega, by omega, by omega, B3, (b1.trans b2).trans b3⟩
    · rintro σ' H3 ⟨r, n, rfl, r1, r2, n0, n1, B3, b3⟩
      refine ⟨.int n, rfl, n, rfl, by omega, by omega, ?_⟩
      refine for_it (walk_range (lo := 0) (n := n.toNat)) (fun i σ H' => ∃ (t : Str) (y7 : Option V), σ = [some (.ref p), some (.int m), some (.str plain), some (.str wide), some (.int r), some (.int n), some (.str t), y7, none] ∧ Sg t ∧ (tl t).length = i ∧ Bag H' p ∧ But p H H')
        ⟨_, none, rfl, (fun d hd => by cases hd), rfl, B3, b3⟩ (fun _ _ _ _ _ => trivial) (fun i x σ H5 H6 hi hP hy => ?_) (fun σ H5 hP => ?_)
      · obtain ⟨t, y7, rfl, N, tn, B5, b5⟩ := hP
        obtain ⟨rfl, rfl⟩ := hy
        refine ⟨.str t, rfl, _, rfl, .ref p, rfl, .int r, rfl, p, r, rfl, B5, by omega, by omega, fun j H7 j0 j1 B7 b7 => ?_⟩
        obtain ⟨c2, ec2⟩ := at_sign (z := plain) (i := j) (by omega) j0
        have el : t.length = (tl t).length := len_tl t
        refine ⟨plain, j, c2, rfl, rfl, j0, by omega, by omega, ec2, t, _, rfl, rfl, by rw [one_len]; omega, ?_⟩
        refine ⟨t ++ ⟨#[c2]⟩, _, rfl, fun d hd => ?_, ?_, B7, b5.trans b7⟩
        · rw [tl_app] at hd
          rcases List.mem_append.mp hd with hd | hd
          · exact N d hd
          · rw [show d = c2 from List.mem_singleton.mp hd]
            exact sp _ (by rw [Array.mem_toList_iff]; exact Array.mem_of_getElem? ec2)
        · rw [tl_app, List.length_append, tn]
          rfl
      · obtain ⟨t, y7, rfl, N, tn, B5, b5⟩ := hP
        have el : t.length = (tl t).length := len_tl t
        have fin0 : Tx t := ⟨by omega, N⟩
        refine ⟨.int n, rfl, n, 0, rfl, rfl, _, rfl, ite2 (fun e => ?_) (fun e => ?_)⟩
        · have np : 0 < n := of_decide_eq_true e
          refine ⟨.ref p, rfl, p, 2, rfl, B5, by decide, by decide, fun j H6 j0 j1 B6 b6 => ⟨rfl, _, rfl, ite2 (fun e2 => ?_) (fun e2 => ?_)⟩⟩
          · refine ⟨.ref p, rfl, .int n, rfl, p, n, rfl, B6, np, by omega, fun s H7 s0 s1 B7 b7 => ?_⟩
            obtain ⟨s, rfl⟩ : ∃ k : Nat, s = (k : Int) := ⟨s.toNat, by omega⟩
            have l1 := cut_le t none (some (s : Int))
            have l2 := cut_le t (some ((s : Int) + 1)) none
            refine ⟨.str t, rfl, .int (s : Int), rfl, (s : Int), rfl, t, rfl, by omega, .str wide, rfl, .ref p, rfl, .str wide, rfl, wide, rfl, by omega, p, _, rfl, B7, by omega, by omega, fun k H8 k0 k1 B8 b8 => ?_⟩
            obtain ⟨c, ec⟩ := at_sign (z := wide) (i := k) (by omega) k0
            refine ⟨wide, k, c, rfl, rfl, k0, by omega, by omega, ec, _, _, rfl, rfl, by rw [one_len]; omega, .str t, rfl, .int (s : Int), rfl, (s : Int), 1, rfl, rfl, (s : Int) + 1, rfl, t, rfl, by omega, _, _, rfl, rfl, by rw [app_len, one_len]; omega, ?_⟩
            have er := rep_tl t s c
            have lr := rep_len (l := tl t) (s := s) (d := c) (by omega)
            generalize (cutS t none (some (s : Int)) ++ ⟨#[c]⟩) ++ cutS t (some ((s : Int) + 1)) none = z at er
            have lz : z.length = (tl z).length := len_tl z
            refine ⟨.str z, rfl, q z _ ⟨by rw [lz, er]; omega, fun d hd => ?_⟩ (by rw [lz, er]; omega) B8 (((b5.trans b6).trans b7).trans b8)⟩
            rw [er] at hd
            rcases rep_mem hd with hd | rfl
            · exact N d hd
            · exact sw _ (by rw [Array.mem_toList_iff]; exact Array.mem_of_getElem? ec)
          · exact ⟨.str t, rfl, q t _ fin0 (by omega) B6 (b5.trans b6)⟩
        · exact ⟨.str t, rfl, q t _ fin0 (by omega) B5 b5⟩
end
end Tb
namespace Tb
open PySem PySem.Spec PyProof.Rows L2
abbrev sLAddr : Stmt := topS 30
abbrev sLName : Stmt := topS 31
abbrev sLLane : Stmt := topS 32
abbrev sLAfter : Stmt := topS 33
theorem scLAddr : FnScope ["text", "sign"] ["text"] (defScope sLAddr) := ⟨rfl, rfl, rfl, by decide +kernel, rfl, by decide +kernel, by decide +kernel⟩
theorem scLName : FnScope ["text", "sign"] ["text"] (defScope sLName) := ⟨rfl, rfl, rfl, by decide +kernel, rfl, by decide +kernel, by decide +kernel⟩
theorem scLLane : FnScope ["own", "address", "size"] ["own", "address"] (defScope sLLane) := ⟨rfl, rfl, rfl, by decide +kernel, rfl, by decide +kernel, by decide +kernel⟩
theorem scLAfter : FnScope ["own", "prefix", "way", "found", "one"] ["own", "prefix", "way"] (defScope sLAfter) := ⟨rfl, rfl, rfl, by decide +kernel, rfl, by decide +kernel, by decide +kernel⟩
/-- a text in, a bool out, the heap as it was -/
def spT0 (g : Str → Bool) : Sp := fun vs H Q _ => ∃ (t : Str), vs = [.str t] ∧ t.length ≤ 1000 ∧ Q (.bl (g t)) H
theorem isAddr_no {t : Str} (h : ¬ Ad (tl t)) : isAddr t = false := by
  cases e : isAddr t with
  | false => rfl
  | true => exact absurd ((isAddr_iff t).mp e) h
theorem isName_no {t : Str} (h : ¬ Nm (tl t)) : isName t = false := by
  cases e : isName t with
  | false => rfl
  | true => exact absurd ((isName_iff t).mp e) h
theorem ld_eq : LD = letters ++ digits := tl_inj (by decide +kernel)
theorem let_dig {c : Nat} (h : isIn (letters ++ digits) c = true) : isIn letters c = !isIn digits c := by
  have hm : c ∈ tl (letters ++ digits) := of_decide_eq_true h
  have k : (tl (letters ++ digits)).all (fun c => isIn letters c == !isIn digits c) = true := by decide +kernel
  exact eq_of_beq (List.all_eq_true.mp k c hm)
section
variable {P : Program} {w : World} {K : PySem.W.Frag} {mg : Str → Option Value} {base : Heap}
theorem ok_laddr {f : Addr} {fd : FuncData} {k : Nat} (F : Fun K "_law_is_address" "_law_is_address" sLAddr f fd) (B : Blt mg) : FnOk P w K mg base CX0 (k + 1) f fd ["text"] (spT0 isAddr) := by
  refine F.ok scLAddr (fun vs H Q E h => ?_) (fun cdv A outer s H vs Q E hr h => ?_)
  · obtain ⟨t, rfl, _⟩ := h
    rfl
  · obtain ⟨t, rfl, hl, q⟩ := h
    have hz : sizeLine = 16777216 := rfl
    have el : t.length = (tl t).length := len_tl t
    refine ⟨_, pss_cons (ps_if (PW.pt (pw_or (pt_cmpR op_lt (pe_callB call_len_str (by rfl) B.len PySem.boot_len (pa_cons (pv 0) pa_nil)) pe_int (nomark _)) (pw_or1 (pt_cmpR op_gt (pe_callB call_len_str (by rfl) B.len PySem.boot_len (pa_cons (pv 0) pa_nil)) pe_int (nomark _))))) (pss_one (ps_ret pe_bl)) pss_nil)
      (pss_cons (ps_for PassesOwn.never rfl (pi_str (pv 0)) (pg_name (i := 1) scLAddr.nd rfl (.inl rfl)) (pss_one (ps_if (pt_cmpR op_notIn_sign (pv 1) pe_str (by rfl)) (pss_one (ps_ret pe_bl)) pss_nil)))
      (pss_one (ps_ret pe_bl))), ?_⟩
    refine ⟨.str t, rfl, t, rfl, by omega, _, 1, rfl, rfl, _, rfl, ite2 (fun e1 => ?_) (fun e1 => ?_)⟩
    · have : (t.length : Int) < 1 := of_decide_eq_true e1
      rw [isAddr_no (fun h => by have := h.1; omega)] at q
      exact q
    refine ⟨.str t, rfl, t, rfl, by omega, _, 8, rfl, rfl, _, rfl, ite2 (fun e2 => ?_) (fun e2 => ?_)⟩
    · have : 8 < (t.length : Int) := of_decide_eq_true e2
      rw [isAddr_no (fun h => by have := h.2.1; omega)] at q
      exact q
    have n1 : ¬ (t.length : Int) < 1 := fun z => e1 (decide_eq_true z)
    have n2 : ¬ 8 < (t.length : Int) := fun z => e2 (decide_eq_true z)
    refine ⟨.str t, rfl, t, rfl, ?_⟩
    refine for_it (walk_str (z := t)) (fun i σ H' => ∃ y, σ = [some (.str t), y] ∧ H' = H ∧ ∀ d ∈ (tl t).take i, isIn digits d = true) ⟨none, rfl, rfl, fun d hd => by cases hd⟩ (fun _ _ _ _ _ => trivial) (fun i x σ H5 H6 hi hP hy => ?_) (fun σ H5 hP => ?_)
    · obtain ⟨y, rfl, rfl, hall⟩ := hP
      obtain ⟨rfl, c, hc, rfl⟩ := hy
      have hc' : (tl t)[i]? = some c := by rw [Array.getElem?_toList]; exact hc
      refine ⟨_, rfl, c, digits, rfl, rfl, _, rfl, ite2 (fun e => ?_) (fun e => ?_)⟩
      · have e : ¬ c ∈ tl digits := by simpa using e
        rw [isAddr_no (fun h => e (of_decide_eq_true (h.2.2 c (List.mem_of_getElem? hc'))))] at q
        exact q
      · have e : c ∈ tl digits := by simpa using e
        refine ⟨_, rfl, rfl, fun d hd => ?_⟩
        rw [List.take_add_one, hc'] at hd
        rcases List.mem_append.mp hd with hd | hd
        · exact hall d hd
        · rw [show d = c from List.mem_singleton.mp hd]
          exact decide_eq_true e
    · obtain ⟨y, rfl, rfl, hall⟩ := hP
      have e : isAddr t = true := (isAddr_iff t).mpr ⟨by omega, by omega, fun d hd => hall d (by rw [show t.cps.size = (tl t).length from (Array.length_toList).symm, List.take_length]; exact hd)⟩
      rw [e] at q
      exact q
theorem ok_lname {f : Addr} {fd : FuncData} {k : Nat} (F : Fun K "_law_is_name" "_law_is_name" sLName f fd) (B : Blt mg) : FnOk P w K mg base CX0 (k + 1) f fd ["text"] (spT0 isName) := by
  refine F.ok scLName (fun vs H Q E h => ?_) (fun cdv A outer s H vs Q E hr h => ?_)
  · obtain ⟨t, rfl, _⟩ := h
    rfl
  · obtain ⟨t, rfl, hl, q⟩ := h
    have hz : sizeLine = 16777216 := rfl
    have el : t.length = (tl t).length := len_tl t
    refine ⟨_, pss_cons (ps_if (PW.pt (pw_or (pt_cmpR op_lt (pe_callB call_len_str (by rfl) B.len PySem.boot_len (pa_cons (pv 0) pa_nil)) pe_int (nomark _)) (pw_or1 (pt_cmpR op_gt (pe_callB call_len_str (by rfl) B.len PySem.boot_len (pa_cons (pv 0) pa_nil)) pe_int (nomark _))))) (pss_one (ps_ret pe_bl)) pss_nil)
      (pss_cons (ps_for PassesOwn.never rfl (pi_str (pv 0)) (pg_name (i := 1) scLName.nd rfl (.inl rfl)) (pss_one (ps_if (pt_cmpR op_notIn_sign (pv 1) pe_str (by rfl)) (pss_one (ps_ret pe_bl)) pss_nil)))
      (pss_one (ps_ret (pe_cmpR op_notIn_sign (pe_item_str (pv 0) pe_int (fun _ _ => rfl)) pe_str (by rfl))))), ?_⟩
    refine ⟨.str t, rfl, t, rfl, by omega, _, 1, rfl, rfl, _, rfl, ite2 (fun e1 => ?_) (fun e1 => ?_)⟩
    · have : (t.length : Int) < 1 := of_decide_eq_true e1
      rw [isName_no (fun h => by have := nm_pos h; omega)] at q
      exact q
    refine ⟨.str t, rfl, t, rfl, by omega, _, 12, rfl, rfl, _, rfl, ite2 (fun e2 => ?_) (fun e2 => ?_)⟩
    · have : 12 < (t.length : Int) := of_decide_eq_true e2
      rw [isName_no (fun h => by have := h.1; omega)] at q
      exact q
    have n1 : ¬ (t.length : Int) < 1 := fun z => e1 (decide_eq_true z)
    have n2 : ¬ 12 < (t.length : Int) := fun z => e2 (decide_eq_true z)
    refine ⟨.str t, rfl, t, rfl, ?_⟩
    refine for_it (walk_str (z := t)) (fun i σ H' => ∃ y, σ = [some (.str t), y] ∧ H' = H ∧ ∀ d ∈ (tl t).take i, isIn (letters ++ digits) d = true) ⟨none, rfl, rfl, fun d hd => by cases hd⟩ (fun _ _ _ _ _ => trivial) (fun i x σ H5 H6 hi hP hy => ?_) (fun σ H5 hP => ?_)
    · obtain ⟨y, rfl, rfl, hall⟩ := hP
      obtain ⟨rfl, c, hc, rfl⟩ := hy
      have hc' : (tl t)[i]? = some c := by rw [Array.getElem?_toList]; exact hc
      refine ⟨_, rfl, c, LD, rfl, rfl, _, rfl, ite2 (fun e => ?_) (fun e => ?_)⟩
      · have e : ¬ c ∈ tl LD := by simpa using e
        rw [ld_eq] at e
        rw [isName_no (fun h => e (of_decide_eq_true (h.2.1 c (List.mem_of_getElem? hc'))))] at q
        exact q
      · have e : c ∈ tl LD := by simpa using e
        rw [ld_eq] at e
        refine ⟨_, rfl, rfl, fun d hd => ?_⟩
        rw [List.take_add_one, hc'] at hd
        rcases List.mem_append.mp hd with hd | hd
        · exact hall d hd
        · rw [show d = c from List.mem_singleton.mp hd]
          exact decide_eq_true e
    · obtain ⟨y, rfl, rfl, hall⟩ := hP
      have hall : ∀ d ∈ tl t, isIn (letters ++ digits) d = true := fun d hd => hall d (by rw [show t.cps.size = (tl t).length from (Array.length_toList).symm, List.take_length]; exact hd)
      obtain ⟨c, ec⟩ := at_sign (z := t) (i := 0) (by omega) (by decide)
      have ec : t.cps[0]? = some c := ec
      have ec' : (tl t)[0]? = some c := by rw [Array.getElem?_toList]; exact ec
      refine ⟨.str t, rfl, t, 0, c, rfl, rfl, by decide, by decide, by omega, ec, c, digits, rfl, rfl, ?_⟩
      have hl := let_dig (hall c (List.mem_of_getElem? ec'))
      have e : isName t = !decide (c ∈ tl digits) := by
        show _ = !isIn digits c
        rw [← hl]
        cases e3 : isIn letters c with
        | true => exact (isName_iff t).mpr ⟨by omega, hall, c, ec', e3⟩
        | false =>
          refine isName_no fun h => ?_
          obtain ⟨_, _, c', e4, e5⟩ := h
          rw [ec'] at e4
          cases e4
          rw [e3] at e5
          cases e5
      rw [e] at q
      exact q
/-- the law's own lane -/
theorem ok_llane {f : Addr} {fd : FuncData} {k : Nat} (F : Fun K "_law_lane" "_law_lane" sLLane f fd) (B : Blt mg) : FnOk P w K mg base CX0 (k + 1) f fd ["own", "address"] (spDA laneV) := by
  refine F.ok scLLane (fun vs H Q E h => ?_) (fun cdv A outer s H vs Q E hr h => ?_)
  · obtain ⟨d, kvs, a, rfl, _⟩ := h
    rfl
  · obtain ⟨d, kvs, a, rfl, hd, hl, q⟩ := h
    have hu := hu_of hr
    refine ⟨_, pss_cons (ps_for PassesOwn.never rfl (pi_range3 (by rfl) B.range (pa_cons (pe_callB call_len_str (by rfl) B.len PySem.boot_len (pa_cons (pv 1) pa_nil)) (pa_cons pe_int (pa_cons (pe_un un_neg pe_int) pa_nil)))) (pg_name (i := 2) scLLane.nd rfl (.inl rfl))
        (pss_one (ps_if (pt_cmp (pc_din hu (pe_slice sl_str (pv 1) po_none (po_some (pv 2))) (pv 0))) (pss_one (ps_ret (pe_dget hu (pv 0) (pe_slice sl_str (pv 1) po_none (po_some (pv 2))) (fun _ _ => rfl)))) pss_nil)))
      (pss_one (ps_ret pe_non)), ?_⟩
    have hz : sizeLine = 16777216 := rfl
    refine ⟨.str a, rfl, a, rfl, by omega, 1, rfl, (a.length : Int), 0, -1, ((a.length : Int) - 0).toNat, rfl, RgC.neg (by omega) (by omega) (by omega) (by omega), ?_⟩
    refine for_rangeC (lo := (a.length : Int)) (c := -1) (n := ((a.length : Int) - 0).toNat) (fun i σ H' => ∃ y, σ = [some (.ref d), some (.str a), y] ∧ H' = H ∧ long kvs a = lp kvs a (a.length - i)) ⟨none, rfl, rfl, rfl⟩ ?_ ?_
    · rintro i σ H' hi ⟨y, rfl, rfl, e⟩
      have hi' : i < a.length := by omega
      have ei : (a.length : Int) + (i : Int) * -1 = ((a.length - i : Nat) : Int) := by omega
      rw [ei]
      refine ⟨.str a, rfl, .int ((a.length - i : Nat) : Int), rfl, ((a.length - i : Nat) : Int), rfl, a, rfl, by omega, .ref d, rfl, d, _, rfl, DGet.k (k := Sum.inr (pre a (a.length - i))) hd, ?_⟩
      obtain ⟨m, em⟩ : ∃ m, a.length - i = m + 1 := ⟨a.length - i - 1, by omega⟩
      by_cases c : (valV kvs (Sum.inr (pre a (a.length - i)))).isSome = true
      · refine ⟨_, rfl, ?_⟩
        rw [c]
        obtain ⟨v, ev⟩ := Option.isSome_iff_exists.mp c
        refine ⟨.ref d, rfl, .str a, rfl, .int ((a.length - i : Nat) : Int), rfl, ((a.length - i : Nat) : Int), rfl, a, rfl, by omega, d, v, rfl, ?_, ?_⟩
        · rw [← ev]
          exact DGet.k (k := Sum.inr (pre a (a.length - i))) hd
        · have : long kvs a = some (pre a (a.length - i)) := by
            rw [e, em]
            unfold lp
            rw [← em, if_pos c]
          have q : Q (laneV kvs a) H' := q
          unfold laneV at q
          rw [this] at q
          have q : Q ((valV kvs (Sum.inr (pre a (a.length - i)))).getD .non) H' := q
          rw [ev] at q
          exact q
      · refine ⟨_, rfl, ?_⟩
        rw [Bool.eq_false_iff.mpr c]
        refine ⟨_, rfl, rfl, ?_⟩
        rw [e, em]
        show (if (valV kvs (Sum.inr (pre a (m + 1)))).isSome = true then some (pre a (m + 1)) else lp kvs a m) = _
        rw [← em, if_neg c, show a.length - (i + 1) = m by omega]
    · rintro σ H' ⟨y, rfl, rfl, e⟩
      rw [show a.length - ((a.length : Int) - 0).toNat = 0 by omega] at e
      have q : Q (laneV kvs a) H' := q
      unfold laneV at q
      rw [e] at q
      exact q
end
end Tb
namespace Tb
open PySem PySem.Spec PyProof.Rows L2
/-- what the loop keeps -/
def flt (p : Str) (o : Option Str) (q : Pr) : Bool := decide (q.1 ≠ p) || o.isSome
theorem nodup_take {own : List Pr} (h : (own.map Prod.fst).Nodup) {i : Nat} {q : Pr} (e : own[i]? = some q) (f : Pr → Bool) : valV (kvP ((own.take i).filter f)) (Sum.inr q.1) = none := by
  cases e2 : valV (kvP ((own.take i).filter f)) (Sum.inr q.1) with
  | none => rfl
  | some v =>
    exfalso
    have mm := (valV_kvP q.1 _).mp (by rw [e2]; rfl)
    obtain ⟨x, hx, ex⟩ := List.mem_map.mp mm
    have hx := (List.mem_filter.mp hx).1
    obtain ⟨j, hj⟩ := List.mem_iff_getElem?.mp hx
    rw [List.getElem?_take] at hj
    by_cases hji : j < i
    · rw [if_pos hji] at hj
      have a1 : (own.map Prod.fst)[j]? = some q.1 := by rw [List.getElem?_map, hj, ← ex]; rfl
      have a2 : (own.map Prod.fst)[i]? = some q.1 := by rw [List.getElem?_map, e]; rfl
      obtain ⟨l1, g1⟩ := List.getElem?_eq_some_iff.mp a1
      obtain ⟨l2, g2⟩ := List.getElem?_eq_some_iff.mp a2
      exact List.pairwise_iff_getElem.mp h j i l1 l2 hji (g1.trans g2.symm)
    · rw [if_neg hji] at hj
      cases hj
section
variable {P : Program} {w : World} {K : PySem.W.Frag} {mg : Str → Option Value} {base : Heap}
def spAfter : Sp := fun vs H Q _ => ∃ (d : Addr) (own : List Pr) (p : Str) (o : Option Str), vs = [.ref d, .str p, oStr o] ∧ H d = some (.dK (kvP own)) ∧ (own.map Prod.fst).Nodup ∧ own.length ≤ 1000 ∧
  ∀ (e : Addr) (H' : Hp), Same H H' → H e = none → H' e = some (.dK (kvP (aft own p o))) → Q (.ref e) H'
theorem ok_lafter {f : Addr} {fd : FuncData} {k : Nat} (F : Fun K "_law_after" "_law_after" sLAfter f fd) (B : Blt mg) : FnOk P w K mg base CX0 (k + 1) f fd ["own", "prefix", "way"] spAfter := by
  refine F.ok scLAfter (fun vs H Q E h => ?_) (fun cdv A outer s H vs Q E hr h => ?_)
  · obtain ⟨d, own, p, o, rfl, _⟩ := h
    rfl
  · obtain ⟨d, own, p, o, rfl, hd, hn, hl, q⟩ := h
    have hu := hu_of hr
    have hz : sizeLine = 16777216 := rfl
    refine ⟨_, pss_cons (ps_set (i := 3) scLAfter.nd rfl (.inl rfl) pe_dnewK)
      (pss_cons (ps_lock (ps_for PassesOwn.never rfl (pi_keys (pv 0)) (pg_name (i := 4) scLAfter.nd rfl (.inl rfl))
        (pss_one (ps_if (PW.pt (pw_or (pt_cmpR op_ne (pv 4) (pv 1) (nomark _)) (pw_or1 (pt_cmp (pc_notN (pv 2)))))) (pss_one (ps_dput hu (pv 3) (pv 4) (pe_dget hu (pv 0) (pv 4) (fun _ _ => rfl)) (by rfl))) pss_nil))))
      (pss_cons (ps_if (pt_cmp (pc_notN (pv 2))) (pss_one (ps_dput hu (pv 3) (pv 1) (pv 2) (by rfl))) pss_nil)
      (pss_one (ps_ret (pv 3))))), ?_⟩
    intro D nD
    have dD : d ≠ D := fun e => by rw [e, nD] at hd; cases hd
    refine ⟨d, .dK (kvP own), by rw [upd_ne dD]; exact hd, trivial, fun od => ?_⟩
    refine ⟨.ref d, rfl, d, od, rfl, .inl ⟨kvP own, upd_same, ?_⟩⟩
    refine for_it (walk_keys (d := d) (o := od) (kvs := kvP own)) (fun i σ H' => ∃ y, σ = [some (.ref d), some (.str p), some (oStr o), some (.ref D), y] ∧ But d H H' ∧ H' d = some (.frz od (.dK (kvP own))) ∧ H' D = some (.dK (kvP ((own.take i).filter (flt p o)))))
      ⟨none, rfl, ?_, upd_same, ?_⟩ (fun i σ H' _ hP => hP.choose_spec.2.2.1) (fun i x σ H5 H6 hi hP hy => ?_) (fun σ H5 hP => ?_)
    · exact fun b u hb nb => by rw [upd_ne nb, upd_ne (ne_of_none hb nD)]; exact hb
    · rw [upd_ne (Ne.symm dD)]
      exact upd_same
    · obtain ⟨y, rfl, b1, h1, h2⟩ := hP
      obtain ⟨rfl, k, v, ek, rfl⟩ := hy
      unfold kvP at ek
      rw [List.getElem?_map] at ek
      cases eq : own[i]? with
      | none => rw [eq] at ek; cases ek
      | some r =>
      rw [eq] at ek
      obtain ⟨rfl, rfl⟩ := Prod.mk.inj (Option.some.inj ek)
      have hm : valV (kvP own) (Sum.inr r.1) = some (.str r.2) := valV_mem hn (List.mem_of_getElem? eq)
      have tk : own.take (i + 1) = own.take i ++ [r] := by rw [List.take_add_one, eq]; rfl
      have li : i < own.length := (List.getElem?_eq_some_iff.mp eq).1
      have good : flt p o r = true → ∃ v, (DGet H6 d (.str r.1) (some v)) ∧ ∃ H7, DPut H6 D (.str r.1) v H7 ∧ (∃ y, ([some (.ref d), some (.str p), some (oStr o), some (.ref D), some (.str r.1)] : L2.St) = [some (.ref d), some (.str p), some (oStr o), some (.ref D), y] ∧ But d H H7 ∧ H7 d = some (.frz od (.dK (kvP own))) ∧ H7 D = some (.dK (kvP ((own.take (i + 1)).filter (flt p o))))) := fun hf => by
        refine ⟨.str r.2, ?_, _, DPut.k (k := Sum.inr r.1) h2 ?_, _, rfl, ?_, ?_, ?_⟩
        · exact .inl ⟨kvP own, Sum.inr r.1, .inr ⟨od, h1⟩, rfl, hm.symm⟩
        · rw [kvP_len]
          have := List.length_filter_le (flt p o) (own.take i)
          rw [List.length_take] at this
          omega
        · exact fun b u hb nb => by rw [upd_ne (ne_of_none hb nD)]; exact b1 b u hb nb
        · rw [upd_ne dD]
          exact h1
        · rw [upd_same, putK_new _ (nodup_take hn eq _), tk, List.filter_append, List.filter_cons, if_pos hf]
          unfold kvP
          rw [List.map_append]
          rfl
      refine ⟨.str r.1, rfl, .str p, rfl, rfl, _, rfl, ite2 (fun e1 => ?_) (fun e1 => ?_)⟩
      · have hf : flt p o r = true := by
          unfold flt
          rw [Bool.or_eq_true]
          refine .inl (decide_eq_true fun z => ?_)
          rw [z] at e1
          simp at e1
        obtain ⟨v, g1, H7, g2, g3⟩ := good hf
        exact ⟨.ref d, rfl, .str r.1, rfl, d, v, rfl, g1, .ref D, rfl, .str r.1, rfl, D, H7, rfl, g2, g3⟩
      · have hp : r.1 = p := by
          refine Classical.byContradiction fun z => e1 ?_
          rw [decide_eq_false (fun y => z (V.str.inj y))]
          rfl
        cases o with
        | some l =>
          obtain ⟨v, g1, H7, g2, g3⟩ := good (by unfold flt; rw [Bool.or_eq_true]; exact .inr rfl)
          exact ⟨.str l, rfl, true, rfl, .ref d, rfl, .str r.1, rfl, d, v, rfl, g1, .ref D, rfl, .str r.1, rfl, D, H7, rfl, g2, g3⟩
        | none =>
          refine ⟨.non, rfl, false, rfl, _, rfl, b1, h1, ?_⟩
          rw [tk, List.filter_append, List.filter_cons, if_neg (by unfold flt; rw [decide_eq_false (fun z => z hp)]; decide), List.filter_nil, List.append_nil]
          exact h2
    · obtain ⟨y, rfl, b1, h1, h2⟩ := hP
      rw [kvP_len, List.take_length] at h2
      have S5 : Same H (upd H5 d (.dK (kvP own))) := fun b u hb => by
        by_cases e : b = d
        · rw [e] at hb ⊢
          rw [upd_same]
          rw [hd] at hb
          exact hb
        · rw [upd_ne e]
          exact b1 b u hb e
      have hD5 : (upd H5 d (.dK (kvP own))) D = some (.dK (kvP (own.filter (flt p o)))) := by
        rw [upd_ne (Ne.symm dD)]
        exact h2
      refine ⟨h1, ?_⟩
      generalize upd H5 d (.dK (kvP own)) = H6 at S5 hD5
      cases o with
      | none =>
        refine ⟨.non, rfl, false, rfl, .ref D, rfl, q D H6 S5 nD ?_⟩
        rw [hD5]
        show some (HO.dK (kvP (own.filter (flt p none)))) = some (HO.dK (kvP (dropP own p)))
        unfold dropP
        have e : (flt p none) = fun q : Pr => decide (q.1 ≠ p) := funext fun q => by unfold flt; exact Bool.or_false _
        rw [e]
      | some l =>
        have e : own.filter (flt p (some l)) = own := List.filter_eq_self.mpr fun q _ => by unfold flt; exact Bool.or_true _
        rw [e] at hD5
        refine ⟨.str l, rfl, true, rfl, .str l, rfl, .ref D, rfl, .str p, rfl, D, _, rfl, DPut.k (k := Sum.inr p) hD5 (by rw [kvP_len]; omega), .ref D, rfl, q D _ (fun b u hb => ?_) nD ?_⟩
        · rw [upd_ne (ne_of_none hb nD)]
          exact S5 b u hb
        · rw [upd_same, put_kvP]
          rfl
end
end Tb
namespace Tb
open PySem PySem.Spec PyProof.Rows L2
section
variable {X : Cx} {C g : Addr} {k : Nat} {sp : Sp}
/-- len(x), x an instance whose class has its own __len__ -/
theorem call_lenO (hs : PySem.W.findIn X.K (.ref C) "__len__" = some (some (.ref g))) (hf : PySem.W.isFn X.K (.ref g) = true) (F : FnR X.prog X.w X.K X.mg X.base CX0 k g sp) (hr : Room (k + 1) X.A) :
    CallR X (.builtin "len") (fun xs H Q => ∃ (a dx : Addr) (fs : List (Str × V)), xs = [.ref a] ∧ H a = some (.ins C dx fs) ∧ sp [.ref a] H (fun v H' => ∃ n : Nat, v = .int (n : Int) ∧ n ≤ 1000 ∧ Q v H') E0) := by
  intro pins s σ H xs us Q I r h
  obtain ⟨a, dx, fs, rfl, ea, q⟩ := h
  obtain ⟨u, rfl, rx⟩ := vals1 r
  cases rx
  obtain ⟨mA, O, _⟩ := ins_get I.hok ea
  obtain ⟨od, J, _⟩ := O.look
  refine Calls.call_function_entry PySem.kind_len PySem.plain_len PySem.entry_len (PySem.args_len1 _) ?_
  unfold Builtin.«len»
  refine wpAny_bind (m := oneArg "len" _) (wpAny_pure ?_)
  refine wpAny_bind (m := callSpecial? (.ref a) (Str.ofString "__len__")) (PySem.W.special_fn I.kIn J hs (beq_iff_eq.mp hf) (wpAny_call (codeAny_mono (F X.A.in1 X.stack s H [.ref a] [.ref a] _ E0 hr.in1 I.env0.in1 (.cons rfl .nil) q) fun r s' hq => ?_)))
  cases r with
  | error er => exact hq.elim
  | ok fl =>
    cases fl with
    | ret u =>
      obtain ⟨v, H', I3, rv, n, rfl, hn, q3⟩ := I.after hq
      obtain ⟨t, rfl⟩ := rv
      refine wpAny_bind (wpAny_holding (wpAny_pure ?_))
      refine wpAny_bind (wpAny_letGo ?_)
      show wpAny _ _ (if (n : Int) < 0 then _ else _) _ _ _
      rw [if_neg (by omega)]
      show wpAny _ _ (if (n : Int) ≥ 2 ^ 63 then _ else _) _ _ _
      rw [if_neg (by omega)]
      exact wpAny_bind (wpAny_mkInt (wpAny_pure ⟨_, rfl, .int (n : Int), H', I3.tok _, ⟨_, rfl⟩, q3⟩))
    | next => exact hq.elim
    | brk => exact hq.elim
    | cont => exact hq.elim
end
end Tb
namespace Tb
open PySem PySem.Spec PyProof.Rows L2
/-- the class Table, its methods and what they keep -/
structure TabK (P : Program) (w : World) (K : PySem.W.Frag) (mg : Str → Option Value) (base : Heap) (C CI CU : Addr) : Prop where
  T : TCls K C
  g : mg "Table" = some (.ref C)
  ins : C8.InsC K C
  make : ∃ f fd, Mk K C f ∧ Binds K fd ["self", "rows"] [] ∧ FnOk P w K mg base (L2.CX P w) 4 f fd ["self", "rows"] (spInit C CI)
  rows : ∃ p f fd, PropOf K C "rows" p f ∧ Binds K fd ["self"] [] ∧ FnOk P w K mg base CX0 1 f fd ["self"] (spTRows C)
  len : ∃ f fd, PySem.W.findIn K (.ref C) "__len__" = some (some (.ref f)) ∧ PySem.W.isFn K (.ref f) = true ∧ Binds K fd ["self"] [] ∧ FnOk P w K mg base CX0 1 f fd ["self"] (spTLen C)
  call : ∃ f fd, StX.CallO K C f ∧ Binds K fd ["self", "address"] [] ∧ FnOk P w K mg base CX0 3 f fd ["self", "address"] (spTCall C)
  chg : ∃ f fd, Meth K C "changed" f ∧ Binds K fd ["self", "prefix", "lane"] [] ∧ FnOk P w K mg base (L2.CX P w) 6 f fd ["self", "prefix", "lane"] (spTChanged C CI CU)
abbrev sRowsAre : Stmt := topS 34
theorem scRowsAre : FnScope ["board", "due", "told", "k"] ["board", "due"] (defScope sRowsAre) := ⟨rfl, rfl, rfl, by decide +kernel, rfl, by decide +kernel, by decide +kernel⟩
theorem lane_sg {t : Str} (h : isLane t = true) : Sg t := by
  unfold isLane at h
  rw [Bool.or_eq_true] at h
  rcases h with h | h
  · rw [of_decide_eq_true h]
    unfold Sg
    decide +kernel
  · exact (nm_tx ((isName_iff t).mp h)).sg
theorem addr_sg {t : Str} (h : isAddr t = true) : Sg t := (ad_tx ((isAddr_iff t).mp h)).sg
def SgP (p : Pr) : Prop := Sg p.1 ∧ Sg p.2
theorem good_sg {ps : List Pr} (g : Good ps) : ∀ p ∈ ps, SgP p := fun p hp => ⟨addr_sg (g.1 p hp).1, lane_sg (g.1 p hp).2⟩
theorem lay_2 {p : Pr} (h : SgP p) : (enc2 p).canLay0 = true ∧ (enc2 p).depth ≤ 2 := by
  refine ⟨?_, depth2 p⟩
  simp only [enc2, PyData.canLay0, PyData.canLayAll0, strOk_sg h.1, strOk_sg h.2, Bool.and_true]
theorem shaped_2 {p : Pr} (h : SgP p) : SeqAt.shaped (enc2 p) = true := by
  obtain ⟨h1, h2⟩ := lay_2 h
  show (PyData.canLay0 (enc2 p) && decide (PyData.depth (enc2 p) ≤ 64)) = true
  rw [Bool.and_eq_true]
  exact ⟨h1, decide_eq_true (by omega)⟩
theorem lay_2s : ∀ {ps : List Pr}, (∀ p ∈ ps, SgP p) → PyData.canLayAll0 (ps.map enc2) = true ∧ PyData.depthAll (ps.map enc2) ≤ 2
  | [], _ => by simp [PyData.canLayAll0, PyData.depthAll]
  | p :: ps, h => by
    obtain ⟨a1, a2⟩ := lay_2 (h p (List.mem_cons_self ..))
    obtain ⟨b1, b2⟩ := lay_2s (ps := ps) fun q hq => h q (List.mem_cons_of_mem _ hq)
    refine ⟨?_, ?_⟩
    · simp only [List.map_cons, PyData.canLayAll0, a1, b1, Bool.and_true]
    · simp only [List.map_cons, PyData.depthAll]
      omega
theorem shaped_2s {ps : List Pr} (h : ∀ p ∈ ps, SgP p) : SeqAt.shaped (.list (ps.map enc2)) = true := by
  obtain ⟨h1, h2⟩ := lay_2s h
  show (PyData.canLay0 (.list (ps.map enc2)) && decide (PyData.depth (.list (ps.map enc2)) ≤ 64)) = true
  rw [Bool.and_eq_true]
  refine ⟨by simp only [PyData.canLay0]; exact h1, decide_eq_true ?_⟩
  simp only [PyData.depth]
  omega
theorem dp_2 {K : PySem.W.Frag} {H : Hp} {a : Addr} {p : Pr} (h : H a = some (.tup [.str p.1, .str p.2])) : Dp K H (.ref a) (enc2 p) := .tup (.of h) (.cons (.str _) (.cons (.str _) .nil))
theorem dp_2s {K : PySem.W.Frag} {H : Hp} : ∀ {ts : List (Addr × Pr)}, (∀ t ∈ ts, H t.1 = some (.tup [.str t.2.1, .str t.2.2])) → DpAll K H (ts.map fun t => V.ref t.1) ((ts.map (·.2)).map enc2)
  | [], _ => .nil
  | t :: ts, h => .cons (dp_2 (h t (List.mem_cons_self ..))) (dp_2s fun q hq => h q (List.mem_cons_of_mem _ hq))
theorem eqv_self {d : PyData} (h : SeqAt.shaped d = true) : PyData.eqv d d = true := SeqAt.eqv_refl _ (SeqAt.canLay_of_shaped h)
/-- the list of these rows -/
structure Prs (H : Hp) (r : Addr) (ts : List (Addr × Pr)) : Prop where
  l : H r = some (.lst (ts.map fun t => V.ref t.1))
  t : ∀ t ∈ ts, H t.1 = some (.tup [.str t.2.1, .str t.2.2])
theorem Prs.same {H H' : Hp} {r : Addr} {ts : List (Addr × Pr)} (R : Prs H r ts) (h : Same H H') : Prs H' r ts := ⟨h _ _ R.l, fun t ht => h _ _ (R.t t ht)⟩
theorem row_at {H : Hp} {ts : List (Addr × Pr)} {ps : List Pr} (e : ts.map (·.2) = ps) {i : Nat} (hi : i < ps.length) (ht : ∀ t ∈ ts, H t.1 = some (.tup [.str t.2.1, .str t.2.2])) :
    ∃ a p, (ts.map fun t => V.ref t.1)[i]? = some (.ref a) ∧ ps[i]? = some p ∧ H a = some (.tup [.str p.1, .str p.2]) := by
  have hl : i < ts.length := by rw [← e, List.length_map] at hi; exact hi
  refine ⟨ts[i].1, ts[i].2, ?_, ?_, ht _ (List.getElem_mem hl)⟩
  · rw [List.getElem?_map, List.getElem?_eq_getElem hl]
    rfl
  · rw [← e, List.getElem?_map, List.getElem?_eq_getElem hl]
    rfl
section
variable {P : Program} {w : World} {K : PySem.W.Frag} {mg : Str → Option Value} {base : Heap}
def spRowsAre (C : Addr) : Sp := fun vs H Q _ => ∃ (b l : Addr) (own : List Pr) (ts : List (Addr × Pr)), vs = [.ref b, .ref l] ∧ TabOf C H b own ∧ Prs H l ts ∧ ts.map (·.2) = own.mergeSort le2 ∧ ∀ H', Same H H' → Q (.bl true) H'
theorem ok_rowsAre {f C CI CU : Addr} {fd : FuncData} (F : Fun K "_law_rows_are" "_law_rows_are" sRowsAre f fd) (B : Blt mg) (TK : TabK P w K mg base C CI CU) : FnOk P w K mg base CX0 3 f fd ["board", "due"] (spRowsAre C) := by
  obtain ⟨pR, fR, fdR, hpR, bR, FR⟩ := TK.rows
  obtain ⟨fL, fdL, hs, hf, bL, FL⟩ := TK.len
  have FLr : FnR P w K mg base CX0 1 fL (spTLen C) := (FL.raw bL .nil).imp fun vs H Q E h => by rw [List.append_nil]; exact h
  refine F.ok scRowsAre (fun vs H Q E h => ?_) (fun cdv A outer s H vs Q E hr h => ?_)
  · obtain ⟨b, l, own, ts, rfl, _⟩ := h
    rfl
  · obtain ⟨b, l, own, ts, rfl, hT, hD, eD, q⟩ := h
    have hz : sizeLine = 16777216 := rfl
    have hn : own.length ≤ 900 := hT.n
    have ln : ts.length = own.length := by rw [← len_sort (ps := own), ← eD, List.length_map]
    have hsg := good_sg (good_sort.mpr hT.g)
    refine ⟨_, pss_cons (ps_set (i := 2) scRowsAre.nd rfl (.inl rfl) (pe_prop (pv 0) TK.T.c hpR FR hr bR .nil pass0 (by rfl)))
      (pss_cons (ps_if (PW.pt (pw_or (pt_not (pt_val (pe_callB call_isi (by rfl) B.isi (by decide +kernel) (pa_cons (pv 2) (pa_cons (pe_bltn (by rfl) B.list PyProof.Rows.boot_list (v := .ty "list") rfl) pa_nil))))) (pw_or1 (pt_cmpR op_ne (pe_callB call_len_seq (by rfl) B.len PySem.boot_len (pa_cons (pv 2) pa_nil)) (pe_callB call_len_seq (by rfl) B.len PySem.boot_len (pa_cons (pv 1) pa_nil)) (nomark _))))) (pss_one (ps_ret pe_bl)) pss_nil)
      (pss_cons (ps_for PassesOwn.never rfl (pi_range1 (by rfl) B.range (pa_cons (pe_callB call_len_seq (by rfl) B.len PySem.boot_len (pa_cons (pv 1) pa_nil)) pa_nil)) (pg_name (i := 3) scRowsAre.nd rfl (.inl rfl))
        (pss_one (ps_if (PW.pt (pw_or (pt_not (pt_val (pe_callB call_isi (by rfl) B.isi (by decide +kernel) (pa_cons (pe_ix ix_list (pv 2) (pv 3) (fun _ _ => rfl)) (pa_cons (pe_bltn (by rfl) B.tuple PyProof.Rows.boot_tuple (v := .ty "tuple") rfl) pa_nil))))) (pw_or1 (pt_cmpR (op_neD hr.units) (pe_ix ix_list (pv 2) (pv 3) (fun _ _ => rfl)) (pe_ix ix_list (pv 1) (pv 3) (fun _ _ => rfl)) (nomark _))))) (pss_one (ps_ret pe_bl)) pss_nil)))
      (pss_cons (ps_expr (pe_bm PySem.F.plainAttrs_list PySem.F.slot_list_append PySem.F.type_list_append mt_append (pv 2) (pa_cons (pe_tup (pa_cons pe_str (pa_cons pe_str pa_nil))) pa_nil)))
      (pss_cons (ps_expr (pe_bm0 PySem.F.plainAttrs_list PySem.F.slot_list_reverse PySem.F.type_list_reverse mt_reverse (pv 2)))
      (pss_one (ps_ret (pe_and (pe_cmpR op_eq (pe_callB (call_lenO hs hf FLr hr) (by rfl) B.len PySem.boot_len (pa_cons (pv 0) pa_nil)) (pe_callB call_len_seq (by rfl) B.len PySem.boot_len (pa_cons (pv 1) pa_nil)) (nomark _)) (pe_one (pe_cmpR (op_eqD hr.units) (pe_prop (pv 0) TK.T.c hpR FR hr bR .nil pass0 (by rfl)) (pv 1) (nomark _)))))))))), ?_⟩
    obtain ⟨dx, d, h1, h2⟩ := id hT.ex
    refine ⟨.ref b, rfl, b, dx, _, rfl, h1, b, own, rfl, hT, fun p us H1 S1 np hp hus eus => ?_⟩
    have lu : us.length = own.length := by rw [← len_sort (ps := own), ← eus, List.length_map]
    have D1 := hD.same S1
    refine ⟨.ref p, rfl, .ref p, .ty "list", .type "list", .type "list", true, rfl, .ty _, .base (.lst hp), kit_ty (by decide +kernel), true, rfl, ?_⟩
    refine ⟨.ref p, rfl, p, _, rfl, .inl (sqOf hp), .ref l, rfl, l, _, rfl, .inl (sqOf D1.l), rfl, _, rfl, ?_⟩
    rw [List.length_map, List.length_map, lu, ln, decide_eq_true rfl]
    refine ⟨.ref l, rfl, l, _, rfl, .inl (sqOf D1.l), _, rfl, by rw [List.length_map]; omega, by rw [List.length_map]; omega, ?_⟩
    rw [List.length_map, ln]
    refine for_it (walk_range (lo := 0) (n := ((own.length : Nat) : Int).toNat)) (fun i σ H' => ∃ y, σ = [some (.ref b), some (.ref l), some (.ref p), y] ∧ H' = H1) ⟨none, rfl, rfl⟩ (fun _ _ _ _ _ => trivial) (fun i x σ H5 H6 hi hP hy => ?_) (fun σ H5 hP => ?_)
    · obtain ⟨y, rfl, rfl⟩ := hP
      obtain ⟨rfl, ex⟩ := hy
      have ex2 : x = .int (i : Int) := by
        rw [ex]
        show V.int (0 + (i : Int)) = _
        rw [Int.zero_add]
      subst ex2
      have hi' : i < (own.mergeSort le2).length := by rw [len_sort]; omega
      obtain ⟨a1, p1, e1, e2, e3⟩ := row_at eus hi' hus
      obtain ⟨a2, p2, e4, e5, e6⟩ := row_at eD hi' D1.t
      rw [e2] at e5
      cases e5
      have sg := hsg p1 (List.mem_of_getElem? e2)
      refine ⟨.ref p, rfl, .int (i : Int), rfl, p, _, (i : Int), .ref a1, rfl, rfl, sqOf hp, atI_nat e1, .ref a1, .ty "tuple", .type "tuple", .type "tuple", true, rfl, .ty _, .base (.tup e3), kit_ty (by decide +kernel), true, rfl, ?_⟩
      refine ⟨.ref p, rfl, .int (i : Int), rfl, p, _, (i : Int), .ref a1, rfl, rfl, sqOf hp, atI_nat e1, .ref l, rfl, .int (i : Int), rfl, l, _, (i : Int), .ref a2, rfl, rfl, sqOf D1.l, atI_nat e4, _, _, dp_2 e3, dp_2 e6, shaped_2 sg, shaped_2 sg, _, rfl, ?_⟩
      rw [eqv_self (shaped_2 sg)]
      exact ⟨_, rfl, rfl⟩
    · obtain ⟨y, rfl, rfl⟩ := hP
      refine ⟨.ref p, rfl, .inl ⟨rfl, _, sqOf hp⟩, by decide, fun t nt => ⟨p, _, _, rfl, rfl, by rw [upd_ne (ne_of_none hp nt)]; exact hp, by rw [List.length_map]; omega, ?_⟩⟩
      refine ⟨.ref p, rfl, .inl ⟨rfl, _, sqOf upd_same⟩, p, _, rfl, rfl, upd_same, ?_⟩
      have S6 : ∀ o o' o'', Same H (upd (upd (upd H5 t o) p o') p o'') := fun o o' o'' c u hc => by
        have n1 : c ≠ p := ne_of_none hc np
        rw [upd_ne n1, upd_ne n1]
        exact (S1.trans (same_upd nt)) c u hc
      generalize hH7 : upd (upd (upd H5 t (.tup [V.str (Str.ofString "5"), V.str (Str.ofString "x")])) p _) p _ = H7
      have S7 : Same H H7 := by rw [← hH7]; exact S6 _ _ _
      have D7 := hD.same S7
      have T7 := hT.same S7
      refine ⟨.ref b, rfl, b, dx, _, rfl, S7 _ _ h1, b, own, rfl, T7, own.length, rfl, by omega, .ref l, rfl, l, _, rfl, .inl (sqOf D7.l), rfl, _, rfl, ?_⟩
      rw [List.length_map, ln, decide_eq_true rfl]
      refine ⟨.ref b, rfl, b, dx, _, rfl, S7 _ _ h1, b, own, rfl, T7, fun p2 us2 H8 S8 np2 hp2 hus2 eus2 => ?_⟩
      refine ⟨.ref l, rfl, _, _, .lst (sqOf hp2) (dp_2s hus2), .lst (sqOf (D7.same S8).l) (dp_2s (D7.same S8).t), by rw [eus2]; exact shaped_2s hsg, by rw [eD]; exact shaped_2s hsg, ?_⟩
      rw [eus2, eD, eqv_self (shaped_2s hsg)]
      exact q _ (S7.trans S8)
end
end Tb
namespace Tb
open PySem PySem.Spec PyProof.Rows L2
/-- two addresses that hold unlike things -/
theorem ne_of {H : Hp} {a b : Addr} {x y : HO} (h1 : H a = some x) (h2 : H b = some y) (n : x ≠ y) : a ≠ b := fun e => by
  rw [e, h2] at h1
  cases h1
  exact n rfl
/-- the drawn lanes -/
structure Ways (H : Hp) (l : Addr) (ws : List Str) : Prop where
  l : H l = some (.lst (ws.map V.str))
  n : 1 ≤ ws.length ∧ ws.length ≤ 6
  g : ∀ x ∈ ws, isLane x = true
theorem lane_tx {x : Str} (h : isLane x = true) : Tx x := ⟨by have := lane_len h; omega, lane_sg h⟩
theorem Ways.txs {H : Hp} {l : Addr} {ws : List Str} (W : Ways H l ws) : Txs H l ws := ⟨W.l, by have := W.n; omega, fun x hx => lane_tx (W.g x hx)⟩
theorem Ways.but {H H' : Hp} {l p : Addr} {ws : List Str} (W : Ways H l ws) (B : Bag H p) (h : But p H H') : Ways H' l ws := ⟨h _ _ W.l (W.txs.off B), W.n, W.g⟩
theorem Ways.same {H H' : Hp} {l : Addr} {ws : List Str} (W : Ways H l ws) (h : Same H H') : Ways H' l ws := ⟨h _ _ W.l, W.n, W.g⟩
theorem lane_of_name {t : Str} (h : Nm (tl t)) : isLane t = true := by
  unfold isLane
  rw [Bool.or_eq_true]
  exact .inr ((isName_iff t).mpr h)
section
variable {P : Program} {w : World} {K : PySem.W.Frag} {mg : Str → Option Value} {base : Heap}
/-- the lane of a dict of texts is a text or None -/
theorem laneV_kvP (own : List Pr) (a : Str) : laneV (kvP own) a = .non ∨ ∃ z, laneV (kvP own) a = .str z ∧ ∃ q ∈ own, q.2 = z := by
  unfold laneV
  cases long (kvP own) a with
  | none => exact .inl rfl
  | some p =>
    show (valV (kvP own) (Sum.inr p)).getD .non = .non ∨ ∃ z, (valV (kvP own) (Sum.inr p)).getD .non = .str z ∧ _
    rw [valV_kvP_eq]
    cases e : own.find? fun q => decide (q.1 = p) with
    | none => exact .inl rfl
    | some q => exact .inr ⟨q.2, rfl, q, List.mem_of_find?_eq_some e, rfl⟩
end
end Tb
namespace Tb
open PySem PySem.Spec PyProof.Rows L2
theorem Bag.off {H : Hp} {p a : Addr} {o : HO} (B : Bag H p) (h : H a = none) : a ≠ p := fun e => by
  obtain ⟨_, _, _, _, hp, _⟩ := B
  rw [e, hp] at h
  cases h
theorem Bag.put {H : Hp} {p a : Addr} {o : HO} (B : Bag H p) (h : a ≠ p) : Bag (L2.upd H a o) p := by
  obtain ⟨n, c, m, ns, hp, rest⟩ := B
  exact ⟨n, c, m, ns, by rw [upd_ne (Ne.symm h)]; exact hp, rest⟩
theorem But.put {p a : Addr} {H H' : Hp} {o : HO} (b : But p H H') (h : H a = none) : But p H (L2.upd H' a o) := fun c u hc nc => by
  rw [upd_ne (ne_of_none hc h)]
  exact b c u hc nc
theorem bag_free {H H' : Hp} {p a : Addr} (B : Bag H p) (b : But p H H') (B' : Bag H' p) (h : H' a = none) : H a = none := by
  cases e : H a with
  | none => rfl
  | some o =>
    by_cases c : a = p
    · obtain ⟨_, _, _, _, hp, _⟩ := B'
      rw [c, hp] at h
      cases h
    · rw [b _ _ e c] at h
      cases h
theorem bag_no {H : Hp} {p a : Addr} (B : Bag H p) (h : H a = none) : a ≠ p := fun e => by
  obtain ⟨_, _, _, _, hp, _⟩ := B
  rw [e, hp] at h
  cases h
theorem bag_tup {H : Hp} {p a : Addr} {xs : List V} (B : Bag H p) (h : H a = some (.tup xs)) : a ≠ p := fun e => by
  obtain ⟨_, _, _, _, hp, _⟩ := B
  rw [e, hp] at h
  cases h
theorem eqV_str (x z : Str) : eqV (.str x) (.str z) = (x == z) := rfl
theorem inV_strs {z : Str} {ks : List Str} (h : inV (.str z) (ks.map V.str) = false) : z ∉ ks := fun hm => by
  unfold inV at h
  rw [List.any_map, List.any_eq_false] at h
  exact h z hm (by show eqV (.str z) (.str z) = true; rw [eqV_str]; exact beq_self_eq_true z)
section
variable {P : Program} {w : World} {K : PySem.W.Frag} {mg : Str → Option Value} {base : Heap}
end
end Tb
namespace Tb
open PySem PySem.Spec PyProof.Rows L2
section
variable {P : Program} {w : World} {K : PySem.W.Frag} {mg : Str → Option Value} {base : Heap}
/-- while the addresses are gathered -/
structure Gat (H0 H : Hp) (p d F : Addr) (u : HO) (ks : List Str) : Prop where
  fn : H F = some (.lst (ks.map V.str))
  dn : H d = some u
  bn : Bag H p
  rn : ∀ b o, H0 b = some o → b ≠ p → b ≠ d → H b = some o
  zn : ∀ x ∈ ks, x.length ≤ 1000
theorem Gat.put {H0 H : Hp} {p d F : Addr} {u : HO} {ks : List Str} (G : Gat H0 H p d F u ks) (nF : H0 F = none) (Fp : F ≠ p) (Fd : F ≠ d) {z : Str} (hz : z.length ≤ 1000) : Gat H0 (L2.upd H F (.lst (ks.map V.str ++ [V.str z]))) p d F u (ks ++ [z]) where
  fn := by rw [upd_same, List.map_append]; rfl
  dn := by rw [upd_ne (Ne.symm Fd)]; exact G.dn
  bn := G.bn.put Fp
  rn := fun c o hc n1 n2 => by rw [upd_ne (ne_of_none hc nF)]; exact G.rn c o hc n1 n2
  zn := fun x hx => by
    rcases List.mem_append.mp hx with hx | hx
    · exact G.zn x hx
    · rw [List.mem_singleton.mp hx]
      exact hz
theorem Gat.draw {H0 H H' : Hp} {p d F : Addr} {u : HO} {ks : List Str} (G : Gat H0 H p d F u ks) (Fp : F ≠ p) (dp : d ≠ p) (B : Bag H' p) (b : But p H H') : Gat H0 H' p d F u ks where
  fn := b _ _ G.fn Fp
  dn := b _ _ G.dn dp
  bn := B
  rn := fun c o hc n1 n2 => b _ _ (G.rn c o hc n1 n2) n1
  zn := G.zn
theorem keys_txs {own : List Pr} (g : Good own) (hn : own.length ≤ 100) {H : Hp} {l : Addr} (h : H l = some (.lst ((kvP own).map fun kv => kV kv.1))) : Txs H l (own.map Prod.fst) ∧ ∀ x ∈ own.map Prod.fst, Ad (tl x) := by
  have e : ((kvP own).map fun kv => kV kv.1) = (own.map Prod.fst).map V.str := by
    unfold kvP
    rw [List.map_map, List.map_map]
    rfl
  have hA : ∀ x ∈ own.map Prod.fst, Ad (tl x) := fun x hx => by
    obtain ⟨q, hq, rfl⟩ := List.mem_map.mp hx
    exact (isAddr_iff _).mp (g.1 q hq).1
  exact ⟨⟨by rw [h, e], by rw [List.length_map]; omega, fun x hx => ad_tx (hA x hx)⟩, hA⟩
end
end Tb
namespace Tb
open PySem PySem.Spec PyProof.Rows L2
/-! ### making and calling where the errors that may come depend on the slots (in a try) -/
section
variable {X : Cx} {CX : CXT} {k : Nat} {f C : Addr} {fd : FuncData} {ps : List Str} {sp : Sp} {E : L2.St → XK} {x m : Str} {p pos apos : Pos} {e o : Expr} {es : List Expr} {ta : TE} {t : TA}
theorem run_makeS {pins : List (Addr × Obj)} {σ : L2.St} {H : Hp} {s : Shared} {Q : VK} {us : List Value} {vs : List V} (M : Mk X.K C f) (F : FnR X.prog X.w X.K X.mg X.base CX k f sp) (hr : Room (k + 1) X.A) (hx : PassesAt CX X σ (E σ)) (I : Inv X pins σ H s) (r : Vals vs us)
    (h : ∀ x dx, H x = Option.none → H dx = Option.none → dx ≠ x → sp (V.ref x :: vs) (L2.upd (L2.upd H dx (.own x)) x (.ins C dx [])) (fun v H2 => v = .non ∧ Q (.ref x) H2) (E σ)) :
    wpAny (model X.prog X.w) X.A (call (.ref C) us) (EP X pins σ Q) X.xe s := by
  have hq := h (s.heap.objs.size + 1) s.heap.objs.size (I.hok.fresh (Nat.le_succ _)) (I.hok.fresh (Nat.le_refl _)) (Nat.ne_of_lt (Nat.lt_succ_self _))
  have I2 := Inv.made (C := C) I
  have r2 : Vals (V.ref (s.heap.objs.size + 1) :: vs) (Value.ref (s.heap.objs.size + 1) :: us) := .cons rfl r
  refine wpAny_call (make_map (f := f) I.kIn M.makes M.init (beq_iff_eq.mp M.fn) (codeAny_mono (F _ X.stack _ _ (Value.ref (s.heap.objs.size + 1) :: us) _ _ (E σ) (hr.make C us []) (I2.env0.make C us []) r2 hq) fun r s' hq' => ?_))
  cases r with
  | error e => exact hx pins _ _ e s' I2 hq'
  | ok fl =>
    cases fl with
    | ret u =>
      obtain ⟨v, H', I3, rv, ev, q3⟩ := I2.after hq'
      subst ev
      exact ⟨rv, ⟨V.ref (s.heap.objs.size + 1), H', I3, rfl, q3⟩⟩
    | next => exact False.elim hq'
    | brk => exact False.elim hq'
    | cont => exact False.elim hq'
def tMakeS (C : Addr) (sp : Sp) (E : L2.St → XK) (t : TA) : TE := fun σ H Q => t σ H fun vs H1 => ∀ x dx, H1 x = Option.none → H1 dx = Option.none → dx ≠ x →
  sp (V.ref x :: vs) (L2.upd (L2.upd H1 dx (.own x)) x (.ins C dx [])) (fun v H2 => v = .non ∧ Q (.ref x) H2) (E σ)
theorem pe_makeS (M : Mk X.K C f) (F : FnR X.prog X.w X.K X.mg X.base CX k f sp) (hr : Room (k + 1) X.A) (hg : Gl X x) (hm : X.mg x = some (.ref C)) (hx : ∀ σ, PassesAt CX X σ (E σ)) (ha : PA X (e :: es) t) (hdb : (x == ("__debug__" : Str)) = false := by decide)
    (he : starEach (e :: es) X.env = (false, eval e X.env) :: starEach es X.env := by rfl) (hpl : (backTo pos (starEach es X.env)).any (·.1) = false := by rfl) : PE X (.Call (.Name x p) (e :: es) [] pos) (tMakeS C sp E t) := by
  refine ⟨fun pins s σ H Q I h => ?_⟩
  refine wpAny_Call_Name_kw (ld_glob I hg hm ?_ hdb)
  refine PySem.W.callWith_K (h₀ := X.base) I.ok.mod.kin M.kp (thn (ha.run pos pins s σ H _ I h) fun us s1 ⟨vs, H1, I1, r, q⟩ => ⟨I1.kIn, ?_⟩) he hpl
  exact run_makeS M F hr (hx σ) I1 r q
def tMethS (C : Addr) (m : Str) (sp : Sp) (E : L2.St → XK) (ta : TE) (t : TA) : TE := fun σ H Q => ta σ H fun x H1 => ∃ a dx fs, x = .ref a ∧ H1 a = some (.ins C dx fs) ∧ fs.lookup m = none ∧
  t σ H1 fun vs H2 => sp (x :: vs) H2 Q (E σ)
theorem pe_methS {pl : Sem Bool} (he : PE X o ta) (c : Cls X.K C) (hm : Meth X.K C m f) (F : FnOk X.prog X.w X.K X.mg X.base CX k f fd ps sp) (hr : Room k X.A) (hb : Binds X.K fd ps []) (hx : ∀ σ, PassesAt CX X σ (E σ)) (ha : PA X (e :: es) t)
    (hst : starEach (e :: es) X.env = (false, eval e X.env) :: starEach es X.env := by rfl) (hpl : (backTo pos (starEach es X.env)).any (·.1) = false := by rfl)
    (ht : eval (.Call (.Attribute o m apos) (e :: es) [] pos) X.env = (do
      let ov ← eval o X.env
      standAt apos.atName
      let (f, first) ← holding [ov] (getMethod ov m pl)
      callWith pos f first (backTo pos (starEach (e :: es) X.env)) (backToKw pos (keywordEach [] X.env))) := by rfl) :
    PE X (.Call (.Attribute o m apos) (e :: es) [] pos) (tMethS C m sp E ta t) := by
  refine ⟨fun pins s σ H Q I h => ?_⟩
  refine PySem.W.methodCall_KW (pl := pl) (thn (he.run pins s σ H _ I h) fun u s1 ⟨x, H1, I1, rx, a, dx, fs, ex, ea, l, q⟩ => ?_) ht
  subst ex
  obtain rfl : u = Value.ref a := rx
  refine getmeth_ok I1 ea c hm l ?_
  refine PySem.W.callWith_K (first := [.ref a]) (h₀ := X.base) I.ok.mod.kin hm.kp (thn (ha.run pos pins s1 σ H1 _ I1 q) fun us s2 ⟨vs, H2, I2, r, q2⟩ => ⟨I2.kIn, ?_⟩) hst hpl
  exact run_fnS (us := .ref a :: us) (vs := .ref a :: vs) F hr hb (hx σ) I2 (.cons rfl r) q2
end
theorem tab_made2 {C CI : Addr} {H : Hp} {r x dx : Addr} {lst : Bool} {ts : List (Addr × Pr)} {R : VK} {E : XK} (RA : RowsAt H r lst ts) (hn : ts.length ≤ 900) (nx : H x = none) (ndx : H dx = none) (hne : dx ≠ x)
    (qG : Good (ts.map (·.2)) → ∀ H', Same H H' → TabOf C H' x (ts.map (·.2)) → R .non H')
    (qB : ¬ Good (ts.map (·.2)) → ∀ e H', Same H H' → H' e = some (.xd [(wWhat, .str wTable)]) → E (.ref CI) (some e) H') :
    spInit C CI [V.ref x, V.ref r] (L2.upd (L2.upd H dx (.own x)) x (.ins C dx [])) R E := by
  have S0 : Same H (L2.upd (L2.upd H dx (.own x)) x (.ins C dx [])) := (same_upd ndx).trans (same_upd (by rw [upd_ne (Ne.symm hne)]; exact nx))
  refine ⟨x, dx, r, lst, ts, rfl, upd_same, RA.same S0, fun g d H' S nd hx hd => ?_, fun g e H' S he => qB g e H' (S0.trans S) he⟩
  refine qG g H' (fun b o hb => ?_) ⟨⟨dx, d, hx, hd⟩, g, by rw [List.length_map]; exact hn⟩
  exact S b o (S0 _ _ hb) (fun e => by rw [e, nx] at hb; cases hb)
/-- the errors' classes, as the module has them -/
structure Errs (K : PySem.W.Frag) (mg : Str → Option Value) (CI gI : Addr) (gdI : FuncData) (CU gU : Addr) (gdU : FuncData) (CP : Addr) : Prop where
  I : EInv K mg CI gI gdI
  U : EUnk K mg CU gU gdU
  gP : mg "ParcelError" = some (.ref CP)
  ve : mg "ValueError" = none
  kP : PySem.W.kitOne K (.ref CI) (.ref CP) = some true
  kV : PySem.W.kitOne K (.ref CI) (.type "ValueError") = some true
  kU : PySem.W.kitOne K (.ref CI) (.ref CU) = some false
  exI : PySem.W.exmOne K (.ref CI) (.ref CI) = some true
  exU : PySem.W.exmOne K (.ref CU) (.ref CU) = some true
  exN : PySem.W.exmOne K (.ref CU) (.ref CI) = some false
section
variable {P : Program} {w : World} {K : PySem.W.Frag} {mg : Str → Option Value} {base : Heap}
end
end Tb
set_option maxHeartbeats 2000000
namespace Tb
open PySem PySem.Spec PyProof.Rows L2
/-! ### a try with several clauses that name the error -/
abbrev Suite := Addr → Value → Option Addr → TS
/-- behind a clause its name is gone -/
def gone (D : Ends) (i : Nat) : Ends := ⟨fun a b => D.nx (a.set i none) b, D.rt, fun a b => D.bk (a.set i none) b, fun a b => D.ct (a.set i none) b⟩
def wClauses (K : PySem.W.Frag) (Wout : WX) (D : Ends) : List (Value × Nat × Suite) → WX
  | [] => Wout
  | h :: r => fun cls d σ H => ∃ b, PySem.W.exmOne K cls h.1 = some b ∧ (b = true → ∀ a, H a = none → h.2.2 a cls d (gone D h.2.1) (σ.set h.2.1 (some (.ref a))) H) ∧ (b = false → wClauses K Wout D r cls d σ H)
inductive Clauses (X : Cx) : List ExceptHandler → List (Value × Nat × Suite) → Prop
  | none : Clauses X [] []
  | more {x n : Str} {i : Nat} {c : Value} {ts : Suite} {b₀ : Stmt} {suite : List Stmt} {np pos' : Pos} {hds : List ExceptHandler} {l : List (Value × Nat × Suite)} (hc : Names X x c) (hi : X.N[i]? = some n) (hln : X.env.kindOf n = some .local)
      (run : ∀ (a : Addr) (oe : Obj) (cls : Value) (d : Option Addr) (pn : List (Addr × Obj)), Zc cls d oe → (∃ vs, oe.data = .fields vs) → PSs (X.suite a ((a, oe) :: pn)) (b₀ :: suite) (ts a cls d)) (r : Clauses X hds l) :
      Clauses X (.ExceptHandler (some (.Name x np)) (some n) (b₀ :: suite) pos' :: hds) ((c, i, ts) :: l)
section
variable {X : Cx} {body : List Stmt} {h₀ : ExceptHandler} {hds : List ExceptHandler} {l : List (Value × Nat × Suite)} {pos : Pos} {tb : WX → TS} {Wout : WX}
theorem ps_try_clauses (stk : X.stack = X.env :: X.outer) (frm : X.env.frame = some X.env.locals) (nod : X.N.Nodup) (tk : Takes X Wout)
    (walk : ∀ (W : WX) (pn : List (Addr × Obj)) (xe : Value → Shared → Prop), Takes (X.tr pn xe) W → PassesOwn (model X.prog X.w) X.A X.env xe → PSs (X.tr pn xe) body (tb W))
    (cl : Clauses X (h₀ :: hds) l) : PS X (.Try body (h₀ :: hds) [] [] pos) (fun D σ H => tb (wClauses X.K Wout D l) D σ H) := by
  constructor
  intro pins s σ H D I hw
  have good := I.ok
  have frames : X.A.frames = some (X.env :: X.outer) := good.frames.trans (congrArg some stk)
  refine wpAny_Try_except ?_
  have inside := walk (wClauses X.K Wout D l) (X.pn ++ pins) (fun e s₁ => wpAny (model X.prog X.w) X.A (noteFrame e X.env) (fun _ s₂ => wpAny (model X.prog X.w) X.A (setFlight e none) (fun _ s₃ =>
    wpAny (model X.prog X.w) X.A (handleBy e X.env (h₀ :: hds)) (SP X pins D) X.xe s₃) X.xe s₂) X.xe s₁)
  refine wpAny_mono ((inside (fun u t xx => ?caught) PassesOwn.looking).run [] s σ H D (I.toTry _) hw) (fun fl t st => ?ended) (fun _ _ z => z)
  case caught =>
    obtain ⟨a, B, sI, pins1, σ1, H1, cls, d, rfl, J0, nb, up, sky, na, os, ag, wd⟩ := xx
    have J : Inv X pins σ1 H1 sI := J0.ofTry good
    rw [show X.tr (X.pn ++ pins) _ = X.tr (X.pn ++ pins) _ from rfl] at sky
    have above : Sky B (X.env :: X.outer) a (Zc cls d) X.env.locals t.heap := by
      have := sky
      rw [← stk]
      exact this
    show wpAny (model X.prog X.w) X.A (noteFrame (.ref a) X.env) _ _ _
    refine Sky.land Zc.steady frames frm above fun g fl ug => ?_
    have Jg : Inv X pins σ1 H1 { t with heap := g } := J.landed nb fl.1 (up.trans ug) os ag
    obtain ⟨oe, vs, he, hz, hd⟩ := fl.there
    have apart : a ∉ frs (X.env :: X.outer) := fun hm => by
      obtain ⟨_, o', e', hnf⟩ := fl.2.2.1.mem hm
      rw [he] at e'
      cases e'
      exact hnf _ hd
    have nL : a ≠ X.env.locals := fun z => apart (List.mem_filterMap.mpr ⟨X.env, List.mem_cons_self, by rw [frm, z]⟩)
    have nF : a ∉ X.fs := fun hm => by
      obtain ⟨e, he2, q⟩ := List.mem_filterMap.mp hm
      exact apart (List.mem_filterMap.mpr ⟨e, List.mem_cons_of_mem _ he2, q⟩)
    have Sg := Jg.suite he hd na nL nF
    have each : ∀ {hs : List ExceptHandler} {ls : List (Value × Nat × Suite)}, Clauses X hs ls → wClauses X.K Wout D ls cls d σ1 H1 → wpAny (model X.prog X.w) X.A (handleBy (.ref a) X.env hs) (SP X pins D) X.xe { t with heap := g } := by
      intro hs ls hk
      induction hk with
      | none =>
        intro wo
        refine wpAny_handleBy_nil ?_
        obtain ⟨_, _, _, oe', vs', T, oT, ts', he', hz', hd', h1', hr'⟩ := id fl
        unfold PySem.passOn
        refine wpAny_bind (wpAny_field he' hd' h1' ?_)
        rw [if_neg (show ¬ ((Value.ref T == Value.none) = true) from by simp)]
        have out : wpAny (model X.prog X.w) X.A (setFlight (.ref a) X.env.frame) (fun _ s4 => wpAny (model X.prog X.w) X.A (throw (.ref a) : Sem Flow) (SP X pins D) X.xe s4) X.xe { t with heap := g } := by
          rw [frm]
          refine HandSPX.setFlight_upZ fl fun g4 hh up4 => wpAny_throw (tk _ _ ?_)
          exact ⟨a, B, sI, pins, σ1, H1, cls, d, rfl, J, nb, (up.trans ug).trans up4, .inr (.inr (by rw [stk]; exact hh)), na, os, ag, wo⟩
        first
          | exact wpAny_bind (wpAny_pure (wpAny_bind out))
          | exact wpAny_bind out
      | @more x n i c ts b₀ suite np pos' hds2 l2 hc hi hln run r ih =>
        intro wo
        obtain ⟨b, hb, yes, no⟩ := wo
        refine wpAny_handleBy_cons (codeAny_handlers_test ?_) (by intro q; cases q)
        have ty : PySem.W.Looks (model X.prog X.w) g (typeOf (.ref a)) cls := fun _ _ _ _ k q => wpAny_typeOf_ref (k _ _ he) (by rw [hz.1]; exact q)
        have name : ∀ {Q : Value → Shared → Prop} {E : Value → Shared → Prop}, Q c { t with heap := g } → wpAny (model X.prog X.w) (X.A.mark (some (.ref a))) (eval (.Name x np) X.env) Q E { t with heap := g } := fun {Q E} q => by
          obtain ⟨hg, hdbg, hm | ⟨hm, hv, hnn⟩⟩ := hc
          · exact ld_glob (X := X.suite a ((a, oe) :: (X.pn ++ pins))) Sg hg hm q hdbg
          · exact ld_blt (X := X.suite a ((a, oe) :: (X.pn ++ pins))) Sg hg hm hv q hnn hdbg
        refine name ((PySem.W.exm_one (M := model X.prog X.w) Jg.kIn ty hb).here ?_)
        cases b with
        | false => exact ih (no rfl)
        | true =>
          refine codeAny_handlers_suite_as ?_
          refine HandSPX.lands_againZ fl fun g4 fl4 up4 => ?_
          have J4 : Inv X pins σ1 H1 { t with heap := g4 } := J.landed nb fl4.1 ((up.trans ug).trans up4) os ag
          obtain ⟨oe4, vs4, he4, hz4, hd4⟩ := fl4.there
          have S4 := J4.suite he4 hd4 na nL nF
          refine store_ok (X := X.suite a ((a, oe4) :: (X.pn ++ pins))) (v := .ref a) S4 nod hi (.inl hln) rfl (fun s5 S5 => ?_) (.inr hln)
          refine wpAny_mono ((run a oe4 cls d (X.pn ++ pins) hz4 ⟨_, hd4⟩).run [] s5 _ H1 _ S5 (yes rfl a na)) (fun f s6 st => ?_) (fun _ _ z => False.elim z)
          have away : ∀ {σ6 : L2.St} {H6 : Hp} {Q : Shared → Prop}, Inv (X.suite a ((a, oe4) :: (X.pn ++ pins))) [] σ6 H6 s6 → (∀ s7, Inv X pins (σ6.set i none) H6 s7 → Q s7) →
              wpAny (model X.prog X.w) X.A (do bindName X.env n .none; unbindBehindTheSuite X.env n pos') (fun _ s7 => Q s7) X.xe s6 := fun S6 hq => gone_ok (S6.unsuite good) nod hi hln hq
          cases f with
          | ret u =>
            obtain ⟨v6, σ6, H6, S6, r6, q6⟩ := st
            exact away S6 fun s7 J7 => ⟨_, _, _, J7, r6, q6⟩
          | next =>
            obtain ⟨σ6, H6, S6, q6⟩ := st
            exact away S6 fun s7 J7 => ⟨_, _, J7, q6⟩
          | brk =>
            obtain ⟨σ6, H6, S6, q6⟩ := st
            exact away S6 fun s7 J7 => ⟨_, _, J7, q6⟩
          | cont =>
            obtain ⟨σ6, H6, S6, q6⟩ := st
            exact away S6 fun s7 J7 => ⟨_, _, J7, q6⟩
    exact each cl wd
  case ended =>
    cases fl with
    | ret u =>
      obtain ⟨v, σ1, H1, J1, r, q⟩ := st
      exact ⟨v, σ1, H1, J1.ofTry good, r, q⟩
    | next =>
      obtain ⟨σ1, H1, J1, q⟩ := st
      exact wpAny_execs_nil ⟨σ1, H1, J1.ofTry good, q⟩
    | brk =>
      obtain ⟨σ1, H1, J1, q⟩ := st
      exact ⟨σ1, H1, J1.ofTry good, q⟩
    | cont =>
      obtain ⟨σ1, H1, J1, q⟩ := st
      exact ⟨σ1, H1, J1.ofTry good, q⟩
end
end Tb
namespace Tb
open PySem PySem.Spec PyProof.Rows L2
open PySem.W (TotalLe dataLe)
/-! ### addresses by length, then as texts -/
def encA (a : Str) : PyData := .tuple [.int (a.length : Int), .str a]
def leA (a b : Str) : Bool := dataLe false encA a b
theorem ltA (a b : Str) : PySem.W.dataLt (encA a) (encA b) = if a.length = b.length then sLt a b else decide (a.length < b.length) := by
  have q : ∀ x y : Str, PyData.eqv (.str x) (.str y) = decide (x = y) := fun x y => by rw [PyData.eqv]; exact Bool.beq_eq_decide_eq x y
  have qi : ∀ x y : Int, PyData.eqv (.int x) (.int y) = decide (x = y) := fun x y => by rw [PyData.eqv]; exact Bool.beq_eq_decide_eq x y
  unfold encA
  rw [PySem.W.dataLt_pair (by simp [PySem.W.alike]) (by simp [PySem.W.alike]), q, qi, PySem.W.dataLt_str, PySem.W.dataLt_int]
  by_cases c : a.length = b.length
  · rw [if_pos (decide_eq_true (by rw [c])), if_pos c]
    by_cases c2 : a = b
    · rw [if_pos (decide_eq_true c2), c2]
      exact (decide_eq_false (List.lt_irrefl _)).symm
    · rw [if_neg (by simpa using c2)]
      rfl
  · rw [if_neg (by rw [decide_eq_true_eq]; omega), if_neg c]
    exact decide_eq_decide.mpr Int.ofNat_lt
theorem leA_eq (a b : Str) : leA a b = !(if b.length = a.length then sLt b a else decide (b.length < a.length)) := by
  unfold leA
  rw [PySem.W.dataLe_eq]
  show (!PySem.W.dataLt (encA b) (encA a)) = _
  rw [ltA]
theorem leA_anti {a b : Str} (h1 : leA a b = true) (h2 : leA b a = true) : a = b := by
  rw [leA_eq, Bool.not_eq_true'] at h1 h2
  by_cases c : a.length = b.length
  · rw [if_pos c.symm] at h1
    rw [if_pos c] at h2
    exact sLt_tri h2 h1
  · rw [if_neg (Ne.symm c)] at h1
    rw [if_neg c] at h2
    have := of_decide_eq_false h1
    have := of_decide_eq_false h2
    omega
theorem leA_refl (a : Str) : leA a a = true := by
  rw [leA_eq, if_pos rfl]
  unfold sLt
  rw [decide_eq_false (List.lt_irrefl _)]
  rfl
theorem leA_len {a b : Str} (h : a.length < b.length) : leA a b = true := by
  rw [leA_eq, if_neg (by omega), decide_eq_false (by omega)]
  rfl
/-! ### lanes by the first n digits -/
def laneN (kvs : Kvs) (a : Str) (n : Nat) : V := match lp kvs a n with
  | none => .non
  | some p => (valV kvs (Sum.inr p)).getD .non
theorem laneV_N (kvs : Kvs) (a : Str) : laneV kvs a = laneN kvs a a.length := rfl
theorem laneN_yes {kvs : Kvs} {a : Str} {n : Nat} {v : V} (h : valV kvs (Sum.inr (pre a (n + 1))) = some v) : laneN kvs a (n + 1) = v := by
  unfold laneN lp
  rw [h]
  show (valV kvs (Sum.inr (pre a (n + 1)))).getD V.non = v
  rw [h]
  rfl
theorem laneN_no {kvs : Kvs} {a : Str} {n : Nat} (h : valV kvs (Sum.inr (pre a (n + 1))) = none) : laneN kvs a (n + 1) = laneN kvs a n := by
  unfold laneN
  conv => lhs; unfold lp
  rw [h]
  rfl
theorem pre_tl (a : Str) (n : Nat) : tl (pre a n) = (tl a).take n := tl_hi a n
theorem pre_len {a : Str} {n : Nat} (h : n ≤ a.length) : (pre a n).length = n := by
  rw [len_tl, pre_tl, List.length_take, ← len_tl]
  omega
theorem pre_pre {a : Str} {n k : Nat} (h : k ≤ n) : pre (pre a n) k = pre a k := tl_inj (by rw [pre_tl, pre_tl, pre_tl, List.take_take, Nat.min_eq_left h])
theorem pre_all (a : Str) : pre a a.length = a := tl_inj (by rw [pre_tl, len_tl, List.take_length])
theorem lp_pre {kvs : Kvs} {a : Str} {m : Nat} : ∀ n, n ≤ m → lp kvs (pre a m) n = lp kvs a n
  | 0, _ => rfl
  | n + 1, h => by
    unfold lp
    rw [pre_pre h, lp_pre n (by omega)]
theorem laneN_pre {kvs : Kvs} {a : Str} {m n : Nat} (h : n ≤ m) : laneN kvs (pre a m) n = laneN kvs a n := by
  unfold laneN
  rw [lp_pre n h]
theorem laneV_pre {kvs : Kvs} {a : Str} {n : Nat} (h : n ≤ a.length) : laneV kvs (pre a n) = laneN kvs a n := by
  rw [laneV_N, pre_len h, laneN_pre (Nat.le_refl _)]
/-- without the last sign -/
abbrev bl (a : Str) : Str := cutS a none (some (-1))
theorem bl_tl (z : Str) (h : 1 ≤ z.length) : tl (bl z) = (tl z).take ((tl z).length - 1) := by
  show ((z.cps.toList.drop (HT.sIx z.length 0 none)).take (HT.sIx z.length z.length (some (-1)) - HT.sIx z.length 0 none)).toArray.toList = _
  have e : HT.sIx z.length z.length (some (-1)) = z.length - 1 := by
    unfold HT.sIx
    first
      | omega
      | (simp; omega)
      | (split <;> omega)
  rw [List.toList_toArray, e, HT.sIx_none, List.drop_zero, Nat.sub_zero, len_tl]
theorem bl_pre {a : Str} (h : 1 ≤ a.length) : bl a = pre a (a.length - 1) := tl_inj (by rw [bl_tl a h, pre_tl, len_tl])
theorem bl_step {a : Str} {n : Nat} (h : n + 1 ≤ a.length) : bl (pre a (n + 1)) = pre a n := by
  rw [bl_pre (by rw [pre_len h]; omega), pre_len h, pre_pre (by omega)]
  rfl
/-- the lane of the address less its last digit -/
theorem laneV_bl {kvs : Kvs} {a : Str} {n : Nat} (h : n + 1 ≤ a.length) : laneV kvs (bl (pre a (n + 1))) = laneN kvs a n := by
  rw [bl_step h, laneV_pre (by omega)]
theorem val_none {ps : List Pr} {k : Str} (h : k ∉ ps.map Prod.fst) : valV (kvP ps) (Sum.inr k) = none := by
  cases e : valV (kvP ps) (Sum.inr k) with
  | none => rfl
  | some v => exact absurd ((valV_kvP k ps).mp (by rw [e]; rfl)) h
theorem laneV_key {ps : List Pr} (g : Good ps) {p : Pr} (h : p ∈ ps) : laneV (kvP ps) p.1 = .str p.2 := by
  have hl := (g.1 p h).1
  have h1 : 1 ≤ p.1.length := by
    have := ((isAddr_iff _).mp hl).1
    rw [len_tl]
    exact this
  obtain ⟨n, hn⟩ : ∃ n, p.1.length = n + 1 := ⟨p.1.length - 1, by omega⟩
  rw [laneV_N, hn]
  refine laneN_yes ?_
  rw [← hn, pre_all]
  exact valV_mem g.2 h
theorem key_len {ps : List Pr} (g : Good ps) {x : Str} (h : x ∈ ps.map Prod.fst) : 1 ≤ x.length := by
  obtain ⟨p, hp, rfl⟩ := List.mem_map.mp h
  have := ((isAddr_iff _).mp (g.1 p hp).1).1
  rw [len_tl]
  exact this
theorem laneV_nokey {ps : List Pr} {x : Str} (h1 : 1 ≤ x.length) (h : x ∉ ps.map Prod.fst) : laneV (kvP ps) x = laneV (kvP ps) (bl x) := by
  obtain ⟨n, hn⟩ : ∃ n, x.length = n + 1 := ⟨x.length - 1, by omega⟩
  rw [laneV_N, hn, laneN_no (by rw [← hn, pre_all]; exact val_none h), bl_pre h1, laneV_pre (by omega), hn]
  rfl
/-! ### the least table -/
def isRow (own : List Pr) (p : Pr) : Bool := !decide (V.str p.2 = laneV (kvP own) (bl p.1))
def leastR (own : List Pr) : List Pr := (own.mergeSort le2).filter (isRow own)
theorem mem_least {own : List Pr} {p : Pr} : p ∈ leastR own ↔ p ∈ own ∧ V.str p.2 ≠ laneV (kvP own) (bl p.1) := by
  unfold leastR isRow
  rw [List.mem_filter, mem_sort, Bool.not_eq_true', decide_eq_false_iff_not]
theorem least_pw (own : List Pr) : (leastR own).Pairwise fun a b => le2 a b = true := List.Pairwise.filter _ (PySem.W.sort_pairwise le2_total own)
theorem nodup_of_keys {ps : List Pr} (h : (ps.map Prod.fst).Nodup) : ps.Nodup := List.Pairwise.of_map Prod.fst (fun _ _ hne e => hne (congrArg Prod.fst e)) h
theorem good_filter {ps : List Pr} (g : Good ps) (f : Pr → Bool) : Good (ps.filter f) := ⟨fun p hp => g.1 p (List.mem_filter.mp hp).1, (List.Sublist.map Prod.fst List.filter_sublist).nodup g.2⟩
theorem least_good {own : List Pr} (g : Good own) : Good (leastR own) := good_filter (good_sort.mpr g) _
theorem least_len (own : List Pr) : (leastR own).length ≤ own.length := by
  have := List.length_filter_le (isRow own) (own.mergeSort le2)
  rw [len_sort] at this
  exact this
theorem least_sort (own : List Pr) : (leastR own).mergeSort le2 = leastR own :=
  List.Perm.eq_of_pairwise (le := fun a b => le2 a b = true) (fun a b _ _ h1 h2 => le2_anti h1 h2) (PySem.W.sort_pairwise le2_total _) (least_pw own) (List.mergeSort_perm _ le2)
theorem least_N {own : List Pr} (g : Good own) (a : Str) : ∀ n, n ≤ a.length → laneN (kvP (leastR own)) a n = laneN (kvP own) a n
  | 0, _ => rfl
  | n + 1, h => by
    have ih := least_N g a n (by omega)
    by_cases c : pre a (n + 1) ∈ own.map Prod.fst
    · obtain ⟨p, hp, e⟩ := List.mem_map.mp c
      have e1 : laneN (kvP own) a (n + 1) = .str p.2 := laneN_yes (by rw [← e]; exact valV_mem g.2 hp)
      by_cases d : V.str p.2 = laneN (kvP own) a n
      · rw [laneN_no (val_none fun m => ?_), ih, e1, d]
        obtain ⟨q, hq, e2⟩ := List.mem_map.mp m
        obtain ⟨hq1, hq2⟩ := mem_least.mp hq
        have v1 := valV_mem g.2 hp
        have v2 := valV_mem g.2 hq1
        rw [e] at v1
        rw [e2, v1] at v2
        have e3 : V.str p.2 = V.str q.2 := Option.some.inj v2
        refine hq2 ?_
        rw [← e3, e2, laneV_bl h]
        exact d
      · have m : p ∈ leastR own := mem_least.mpr ⟨hp, by rw [e, laneV_bl h]; exact d⟩
        rw [e1]
        exact laneN_yes (by rw [← e]; exact valV_mem (least_good g).2 m)
    · rw [laneN_no (val_none c), laneN_no (val_none fun m => c ?_), ih]
      obtain ⟨q, hq, e2⟩ := List.mem_map.mp m
      exact List.mem_map.mpr ⟨q, (mem_least.mp hq).1, e2⟩
theorem least_lane {own : List Pr} (g : Good own) (a : Str) : laneV (kvP (leastR own)) a = laneV (kvP own) a := least_N g a _ (Nat.le_refl _)
theorem least_least {own : List Pr} (g : Good own) : leastR (leastR own) = leastR own := by
  unfold leastR
  rw [show ((own.mergeSort le2).filter (isRow own)) = leastR own from rfl, least_sort, List.filter_eq_self]
  intro p hp
  have h := (mem_least.mp hp).2
  unfold isRow
  rw [least_lane g, decide_eq_false h]
  rfl
/-! ### parting -/
def keys2 (one two : List Pr) : List Str := one.map Prod.fst ++ two.map Prod.fst
def unl (one two : List Pr) (x : Str) : Prop := laneV (kvP one) x ≠ laneV (kvP two) x
structure IsPart (one two : List Pr) (r : Option Str) : Prop where
  no : r = none → ∀ x ∈ keys2 one two, ¬ unl one two x
  yes : ∀ z, r = some z → z ∈ keys2 one two ∧ unl one two z ∧ ∀ y ∈ keys2 one two, unl one two y → leA z y = true
theorem IsPart.uniq {one two : List Pr} {r r' : Option Str} (h : IsPart one two r) (h' : IsPart one two r') : r = r' := by
  cases r with
  | none =>
    cases r' with
    | none => rfl
    | some z => exact absurd (h'.yes z rfl).2.1 (h.no rfl z (h'.yes z rfl).1)
  | some z =>
    obtain ⟨a1, a2, a3⟩ := h.yes z rfl
    cases r' with
    | none => exact absurd a2 (h'.no rfl z a1)
    | some z' =>
      obtain ⟨b1, b2, b3⟩ := h'.yes z' rfl
      rw [leA_anti (a3 z' b1 b2) (b3 z a1 a2)]
theorem keys2_symm {one two : List Pr} {x : Str} : x ∈ keys2 one two ↔ x ∈ keys2 two one := by
  unfold keys2
  rw [List.mem_append, List.mem_append]
  exact Or.comm
theorem IsPart.symm {one two : List Pr} {r : Option Str} (h : IsPart one two r) : IsPart two one r :=
  ⟨fun e x hx u => h.no e x (keys2_symm.mpr hx) (Ne.symm u), fun z e => let ⟨a, b, c⟩ := h.yes z e; ⟨keys2_symm.mp a, Ne.symm b, fun y hy u => c y (keys2_symm.mpr hy) (Ne.symm u)⟩⟩
theorem IsPart.congr {one one' two two' : List Pr} {r : Option Str} (p1 : one.Perm one') (p2 : two.Perm two') (n1 : (one.map Prod.fst).Nodup) (n2 : (two.map Prod.fst).Nodup) (h : IsPart one two r) : IsPart one' two' r := by
  have k : ∀ x, x ∈ keys2 one' two' ↔ x ∈ keys2 one two := fun x => by
    unfold keys2
    rw [List.mem_append, List.mem_append, (p1.map Prod.fst).mem_iff, (p2.map Prod.fst).mem_iff]
  have l1 : ∀ x, laneV (kvP one) x = laneV (kvP one') x := fun x => laneV_congr (fun k => valV_perm p1 n1 k) x
  have l2 : ∀ x, laneV (kvP two) x = laneV (kvP two') x := fun x => laneV_congr (fun k => valV_perm p2 n2 k) x
  have u : ∀ x, unl one' two' x ↔ unl one two x := fun x => by
    unfold unl
    rw [l1, l2]
  exact ⟨fun e x hx z => h.no e x ((k x).mp hx) ((u x).mp z), fun z e => let ⟨a, b, c⟩ := h.yes z e; ⟨(k z).mpr a, (u z).mpr b, fun y hy w => c y ((k y).mp hy) ((u y).mp w)⟩⟩
/-- found in a walk in that order -/
theorem part_at {one two : List Pr} {zs : List Str} (pw : zs.Pairwise fun a b => leA a b = true) (mem : ∀ x, x ∈ zs ↔ x ∈ keys2 one two) {i : Nat} {z : Str} (hz : zs[i]? = some z) (before : ∀ j x, j < i → zs[j]? = some x → ¬ unl one two x) (u : unl one two z) : IsPart one two (some z) := by
  refine ⟨fun e => (by cases e), fun z' e => ?_⟩
  cases e
  refine ⟨(mem z).mp (List.mem_of_getElem? hz), u, fun y hy w => ?_⟩
  obtain ⟨j, hj⟩ := List.mem_iff_getElem?.mp ((mem y).mpr hy)
  obtain ⟨li, ei⟩ := List.getElem?_eq_some_iff.mp hz
  obtain ⟨lj, ej⟩ := List.getElem?_eq_some_iff.mp hj
  rcases Nat.lt_trichotomy i j with c | c | c
  · have q := List.pairwise_iff_getElem.mp pw i j li lj c
    rw [ei, ej] at q
    exact q
  · subst c
    rw [ei] at ej
    rw [ej]
    exact leA_refl y
  · exact absurd w (before j y c hj)
theorem part_end {one two : List Pr} {zs : List Str} (mem : ∀ x, x ∈ zs ↔ x ∈ keys2 one two) (before : ∀ j x, j < zs.length → zs[j]? = some x → ¬ unl one two x) : IsPart one two none :=
  ⟨fun _ x hx => by
    obtain ⟨j, hj⟩ := List.mem_iff_getElem?.mp ((mem x).mpr hx)
    exact before j x (List.getElem?_eq_some_iff.mp hj).1 hj, fun z e => by cases e⟩
/-- alike at all keys: alike everywhere -/
theorem alike_N {one two : List Pr} (h : ∀ x ∈ keys2 one two, ¬ unl one two x) (a : Str) : ∀ n, n ≤ a.length → laneN (kvP one) a n = laneN (kvP two) a n
  | 0, _ => rfl
  | n + 1, hn => by
    by_cases c : pre a (n + 1) ∈ keys2 one two
    · rw [← laneV_pre hn, ← laneV_pre hn]
      exact Classical.not_not.mp (h _ c)
    · have c1 : pre a (n + 1) ∉ one.map Prod.fst := fun z => c (List.mem_append_left _ z)
      have c2 : pre a (n + 1) ∉ two.map Prod.fst := fun z => c (List.mem_append_right _ z)
      rw [laneN_no (val_none c1), laneN_no (val_none c2)]
      exact alike_N h a n (by omega)
theorem alike_all {one two : List Pr} (h : ∀ x ∈ keys2 one two, ¬ unl one two x) (a : Str) : laneV (kvP one) a = laneV (kvP two) a := alike_N h a _ (Nat.le_refl _)
theorem least_sub {one two : List Pr} (g : Good one) (g2 : Good two) (h : ∀ a, laneV (kvP one) a = laneV (kvP two) a) {p : Pr} (hp : p ∈ leastR one) : p ∈ leastR two := by
  obtain ⟨m, u⟩ := mem_least.mp hp
  have k := laneV_key g m
  rw [h] at k
  have l1 := key_len g (List.mem_map.mpr ⟨p, m, rfl⟩)
  by_cases c : p.1 ∈ two.map Prod.fst
  · obtain ⟨q, hq, e⟩ := List.mem_map.mp c
    have k2 := laneV_key g2 hq
    rw [e, k] at k2
    have e2 : p.2 = q.2 := V.str.inj k2
    have : p = q := Prod.ext e.symm e2
    rw [this] at u ⊢
    exact mem_least.mpr ⟨hq, by rw [← h]; exact u⟩
  · rw [laneV_nokey l1 c, ← h] at k
    exact absurd k.symm u
theorem least_same {one two : List Pr} (g : Good one) (g2 : Good two) (h : ∀ a, laneV (kvP one) a = laneV (kvP two) a) : leastR one = leastR two := by
  refine List.Perm.eq_of_pairwise (le := fun a b => le2 a b = true) (fun a b _ _ h1 h2 => le2_anti h1 h2) (least_pw one) (least_pw two) ?_
  exact (List.perm_ext_iff_of_nodup (nodup_of_keys (least_good g).2) (nodup_of_keys (least_good g2).2)).mpr fun p => ⟨least_sub g g2 h, least_sub g2 g fun a => (h a).symm⟩
/-- the least tables are the same exactly if nothing parts -/
theorem least_iff {one two : List Pr} (g : Good one) (g2 : Good two) {r : Option Str} (P : IsPart one two r) : leastR one = leastR two ↔ r = none := by
  constructor
  · intro e
    cases r with
    | none => rfl
    | some z =>
      refine absurd ?_ (P.yes z rfl).2.1
      rw [← least_lane g, e, least_lane g2]
  · intro e
    exact least_same g g2 (alike_all (P.no e))
theorem part_least {own : List Pr} (g : Good own) : IsPart (leastR own) own none := ⟨fun _ x _ u => u (least_lane g x), fun z e => by cases e⟩
/-! ### without one row -/
theorem drop_mem {ps : List Pr} {k x : Str} : x ∈ (dropP ps k).map Prod.fst ↔ x ∈ ps.map Prod.fst ∧ x ≠ k := by
  unfold dropP
  simp only [List.mem_map, List.mem_filter, decide_eq_true_eq]
  constructor
  · rintro ⟨q, ⟨h1, h2⟩, rfl⟩
    exact ⟨⟨q, h1, rfl⟩, h2⟩
  · rintro ⟨⟨q, h1, rfl⟩, h2⟩
    exact ⟨q, ⟨h1, h2⟩, rfl⟩
theorem drop_val {ps : List Pr} (g : Good ps) {k x : Str} (n : x ≠ k) : valV (kvP (dropP ps k)) (Sum.inr x) = valV (kvP ps) (Sum.inr x) := by
  by_cases c : x ∈ ps.map Prod.fst
  · obtain ⟨q, hq, rfl⟩ := List.mem_map.mp c
    rw [valV_mem g.2 hq, valV_mem (drop_good g).2 (List.mem_filter.mpr ⟨hq, decide_eq_true n⟩)]
  · rw [val_none c, val_none fun z => c (drop_mem.mp z).1]
theorem drop_N {ps : List Pr} (g : Good ps) {k y : Str} : ∀ n, (∀ m, m ≤ n → pre y m ≠ k) → laneN (kvP (dropP ps k)) y n = laneN (kvP ps) y n
  | 0, _ => rfl
  | n + 1, h => by
    have ih := drop_N g (k := k) (y := y) n fun m hm => h m (by omega)
    have e := drop_val g (h (n + 1) (Nat.le_refl _))
    cases c : valV (kvP ps) (Sum.inr (pre y (n + 1))) with
    | none => rw [laneN_no c, laneN_no (e.trans c), ih]
    | some v => rw [laneN_yes c, laneN_yes (e.trans c)]
theorem part_drop {own : List Pr} (g : Good own) {p : Pr} (hp : p ∈ leastR own) : IsPart (dropP (leastR own) p.1) own (some p.1) := by
  obtain ⟨m, u⟩ := mem_least.mp hp
  have l1 := key_len g (List.mem_map.mpr ⟨p, m, rfl⟩)
  obtain ⟨n, hn⟩ : ∃ n, p.1.length = n + 1 := ⟨p.1.length - 1, by omega⟩
  have gl := least_good g
  refine ⟨fun e => (by cases e), fun z e => ?_⟩
  cases e
  refine ⟨List.mem_append_right _ (List.mem_map.mpr ⟨p, m, rfl⟩), ?_, fun y _ w => ?_⟩
  · show laneV _ p.1 ≠ laneV _ p.1
    rw [laneV_key g m, laneV_N, hn, laneN_no (by rw [← hn, pre_all]; exact val_none fun z => (drop_mem.mp z).2 rfl), drop_N gl n fun k hk e => ?_, least_N g _ _ (by omega)]
    · refine Ne.symm ?_
      rw [bl_pre l1, laneV_pre (by omega), hn] at u
      exact u
    · have h2 := pre_len (a := p.1) (n := k) (by omega)
      rw [e] at h2
      omega
  · by_cases c : p.1.length < y.length
    · exact leA_len c
    · by_cases d : y = p.1
      · rw [d]
        exact leA_refl _
      · refine absurd ?_ w
        rw [laneV_N, laneV_N, drop_N gl _ fun k hk e => ?_, least_N g _ _ (Nat.le_refl _)]
        have h2 := pre_len hk
        rw [e] at h2
        have : k = y.length := by omega
        rw [this, pre_all] at e
        exact d e
end Tb
namespace Tb
open PySem PySem.Spec PyProof.Rows L2
open PySem.W (EachIs AllAlike Sortable dataLe)
/-- a def of the text and what it promises -/
structure C1 (P : Program) (w : World) (K : PySem.W.Frag) (mg : Str → Option Value) (base : Heap) (x : Str) (st : Stmt) (ps : List Str) (l : Nat) (sp : Sp) (g : Addr) (gd : FuncData) : Prop where
  D : Dd K mg x st ps g gd
  G : FnOk P w K mg base CX0 l g gd ps sp
abbrev sByLen : Stmt := topS 16
abbrev NByLen : List Str := ["addresses", "pairs", "address", "pair"]
theorem scByLen : FnScope NByLen ["addresses"] (defScope sByLen) := ⟨rfl, rfl, rfl, by decide +kernel, rfl, by decide +kernel, by decide +kernel⟩
/-- a pair (length, text) at its place -/
abbrev pT (H : Hp) (u : Addr × Str) : Prop := H u.1 = some (.tup [.int (u.2.length : Int), .str u.2])
def kT (u : Addr × Str) : Addr × List Key := (u.1, [Sum.inl (u.2.length : Int), Sum.inr u.2])
theorem sub_map {α β : Type} {f : α → β} {us : List α} : ∀ {L : List β}, (∀ p ∈ L, ∃ u ∈ us, p = f u) → ∃ M : List α, L = M.map f ∧ ∀ u ∈ M, u ∈ us
  | [], _ => ⟨[], rfl, fun u h => by cases h⟩
  | p :: L, h => by
    obtain ⟨u, hu, e⟩ := h p List.mem_cons_self
    obtain ⟨M, eM, hM⟩ := sub_map fun q hq => h q (List.mem_cons_of_mem _ hq)
    refine ⟨u :: M, by rw [List.map_cons, ← e, ← eM], fun v hv => ?_⟩
    rcases List.mem_cons.mp hv with rfl | hv
    · exact hu
    · exact hM v hv
theorem each_map_eq {α β : Type} {g : α → β} : ∀ {bs : List β} {M : List α}, EachIs (fun b u => b = g u) bs M → bs = M.map g
  | _, _, .nil => rfl
  | _, _, .cons h t => by rw [h, each_map_eq t]; rfl
theorem each_map_of {α β : Type} (g : α → β) : ∀ M : List α, EachIs (fun b u => b = g u) (M.map g) M
  | [] => .nil
  | _ :: M => .cons rfl (each_map_of g M)
theorem perm_map {α β : Type} {g : α → β} {cs : List β} {M : List α} (p : cs.Perm (M.map g)) : ∃ N : List α, N.Perm M ∧ cs = N.map g := by
  obtain ⟨N, h1, h2⟩ := SH.each_perm p.symm (each_map_of g M)
  exact ⟨N, h1, each_map_eq h2⟩
theorem alike_A (L : List Str) : AllAlike (L.map encA) := fun d hd d' hd' => by
  obtain ⟨x, _, rfl⟩ := List.mem_map.mp hd
  obtain ⟨y, _, rfl⟩ := List.mem_map.mp hd'
  simp [encA, PySem.W.alike, PySem.W.alikeAll]
theorem sortable_A (L : List Str) : Sortable (L.map encA) := .inl fun d hd => by
  obtain ⟨x, _, rfl⟩ := List.mem_map.mp hd
  exact ⟨_, _, rfl⟩
theorem depth_A (x : Str) : (encA x).depth ≤ 10 := by simp [encA, PyData.depth, PyData.depthAll]
theorem dp_A {K : PySem.W.Frag} {H : Hp} {u : Addr × Str} (h : pT H u) : Dp K H (.ref u.1) (encA u.2) := .tup (.of h) (.cons (.int _) (.cons (.str _) .nil))
/-- a text list by length -/
def spByLen (K : PySem.W.Frag) : Sp := fun vs H Q _ => ∃ (l : Addr) (ks : List Str), vs = [.ref l] ∧ SqL K H l (ks.map V.str) ∧ ks.length ≤ 300 ∧ (∀ x ∈ ks, x.length ≤ 1000) ∧
  ∀ (F : Addr) (zs : List Str) (H' : Hp), Same H H' → H F = none → H' F = some (.lst (zs.map V.str)) → zs.Pairwise (fun a b => leA a b = true) → (∀ x, x ∈ zs ↔ x ∈ ks) → zs.length ≤ 300 → Q (.ref F) H'
section
variable {P : Program} {w : World} {K : PySem.W.Frag} {mg : Str → Option Value} {base : Heap}
/-- a dict and an address in; what g says out, the heap as it was -/
def spDR (g : Kvs → Str → V) : Sp := fun vs H Q _ => ∃ (d : Addr) (kvs : Kvs) (a : Str), vs = [.ref d, .str a] ∧ Rd H d (.dK kvs) ∧ a.length ≤ 1000 ∧ Q (g kvs a) H
theorem ok_longR {f : Addr} {fd : FuncData} {k : Nat} (F : Fun K "longest_prefix" "longest_prefix" sLong f fd) (B : Blt mg) : FnOk P w K mg base CX0 (k + 1) f fd ["prefixes", "address"] (spDR fun kvs a => oStr (long kvs a)) := by
  refine F.ok scLong (fun vs H Q E h => ?_) (fun cdv A outer s H vs Q E hr h => ?_)
  · obtain ⟨d, kvs, a, rfl, _⟩ := h
    rfl
  · obtain ⟨d, kvs, a, rfl, hd, hl, q⟩ := h
    have hu := hu_of hr
    refine ⟨_, pss_cons (ps_for PassesOwn.never rfl (pi_range3 (by rfl) B.range (pa_cons (pe_callB call_len_str (by rfl) B.len PySem.boot_len (pa_cons (pv 1) pa_nil)) (pa_cons pe_int (pa_cons (pe_un un_neg pe_int) pa_nil)))) (pg_name (i := 2) scLong.nd rfl (.inl rfl))
        (pss_one (ps_if (pt_cmp (pc_din hu (pe_slice sl_str (pv 1) po_none (po_some (pv 2))) (pv 0))) (pss_one (ps_ret (pe_slice sl_str (pv 1) po_none (po_some (pv 2))))) pss_nil)))
      (pss_one (ps_ret pe_non)), ?_⟩
    have hz : sizeLine = 16777216 := rfl
    refine ⟨.str a, rfl, a, rfl, by omega, 1, rfl, (a.length : Int), 0, -1, ((a.length : Int) - 0).toNat, rfl, RgC.neg (by omega) (by omega) (by omega) (by omega), ?_⟩
    refine for_rangeC (lo := (a.length : Int)) (c := -1) (n := ((a.length : Int) - 0).toNat) (fun i σ H' => ∃ y, σ = [some (.ref d), some (.str a), y] ∧ H' = H ∧ long kvs a = lp kvs a (a.length - i)) ⟨none, rfl, rfl, rfl⟩ ?_ ?_
    · rintro i σ H' hi ⟨y, rfl, rfl, e⟩
      have hi' : i < a.length := by omega
      have ei : (a.length : Int) + (i : Int) * -1 = ((a.length - i : Nat) : Int) := by omega
      rw [ei]
      refine ⟨.str a, rfl, .int ((a.length - i : Nat) : Int), rfl, ((a.length - i : Nat) : Int), rfl, a, rfl, by omega, .ref d, rfl, d, _, rfl, (.inl ⟨_, Sum.inr (pre a (a.length - i)), hd, rfl, rfl⟩ : DGet _ _ _ _), ?_⟩
      obtain ⟨m, em⟩ : ∃ m, a.length - i = m + 1 := ⟨a.length - i - 1, by omega⟩
      by_cases c : (valV kvs (Sum.inr (pre a (a.length - i)))).isSome = true
      · refine ⟨_, rfl, ?_⟩
        rw [c]
        refine ⟨.str a, rfl, .int ((a.length - i : Nat) : Int), rfl, ((a.length - i : Nat) : Int), rfl, a, rfl, by omega, ?_⟩
        have : long kvs a = some (pre a (a.length - i)) := by
          rw [e, em]
          unfold lp
          rw [← em, if_pos c]
        have q : Q (oStr (long kvs a)) H' := q
        rw [this] at q
        exact q
      · refine ⟨_, rfl, ?_⟩
        rw [Bool.eq_false_iff.mpr c]
        refine ⟨_, rfl, rfl, ?_⟩
        rw [e, em]
        show (if (valV kvs (Sum.inr (pre a (m + 1)))).isSome = true then some (pre a (m + 1)) else lp kvs a m) = _
        rw [← em, if_neg c, show a.length - (i + 1) = m by omega]
    · rintro σ H' ⟨y, rfl, rfl, e⟩
      rw [show a.length - ((a.length : Int) - 0).toNat = 0 by omega] at e
      have q : Q (oStr (long kvs a)) H' := q
      rw [e] at q
      exact q
theorem ok_laneR {f g : Addr} {fd gd : FuncData} (F : Fun K "_lane" "_lane" sLane f fd) (D : Dd K mg "longest_prefix" sLong ["prefixes", "address"] g gd) (B : Blt mg) : FnOk P w K mg base CX0 2 f fd ["lanes", "address"] (spDR laneV) := by
  have G : FnOk P w K mg base CX0 1 g gd ["prefixes", "address"] (spDR fun kvs a => oStr (long kvs a)) := ok_longR D.F B
  refine F.ok scLane (fun vs H Q E h => ?_) (fun cdv A outer s H vs Q E hr h => ?_)
  · obtain ⟨d, kvs, a, rfl, _⟩ := h
    rfl
  · obtain ⟨d, kvs, a, rfl, hd, hl, q⟩ := h
    have hu := hu_of hr
    refine ⟨_, pss_cons (ps_set (i := 2) scLane.nd rfl (.inl rfl) (pe_call G hr (by rfl) D.g D.F.kp D.b .nil pass0 (pa_cons (pv 0) (pa_cons (pv 1) pa_nil))))
      (pss_cons (ps_if (pt_cmpR op_isN (pv 2) pe_non (nomark _)) (pss_one (ps_ret pe_non)) pss_nil)
      (pss_one (ps_ret (pe_dget hu (pv 0) (pv 2) (fun _ _ => rfl))))), ?_⟩
    refine ⟨.ref d, rfl, .str a, rfl, d, kvs, a, rfl, hd, hl, ?_⟩
    have q : Q (laneV kvs a) H := q
    show gName 2 (oStr (long kvs a)) _ _ _
    unfold laneV at q
    cases e : long kvs a with
    | none =>
      rw [e] at q
      exact ⟨.non, rfl, rfl, true, rfl, q⟩
    | some p =>
      rw [e] at q
      obtain ⟨v, ev⟩ := lp_some e
      have q : Q ((valV kvs (Sum.inr p)).getD .non) H := q
      rw [ev] at q
      refine ⟨.str p, rfl, rfl, false, rfl, .ref d, rfl, .str p, rfl, d, v, rfl, ?_, q⟩
      rw [← ev]
      exact .inl ⟨_, Sum.inr p, hd, rfl, rfl⟩
theorem ok_bylen {f : Addr} {fd : FuncData} {k : Nat} (F : Fun K "by_length" "by_length" sByLen f fd) (B : Blt mg) (zset : mg "set" = none) : FnOk P w K mg base CX0 (k + 1) f fd ["addresses"] (spByLen K) := by
  refine F.ok scByLen (fun vs H Q E h => ?_) (fun cdv A outer s H vs Q E hr h => ?_)
  · obtain ⟨l, ks, rfl, _⟩ := h
    rfl
  · obtain ⟨l, ks, rfl, hl, hn, hx, q⟩ := h
    have hz : sizeLine = 16777216 := rfl
    refine ⟨_, (pss_cons (ps_set (i := 1) scByLen.nd rfl (.inl rfl) (pe_callB (r := SH.rSortSet K w) (SH.cr_sortSet rfl hr.units) (by rfl) B.sorted PyProof.Rows.boot_sorted (pa_cons (pe_callTy (r := SH.rSetT K P w) (SH.cr_setT rfl hr.units) (by rfl) zset boot_set (pa_cons (pe_lc (own := [("address", 2)]) (g := gName 2) (by rfl) scByLen.nd (pi_list (pv 0)) (blkOk_by (N := NByLen) (sc := defScope sByLen) (by decide +kernel)) (fun _ _ _ _ _ => pg_name (i := 2) scByLen.nd rfl (Or.inl rfl)) (fun _ _ _ _ _ => pts_nil) (fun _ _ _ _ _ => pe_tup (pa_cons (pe_callB call_len_str (by rfl) B.len PySem.boot_len (pa_cons (pv 2) pa_nil)) (pa_cons (pv 2) pa_nil)))) pa_nil)) pa_nil)))
      (pss_one (ps_ret (pe_lc (own := [("pair", 3)]) (g := gName 3) (by rfl) scByLen.nd (pi_list (pv 1)) (blkOk_by (N := NByLen) (sc := defScope sByLen) (by decide +kernel)) (fun _ _ _ _ _ => pg_name (i := 3) scByLen.nd rfl (Or.inl rfl)) (fun _ _ _ _ _ => pts_nil) (fun _ _ _ _ _ => pe_ix (r := rIxT K) ix_tup (pv 3) pe_int (fun _ _ => rfl)))))), ?_⟩
    refine ⟨.ref l, rfl, l, rfl, ⟨_, hl⟩, fun D nD => ?_⟩
    refine lc_it (walk_list (a := l) (xs := ks.map V.str)) (fun i H1 => Same H H1 ∧ ∃ us : List (Addr × Str), H1 D = some (.lst (us.map fun u => V.ref u.1)) ∧ us.map (·.2) = ks.take i ∧ ∀ u ∈ us, pT H1 u) ⟨same_upd nD, [], upd_same, rfl, fun u h => by cases h⟩ (fun i H1 _ hP => hP.1.seq hl) (fun i v H1 H2 hi hP hy => ?_) (fun H1 hP => ?_)
    · obtain ⟨S1, us, hD, eu, hu⟩ := hP
      obtain ⟨rfl, ev⟩ := hy
      rw [List.getElem?_map] at ev
      cases ek : ks[i]? with
      | none => rw [ek] at ev; cases ev
      | some x =>
      rw [ek] at ev
      cases (Option.some.inj ev)
      have xl := hx x (List.mem_of_getElem? ek)
      refine ⟨rfl, .str x, rfl, x, rfl, by omega, .str x, rfl, by show 2 ≤ sizeLine; omega, fun T nT => ?_⟩
      have lu : us.length ≤ 300 := by
        have := congrArg List.length eu
        rw [List.length_map, List.length_take] at this
        omega
      have DT : D ≠ T := ne_of_none hD nT
      refine ⟨_, by rw [upd_ne DT]; exact hD, by rw [List.length_map]; omega, fun b o hb => ?_, us ++ [(T, x)], ?_, ?_, fun u hu' => ?_⟩
      · rw [upd_ne (ne_of_none hb nD)]
        exact (S1.trans (same_upd nT)) _ _ hb
      · rw [upd_same, List.map_append]
        rfl
      · rw [List.map_append, eu, List.take_add_one, ek]
        rfl
      · rcases List.mem_append.mp hu' with hm | hm
        · show L2.upd _ D _ u.1 = _
          rw [upd_ne (ne_of (hu u hm) hD (fun z => by cases z)), upd_ne (ne_of_none (hu u hm) nT)]
          exact hu u hm
        · rw [List.mem_singleton.mp hm]
          show L2.upd _ D _ T = _
          rw [upd_ne (Ne.symm DT)]
          exact upd_same
    · obtain ⟨S1, us, hD, eu, hu⟩ := hP
      have ew : us.map (·.2) = ks := by
        rw [eu, List.length_map, List.take_length]
      clear eu
      have lu : us.length = ks.length := by rw [← ew, List.length_map]
      -- the set of the pairs
      refine ⟨D, us.map kT, rfl, sqOf (by rw [List.map_map]; exact hD), fun p hp => ?_, by rw [List.length_map]; omega, fun a L na g nd => ?_⟩
      · obtain ⟨u, hm, rfl⟩ := List.mem_map.mp hp
        exact .of (hu u hm)
      obtain ⟨M, rfl, hM⟩ := sub_map (f := kT) (us := us) fun p hp => by
        have := g.sub p hp
        rw [List.take_length] at this
        obtain ⟨u, hm, e⟩ := List.mem_map.mp this
        exact ⟨u, hm, e.symm⟩
      have all : ∀ x, x ∈ M.map (·.2) ↔ x ∈ ks := fun x => by
        rw [← ew]
        constructor
        · intro hm
          obtain ⟨u, h1, e⟩ := List.mem_map.mp hm
          exact List.mem_map.mpr ⟨u, hM u h1, e⟩
        · intro hm
          obtain ⟨u, h1, rfl⟩ := List.mem_map.mp hm
          have := g.all (kT u) (by rw [List.take_length]; exact List.mem_map.mpr ⟨u, h1, rfl⟩)
          rw [List.map_map] at this
          obtain ⟨v, h2, e⟩ := List.mem_map.mp this
          have e2 : ([Sum.inl (v.2.length : Int), Sum.inr v.2] : List Key) = [Sum.inl (u.2.length : Int), Sum.inr u.2] := e
          have e3 : v.2 = u.2 := by
            simp only [List.cons.injEq, Sum.inr.injEq] at e2
            exact e2.2.1
          exact List.mem_map.mpr ⟨v, h2, e3⟩
      have lM : M.length ≤ 300 := by
        have := g.len
        rw [List.length_map, List.length_map] at this
        omega
      have Sa : Same H (L2.upd H1 a (SH.SetT P w a (M.map kT))) := S1.trans (same_upd na)
      have hu2 : ∀ u ∈ us, pT (L2.upd H1 a (SH.SetT P w a (M.map kT))) u := fun u hm => (same_upd na) _ _ (hu u hm)
      -- sorted
      refine ⟨a, M.map fun u => (V.ref u.1, encA u.2), _, rfl, upd_same, fun h hU => ?_, fun b hb => ?_, ?_, ?_, fun b hb => ?_, fun cs p pc pw np => ?_⟩
      · have := SH.SetP.walked hU
        rw [List.map_map] at this
        rw [List.map_map]
        exact this
      · obtain ⟨u, hm, rfl⟩ := List.mem_map.mp hb
        exact dp_A (hu2 u (hM u hm))
      · rw [List.map_map, show (Prod.snd ∘ fun u : Addr × Str => (V.ref u.1, encA u.2)) = encA ∘ Prod.snd from rfl, ← List.map_map]
        exact alike_A _
      · rw [List.map_map, show (Prod.snd ∘ fun u : Addr × Str => (V.ref u.1, encA u.2)) = encA ∘ Prod.snd from rfl, ← List.map_map]
        exact sortable_A _
      · obtain ⟨u, hm, rfl⟩ := List.mem_map.mp hb
        exact depth_A _
      obtain ⟨N, pN, rfl⟩ := perm_map pc
      have lN : N.length ≤ 300 := by rw [pN.length_eq]; exact lM
      have pw2 : (N.map (·.2)).Pairwise (fun a b => leA a b = true) := List.pairwise_map.mpr (List.pairwise_map.mp pw)
      have mem2 : ∀ x, x ∈ N.map (·.2) ↔ x ∈ ks := fun x => ((pN.map (·.2)).mem_iff).trans (all x)
      rw [List.map_map]
      generalize L2.upd H1 a (SH.SetT P w a (M.map kT)) = H3 at Sa hu2 np
      have Sp : Same H (L2.upd H3 p (.lst (N.map (Prod.fst ∘ fun u : Addr × Str => (V.ref u.1, encA u.2))))) := Sa.trans (same_upd np)
      have hN : ∀ u ∈ N, pT (L2.upd H3 p (.lst (N.map (Prod.fst ∘ fun u : Addr × Str => (V.ref u.1, encA u.2))))) u := fun u hm => (same_upd np) _ _ (hu2 u (hM u (pN.mem_iff.mp hm)))
      have hp : (L2.upd H3 p (.lst (N.map (Prod.fst ∘ fun u : Addr × Str => (V.ref u.1, encA u.2))))) p = some (.lst (N.map fun u => V.ref u.1)) := upd_same
      generalize L2.upd H3 p (.lst (N.map (Prod.fst ∘ fun u : Addr × Str => (V.ref u.1, encA u.2)))) = H4 at Sp hN hp
      refine ⟨.ref p, rfl, p, rfl, ⟨_, sqOf hp⟩, fun F nF => ?_⟩
      refine lc_it (walk_list (a := p) (xs := N.map fun u => V.ref u.1)) (fun i H5 => Same H4 H5 ∧ H5 F = some (.lst (((N.map (·.2)).take i).map V.str))) ⟨same_upd nF, upd_same⟩ (fun i H5 _ hP => sqOf (hP.1 _ _ hp)) (fun i v H5 H6 hi hP hy => ?_) (fun H5 hP => ?_)
      · obtain ⟨S5, hF⟩ := hP
        obtain ⟨rfl, ev⟩ := hy
        rw [List.getElem?_map] at ev
        cases ek : N[i]? with
        | none => rw [ek] at ev; cases ev
        | some u =>
        rw [ek] at ev
        cases (Option.some.inj ev)
        have hm := List.mem_of_getElem? ek
        refine ⟨rfl, .ref u.1, rfl, u.1, _, 1, .str u.2, rfl, rfl, .of (S5 _ _ (hN u hm)), atI_nat (j := 1) rfl, _, hF, ?_, fun b o hb => ?_, ?_⟩
        · rw [List.length_map, List.length_take, List.length_map]
          omega
        · rw [upd_ne (ne_of_none hb nF)]
          exact S5 _ _ hb
        · rw [upd_same, List.take_add_one, List.getElem?_map, ek, List.map_append]
          rfl
      · obtain ⟨S5, hF⟩ := hP
        rw [List.length_map, ← List.length_map (f := fun u : Addr × Str => u.2), List.take_length] at hF
        exact q F _ H5 (Sp.trans S5) (Sp.free nF) hF pw2 mem2 (by rw [List.length_map]; exact lN)
end
end Tb
namespace Tb
open PySem PySem.Spec PyProof.Rows L2
section
variable {X : Cx}
/-- a dict and an empty one -/
def rNeD0 : R2 := fun x y H Q => ∃ (a b : Addr) (ks : Kvs), x = .ref a ∧ y = .ref b ∧ H a = some (.dK ks) ∧ H b = some (.dK []) ∧ Q (.bl (!ks.isEmpty)) H
theorem op_ne_dict0 (hu : X.A.units < cLine) : OpR X (compareOp .NotEq) rNeD0 := by
  intro pins s σ H x y v u Q I rx ry h
  obtain ⟨a, b, ks, rfl, rfl, ea, eb, q⟩ := h
  obtain rfl : v = Value.ref a := rx
  obtain rfl : u = Value.ref b := ry
  obtain ⟨_, ya, va, ra, da⟩ := (show ObjOk X.prog X.w H s.heap a (.dK ks) from I.hok a _ ea)
  obtain ⟨_, yb, vb, rb, db⟩ := (show ObjOk X.prog X.w H s.heap b (.dK []) from I.hok b _ eb)
  have la : ks.length = va.length := ra.length
  have lb : 0 = vb.length := rb.length
  cases ks with
  | nil =>
    have hl : va.length = vb.length := by rw [← la, ← lb]; rfl
    exact PySem.W.keq_ne (knd := mixKind X.prog X.w) (r := true) ya yb da db hu (fun _ => hits_all rb ra (fun p hp => by cases hp)) (fin_bl I q (by simp [hl]))
  | cons k ks =>
    have hl : ¬ va.length = vb.length := by rw [← la, ← lb]; simp
    exact PySem.W.keq_ne (knd := mixKind X.prog X.w) (r := true) ya yb da db hu (fun e => absurd e hl) (fin_bl I q (by simp [hl]))
end
theorem Bag.lst {H : Hp} {p : Addr} (B : Bag H p) : ∃ xs, H p = some (.lst xs) := by
  obtain ⟨n, c, m, ns, hp, _⟩ := B
  exact ⟨_, hp⟩
theorem paired_rows {K : PySem.W.Frag} {H : Hp} : ∀ {ts : List (Addr × Pr)}, (∀ t ∈ ts, H t.1 = some (.tup [.str t.2.1, .str t.2.2])) → Paired (fun (p : Addr) (kv : Key × V) => SqT K H p [kV kv.1, kv.2]) (ts.map Prod.fst) (kvP (ts.map (·.2)))
  | [], _ => .nil
  | t :: ts, h => .cons (.of (h t List.mem_cons_self)) (paired_rows fun x hx => h x (List.mem_cons_of_mem _ hx))
theorem merge_from (qs : List Pr) : ∀ ps : List Pr, ((ps ++ qs).map Prod.fst).Nodup → mergeK (kvP ps) (kvP qs) = kvP (ps ++ qs) := by
  induction qs with
  | nil => intro ps _; rw [List.append_nil]; rfl
  | cons r qs ih =>
    intro ps h
    show mergeK (putK (kvP ps) (Sum.inr r.1) (V.str r.2)) (kvP qs) = _
    have hn : valV (kvP ps) (Sum.inr r.1) = none := by
      cases e : valV (kvP ps) (Sum.inr r.1) with
      | none => rfl
      | some v =>
        exfalso
        have m := (valV_kvP r.1 ps).mp (by rw [e]; rfl)
        rw [List.map_append, List.nodup_append] at h
        exact h.2.2 _ m _ (by simp) rfl
    have e : putK (kvP ps) (Sum.inr r.1) (V.str r.2) = kvP (ps ++ [r]) := by
      rw [putK_new _ hn]
      unfold kvP
      rw [List.map_append]
      rfl
    rw [e, ih (ps ++ [r]) (by rw [List.append_assoc]; exact h), List.append_assoc]
    rfl
theorem merge_kvP {ps : List Pr} (h : (ps.map Prod.fst).Nodup) : mergeK [] (kvP ps) = kvP ps := merge_from ps [] h

/-- a dict of good rows at d -/
structure Dc (H : Hp) (d : Addr) (own : List Pr) : Prop where
  d : H d = some (.dK (kvP own))
  g : Good own
theorem Dc.same {H H' : Hp} {d : Addr} {own : List Pr} (D : Dc H d own) (h : Same H H') : Dc H' d own := ⟨h _ _ D.d, D.g⟩
theorem Dc.but {H H' : Hp} {d p : Addr} {own : List Pr} (D : Dc H d own) (B : Bag H p) (h : But p H H') : Dc H' d own := by
  obtain ⟨xs, hp⟩ := B.lst
  exact ⟨h _ _ D.d (ne_of D.d hp (fun z => by cases z)), D.g⟩
theorem lane_is {own : List Pr} (g : Good own) {a : Str} {w : Str} (h : laneV (kvP own) a = .str w) : isLane w = true := by
  rcases laneV_kvP own a with e | ⟨z, e, q, hq, rfl⟩
  · rw [e] at h
    cases h
  · rw [e] at h
    cases h
    exact (g.1 q hq).2
section
variable {P : Program} {w : World} {K : PySem.W.Frag} {mg : Str → Option Value} {base : Heap}
abbrev CPrefix (P : Program) (w : World) (K : PySem.W.Frag) (mg : Str → Option Value) (base : Heap) (g : Addr) (gd : FuncData) := C1 P w K mg base "_law_prefix" sPrefix ["bag", "known"] 2 spPrefix g gd
abbrev CDraw (P : Program) (w : World) (K : PySem.W.Frag) (mg : Str → Option Value) (base : Heap) (g : Addr) (gd : FuncData) := C1 P w K mg base "_law_draw" sDraw ["bag", "size"] 1 spDraw g gd
abbrev CAfter (P : Program) (w : World) (K : PySem.W.Frag) (mg : Str → Option Value) (base : Heap) (g : Addr) (gd : FuncData) := C1 P w K mg base "_law_after" sLAfter ["own", "prefix", "way"] 1 spAfter g gd
end
end Tb
namespace Tb
open PySem PySem.Spec PyProof.Rows L2
open PySem.W (TotalLe dataLe)
/-! ### plans -/
abbrev Pl := List (Str × List Pr)
def rowsOf (pl : Pl) (t : Str) : List Pr := match pl.find? fun e => decide (e.1 = t) with
  | some e => e.2
  | none => []
def laneAt (pl : Pl) (a t : Str) : V := laneV (kvP (rowsOf pl t)) a
structure GoodPl (pl : Pl) : Prop where
  e : ∀ x ∈ pl, isName x.1 = true ∧ Good x.2 ∧ x.1 ∉ x.2.map Prod.snd
  n : (pl.map Prod.fst).Nodup
def tot (pl : Pl) : Nat := (pl.map fun x => x.2.length).sum
def isStem (pl : Pl) (x : Str) : Prop := ∃ e ∈ pl, x ∈ e.2.map Prod.fst
theorem find_mem {pl : Pl} (n : (pl.map Prod.fst).Nodup) {e : Str × List Pr} (h : e ∈ pl) : pl.find? (fun x => decide (x.1 = e.1)) = some e := by
  induction pl with
  | nil => cases h
  | cons x pl ih =>
    rw [List.map_cons, List.nodup_cons] at n
    by_cases c : x.1 = e.1
    · rw [List.find?_cons_of_pos (by simpa using c)]
      rcases List.mem_cons.mp h with rfl | h
      · rfl
      · exact absurd (List.mem_map.mpr ⟨e, h, c.symm⟩) n.1
    · rw [List.find?_cons_of_neg (by simpa using c)]
      rcases List.mem_cons.mp h with rfl | h
      · exact absurd rfl c
      · exact ih n.2 h
theorem rows_mem {pl : Pl} (n : (pl.map Prod.fst).Nodup) {e : Str × List Pr} (h : e ∈ pl) : rowsOf pl e.1 = e.2 := by
  unfold rowsOf
  rw [find_mem n h]
theorem rows_not {pl : Pl} {t : Str} (h : t ∉ pl.map Prod.fst) : rowsOf pl t = [] := by
  unfold rowsOf
  rw [List.find?_eq_none.mpr fun x hx => by
    rw [decide_eq_true_eq]
    exact fun e => h (List.mem_map.mpr ⟨x, hx, e⟩)]
theorem rows_case (pl : Pl) (t : Str) : (∃ e ∈ pl, e.1 = t ∧ rowsOf pl t = e.2) ∨ (t ∉ pl.map Prod.fst ∧ rowsOf pl t = []) := by
  unfold rowsOf
  cases c : pl.find? fun e => decide (e.1 = t) with
  | some e => exact .inl ⟨e, List.mem_of_find?_eq_some c, by simpa using List.find?_some c, rfl⟩
  | none =>
    refine .inr ⟨fun m => ?_, rfl⟩
    obtain ⟨x, hx, e⟩ := List.mem_map.mp m
    have := List.find?_eq_none.mp c x hx
    exact this (decide_eq_true e)
theorem lane_nil (a : Str) : laneV (kvP []) a = .non := by
  rcases laneV_kvP [] a with e | ⟨z, e, q, hq, _⟩
  · exact e
  · cases hq
theorem lane_key {pl : Pl} {a t : Str} (h : laneAt pl a t ≠ .non) : t ∈ pl.map Prod.fst := by
  rcases rows_case pl t with ⟨e, he, rfl, _⟩ | ⟨_, e⟩
  · exact List.mem_map.mpr ⟨e, he, rfl⟩
  · exact absurd (by unfold laneAt; rw [e, lane_nil]) h
theorem lane_str (pl : Pl) (a t : Str) : laneAt pl a t = .non ∨ ∃ w, laneAt pl a t = .str w := by
  rcases laneV_kvP (rowsOf pl t) a with e | ⟨z, e, _⟩
  · exact .inl e
  · exact .inr ⟨z, e⟩
theorem lane_row {pl : Pl} (g : GoodPl pl) {a t w : Str} (h : laneAt pl a t = .str w) : isLane w = true ∧ w ≠ t := by
  rcases rows_case pl t with ⟨e, he, rfl, er⟩ | ⟨_, er⟩
  · have ge := g.e e he
    rcases laneV_kvP (rowsOf pl e.1) a with e0 | ⟨z, e1, q, hq, rfl⟩
    · rw [show laneAt pl a e.1 = _ from e0] at h
      cases h
    · rw [show laneAt pl a e.1 = _ from e1] at h
      cases h
      rw [er] at hq
      exact ⟨(ge.2.1.1 q hq).2, fun z => ge.2.2 (List.mem_map.mpr ⟨q, hq, z⟩)⟩
  · rw [laneAt, er, lane_nil] at h
    cases h
/-! ### paths -/
def wHere : Str := Str.ofString "here"
def wNone : Str := Str.ofString "none"
def wLoop : Str := Str.ofString "loop"
def wE : Str := Str.ofString ""
def pathF (nx : Str → V) : Nat → List Str → Str → List Str × Str
  | 0, p, l => (p ++ [l], wLoop)
  | n + 1, p, l => match nx l with
    | .str w => if w = wE then (p ++ [l], wHere) else if w ∈ p ++ [l] then (p ++ [l] ++ [w], wLoop) else pathF nx n (p ++ [l]) w
    | _ => (p ++ [l], wNone)
def pth (pl : Pl) (a t : Str) : List Str × Str := pathF (laneAt pl a) (pl.length + 1) [] t
theorem pth_congr {one two : Pl} {a b : Str} (h : ∀ t, laneAt one a t = laneAt two b t) (hl : one.length = two.length) (t : Str) : pth one a t = pth two b t := by
  unfold pth
  rw [show laneAt one a = laneAt two b from funext h, hl]
theorem pth_none {pl : Pl} {a t : Str} (h : laneAt pl a t = .non) : pth pl a t = ([t], wNone) := by
  unfold pth pathF
  rw [h]
  rfl
/-- the signs of all that a path holds -/
theorem path_mem {pl : Pl} {a : Str} : ∀ (n : Nat) (p : List Str) (l : Str), ∀ x ∈ (pathF (laneAt pl a) n p l).1, x ∈ p ∨ x = l ∨ ∃ t, laneAt pl a t = .str x
  | 0, p, l, x, h => by
    rcases List.mem_append.mp h with h | h
    · exact .inl h
    · exact .inr (.inl (List.mem_singleton.mp h))
  | n + 1, p, l, x, h => by
    unfold pathF at h
    have base : x ∈ p ++ [l] → x ∈ p ∨ x = l ∨ ∃ t, laneAt pl a t = .str x := fun h => by
      rcases List.mem_append.mp h with h | h
      · exact .inl h
      · exact .inr (.inl (List.mem_singleton.mp h))
    rcases lane_str pl a l with e | ⟨w, e⟩
    · rw [e] at h
      exact base h
    · rw [e] at h
      dsimp only at h
      by_cases c : w = wE
      · rw [if_pos c] at h
        exact base h
      · rw [if_neg c] at h
        by_cases d : w ∈ p ++ [l]
        · rw [if_pos d] at h
          rcases List.mem_append.mp h with h | h
          · exact base h
          · rw [List.mem_singleton.mp h]
            exact .inr (.inr ⟨l, e⟩)
        · rw [if_neg d] at h
          rcases path_mem n (p ++ [l]) w x h with h | rfl | h
          · exact base h
          · exact .inr (.inr ⟨l, e⟩)
          · exact .inr (.inr h)
theorem path_len {nx : Str → V} : ∀ (n : Nat) (p : List Str) (l : Str), (pathF nx n p l).1.length ≤ p.length + n + 1
  | 0, p, l => by
    show (p ++ [l]).length ≤ _
    rw [List.length_append]
    exact Nat.le_refl _
  | n + 1, p, l => by
    unfold pathF
    have e : (p ++ [l]).length = p.length + 1 := by rw [List.length_append]; rfl
    cases nx l with
    | str w =>
      dsimp only
      by_cases c : w = wE
      · rw [if_pos c]
        show (p ++ [l]).length ≤ _
        omega
      · rw [if_neg c]
        by_cases d : w ∈ p ++ [l]
        · rw [if_pos d]
          show (p ++ [l] ++ [w]).length ≤ _
          rw [List.length_append, e]
          show p.length + 1 + 1 ≤ _
          omega
        · rw [if_neg d]
          have := path_len (nx := nx) n (p ++ [l]) w
          omega
    | _ =>
      show (p ++ [l]).length ≤ _
      omega
theorem path_word {nx : Str → V} : ∀ (n : Nat) (p : List Str) (l : Str), (pathF nx n p l).2 = wHere ∨ (pathF nx n p l).2 = wNone ∨ (pathF nx n p l).2 = wLoop
  | 0, p, l => .inr (.inr rfl)
  | n + 1, p, l => by
    unfold pathF
    cases nx l with
    | str w =>
      dsimp only
      by_cases c : w = wE
      · rw [if_pos c]
        exact .inl rfl
      · rw [if_neg c]
        by_cases d : w ∈ p ++ [l]
        · rw [if_pos d]
          exact .inr (.inr rfl)
        · rw [if_neg d]
          exact path_word n _ _
    | _ => exact .inr (.inl rfl)
/-! ### where two plans part -/
def same (one two : Pl) (t x : Str) : Prop := pth one x t = pth two x t
structure FP (one two : Pl) (starts : List Str) (r : Option (Str × Str)) : Prop where
  no : r = none → ∀ t ∈ starts, ∀ x, (isStem one x ∨ isStem two x) → same one two t x
  yes : ∀ (t x : Str), r = some (t, x) → ∃ i : Nat, starts[i]? = some t ∧ (∀ (j : Nat) (u : Str), j < i → starts[j]? = some u → ∀ y, (isStem one y ∨ isStem two y) → same one two u y) ∧ (isStem one x ∨ isStem two x) ∧ ¬ same one two t x ∧ ∀ y, (isStem one y ∨ isStem two y) → ¬ same one two t y → leA x y = true
theorem FP.uniq {one two : Pl} {starts : List Str} {r r' : Option (Str × Str)} (h : FP one two starts r) (h' : FP one two starts r') : r = r' := by
  cases r with
  | none =>
    cases r' with
    | none => rfl
    | some z =>
      obtain ⟨i, a1, _, a3, a4, _⟩ := h'.yes z.1 z.2 rfl
      exact absurd (h.no rfl _ (List.mem_of_getElem? a1) _ a3) a4
  | some z =>
    obtain ⟨i, a1, a2, a3, a4, a5⟩ := h.yes z.1 z.2 rfl
    cases r' with
    | none => exact absurd (h'.no rfl _ (List.mem_of_getElem? a1) _ a3) a4
    | some z' =>
      obtain ⟨i', b1, b2, b3, b4, b5⟩ := h'.yes z'.1 z'.2 rfl
      rcases Nat.lt_trichotomy i i' with c | c | c
      · exact absurd (b2 i z.1 c a1 _ a3) a4
      · subst c
        rw [a1] at b1
        have et : z.1 = z'.1 := Option.some.inj b1
        rw [← et] at b4 b5
        have ex := leA_anti (a5 _ b3 b4) (b5 _ a3 a4)
        rw [Prod.ext et ex]
      · exact absurd (a2 i' z'.1 c b1 _ b3) b4
theorem FP.symm {one two : Pl} {starts : List Str} {r : Option (Str × Str)} (h : FP one two starts r) : FP two one starts r :=
  ⟨fun e t ht x hx => (h.no e t ht x hx.symm).symm, fun t x e => let ⟨i, a1, a2, a3, a4, a5⟩ := h.yes t x e; ⟨i, a1, fun j u hj hu y hy => (a2 j u hj hu y hy.symm).symm, a3.symm, fun s => a4 s.symm, fun y hy ns => a5 y hy.symm fun s => ns s.symm⟩⟩
/-- a plan as good as another -/
structure Sim (one two : Pl) : Prop where
  l : ∀ a t, laneAt one a t = laneAt two a t
  n : one.length = two.length
theorem Sim.pth {one two : Pl} (h : Sim one two) (a t : Str) : pth one a t = pth two a t := pth_congr (h.l a) h.n t
theorem Sim.refl (pl : Pl) : Sim pl pl := ⟨fun _ _ => rfl, rfl⟩
theorem Sim.trans {a b c : Pl} (h : Sim a b) (k : Sim b c) : Sim a c := ⟨fun x t => (h.l x t).trans (k.l x t), h.n.trans k.n⟩
theorem Sim.symm {a b : Pl} (h : Sim a b) : Sim b a := ⟨fun x t => (h.l x t).symm, h.n.symm⟩
/-- an address behaves as its longest beginning that is a stem of the two plans -/
theorem near (one two : Pl) (a : Str) : (∃ x, (isStem one x ∨ isStem two x) ∧ leA x a = true ∧ (∀ t, laneAt one a t = laneAt one x t) ∧ ∀ t, laneAt two a t = laneAt two x t) ∨ ((∀ t, laneAt one a t = .non) ∧ ∀ t, laneAt two a t = .non) := by
  have gen : ∀ n, n ≤ a.length → (∃ m, 1 ≤ m ∧ m ≤ n ∧ (isStem one (pre a m) ∨ isStem two (pre a m)) ∧ (∀ t, laneN (kvP (rowsOf one t)) a n = laneN (kvP (rowsOf one t)) a m) ∧ ∀ t, laneN (kvP (rowsOf two t)) a n = laneN (kvP (rowsOf two t)) a m) ∨ ((∀ t, laneN (kvP (rowsOf one t)) a n = .non) ∧ ∀ t, laneN (kvP (rowsOf two t)) a n = .non) := by
    intro n
    induction n with
    | zero => exact fun _ => .inr ⟨fun t => rfl, fun t => rfl⟩
    | succ n ih =>
      intro hn
      by_cases c : isStem one (pre a (n + 1)) ∨ isStem two (pre a (n + 1))
      · exact .inl ⟨n + 1, by omega, Nat.le_refl _, c, fun t => rfl, fun t => rfl⟩
      · have no : ∀ pl : Pl, (pl = one ∨ pl = two) → ∀ t, laneN (kvP (rowsOf pl t)) a (n + 1) = laneN (kvP (rowsOf pl t)) a n := fun pl hp t => laneN_no (val_none fun m => by
          rcases rows_case pl t with ⟨e, he, _, er⟩ | ⟨_, er⟩
          · rw [er] at m
            rcases hp with rfl | rfl
            · exact c (.inl ⟨e, he, m⟩)
            · exact c (.inr ⟨e, he, m⟩)
          · rw [er] at m
            cases m)
        rcases ih (by omega) with ⟨m, h1, h2, h3, h4, h5⟩ | ⟨h1, h2⟩
        · exact .inl ⟨m, h1, by omega, h3, fun t => (no one (.inl rfl) t).trans (h4 t), fun t => (no two (.inr rfl) t).trans (h5 t)⟩
        · exact .inr ⟨fun t => (no one (.inl rfl) t).trans (h1 t), fun t => (no two (.inr rfl) t).trans (h2 t)⟩
  rcases gen a.length (Nat.le_refl _) with ⟨m, h1, h2, h3, h4, h5⟩ | h
  · refine .inl ⟨pre a m, h3, ?_, fun t => ?_, fun t => ?_⟩
    · by_cases c : m = a.length
      · rw [c, pre_all]
        exact leA_refl a
      · exact leA_len (by rw [pre_len h2]; omega)
    · show laneV _ a = laneV _ (pre a m)
      rw [laneV_pre h2]
      exact h4 t
    · show laneV _ a = laneV _ (pre a m)
      rw [laneV_pre h2]
      exact h5 t
  · exact .inr h
theorem same_near {one two : Pl} {t a : Str} (h : ∀ x, (isStem one x ∨ isStem two x) → leA x a = true → same one two t x) : same one two t a := by
  rcases near one two a with ⟨x, hx, le, e1, e2⟩ | ⟨h1, h2⟩
  · have s := h x hx le
    unfold same at *
    rw [pth_congr e1 rfl, pth_congr e2 rfl]
    exact s
  · unfold same
    rw [pth_none (h1 t), pth_none (h2 t)]
theorem leA_total : TotalLe leA := by
  unfold leA dataLe
  exact PySem.W.sortLe_total _ _ _
end Tb
namespace L2
open PySem PySem.Spec PyProof.Rows
theorem kv_vals {kvs : List (Key × V)} {vs : List (Key × Value)} (h : KV kvs vs) : Vals (kvs.map (·.2)) (vs.map (·.2)) := by
  induction h with
  | nil => exact .nil
  | cons r _ ih => exact .cons r.2 ih
/-- list(e.values()) -/
def tListVals (te : TE) : TE := fun σ H Q => te σ H fun x H1 => ∃ (d : Addr) (kvs : List (Key × V)), x = .ref d ∧ H1 d = some (.dK kvs) ∧ ∀ p, H1 p = none → Q (.ref p) (upd H1 p (.lst (kvs.map (·.2))))
section
variable {X : Cx} {e : Expr} {te : TE} {p pos apos cpos : Pos}
theorem pe_listValues (hc : X.calm = true) (he : PE X e te) (hg : Gl X "list") (hm : X.mg "list" = none) (hv : bootBuiltins "list" = some (.type "list")) (hbase : attributeBase e "values" X.env (eval e X.env) = eval e X.env := by rfl) (hline : (apos.endLine == cpos.line) = true := by rfl)
    (hs : starEach [.Call (.Attribute e "values" apos) [] [] cpos] X.env = (false, eval (.Call (.Attribute e "values" apos) [] [] cpos) X.env) :: starEach [] X.env := by rfl) :
    PE X (.Call (.Name "list" p) [.Call (.Attribute e "values" apos) [] [] cpos] [] pos) (tListVals te) := by
  refine ⟨fun pins s σ H Q I hq => ?_⟩
  refine wpAny_Call_Name_kw (ld_blt I hg hm hv ?_)
  refine PyProof.Rows.callWith_type1 ?_ hs rfl
  rw [hs]
  show wpAny _ _ (spliced ((false, eval (.Call (.Attribute e "values" apos) [] [] cpos) X.env) :: backTo pos (starEach [] X.env))) _ _ s
  refine Calls.spliced_cons ?_
  refine wpAny_Call_method (T := "dict") (id := "dict.values") hbase rfl hline F.plainAttrs_dict F.slot_dict_values F.type_dict_values (thn (he.run pins s σ H _ I hq) fun u s1 ⟨x, H1, I1, rx, d, kvs, ex, hd, q⟩ => ?_)
  subst ex
  obtain rfl : u = Value.ref d := rx
  obtain ⟨hz, hs0, vs, kv, hdo⟩ := I1.hok d _ hd
  obtain ⟨ep, hat⟩ := hdo.dictAt
  have lk : kvs.length = vs.length := Paired.length kv
  have I2 : Inv X pins σ H1 { s1 with heap := s1.heap.push { cls := .type "dict_values", data := .fields #[.ref d] } } := I1.kept (t' := s1.toks) fun b ob q => Heap.get?_push_of_some _ q
  refine ⟨hdo.typeIs, hdo.mapOf.noDict, ?_⟩
  show wpAny _ _ (callWith cpos (.builtin "dict.values") [.ref d] [] []) _ X.xe s1
  refine method_meetsIn F.slot_dict_values F.entry_dict_values rfl (PySem.evalArgs_none ⟨rfl, hdo.typeIs, F.args_dict_values_1 _, _, meets_dict_values (mixKind X.prog X.w) d hs0, ⟨vs, hdo⟩, ?_⟩)
  refine Calls.spliced_nil ?_
  refine PySem.W.kdl_call (PySem.W.kdl_values (knd := mixKind X.prog X.w) (kvs := vs) (ep := ep) (d := d)) (I1.ok.hd hc) ⟨⟨_, Heap.get?_push_size _ rfl, rfl, rfl⟩, hat.push _⟩ (by omega) fun h' tk acc c hk hS hacc => ?_
  have ea : acc.toList = vs.map (·.2) := PySem.W.kdl_vals_eq _ (by rw [Array.length_toList]; exact hacc.1) fun j v e => hacc.2 j v (by rw [← Array.getElem?_toList]; exact e)
  have I3 := I2.laid (a := (s1.heap.push { cls := .type "dict_values", data := .fields #[.ref d] }).objs.size) (o := .lst (kvs.map (·.2))) (t' := tk) hk (Nat.le_refl _)
    (show ObjOk X.prog X.w _ _ _ (.lst (kvs.map (·.2))) from ⟨by rw [List.length_map]; exact hz, acc.toList, c, by rw [ea]; exact kv_vals kv, by rw [Array.toArray_toList]; exact hS⟩)
  exact ⟨.ref _, _, I3, rfl, q _ (I2.hok.fresh (Nat.le_refl _))⟩
end
end L2
namespace Tb
open PySem PySem.Spec PyProof.Rows L2
/-- towns with their rows, each at an address -/
abbrev En := Addr × (Str × List Pr)
def kvE (es : List En) : Kvs := es.map fun e => (Sum.inr e.2.1, V.ref e.1)
def plOf (es : List En) : Pl := es.map (·.2)
structure PlanAt (H : Hp) (d : Addr) (es : List En) : Prop where
  d : H d = some (.dK (kvE es))
  t : ∀ e ∈ es, H e.1 = some (.dK (kvP e.2.2))
  g : GoodPl (plOf es)
structure TabsAt (C : Addr) (H : Hp) (d : Addr) (es : List En) : Prop where
  d : H d = some (.dK (kvE es))
  t : ∀ e ∈ es, TabOf C H e.1 e.2.2
theorem kvE_len (es : List En) : (kvE es).length = es.length := List.length_map _
theorem plOf_len (es : List En) : (plOf es).length = es.length := List.length_map _
theorem kvE_keys (es : List En) : (kvE es).map (fun kv => kV kv.1) = ((plOf es).map Prod.fst).map V.str := by
  unfold kvE plOf
  rw [List.map_map, List.map_map, List.map_map]
  rfl
theorem val_cons {k k' : Key} {v : V} {kvs : Kvs} : valV ((k, v) :: kvs) k' = if k = k' then some v else valV kvs k' := by
  unfold valV
  by_cases c : k = k'
  · rw [if_pos c]
    simp [c]
  · rw [if_neg c]
    simp [c]
theorem inr_eq {a b : Str} : ((Sum.inr a : Key) = Sum.inr b) ↔ a = b := ⟨fun e => Sum.inr.inj e, fun e => by rw [e]⟩
theorem kvE_val {es : List En} (n : ((plOf es).map Prod.fst).Nodup) {e : En} (h : e ∈ es) : valV (kvE es) (Sum.inr e.2.1) = some (V.ref e.1) := by
  induction es with
  | nil => cases h
  | cons x es ih =>
    have n' : x.2.1 ∉ (plOf es).map Prod.fst ∧ ((plOf es).map Prod.fst).Nodup := List.nodup_cons.mp n
    refine (val_cons (k := Sum.inr x.2.1) (v := V.ref x.1) (kvs := kvE es)).trans ?_
    by_cases c : x.2.1 = e.2.1
    · rw [if_pos (inr_eq.mpr c)]
      rcases List.mem_cons.mp h with rfl | h
      · rfl
      · refine absurd ?_ n'.1
        rw [c]
        exact List.mem_map.mpr ⟨e.2, List.mem_map.mpr ⟨e, h, rfl⟩, rfl⟩
    · rw [if_neg fun z => c (inr_eq.mp z)]
      rcases List.mem_cons.mp h with rfl | h
      · exact absurd rfl c
      · exact ih n'.2 h
theorem kvE_none {es : List En} {t : Str} (h : t ∉ (plOf es).map Prod.fst) : valV (kvE es) (Sum.inr t) = none := by
  induction es with
  | nil => rfl
  | cons x es ih =>
    have h1 : ¬ (x.2.1 = t) := fun e => h (e ▸ List.mem_cons_self)
    have h2 : t ∉ (plOf es).map Prod.fst := fun m => h (List.mem_cons_of_mem _ m)
    refine (val_cons (k := Sum.inr x.2.1) (v := V.ref x.1) (kvs := kvE es)).trans ?_
    rw [if_neg fun z => h1 (inr_eq.mp z)]
    exact ih h2
theorem es_case (es : List En) (t : Str) : (∃ e ∈ es, e.2.1 = t) ∨ t ∉ (plOf es).map Prod.fst := by
  by_cases c : t ∈ (plOf es).map Prod.fst
  · obtain ⟨p, hp, rfl⟩ := List.mem_map.mp c
    obtain ⟨e, he, rfl⟩ := List.mem_map.mp hp
    exact .inl ⟨e, he, rfl⟩
  · exact .inr c
theorem rows_of_mem {es : List En} (n : ((plOf es).map Prod.fst).Nodup) {e : En} (h : e ∈ es) : rowsOf (plOf es) e.2.1 = e.2.2 := rows_mem n (List.mem_map.mpr ⟨e, h, rfl⟩)
theorem PlanAt.same {H H' : Hp} {d : Addr} {es : List En} (T : PlanAt H d es) (h : Same H H') : PlanAt H' d es := ⟨h _ _ T.d, fun e he => h _ _ (T.t e he), T.g⟩
theorem PlanAt.but {H H' : Hp} {d p : Addr} {es : List En} (T : PlanAt H d es) (B : Bag H p) (h : But p H H') : PlanAt H' d es := by
  obtain ⟨xs, hp⟩ := B.lst
  exact ⟨h _ _ T.d (ne_of T.d hp (fun z => by cases z)), fun e he => h _ _ (T.t e he) (ne_of (T.t e he) hp (fun z => by cases z)), T.g⟩
theorem TabsAt.same {C : Addr} {H H' : Hp} {d : Addr} {es : List En} (T : TabsAt C H d es) (h : Same H H') : TabsAt C H' d es := ⟨h _ _ T.d, fun e he => (T.t e he).same h⟩
theorem TabsAt.but {C : Addr} {H H' : Hp} {d p : Addr} {es : List En} (T : TabsAt C H d es) (B : Bag H p) (h : But p H H') : TabsAt C H' d es := by
  obtain ⟨xs, hp⟩ := B.lst
  exact ⟨h _ _ T.d (ne_of T.d hp (fun z => by cases z)), fun e he => (T.t e he).but hp h⟩
abbrev wTables : Str := ("_tables" : String)
abbrev wMarks : Str := ("_marks" : String)
def kvM (ms : List Str) : Kvs := ms.map fun m => (Sum.inr m, V.bl true)
/-- without duplicates, ascending -/
def Srt (ms : List Str) : Prop := ms.Nodup ∧ ms.Pairwise fun a b => le1 a b = true
/-- at j: a sorting of this plan -/
structure SortOf (C CS : Addr) (H : Hp) (j : Addr) (pl : Pl) : Prop where
  ex : ∃ dx dt dm es ms, H j = some (.ins CS dx [(wTables, .ref dt), (wMarks, .ref dm)]) ∧ TabsAt C H dt es ∧ (plOf es).Perm pl ∧ H dm = some (.dK (kvM ms)) ∧ (∀ x, x ∈ ms ↔ isStem pl x) ∧ ms.length ≤ tot pl ∧ Srt ms ∧ ((plOf es).map Prod.fst).Pairwise fun a b => le1 a b = true
  g : GoodPl pl
theorem SortOf.same {C CS : Addr} {H H' : Hp} {j : Addr} {pl : Pl} (T : SortOf C CS H j pl) (h : Same H H') : SortOf C CS H' j pl := by
  obtain ⟨⟨dx, dt, dm, es, ms, h1, h2, h3, h4, h5⟩, g⟩ := T
  exact ⟨⟨dx, dt, dm, es, ms, h _ _ h1, h2.same h, h3, h _ _ h4, h5⟩, g⟩
theorem SortOf.but {C CS : Addr} {H H' : Hp} {j p : Addr} {pl : Pl} (T : SortOf C CS H j pl) (B : Bag H p) (h : But p H H') : SortOf C CS H' j pl := by
  obtain ⟨⟨dx, dt, dm, es, ms, h1, h2, h3, h4, h5⟩, g⟩ := T
  obtain ⟨xs, hp⟩ := B.lst
  exact ⟨⟨dx, dt, dm, es, ms, h _ _ h1 (ne_of h1 hp (fun z => by cases z)), h2.but B h, h3, h _ _ h4 (ne_of h4 hp (fun z => by cases z)), h5⟩, g⟩
/-! ### plans whose towns or rows stand otherwise -/
theorem isStem_perm {one two : Pl} (h : one.Perm two) (x : Str) : isStem one x ↔ isStem two x := ⟨fun ⟨e, he, m⟩ => ⟨e, h.mem_iff.mp he, m⟩, fun ⟨e, he, m⟩ => ⟨e, h.mem_iff.mpr he, m⟩⟩
theorem rows_perm {one two : Pl} (h : one.Perm two) (n : (one.map Prod.fst).Nodup) (t : Str) : rowsOf one t = rowsOf two t := by
  have n2 : (two.map Prod.fst).Nodup := (h.map Prod.fst).nodup_iff.mp n
  rcases rows_case one t with ⟨e, he, rfl, er⟩ | ⟨ht, er⟩
  · rw [er, rows_mem n2 (h.mem_iff.mp he)]
  · rw [er, rows_not fun m => ht ((h.map Prod.fst).mem_iff.mpr m)]
theorem sim_perm {one two : Pl} (h : one.Perm two) (n : (one.map Prod.fst).Nodup) : Sim one two := ⟨fun a t => by unfold laneAt; rw [rows_perm h n], h.length_eq⟩
theorem good_plan_perm {one two : Pl} (h : one.Perm two) (g : GoodPl one) : GoodPl two := ⟨fun x hx => g.e x (h.mem_iff.mpr hx), (h.map Prod.fst).nodup_iff.mp g.n⟩
end Tb
namespace Tb
open PySem PySem.Spec PyProof.Rows L2
open PySem.W (AllAlike Sortable dataLe)
abbrev sLanesOf : Stmt := topS 21
abbrev NLanesOf : List Str := ["table", "prefix", "lane"]
theorem scLanesOf : FnScope NLanesOf ["table"] (defScope sLanesOf) := ⟨rfl, rfl, rfl, by decide +kernel, rfl, by decide +kernel, by decide +kernel⟩
abbrev sMarksOf : Stmt := topS 22
abbrev NMarksOf : List Str := ["tables", "prefixes", "table", "prefix", "lane"]
theorem scMarksOf : FnScope NMarksOf ["tables"] (defScope sMarksOf) := ⟨rfl, rfl, rfl, by decide +kernel, rfl, by decide +kernel, by decide +kernel⟩
def spLanesOf (C : Addr) : Sp := fun vs H Q _ => ∃ (b : Addr) (own : List Pr), vs = [.ref b] ∧ TabOf C H b own ∧ ∀ (p : Addr) (H' : Hp), Same H H' → H' p = some (.lst (((own.mergeSort le2).map Prod.snd).map V.str)) → Q (.ref p) H'
def spMarksOf (C : Addr) : Sp := fun vs H Q _ => ∃ (l : Addr) (es : List En), vs = [.ref l] ∧ H l = some (.lst (es.map fun e => V.ref e.1)) ∧ (∀ e ∈ es, TabOf C H e.1 e.2.2) ∧ tot (plOf es) ≤ 300 ∧
  ∀ (p : Addr) (ms : List Str) (H' : Hp), Same H H' → H p = none → H' p = some (.dK (kvM ms)) → (∀ x, x ∈ ms ↔ isStem (plOf es) x) → ms.length ≤ tot (plOf es) → Srt ms → Q (.ref p) H'
theorem tot_take {es : List En} {i : Nat} {e : En} (h : es[i]? = some e) : tot (plOf (es.take (i + 1))) = tot (plOf (es.take i)) + e.2.2.length := by
  rw [List.take_add_one, h]
  unfold tot plOf
  rw [List.map_append, List.map_append, List.sum_append]
  rfl
theorem tot_le (es : List En) (i : Nat) : tot (plOf (es.take i)) ≤ tot (plOf es) := by
  have e : tot (plOf es) = tot (plOf (es.take i)) + tot (plOf (es.drop i)) := by
    conv => lhs; rw [← List.take_append_drop i es]
    unfold tot plOf
    rw [List.map_append, List.map_append, List.sum_append]
  omega
theorem stem_take {es : List En} {i : Nat} {e : En} (h : es[i]? = some e) (x : Str) : isStem (plOf (es.take (i + 1))) x ↔ isStem (plOf (es.take i)) x ∨ x ∈ e.2.2.map Prod.fst := by
  rw [List.take_add_one, h]
  unfold isStem plOf
  constructor
  · rintro ⟨y, hy, hx⟩
    rw [List.map_append] at hy
    rcases List.mem_append.mp hy with m | m
    · exact .inl ⟨y, m, hx⟩
    · rw [List.mem_singleton.mp m] at hx
      exact .inr hx
  · rintro (⟨y, hy, hx⟩ | hx)
    · exact ⟨y, by rw [List.map_append]; exact List.mem_append_left _ hy, hx⟩
    · exact ⟨e.2, by rw [List.map_append]; exact List.mem_append_right _ List.mem_cons_self, hx⟩
theorem alike1 (L : List Str) : AllAlike (L.map PyData.str) := fun d hd d' hd' => by
  obtain ⟨x, _, rfl⟩ := List.mem_map.mp hd
  obtain ⟨y, _, rfl⟩ := List.mem_map.mp hd'
  rfl
theorem sortable1 (L : List Str) : Sortable (L.map PyData.str) := .inr fun d hd => by
  obtain ⟨x, _, rfl⟩ := List.mem_map.mp hd
  exact ⟨fun e => (by cases e), fun xs e => (by cases e)⟩
theorem kvM_snoc {N : List Str} (n : N.Nodup) {i : Nat} {x : Str} (h : N[i]? = some x) : putK (kvM (N.take i)) (Sum.inr x) (V.bl true) = kvM (N.take (i + 1)) := by
  have nx : x ∉ N.take i := fun m => by
    obtain ⟨j, hj, e⟩ := List.mem_take_iff_getElem.mp m
    obtain ⟨hi, ei⟩ := List.getElem?_eq_some_iff.mp h
    have := (List.getElem_inj n).mp (e.trans ei.symm)
    omega
  unfold putK
  rw [if_neg fun h => by
    obtain ⟨kv, hk, e⟩ := List.any_eq_true.mp h
    obtain ⟨y, hy, rfl⟩ := List.mem_map.mp hk
    exact nx (Sum.inr.inj (of_decide_eq_true e) ▸ hy)]
  rw [List.take_add_one, h]
  unfold kvM
  rw [List.map_append]
  rfl
section
variable {P : Program} {w : World} {K : PySem.W.Frag} {mg : Str → Option Value} {base : Heap}
theorem ok_lanesOf {f C CI CU : Addr} {fd : FuncData} (F : Fun K "_lanes_of" "_lanes_of" sLanesOf f fd) (B : Blt mg) (TK : TabK P w K mg base C CI CU) : FnOk P w K mg base CX0 3 f fd ["table"] (spLanesOf C) := by
  obtain ⟨pR, fR, fdR, hpR, bR, FR⟩ := TK.rows
  refine F.ok scLanesOf (fun vs H Q E h => ?_) (fun cdv A outer s H vs Q E hr h => ?_)
  · obtain ⟨b, own, rfl, _⟩ := h
    rfl
  · obtain ⟨b, own, rfl, hT, q⟩ := h
    have hz : sizeLine = 16777216 := rfl
    refine ⟨_, (pss_one (ps_ret (pe_lc (own := [("prefix", 1), ("lane", 2)]) (g := gTup K 2 (gCons (gName 1) (gCons (gName 2) gNil))) (by rfl) scLanesOf.nd (pi_list (pe_prop (pv 0) TK.T.c hpR FR (hr.mono (by first | decide | omega)) bR .nil pass0 (by rfl))) (blkOk_by (N := NLanesOf) (sc := defScope sLanesOf) (by decide +kernel)) (fun _ _ _ _ _ => pg_tup (by rfl) (pgs_cons (pg_name (i := 1) scLanesOf.nd rfl (Or.inl rfl)) (pgs_cons (pg_name (i := 2) scLanesOf.nd rfl (Or.inl rfl)) pgs_nil))) (fun _ _ _ _ _ => pts_nil) (fun _ _ _ _ _ => pv 2)))), ?_⟩
    have hn := hT.n
    obtain ⟨dx, d, h1, h2⟩ := hT.ex
    refine ⟨.ref b, rfl, b, dx, _, rfl, h1, b, own, rfl, hT, fun p us H1 S1 np hp hus eus => ⟨p, rfl, ⟨_, sqOf hp⟩, fun D nD => ?_⟩⟩
    have lu : us.length = own.length := by rw [← len_sort (ps := own), ← eus, List.length_map]
    refine lc_it (walk_list (a := p) (xs := us.map fun t => V.ref t.1)) (fun i H' => Same H1 H' ∧ H' D = some (.lst (((us.take i).map (·.2.2)).map V.str))) ⟨same_upd nD, upd_same⟩ (fun i H' _ hP => sqOf (hP.1 _ _ hp)) (fun i v H2 H3 hi hP hy => ?_) (fun H' hP => ?_)
    · obtain ⟨S2, hD⟩ := hP
      obtain ⟨rfl, ev⟩ := hy
      rw [List.getElem?_map] at ev
      cases et : us[i]? with
      | none => rw [et] at ev; cases ev
      | some t =>
      rw [et] at ev
      cases (Option.some.inj ev)
      refine ⟨t.1, _, rfl, .of (S2 _ _ (hus t (List.mem_of_getElem? et))), rfl, .str t.2.1, _, rfl, .str t.2.2, _, rfl, rfl, rfl, .str t.2.2, rfl, _, hD, by rw [List.length_map, List.length_map, List.length_take]; omega, fun c o hc => ?_, ?_⟩
      · rw [upd_ne (ne_of_none hc nD)]
        exact S2 _ _ hc
      · rw [upd_same, List.take_add_one, et, List.map_append, List.map_append]
        rfl
    · obtain ⟨S2, hD⟩ := hP
      rw [List.length_map, List.take_length] at hD
      refine q D H' (S1.trans S2) ?_
      rw [hD, ← eus]
      exact congrArg (fun z => some (HO.lst (List.map V.str z))) (by rw [List.map_map]; rfl)
theorem ok_marksOf {f C CI CU : Addr} {fd : FuncData} (F : Fun K "_marks_of" "_marks_of" sMarksOf f fd) (B : Blt mg) (zset : mg "set" = none) (TK : TabK P w K mg base C CI CU) : FnOk P w K mg base CX0 3 f fd ["tables"] (spMarksOf C) := by
  obtain ⟨pR, fR, fdR, hpR, bR, FR⟩ := TK.rows
  refine F.ok scMarksOf (fun vs H Q E h => ?_) (fun cdv A outer s H vs Q E hr h => ?_)
  · obtain ⟨l, es, rfl, _⟩ := h
    rfl
  · obtain ⟨l, es, rfl, hl, ht, hn, q⟩ := h
    have hz : sizeLine = 16777216 := rfl
    refine ⟨_, (pss_cons (ps_set (i := 1) scMarksOf.nd rfl (.inl rfl) (pe_lst pa_nil))
      (pss_cons (ps_for PassesOwn.never rfl (pi_list (pv 0)) (pg_name (i := 2) scMarksOf.nd rfl (.inl rfl))
        (pss_one (ps_expr (pe_bm PySem.F.plainAttrs_list PySem.F.slot_list_extend PySem.F.type_list_extend mt_extend (pv 1) (pa_cons (pe_lc (own := [("prefix", 3), ("lane", 4)]) (g := gTup K 2 (gCons (gName 3) (gCons (gName 4) gNil))) (by rfl) scMarksOf.nd (pi_list (pe_prop (pv 2) TK.T.c hpR FR (hr.mono (by first | decide | omega)) bR .nil pass0 (by rfl))) (blkOk_by (N := NMarksOf) (sc := defScope sMarksOf) (by decide +kernel)) (fun _ _ _ _ _ => pg_tup (by rfl) (pgs_cons (pg_name (i := 3) scMarksOf.nd rfl (Or.inl rfl)) (pgs_cons (pg_name (i := 4) scMarksOf.nd rfl (Or.inl rfl)) pgs_nil))) (fun _ _ _ _ _ => pts_nil) (fun _ _ _ _ _ => pv 3)) pa_nil)))))
      (pss_one (ps_ret (pe_dc (own := [("prefix", 3)]) (g := gName 3) (by rfl) scMarksOf.nd (pi_list (pe_callB (r := SH.rSortSet K w) (SH.cr_sortSet rfl hr.units) (by rfl) B.sorted PyProof.Rows.boot_sorted (pa_cons (pe_callTy (r := SH.rSetQ K P w) (SH.cr_setQ rfl) (by rfl) zset boot_set (pa_cons (pv 1) pa_nil)) pa_nil))) (blkOk_by (N := NMarksOf) (sc := defScope sMarksOf) (by decide +kernel)) (fun _ _ _ _ _ => pg_name (i := 3) scMarksOf.nd rfl (Or.inl rfl)) (fun _ _ _ _ _ => pts_nil) (fun _ _ _ _ _ => pv 3) (fun _ _ _ _ _ => pe_bl)))))), ?_⟩
    refine ⟨Nat.zero_le _, fun D nD => ?_⟩
    refine ⟨.ref l, rfl, l, rfl, ⟨_, sqOf ((same_upd nD) _ _ hl)⟩, ?_⟩
    refine for_it (walk_list (a := l) (xs := es.map fun e => V.ref e.1)) (fun i σ H' => ∃ y2 y3 y4, σ = [some (.ref l), some (.ref D), y2, y3, y4] ∧ Same H H' ∧ ∃ ks : List Str, H' D = some (.lst (ks.map V.str)) ∧ ks.length = tot (plOf (es.take i)) ∧ ∀ x, x ∈ ks ↔ isStem (plOf (es.take i)) x)
      ⟨none, none, none, rfl, same_upd nD, [], upd_same, rfl, fun x => ⟨fun h => (by cases h), fun ⟨e, he, _⟩ => (by cases he)⟩⟩ (fun i σ H' _ hP => ?_) (fun i v σ H1 H2 hi hP hy => ?_) (fun σ H1 hP => ?_)
    · obtain ⟨_, _, _, _, S1, _⟩ := hP
      exact sqOf (S1 _ _ hl)
    · obtain ⟨y2, y3, y4, rfl, S1, ks, hD, lk, mk⟩ := hP
      obtain ⟨rfl, ev⟩ := hy
      rw [List.getElem?_map] at ev
      cases ee : es[i]? with
      | none => rw [ee] at ev; cases ev
      | some e =>
      rw [ee] at ev
      cases (Option.some.inj ev)
      have hT := (ht e (List.mem_of_getElem? ee)).same S1
      obtain ⟨dx, d, h1, h2⟩ := hT.ex
      have hown := hT.n
      have l1 := tot_take ee
      have l2 := tot_le es (i + 1)
      refine ⟨.ref D, rfl, .inl ⟨rfl, _, sqOf hD⟩, .ref e.1, rfl, e.1, dx, _, rfl, h1, e.1, e.2.2, rfl, hT, fun p us H3 S3 np hp hus eus => ⟨p, rfl, ⟨_, sqOf hp⟩, fun G nG => ?_⟩⟩
      have lu : us.length = e.2.2.length := by rw [← len_sort (ps := e.2.2), ← eus, List.length_map]
      refine lc_it (walk_list (a := p) (xs := us.map fun t => V.ref t.1)) (fun i H' => Same H3 H' ∧ H' G = some (.lst (((us.take i).map (·.2.1)).map V.str))) ⟨same_upd nG, upd_same⟩ (fun i H' _ hP => sqOf (hP.1 _ _ hp)) (fun i v H4 H5 hi hP hy => ?_) (fun H' hP => ?_)
      · obtain ⟨S4, hG⟩ := hP
        obtain ⟨rfl, ev⟩ := hy
        rw [List.getElem?_map] at ev
        cases et : us[i]? with
        | none => rw [et] at ev; cases ev
        | some t =>
        rw [et] at ev
        cases (Option.some.inj ev)
        refine ⟨t.1, _, rfl, .of (S4 _ _ (hus t (List.mem_of_getElem? et))), rfl, .str t.2.1, _, rfl, .str t.2.2, _, rfl, rfl, rfl, .str t.2.1, rfl, _, hG, by rw [List.length_map, List.length_map, List.length_take]; omega, fun c o hc => ?_, ?_⟩
        · rw [upd_ne (ne_of_none hc nG)]
          exact S4 _ _ hc
        · rw [upd_same, List.take_add_one, et, List.map_append, List.map_append]
          rfl
      · obtain ⟨S4, hG⟩ := hP
        rw [List.length_map, List.take_length] at hG
        have hD' := (S3.trans S4) _ _ hD
        refine ⟨D, G, _, _, rfl, rfl, hD', hG, by rw [List.length_map, List.length_map, List.length_map]; omega, _, _, _, rfl, fun c o hc => ?_, ks ++ us.map (·.2.1), by rw [upd_same, List.map_append], by rw [List.length_append, List.length_map]; omega, fun x => ?_⟩
        · rw [upd_ne (ne_of_none hc nD)]
          exact (S1.trans (S3.trans S4)) _ _ hc
        · rw [List.mem_append, mk x, stem_take ee x]
          have e1 : us.map (·.2.1) = (e.2.2.mergeSort le2).map Prod.fst := by rw [← eus, List.map_map]; rfl
          rw [e1, ((List.mergeSort_perm e.2.2 le2).map Prod.fst).mem_iff]
    · obtain ⟨y2, y3, y4, rfl, S1, ks, hD, lk, mk⟩ := hP
      rw [List.length_map, List.take_length] at lk mk
      refine ⟨.ref D, rfl, D, ks.map Sum.inr, rfl, sqOf (by rw [List.map_map]; exact hD), by rw [List.length_map]; omega, fun a L na ndL mL lL => ?_⟩
      obtain ⟨M, rfl⟩ : ∃ M : List Str, L = M.map Sum.inr := by
        have : ∀ L : List Key, (∀ k ∈ L, ∃ x : Str, k = Sum.inr x) → ∃ M : List Str, L = M.map Sum.inr := fun L => by
          induction L with
          | nil => exact fun _ => ⟨[], rfl⟩
          | cons k L ih =>
            intro h
            obtain ⟨x, rfl⟩ := h k List.mem_cons_self
            obtain ⟨M, rfl⟩ := ih fun k hk => h k (List.mem_cons_of_mem _ hk)
            exact ⟨x :: M, rfl⟩
        refine this L fun k hk => ?_
        obtain ⟨x, _, rfl⟩ := List.mem_map.mp ((mL k).mp hk)
        exact ⟨x, rfl⟩
      have lM : M.length ≤ ks.length := by rw [List.length_map, List.length_map] at lL; exact lL
      have ndM : M.Nodup := List.Pairwise.of_map _ (fun a b hne e => hne (congrArg Sum.inr e)) ndL
      have mM : ∀ x, x ∈ M ↔ x ∈ ks := fun x => by
        have := mL (Sum.inr x)
        rw [List.mem_map, List.mem_map] at this
        constructor
        · intro h
          obtain ⟨y, hy, e⟩ := this.mp ⟨x, h, rfl⟩
          cases e
          exact hy
        · intro h
          obtain ⟨y, hy, e⟩ := this.mpr ⟨x, h, rfl⟩
          cases e
          exact hy
      refine ⟨a, M.map fun x => (V.str x, PyData.str x), _, rfl, upd_same, fun h hU => ?_, fun b hb => ?_, ?_, ?_, fun b hb => ?_, fun cs p pc pw np => ⟨p, rfl, ⟨_, sqOf upd_same⟩, fun G nG => ?_⟩⟩
      · have := SH.SetQ.walked hU
        rw [List.map_map] at this
        rw [List.map_map]
        exact this
      · obtain ⟨x, _, rfl⟩ := List.mem_map.mp hb
        exact .str x
      · rw [List.map_map]
        exact alike1 M
      · rw [List.map_map]
        exact sortable1 M
      · obtain ⟨x, _, rfl⟩ := List.mem_map.mp hb
        show (PyData.str x).depth ≤ 10
        simp [PyData.depth]
      obtain ⟨N, pN, rfl⟩ := perm_map (g := fun x : Str => (V.str x, PyData.str x)) pc
      have pwN : N.Pairwise (fun a b => le1 a b = true) := List.pairwise_map.mp pw
      have e0 : (N.map fun x : Str => (V.str x, PyData.str x)).map Prod.fst = N.map V.str := by rw [List.map_map]; rfl
      rw [e0] at nG ⊢
      generalize hHp : L2.upd (L2.upd H1 a _) p (.lst (N.map V.str)) = Hp at nG ⊢
      have Sp : Same H1 Hp := by
        rw [← hHp]
        exact (same_upd na).trans (same_upd np)
      have hp : Hp p = some (.lst (N.map V.str)) := by rw [← hHp]; exact upd_same
      have nN : N.Nodup := pN.nodup_iff.mpr ndM
      refine dc_it (walk_list (a := p) (xs := N.map V.str)) (fun i H' => Same Hp H' ∧ H' G = some (.dK (kvM (N.take i)))) ⟨same_upd nG, upd_same⟩ (fun i H' _ hP => sqOf (hP.1 _ _ hp)) (fun i v H4 H5 hi hP hy => ?_) (fun H' hP => ?_)
      · obtain ⟨S4, hG⟩ := hP
        obtain ⟨rfl, ev⟩ := hy
        rw [List.getElem?_map] at ev
        cases et : N[i]? with
        | none => rw [et] at ev; cases ev
        | some x =>
        rw [et] at ev
        cases (Option.some.inj ev)
        refine ⟨rfl, .str x, rfl, _, Sum.inr x, rfl, hG, by unfold kvM; rw [List.length_map, List.length_take]; have := pN.length_eq; omega, fun c o hc => ?_, ?_⟩
        · rw [upd_ne (ne_of_none hc nG)]
          exact S4 _ _ hc
        · rw [upd_same, kvM_snoc nN et]
      · obtain ⟨S4, hG⟩ := hP
        rw [List.length_map, List.take_length] at hG
        refine q G N H' (S1.trans (Sp.trans S4)) (by
          cases c : H G with
          | none => rfl
          | some o => rw [Sp _ _ (S1 _ _ c)] at nG; cases nG) hG (fun x => ?_) ?_ ⟨nN, pwN⟩
        · rw [pN.mem_iff, mM, mk]
        · have := pN.length_eq
          omega
end
end Tb
namespace Tb
open PySem PySem.Spec PyProof.Rows L2
open PySem.W (AllAlike Sortable dataLe TotalLe)
abbrev sSInit : Stmt := inClass (topS 23) 0
abbrev NSInit : List Str := ["self", "tables", "site", "table"]
theorem scSInit : FnScope NSInit ["self", "tables"] (defScope sSInit) := ⟨rfl, rfl, rfl, by decide +kernel, rfl, by decide +kernel, by decide +kernel⟩
abbrev sSLane : Stmt := inClass (topS 23) 5
abbrev NSLane : List Str := ["self", "site", "address", "table"]
theorem scSLane : FnScope NSLane ["self", "site", "address"] (defScope sSLane) := ⟨rfl, rfl, rfl, by decide +kernel, rfl, by decide +kernel, by decide +kernel⟩
abbrev sSPath : Stmt := inClass (topS 23) 6
abbrev NSPath : List Str := ["self", "site", "address", "sites", "seen", "lane"]
theorem scSPath : FnScope NSPath ["self", "site", "address"] (defScope sSPath) := ⟨rfl, rfl, rfl, by decide +kernel, rfl, by decide +kernel, by decide +kernel⟩
abbrev sSMarks : Stmt := inClass (topS 23) 8
abbrev NSMarks : List Str := ["self"]
theorem scSMarks : FnScope NSMarks ["self"] (defScope sSMarks) := ⟨rfl, rfl, rfl, by decide +kernel, rfl, by decide +kernel, by decide +kernel⟩
structure SCls (K : PySem.W.Frag) (C : Addr) : Prop where
  c : Cls K C
  no1 : NoAttr K C wTables
  no2 : NoAttr K C wMarks
def spSInit (C CS : Addr) : Sp := fun vs H Q _ => ∃ (x dx d : Addr) (es : List En), vs = [.ref x, .ref d] ∧ H x = some (.ins CS dx []) ∧ TabsAt C H d es ∧ GoodPl (plOf es) ∧ tot (plOf es) ≤ 300 ∧ es.length ≤ 100 ∧ ∀ H', But x H H' → SortOf C CS H' x (plOf es) → Q .non H'
def spSLane (C CS : Addr) : Sp := fun vs H Q _ => ∃ (j : Addr) (t a : Str) (pl : Pl), vs = [.ref j, .str t, .str a] ∧ SortOf C CS H j pl ∧ a.length ≤ 1000 ∧ Q (laneAt pl a t) H
def PthAt (H : Hp) (T : Addr) (r : List Str × Str) : Prop := ∃ S, H T = some (.tup [.ref S, .str r.2]) ∧ H S = some (.lst (r.1.map V.str))
def spSPath (C CS : Addr) : Sp := fun vs H Q _ => ∃ (j : Addr) (t a : Str) (pl : Pl), vs = [.ref j, .str t, .str a] ∧ SortOf C CS H j pl ∧ a.length ≤ 1000 ∧ pl.length ≤ 100 ∧ ∀ (T : Addr) (H' : Hp), Same H H' → PthAt H' T (pth pl a t) → (∀ U r, H' T = some (.tup [.ref U, r]) → H U = none) → Q (.ref T) H'
def spSMarks (C CS : Addr) : Sp := fun vs H Q _ => ∃ (j : Addr) (pl : Pl), vs = [.ref j] ∧ SortOf C CS H j pl ∧ ∀ (p : Addr) (ms : List Str) (H' : Hp), Same H H' → H p = none → H' p = some (.lst (ms.map V.str)) → (∀ x, x ∈ ms ↔ isStem pl x) → ms.length ≤ tot pl → Srt ms → Q (.ref p) H'
theorem kvE_snoc {N : List En} (n : ((plOf N).map Prod.fst).Nodup) {i : Nat} {e : En} (h : N[i]? = some e) : putK (kvE (N.take i)) (Sum.inr e.2.1) (V.ref e.1) = kvE (N.take (i + 1)) := by
  have ne : e.2.1 ∉ (plOf (N.take i)).map Prod.fst := fun m => by
    have h0 : ((plOf N).map Prod.fst)[i]? = some e.2.1 := by
      unfold plOf
      rw [List.getElem?_map, List.getElem?_map, h]
      rfl
    have m2 : e.2.1 ∈ ((plOf N).map Prod.fst).take i := by
      have : (plOf (N.take i)).map Prod.fst = ((plOf N).map Prod.fst).take i := by
        unfold plOf
        rw [List.map_take, List.map_take]
      rwa [this] at m
    obtain ⟨j, hj, ej⟩ := List.mem_take_iff_getElem.mp m2
    obtain ⟨hi, ei⟩ := List.getElem?_eq_some_iff.mp h0
    have := (List.getElem_inj n).mp (ej.trans ei.symm)
    omega
  rw [putK_new _ (kvE_none ne), List.take_add_one, h]
  unfold kvE
  rw [List.map_append]
  rfl
theorem kvP_kvE {ps : List Pr} {es : List En} {e : En} (m : e ∈ es) (h : kvP ps = kvE es) : False := by
  cases es with
  | nil => cases m
  | cons x es =>
    cases ps with
    | nil => cases h
    | cons p ps =>
      have := congrArg (fun l => l.head?.map Prod.snd) h
      cases this
theorem tot_perm {one two : Pl} (h : one.Perm two) : tot one = tot two := by
  unfold tot
  induction h with
  | nil => rfl
  | cons x _ ih => rw [List.map_cons, List.map_cons, List.sum_cons, List.sum_cons, ih]
  | swap x y l =>
    rw [List.map_cons, List.map_cons, List.map_cons, List.map_cons, List.sum_cons, List.sum_cons, List.sum_cons, List.sum_cons]
    omega
  | trans _ _ a b => exact a.trans b
theorem tab_off {H : Hp} {a x C CS dx dy : Addr} {v : V} (h1 : H a = some (.ins C dx [(wLanes, v)])) (h2 : H x = some (.ins CS dy [])) : a ≠ x := ne_of h1 h2 (fun z => by cases z)
theorem name_len {t : Str} (h : isName t = true) : t.length ≤ 12 := by
  rw [len_tl]
  exact ((isName_iff t).mp h).1
theorem inr_sorted {ks : List Str} : (ks.map (Sum.inr : Str → Key)).length = ks.length := List.length_map _
theorem le1_total : TotalLe le1 := by
  unfold le1 dataLe
  exact PySem.W.sortLe_total _ _ _
theorem le1_anti {a b : Str} (h1 : le1 a b = true) (h2 : le1 b a = true) : a = b := by
  rw [le1_eq, Bool.not_eq_true'] at h1 h2
  exact sLt_tri h2 h1
section
variable {P : Program} {w : World} {K : PySem.W.Frag} {mg : Str → Option Value} {base : Heap}
abbrev CIsName (P : Program) (w : World) (K : PySem.W.Frag) (mg : Str → Option Value) (base : Heap) (g : Addr) (gd : FuncData) := C1 P w K mg base "is_name" sIsName ["text"] 2 (spT isName) g gd
abbrev CLanesOf (P : Program) (w : World) (K : PySem.W.Frag) (mg : Str → Option Value) (base : Heap) (C : Addr) (g : Addr) (gd : FuncData) := C1 P w K mg base "_lanes_of" sLanesOf ["table"] 3 (spLanesOf C) g gd
abbrev CMarksOf (P : Program) (w : World) (K : PySem.W.Frag) (mg : Str → Option Value) (base : Heap) (C : Addr) (g : Addr) (gd : FuncData) := C1 P w K mg base "_marks_of" sMarksOf ["tables"] 3 (spMarksOf C) g gd
theorem ok_sinit {f g1 g2 g3 C CS : Addr} {fd gd1 gd2 gd3 : FuncData} (F : Fun K "__init__" "Sorting.__init__" sSInit f fd) (B : Blt mg) (SC : SCls K CS) (cIsName : CIsName P w K mg base g1 gd1) (cLanesOf : CLanesOf P w K mg base C g2 gd2) (cMarksOf : CMarksOf P w K mg base C g3 gd3) : FnOk P w K mg base CX0 5 f fd ["self", "tables"] (spSInit C CS) := by
  refine F.ok scSInit (fun vs H Q E h => ?_) (fun cdv A outer s H vs Q E hr h => ?_)
  · obtain ⟨x, dx, d, es, rfl, _⟩ := h
    rfl
  · obtain ⟨x, dx, d, es, rfl, hx, hd, hg, ht, hn, q⟩ := h
    have hu := hu_of hr
    have hz : sizeLine = 16777216 := rfl
    have xd : x ≠ d := ne_of hx hd.d (fun z => by cases z)
    refine ⟨_, (pss_cons (ps_lock (ps_for PassesOwn.never rfl (pi_items (pv 1)) (pg_tup (by rfl) (pgs_cons (pg_name (i := 2) scSInit.nd rfl (.inl rfl)) (pgs_cons (pg_name (i := 3) scSInit.nd rfl (.inl rfl)) pgs_nil)))
        (pss_one (ps_if (PW.pt (pw_or (pt_not (pt_val (pe_call cIsName.G (hr.mono (by first | decide | omega)) (by rfl) cIsName.D.g cIsName.D.F.kp cIsName.D.b .nil pass0 (pa_cons (pv 2) pa_nil)))) (pw_or1 (pt_cmpR op_in_seq (pv 2) (pe_call cLanesOf.G (hr.mono (by first | decide | omega)) (by rfl) cLanesOf.D.g cLanesOf.D.F.kp cLanesOf.D.b .nil pass0 (pa_cons (pv 3) pa_nil)) (by rfl)))))
          (pss_one ps_never)
          pss_nil))))
      (pss_cons (ps_fld (pv 0) (pe_dc (own := [("site", 2)]) (g := gName 2) (by rfl) scSInit.nd (pi_list (pe_callB (cr_sortedDk rfl hr.units) (by rfl) B.sorted PyProof.Rows.boot_sorted (pa_cons (pv 1) pa_nil))) (blkOk_by (N := NSInit) (sc := defScope sSInit) (by decide +kernel)) (fun _ _ _ _ _ => pg_name (i := 2) scSInit.nd rfl (Or.inl rfl)) (fun _ _ _ _ _ => pts_nil) (fun _ _ _ _ _ => pv 2) (fun _ _ _ _ _ => pe_dget hu (pv 1) (pv 2) (fun _ _ => rfl))) rfl)
      (pss_one (ps_fld (pv 0) (pe_call cMarksOf.G (hr.mono (by first | decide | omega)) (by rfl) cMarksOf.D.g cMarksOf.D.F.kp cMarksOf.D.b .nil pass0 (pa_cons (pe_listValues rfl (pe_fld (pv 0) rfl) (by rfl) B.list PyProof.Rows.boot_list) pa_nil)) rfl)))), ?_⟩
    refine ⟨d, .dK (kvE es), hd.d, trivial, fun od => ?_⟩
    refine ⟨.ref d, rfl, d, od, kvE es, rfl, upd_same, ?_⟩
    refine for_it (walk_items (d := d) (o := od) (kvs := kvE es)) (fun i σ H' => (∃ y2 y3, σ = [some (.ref x), some (.ref d), y2, y3]) ∧ But d H H' ∧ H' d = some (.frz od (.dK (kvE es))))
      ⟨⟨none, none, rfl⟩, fun c o hc nc => by rw [upd_ne nc]; exact hc, upd_same⟩ (fun i σ H' _ hP => hP.2.2) (fun i v σ H5 H6 hi hP hy => ?_) (fun σ H5 hP => ?_)
    · obtain ⟨⟨y2, y3, rfl⟩, b5, d5⟩ := hP
      obtain ⟨T, kx, vx, rfl, nT, rfl, ek, ev⟩ := hy
      dsimp only at ek ev
      rw [show (kvE es)[i]? = (es[i]?).map (fun e => (Sum.inr e.2.1, V.ref e.1)) by unfold kvE; rw [List.getElem?_map]] at ek ev
      cases ee : es[i]? with
      | none => rw [ee] at ek; cases ek
      | some e =>
      rw [ee] at ek ev
      obtain rfl : V.str e.2.1 = kx := Option.some.inj ek
      obtain rfl : V.ref e.1 = vx := Option.some.inj ev
      have m := List.mem_of_getElem? ee
      have ge := hg.e e.2 (List.mem_map.mpr ⟨e, m, rfl⟩)
      obtain ⟨dy, dd, h1, h2⟩ := (hd.t e m).ex
      have hT5 : TabOf C H5 e.1 e.2.2 := ⟨⟨dy, dd, b5 _ _ h1 (ne_of h1 hd.d (fun z => by cases z)), b5 _ _ h2 (ne_of h2 hd.d (fun z => kvP_kvE m (HO.dK.inj z)))⟩, (hd.t e m).g, (hd.t e m).n⟩
      · have S6 : Same H5 (L2.upd H5 T (.tup [.str e.2.1, .ref e.1])) := same_upd nT
        refine ⟨T, _, rfl, .of upd_same, rfl, .str e.2.1, _, rfl, .ref e.1, _, rfl, rfl, ?_⟩
        have hT6 := hT5.same S6
        have hd6 := S6 _ _ d5
        have b6 : But d H (L2.upd H5 T (.tup [.str e.2.1, .ref e.1])) := b5.trans (Same.but S6)
        generalize L2.upd H5 T (.tup [V.str e.2.1, V.ref e.1]) = H7 at hT6 hd6 b6
        have nl := name_len ge.1
        refine ⟨.str e.2.1, rfl, e.2.1, rfl, by omega, fun H8 S8 => ⟨_, rfl, ?_⟩⟩
        rw [ge.1]
        refine ⟨.str e.2.1, rfl, .ref e.1, rfl, e.1, e.2.2, rfl, hT6.same S8, fun p H9 S9 hp => ⟨p, _, rfl, .inl (sqOf hp), rfl, flat_strs _, ?_⟩⟩
        have nin : inV (.str e.2.1) (((e.2.2.mergeSort le2).map Prod.snd).map V.str) = false := by
          cases c : inV (.str e.2.1) (((e.2.2.mergeSort le2).map Prod.snd).map V.str) with
          | false => rfl
          | true => exact absurd (((List.mergeSort_perm e.2.2 le2).map Prod.snd).mem_iff.mp (str_inV c)) ge.2.2
        rw [nin]
        exact ⟨_, rfl, ⟨_, _, rfl⟩, (b6.trans (Same.but S8)).trans (Same.but S9), S9 _ _ (S8 _ _ hd6)⟩
    · obtain ⟨⟨y2, y3, rfl⟩, b5, d5⟩ := hP
      refine ⟨d5, ?_⟩
      have S0 : Same H (L2.upd H5 d (.dK (kvE es))) := fun c o hc => by
        by_cases e : c = d
        · subst e
          rw [upd_same, ← hd.d]
          exact hc
        · rw [upd_ne e]
          exact b5 _ _ hc e
      generalize L2.upd H5 d (.dK (kvE es)) = H6 at S0
      have eks : (kvE es).map (·.1) = ((plOf es).map Prod.fst).map Sum.inr := by
        unfold kvE plOf
        rw [List.map_map, List.map_map, List.map_map]
        rfl
      refine ⟨.ref d, rfl, d, _, (plOf es).map Prod.fst, rfl, .of (S0 _ _ hd.d), eks, by rw [List.length_map, plOf_len]; omega, fun p np => ⟨p, rfl, ⟨_, sqOf upd_same⟩, fun G nG => ?_⟩⟩
      obtain ⟨N, pN, eN⟩ := perm_map (g := fun e : En => e.2.1) (cs := ((plOf es).map Prod.fst).mergeSort (PySem.W.dataLe false PyData.str)) (M := es) (by
        have := List.mergeSort_perm ((plOf es).map Prod.fst) (PySem.W.dataLe false PyData.str)
        rw [show es.map (fun e : En => e.2.1) = (plOf es).map Prod.fst by unfold plOf; rw [List.map_map]; rfl]
        exact this)
      rw [eN] at nG ⊢
      have pP : (plOf N).Perm (plOf es) := pN.map _
      have nN : ((plOf N).map Prod.fst).Nodup := (pP.map Prod.fst).nodup_iff.mpr hg.n
      have S7 : Same H (L2.upd H6 p (.lst ((N.map fun e : En => e.2.1).map V.str))) := S0.trans (same_upd np)
      have hp : (L2.upd H6 p (.lst ((N.map fun e : En => e.2.1).map V.str))) p = some (.lst ((N.map fun e : En => e.2.1).map V.str)) := upd_same
      generalize L2.upd H6 p (.lst ((N.map fun e : En => e.2.1).map V.str)) = H7 at S7 hp nG
      refine dc_it (walk_list (a := p) (xs := (N.map fun e : En => e.2.1).map V.str)) (fun i H' => Same H7 H' ∧ H' G = some (.dK (kvE (N.take i)))) ⟨same_upd nG, upd_same⟩ (fun i H' _ hP => sqOf (hP.1 _ _ hp)) (fun i v H4 H5 hi hP hy => ?_) (fun H' hP => ?_)
      · obtain ⟨S4, hG⟩ := hP
        obtain ⟨rfl, ev⟩ := hy
        rw [List.getElem?_map, List.getElem?_map] at ev
        cases et : N[i]? with
        | none => rw [et] at ev; cases ev
        | some e =>
        rw [et] at ev
        cases (Option.some.inj ev)
        have m := pN.mem_iff.mp (List.mem_of_getElem? et)
        refine ⟨rfl, .str e.2.1, rfl, .ref d, rfl, .str e.2.1, rfl, d, .ref e.1, rfl, ?_, _, Sum.inr e.2.1, rfl, hG, by rw [kvE_len, List.length_take]; have := pN.length_eq; omega, fun c o hc => ?_, ?_⟩
        · rw [← kvE_val hg.n m]
          exact DGet.k (k := Sum.inr e.2.1) (S4 _ _ (S7 _ _ hd.d))
        · rw [upd_ne (ne_of_none hc nG)]
          exact S4 _ _ hc
        · rw [upd_same, kvE_snoc nN et]
      · obtain ⟨S4, hG⟩ := hP
        rw [List.length_map, List.length_map, List.take_length] at hG
        have S8 := S7.trans S4
        have hx8 := S8 _ _ hx
        have Gx : G ≠ x := ne_of hG hx8 (fun z => by cases z)
        refine ⟨.ref x, rfl, x, CS, dx, [], rfl, hx8, SC.c, SC.no1, by decide, ?_⟩
        have b9 : But x H (L2.upd H' x (.ins CS dx (putF wTables (.ref G) []))) := (Same.but S8).trans But.upd
        have hG9 : (L2.upd H' x (.ins CS dx (putF wTables (.ref G) []))) G = some (.dK (kvE N)) := by rw [upd_ne Gx]; exact hG
        have hx9 : (L2.upd H' x (.ins CS dx (putF wTables (.ref G) []))) x = some (.ins CS dx [(wTables, .ref G)]) := upd_same
        have ht9 : ∀ e ∈ N, TabOf C (L2.upd H' x (.ins CS dx (putF wTables (.ref G) []))) e.1 e.2.2 := fun e he => by
          obtain ⟨⟨dy, dd, h1, h2⟩, g, n⟩ := hd.t e (pN.mem_iff.mp he)
          exact ⟨⟨dy, dd, b9 _ _ h1 (tab_off h1 hx), b9 _ _ h2 (ne_of h2 hx (fun z => by cases z))⟩, g, n⟩
        generalize L2.upd H' x (.ins CS dx (putF wTables (.ref G) [])) = H9 at b9 hG9 hx9 ht9
        refine ⟨.ref x, rfl, x, CS, dx, _, .ref G, rfl, hx9, SC.c, SC.no1, lk1, G, kvE N, rfl, hG9, fun l nl => ?_⟩
        have Sl : Same H9 (L2.upd H9 l (.lst ((kvE N).map (·.2)))) := same_upd nl
        have tN := tot_perm pP
        refine ⟨l, N, rfl, by rw [upd_same]; unfold kvE; rw [List.map_map]; rfl, fun e he => (ht9 e he).same Sl, by omega, fun p2 ms H10 S10 _ hp2 hms lms srt => ?_⟩
        have S9 := Sl.trans S10
        have hx10 := S9 _ _ hx9
        refine ⟨.ref x, rfl, x, CS, dx, _, rfl, hx10, SC.c, SC.no2, by show 1 < 1000; omega, ?_⟩
        have b11 : But x H (L2.upd H10 x (.ins CS dx (putF wMarks (.ref p2) [(wTables, .ref G)]))) := (b9.trans (Same.but S9)).trans But.upd
        refine q _ b11 ⟨⟨dx, G, p2, N, ms, upd_same, ⟨?_, fun e he => ?_⟩, pP, ?_, fun z => (hms z).trans (isStem_perm pP z), by omega, srt, by
          rw [show (plOf N).map Prod.fst = N.map (fun e : En => e.2.1) by unfold plOf; rw [List.map_map]; rfl, ← eN]
          exact PySem.W.sort_pairwise le1_total _⟩, hg⟩
        · rw [upd_ne Gx]
          exact S9 _ _ hG9
        · obtain ⟨⟨dy, dd, h1, h2⟩, g, n⟩ := hd.t e (pN.mem_iff.mp he)
          exact ⟨⟨dy, dd, b11 _ _ h1 (tab_off h1 hx), b11 _ _ h2 (ne_of h2 hx (fun z => by cases z))⟩, g, n⟩
        · rw [upd_ne (ne_of hp2 hx10 (fun z => by cases z))]
          exact hp2
end
end Tb
namespace Tb
open PySem PySem.Spec PyProof.Rows L2
open PySem.W (AllAlike Sortable dataLe)
theorem lk2 {f g : Str} {u v : V} (h : (g == f) = false) : List.lookup g [(f, u), (g, v)] = some v := by
  rw [List.lookup_cons, h]
  exact lk1
theorem lkT {u v : V} : List.lookup wTables [(wTables, u), (wMarks, v)] = some u := by
  rw [List.lookup_cons, beq_self_eq_true]
theorem lkM {u v : V} : List.lookup wMarks [(wTables, u), (wMarks, v)] = some v := lk2 (by decide)
theorem lane_of_case {es : List En} {pl : Pl} (p : (plOf es).Perm pl) (g : GoodPl pl) (a t : Str) : (∃ e ∈ es, e.2.1 = t ∧ laneAt pl a t = laneV (kvP e.2.2) a) ∨ (t ∉ (plOf es).map Prod.fst ∧ laneAt pl a t = .non) := by
  have n : ((plOf es).map Prod.fst).Nodup := (p.map Prod.fst).nodup_iff.mpr g.n
  rcases es_case es t with ⟨e, he, rfl⟩ | h
  · refine .inl ⟨e, he, rfl, ?_⟩
    unfold laneAt
    rw [← rows_perm p n, rows_of_mem n he]
  · refine .inr ⟨h, ?_⟩
    unfold laneAt
    rw [← rows_perm p n, rows_not h, lane_nil]
section
variable {P : Program} {w : World} {K : PySem.W.Frag} {mg : Str → Option Value} {base : Heap}
theorem ok_slane {f C CS CI CU : Addr} {fd : FuncData} (F : Fun K "lane" "Sorting.lane" sSLane f fd) (B : Blt mg) (SC : SCls K CS) (TK : TabK P w K mg base C CI CU) : FnOk P w K mg base CX0 4 f fd ["self", "site", "address"] (spSLane C CS) := by
  obtain ⟨fC, fdC, hC, bC, FC⟩ := TK.call
  have FCr : FnR P w K mg base CX0 3 fC (spTCall C) := (FC.raw bC .nil).imp fun vs H Q E h => by rw [List.append_nil]; exact h
  refine F.ok scSLane (fun vs H Q E h => ?_) (fun cdv A outer s H vs Q E hr h => ?_)
  · obtain ⟨j, t, a, pl, rfl, _⟩ := h
    rfl
  · obtain ⟨j, t, a, pl, rfl, hS, la, q⟩ := h
    obtain ⟨⟨dx, dt, dm, es, ms, h1, h2, h3, h4, h5⟩, g⟩ := hS
    have hu := hu_of hr
    have n : ((plOf es).map Prod.fst).Nodup := (h3.map Prod.fst).nodup_iff.mpr g.n
    refine ⟨_, (pss_cons (ps_if (pt_cmp (pc_dnotin hu (pv 1) (pe_fld (pv 0) rfl)))
        (pss_one (ps_ret pe_non))
        pss_nil)
      (pss_cons (ps_set (i := 3) scSLane.nd rfl (.inl rfl) (pe_dget hu (pe_fld (pv 0) rfl) (pv 1) (fun _ _ => rfl)))
      (pss_one (ps_ret (StX.pe_callO (pv 3) hC FCr (hr.mono (by first | decide | omega)) pass0 (pa_cons (pv 2) pa_nil)))))), ?_⟩
    refine ⟨.str t, rfl, .ref j, rfl, j, CS, dx, _, .ref dt, rfl, h1, SC.c, SC.no1, lkT, dt, _, rfl, DGet.k (k := Sum.inr t) h2.d, ?_⟩
    rcases lane_of_case h3 g a t with ⟨e, he, rfl, el⟩ | ⟨ht, el⟩
    · rw [kvE_val n he]
      refine ⟨_, rfl, ?_⟩
      refine ⟨.ref j, rfl, j, CS, dx, _, .ref dt, rfl, h1, SC.c, SC.no1, lkT, .str e.2.1, rfl, dt, .ref e.1, rfl, ?_, ?_⟩
      · rw [← kvE_val n he]
        exact DGet.k (k := Sum.inr e.2.1) h2.d
      have hT := h2.t e he
      obtain ⟨dy, dd, hi, _⟩ := hT.ex
      rw [el] at q
      exact ⟨.ref e.1, rfl, e.1, rfl, .str a, rfl, .inr ⟨dy, _, hi⟩, e.1, e.2.2, a, rfl, hT, la, q⟩
    · rw [kvE_none ht]
      refine ⟨_, rfl, ?_⟩
      rw [el] at q
      exact q
/-- what stands while the path is followed -/
structure Way (pl : Pl) (a t : Str) (p : List Str) (l : Str) (n : Nat) : Prop where
  e : pth pl a t = pathF (laneAt pl a) (n + 1) p l
  nd : (p ++ [l]).Nodup
  k : ∀ x ∈ p, x ∈ pl.map Prod.fst
  n : n + p.length = pl.length
theorem Way.next {pl : Pl} {a t : Str} {p : List Str} {l x : Str} {n : Nat} (W : Way pl a t p l n) (h : laneAt pl a l = .str x) (h0 : x ≠ wE) (nx : x ∉ p ++ [l]) : ∃ m, n = m + 1 ∧ Way pl a t (p ++ [l]) x m := by
  have kl : l ∈ pl.map Prod.fst := lane_key (a := a) (by rw [h]; exact fun e => by cases e)
  have ks : ∀ y ∈ p ++ [l], y ∈ pl.map Prod.fst := fun y hy => by
    rcases List.mem_append.mp hy with m | m
    · exact W.k y m
    · rw [List.mem_singleton.mp m]
      exact kl
  have hl := sub_len (p ++ [l]) (pl.map Prod.fst) W.nd ks
  rw [List.length_append, List.length_map] at hl
  have hn := W.n
  have h1 : ([l] : List Str).length = 1 := rfl
  obtain ⟨m, rfl⟩ : ∃ m, n = m + 1 := ⟨n - 1, by omega⟩
  refine ⟨m, rfl, ?_, ?_, ks, by rw [List.length_append]; omega⟩
  · rw [W.e]
    conv => lhs; unfold pathF
    rw [h]
    dsimp only
    rw [if_neg h0, if_neg nx]
  · exact List.nodup_append.mpr ⟨W.nd, List.nodup_cons.mpr ⟨List.not_mem_nil, List.nodup_nil⟩, fun y hy z hz e => nx (by rw [← List.mem_singleton.mp hz, ← e]; exact hy)⟩
theorem Way.loop {pl : Pl} {a t : Str} {p : List Str} {l x : Str} {n : Nat} (W : Way pl a t p l n) (h : laneAt pl a l = .str x) (h0 : x ≠ wE) (nx : x ∈ p ++ [l]) : pth pl a t = (p ++ [l] ++ [x], wLoop) := by
  rw [W.e]
  conv => lhs; unfold pathF
  rw [h]
  dsimp only
  rw [if_neg h0, if_pos nx]
theorem Way.here {pl : Pl} {a t : Str} {p : List Str} {l : Str} {n : Nat} (W : Way pl a t p l n) (h : laneAt pl a l = .str wE) : pth pl a t = (p ++ [l], wHere) := by
  rw [W.e]
  conv => lhs; unfold pathF
  rw [h]
  dsimp only
  rw [if_pos rfl]
theorem Way.none {pl : Pl} {a t : Str} {p : List Str} {l : Str} {n : Nat} (W : Way pl a t p l n) (h : laneAt pl a l = .non) : pth pl a t = (p ++ [l], wNone) := by
  rw [W.e]
  conv => lhs; unfold pathF
  rw [h]
theorem Way.zero (pl : Pl) (a t : Str) : Way pl a t [] t pl.length := ⟨rfl, List.nodup_cons.mpr ⟨List.not_mem_nil, List.nodup_nil⟩, fun x h => (by cases h), Nat.add_zero _⟩
theorem ok_spath {f gL C CS : Addr} {fd gdL : FuncData} (F : Fun K "path" "Sorting.path" sSPath f fd) (B : Blt mg) (zset : mg "set" = none) (SC : SCls K CS) (SLm : Meth K CS "lane" gL) (bLa : Binds K gdL ["self", "site", "address"] []) (FLa : FnOk P w K mg base CX0 4 gL gdL ["self", "site", "address"] (spSLane C CS)) : FnOk P w K mg base CX0 5 f fd ["self", "site", "address"] (spSPath C CS) := by
  refine F.ok scSPath (fun vs H Q E h => ?_) (fun cdv A outer s H vs Q E hr h => ?_)
  · obtain ⟨j, t, a, pl, rfl, _⟩ := h
    rfl
  · obtain ⟨j, t, a, pl, rfl, hS, la, lp, q⟩ := h
    have hz : sizeLine = 16777216 := rfl
    have sb : scanBound = 4096 := rfl
    refine ⟨_, (pss_cons (ps_set (i := 3) scSPath.nd rfl (.inl rfl) (pe_lst (pa_cons (pv 1) pa_nil)))
      (pss_cons (ps_set (i := 4) scSPath.nd rfl (.inl rfl) (pe_callTy0 (r := rSet0K P w) cr_set0K (by rfl) zset boot_set))
      (pss_cons (ps_expr (pe_saddK (pv 4) (pa_cons (pv 1) pa_nil)))
      (pss_cons (ps_set (i := 5) scSPath.nd rfl (.inl rfl) (pe_meth (pv 0) SC.c SLm FLa (hr.mono (by first | decide | omega)) bLa .nil pass0 (pa_cons (pv 1) (pa_cons (pv 2) pa_nil))))
      (pss_cons (ps_while PassesOwn.never (PW.pt (pw_and (pt_cmpR op_notN (pv 5) pe_non (nomark _)) (pw_and1 (pt_cmpR op_ne (pv 5) ((pe_txt (by rfl) B.hr)) (nomark _)))))
        (pss_cons (ps_expr (pe_bm PySem.F.plainAttrs_list PySem.F.slot_list_append PySem.F.type_list_append mt_append (pv 3) (pa_cons (pv 5) pa_nil)))
        (pss_cons (ps_if (pt_cmpR or_sinK (pv 5) (pv 4) (by rfl))
          (pss_one (ps_ret (pe_tup (pa_cons (pv 3) (pa_cons pe_str pa_nil)))))
          pss_nil)
        (pss_cons (ps_expr (pe_saddK (pv 4) (pa_cons (pv 5) pa_nil)))
        (pss_one (ps_set (i := 5) scSPath.nd rfl (.inl rfl) (pe_meth (pv 0) SC.c SLm FLa (hr.mono (by first | decide | omega)) bLa .nil pass0 (pa_cons (pv 5) (pa_cons (pv 2) pa_nil)))))))))
      (pss_one (ps_ret (pe_tup (pa_cons (pv 3) (pa_cons (pe_ifExp (pt_cmpR op_isN (pv 5) pe_non (nomark _)) pe_str pe_str) pa_nil)))))))))), ?_⟩
    refine ⟨.str t, rfl, by show 1 ≤ sizeLine; omega, fun S nS => ?_⟩
    refine ⟨rfl, fun U nU => ?_⟩
    have SU : S ≠ U := ne_of_none upd_same nU
    have nUH : H U = none := by rwa [upd_ne (Ne.symm SU)] at nU
    refine ⟨.ref U, rfl, ⟨U, _, _, rfl, upd_same⟩, .str t, rfl, U, Sum.inr t, _, _, rfl, rfl, upd_same, by omega, ?_⟩
    have S0 : ∀ o : HO, Same H (L2.upd (L2.upd (L2.upd H S (.lst [V.str t])) U (SetK P w U (fun _ => false) 0)) U o) := fun o c x hc => by
      have n1 : c ≠ S := ne_of_none hc nS
      have n2 : c ≠ U := ne_of_none hc nUH
      rw [upd_ne n2, upd_ne n2, upd_ne n1]
      exact hc
    have hS0 : ∀ o : HO, (L2.upd (L2.upd (L2.upd H S (.lst [V.str t])) U (SetK P w U (fun _ => false) 0)) U o) S = some (.lst (([] ++ [t] : List Str).map V.str)) := fun o => by
      rw [upd_ne SU, upd_ne SU, upd_same]
      rfl
    have hU0 : ∀ o : HO, (L2.upd (L2.upd (L2.upd H S (.lst [V.str t])) U (SetK P w U (fun _ => false) 0)) U o) U = some o := fun o => upd_same
    obtain ⟨dx, dt, dm, hj⟩ : ∃ dx dt dm, H j = some (.ins CS dx [(wTables, .ref dt), (wMarks, .ref dm)]) := let ⟨⟨dx, dt, dm, _, _, h, _⟩, _⟩ := hS; ⟨dx, dt, dm, h⟩
    generalize hH3 : L2.upd (L2.upd (L2.upd H S _) U _) U _ = H3
    have S3 : Same H H3 := by rw [← hH3]; exact S0 _
    have hS3 : H3 S = some (.lst (([] ++ [t] : List Str).map V.str)) := by rw [← hH3]; exact hS0 _
    have hU3 : H3 U = some (SetK P w U (fun k => false || decide (k = Sum.inr t)) (if false = true then 0 else 0 + 1)) := by rw [← hH3]; exact hU0 _
    clear hH3 S0 hS0 hU0
    refine ⟨.ref j, rfl, j, dx, _, rfl, S3 _ _ hj, rfl, .str t, rfl, .str a, rfl, j, t, a, pl, rfl, hS.same S3, la, ?_⟩
    refine ⟨fun m σ H' => ∃ p l Sx cnt, σ = [some (.ref j), some (.str t), some (.str a), some (.ref S), some (.ref U), some (laneAt pl a l)] ∧ Way pl a t p l m ∧ Same H H' ∧ H' S = some (.lst ((p ++ [l]).map V.str)) ∧ H' U = some (SetK P w U Sx cnt) ∧ (∀ x : Str, Sx (Sum.inr x) = decide (x ∈ p ++ [l])) ∧ cnt ≤ p.length + 1,
      ⟨pl.length, [], t, _, _, rfl, Way.zero pl a t, S3, hS3, hU3, fun x => ?_, by decide⟩, ?_⟩
    · rw [Bool.false_or]
      exact decide_eq_decide.mpr (by rw [List.nil_append, List.mem_singleton]; exact inr_eq)
    rintro m σ H4 ⟨p, l, Sx, cnt, rfl, W, S4, hS4, hU4, hx, hc⟩
    have lm := W.n
    rcases lane_str pl a l with el | ⟨x, el⟩
    · rw [el]
      refine ⟨.non, rfl, rfl, false, rfl, ?_⟩
      refine ⟨.ref S, rfl, .non, rfl, rfl, true, rfl, by show 2 ≤ sizeLine; omega, fun T nT => q T _ (S4.trans (same_upd nT)) ⟨S, ?_, ?_⟩ fun U' r' z => by rw [upd_same] at z; cases z; exact nS⟩
      · rw [upd_same, W.none el]
        rfl
      · rw [upd_ne (ne_of_none hS4 nT), W.none el]
        exact hS4
    · rw [el]
      refine ⟨.str x, rfl, rfl, true, rfl, ?_⟩
      refine ⟨.str x, rfl, rfl, _, rfl, ?_⟩
      refine ite2 (fun u => ?_) (fun u => ?_)
      · rw [Bool.not_eq_true', decide_eq_false_iff_not] at u
        have c0 : x ≠ wE := fun e => u (by rw [e]; rfl)
        refine ⟨fun σ' H' => ∃ k, k < m ∧ ∃ p l Sx cnt, σ' = [some (.ref j), some (.str t), some (.str a), some (.ref S), some (.ref U), some (laneAt pl a l)] ∧ Way pl a t p l k ∧ Same H H' ∧ H' S = some (.lst ((p ++ [l]).map V.str)) ∧ H' U = some (SetK P w U Sx cnt) ∧ (∀ x : Str, Sx (Sum.inr x) = decide (x ∈ p ++ [l])) ∧ cnt ≤ p.length + 1, fun σ' H' h => h, ?_⟩
        have S5 : Same H (L2.upd H4 S (.lst ((p ++ [l]).map V.str ++ [V.str x]))) := fun b o hb => by
          rw [upd_ne (ne_of_none hb nS)]
          exact S4 _ _ hb
        have hU5 : (L2.upd H4 S (.lst ((p ++ [l]).map V.str ++ [V.str x]))) U = some (SetK P w U Sx cnt) := by rw [upd_ne (Ne.symm SU)]; exact hU4
        have hS5 : (L2.upd H4 S (.lst ((p ++ [l]).map V.str ++ [V.str x]))) S = some (.lst ((p ++ [l] ++ [x]).map V.str)) := by
          rw [upd_same, List.map_append (l₂ := [x])]
          rfl
        refine ⟨.ref S, rfl, .inl ⟨rfl, _, sqOf hS4⟩, .str x, rfl, S, _, .str x, rfl, rfl, hS4, by rw [List.length_map, List.length_append]; show p.length + 1 < sizeLine; omega, ?_⟩
        generalize L2.upd H4 S (.lst ((p ++ [l]).map V.str ++ [V.str x])) = H5 at S5 hU5 hS5
        refine ⟨.str x, rfl, .ref U, rfl, Sum.inr x, U, _, _, rfl, rfl, hU5, _, rfl, ?_⟩
        show if (Sx (Sum.inr x)) = true then _ else _
        rw [hx x]
        by_cases c2 : x ∈ p ++ [l]
        · rw [decide_eq_true c2]
          refine ⟨.ref S, rfl, by show 2 ≤ sizeLine; omega, fun T nT => q T _ (S5.trans (same_upd nT)) ⟨S, ?_, ?_⟩ fun U' r' z => by rw [upd_same] at z; cases z; exact nS⟩
          · rw [upd_same, W.loop el c0 c2]
            rfl
          · rw [upd_ne (ne_of_none hS5 nT), W.loop el c0 c2]
            exact hS5
        · rw [decide_eq_false c2]
          obtain ⟨m', rfl, W'⟩ := W.next el c0 c2
          refine ⟨.ref U, rfl, ⟨U, _, _, rfl, hU5⟩, .str x, rfl, U, Sum.inr x, _, _, rfl, rfl, hU5, by omega, ?_⟩
          have e6 : Sx (Sum.inr x) = false := by rw [hx x]; exact decide_eq_false c2
          have S6 : ∀ o : HO, Same H (L2.upd H5 U o) := fun o b y hb => by
            rw [upd_ne (ne_of_none hb nUH)]
            exact S5 _ _ hb
          have hS6 : ∀ o : HO, (L2.upd H5 U o) S = some (.lst ((p ++ [l] ++ [x]).map V.str)) := fun o => by rw [upd_ne SU]; exact hS5
          refine ⟨.ref j, rfl, j, dx, _, rfl, S6 _ _ _ hj, rfl, .str x, rfl, .str a, rfl, j, x, a, pl, rfl, hS.same (S6 _), la, ?_⟩
          refine ⟨m', Nat.lt_succ_self _, p ++ [l], x, _, _, rfl, W', S6 _, hS6 _, upd_same, fun y => ?_, ?_⟩
          · show (Sx (Sum.inr y) || decide ((Sum.inr y : Key) = Sum.inr x)) = _
            rw [hx y]
            by_cases c3 : y = x
            · subst c3
              rw [decide_eq_true (rfl : (Sum.inr y : Key) = Sum.inr y), decide_eq_true (List.mem_append_right _ List.mem_cons_self), Bool.or_true]
            · rw [decide_eq_false fun e => c3 (inr_eq.mp e), Bool.or_false]
              exact decide_eq_decide.mpr ⟨fun h => List.mem_append_left _ h, fun h => (List.mem_append.mp h).resolve_right fun h => c3 (List.mem_singleton.mp h)⟩
          · rw [e6, List.length_append]
            show cnt + 1 ≤ p.length + 1 + 1
            omega
      · rw [Bool.not_eq_true', decide_eq_false_iff_not, Decidable.not_not] at u
        obtain rfl : x = wE := V.str.inj u
        refine ⟨.ref S, rfl, .str wE, rfl, rfl, false, rfl, by show 2 ≤ sizeLine; omega, fun T nT => q T _ (S4.trans (same_upd nT)) ⟨S, ?_, ?_⟩ fun U' r' z => by rw [upd_same] at z; cases z; exact nS⟩
        · rw [upd_same, W.here el]
          rfl
        · rw [upd_ne (ne_of_none hS4 nT), W.here el]
          exact hS4
end
end Tb
namespace L2
open PySem PySem.Spec PyProof.Rows
section
variable {X : Cx} {tg : Expr}
/-- a list or a tuple -/
def iSeq (K : PySem.W.Frag) (tl : TE) : TI := fun σ H R => tl σ H fun x H1 => ∃ a, x = .ref a ∧ (((∃ xs, SqL K H1 a xs) ∧ R (Itl K a) H1) ∨ ((∃ xs, SqT K H1 a xs) ∧ R (Itt K a) H1))
theorem pi_seq {l : Expr} {tl : TE} (hl : PE X l tl) : PI X tg l (iSeq X.K tl) := by
  refine ⟨fun pins s σ H R I h => ?_⟩
  refine thn (hl.run pins s σ H _ I h) fun v s1 ⟨x, H1, I1, r1, q1⟩ => ?_
  obtain ⟨a, e, q⟩ := q1
  subst e
  cases r1
  rcases q with ⟨⟨xs, hq⟩, q⟩ | ⟨⟨xs, hq⟩, q⟩
  · obtain ⟨its, rv, p, hz⟩ := I1.list hq
    refine wpAny_pyIter_list p.isList ?_
    refine ⟨s1.heap.objs.size, [s1.heap.objs.size], _, _, H1, rfl, I1.kept (t' := s1.toks) fun b o e => Heap.get?_push_of_some _ e, turn_list a _, ⟨_, Heap.get?_push_size _ rfl, rfl, rfl⟩, fun b hb => ?_, q⟩
    have e : b = s1.heap.objs.size := by simpa using hb
    subst e
    exact I1.fpOk (Nat.le_refl _) (I1.hok.fresh (Nat.le_refl _))
  · obtain ⟨its, rv, p, hz⟩ := I1.tuple hq
    refine wpAny_pyIter_tuple (show s1.heap.IsTuple a its.toArray from p) ?_
    refine ⟨s1.heap.objs.size, [s1.heap.objs.size], _, _, H1, rfl, I1.kept (t' := s1.toks) fun b o e => Heap.get?_push_of_some _ e, turn_tuple a _, ⟨_, Heap.get?_push_size _ rfl, rfl, rfl⟩, fun b hb => ?_, q⟩
    have e : b = s1.heap.objs.size := by simpa using hb
    subst e
    exact I1.fpOk (Nat.le_refl _) (I1.hok.fresh (Nat.le_refl _))
end
end L2
namespace Tb
open PySem PySem.Spec PyProof.Rows L2
open PySem.W (AllAlike Sortable dataLe)
/-! ### a row of one town changed -/
def plAft (pl : Pl) (t p : Str) (o : Option Str) : Pl := if t ∈ pl.map Prod.fst then pl.map (fun e => if e.1 = t then (t, aft e.2 p o) else e) else pl ++ [(t, aft [] p o)]
theorem aft_mem {own : List Pr} {p : Str} {o : Option Str} {q : Pr} (h : q ∈ aft own p o) : q ∈ own ∨ ∃ l, o = some l ∧ q = (p, l) := by
  cases o with
  | none => exact .inl (List.mem_filter.mp h).1
  | some l => exact (mem_put h).imp id fun e => ⟨l, rfl, e⟩
theorem plAft_keys_in {pl : Pl} {t p : Str} {o : Option Str} (h : t ∈ pl.map Prod.fst) : (plAft pl t p o).map Prod.fst = pl.map Prod.fst := by
  unfold plAft
  rw [if_pos h, List.map_map]
  refine List.map_congr_left fun e _ => ?_
  show (if e.1 = t then (t, aft e.2 p o) else e).1 = e.1
  split
  · rename_i c
    exact c.symm
  · rfl
theorem plAft_len {pl : Pl} {t p : Str} {o : Option Str} : (plAft pl t p o).length ≤ pl.length + 1 := by
  unfold plAft
  split
  · rw [List.length_map]
    omega
  · rw [List.length_append]
    exact Nat.le_refl _
theorem tot_cons (e : Str × List Pr) (pl : Pl) : tot (e :: pl) = e.2.length + tot pl := by
  unfold tot
  rw [List.map_cons, List.sum_cons]
theorem map_other {pl : Pl} {t p : Str} {o : Option Str} (h : t ∉ pl.map Prod.fst) : pl.map (fun e => if e.1 = t then (t, aft e.2 p o) else e) = pl := by
  induction pl with
  | nil => rfl
  | cons e pl ih =>
    rw [List.map_cons, ih fun m => h (List.mem_cons_of_mem _ m), if_neg fun c => h (by rw [← c]; exact List.mem_cons_self)]
theorem tot_aft {pl : Pl} {t p : Str} {o : Option Str} (n : (pl.map Prod.fst).Nodup) : tot (plAft pl t p o) ≤ tot pl + 1 := by
  unfold plAft
  split
  · rename_i c
    clear c
    induction pl with
    | nil => exact Nat.zero_le _
    | cons e pl ih =>
      rw [List.map_cons, tot_cons, tot_cons]
      have n' := List.nodup_cons.mp n
      by_cases c : e.1 = t
      · rw [if_pos c, map_other (c ▸ n'.1)]
        have := @aft_len e.2 p o
        show (aft e.2 p o).length + _ ≤ _
        omega
      · rw [if_neg c]
        have := ih n'.2
        omega
  · have := @aft_len [] p o
    unfold tot
    rw [List.map_append, List.sum_append]
    show _ + (aft [] p o).length ≤ _
    simp only [List.length_nil] at this
    omega
theorem good_aft {pl : Pl} (g : GoodPl pl) {t p : Str} {o : Option Str} (ht : isName t = true) (hp : isAddr p = true) (ho : ∀ l, o = some l → isLane l = true ∧ l ≠ t) : GoodPl (plAft pl t p o) := by
  have one : ∀ own : List Pr, Good own → t ∉ own.map Prod.snd → Good (aft own p o) ∧ t ∉ (aft own p o).map Prod.snd := fun own go hn => by
    refine ⟨(aft_good go hp).mpr fun l e => (ho l e).1, fun m => ?_⟩
    obtain ⟨q, hq, e⟩ := List.mem_map.mp m
    rcases aft_mem hq with hq | ⟨l, el, rfl⟩
    · exact hn (List.mem_map.mpr ⟨q, hq, e⟩)
    · exact (ho l el).2 e
  by_cases c : t ∈ pl.map Prod.fst
  · refine ⟨fun x hx => ?_, by rw [plAft_keys_in c]; exact g.n⟩
    unfold plAft at hx
    rw [if_pos c] at hx
    obtain ⟨e, he, rfl⟩ := List.mem_map.mp hx
    have ge := g.e e he
    by_cases c : e.1 = t
    · rw [if_pos c]
      obtain ⟨a, b⟩ := one e.2 ge.2.1 (c ▸ ge.2.2)
      exact ⟨ht, a, b⟩
    · rw [if_neg c]
      exact ge
  · unfold plAft
    rw [if_neg c]
    refine ⟨fun x hx => ?_, ?_⟩
    · rcases List.mem_append.mp hx with m | m
      · exact g.e x m
      · rw [List.mem_singleton.mp m]
        obtain ⟨a, b⟩ := one [] good_nil List.not_mem_nil
        exact ⟨ht, a, b⟩
    · rw [List.map_append]
      exact List.nodup_append.mpr ⟨g.n, List.nodup_cons.mpr ⟨List.not_mem_nil, List.nodup_nil⟩, fun y hy z hz e => c (by have e2 : y = t := e.trans (List.mem_singleton.mp hz); rw [← e2]; exact hy)⟩
theorem plAft_perm {one two : Pl} (h : one.Perm two) (t p : Str) (o : Option Str) : (plAft one t p o).Perm (plAft two t p o) := by
  unfold plAft
  by_cases c : t ∈ one.map Prod.fst
  · rw [if_pos c, if_pos ((h.map Prod.fst).mem_iff.mp c)]
    exact h.map _
  · rw [if_neg c, if_neg fun m => c ((h.map Prod.fst).mem_iff.mpr m)]
    exact h.append (List.Perm.refl _)
theorem rows_aft {pl : Pl} (n : (pl.map Prod.fst).Nodup) {t p : Str} {o : Option Str} (u : Str) : rowsOf (plAft pl t p o) u = if u = t then aft (rowsOf pl t) p o else rowsOf pl u := by
  have gen : ∀ (one : Pl), rowsOf (one.map (fun e => if e.1 = t then (t, aft e.2 p o) else e)) u = if u = t ∧ t ∈ one.map Prod.fst then aft (rowsOf one t) p o else rowsOf one u := fun one => by
    induction one with
    | nil => rw [if_neg fun z => by cases z.2]; rfl
    | cons e one ih =>
      by_cases c : e.1 = t
      · rw [List.map_cons, if_pos c]
        by_cases d : u = t
        · subst d
          rw [if_pos ⟨rfl, by rw [← c]; exact List.mem_cons_self⟩]
          unfold rowsOf
          rw [List.find?_cons_of_pos (by simp), List.find?_cons_of_pos (by simpa using c)]
        · rw [if_neg fun z => d z.1]
          have d2 : ¬ (e.1 = u) := fun z => d (by rw [← z, c])
          have d3 : ¬ (t = u) := fun z => d z.symm
          have e1 : rowsOf ((t, aft e.2 p o) :: one.map (fun e => if e.1 = t then (t, aft e.2 p o) else e)) u = rowsOf (one.map (fun e => if e.1 = t then (t, aft e.2 p o) else e)) u := by
            unfold rowsOf
            rw [List.find?_cons_of_neg (by simpa using d3)]
          have e2 : rowsOf (e :: one) u = rowsOf one u := by
            unfold rowsOf
            rw [List.find?_cons_of_neg (by simpa using d2)]
          rw [e1, e2, ih, if_neg fun z => d z.1]
      · rw [List.map_cons, if_neg c]
        by_cases d : e.1 = u
        · have d2 : ¬ (u = t) := fun z => c (d.trans z)
          rw [if_neg fun z => d2 z.1]
          unfold rowsOf
          rw [List.find?_cons_of_pos (by simpa using d), List.find?_cons_of_pos (by simpa using d)]
        · have e1 : ∀ l : Pl, rowsOf (e :: l) u = rowsOf l u := fun l => by
            unfold rowsOf
            rw [List.find?_cons_of_neg (by simpa using d)]
          have e2 : rowsOf (e :: one) t = rowsOf one t := by
            unfold rowsOf
            rw [List.find?_cons_of_neg (by simpa using c)]
          rw [e1, e1, ih, e2]
          by_cases z : u = t ∧ t ∈ one.map Prod.fst
          · rw [if_pos z, if_pos ⟨z.1, List.mem_cons_of_mem _ z.2⟩]
          · rw [if_neg z, if_neg fun y => z ⟨y.1, (List.mem_cons.mp y.2).resolve_left fun w => c w.symm⟩]
  unfold plAft
  by_cases c : t ∈ pl.map Prod.fst
  · rw [if_pos c, gen]
    by_cases d : u = t
    · rw [if_pos ⟨d, c⟩, if_pos d]
    · rw [if_neg fun z => d z.1, if_neg d]
  · rw [if_neg c]
    have e0 : rowsOf (pl ++ [(t, aft [] p o)]) u = match pl.find? (fun e => decide (e.1 = u)) with | some e => e.2 | none => if t = u then aft [] p o else [] := by
      unfold rowsOf
      rw [List.find?_append]
      cases pl.find? (fun e => decide (e.1 = u)) with
      | some e => rfl
      | none =>
        by_cases z : t = u
        · simp [z]
        · simp [z]
    rw [e0]
    by_cases d : u = t
    · subst d
      rw [if_pos rfl, rows_not c]
      have : pl.find? (fun e => decide (e.1 = u)) = none := List.find?_eq_none.mpr fun x hx => by
        rw [decide_eq_true_eq]
        exact fun e => c (List.mem_map.mpr ⟨x, hx, e⟩)
      rw [this]
      dsimp only
      rw [if_pos rfl]
    · rw [if_neg d]
      unfold rowsOf
      cases pl.find? (fun e => decide (e.1 = u)) with
      | some e => rfl
      | none =>
        dsimp only
        rw [if_neg fun z => d z.symm]
theorem SortOf.perm {C CS : Addr} {H : Hp} {j : Addr} {one two : Pl} (S : SortOf C CS H j one) (h : one.Perm two) : SortOf C CS H j two := by
  obtain ⟨⟨dx, dt, dm, es, ms, h1, h2, h3, h4, h5, h6⟩, g⟩ := S
  exact ⟨⟨dx, dt, dm, es, ms, h1, h2, h3.trans h, h4, fun x => (h5 x).trans (isStem_perm h x), by rw [← tot_perm h]; exact h6.1, h6.2⟩, good_plan_perm h g⟩
/-! ### pairs of a list of texts and a text -/
def encP (r : List Str × Str) : PyData := .tuple [.list (r.1.map PyData.str), .str r.2]
theorem eqvAll_strs : ∀ A D : List Str, PyData.eqvAll (A.map PyData.str) (D.map PyData.str) = decide (A = D)
  | [], [] => rfl
  | [], d :: D => by simp [PyData.eqvAll]
  | a :: A, [] => by simp [PyData.eqvAll]
  | a :: A, d :: D => by
    rw [List.map_cons, List.map_cons, PyData.eqvAll, eqvAll_strs A D, PyData.eqv]
    by_cases h1 : a = d <;> by_cases h2 : A = D <;> simp [h1, h2]
theorem eqv_P (r s : List Str × Str) : PyData.eqv (encP r) (encP s) = decide (r = s) := by
  unfold encP
  rw [PyData.eqv, PyData.eqvAll, PyData.eqvAll, PyData.eqvAll, PyData.eqv, PyData.eqv, eqvAll_strs]
  by_cases h1 : r.1 = s.1 <;> by_cases h2 : r.2 = s.2
  · simp [h1, h2, Prod.ext h1 h2]
  · simp [h1, h2, show ¬ (r = s) from fun e => h2 (by rw [e])]
  · simp [h1, h2, show ¬ (r = s) from fun e => h1 (by rw [e])]
  · simp [h1, h2, show ¬ (r = s) from fun e => h1 (by rw [e])]
theorem shaped_P {r : List Str × Str} (h1 : ∀ x ∈ r.1, Tx x) (h2 : Sg r.2) : SeqAt.shaped (encP r) = true := by
  obtain ⟨a, b⟩ := lay_strs h1
  show (PyData.canLay0 (encP r) && decide (PyData.depth (encP r) ≤ 64)) = true
  rw [Bool.and_eq_true]
  refine ⟨by simp only [encP, PyData.canLay0, PyData.canLayAll0, a, strOk_sg h2, Bool.and_true], decide_eq_true ?_⟩
  simp only [encP, PyData.depth, PyData.depthAll]
  omega
theorem dp_P {K : PySem.W.Frag} {H : Hp} {T : Addr} {r : List Str × Str} (h : PthAt H T r) : Dp K H (.ref T) (encP r) := by
  obtain ⟨S, h1, h2⟩ := h
  exact .tup (.of h1) (.cons (.lst (sqOf h2) (dp_strs _)) (.cons (.str _) .nil))
theorem sg_word {z : Str} (h : z = wHere ∨ z = wNone ∨ z = wLoop) : Sg z := by
  have all : ∀ s : Str, (tl s).all (fun c => decide (c < 1114112)) = true → Sg s := fun s hs c hc => of_decide_eq_true (List.all_eq_true.mp hs c hc)
  rcases h with rfl | rfl | rfl <;> exact all _ (by decide +kernel)
theorem name_tx {t : Str} (h : isName t = true) : Tx t := nm_tx ((isName_iff t).mp h)
theorem shaped_pth {pl : Pl} (g : GoodPl pl) {a t : Str} (ht : isName t = true) : SeqAt.shaped (encP (pth pl a t)) = true := by
  refine shaped_P (fun x hx => ?_) (sg_word (path_word _ _ _))
  rcases path_mem _ _ _ x hx with h | rfl | ⟨u, h⟩
  · cases h
  · exact name_tx ht
  · exact lane_tx (lane_row g h).1
theorem PthAt.same {H H' : Hp} {T : Addr} {r : List Str × Str} (h : PthAt H T r) (s : Same H H') : PthAt H' T r := let ⟨S, h1, h2⟩ := h; ⟨S, s _ _ h1, s _ _ h2⟩
def ResAt (H : Hp) (v : V) : Option (Str × Str) → Prop
  | none => v = .non
  | some z => ∃ T, v = .ref T ∧ H T = some (.tup [.str z.1, .str z.2])
theorem ResAt.same {H H' : Hp} {v : V} {r : Option (Str × Str)} (h : ResAt H v r) (s : Same H H') : ResAt H' v r := by
  cases r with
  | none => exact h
  | some z => obtain ⟨T, e, h⟩ := h; exact ⟨T, e, s _ _ h⟩
theorem stem_addr {pl : Pl} (g : GoodPl pl) {x : Str} (h : isStem pl x) : isAddr x = true := by
  obtain ⟨e, he, hx⟩ := h
  obtain ⟨q, hq, rfl⟩ := List.mem_map.mp hx
  exact ((g.e e he).2.1.1 q hq).1
end Tb
namespace Tb
open PySem PySem.Spec PyProof.Rows L2
open PySem.W (AllAlike Sortable dataLe)
def esAft (es : List En) (t : Str) (a : Addr) (own : List Pr) : List En := if t ∈ (plOf es).map Prod.fst then es.map (fun e => if e.2.1 = t then (a, (t, own)) else e) else es ++ [(a, (t, own))]
theorem mem_esAft {es : List En} {t : Str} {a : Addr} {own : List Pr} {e : En} (h : e ∈ esAft es t a own) : e ∈ es ∨ e = (a, (t, own)) := by
  unfold esAft at h
  split at h
  · obtain ⟨x, hx, rfl⟩ := List.mem_map.mp h
    split
    · exact .inr rfl
    · exact .inl hx
  · exact (List.mem_append.mp h).imp id List.mem_singleton.mp
theorem any_kvE (es : List En) (t : Str) : ((kvE es).any fun kv => decide (kv.1 = Sum.inr t)) = true ↔ t ∈ (plOf es).map Prod.fst := by
  rw [List.any_eq_true]
  constructor
  · rintro ⟨kv, hk, e⟩
    obtain ⟨x, hx, rfl⟩ := List.mem_map.mp hk
    have := inr_eq.mp (of_decide_eq_true e)
    exact this ▸ List.mem_map.mpr ⟨x.2, List.mem_map.mpr ⟨x, hx, rfl⟩, rfl⟩
  · intro h
    obtain ⟨p, hp, rfl⟩ := List.mem_map.mp h
    obtain ⟨x, hx, rfl⟩ := List.mem_map.mp hp
    exact ⟨_, List.mem_map.mpr ⟨x, hx, rfl⟩, decide_eq_true rfl⟩
theorem put_esAft (es : List En) (t : Str) (a : Addr) (own : List Pr) : putK (kvE es) (Sum.inr t) (V.ref a) = kvE (esAft es t a own) := by
  unfold putK esAft
  by_cases c : t ∈ (plOf es).map Prod.fst
  · rw [if_pos ((any_kvE es t).mpr c), if_pos c]
    unfold kvE
    rw [List.map_map, List.map_map]
    refine List.map_congr_left fun e _ => ?_
    show (if (Sum.inr e.2.1 : Key) = Sum.inr t then ((Sum.inr e.2.1 : Key), V.ref a) else (Sum.inr e.2.1, V.ref e.1)) = _
    by_cases d : e.2.1 = t
    · rw [if_pos (inr_eq.mpr d)]
      show _ = (Sum.inr (if e.2.1 = t then ((a, (t, own)) : En) else e).2.1, V.ref (if e.2.1 = t then ((a, (t, own)) : En) else e).1)
      rw [if_pos d, d]
    · rw [if_neg fun z => d (inr_eq.mp z)]
      show _ = (Sum.inr (if e.2.1 = t then ((a, (t, own)) : En) else e).2.1, V.ref (if e.2.1 = t then ((a, (t, own)) : En) else e).1)
      rw [if_neg d]
  · rw [if_neg fun z => c ((any_kvE es t).mp z), if_neg c]
    unfold kvE
    rw [List.map_append]
    rfl
theorem plOf_esAft {es : List En} (n : ((plOf es).map Prod.fst).Nodup) (t : Str) (a : Addr) (p : Str) (o : Option Str) : plOf (esAft es t a (aft (rowsOf (plOf es) t) p o)) = plAft (plOf es) t p o := by
  unfold esAft plAft
  by_cases c : t ∈ (plOf es).map Prod.fst
  · rw [if_pos c, if_pos c]
    have gen : ∀ l : List En, (∀ e ∈ l, e ∈ es) → plOf (l.map fun e => if e.2.1 = t then (a, (t, aft (rowsOf (plOf es) t) p o)) else e) = (plOf l).map fun e => if e.1 = t then (t, aft e.2 p o) else e := fun l => by
      induction l with
      | nil => exact fun _ => rfl
      | cons e l ih =>
        intro h
        have i := ih fun e he => h e (List.mem_cons_of_mem _ he)
        unfold plOf at i ⊢
        rw [List.map_cons, List.map_cons, List.map_cons, List.map_cons, i]
        by_cases d : e.2.1 = t
        · rw [if_pos d, if_pos d, ← d, show rowsOf (List.map (fun x => x.snd) es) e.2.1 = e.2.2 from rows_of_mem n (h e List.mem_cons_self)]
        · rw [if_neg d, if_neg d]
    exact gen es fun e he => he
  · rw [if_neg c, if_neg c, rows_not c]
    unfold plOf
    rw [List.map_append]
    rfl
theorem sort_made {C CS : Addr} {H : Hp} {d : Addr} {es : List En} {Q : VK} {E : XK} (T : TabsAt C H d es) (g : GoodPl (plOf es)) (h1 : tot (plOf es) ≤ 300) (h2 : es.length ≤ 100) (q : ∀ x H', Same H H' → SortOf C CS H' x (plOf es) → Q (.ref x) H') :
    ∀ x dx, H x = none → H dx = none → dx ≠ x → spSInit C CS (V.ref x :: ([V.ref d] ++ [])) (upd (upd H dx (.own x)) x (.ins CS dx [])) (fun v H2 => v = .non ∧ Q (.ref x) H2) E := by
  intro x dx nx ndx hne
  have S0 : Same H (upd (upd H dx (.own x)) x (.ins CS dx [])) := (same_upd ndx).trans (same_upd (by rw [upd_ne (Ne.symm hne)]; exact nx))
  exact ⟨x, dx, d, es, rfl, upd_same, T.same S0, g, h1, h2, fun H' b S => ⟨rfl, q x H' (fun c o hc => b c o (S0 _ _ hc) (ne_of_none hc nx)) S⟩⟩
theorem rows_tot (pl : Pl) (t : Str) : (rowsOf pl t).length ≤ tot pl := by
  rcases rows_case pl t with ⟨e, he, _, e2⟩ | ⟨_, e2⟩
  · rw [e2]
    clear e2
    induction pl with
    | nil => cases he
    | cons x l ih =>
      rw [tot_cons]
      rcases List.mem_cons.mp he with rfl | he
      · omega
      · have := ih he
        omega
  · rw [e2]
    exact Nat.zero_le _
theorem aft_kvE {es : List En} {t p : Str} {o : Option Str} (hon : o = none → p ∈ (rowsOf (plOf es) t).map Prod.fst) : kvP ((aft (rowsOf (plOf es) t) p o).mergeSort le2) ≠ kvE es := fun z => by
  cases es with
  | cons e es => exact kvP_kvE List.mem_cons_self z
  | nil =>
    have h0 : (aft (rowsOf (plOf []) t) p o).length = 0 := by
      rw [← len_sort, ← kvP_len, z]
      rfl
    cases o with
    | none => cases hon rfl
    | some l =>
      have := put_mem (rowsOf (plOf []) t) p l
      rw [List.eq_nil_of_length_eq_zero (show (putP (rowsOf (plOf []) t) p l).length = 0 from h0)] at this
      cases this
section
variable {P : Program} {w : World} {K : PySem.W.Frag} {mg : Str → Option Value} {base : Heap}
end
end Tb
namespace L2
open PySem PySem.Spec PyProof.Rows
section
variable {X : Cx}
def rGeA (K : PySem.W.Frag) : R2 := fun x y H Q => ∃ d e, Dp K H x d ∧ Dp K H y e ∧ PySem.W.alike d e = true ∧ d ≠ .none ∧ d.depth ≤ 10 ∧ Q (.bl (!PySem.W.dataLt d e)) H
theorem op_geIS (hu : X.A.units + 64 < cLine) : OpR X (compareOp .GtE) (rGeA X.K) := by
  intro pins s σ H x y v u Q I rx ry h
  obtain ⟨d, e, hd, he, hl, hn, hdp, q⟩ := h
  obtain ⟨as, r1⟩ := Dp.reads I d x v hd rx
  obtain ⟨bs, r2⟩ := Dp.reads I e y u he ry
  exact PySem.W.ge_data r1 r2 hl hn (by have := Nat.min_le_left d.depth e.depth; omega) ⟨.bl _, H, I, rfl, q⟩
end
end L2
namespace Tb
open PySem PySem.Spec PyProof.Rows L2
open PySem.W (AllAlike Sortable dataLe)
section
variable {X : Cx}
def rEqD0 : R2 := fun x y H Q => ∃ (a b : Addr) (ks : Kvs), x = .ref a ∧ y = .ref b ∧ H a = some (.dK ks) ∧ H b = some (.dK []) ∧ Q (.bl ks.isEmpty) H
theorem op_eq_dict0 (hu : X.A.units < cLine) : OpR X (compareOp .Eq) rEqD0 := by
  intro pins s σ H x y v u Q I rx ry h
  obtain ⟨a, b, ks, rfl, rfl, ea, eb, q⟩ := h
  obtain rfl : v = Value.ref a := rx
  obtain rfl : u = Value.ref b := ry
  obtain ⟨_, ya, va, ra, da⟩ := (show ObjOk X.prog X.w H s.heap a (.dK ks) from I.hok a _ ea)
  obtain ⟨_, yb, vb, rb, db⟩ := (show ObjOk X.prog X.w H s.heap b (.dK []) from I.hok b _ eb)
  have la : ks.length = va.length := ra.length
  have lb : 0 = vb.length := rb.length
  cases ks with
  | nil =>
    have hl : va.length = vb.length := by rw [← la, ← lb]; rfl
    exact PySem.W.keq_eq (knd := mixKind X.prog X.w) (r := true) ya yb da db hu (fun _ => hits_all rb ra (fun p hp => by cases hp)) (fin_bl I q (by simp [hl]))
  | cons k ks =>
    have hl : ¬ va.length = vb.length := by rw [← la, ← lb]; simp
    exact PySem.W.keq_eq (knd := mixKind X.prog X.w) (r := true) ya yb da db hu (fun e => absurd e hl) (fin_bl I q (by simp [hl]))
end
theorem unlock_same {H H5 : Hp} {d : Addr} {u : HO} (hd : H d = some u) (b : But d H H5) : Same H (L2.upd H5 d u) := fun c o hc => by
  by_cases e : c = d
  · subst e
    rw [upd_same, ← hd]
    exact hc
  · rw [upd_ne e]
    exact b _ _ hc e
theorem lock_but {H : Hp} {d : Addr} {o : HO} : But d H (L2.upd H d o) := But.upd
theorem kvE_at (es : List En) (i : Nat) : (kvE es)[i]? = (es[i]?).map (fun e => (Sum.inr e.2.1, V.ref e.1)) := by
  unfold kvE
  rw [List.getElem?_map]
theorem kvP_at (ps : List Pr) (i : Nat) : (kvP ps)[i]? = (ps[i]?).map (fun p => (Sum.inr p.1, V.str p.2)) := by
  unfold kvP
  rw [List.getElem?_map]
theorem good_filter_pl {pl : Pl} (g : GoodPl pl) (f : Str × List Pr → Bool) : GoodPl (pl.filter f) := ⟨fun x hx => g.e x (List.mem_filter.mp hx).1, (List.Sublist.map Prod.fst List.filter_sublist).nodup g.n⟩
theorem tot_filter (pl : Pl) (f : Str × List Pr → Bool) : tot (pl.filter f) ≤ tot pl := by
  induction pl with
  | nil => exact Nat.le_refl _
  | cons e pl ih =>
    rw [tot_cons]
    cases c : f e with
    | true => rw [List.filter_cons_of_pos c, tot_cons]; omega
    | false => rw [List.filter_cons_of_neg (by rw [c]; exact fun z => by cases z)]; omega
def turnR (e : Str × List Pr) : Str × List Pr := (e.1, e.2.reverse)
def turnP (pl : Pl) : Pl := pl.reverse.map turnR
theorem good_turn {pl : Pl} (g : GoodPl pl) : GoodPl (turnP pl) := by
  refine ⟨fun x hx => ?_, ?_⟩
  · obtain ⟨e, he, rfl⟩ := List.mem_map.mp hx
    obtain ⟨a, b, c⟩ := g.e e (List.mem_reverse.mp he)
    exact ⟨a, good_perm (List.reverse_perm _).symm b, fun m => c (((List.reverse_perm e.2).map Prod.snd).mem_iff.mp m)⟩
  · have : (turnP pl).map Prod.fst = (pl.map Prod.fst).reverse := by
      unfold turnP
      rw [List.map_map, ← List.map_reverse]
      rfl
    rw [this]
    exact (List.reverse_perm _).nodup_iff.mpr g.n
def turnE (e : En) : En := (e.1, turnR e.2)
theorem rev_rev (e : Str × List Pr) : turnR (turnR e) = e := by
  unfold turnR
  rw [List.reverse_reverse]
theorem turn_perm (pl : Pl) : ((turnP pl).map turnR).Perm pl := by
  have : (turnP pl).map turnR = pl.reverse := by
    unfold turnP
    rw [List.map_map]
    conv => rhs; rw [← List.map_id pl.reverse]
    exact List.map_congr_left fun e _ => rev_rev e
  rw [this]
  exact List.reverse_perm pl
theorem stem_map (pl : Pl) (x : Str) : isStem (pl.map turnR) x ↔ isStem pl x := by
  constructor
  · rintro ⟨e, he, hx⟩
    obtain ⟨y, hy, rfl⟩ := List.mem_map.mp he
    exact ⟨y, hy, ((List.reverse_perm y.2).map Prod.fst).mem_iff.mp hx⟩
  · rintro ⟨e, he, hx⟩
    exact ⟨turnR e, List.mem_map.mpr ⟨e, he, rfl⟩, ((List.reverse_perm e.2).map Prod.fst).mem_iff.mpr hx⟩
theorem tot_map (pl : Pl) : tot (pl.map turnR) = tot pl := by
  induction pl with
  | nil => rfl
  | cons e pl ih =>
    rw [List.map_cons, tot_cons, tot_cons, ih]
    show e.2.reverse.length + _ = _
    rw [List.length_reverse]
theorem tot_turn (pl : Pl) : tot (turnP pl) = tot pl := (tot_map _).trans (tot_perm (List.reverse_perm pl))
theorem len_turn (pl : Pl) : (turnP pl).length = pl.length := by
  unfold turnP
  rw [List.length_map, List.length_reverse]
theorem kvM_put (ks : List Str) (x : Str) : putK (kvM ks) (Sum.inr x) (V.bl true) = kvM (if x ∈ ks then ks else ks ++ [x]) := by
  unfold putK
  have an : ((kvM ks).any fun kv => decide (kv.1 = Sum.inr x)) = true ↔ x ∈ ks := by
    rw [List.any_eq_true]
    constructor
    · rintro ⟨kv, hk, e⟩
      obtain ⟨y, hy, rfl⟩ := List.mem_map.mp hk
      exact inr_eq.mp (of_decide_eq_true e) ▸ hy
    · exact fun h => ⟨_, List.mem_map.mpr ⟨x, h, rfl⟩, decide_eq_true rfl⟩
  by_cases c : x ∈ ks
  · rw [if_pos (an.mpr c), if_pos c]
    unfold kvM
    rw [List.map_map]
    refine List.map_congr_left fun y _ => ?_
    show (if (Sum.inr y : Key) = Sum.inr x then ((Sum.inr y : Key), V.bl true) else (Sum.inr y, V.bl true)) = _
    split <;> rfl
  · rw [if_neg fun z => c (an.mp z), if_neg c]
    unfold kvM
    rw [List.map_append]
    rfl
abbrev sPlanAft : Stmt := topS 40
abbrev NPlanAft : List Str := ["plan", "town", "prefix", "way", "found", "one"]
theorem scPlanAft : FnScope NPlanAft ["plan", "town", "prefix", "way"] (defScope sPlanAft) := ⟨rfl, rfl, rfl, by decide +kernel, rfl, by decide +kernel, by decide +kernel⟩
abbrev sTables : Stmt := topS 38
abbrev NTables : List Str := ["plan", "found", "town", "prefix"]
theorem scTables : FnScope NTables ["plan"] (defScope sTables) := ⟨rfl, rfl, rfl, by decide +kernel, rfl, by decide +kernel, by decide +kernel⟩
abbrev sStems : Stmt := topS 39
abbrev NStems : List Str := ["plan", "found", "town", "prefix"]
theorem scStems : FnScope NStems ["plan"] (defScope sStems) := ⟨rfl, rfl, rfl, by decide +kernel, rfl, by decide +kernel, by decide +kernel⟩
def spPlanAft : Sp := fun vs H Q _ => ∃ (d : Addr) (t p : Str) (o : Option Str) (es : List En), vs = [.ref d, .str t, .str p, oStr o] ∧ PlanAt H d es ∧ isName t = true ∧ isAddr p = true ∧ (∀ l, o = some l → isLane l = true ∧ l ≠ t) ∧ tot (plOf es) ≤ 900 ∧ es.length ≤ 900 ∧
  ∀ (F : Addr) (es' : List En) (H' : Hp), Same H H' → PlanAt H' F es' → plOf es' = plAft (plOf es) t p o → Q (.ref F) H'
def spTables (C : Addr) : Sp := fun vs H Q _ => ∃ (d : Addr) (es : List En), vs = [.ref d] ∧ PlanAt H d es ∧ es.length ≤ 900 ∧ tot (plOf es) ≤ 900 ∧ ∀ (F : Addr) (es' : List En) (H' : Hp), Same H H' → H F = none → TabsAt C H' F es' → plOf es' = plOf es → Q (.ref F) H'
def spStems : Sp := fun vs H Q _ => ∃ (d : Addr) (es : List En), vs = [.ref d] ∧ PlanAt H d es ∧ tot (plOf es) ≤ 900 ∧ ∀ (p : Addr) (xs : List Str) (H' : Hp), Same H H' → H p = none → H' p = some (.lst (xs.map V.str)) → (∀ x, x ∈ xs ↔ isStem (plOf es) x) → xs.length ≤ tot (plOf es) → Srt xs → Q (.ref p) H'
section
variable {P : Program} {w : World} {K : PySem.W.Frag} {mg : Str → Option Value} {base : Heap}
theorem ok_planaft {f g1 : Addr} {fd gd1 : FuncData} (F : Fun K "_law_plan_after" "_law_plan_after" sPlanAft f fd) (B : Blt mg) (cAfter : CAfter P w K mg base g1 gd1) : FnOk P w K mg base CX0 2 f fd ["plan", "town", "prefix", "way"] spPlanAft := by
  refine F.ok scPlanAft (fun vs H Q E h => ?_) (fun cdv A outer s H vs Q E hr h => ?_)
  · obtain ⟨d, t, p, o, es, rfl, _⟩ := h
    rfl
  · obtain ⟨d, t, p, o, es, rfl, hP0, tn, pa, ho, ht, hn, q⟩ := h
    have hu := hu_of hr
    have hz : sizeLine = 16777216 := rfl
    have g := hP0.g
    refine ⟨_, (pss_cons (ps_set (i := 4) scPlanAft.nd rfl (.inl rfl) pe_dnewK)
      (pss_cons (ps_lock (ps_for PassesOwn.never rfl (pi_keys (pv 0)) (pg_name (i := 5) scPlanAft.nd rfl (.inl rfl))
        (pss_one (ps_dput hu (pv 4) (pv 5) (pe_dget hu (pv 0) (pv 5) (fun _ _ => rfl)) (by rfl)))))
      (pss_cons (ps_dput hu (pv 4) (pv 1) (pe_call cAfter.G (hr.mono (by first | decide | omega)) (by rfl) cAfter.D.g cAfter.D.F.kp cAfter.D.b .nil pass0 (pa_cons (pe_dget2 hu (pv 0) (pv 1) pe_dnewK ⟨rfl, by rfl, rfl, rfl⟩) (pa_cons (pv 2) (pa_cons (pv 3) pa_nil)))) (by rfl))
      (pss_one (ps_ret (pv 4)))))), ?_⟩
    intro G nG
    have S1 : Same H (L2.upd H G (.dK [])) := same_upd nG
    have Gd : G ≠ d := fun e => by rw [e, hP0.d] at nG; cases nG
    refine ⟨d, .dK (kvE es), S1 _ _ hP0.d, trivial, fun od => ?_⟩
    refine ⟨.ref d, rfl, d, od, rfl, .inl ⟨kvE es, upd_same, ?_⟩⟩
    refine for_it (walk_keys (d := d) (o := od) (kvs := kvE es)) (fun i σ H' => (∃ y5, σ = [some (.ref d), some (.str t), some (.str p), some (oStr o), some (.ref G), y5]) ∧ But d H H' ∧ H' d = some (.frz od (.dK (kvE es))) ∧ H' G = some (.dK (kvE (es.take i))))
      ⟨⟨none, rfl⟩, (Same.but S1).trans But.upd, upd_same, by rw [upd_ne Gd]; exact upd_same⟩ (fun i σ H' _ hP => hP.2.2.1) (fun i x σ H5 H6 hi hP hy => ?_) (fun σ H5 hP => ?_)
    · obtain ⟨⟨y5, rfl⟩, b5, d5, g5⟩ := hP
      obtain ⟨rfl, k, v, ek, rfl⟩ := hy
      rw [kvE_at] at ek
      cases ee : es[i]? with
      | none => rw [ee] at ek; cases ek
      | some e =>
      rw [ee] at ek
      cases (Option.some.inj ek)
      have m := List.mem_of_getElem? ee
      have dg : DGet H6 d (.str e.2.1) (some (.ref e.1)) := by
        rw [← kvE_val g.n m]
        exact .inl ⟨_, Sum.inr e.2.1, .inr ⟨od, d5⟩, rfl, rfl⟩
      refine ⟨.ref d, rfl, .str e.2.1, rfl, d, .ref e.1, rfl, dg, .ref G, rfl, .str e.2.1, rfl, G, _, rfl, DPut.k (k := Sum.inr e.2.1) g5 (by rw [kvE_len, List.length_take]; omega), ⟨_, rfl⟩, fun c u hc nc => ?_, ?_, ?_⟩
      · rw [upd_ne (ne_of_none hc nG)]
        exact b5 _ _ hc nc
      · rw [upd_ne (Ne.symm Gd)]
        exact d5
      · rw [upd_same, kvE_snoc g.n ee]
    · obtain ⟨⟨y5, rfl⟩, b5, d5, g5⟩ := hP
      refine ⟨d5, ?_⟩
      rw [kvE_len, List.take_length] at g5
      have S6 := unlock_same hP0.d b5
      have g6 : (L2.upd H5 d (.dK (kvE es))) G = some (.dK (kvE es)) := by rw [upd_ne Gd]; exact g5
      generalize L2.upd H5 d (.dK (kvE es)) = H6 at S6 g6
      refine ⟨.ref d, rfl, d, rfl, .inl ⟨_, .of (S6 _ _ hP0.d)⟩, .str t, rfl, fun D nD => ?_⟩
      have S7 : Same H6 (L2.upd H6 D (.dK [])) := same_upd nD
      have hD7 : (L2.upd H6 D (.dK [])) D = some (.dK (kvP [])) := upd_same
      have DG : D ≠ G := fun e => by rw [e, g6] at nD; cases nD
      generalize L2.upd H6 D (.dK []) = H7 at S7 hD7
      have S8 := S6.trans S7
      have pick : ∃ (b : Addr) (o' : Option V), DGet H7 d (.str t) o' ∧ o'.getD (.ref D) = .ref b ∧ H7 b = some (.dK (kvP (rowsOf (plOf es) t))) := by
        rcases es_case es t with ⟨e, he, rfl⟩ | hn
        · refine ⟨e.1, some (.ref e.1), ?_, rfl, ?_⟩
          · rw [← kvE_val g.n he]
            exact DGet.k (k := Sum.inr e.2.1) (S8 _ _ hP0.d)
          · rw [rows_of_mem g.n he]
            exact S8 _ _ (hP0.t e he)
        · refine ⟨D, none, ?_, rfl, ?_⟩
          · rw [← kvE_none hn]
            exact DGet.k (k := Sum.inr t) (S8 _ _ hP0.d)
          · rw [rows_not hn]
            exact hD7
      obtain ⟨b, o', dg, eo, hb⟩ := pick
      have low := rows_tot (plOf es) t
      have gr : ((rowsOf (plOf es) t).map Prod.fst).Nodup := by
        rcases rows_case (plOf es) t with ⟨e, he, _, e2⟩ | ⟨_, e2⟩
        · rw [e2]
          exact (g.e e he).2.1.2
        · rw [e2]
          exact List.nodup_nil
      refine ⟨o', dg, .str p, rfl, oStr o, rfl, ?_⟩
      rw [eo]
      refine ⟨b, rowsOf (plOf es) t, p, o, rfl, hb, gr, by omega, fun e H9 S9 nE he => ?_⟩
      have g9 := S9 _ _ (S7 _ _ g6)
      have SA := S8.trans S9
      have eG : e ≠ G := fun z => by rw [z, S7 _ _ g6] at nE; cases nE
      refine ⟨.ref G, rfl, .str t, rfl, G, _, rfl, DPut.k (k := Sum.inr t) g9 (by rw [kvE_len]; omega), .ref G, rfl, ?_⟩
      rw [put_esAft es t e (aft (rowsOf (plOf es) t) p o)]
      refine q G _ _ (fun c u hc => ?_) ⟨upd_same, fun x hx => ?_, ?_⟩ (plOf_esAft g.n t e p o)
      · rw [upd_ne (ne_of_none hc nG)]
        exact SA _ _ hc
      · rcases mem_esAft hx with m | rfl
        · have := SA _ _ (hP0.t x m)
          rw [upd_ne fun z => by rw [z] at this; have z2 := hP0.t x m; rw [z, nG] at z2; cases z2]
          exact this
        · rw [upd_ne eG]
          exact he
      · rw [plOf_esAft g.n t e p o]
        exact good_aft g tn pa ho
end
end Tb
namespace Tb
open PySem PySem.Spec PyProof.Rows L2
open PySem.W (AllAlike Sortable dataLe TotalLe)
section
variable {P : Program} {w : World} {K : PySem.W.Frag} {mg : Str → Option Value} {base : Heap}
theorem ok_stems {f : Addr} {fd : FuncData} {k : Nat} (F : Fun K "_law_stems" "_law_stems" sStems f fd) (B : Blt mg) : FnOk P w K mg base CX0 (k + 1) f fd ["plan"] spStems := by
  refine F.ok scStems (fun vs H Q E h => ?_) (fun cdv A outer s H vs Q E hr h => ?_)
  · obtain ⟨d, es, rfl, _⟩ := h
    rfl
  · obtain ⟨d, es, rfl, hP0, ht, q⟩ := h
    have hu := hu_of hr
    have hz : sizeLine = 16777216 := rfl
    have g := hP0.g
    refine ⟨_, (pss_cons (ps_set (i := 1) scStems.nd rfl (.inl rfl) pe_dnewK)
      (pss_cons (ps_lock (ps_for PassesOwn.never rfl (pi_keys (pv 0)) (pg_name (i := 2) scStems.nd rfl (.inl rfl))
        (pss_one (ps_lock (ps_for PassesOwn.never rfl (pi_keys (pe_dget hu (pv 0) (pv 2) (fun _ _ => rfl))) (pg_name (i := 3) scStems.nd rfl (.inl rfl))
          (pss_one (ps_dput hu (pv 1) (pv 3) pe_bl (by rfl))))))))
      (pss_one (ps_ret (pe_callB (cr_sortedDk rfl hr.units) (by rfl) B.sorted PyProof.Rows.boot_sorted (pa_cons (pv 1) pa_nil)))))), ?_⟩
    intro G nG
    have S1 : Same H (L2.upd H G (.dK [])) := same_upd nG
    have Gd : G ≠ d := fun e => by rw [e, hP0.d] at nG; cases nG
    refine ⟨d, .dK (kvE es), S1 _ _ hP0.d, trivial, fun od => ?_⟩
    refine ⟨.ref d, rfl, d, od, rfl, .inl ⟨kvE es, upd_same, ?_⟩⟩
    refine for_it (walk_keys (d := d) (o := od) (kvs := kvE es)) (fun i σ H' => (∃ y2 y3, σ = [some (.ref d), some (.ref G), y2, y3]) ∧ But d H H' ∧ H' d = some (.frz od (.dK (kvE es))) ∧ ∃ ks : List Str, H' G = some (.dK (kvM ks)) ∧ (∀ x, x ∈ ks ↔ isStem (plOf (es.take i)) x) ∧ ks.length ≤ tot (plOf (es.take i)) ∧ ks.Nodup)
      ⟨⟨none, none, rfl⟩, (Same.but S1).trans But.upd, upd_same, [], by rw [upd_ne Gd]; exact upd_same, fun x => ⟨fun h => (by cases h), fun ⟨e, he, _⟩ => (by cases he)⟩, Nat.zero_le _, List.nodup_nil⟩ (fun i σ H' _ hP => hP.2.2.1) (fun i x σ H5 H6 hi hP hy => ?_) (fun σ H5 hP => ?_)
    · obtain ⟨⟨y2, y3, rfl⟩, b5, d5, ks, g5, mk, lk, nk⟩ := hP
      obtain ⟨rfl, k, v, ek, rfl⟩ := hy
      rw [kvE_at] at ek
      cases ee : es[i]? with
      | none => rw [ee] at ek; cases ek
      | some e =>
      rw [ee] at ek
      cases (Option.some.inj ek)
      have m := List.mem_of_getElem? ee
      have he := hP0.t e m
      have ed : e.1 ≠ d := fun z => by
        rw [z, hP0.d] at he
        exact kvP_kvE m (HO.dK.inj (Option.some.inj he)).symm
      have eG : e.1 ≠ G := fun z => by rw [z, nG] at he; cases he
      have he5 := b5 _ _ he ed
      have dg : ∀ H7 : Hp, H7 d = some (.frz od (.dK (kvE es))) → DGet H7 d (.str e.2.1) (some (.ref e.1)) := fun H7 d7 => by
        rw [← kvE_val g.n m]
        exact .inl ⟨_, Sum.inr e.2.1, .inr ⟨od, d7⟩, rfl, rfl⟩
      have l1 := tot_take ee
      have l2 := tot_le es (i + 1)
      refine ⟨e.1, .dK (kvP e.2.2), he5, trivial, fun oe => ?_⟩
      have d7 : (L2.upd H6 e.1 (.frz oe (.dK (kvP e.2.2)))) d = some (.frz od (.dK (kvE es))) := by rw [upd_ne (Ne.symm ed)]; exact d5
      refine ⟨.ref d, rfl, .str e.2.1, rfl, d, .ref e.1, rfl, dg _ d7, e.1, oe, rfl, .inl ⟨kvP e.2.2, upd_same, ?_⟩⟩
      refine for_it (walk_keys (d := e.1) (o := oe) (kvs := kvP e.2.2)) (fun j σ H' => (∃ y3, σ = [some (.ref d), some (.ref G), some (.str e.2.1), y3]) ∧ (∀ c o, H c = some o → c ≠ d → c ≠ e.1 → H' c = some o) ∧ H' d = some (.frz od (.dK (kvE es))) ∧ H' e.1 = some (.frz oe (.dK (kvP e.2.2))) ∧ ∃ ks : List Str, H' G = some (.dK (kvM ks)) ∧ (∀ x, x ∈ ks ↔ isStem (plOf (es.take i)) x ∨ x ∈ (e.2.2.take j).map Prod.fst) ∧ ks.length ≤ tot (plOf (es.take i)) + j ∧ ks.Nodup)
        ⟨⟨_, rfl⟩, fun c o hc n1 n2 => by rw [upd_ne n2]; exact b5 _ _ hc n1, d7, upd_same, ks, by rw [upd_ne (Ne.symm eG)]; exact g5, fun x => (mk x).trans ⟨.inl, fun h => h.resolve_right fun z => (by cases z)⟩, lk, nk⟩ (fun j σ H' _ hP => hP.2.2.2.1) (fun j x σ H7 H8 hj hP hy => ?_) (fun σ H7 hP => ?_)
      · obtain ⟨⟨y3, rfl⟩, b7, d7, e7, ks, g7, mk, lk, nk⟩ := hP
        obtain ⟨rfl, k, v, ek, rfl⟩ := hy
        rw [kvP_at] at ek
        cases er : e.2.2[j]? with
        | none => rw [er] at ek; cases ek
        | some r =>
        rw [er] at ek
        cases (Option.some.inj ek)
        have hj2 : j < e.2.2.length := (List.getElem?_eq_some_iff.mp er).1
        refine ⟨.ref G, rfl, .str r.1, rfl, G, _, rfl, DPut.k (k := Sum.inr r.1) g7 (by unfold kvM; rw [List.length_map]; omega), ⟨_, rfl⟩, fun c o hc n1 n2 => ?_, ?_, ?_, _, by rw [upd_same, kvM_put], fun x => ?_, ?_, ?_⟩
        · rw [upd_ne (ne_of_none hc nG)]
          exact b7 _ _ hc n1 n2
        · rw [upd_ne (Ne.symm Gd)]
          exact d7
        · rw [upd_ne eG]
          exact e7
        · have tk : e.2.2.take (j + 1) = e.2.2.take j ++ [r] := by rw [List.take_add_one, er]; rfl
          rw [tk, List.map_append, List.mem_append, ← or_assoc, ← mk x]
          by_cases c : r.1 ∈ ks
          · rw [if_pos c]
            exact ⟨.inl, fun h => h.elim id fun z => by rw [List.mem_singleton.mp z]; exact c⟩
          · rw [if_neg c, List.mem_append]
            exact Iff.rfl
        · by_cases c : r.1 ∈ ks
          · rw [if_pos c]
            omega
          · rw [if_neg c, List.length_append]
            show ks.length + 1 ≤ _
            omega
        · by_cases c : r.1 ∈ ks
          · rw [if_pos c]
            exact nk
          · rw [if_neg c]
            exact List.nodup_append.mpr ⟨nk, List.nodup_cons.mpr ⟨List.not_mem_nil, List.nodup_nil⟩, fun y hy z hz e => c (by rw [← List.mem_singleton.mp hz, ← e]; exact hy)⟩
      · obtain ⟨⟨y3, rfl⟩, b7, d7, e7, ks, g7, mk, lk, nk⟩ := hP
        rw [kvP_len] at lk mk
        rw [List.take_length] at mk
        refine ⟨e7, ⟨_, _, rfl⟩, fun c o hc nc => ?_, by rw [upd_ne (Ne.symm ed)]; exact d7, ks, by rw [upd_ne (Ne.symm eG)]; exact g7, fun x => (mk x).trans (stem_take ee x).symm, by omega, nk⟩
        by_cases z : c = e.1
        · subst z
          rw [upd_same, ← he]
          exact hc
        · rw [upd_ne z]
          exact b7 _ _ hc nc z
    · obtain ⟨⟨y2, y3, rfl⟩, b5, d5, ks, g5, mk, lk, nk⟩ := hP
      refine ⟨d5, ?_⟩
      rw [kvE_len, List.take_length] at mk lk
      have S6 := unlock_same hP0.d b5
      have g6 : (L2.upd H5 d (.dK (kvE es))) G = some (.dK (kvM ks)) := by rw [upd_ne Gd]; exact g5
      generalize L2.upd H5 d (.dK (kvE es)) = H6 at S6 g6
      refine ⟨.ref G, rfl, G, _, ks, rfl, .of g6, by unfold kvM; rw [List.map_map]; rfl, by omega, fun p np => ?_⟩
      refine q p _ _ (S6.trans (same_upd np)) ?_ upd_same (fun x => ?_) (by rw [List.length_mergeSort]; exact lk) ⟨(List.mergeSort_perm ks _).nodup_iff.mpr nk, PySem.W.sort_pairwise le1_total ks⟩
      · cases c : H p with
        | none => rfl
        | some o => rw [S6 _ _ c] at np; cases np
      · rw [(List.mergeSort_perm ks _).mem_iff]
        exact mk x
end
end Tb
namespace Tb
open PySem PySem.Spec PyProof.Rows L2
open PySem.W (AllAlike Sortable dataLe)
abbrev sLPath : Stmt := topS 37
abbrev NLPath : List Str := ["plan", "town", "address", "trail", "k", "way"]
theorem scLPath : FnScope NLPath ["plan", "town", "address"] (defScope sLPath) := ⟨rfl, rfl, rfl, by decide +kernel, rfl, by decide +kernel, by decide +kernel⟩
theorem cut_last (xs : List V) (v : V) : cutV (xs ++ [v]) none (some (-1)) = xs := by
  have h : HT.sIx (xs ++ [v]).length (xs ++ [v]).length (some (-1)) = xs.length := by
    rw [List.length_append]
    show (if ((-1 : Int) < 0) then ((-1 : Int) + ((xs.length + 1 : Nat) : Int)).toNat else min (-1 : Int).toNat (xs.length + 1)) = _
    rw [if_pos (by decide)]
    omega
  unfold cutV
  rw [h]
  show (List.drop 0 _).take (xs.length - 0) = _
  rw [List.drop_zero, Nat.sub_zero, List.take_left']
  rfl
/-- __init__ of Table, with what it makes anew -/
theorem tab_made3 {C CI : Addr} {H : Hp} {r x dx : Addr} {lst : Bool} {ts : List (Addr × Pr)} {R : VK} {E : XK} (RA : RowsAt H r lst ts) (nx : H x = none) (ndx : H dx = none) (hne : dx ≠ x) (g : Good (ts.map (·.2)))
    (q : ∀ (H' : Hp) (d : Addr), Same H H' → H d = none → H' x = some (.ins C dx [(wLanes, .ref d)]) → H' d = some (.dK (kvP ((ts.map (·.2)).mergeSort le2))) → R .non H') :
    spInit C CI [V.ref x, V.ref r] (L2.upd (L2.upd H dx (.own x)) x (.ins C dx [])) R E := by
  have S0 : Same H (L2.upd (L2.upd H dx (.own x)) x (.ins C dx [])) := (same_upd ndx).trans (same_upd (by rw [upd_ne (Ne.symm hne)]; exact nx))
  refine ⟨x, dx, r, lst, ts, rfl, upd_same, RA.same S0, fun _ d H' S nd hx hd => ?_, fun g' => absurd g g'⟩
  refine q H' d (fun b o hb => ?_) ?_ hx hd
  · exact S b o (S0 _ _ hb) (fun e => by rw [e, nx] at hb; cases hb)
  · cases c : H d with
    | none => rfl
    | some o => rw [S0 _ _ c] at nd; cases nd
theorem rows_zl {ps : List Pr} (g : Good ps) {p : Pr} (h : p ∈ ps) : p.1.length ≤ 1000 ∧ p.2.length ≤ 1000 := by
  have := g.1 p h
  have h1 := addr_len this.1
  have h2 := lane_len this.2
  omega
theorem prs_snoc {H1 : Hp} {R T : Addr} {ts : List (Addr × Pr)} {z l : Str} (hR : H1 R = some (.lst (ts.map fun t => V.ref t.1))) (ht : ∀ t ∈ ts, H1 t.1 = some (.tup [.str t.2.1, .str t.2.2])) (nT : H1 T = none) :
    Prs (L2.upd (L2.upd H1 T (.tup [.str z, .str l])) R (.lst (ts.map (fun t => V.ref t.1) ++ [V.ref T]))) R (ts ++ [(T, (z, l))]) := by
  have RT : R ≠ T := ne_of_none hR nT
  refine ⟨by rw [upd_same, List.map_append]; rfl, fun t hm => ?_⟩
  rcases List.mem_append.mp hm with hm | hm
  · rw [upd_ne (ne_of (ht t hm) hR (fun z => by cases z)), upd_ne (ne_of_none (ht t hm) nT)]
    exact ht t hm
  · rw [List.mem_singleton.mp hm]
    show L2.upd _ R _ T = _
    rw [upd_ne (Ne.symm RT)]
    exact upd_same
def TabX (C : Addr) (H0 : Hp) (G : Addr) (H : Hp) (b : Addr) (own : List Pr) : Prop := ∃ dx d, H b = some (.ins C dx [(wLanes, .ref d)]) ∧ H d = some (.dK (kvP (own.mergeSort le2))) ∧ H0 d = none ∧ d ≠ G ∧ H0 b = none ∧ b ≠ G
theorem TabX.keep {C : Addr} {H0 H H' : Hp} {G b : Addr} {own : List Pr} (T : TabX C H0 G H b own) (k : ∀ c o, H c = some o → H0 c = none → c ≠ G → H' c = some o) : TabX C H0 G H' b own := by
  obtain ⟨dx, d, h1, h2, h3, h4, h5, h6⟩ := T
  exact ⟨dx, d, k _ _ h1 h5 h6, k _ _ h2 h3 h4, h3, h4, h5, h6⟩
def spLPath : Sp := fun vs H Q _ => ∃ (d : Addr) (t a : Str) (es : List En), vs = [.ref d, .str t, .str a] ∧ PlanAt H d es ∧ es.length ≤ 900 ∧ a.length ≤ 1000 ∧ ∀ (T : Addr) (H' : Hp), Same H H' → PthAt H' T (pth (plOf es) a t) → Q (.ref T) H'
section
variable {P : Program} {w : World} {K : PySem.W.Frag} {mg : Str → Option Value} {base : Heap}
abbrev CLLane (P : Program) (w : World) (K : PySem.W.Frag) (mg : Str → Option Value) (base : Heap) (g : Addr) (gd : FuncData) := C1 P w K mg base "_law_lane" sLLane ["own", "address"] 1 (spDA laneV) g gd
theorem ok_tables {f C CI CU : Addr} {fd : FuncData} (F : Fun K "_law_tables" "_law_tables" sTables f fd) (B : Blt mg) (TK : TabK P w K mg base C CI CU) : FnOk P w K mg base CX0 6 f fd ["plan"] (spTables C) := by
  obtain ⟨fI, fdI, MK, bT, GT⟩ := TK.make
  refine F.ok scTables (fun vs H Q E h => ?_) (fun cdv A outer s H vs Q E hr h => ?_)
  · obtain ⟨d, es, rfl, _⟩ := h
    rfl
  · obtain ⟨d, es, rfl, hP0, hn, ht, q⟩ := h
    have hu := hu_of hr
    have hz : sizeLine = 16777216 := rfl
    have g := hP0.g
    refine ⟨_, (pss_cons (ps_set (i := 1) scTables.nd rfl (.inl rfl) pe_dnewK)
      (pss_cons (ps_lock (ps_for PassesOwn.never rfl (pi_keys (pv 0)) (pg_name (i := 2) scTables.nd rfl (.inr rfl))
        (pss_one (ps_lock (ps_dput hu (pv 1) (pv 2) (pe_make MK GT (hr.mono (by first | decide | omega)) (by rfl) TK.g bT .nil passL (pa_cons (pe_lc (own := [("prefix", 3)]) (g := gName 3) (by rfl) scTables.nd (pi_keys (pe_dget hu (pv 0) (pv 2) (fun _ _ => rfl))) (blkOk_by (N := NTables) (sc := defScope sTables) (by decide +kernel)) (fun _ _ _ _ _ => pg_name (i := 3) scTables.nd rfl (Or.inl rfl)) (fun _ _ _ _ _ => pts_nil) (fun _ _ _ _ _ => pe_tup (pa_cons (pv 3) (pa_cons (pe_dget hu (pe_dget hu (pv 0) (pv 2) (fun _ _ => rfl)) (pv 3) (fun _ _ => rfl)) pa_nil)))) pa_nil)) (by rfl))))))
      (pss_one (ps_ret (pv 1))))), ?_⟩
    intro G nG
    have S1 : Same H (L2.upd H G (.dK [])) := same_upd nG
    have Gd : G ≠ d := fun e => by rw [e, hP0.d] at nG; cases nG
    refine ⟨d, .dK (kvE es), S1 _ _ hP0.d, trivial, fun od => ?_⟩
    refine ⟨.ref d, rfl, d, od, rfl, .inl ⟨kvE es, upd_same, ?_⟩⟩
    refine for_it (walk_keys (d := d) (o := od) (kvs := kvE es)) (fun i σ H' => (∃ y2 y3, σ = [some (.ref d), some (.ref G), y2, y3]) ∧ But d H H' ∧ H' d = some (.frz od (.dK (kvE es))) ∧ ∃ es' : List En, H' G = some (.dK (kvE es')) ∧ (∀ e ∈ es', TabX C H G H' e.1 e.2.2) ∧ plOf es' = (plOf es).take i)
      ⟨⟨none, none, rfl⟩, (Same.but S1).trans But.upd, upd_same, [], by rw [upd_ne Gd]; exact upd_same, fun e h => (by cases h), rfl⟩ (fun i σ H' _ hP => hP.2.2.1) (fun i x σ H5 H6 hi hP hy => ?_) (fun σ H5 hP => ?_)
    · obtain ⟨⟨y2, y3, rfl⟩, b5, d5, es', g5, t5, epl⟩ := hP
      obtain ⟨rfl, k, v, ek, rfl⟩ := hy
      rw [kvE_at] at ek
      cases ee : es[i]? with
      | none => rw [ee] at ek; cases ek
      | some e =>
      rw [ee] at ek
      cases (Option.some.inj ek)
      have m := List.mem_of_getElem? ee
      have he := hP0.t e m
      have ed : e.1 ≠ d := fun z => by
        rw [z, hP0.d] at he
        exact kvP_kvE m (HO.dK.inj (Option.some.inj he)).symm
      have eG : e.1 ≠ G := fun z => by rw [z, nG] at he; cases he
      have he5 := b5 _ _ he ed
      have gd := (g.e e.2 (List.mem_map.mpr ⟨e, m, rfl⟩)).2.1
      have le : e.2.2.length ≤ 900 := by
        have := rows_tot (plOf es) e.2.1
        rw [rows_of_mem g.n m] at this
        omega
      have les : es'.length ≤ 900 := by
        have := congrArg List.length epl
        rw [plOf_len, List.length_take, plOf_len] at this
        omega
      have dg : ∀ H7 : Hp, H7 d = some (.frz od (.dK (kvE es))) → DGet H7 d (.str e.2.1) (some (.ref e.1)) := fun H7 d7 => by
        rw [← kvE_val g.n m]
        exact .inl ⟨_, Sum.inr e.2.1, .inr ⟨od, d7⟩, rfl, rfl⟩
      refine ⟨e.1, .dK (kvP e.2.2), he5, trivial, fun oe => ?_⟩
      have d7 : (L2.upd H6 e.1 (.frz oe (.dK (kvP e.2.2)))) d = some (.frz od (.dK (kvE es))) := by rw [upd_ne (Ne.symm ed)]; exact d5
      have e7 : (L2.upd H6 e.1 (.frz oe (.dK (kvP e.2.2)))) e.1 = some (.frz oe (.dK (kvP e.2.2))) := upd_same
      have b7 : ∀ c o, H6 c = some o → c ≠ e.1 → (L2.upd H6 e.1 (.frz oe (.dK (kvP e.2.2)))) c = some o := fun c o hc nc => by rw [upd_ne nc]; exact hc
      generalize L2.upd H6 e.1 (.frz oe (.dK (kvP e.2.2))) = H7 at d7 e7 b7
      refine ⟨.ref d, rfl, .str e.2.1, rfl, d, .ref e.1, rfl, dg _ d7, e.1, oe, rfl, .inl ⟨kvP e.2.2, e7, fun D nD => ?_⟩⟩
      refine lc_it (walk_keys (d := e.1) (o := oe) (kvs := kvP e.2.2)) (fun j H' => Same H7 H' ∧ ∃ ts : List (Addr × Pr), Prs H' D ts ∧ ts.map (·.2) = e.2.2.take j)
        ⟨same_upd nD, [], ⟨upd_same, fun t h => (by cases h)⟩, rfl⟩ (fun j H' _ hP => hP.1 _ _ e7) (fun j x H8 H9 hj hP hy => ?_) (fun H8 hP => ?_)
      · obtain ⟨S8, ts, pr, et⟩ := hP
        obtain ⟨rfl, k, v, ek, rfl⟩ := hy
        rw [kvP_at] at ek
        cases er : e.2.2[j]? with
        | none => rw [er] at ek; cases ek
        | some r =>
        rw [er] at ek
        cases (Option.some.inj ek)
        have mr := List.mem_of_getElem? er
        have lt : ts.length ≤ 900 := by
          have := congrArg List.length et
          rw [List.length_map, List.length_take] at this
          omega
        have dr : DGet H9 e.1 (.str r.1) (some (.str r.2)) := by
          rw [← valV_mem gd.2 mr]
          exact .inl ⟨_, Sum.inr r.1, .inr ⟨oe, S8 _ _ e7⟩, rfl, rfl⟩
        refine ⟨rfl, .str r.1, rfl, .ref d, rfl, .str e.2.1, rfl, d, .ref e.1, rfl, dg _ (S8 _ _ d7), .str r.1, rfl, e.1, .str r.2, rfl, dr, by show 2 ≤ sizeLine; omega, fun T nT => ⟨_, by rw [upd_ne (ne_of_none pr.l nT)]; exact pr.l, by rw [List.length_map]; omega, fun c o hc => ?_, ts ++ [(T, r)], prs_snoc pr.l pr.t nT, ?_⟩⟩
        · rw [upd_ne (ne_of_none hc nD), upd_ne (ne_of_none (S8 _ _ hc) nT)]
          exact S8 _ _ hc
        · rw [List.map_append, et, List.take_add_one, er]
          rfl
      · obtain ⟨S8, ts, pr, et⟩ := hP
        have et : ts.map (·.2) = e.2.2 := by rw [et, kvP_len, List.take_length]
        have lt : ts.length = e.2.2.length := by rw [← et, List.length_map]
        refine fun x dx nx ndx hne => ?_
        refine tab_made3 (H := H8) (lst := true) (ts := ts) ⟨pr.l, pr.t, by omega, fun t ht => rows_zl gd (et ▸ List.mem_map.mpr ⟨t, ht, rfl⟩)⟩ nx ndx hne (by rw [et]; exact gd) (fun HA dd SA ndd hx hd => ⟨rfl, ?_⟩)
        rw [et] at hd
        have SB := S8.trans SA
        have gA := SB _ _ (b7 _ _ g5 (Ne.symm eG))
        have eA := SB _ _ e7
        have dA := SB _ _ d7
        have xG : x ≠ G := ne_of hx gA (fun z => by cases z)
        have dG : dd ≠ G := fun z => by rw [z, S8 _ _ (b7 _ _ g5 (Ne.symm eG))] at ndd; cases ndd
        have old : ∀ c, H8 c = none → H c = none := fun c hc => by
          cases z : H c with
          | none => rfl
          | some o =>
            by_cases y : c = d
            · rw [y, S8 _ _ d7] at hc
              cases hc
            · by_cases y2 : c = e.1
              · rw [y2, S8 _ _ e7] at hc
                cases hc
              · rw [S8 _ _ (b7 _ _ (b5 _ _ z y) y2)] at hc
                cases hc
        refine ⟨.ref G, rfl, .str e.2.1, rfl, G, _, rfl, DPut.k (k := Sum.inr e.2.1) gA (by rw [kvE_len]; omega), by rw [upd_ne eG]; exact eA, ⟨_, _, rfl⟩, fun c o hc nc => ?_, ?_, es' ++ [(x, e.2)], ?_, fun y hy => ?_, ?_⟩
        · by_cases z : c = e.1
          · subst z
            rw [upd_same, ← he]
            exact hc
          · rw [upd_ne z, upd_ne (ne_of_none hc nG)]
            exact SB _ _ (b7 _ _ (b5 _ _ hc nc) z)
        · rw [upd_ne (Ne.symm ed), upd_ne (Ne.symm Gd)]
          exact dA
        · have no : e.2.1 ∉ (plOf es').map Prod.fst := fun mm => by
            have n2 := g.n
            have tk : (plOf es)[i]? = some e.2 := by
              unfold plOf
              rw [List.getElem?_map, ee]
              rfl
            have e3 : plOf es = (plOf es).take i ++ e.2 :: (plOf es).drop (i + 1) := by
              obtain ⟨h1, h2⟩ := List.getElem?_eq_some_iff.mp tk
              rw [← h2, ← List.drop_eq_getElem_cons h1, List.take_append_drop]
            rw [e3, ← epl, List.map_append] at n2
            exact (List.nodup_append.mp n2).2.2 e.2.1 mm e.2.1 List.mem_cons_self rfl
          rw [upd_ne (Ne.symm eG), upd_same, putK_new _ (kvE_none no)]
          unfold kvE
          rw [List.map_append]
          rfl
        · have off : ∀ c o, H c = none → c ≠ G → HA c = some o → (L2.upd (L2.upd HA G (.dK (putK (kvE es') (Sum.inr e.2.1) (.ref x)))) e.1 (.dK (kvP e.2.2))) c = some o := fun c o hc nc h => by
            rw [upd_ne (fun z => by rw [z, he] at hc; cases hc), upd_ne nc]
            exact h
          rcases List.mem_append.mp hy with my | my
          · exact (t5 y my).keep fun c o hc h0 nc => off c o h0 nc (SB _ _ (b7 _ _ hc (fun z => by rw [z, he] at h0; cases h0)))
          · rw [List.mem_singleton.mp my]
            exact ⟨dx, dd, off _ _ (old _ nx) xG hx, off _ _ (old _ ndd) dG hd, old _ ndd, dG, old _ nx, xG⟩
        · have tk : (plOf es)[i]? = some e.2 := by
            unfold plOf
            rw [List.getElem?_map, ee]
            rfl
          rw [List.take_add_one, tk, ← epl]
          unfold plOf
          rw [List.map_append]
          rfl
    · obtain ⟨⟨y2, y3, rfl⟩, b5, d5, es', g5, t5, epl⟩ := hP
      refine ⟨d5, ?_⟩
      have epl : plOf es' = plOf es := by rw [epl, kvE_len, ← plOf_len, List.take_length]
      refine ⟨.ref G, rfl, q G es' _ (unlock_same hP0.d b5) nG ⟨by rw [upd_ne Gd]; exact g5, fun e he => ?_⟩ epl⟩
      obtain ⟨dx, dd, h1, h2, h3, h4, h5, h6⟩ := t5 e he
      have ge := g.e e.2 (epl ▸ List.mem_map.mpr ⟨e, he, rfl⟩)
      refine ⟨⟨dx, dd, ?_, ?_⟩, ge.2.1, ?_⟩
      · rw [upd_ne (fun z => by rw [z, hP0.d] at h5; cases h5)]
        exact h1
      · rw [upd_ne (fun z => by rw [z, hP0.d] at h3; cases h3)]
        exact h2
      · have := rows_tot (plOf es) e.2.1
        rw [rows_mem g.n (epl ▸ List.mem_map.mpr ⟨e, he, rfl⟩)] at this
        omega
theorem ok_lpath {f g1 : Addr} {fd gd1 : FuncData} (F : Fun K "_law_path" "_law_path" sLPath f fd) (B : Blt mg) (cLLane : CLLane P w K mg base g1 gd1) : FnOk P w K mg base CX0 2 f fd ["plan", "town", "address"] spLPath := by
  refine F.ok scLPath (fun vs H Q E h => ?_) (fun cdv A outer s H vs Q E hr h => ?_)
  · obtain ⟨d, t, a, es, rfl, _⟩ := h
    rfl
  · obtain ⟨d, t, a, es, rfl, hP0, hn, la, q⟩ := h
    have hu := hu_of hr
    have hz : sizeLine = 16777216 := rfl
    have g := hP0.g
    refine ⟨_, (pss_cons (ps_set (i := 3) scLPath.nd rfl (.inl rfl) (pe_lst (pa_cons (pv 1) pa_nil)))
      (pss_cons (ps_for PassesOwn.never rfl (pi_range1 (by rfl) B.range (pa_cons (pe_op op_add (pe_callB call_lenD (by rfl) B.len PySem.boot_len (pa_cons (pv 0) pa_nil)) pe_int) pa_nil)) (pg_name (i := 4) scLPath.nd rfl (.inl rfl))
        (pss_cons (ps_set (i := 5) scLPath.nd rfl (.inl rfl) (pe_call cLLane.G (hr.mono (by first | decide | omega)) (by rfl) cLLane.D.g cLLane.D.F.kp cLLane.D.b .nil pass0 (pa_cons (pe_dget2 hu (pv 0) (pe_ix ix_list (pv 3) (pe_un un_neg pe_int) (fun _ _ => rfl)) pe_dnewK ⟨rfl, by rfl, rfl, rfl⟩) (pa_cons (pv 2) pa_nil))))
        (pss_cons (ps_if (pt_cmpR op_isN (pv 5) pe_non (nomark _))
          (pss_one (ps_ret (pe_tup (pa_cons (pv 3) (pa_cons pe_str pa_nil)))))
          pss_nil)
        (pss_cons (ps_if (pt_cmpR op_eq (pv 5) pe_str (nomark _))
          (pss_one (ps_ret (pe_tup (pa_cons (pv 3) (pa_cons pe_str pa_nil)))))
          pss_nil)
        (pss_cons (ps_set (i := 3) scLPath.nd rfl (.inl rfl) (pe_op op_cat (pv 3) (pe_lst (pa_cons (pv 5) pa_nil))))
        (pss_one (ps_if (pt_cmpR op_in_seq (pv 5) (pe_slice sl_list (pv 3) po_none (po_some (pe_un un_neg pe_int))) (by rfl))
          (pss_one (ps_ret (pe_tup (pa_cons (pv 3) (pa_cons pe_str pa_nil)))))
          pss_nil)))))))
      (pss_one (ps_ret (pe_tup (pa_cons (pv 3) (pa_cons pe_str pa_nil))))))), ?_⟩
    refine ⟨.str t, rfl, by show 1 ≤ sizeLine; omega, fun S nS => ?_⟩
    have S1 : Same H (L2.upd H S (.lst [.str t])) := same_upd nS
    have hS1 : (L2.upd H S (.lst [V.str t])) S = some (.lst (([] ++ [t] : List Str).map V.str)) := upd_same
    generalize L2.upd H S (.lst [V.str t]) = H1 at S1 hS1
    refine ⟨.ref d, rfl, d, _, rfl, S1 _ _ hP0.d, (kvE es).length, 1, rfl, rfl, (kvE es).length + 1, rfl, by rw [kvE_len]; omega, by rw [kvE_len]; omega, ?_⟩
    refine for_it (walk_range (lo := 0) (n := (((kvE es).length : Int) + 1).toNat)) (fun i σ H' => Same H H' ∧ ∃ S p l y4 y5, σ = [some (.ref d), some (.str t), some (.str a), some (.ref S), y4, y5] ∧ H' S = some (.lst ((p ++ [l]).map V.str)) ∧ p.length = i ∧ pth (plOf es) a t = pathF (laneAt (plOf es) a) (es.length + 1 - i) p l)
      ⟨S1, S, [], t, none, none, rfl, hS1, rfl, by unfold pth; rw [plOf_len]; rfl⟩ (fun _ _ _ _ _ => trivial) (fun i x σ H5 H6 hi hP hy => ?_) (fun σ H5 hP => ?_)
    · obtain ⟨S5, S, p, l, y4, y5, rfl, hS, lp, ep⟩ := hP
      obtain ⟨rfl, rfl⟩ := hy
      have hi2 : i < es.length + 1 := by rw [kvE_len] at hi; omega
      obtain ⟨n, hn2⟩ : ∃ n, es.length + 1 - i = n + 1 := ⟨es.length - i, by omega⟩
      rw [hn2] at ep
      refine ⟨.ref d, rfl, d, rfl, .inl ⟨_, .of (S5 _ _ hP0.d)⟩, .ref S, rfl, 1, rfl, S, _, _, .str l, rfl, rfl, sqOf hS, by rw [List.map_append]; exact atI_last _ _, fun D nD => ?_⟩
      have S7 : Same H6 (L2.upd H6 D (.dK [])) := same_upd nD
      have hD7 : (L2.upd H6 D (.dK [])) D = some (.dK (kvP [])) := upd_same
      generalize L2.upd H6 D (.dK []) = H7 at S7 hD7
      have S8 := S5.trans S7
      have hS7 := S7 _ _ hS
      have pick : ∃ (b : Addr) (o' : Option V), DGet H7 d (.str l) o' ∧ o'.getD (.ref D) = .ref b ∧ H7 b = some (.dK (kvP (rowsOf (plOf es) l))) := by
        rcases es_case es l with ⟨e, he, rfl⟩ | hn
        · refine ⟨e.1, some (.ref e.1), ?_, rfl, ?_⟩
          · rw [← kvE_val g.n he]
            exact DGet.k (k := Sum.inr e.2.1) (S8 _ _ hP0.d)
          · rw [rows_of_mem g.n he]
            exact S8 _ _ (hP0.t e he)
        · refine ⟨D, none, ?_, rfl, ?_⟩
          · rw [← kvE_none hn]
            exact DGet.k (k := Sum.inr l) (S8 _ _ hP0.d)
          · rw [rows_not hn]
            exact hD7
      obtain ⟨b, o', dg, eo, hb⟩ := pick
      refine ⟨o', dg, .str a, rfl, ?_⟩
      rw [eo]
      refine ⟨b, _, a, rfl, hb, la, ?_⟩
      show gName 5 (laneAt (plOf es) a l) _ _ _
      have lpl : p.length < 900 + 1 := by omega
      conv at ep => rhs; unfold pathF
      rcases lane_str (plOf es) a l with el | ⟨x, el⟩
      · rw [el] at ep ⊢
        refine ⟨.non, rfl, rfl, true, rfl, ?_⟩
        refine ⟨.ref S, rfl, by show 2 ≤ sizeLine; omega, fun T nT => q T _ (S8.trans (same_upd nT)) ⟨S, ?_, ?_⟩⟩
        · rw [upd_same, ep]
          rfl
        · rw [upd_ne (ne_of_none hS7 nT), ep]
          exact hS7
      · rw [el] at ep ⊢
        dsimp only at ep
        refine ⟨.str x, rfl, rfl, false, rfl, ?_⟩
        refine ⟨.str x, rfl, rfl, _, rfl, ite2 (fun c => ?_) (fun c => ?_)⟩
        · have c0 : x = wE := V.str.inj (of_decide_eq_true c)
          rw [if_pos c0] at ep
          refine ⟨.ref S, rfl, by show 2 ≤ sizeLine; omega, fun T nT => q T _ (S8.trans (same_upd nT)) ⟨S, ?_, ?_⟩⟩
          · rw [upd_same, ep]
            rfl
          · rw [upd_ne (ne_of_none hS7 nT), ep]
            exact hS7
        · have c0 : ¬ (x = wE) := fun z => c (decide_eq_true (by rw [z]; rfl))
          rw [if_neg c0] at ep
          refine ⟨.ref S, rfl, .str x, rfl, by show 1 ≤ sizeLine; omega, fun L nL => ⟨S, L, _, _, rfl, rfl, (same_upd nL) _ _ hS7, upd_same, by rw [List.length_map, List.length_append]; show p.length + 1 + 1 ≤ sizeLine; omega, fun S2 nS2 => ?_⟩⟩
          have S9 : Same H (L2.upd (L2.upd H7 L (.lst [.str x])) S2 (.lst ((p ++ [l]).map V.str ++ [.str x]))) := (S8.trans (same_upd nL)).trans (same_upd nS2)
          have hS9 : (L2.upd (L2.upd H7 L (.lst [V.str x])) S2 (.lst ((p ++ [l]).map V.str ++ [V.str x]))) S2 = some (.lst ((p ++ [l]).map V.str ++ [V.str x])) := upd_same
          generalize L2.upd (L2.upd H7 L (.lst [V.str x])) S2 (.lst ((p ++ [l]).map V.str ++ [V.str x])) = H9 at S9 hS9
          refine ⟨.str x, rfl, .ref S2, rfl, 1, rfl, _, rfl, S2, _, rfl, sqOf hS9, fun Z nZ => ⟨Z, _, rfl, .inl (sqOf upd_same), rfl, by rw [show cutV ((p ++ [l]).map V.str ++ [V.str x]) none (some (-1)) = (p ++ [l]).map V.str from cut_last _ _]; exact flat_strs _, _, rfl, ?_⟩⟩
          have SZ := S9.trans (same_upd nZ (o := .lst (cutV ((p ++ [l]).map V.str ++ [V.str x]) none (some (-1)))))
          have hSZ := (same_upd nZ (o := .lst (cutV ((p ++ [l]).map V.str ++ [V.str x]) none (some (-1))))) _ _ hS9
          generalize L2.upd H9 Z (.lst (cutV ((p ++ [l]).map V.str ++ [V.str x]) none (some (-1)))) = HZ at SZ hSZ
          rw [show cutV ((p ++ [l]).map V.str ++ [V.str x]) none (some (-1)) = (p ++ [l]).map V.str from cut_last _ _]
          have em : (p ++ [l]).map V.str ++ [V.str x] = (p ++ [l] ++ [x]).map V.str := by rw [List.map_append (l₂ := [x])]; rfl
          rw [em] at hSZ
          show if (inV (.str x) ((p ++ [l]).map V.str)) = true then _ else _
          by_cases c2 : x ∈ p ++ [l]
          · rw [inV_str c2]
            rw [if_pos c2] at ep
            refine ⟨.ref S2, rfl, by show 2 ≤ sizeLine; omega, fun T nT => q T _ (SZ.trans (same_upd nT)) ⟨S2, ?_, ?_⟩⟩
            · rw [upd_same, ep]
              rfl
            · rw [upd_ne (ne_of_none hSZ nT), ep]
              exact hSZ
          · rw [if_neg c2] at ep
            rw [show inV (.str x) ((p ++ [l]).map V.str) = false by
              cases z : inV (.str x) ((p ++ [l]).map V.str) with
              | false => rfl
              | true => exact absurd (str_inV z) c2]
            refine ⟨SZ, S2, p ++ [l], x, _, _, rfl, hSZ, by rw [List.length_append, lp]; rfl, ?_⟩
            rw [ep, show es.length + 1 - (i + 1) = n by omega]
    · obtain ⟨S5, S, p, l, y4, y5, rfl, hS, lp, ep⟩ := hP
      rw [show es.length + 1 - (((kvE es).length : Int) + 1).toNat = 0 by rw [kvE_len]; omega] at ep
      refine ⟨.ref S, rfl, by show 2 ≤ sizeLine; omega, fun T nT => q T _ (S5.trans (same_upd nT)) ⟨S, ?_, ?_⟩⟩
      · rw [upd_same, ep]
        rfl
      · rw [upd_ne (ne_of_none hS nT), ep]
        exact hS
end
end Tb
namespace Tb
open PySem PySem.Spec PyProof.Rows L2
open PySem.W (AllAlike Sortable dataLe TotalLe)
abbrev sTowns : Stmt := topS 35
abbrev NTowns : List Str := ["bag", "many", "found", "k"]
theorem scTowns : FnScope NTowns ["bag", "many"] (defScope sTowns) := ⟨rfl, rfl, rfl, by decide +kernel, rfl, by decide +kernel, by decide +kernel⟩
theorem put_lane {own : List Pr} {p w : Str} (h : laneV (kvP own) p = .str w) (a : Str) : laneV (kvP (putP own p w)) a = laneV (kvP own) a := by
  have gen : ∀ n, n ≤ a.length → laneN (kvP (putP own p w)) a n = laneN (kvP own) a n := by
    intro n
    induction n with
    | zero => exact fun _ => rfl
    | succ n ih =>
      intro hn
      have hv : valV (kvP (putP own p w)) (Sum.inr (pre a (n + 1))) = if pre a (n + 1) = p then some (.str w) else valV (kvP own) (Sum.inr (pre a (n + 1))) := by
        rw [← put_kvP, valV_put]
        by_cases c : pre a (n + 1) = p
        · rw [if_pos c, if_pos (inr_eq.mpr c)]
        · rw [if_neg c, if_neg fun z => c (inr_eq.mp z)]
      by_cases c : pre a (n + 1) = p
      · rw [if_pos c] at hv
        rw [laneN_yes hv, ← laneV_pre hn, c, h]
      · rw [if_neg c] at hv
        cases e : valV (kvP own) (Sum.inr (pre a (n + 1))) with
        | some v => rw [laneN_yes (hv.trans e), laneN_yes e]
        | none => rw [laneN_no (hv.trans e), laneN_no e, ih (by omega)]
  exact gen _ (Nat.le_refl _)
theorem sim_aft {pl : Pl} (g : GoodPl pl) {t p w : Str} (h : laneAt pl p t = .str w) : Sim (plAft pl t p (some w)) pl := by
  refine ⟨fun a u => ?_, ?_⟩
  · unfold laneAt
    rw [rows_aft g.n]
    by_cases c : u = t
    · rw [if_pos c, c]
      exact put_lane h a
    · rw [if_neg c]
  · have k : t ∈ pl.map Prod.fst := lane_key (a := p) (by rw [h]; exact fun e => by cases e)
    unfold plAft
    rw [if_pos k, List.length_map]
structure Tw (H : Hp) (l : Addr) (ts : List Str) : Prop where
  l : H l = some (.lst (ts.map V.str))
  n : ts.Nodup
  g : ∀ x ∈ ts, isName x = true
  z : ts.length ≤ 60
theorem Tw.same {H H' : Hp} {l : Addr} {ts : List Str} (T : Tw H l ts) (h : Same H H') : Tw H' l ts := ⟨h _ _ T.l, T.n, T.g, T.z⟩
theorem Tw.txs {H : Hp} {l : Addr} {ts : List Str} (T : Tw H l ts) : Txs H l ts := ⟨T.l, by have := T.z; omega, fun x hx => name_tx (T.g x hx)⟩
theorem Tw.but {H H' : Hp} {l p : Addr} {ts : List Str} (T : Tw H l ts) (B : Bag H p) (h : But p H H') : Tw H' l ts := ⟨h _ _ T.l (T.txs.off B), T.n, T.g, T.z⟩
theorem name_lane {t : Str} (h : isName t = true) : isLane t = true := lane_of_name ((isName_iff t).mp h)
theorem wE_lane : isLane wE = true := by decide +kernel
theorem wE_name {t : Str} (h : isName t = true) : wE ≠ t := fun e => by
  rw [← e] at h
  revert h
  decide +kernel
def spTowns : Sp := fun vs H Q _ => ∃ (p : Addr) (n : Int), vs = [.ref p, .int n] ∧ Bag H p ∧ 0 ≤ n ∧ n ≤ 50 ∧ ∀ (l : Addr) (ts : List Str) (H' : Hp), Bag H' p → But p H H' → Tw H' l ts → ts.length = n.toNat + 2 → Q (.ref l) H'
section
variable {P : Program} {w : World} {K : PySem.W.Frag} {mg : Str → Option Value} {base : Heap}
theorem ok_towns {f g1 : Addr} {fd gd1 : FuncData} (F : Fun K "_law_towns" "_law_towns" sTowns f fd) (B : Blt mg) (cFresh : C1 P w K mg base "_law_fresh_name" sFresh ["bag", "known"] 2 spFresh g1 gd1) : FnOk P w K mg base CX0 3 f fd ["bag", "many"] spTowns := by
  refine F.ok scTowns (fun vs H Q E h => ?_) (fun cdv A outer s H vs Q E hr h => ?_)
  · obtain ⟨p, n, rfl, _⟩ := h
    rfl
  · obtain ⟨p, n, rfl, hB, n0, n1, q⟩ := h
    have hz : sizeLine = 16777216 := rfl
    refine ⟨_, (pss_cons (ps_set (i := 2) scTowns.nd rfl (.inl rfl) (pe_lst pa_nil))
      (pss_cons (ps_for PassesOwn.never rfl (pi_range1 (by rfl) B.range (pa_cons (pe_op op_add (pv 1) pe_int) pa_nil)) (pg_name (i := 3) scTowns.nd rfl (.inl rfl))
        (pss_one (ps_expr (pe_bm PySem.F.plainAttrs_list PySem.F.slot_list_append PySem.F.type_list_append mt_append (pv 2) (pa_cons (pe_call cFresh.G (hr.mono (by first | decide | omega)) (by rfl) cFresh.D.g cFresh.D.F.kp cFresh.D.b .nil pass0 (pa_cons (pv 0) (pa_cons (pv 2) pa_nil))) pa_nil)))))
      (pss_one (ps_ret (pv 2))))), ?_⟩
    refine ⟨Nat.zero_le _, fun L nL => ?_⟩
    have S1 : Same H (L2.upd H L (.lst [])) := same_upd nL
    have Lp := bag_no hB nL
    refine ⟨.int n, rfl, n, 2, rfl, rfl, n + 2, rfl, by omega, by omega, ?_⟩
    refine for_it (walk_range (lo := 0) (n := (n + 2).toNat)) (fun i σ H' => ∃ ks y3, σ = [some (.ref p), some (.int n), some (.ref L), y3] ∧ Txs H' L ks ∧ (∀ x ∈ ks, Nm (tl x)) ∧ ks.Nodup ∧ ks.length = i ∧ Bag H' p ∧ But p H H')
      ⟨[], none, rfl, ⟨upd_same, Nat.zero_le _, fun x h => (by cases h)⟩, fun x h => (by cases h), List.nodup_nil, rfl, hB.same S1, Same.but S1⟩ (fun _ _ _ _ _ => trivial) (fun i x σ H5 H6 hi hP hy => ?_) (fun σ H5 hP => ?_)
    · obtain ⟨ks, y3, rfl, T5, nm, nd, lk, B5, b5⟩ := hP
      obtain ⟨rfl, rfl⟩ := hy
      refine ⟨.ref L, rfl, .inl ⟨rfl, _, sqOf T5.l⟩, .ref p, rfl, .ref L, rfl, p, L, ks, rfl, B5, T5, nm, fun z H7 nz new B7 b7 => ?_⟩
      have T7 := T5.but B5 b7
      refine ⟨L, _, .str z, rfl, rfl, T7.l, by rw [List.length_map]; omega, ks ++ [z], _, rfl, ⟨by rw [upd_same, List.map_append]; rfl, by rw [List.length_append]; show ks.length + 1 ≤ 400; omega, fun x hx => ?_⟩, fun x hx => ?_, ?_, by rw [List.length_append, lk]; rfl, B7.put Lp, (b5.trans b7).put nL⟩
      · rcases List.mem_append.mp hx with h | h
        · exact T7.t x h
        · rw [List.mem_singleton.mp h]
          exact nm_tx nz
      · rcases List.mem_append.mp hx with h | h
        · exact nm x h
        · rw [List.mem_singleton.mp h]
          exact nz
      · exact List.nodup_append.mpr ⟨nd, List.nodup_cons.mpr ⟨List.not_mem_nil, List.nodup_nil⟩, fun y hy z' hz' e => new (by omega) (by rw [← List.mem_singleton.mp hz', ← e]; exact hy)⟩
    · obtain ⟨ks, y3, rfl, T5, nm, nd, lk, B5, b5⟩ := hP
      exact ⟨.ref L, rfl, q L ks H5 B5 b5 ⟨T5.l, nd, fun x hx => (isName_iff x).mpr (nm x hx), by omega⟩ (by omega)⟩
end
end Tb
namespace Tb
open PySem PySem.Spec PyProof.Rows L2
open PySem.W (AllAlike Sortable dataLe TotalLe)
abbrev sPlan : Stmt := topS 36
abbrev NPlan : List Str := ["bag", "towns", "many", "most", "plan", "known", "k", "ways", "own", "j", "prefix", "stem", "last", "one"]
theorem scPlan : FnScope NPlan ["bag", "towns", "many", "most"] (defScope sPlan) := ⟨rfl, rfl, rfl, by decide +kernel, rfl, by decide +kernel, by decide +kernel⟩
/-- a plan while it is built -/
structure Bp (H0 H : Hp) (p D : Addr) (es : List En) : Prop where
  d : H D = some (.dK (kvE es))
  t : ∀ e ∈ es, H e.1 = some (.dK (kvP e.2.2))
  f : ∀ e ∈ es, H0 e.1 = none ∧ e.1 ≠ D
  a : (es.map (·.1)).Nodup
  g : ∀ e ∈ es, isName e.2.1 = true ∧ Good e.2.2 ∧ e.2.1 ∉ e.2.2.map Prod.snd
  B : Bag H p
  b : But p H0 H
theorem Bp.keep {H0 H H' : Hp} {p D : Addr} {es : List En} (T : Bp H0 H p D es) (k : ∀ c kvs, H c = some (.dK kvs) → c = D ∨ (∃ e ∈ es, c = e.1) → H' c = some (.dK kvs)) (B' : Bag H' p) (b' : But p H0 H') : Bp H0 H' p D es :=
  ⟨k _ _ T.d (.inl rfl), fun e he => k _ _ (T.t e he) (.inr ⟨e, he, rfl⟩), T.f, T.a, T.g, B', b'⟩
theorem Bp.draw {H0 H H' : Hp} {p D : Addr} {es : List En} (T : Bp H0 H p D es) (B' : Bag H' p) (b' : But p H H') : Bp H0 H' p D es := by
  obtain ⟨xs, hp⟩ := T.B.lst
  exact T.keep (fun c kvs hc _ => b' _ _ hc (ne_of hc hp (fun z => by cases z))) B' (T.b.trans b')
theorem Bp.same {H0 H H' : Hp} {p D : Addr} {es : List En} (T : Bp H0 H p D es) (S : Same H H') : Bp H0 H' p D es := T.keep (fun c kvs hc _ => S _ _ hc) (T.B.same S) (T.b.trans (Same.but S))
theorem Bp.plan {H0 H : Hp} {p D : Addr} {es : List En} (T : Bp H0 H p D es) (n : ((plOf es).map Prod.fst).Nodup) : PlanAt H D es := ⟨T.d, T.t, fun x hx => by
  obtain ⟨e, he, rfl⟩ := List.mem_map.mp hx
  exact T.g e he, n⟩
/-- a list other than the bag is written -/
theorem put_off {H0 H : Hp} {p L : Addr} {o : HO} (b : But p H0 H) (n : H0 L = none) : But p H0 (L2.upd H L o) := fun c u hc nc => by
  rw [upd_ne (ne_of_none hc n)]
  exact b _ _ hc nc
theorem Bp.snoc {H0 H : Hp} {p D O : Addr} {es : List En} {t : Str} {own : List Pr} (T : Bp H0 H p D es) (hO : H O = some (.dK (kvP own))) (n1 : H0 O = none) (n2 : O ≠ D) (n3 : ∀ e ∈ es, e.1 ≠ O) (nt : t ∉ (plOf es).map Prod.fst) (nD : H0 D = none) (g : isName t = true ∧ Good own ∧ t ∉ own.map Prod.snd) :
    Bp H0 (L2.upd H D (.dK (putK (kvE es) (Sum.inr t) (.ref O)))) p D (es ++ [(O, (t, own))]) := by
  obtain ⟨xs, hp⟩ := T.B.lst
  refine ⟨?_, fun e he => ?_, fun e he => ?_, ?_, fun e he => ?_, T.B.put (ne_of T.d hp (fun z => by cases z)), put_off T.b nD⟩
  · rw [upd_same, putK_new _ (kvE_none nt)]
    unfold kvE
    rw [List.map_append]
    rfl
  · rcases List.mem_append.mp he with m | m
    · rw [upd_ne (T.f e m).2]
      exact T.t e m
    · rw [List.mem_singleton.mp m, upd_ne n2]
      exact hO
  · rcases List.mem_append.mp he with m | m
    · exact T.f e m
    · rw [List.mem_singleton.mp m]
      exact ⟨n1, n2⟩
  · rw [List.map_append]
    exact List.nodup_append.mpr ⟨T.a, List.nodup_cons.mpr ⟨List.not_mem_nil, List.nodup_nil⟩, fun y hy z hz e => by
      obtain ⟨x, hx, rfl⟩ := List.mem_map.mp hy
      have e2 : x.1 = O := e.trans (List.mem_singleton.mp hz)
      exact n3 x hx e2⟩
  · rcases List.mem_append.mp he with m | m
    · exact T.g e m
    · rw [List.mem_singleton.mp m]
      exact g
theorem tot_bound {pl : Pl} {m : Nat} (h : ∀ e ∈ pl, e.2.length ≤ m) : tot pl ≤ pl.length * m := by
  induction pl with
  | nil => exact Nat.zero_le _
  | cons e pl ih =>
    rw [tot_cons, List.length_cons, Nat.succ_mul]
    have := h e List.mem_cons_self
    have := ih fun x hx => h x (List.mem_cons_of_mem _ hx)
    omega
/-- a row put into one town -/
def setR (es : List En) (i : Nat) (z w : Str) : List En := match es[i]? with
  | some e => es.set i (e.1, (e.2.1, putP e.2.2 z w))
  | none => es
theorem setR_at {es : List En} {i : Nat} {e : En} (h : es[i]? = some e) (z w : Str) : setR es i z w = es.set i (e.1, (e.2.1, putP e.2.2 z w)) := by
  unfold setR
  rw [h]
theorem setR_kvE {es : List En} {i : Nat} {e : En} (h : es[i]? = some e) (z w : Str) : kvE (setR es i z w) = kvE es ∧ (setR es i z w).map (·.1) = es.map (·.1) ∧ (plOf (setR es i z w)).map Prod.fst = (plOf es).map Prod.fst ∧ (setR es i z w).length = es.length := by
  obtain ⟨hi, hx⟩ := List.getElem?_eq_some_iff.mp h
  rw [setR_at h]
  have gen : ∀ {β : Type} (f : En → β), f (e.1, (e.2.1, putP e.2.2 z w)) = f e → (es.set i (e.1, (e.2.1, putP e.2.2 z w))).map f = es.map f := fun f hf => by
    rw [List.map_set, hf, ← hx, ← List.getElem_map f (h := by rw [List.length_map]; exact hi), List.set_getElem_self]
  refine ⟨gen _ rfl, gen _ rfl, ?_, List.length_set⟩
  unfold plOf
  rw [List.map_map, List.map_map]
  exact gen _ rfl
theorem mem_setR {es : List En} {i : Nat} {e x : En} (h : es[i]? = some e) {z w : Str} (m : x ∈ setR es i z w) : (∃ j, j ≠ i ∧ es[j]? = some x) ∨ x = (e.1, (e.2.1, putP e.2.2 z w)) := by
  rw [setR_at h] at m
  obtain ⟨j, hj⟩ := List.getElem?_of_mem m
  rw [List.getElem?_set] at hj
  by_cases c : i = j
  · subst c
    rw [if_pos rfl] at hj
    split at hj
    · exact .inr (Option.some.inj hj).symm
    · cases hj
  · rw [if_neg c] at hj
    exact .inl ⟨j, fun z => c z.symm, hj⟩
theorem Bp.set {H0 H : Hp} {p D : Addr} {es : List En} (T : Bp H0 H p D es) {i : Nat} {e : En} (h : es[i]? = some e) {z w : Str} (az : isAddr z = true) (lw : isLane w = true) (nw : w ≠ e.2.1) :
    Bp H0 (L2.upd H e.1 (.dK (putK (kvP e.2.2) (Sum.inr z) (.str w)))) p D (setR es i z w) := by
  have m := List.mem_of_getElem? h
  obtain ⟨k1, k2, k3, k4⟩ := setR_kvE h z w
  obtain ⟨xs, hp⟩ := T.B.lst
  have ge := T.g e m
  have inj : ∀ x j, j ≠ i → es[j]? = some x → x.1 ≠ e.1 := fun x j nj hx ee => by
    have n := T.a
    obtain ⟨a1, a2⟩ := List.getElem?_eq_some_iff.mp hx
    obtain ⟨b1, b2⟩ := List.getElem?_eq_some_iff.mp h
    have l1 : j < (es.map (·.1)).length := by rw [List.length_map]; exact a1
    have l2 : i < (es.map (·.1)).length := by rw [List.length_map]; exact b1
    refine nj ((List.getElem_inj (i := j) (j := i) (h₀ := l1) (h₁ := l2) n).mp ?_)
    rw [List.getElem_map, List.getElem_map, a2, b2]
    exact ee
  refine ⟨?_, fun x hx => ?_, fun x hx => ?_, by rw [k2]; exact T.a, fun x hx => ?_, T.B.put (ne_of (T.t e m) hp (fun z => by cases z)), put_off T.b (T.f e m).1⟩
  · rw [upd_ne (Ne.symm (T.f e m).2), k1]
    exact T.d
  · rcases mem_setR h hx with ⟨j, nj, hj⟩ | rfl
    · rw [upd_ne (inj x j nj hj)]
      exact T.t x (List.mem_of_getElem? hj)
    · rw [upd_same, put_kvP]
  · rcases mem_setR h hx with ⟨j, nj, hj⟩ | rfl
    · exact T.f x (List.mem_of_getElem? hj)
    · exact T.f e m
  · rcases mem_setR h hx with ⟨j, nj, hj⟩ | rfl
    · exact T.g x (List.mem_of_getElem? hj)
    · refine ⟨ge.1, put_good ge.2.1 az lw, fun mm => ?_⟩
      obtain ⟨q, hq, eq⟩ := List.mem_map.mp mm
      rcases mem_put hq with hq | rfl
      · exact ge.2.2 (List.mem_map.mpr ⟨q, hq, eq⟩)
      · exact nw eq
def spPlan : Sp := fun vs H Q _ => ∃ (p l : Addr) (many most : Int) (ts : List Str), vs = [.ref p, .ref l, .int many, .int most] ∧ Bag H p ∧ Tw H l ts ∧ 0 ≤ many ∧ many.toNat + 2 = ts.length ∧ 0 ≤ most ∧ most ≤ 30 ∧ many.toNat * (most.toNat + 1) ≤ 100 ∧
  ∀ (d : Addr) (es : List En) (H' : Hp), Bag H' p → But p H H' → PlanAt H' d es → es.length = many.toNat → tot (plOf es) ≤ 100 → (plOf es).map Prod.fst = ts.take many.toNat → Q (.ref d) H'
end Tb
namespace Tb
open PySem PySem.Spec PyProof.Rows L2
open PySem.W (AllAlike Sortable dataLe TotalLe)
structure Pz (H0 H : Hp) (p l D Kn U O : Addr) (ts ws ks : List Str) (es : List En) (own : List Pr) : Prop where
  P : Bp H0 H p D es
  o : H O = some (.dK (kvP own))
  u : H U = some (.lst (ws.map V.str))
  up : U ≠ p
  T : Tw H l ts
  k : Txs H Kn ks
theorem Pz.draw {H0 H H' : Hp} {p l D Kn U O : Addr} {ts ws ks : List Str} {es : List En} {own : List Pr} (Z : Pz H0 H p l D Kn U O ts ws ks es own) (B' : Bag H' p) (b' : But p H H') : Pz H0 H' p l D Kn U O ts ws ks es own := by
  obtain ⟨xs, hp⟩ := Z.P.B.lst
  exact ⟨Z.P.draw B' b', b' _ _ Z.o (ne_of Z.o hp (fun z => by cases z)), b' _ _ Z.u Z.up, Z.up, Z.T.but Z.P.B b', Z.k.but Z.P.B b'⟩
theorem Pz.same {H0 H H' : Hp} {p l D Kn U O : Addr} {ts ws ks : List Str} {es : List En} {own : List Pr} (Z : Pz H0 H p l D Kn U O ts ws ks es own) (S : Same H H') : Pz H0 H' p l D Kn U O ts ws ks es own :=
  ⟨Z.P.same S, S _ _ Z.o, S _ _ Z.u, Z.up, Z.T.same S, Z.k.same S⟩
section
variable {P : Program} {w : World} {K : PySem.W.Frag} {mg : Str → Option Value} {base : Heap}
theorem ok_plan {f g1 g2 : Addr} {fd gd1 gd2 : FuncData} (F : Fun K "_law_plan" "_law_plan" sPlan f fd) (B : Blt mg) (cDraw : CDraw P w K mg base g1 gd1) (cPrefix : CPrefix P w K mg base g2 gd2) : FnOk P w K mg base CX0 3 f fd ["bag", "towns", "many", "most"] spPlan := by
  refine F.ok scPlan (fun vs H Q E h => ?_) (fun cdv A outer s H vs Q E hr h => ?_)
  · obtain ⟨p, l, many, most, ts, rfl, _⟩ := h
    rfl
  · obtain ⟨p, l, many, most, ts, rfl, hB, hT, m0, lts, o0, o1, bnd, q⟩ := h
    have hu := hu_of hr
    have hz : sizeLine = 16777216 := rfl
    have tz : ts.length ≤ 60 := hT.z
    refine ⟨_, (pss_cons (ps_set (i := 4) scPlan.nd rfl (.inl rfl) pe_dnewK)
      (pss_cons (ps_set (i := 5) scPlan.nd rfl (.inl rfl) (pe_lst pa_nil))
      (pss_cons (ps_for PassesOwn.never rfl (pi_range1 (by rfl) B.range (pa_cons (pv 2) pa_nil)) (pg_name (i := 6) scPlan.nd rfl (.inr rfl))
        (pss_cons (ps_set (i := 7) scPlan.nd rfl (.inl rfl) (pe_op op_cat (pe_lst (pa_cons pe_str pa_nil)) (pe_lc (own := [("one", 13)]) (g := gName 13) (by rfl) scPlan.nd (pi_list (pv 1)) (blkOk_by (N := NPlan) (sc := defScope sPlan) (by decide +kernel)) (fun _ _ _ _ _ => pg_name (i := 13) scPlan.nd rfl (Or.inl rfl)) (fun _ _ _ _ _ => pts_one (pt_cmpR op_ne (pv 13) (pe_ix (r := rIxL K) ix_list (pv 1) (pv 6) (fun _ _ => rfl)) (nomark _))) (fun _ _ _ _ _ => pv 13))))
        (pss_cons (ps_set (i := 8) scPlan.nd rfl (.inl rfl) pe_dnewK)
        (pss_cons (ps_for PassesOwn.never rfl (pi_range1 (by rfl) B.range (pa_cons (pe_call cDraw.G (hr.mono (by first | decide | omega)) (by rfl) cDraw.D.g cDraw.D.F.kp cDraw.D.b .nil pass0 (pa_cons (pv 0) (pa_cons (pe_op op_add (pv 3) pe_int) pa_nil))) pa_nil)) (pg_name (i := 9) scPlan.nd rfl (.inl rfl))
          (pss_cons (ps_set (i := 10) scPlan.nd rfl (.inl rfl) (pe_call cPrefix.G (hr.mono (by first | decide | omega)) (by rfl) cPrefix.D.g cPrefix.D.F.kp cPrefix.D.b .nil pass0 (pa_cons (pv 0) (pa_cons (pv 5) pa_nil))))
          (C8.pss_cut (ps_if (PW.pt (pw_and (pt_cmpR (op_neD hr.units) (pv 5) (pe_lst pa_nil) (nomark _)) (pw_and1 (pt_cmpR op_eq (pe_call cDraw.G (hr.mono (by first | decide | omega)) (by rfl) cDraw.D.g cDraw.D.F.kp cDraw.D.b .nil pass0 (pa_cons (pv 0) (pa_cons pe_int pa_nil))) pe_int (nomark _)))))
            (pss_one (ps_set (i := 10) scPlan.nd rfl (.inl rfl) (pe_ix ix_list (pv 5) (pe_call cDraw.G (hr.mono (by first | decide | omega)) (by rfl) cDraw.D.g cDraw.D.F.kp cDraw.D.b .nil pass0 (pa_cons (pv 0) (pa_cons (pe_callB call_len_seq (by rfl) B.len PySem.boot_len (pa_cons (pv 5) pa_nil)) pa_nil))) (fun _ _ => rfl))))
            pss_nil)
          (C8.pss_cut (ps_if (pt_cmpR op_notIn_seq (pv 10) (pv 5) (by rfl))
            (pss_one (ps_expr (pe_bm PySem.F.plainAttrs_list PySem.F.slot_list_append PySem.F.type_list_append mt_append (pv 5) (pa_cons (pv 10) pa_nil))))
            pss_nil)
          (pss_one (ps_dput hu (pv 8) (pv 10) (pe_ix ix_list (pv 7) (pe_call cDraw.G (hr.mono (by first | decide | omega)) (by rfl) cDraw.D.g cDraw.D.F.kp cDraw.D.b .nil pass0 (pa_cons (pv 0) (pa_cons (pe_callB call_len_seq (by rfl) B.len PySem.boot_len (pa_cons (pv 7) pa_nil)) pa_nil))) (fun _ _ => rfl)) (by rfl)))))))
        (pss_one (ps_dput hu (pv 4) (pe_ix ix_list (pv 1) (pv 6) (fun _ _ => rfl)) (pv 8) (by rfl)))))))
      (C8.pss_cut (ps_if (PW.pt (pw_and (pt_cmpR op_gt (pv 2) pe_int (nomark _)) (pw_and1 (pt_cmpR op_eq (pe_call cDraw.G (hr.mono (by first | decide | omega)) (by rfl) cDraw.D.g cDraw.D.F.kp cDraw.D.b .nil pass0 (pa_cons (pv 0) (pa_cons pe_int pa_nil))) pe_int (nomark _)))))
        (pss_cons (ps_set (i := 11) scPlan.nd rfl (.inl rfl) (pe_call cPrefix.G (hr.mono (by first | decide | omega)) (by rfl) cPrefix.D.g cPrefix.D.F.kp cPrefix.D.b .nil pass0 (pa_cons (pv 0) (pa_cons (pv 5) pa_nil))))
        (pss_cons (ps_for PassesOwn.never rfl (pi_range1 (by rfl) B.range (pa_cons (pe_op op_sub (pv 2) pe_int) pa_nil)) (pg_name (i := 6) scPlan.nd rfl (.inr rfl))
          (pss_one (ps_dput hu (pe_dget hu (pv 4) (pe_ix ix_list (pv 1) (pv 6) (fun _ _ => rfl)) (fun _ _ => rfl)) (pv 11) (pe_ix ix_list (pv 1) (pe_op op_add (pv 6) pe_int) (fun _ _ => rfl)) (by rfl))))
        (pss_cons (ps_set (i := 12) scPlan.nd rfl (.inl rfl) (pe_ix ix_list (pe_lst (pa_cons pe_str (pa_cons (pe_ix ix_list (pv 1) (pv 2) (fun _ _ => rfl)) (pa_cons (pe_ix ix_list (pv 1) (pe_call cDraw.G (hr.mono (by first | decide | omega)) (by rfl) cDraw.D.g cDraw.D.F.kp cDraw.D.b .nil pass0 (pa_cons (pv 0) (pa_cons (pe_op op_sub (pv 2) pe_int) pa_nil))) (fun _ _ => rfl)) pa_nil)))) (pe_call cDraw.G (hr.mono (by first | decide | omega)) (by rfl) cDraw.D.g cDraw.D.F.kp cDraw.D.b .nil pass0 (pa_cons (pv 0) (pa_cons pe_int pa_nil))) (fun _ _ => rfl)))
        (pss_one (ps_dput hu (pe_dget hu (pv 4) (pe_ix ix_list (pv 1) (pe_op op_sub (pv 2) pe_int) (fun _ _ => rfl)) (fun _ _ => rfl)) (pv 11) (pv 12) (by rfl))))))
        pss_nil)
      (pss_one (ps_ret (pv 4))))))), ?_⟩
    intro D nD
    have S1 : Same H (L2.upd H D (.dK [])) := same_upd nD
    have hD1 : (L2.upd H D (.dK [])) D = some (.dK (kvE [])) := upd_same
    have Dp := bag_no hB nD
    generalize L2.upd H D (.dK []) = H1 at S1 hD1
    refine ⟨Nat.zero_le _, fun Kn nK => ?_⟩
    have S2 : Same H (L2.upd H1 Kn (.lst [])) := S1.trans (same_upd nK)
    have Knp := bag_no (hB.same S1) nK
    have nKH : H Kn = none := by
      cases c : H Kn with
      | none => rfl
      | some o => rw [S1 _ _ c] at nK; cases nK
    have hD2 := (same_upd nK (o := .lst [])) _ _ hD1
    have DK : D ≠ Kn := ne_of_none hD1 nK
    have hK2 : (L2.upd H1 Kn (.lst [])) Kn = some (.lst (([] : List Str).map V.str)) := upd_same
    generalize L2.upd H1 Kn (.lst []) = H2 at S2 hD2 hK2
    refine ⟨.int many, rfl, many, rfl, by omega, by omega, ?_⟩
    refine for_it (walk_range (lo := 0) (n := many.toNat)) (fun i σ H' => ∃ (es : List En) (ks : List Str) (y6 y7 y8 y9 y10 y13 : Option V), σ = [some (.ref p), some (.ref l), some (.int many), some (.int most), some (.ref D), some (.ref Kn), y6, y7, y8, y9, y10, none, none, y13] ∧ Bp H H' p D es ∧ Tw H' l ts ∧ Txs H' Kn ks ∧ (∀ x ∈ ks, Ad (tl x)) ∧ ks.length ≤ i * most.toNat ∧ (plOf es).map Prod.fst = ts.take i ∧ ∀ e ∈ es, e.2.2.length ≤ most.toNat)
      ⟨[], [], none, none, none, none, none, none, rfl, ⟨hD2, fun e h => (by cases h), fun e h => (by cases h), List.nodup_nil, fun e h => (by cases h), hB.same S2, Same.but S2⟩, hT.same S2, ⟨hK2, Nat.zero_le _, fun x h => (by cases h)⟩, fun x h => (by cases h), Nat.zero_le _, rfl, fun e h => (by cases h)⟩ (fun _ _ _ _ _ => trivial) (fun i x σ H5 H6 hi hP hy => ?_) (fun σ H5 hP => ?_)
    · obtain ⟨es, ks0, y6, y7, y8, y9, y10, y13, rfl, P5, T5, K5, ka0, lk0, ek, lo⟩ := hP
      obtain ⟨rfl, rfl⟩ := hy
      have i2 : i < ts.length := by omega
      obtain ⟨t, et⟩ : ∃ t, ts[i]? = some t := ⟨_, List.getElem?_eq_getElem i2⟩
      have tn := hT.g t (List.mem_of_getElem? et)
      have lim : i * most.toNat + most.toNat ≤ 100 := by
        have h1 : (i + 1) * most.toNat ≤ many.toNat * (most.toNat + 1) := Nat.mul_le_mul (by omega) (by omega)
        rw [Nat.succ_mul] at h1
        omega
      -- the lanes
      refine ⟨by show 1 ≤ sizeLine; omega, fun W nW => ?_⟩
      have S7 := same_upd (o := HO.lst [V.str (Str.ofString "")]) nW
      have T7 := T5.same S7
      have P7 := P5.same S7
      have K7 := K5.same S7
      have hW7 : (L2.upd H6 W (.lst [V.str (Str.ofString "")])) W = some (.lst [V.str (Str.ofString "")]) := upd_same
      generalize L2.upd H6 W (.lst [V.str (Str.ofString "")]) = H7 at T7 P7 K7 hW7
      refine ⟨.ref l, rfl, l, rfl, ⟨_, sqOf T7.l⟩, fun G nG => ?_⟩
      refine lc_it (walk_list (a := l) (xs := ts.map V.str)) (fun i H' => Same H7 H' ∧ ∃ ms : List Str, H' G = some (.lst (ms.map V.str)) ∧ (∀ x ∈ ms, isLane x = true ∧ x ≠ t) ∧ ms.length ≤ i)
        ⟨same_upd nG, [], upd_same, fun x h => (by cases h), Nat.le_refl _⟩ (fun i H' _ hP => sqOf (hP.1 _ _ T7.l)) (fun n v H9 HA hn hP hy => ?_) (fun H9 hP => ?_)
      · obtain ⟨S9, ms, hG, gm, lm⟩ := hP
        obtain ⟨rfl, ev⟩ := hy
        rw [List.getElem?_map] at ev
        cases ex : ts[n]? with
        | none => rw [ex] at ev; cases ev
        | some x =>
        rw [ex] at ev
        cases (Option.some.inj ev)
        have n2 : n < ts.length := (List.getElem?_eq_some_iff.mp ex).1
        refine ⟨rfl, .str x, rfl, .ref l, rfl, .int (0 + (i : Int)), rfl, l, _, 0 + (i : Int), .str t, rfl, rfl, sqOf (S9 _ _ T7.l), ?_, rfl, _, rfl, ite2 (fun c => ?_) (fun c => ?_)⟩
        · rw [Int.zero_add]
          exact atI_nat (by rw [List.getElem?_map, et]; rfl)
        · rw [Bool.not_eq_true', decide_eq_false_iff_not] at c
          refine ⟨.str x, rfl, _, hG, by rw [List.length_map]; omega, fun c o hc => ?_, ms ++ [x], by rw [upd_same, List.map_append]; rfl, fun y hy => ?_, by rw [List.length_append]; show ms.length + 1 ≤ n + 1; omega⟩
          · rw [upd_ne (ne_of_none hc nG)]
            exact S9 _ _ hc
          · rcases List.mem_append.mp hy with h | h
            · exact gm y h
            · rw [List.mem_singleton.mp h]
              exact ⟨name_lane (hT.g x (List.mem_of_getElem? ex)), fun e => c (by rw [e])⟩
        · exact ⟨S9, ms, hG, gm, by omega⟩
      · obtain ⟨S9, ms, hG, gm, lm⟩ := hP
        rw [List.length_map] at lm
        refine ⟨W, G, _, _, rfl, rfl, S9 _ _ hW7, hG, by rw [List.length_map]; show 1 + ms.length ≤ sizeLine; omega, fun U nU => ?_⟩
        have SU := S9.trans (same_upd nU (o := .lst ([V.str (Str.ofString "")] ++ ms.map V.str)))
        have hU : (L2.upd H9 U (.lst ([V.str (Str.ofString "")] ++ ms.map V.str))) U = some (.lst ((wE :: ms).map V.str)) := upd_same
        have Up := bag_no ((P7.same S9).B) nU
        have gw : ∀ x ∈ wE :: ms, isLane x = true ∧ x ≠ t := fun x hx => by
          rcases List.mem_cons.mp hx with rfl | h
          · exact ⟨wE_lane, wE_name tn⟩
          · exact gm x h
        have lw : 1 ≤ (wE :: ms).length ∧ (wE :: ms).length ≤ 100 := ⟨Nat.succ_le_succ (Nat.zero_le _), by rw [List.length_cons]; omega⟩
        generalize L2.upd H9 U (.lst ([V.str (Str.ofString "")] ++ ms.map V.str)) = HB at SU hU
        generalize wE :: ms = ws at hU gw lw
        have TB := T7.same SU
        have PB := P7.same SU
        have KB := K7.same SU
        -- the rows
        intro O nO
        have SO := same_upd (o := HO.dK []) nO
        have OD : O ≠ D := fun z => by rw [z, PB.d] at nO; cases nO
        have Oe : ∀ e ∈ es, e.1 ≠ O := fun e he => ne_of_none (PB.t e he) nO
        have Op := bag_no PB.B nO
        have nOH : H O = none := bag_free hB PB.b PB.B nO
        have Z0 : Pz H (L2.upd HB O (.dK [])) p l D Kn U O ts ws ks0 es [] := ⟨PB.same SO, upd_same, SO _ _ hU, Up, TB.same SO, KB.same SO⟩
        generalize L2.upd HB O (.dK []) = HC at Z0
        refine ⟨.ref p, rfl, .int most, rfl, most, 1, rfl, rfl, p, most + 1, rfl, Z0.P.B, by omega, by omega, fun cnt HD c0 c1 BD bD => ⟨cnt, rfl, by omega, by omega, ?_⟩⟩
        have ZD := Z0.draw BD bD
        refine for_it (walk_range (lo := 0) (n := cnt.toNat)) (fun j σ H' => ∃ (own : List Pr) (ks : List Str) (y9 y10 : Option V), σ = [some (.ref p), some (.ref l), some (.int many), some (.int most), some (.ref D), some (.ref Kn), some (.int (0 + (i : Int))), some (.ref U), some (.ref O), y9, y10, none, none, y13] ∧ Pz H H' p l D Kn U O ts ws ks es own ∧ (∀ x ∈ ks, Ad (tl x)) ∧ ks.length ≤ i * most.toNat + j ∧ Good own ∧ t ∉ own.map Prod.snd ∧ own.length ≤ j)
          ⟨[], ks0, _, _, rfl, ZD, ka0, lk0, good_nil, List.not_mem_nil, Nat.le_refl _⟩ (fun _ _ _ _ _ => trivial) (fun j x σ HE HE' hj hP hy => ?_) (fun σ HE hP => ?_)
        · obtain ⟨own, ks, y9, y10, rfl, Z, ka, lk, go, to, lown⟩ := hP
          obtain ⟨rfl, rfl⟩ := hy
          refine ⟨.ref p, rfl, .ref Kn, rfl, p, Kn, ks, rfl, Z.P.B, Z.k, ka, fun z HF Az BF bF => ?_⟩
          have ZF := Z.draw BF bF
          have az := (isAddr_iff z).mpr Az
          refine ⟨fun σ' H' => ∃ z, σ' = [some (.ref p), some (.ref l), some (.int many), some (.int most), some (.ref D), some (.ref Kn), some (.int (0 + (i : Int))), some (.ref U), some (.ref O), some (.int (0 + (j : Int))), some (.str z), none, none, y13] ∧ isAddr z = true ∧ Pz H H' p l D Kn U O ts ws ks es own, ?_, ?_⟩
          · refine ifS_via (fun c H' => Pz H H' p l D Kn U O ts ws ks es own ∧ (c = true → ks ≠ [])) (fun Q hQ => ?_) (fun c H6 hR => ?_)
            · refine ⟨.ref Kn, rfl, by decide, fun e ne => ⟨_, _, .lst (sqOf (same_upd ne _ _ ZF.k.l)) (dp_strs _), .lst (sqOf upd_same) .nil, shaped_strs ZF.k.t, by decide, _, rfl, ?_⟩⟩
              rw [eqv_nil]
              have ZG := ZF.same (same_upd (o := HO.lst []) ne)
              cases ks with
              | nil => exact hQ _ _ ⟨ZG, fun z => by cases z⟩
              | cons o1 os => exact ⟨.ref p, rfl, p, 2, rfl, ZG.P.B, by decide, by decide, fun r H1 r0 r1 B1 b1 => ⟨rfl, _, rfl, hQ _ _ ⟨ZG.draw B1 b1, fun _ => by simp⟩⟩⟩
            · obtain ⟨Z6, hne⟩ := hR
              cases c with
              | false => exact ⟨z, rfl, az, Z6⟩
              | true =>
                have kpos : 0 < ks.length := List.length_pos_iff.mpr (hne rfl)
                have kn := Z6.k.n
                refine ⟨.ref Kn, rfl, .ref p, rfl, .ref Kn, rfl, Kn, _, rfl, .inl (sqOf Z6.k.l), p, _, rfl, Z6.P.B, by rw [List.length_map]; omega, by rw [List.length_map]; omega, fun r H7 r0 r1 B7 b7 => ?_⟩
                obtain ⟨x, hx, ex⟩ := pick r0 r1
                have Z7 := Z6.draw B7 b7
                exact ⟨Kn, _, r, .str x, rfl, rfl, sqOf Z7.k.l, ex, x, rfl, (isAddr_iff x).mpr (ka x hx), Z7⟩
          clear ZF Az az bF BF z
          rintro σ1 HG ⟨z, rfl, az, ZG⟩
          refine ⟨fun σ' H' => ∃ ks', σ' = [some (.ref p), some (.ref l), some (.int many), some (.int most), some (.ref D), some (.ref Kn), some (.int (0 + (i : Int))), some (.ref U), some (.ref O), some (.int (0 + (j : Int))), some (.str z), none, none, y13] ∧ Pz H H' p l D Kn U O ts ws ks' es own ∧ (∀ x ∈ ks', Ad (tl x)) ∧ ks'.length ≤ i * most.toNat + (j + 1), ?_, ?_⟩
          · refine ⟨.str z, rfl, .ref Kn, rfl, Kn, _, rfl, .inl (sqOf ZG.k.l), rfl, flat_strs _, _, rfl, ite2 (fun c => ?_) (fun c => ?_)⟩
            · refine ⟨.ref Kn, rfl, .inl ⟨rfl, _, sqOf ZG.k.l⟩, .str z, rfl, Kn, _, .str z, rfl, rfl, ZG.k.l, by rw [List.length_map]; omega, ks ++ [z], rfl, ?_, fun x hx => ?_, by rw [List.length_append]; show ks.length + 1 ≤ _; omega⟩
              · have off : ∀ c o, HG c = some o → c ≠ Kn → (L2.upd HG Kn (.lst (ks.map V.str ++ [V.str z]))) c = some o := fun c o hc nc => by rw [upd_ne nc]; exact hc
                have KU : U ≠ Kn := fun e => by
                  have a1 := KB.l
                  rw [← e] at a1
                  rw [hU] at a1
                  have a2 : ws.map V.str = ks0.map V.str := HO.lst.inj (Option.some.inj a1)
                  exact absurd a2 (fun a2 => by
                    have := SU
                    exact (ne_of_none K7.l (show H7 U = none from by
                      cases c : H7 U with
                      | none => rfl
                      | some o => rw [S9 _ _ c] at nU; cases nU)) e.symm)
                refine ⟨ZG.P.keep (fun c kvs hc _ => off _ _ hc (ne_of hc ZG.k.l (fun z => by cases z))) (ZG.P.B.put Knp) (put_off ZG.P.b nKH), off _ _ ZG.o (ne_of ZG.o ZG.k.l (fun z => by cases z)), off _ _ ZG.u KU, Up, ⟨off _ _ ZG.T.l (fun e => by rw [e] at hT; rw [hT.l] at nKH; cases nKH), ZG.T.n, ZG.T.g, ZG.T.z⟩, ⟨by rw [upd_same, List.map_append]; rfl, by rw [List.length_append]; show ks.length + 1 ≤ 400; omega, fun x hx => ?_⟩⟩
                rcases List.mem_append.mp hx with h | h
                · exact ZG.k.t x h
                · rw [List.mem_singleton.mp h]
                  exact ad_tx ((isAddr_iff z).mp az)
              · rcases List.mem_append.mp hx with h | h
                · exact ka x h
                · rw [List.mem_singleton.mp h]
                  exact (isAddr_iff z).mp az
            · exact ⟨ks, rfl, ZG, ka, by omega⟩
          clear ZG
          rintro σ1 HG ⟨ks', rfl, ZG, ka', lk'⟩
          refine ⟨.ref U, rfl, .ref p, rfl, .ref U, rfl, U, _, rfl, .inl (sqOf ZG.u), p, _, rfl, ZG.P.B, by rw [List.length_map]; omega, by rw [List.length_map]; omega, fun r H7 r0 r1 B7 b7 => ?_⟩
          obtain ⟨x, hx, ex⟩ := pick r0 r1
          have Z7 := ZG.draw B7 b7
          obtain ⟨xl, xt⟩ := gw x hx
          have lpu := put_len own z x
          refine ⟨U, _, r, .str x, rfl, rfl, sqOf Z7.u, ex, .ref O, rfl, .str z, rfl, O, _, rfl, DPut.k (k := Sum.inr z) Z7.o (by rw [kvP_len]; omega), putP own z x, ks', _, _, rfl, ?_, ka', lk', put_good go az xl, fun mm => ?_, by omega⟩
          · have off : ∀ c o, H7 c = some o → c ≠ O → (L2.upd H7 O (.dK (putK (kvP own) (Sum.inr z) (.str x)))) c = some o := fun c o hc nc => by rw [upd_ne nc]; exact hc
            exact ⟨Z7.P.keep (fun c kvs hc hcc => off _ _ hc (by rcases hcc with rfl | ⟨e, he, rfl⟩; exact Ne.symm OD; exact Oe e he)) (Z7.P.B.put Op) (put_off Z7.P.b nOH), by rw [upd_same, put_kvP], off _ _ Z7.u (ne_of Z7.u Z7.o (fun z => by cases z)), Up, ⟨off _ _ Z7.T.l (ne_of Z7.T.l Z7.o (fun z => by cases z)), Z7.T.n, Z7.T.g, Z7.T.z⟩, ⟨off _ _ Z7.k.l (ne_of Z7.k.l Z7.o (fun z => by cases z)), Z7.k.n, Z7.k.t⟩⟩
          · obtain ⟨r, hr', er⟩ := List.mem_map.mp mm
            rcases mem_put hr' with h | rfl
            · exact to (List.mem_map.mpr ⟨r, h, er⟩)
            · exact xt er
        · obtain ⟨own, ks, y9, y10, rfl, Z, ka, lk, go, to, lown⟩ := hP
          have c2 : cnt.toNat ≤ most.toNat := by omega
          have nt : t ∉ (plOf es).map Prod.fst := by
            rw [ek]
            intro m
            obtain ⟨n, hn, en⟩ := List.mem_take_iff_getElem.mp m
            obtain ⟨a1, a2⟩ := List.getElem?_eq_some_iff.mp et
            have := (List.getElem_inj hT.n).mp (en.trans a2.symm)
            omega
          have les : es.length = i := by
            have := congrArg List.length ek
            rw [List.length_map, plOf_len, List.length_take] at this
            omega
          refine ⟨.ref O, rfl, .ref D, rfl, .ref l, rfl, .int (0 + (i : Int)), rfl, l, _, 0 + (i : Int), .str t, rfl, rfl, sqOf Z.T.l, ?_, D, _, rfl, DPut.k (k := Sum.inr t) Z.P.d (by rw [kvE_len]; omega), es ++ [(O, (t, own))], ks, _, _, _, _, _, _, rfl, Z.P.snoc Z.o nOH OD Oe nt nD ⟨tn, go, to⟩, ?_, ?_, ka, by rw [Nat.succ_mul]; omega, ?_, fun e he => ?_⟩
          · rw [Int.zero_add]
            exact atI_nat (by rw [List.getElem?_map, et]; rfl)
          · exact ⟨by rw [upd_ne (ne_of Z.T.l Z.P.d (fun z => by cases z))]; exact Z.T.l, Z.T.n, Z.T.g, Z.T.z⟩
          · exact ⟨by rw [upd_ne (ne_of Z.k.l Z.P.d (fun z => by cases z))]; exact Z.k.l, Z.k.n, Z.k.t⟩
          · unfold plOf at ek ⊢
            rw [List.map_append, List.map_append, ek, List.take_add_one, et]
            rfl
          · rcases List.mem_append.mp he with m | m
            · exact lo e m
            · rw [List.mem_singleton.mp m]
              show own.length ≤ _
              omega
    · obtain ⟨es, ks, y6, y7, y8, y9, y10, y13, rfl, P5, T5, K5, ka, lk, ek, lo⟩ := hP
      have km : many.toNat < ts.length := by omega
      have nk : ∀ es' : List En, (plOf es').map Prod.fst = ts.take many.toNat → ((plOf es').map Prod.fst).Nodup := fun es' e => by
        rw [e]
        exact List.Nodup.sublist (List.take_sublist _ _) hT.n
      have le : ∀ es' : List En, (plOf es').map Prod.fst = ts.take many.toNat → es'.length = many.toNat := fun es' e => by
        have := congrArg List.length e
        rw [List.length_map, plOf_len, List.length_take] at this
        omega
      have at' : ∀ (H' : Hp), Tw H' l ts → ∀ (j : Nat) (t : Str), ts[j]? = some t → ∀ i : Int, i = (j : Int) → atI (ts.map V.str) i = some (.str t) := fun H' _ j t h i e => by
        rw [e]
        exact atI_nat (by rw [List.getElem?_map, h]; rfl)
      have dif : ∀ (a b : Nat) (x y : Str), ts[a]? = some x → ts[b]? = some y → a ≠ b → x ≠ y := fun a b x y h1 h2 nab e => by
        obtain ⟨a1, a2⟩ := List.getElem?_eq_some_iff.mp h1
        obtain ⟨b1, b2⟩ := List.getElem?_eq_some_iff.mp h2
        exact nab ((List.getElem_inj hT.n).mp (by rw [a2, b2]; exact e))
      have key : ∀ (es' : List En), (plOf es').map Prod.fst = ts.take many.toNat → ∀ (j : Nat) (t : Str), j < many.toNat → ts[j]? = some t → ∃ e, es'[j]? = some e ∧ e.2.1 = t := fun es' e j t hj ht => by
        have h1 : ((plOf es').map Prod.fst)[j]? = some t := by
          rw [e, List.getElem?_take, if_pos hj]
          exact ht
        unfold plOf at h1
        rw [List.getElem?_map, List.getElem?_map] at h1
        cases ee : es'[j]? with
        | none => rw [ee] at h1; cases h1
        | some x => rw [ee] at h1; exact ⟨x, rfl, Option.some.inj h1⟩
      refine ⟨fun σ' H' => ∃ (es' : List En) (y6 y7 y8 y9 y10 y11 y12 y13 : Option V), σ' = [some (.ref p), some (.ref l), some (.int many), some (.int most), some (.ref D), some (.ref Kn), y6, y7, y8, y9, y10, y11, y12, y13] ∧ Bag H' p ∧ But p H H' ∧ PlanAt H' D es' ∧ (plOf es').map Prod.fst = ts.take many.toNat ∧ tot (plOf es') ≤ 100, ?_, ?_⟩
      · refine ifS_via (fun c H' => (Bp H H' p D es ∧ Tw H' l ts ∧ Txs H' Kn ks) ∧ (c = true → 1 < many)) (fun Q hQ => ?_) (fun c H6 hR => ?_)
        · refine ⟨.int many, rfl, many, 1, rfl, rfl, _, rfl, ite2 (fun c => ?_) (fun c => ?_)⟩
          · exact ⟨.ref p, rfl, p, 2, rfl, P5.B, by decide, by decide, fun r H1 r0 r1 B1 b1 => ⟨rfl, _, rfl, hQ _ _ ⟨⟨P5.draw B1 b1, T5.but P5.B b1, K5.but P5.B b1⟩, fun _ => of_decide_eq_true c⟩⟩⟩
          · exact hQ _ _ ⟨⟨P5, T5, K5⟩, fun e => by cases e⟩
        obtain ⟨⟨P6, T6, K6⟩, hm⟩ := hR
        cases c with
        | false =>
          have b1 := tot_bound (pl := plOf es) (m := most.toNat) (fun x hx => by obtain ⟨e, he, rfl⟩ := List.mem_map.mp hx; exact lo e he)
          rw [plOf_len, le es ek] at b1
          have b2 : many.toNat * most.toNat ≤ many.toNat * (most.toNat + 1) := Nat.mul_le_mul_left _ (Nat.le_succ _)
          exact ⟨es, _, _, _, _, _, _, _, _, rfl, P6.B, P6.b, P6.plan (nk es ek), ek, by omega⟩
        | true =>
        have hm := hm rfl
        refine ⟨.ref p, rfl, .ref Kn, rfl, p, Kn, ks, rfl, P6.B, K6, ka, fun z H7 Az B7 b7 => ?_⟩
        have az := (isAddr_iff z).mpr Az
        have P7 := P6.draw B7 b7
        have T7 := T6.but P6.B b7
        refine ⟨.int many, rfl, many, 1, rfl, rfl, many - 1, rfl, by omega, by omega, ?_⟩
        refine for_it (walk_range (lo := 0) (n := (many - 1).toNat)) (fun i σ H' => ∃ (es' : List En) (y6 : Option V), σ = [some (.ref p), some (.ref l), some (.int many), some (.int most), some (.ref D), some (.ref Kn), y6, y7, y8, y9, y10, some (.str z), none, y13] ∧ Bp H H' p D es' ∧ Tw H' l ts ∧ (plOf es').map Prod.fst = ts.take many.toNat ∧ ∀ (j : Nat) (e : En), es'[j]? = some e → e.2.2.length ≤ most.toNat + (if j < i then 1 else 0))
          ⟨es, _, rfl, P7, T7, ek, fun j e h => by have := lo e (List.mem_of_getElem? h); omega⟩ (fun _ _ _ _ _ => trivial) (fun i x σ H8 H8' hi hP hy => ?_) (fun σ H8 hP => ?_)
        · obtain ⟨es', y6, rfl, P8, T8, ek8, lo8⟩ := hP
          obtain ⟨rfl, rfl⟩ := hy
          obtain ⟨t, et⟩ : ∃ t, ts[i]? = some t := ⟨_, List.getElem?_eq_getElem (by omega)⟩
          obtain ⟨t', et'⟩ : ∃ t, ts[i + 1]? = some t := ⟨_, List.getElem?_eq_getElem (by omega)⟩
          obtain ⟨e, ee, rfl⟩ := key es' ek8 i t (by omega) et
          have m := List.mem_of_getElem? ee
          have dg : DGet H8' D (.str e.2.1) (some (.ref e.1)) := by
            rw [← kvE_val (nk es' ek8) m]
            exact DGet.k (k := Sum.inr e.2.1) P8.d
          have lw : isLane t' = true := name_lane (hT.g t' (List.mem_of_getElem? et'))
          have nw : t' ≠ e.2.1 := dif (i + 1) i _ _ et' et (by omega)
          have l8 := lo8 i e ee
          rw [if_neg (Nat.lt_irrefl i)] at l8
          refine ⟨.ref l, rfl, .int (0 + (i : Int)), rfl, 0 + (i : Int), 1, rfl, rfl, l, _, 0 + (i : Int) + 1, .str t', rfl, rfl, sqOf T8.l, at' _ T8 (i + 1) t' et' _ (by omega), .ref D, rfl, .ref l, rfl, .int (0 + (i : Int)), rfl, l, _, 0 + (i : Int), .str e.2.1, rfl, rfl, sqOf T8.l, at' _ T8 i _ et _ (by omega), D, .ref e.1, rfl, dg, .str z, rfl, e.1, _, rfl, DPut.k (k := Sum.inr z) (P8.t e m) (by rw [kvP_len]; omega), setR es' i z t', _, rfl, P8.set ee az lw nw, ?_, ?_, fun j x hx => ?_⟩
          · exact ⟨by rw [upd_ne (ne_of T8.l (P8.t e m) (fun z => by cases z))]; exact T8.l, T8.n, T8.g, T8.z⟩
          · rw [(setR_kvE ee z t').2.2.1]
            exact ek8
          · rw [setR_at ee, List.getElem?_set] at hx
            by_cases c : i = j
            · subst c
              rw [if_pos rfl] at hx
              split at hx
              · rw [← Option.some.inj hx, if_pos (Nat.lt_succ_self _)]
                have := put_len e.2.2 z t'
                show (putP e.2.2 z t').length ≤ _
                omega
              · cases hx
            · rw [if_neg c] at hx
              have := lo8 j x hx
              by_cases d : j < i
              · rw [if_pos d] at this
                rw [if_pos (by omega)]
                exact this
              · rw [if_neg d] at this
                rw [if_neg (by omega)]
                exact this
        · obtain ⟨es', y6, rfl, P8, T8, ek8, lo8⟩ := hP
          obtain ⟨n, hn⟩ : ∃ n : Nat, many = (n : Int) + 1 := ⟨(many - 1).toNat, by omega⟩
          have hn1 : (many - 1).toNat = n := by omega
          have hn2 : many.toNat = n + 1 := by omega
          rw [hn1] at lo8
          obtain ⟨t, et⟩ : ∃ t, ts[n]? = some t := ⟨_, List.getElem?_eq_getElem (by omega)⟩
          obtain ⟨a, ea⟩ : ∃ t, ts[n + 1]? = some t := ⟨_, List.getElem?_eq_getElem (by omega)⟩
          have tn := hT.g t (List.mem_of_getElem? et)
          refine ⟨.ref l, rfl, .int many, rfl, l, _, many, .str a, rfl, rfl, sqOf T8.l, at' _ T8 (n + 1) a ea _ (by omega), .ref l, rfl, .ref p, rfl, .int many, rfl, many, 1, rfl, rfl, p, many - 1, rfl, P8.B, by omega, by omega, fun r H9 r0 r1 B9 b9 => ?_⟩
          have P9 := P8.draw B9 b9
          have T9 := T8.but P8.B b9
          obtain ⟨b, eb⟩ : ∃ t, ts[r.toNat]? = some t := ⟨_, List.getElem?_eq_getElem (by omega)⟩
          refine ⟨l, _, r, .str b, rfl, rfl, sqOf T9.l, at' _ T9 r.toNat b eb _ (by omega), by show 3 ≤ sizeLine; omega, fun L nL => ?_⟩
          have SL := same_upd (o := HO.lst [V.str (Str.ofString ""), .str a, .str b]) nL
          have P10 := P9.same SL
          have T10 := T9.same SL
          have Lp := bag_no P9.B nL
          have hL : (L2.upd H9 L (.lst [V.str (Str.ofString ""), .str a, .str b])) L = some (.lst (([wE, a, b] : List Str).map V.str)) := upd_same
          generalize L2.upd H9 L (.lst [V.str (Str.ofString ""), .str a, .str b]) = HL at P10 T10 hL
          refine ⟨.ref p, rfl, p, 3, rfl, P10.B, by decide, by decide, fun r2 HM r20 r21 BM bM => ?_⟩
          have P11 := P10.draw BM bM
          have T11 := T10.but P10.B bM
          obtain ⟨x, hx, ex⟩ := pick (ks := [wE, a, b]) r20 r21
          have gx : isLane x = true ∧ x ≠ t := by
            rcases List.mem_cons.mp hx with rfl | hx
            · exact ⟨wE_lane, wE_name tn⟩
            · rcases List.mem_cons.mp hx with rfl | hx
              · exact ⟨name_lane (hT.g x (List.mem_of_getElem? ea)), dif (n + 1) n _ _ ea et (by omega)⟩
              · rw [List.mem_singleton.mp hx]
                exact ⟨name_lane (hT.g b (List.mem_of_getElem? eb)), dif r.toNat n _ _ eb et (by omega)⟩
          obtain ⟨e, ee, rfl⟩ := key es' ek8 n t (by omega) et
          have m := List.mem_of_getElem? ee
          have l8 := lo8 n e ee
          rw [if_neg (Nat.lt_irrefl n)] at l8
          have dg : DGet HM D (.str e.2.1) (some (.ref e.1)) := by
            rw [← kvE_val (nk es' ek8) m]
            exact DGet.k (k := Sum.inr e.2.1) P11.d
          obtain ⟨k1, k2, k3, k4⟩ := setR_kvE ee z x
          have PS := P11.set ee az gx.1 gx.2
          refine ⟨L, _, r2, .str x, rfl, rfl, sqOf (bM _ _ hL Lp), ex, .str x, rfl, .ref D, rfl, .ref l, rfl, .int many, rfl, many, 1, rfl, rfl, l, _, many - 1, .str e.2.1, rfl, rfl, sqOf T11.l, at' _ T11 n _ et _ (by omega), D, .ref e.1, rfl, dg, .str z, rfl, e.1, _, rfl, DPut.k (k := Sum.inr z) (P11.t e m) (by rw [kvP_len]; omega), setR es' n z x, _, _, _, _, _, _, _, _, rfl, PS.B, PS.b, PS.plan (by rw [k3]; exact nk es' ek8), by rw [k3]; exact ek8, ?_⟩
          have b1 := tot_bound (pl := plOf (setR es' n z x)) (m := most.toNat + 1) (fun y hy => by
            obtain ⟨y', hy', rfl⟩ := List.mem_map.mp hy
            rcases mem_setR ee hy' with ⟨j, _, hj⟩ | rfl
            · have := lo8 j y' hj
              split at this <;> omega
            · have := put_len e.2.2 z x
              show (putP e.2.2 z x).length ≤ _
              omega)
          rw [plOf_len, k4, le es' ek8] at b1
          omega
      · rintro σ1 H6 ⟨es', y6, y7, y8, y9, y10, y11, y12, y13, rfl, B6, b6, P6, l6, t6⟩
        exact ⟨.ref D, rfl, q D es' H6 B6 b6 P6 (le es' l6) t6 l6⟩
end
end Tb
namespace Tb
open PySem PySem.Spec PyProof.Rows L2
open PySem.W (AllAlike Sortable dataLe TotalLe)
/-- a lock that is not needed any longer (an error leaves the loop) -/
theorem ps_unl {X : Cx} {st : Stmt} {t : TS} (h : PS X st t) : PS X st (fun D σ H => ∃ (d : Addr) (od : Obj) (u : HO), H d = some (.frz od u) ∧ (∀ o' u', X.H_0 d ≠ some (.frz o' u')) ∧ t D σ (L2.upd H d u)) :=
  ⟨fun pins s σ H D I hw => let ⟨_, _, _, e, n, q⟩ := hw; h.run pins s σ _ D (I.unlock e n) q⟩
abbrev wSorting : Str := ("sorting" : String)
def spSInitX (C CS CI : Addr) : Sp := fun vs H Q E => ∃ (x dx d : Addr) (es : List En), vs = [.ref x, .ref d] ∧ H x = some (.ins CS dx []) ∧ TabsAt C H d es ∧ ((plOf es).map Prod.fst).Nodup ∧ (∀ e ∈ es, e.2.1.length ≤ 1000) ∧ tot (plOf es) ≤ 300 ∧ es.length ≤ 100 ∧
  (GoodPl (plOf es) → ∀ H', But x H H' → (∀ H'', But d H' H'' → SortOf C CS H'' x (plOf es)) → Q .non H') ∧
  (¬ GoodPl (plOf es) → ∀ e H', Same H H' → H' e = some (.xd [(wWhat, .str wSorting)]) → E (.ref CI) (some e) H')
theorem good_of {C d : Addr} {H : Hp} {es : List En} (T : TabsAt C H d es) (n : ((plOf es).map Prod.fst).Nodup) (h : ∀ e ∈ es, isName e.2.1 = true ∧ e.2.1 ∉ e.2.2.map Prod.snd) : GoodPl (plOf es) :=
  ⟨fun x hx => by
    obtain ⟨e, he, rfl⟩ := List.mem_map.mp hx
    exact ⟨(h e he).1, (T.t e he).g, (h e he).2⟩, n⟩
section
variable {P : Program} {w : World} {K : PySem.W.Frag} {mg : Str → Option Value} {base : Heap}
theorem ok_sinitx {f g1 g2 g3 C CS CI gI : Addr} {fd gd1 gd2 gd3 gdI : FuncData} (F : Fun K "__init__" "Sorting.__init__" sSInit f fd) (B : Blt mg) (SC : SCls K CS) (R : EInv K mg CI gI gdI) (cIsName : CIsName P w K mg base g1 gd1) (cLanesOf : CLanesOf P w K mg base C g2 gd2) (cMarksOf : CMarksOf P w K mg base C g3 gd3) : FnOk P w K mg base (L2.CX P w) 5 f fd ["self", "tables"] (spSInitX C CS CI) := by
  have GI : FnOk P w K mg base CX0 1 gI gdI ["self", "what"] (spErr K wWhat) := ok_inv R.M.F
  refine F.okX scSInit (fun vs H Q E h => ?_) (fun cdv A outer s H vs Q E hr h => ?_)
  · obtain ⟨x, dx, d, es, rfl, _⟩ := h
    rfl
  · obtain ⟨x, dx, d, es, rfl, hx, hd, nd, hln, ht, hn, qG, qB⟩ := h
    have hu := hu_of hr
    have hr2 : Room 2 _ := hr.mono (show 2 ≤ 4 by decide)
    have hz : sizeLine = 16777216 := rfl
    have xd : x ≠ d := ne_of hx hd.d (fun z => by cases z)
    refine ⟨_, (pss_cons (ps_lock (ps_for (passes_of rfl) rfl (pi_items (pv 1)) (pg_tup (by rfl) (pgs_cons (pg_name (i := 2) scSInit.nd rfl (.inl rfl)) (pgs_cons (pg_name (i := 3) scSInit.nd rfl (.inl rfl)) pgs_nil)))
        (pss_one (ps_if (PW.pt (pw_or (pt_not (pt_val (pe_call cIsName.G (hr.mono (by first | decide | omega)) (by rfl) cIsName.D.g cIsName.D.F.kp cIsName.D.b .nil pass0 (pa_cons (pv 2) pa_nil)))) (pw_or1 (pt_cmpR op_in_seq (pv 2) (pe_call cLanesOf.G (hr.mono (by first | decide | omega)) (by rfl) cLanesOf.D.g cLanesOf.D.F.kp cLanesOf.D.b .nil pass0 (pa_cons (pv 3) pa_nil)) (by rfl)))))
          (pss_one (ps_unl (ps_raise rfl (takes_of rfl rfl rfl rfl) (pmk_oex R.T.ox R.T.iC R.T.tI GI hr2 R.M.b .nil pass0 (by rfl) R.g (pa_cons pe_str pa_nil)))))
          pss_nil))))
      (pss_cons (ps_fld (pv 0) (pe_dc (own := [("site", 2)]) (g := gName 2) (by rfl) scSInit.nd (pi_list (pe_callB (cr_sortedDk rfl hr.units) (by rfl) B.sorted PyProof.Rows.boot_sorted (pa_cons (pv 1) pa_nil))) (blkOk_by (N := NSInit) (sc := defScope sSInit) (by decide +kernel)) (fun _ _ _ _ _ => pg_name (i := 2) scSInit.nd rfl (Or.inl rfl)) (fun _ _ _ _ _ => pts_nil) (fun _ _ _ _ _ => pv 2) (fun _ _ _ _ _ => pe_dget hu (pv 1) (pv 2) (fun _ _ => rfl))) rfl)
      (pss_one (ps_fld (pv 0) (pe_call cMarksOf.G (hr.mono (by first | decide | omega)) (by rfl) cMarksOf.D.g cMarksOf.D.F.kp cMarksOf.D.b .nil pass0 (pa_cons (pe_listValues rfl (pe_fld (pv 0) rfl) (by rfl) B.list PyProof.Rows.boot_list) pa_nil)) rfl)))), ?_⟩
    refine ⟨d, .dK (kvE es), hd.d, trivial, fun od => ?_⟩
    refine ⟨.ref d, rfl, d, od, kvE es, rfl, upd_same, ?_⟩
    refine for_it (walk_items (d := d) (o := od) (kvs := kvE es)) (fun i σ H' => (∃ y2 y3, σ = [some (.ref x), some (.ref d), y2, y3]) ∧ But d H H' ∧ H' d = some (.frz od (.dK (kvE es))) ∧ ∀ e ∈ es.take i, isName e.2.1 = true ∧ e.2.1 ∉ e.2.2.map Prod.snd)
      ⟨⟨none, none, rfl⟩, fun c o hc nc => by rw [upd_ne nc]; exact hc, upd_same, fun e h => (by cases h)⟩ (fun i σ H' _ hP => hP.2.2.1) (fun i v σ H5 H6 hi hP hy => ?_) (fun σ H5 hP => ?_)
    · obtain ⟨⟨y2, y3, rfl⟩, b5, d5, ok⟩ := hP
      obtain ⟨T, kx, vx, rfl, nT, rfl, ek, ev⟩ := hy
      dsimp only at ek ev
      rw [show (kvE es)[i]? = (es[i]?).map (fun e => (Sum.inr e.2.1, V.ref e.1)) by unfold kvE; rw [List.getElem?_map]] at ek ev
      cases ee : es[i]? with
      | none => rw [ee] at ek; cases ek
      | some e =>
      rw [ee] at ek ev
      obtain rfl : V.str e.2.1 = kx := Option.some.inj ek
      obtain rfl : V.ref e.1 = vx := Option.some.inj ev
      have m := List.mem_of_getElem? ee
      obtain ⟨dy, dd, h1, h2⟩ := (hd.t e m).ex
      have hT5 : TabOf C H5 e.1 e.2.2 := ⟨⟨dy, dd, b5 _ _ h1 (ne_of h1 hd.d (fun z => by cases z)), b5 _ _ h2 (ne_of h2 hd.d (fun z => kvP_kvE m (HO.dK.inj z)))⟩, (hd.t e m).g, (hd.t e m).n⟩
      have S6 : Same H5 (L2.upd H5 T (.tup [.str e.2.1, .ref e.1])) := same_upd nT
      refine ⟨T, _, rfl, .of upd_same, rfl, .str e.2.1, _, rfl, .ref e.1, _, rfl, rfl, ?_⟩
      have hT6 := hT5.same S6
      have hd6 := S6 _ _ d5
      have b6 : But d H (L2.upd H5 T (.tup [.str e.2.1, .ref e.1])) := b5.trans (Same.but S6)
      generalize L2.upd H5 T (.tup [V.str e.2.1, V.ref e.1]) = H7 at hT6 hd6 b6
      have nl := hln e m
      refine ⟨.str e.2.1, rfl, e.2.1, rfl, by omega, fun H8 S8 => ⟨_, rfl, ?_⟩⟩
      have m2 : e.2 ∈ plOf es := List.mem_map.mpr ⟨e, m, rfl⟩
      cases en : isName e.2.1 with
      | false =>
        have ng : ¬ GoodPl (plOf es) := fun g => by rw [(g.e e.2 m2).1] at en; cases en
        exact ⟨d, od, _, S8 _ _ hd6, (fun o' u' z => by exact absurd (hd.d.symm.trans z) (fun z => by cases z)), by decide, err_made R.T (Q := E) fun e2 H4 S4 hd4 => qB (ng) e2 H4 ((unlock_same hd.d (b6.trans (Same.but S8))).trans S4) hd4⟩
      | true =>
      refine ⟨.str e.2.1, rfl, .ref e.1, rfl, e.1, e.2.2, rfl, hT6.same S8, fun p H9 S9 hp => ⟨p, _, rfl, .inl (sqOf hp), rfl, flat_strs _, ?_⟩⟩
      cases c : inV (.str e.2.1) (((e.2.2.mergeSort le2).map Prod.snd).map V.str) with
      | true =>
        refine ⟨_, rfl, ?_⟩
        have ng : ¬ GoodPl (plOf es) := fun g => (g.e e.2 m2).2.2 (((List.mergeSort_perm e.2.2 le2).map Prod.snd).mem_iff.mp (str_inV c))
        exact ⟨d, od, _, (S8.trans S9) _ _ hd6, (fun o' u' z => by exact absurd (hd.d.symm.trans z) (fun z => by cases z)), by decide, err_made R.T (Q := E) fun e2 H4 S4 hd4 => qB (ng) e2 H4 ((unlock_same hd.d (b6.trans (Same.but (S8.trans S9)))).trans S4) hd4⟩
      | false =>
        refine ⟨_, rfl, ⟨_, _, rfl⟩, (b6.trans (Same.but S8)).trans (Same.but S9), S9 _ _ (S8 _ _ hd6), fun y hy => ?_⟩
        rw [List.take_add_one, ee] at hy
        rcases List.mem_append.mp hy with h | h
        · exact ok y h
        · rw [show y = e from List.mem_singleton.mp h]
          exact ⟨en, fun m3 => by
            rw [inV_str (((List.mergeSort_perm e.2.2 le2).map Prod.snd).mem_iff.mpr m3)] at c
            cases c⟩
    · obtain ⟨⟨y2, y3, rfl⟩, b5, d5, ok⟩ := hP
      refine ⟨d5, ?_⟩
      have hg : GoodPl (plOf es) := good_of hd nd fun e he => ok e (by rw [kvE_len, List.take_length]; exact he)
      have q := qG hg
      have S0 : Same H (L2.upd H5 d (.dK (kvE es))) := fun c o hc => by
        by_cases e : c = d
        · subst e
          rw [upd_same, ← hd.d]
          exact hc
        · rw [upd_ne e]
          exact b5 _ _ hc e
      generalize L2.upd H5 d (.dK (kvE es)) = H6 at S0
      have eks : (kvE es).map (·.1) = ((plOf es).map Prod.fst).map Sum.inr := by
        unfold kvE plOf
        rw [List.map_map, List.map_map, List.map_map]
        rfl
      refine ⟨.ref d, rfl, d, _, (plOf es).map Prod.fst, rfl, .of (S0 _ _ hd.d), eks, by rw [List.length_map, plOf_len]; omega, fun p np => ⟨p, rfl, ⟨_, sqOf upd_same⟩, fun G nG => ?_⟩⟩
      obtain ⟨N, pN, eN⟩ := perm_map (g := fun e : En => e.2.1) (cs := ((plOf es).map Prod.fst).mergeSort (PySem.W.dataLe false PyData.str)) (M := es) (by
        have := List.mergeSort_perm ((plOf es).map Prod.fst) (PySem.W.dataLe false PyData.str)
        rw [show es.map (fun e : En => e.2.1) = (plOf es).map Prod.fst by unfold plOf; rw [List.map_map]; rfl]
        exact this)
      rw [eN] at nG ⊢
      have pP : (plOf N).Perm (plOf es) := pN.map _
      have nN : ((plOf N).map Prod.fst).Nodup := (pP.map Prod.fst).nodup_iff.mpr hg.n
      have S7 : Same H (L2.upd H6 p (.lst ((N.map fun e : En => e.2.1).map V.str))) := S0.trans (same_upd np)
      have hp : (L2.upd H6 p (.lst ((N.map fun e : En => e.2.1).map V.str))) p = some (.lst ((N.map fun e : En => e.2.1).map V.str)) := upd_same
      generalize L2.upd H6 p (.lst ((N.map fun e : En => e.2.1).map V.str)) = H7 at S7 hp nG
      have Gd0 : G ≠ d := fun z => by rw [z, S7 _ _ hd.d] at nG; cases nG
      refine dc_it (walk_list (a := p) (xs := (N.map fun e : En => e.2.1).map V.str)) (fun i H' => Same H7 H' ∧ H' G = some (.dK (kvE (N.take i)))) ⟨same_upd nG, upd_same⟩ (fun i H' _ hP => sqOf (hP.1 _ _ hp)) (fun i v H4 H5 hi hP hy => ?_) (fun H' hP => ?_)
      · obtain ⟨S4, hG⟩ := hP
        obtain ⟨rfl, ev⟩ := hy
        rw [List.getElem?_map, List.getElem?_map] at ev
        cases et : N[i]? with
        | none => rw [et] at ev; cases ev
        | some e =>
        rw [et] at ev
        cases (Option.some.inj ev)
        have m := pN.mem_iff.mp (List.mem_of_getElem? et)
        refine ⟨rfl, .str e.2.1, rfl, .ref d, rfl, .str e.2.1, rfl, d, .ref e.1, rfl, ?_, _, Sum.inr e.2.1, rfl, hG, by rw [kvE_len, List.length_take]; have := pN.length_eq; omega, fun c o hc => ?_, ?_⟩
        · rw [← kvE_val hg.n m]
          exact DGet.k (k := Sum.inr e.2.1) (S4 _ _ (S7 _ _ hd.d))
        · rw [upd_ne (ne_of_none hc nG)]
          exact S4 _ _ hc
        · rw [upd_same, kvE_snoc nN et]
      · obtain ⟨S4, hG⟩ := hP
        rw [List.length_map, List.length_map, List.take_length] at hG
        have S8 := S7.trans S4
        have hx8 := S8 _ _ hx
        have Gx : G ≠ x := ne_of hG hx8 (fun z => by cases z)
        refine ⟨.ref x, rfl, x, CS, dx, [], rfl, hx8, SC.c, SC.no1, by decide, ?_⟩
        have b9 : But x H (L2.upd H' x (.ins CS dx (putF wTables (.ref G) []))) := (Same.but S8).trans But.upd
        have hG9 : (L2.upd H' x (.ins CS dx (putF wTables (.ref G) []))) G = some (.dK (kvE N)) := by rw [upd_ne Gx]; exact hG
        have hx9 : (L2.upd H' x (.ins CS dx (putF wTables (.ref G) []))) x = some (.ins CS dx [(wTables, .ref G)]) := upd_same
        have ht9 : ∀ e ∈ N, TabOf C (L2.upd H' x (.ins CS dx (putF wTables (.ref G) []))) e.1 e.2.2 := fun e he => by
          obtain ⟨⟨dy, dd, h1, h2⟩, g, n⟩ := hd.t e (pN.mem_iff.mp he)
          exact ⟨⟨dy, dd, b9 _ _ h1 (tab_off h1 hx), b9 _ _ h2 (ne_of h2 hx (fun z => by cases z))⟩, g, n⟩
        generalize L2.upd H' x (.ins CS dx (putF wTables (.ref G) [])) = H9 at b9 hG9 hx9 ht9
        refine ⟨.ref x, rfl, x, CS, dx, _, .ref G, rfl, hx9, SC.c, SC.no1, lk1, G, kvE N, rfl, hG9, fun l nl => ?_⟩
        have Sl : Same H9 (L2.upd H9 l (.lst ((kvE N).map (·.2)))) := same_upd nl
        have tN := tot_perm pP
        refine ⟨l, N, rfl, by rw [upd_same]; unfold kvE; rw [List.map_map]; rfl, fun e he => (ht9 e he).same Sl, by omega, fun p2 ms H10 S10 np2 hp2 hms lms srt => ?_⟩
        have S9 := Sl.trans S10
        have hx10 := S9 _ _ hx9
        refine ⟨.ref x, rfl, x, CS, dx, _, rfl, hx10, SC.c, SC.no2, by show 1 < 1000; omega, ?_⟩
        have b11 : But x H (L2.upd H10 x (.ins CS dx (putF wMarks (.ref p2) [(wTables, .ref G)]))) := (b9.trans (Same.but S9)).trans But.upd
        have Gd : G ≠ d := Gd0
        have pd : p2 ≠ d := fun z => by
          rw [z, Sl _ _ (b9 _ _ hd.d (Ne.symm xd))] at np2
          cases np2
        refine q _ b11 fun H'' b => ⟨⟨dx, G, p2, N, ms, b _ _ upd_same xd, ⟨b _ _ ?_ Gd, fun e he => ?_⟩, pP, b _ _ ?_ pd, fun z => (hms z).trans (isStem_perm pP z), by omega, srt, by
          rw [show (plOf N).map Prod.fst = N.map (fun e : En => e.2.1) by unfold plOf; rw [List.map_map]; rfl, ← eN]
          exact PySem.W.sort_pairwise le1_total _⟩, hg⟩
        · rw [upd_ne Gx]
          exact S9 _ _ hG9
        · obtain ⟨⟨dy, dd, h1, h2⟩, g, n⟩ := hd.t e (pN.mem_iff.mp he)
          exact ⟨⟨dy, dd, b _ _ (b11 _ _ h1 (tab_off h1 hx)) (ne_of h1 hd.d (fun z => by cases z)), b _ _ (b11 _ _ h2 (ne_of h2 hx (fun z => by cases z))) (ne_of h2 hd.d (fun z => kvP_kvE (pN.mem_iff.mp he) (HO.dK.inj z)))⟩, g, n⟩
        · rw [upd_ne (ne_of hp2 hx10 (fun z => by cases z))]
          exact hp2
end
end Tb
namespace Tb
open PySem PySem.Spec PyProof.Rows L2
open PySem.W (AllAlike Sortable dataLe TotalLe)
abbrev sSNames : Stmt := inClass (topS 23) 1
abbrev NSNames : List Str := ["self"]
theorem scSNames : FnScope NSNames ["self"] (defScope sSNames) := ⟨rfl, rfl, rfl, by decide +kernel, rfl, by decide +kernel, by decide +kernel⟩
abbrev sSTable : Stmt := inClass (topS 23) 3
abbrev NSTable : List Str := ["self", "site"]
theorem scSTable : FnScope NSTable ["self", "site"] (defScope sSTable) := ⟨rfl, rfl, rfl, by decide +kernel, rfl, by decide +kernel, by decide +kernel⟩
abbrev sSVia : Stmt := inClass (topS 23) 7
abbrev NSVia : List Str := ["self", "site", "goal", "address"]
theorem scSVia : FnScope NSVia ["self", "site", "goal", "address"] (defScope sSVia) := ⟨rfl, rfl, rfl, by decide +kernel, rfl, by decide +kernel, by decide +kernel⟩
abbrev sSChanged : Stmt := inClass (topS 23) 4
abbrev NSChanged : List Str := ["self", "site", "prefix", "lane", "tables", "before"]
theorem scSChanged : FnScope NSChanged ["self", "site", "prefix", "lane"] (defScope sSChanged) := ⟨rfl, rfl, rfl, by decide +kernel, rfl, by decide +kernel, by decide +kernel⟩
def spSNames (C CS : Addr) : Sp := fun vs H Q _ => ∃ (j : Addr) (pl : Pl), vs = [.ref j] ∧ SortOf C CS H j pl ∧ ∀ (p : Addr) (xs : List Str) (H' : Hp), Same H H' → H p = none → H' p = some (.lst (xs.map V.str)) → Srt xs → xs.Perm (pl.map Prod.fst) → Q (.ref p) H'
def spSTable (C CS CU : Addr) : Sp := fun vs H Q E => ∃ (j : Addr) (t : Str) (pl : Pl), vs = [.ref j, .str t] ∧ SortOf C CS H j pl ∧ t.length ≤ 1000 ∧ (t ∈ pl.map Prod.fst → ∀ b, TabOf C H b (rowsOf pl t) → Q (.ref b) H) ∧ (t ∉ pl.map Prod.fst → ∀ e H', Same H H' → H' e = some (.xd [(wName, .str t)]) → E (.ref CU) (some e) H')
def spSVia (C CS : Addr) : Sp := fun vs H Q _ => ∃ (j : Addr) (t x a : Str) (pl : Pl), vs = [.ref j, .str t, .str x, .str a] ∧ SortOf C CS H j pl ∧ a.length ≤ 1000 ∧ pl.length ≤ 100 ∧ ∀ H', Same H H' → Q (.bl (inV (.str x) (((pth pl a t).1.drop 1).map V.str))) H'
def spSChangedX (C CS CI CU : Addr) : Sp := fun vs H Q E => ∃ (j : Addr) (t p : Str) (o : Option Str) (pl : Pl), vs = [.ref j, .str t, .str p, oStr o] ∧ SortOf C CS H j pl ∧ t.length ≤ 1000 ∧ p.length ≤ 1000 ∧ (∀ l, o = some l → l.length ≤ 1000) ∧ tot pl < 300 ∧ pl.length < 100 ∧
  ((isAddr p = false ∨ ∃ l, o = some l ∧ isLane l = false) → ∀ e H', Same H H' → H' e = some (.xd [(wWhat, .str wTable)]) → E (.ref CI) (some e) H') ∧
  (isAddr p = true → o = none → p ∉ (rowsOf pl t).map Prod.fst → ∀ e H', Same H H' → H' e = some (.xd [(wName, .str p)]) → E (.ref CU) (some e) H') ∧
  (isAddr p = true → (∀ l, o = some l → isLane l = true) → (o = none → p ∈ (rowsOf pl t).map Prod.fst) → ¬ (isName t = true ∧ o ≠ some t) → ∀ e H', Same H H' → H' e = some (.xd [(wWhat, .str wSorting)]) → E (.ref CI) (some e) H') ∧
  (isAddr p = true → (∀ l, o = some l → isLane l = true) → (o = none → p ∈ (rowsOf pl t).map Prod.fst) → isName t = true → o ≠ some t → ∀ (x : Addr) (H' : Hp), Same H H' → SortOf C CS H' x (plAft pl t p o) → Q (.ref x) H')
theorem plAft_mem (pl : Pl) (t p : Str) (o : Option Str) : ∃ own, (t, aft own p o) ∈ plAft pl t p o := by
  unfold plAft
  by_cases c : t ∈ pl.map Prod.fst
  · rw [if_pos c]
    obtain ⟨e, he, ee⟩ := List.mem_map.mp c
    exact ⟨e.2, List.mem_map.mpr ⟨e, he, if_pos ee⟩⟩
  · rw [if_neg c]
    exact ⟨[], List.mem_append_right _ List.mem_cons_self⟩
theorem good_aft_iff {pl : Pl} (g : GoodPl pl) {t p : Str} {o : Option Str} (hp : isAddr p = true) (hl : ∀ l, o = some l → isLane l = true) : GoodPl (plAft pl t p o) ↔ isName t = true ∧ o ≠ some t := by
  constructor
  · intro h
    obtain ⟨own, m⟩ := plAft_mem pl t p o
    obtain ⟨h1, _, h3⟩ := h.e _ m
    refine ⟨h1, fun z => h3 ?_⟩
    rw [z]
    exact List.mem_map.mpr ⟨(p, t), put_mem own p t, rfl⟩
  · rintro ⟨h1, h2⟩
    exact good_aft g h1 hp fun l e => ⟨hl l e, fun z => h2 (by rw [e, z])⟩
theorem plAft_nodup {pl : Pl} {t p : Str} {o : Option Str} (n : (pl.map Prod.fst).Nodup) : ((plAft pl t p o).map Prod.fst).Nodup := by
  by_cases c : t ∈ pl.map Prod.fst
  · rw [plAft_keys_in c]
    exact n
  · unfold plAft
    rw [if_neg c, List.map_append, List.nodup_append]
    refine ⟨n, List.nodup_cons.mpr ⟨(fun z => by cases z), List.nodup_nil⟩, fun a ha b hb e => c ?_⟩
    rw [← show b = t from List.mem_singleton.mp hb, ← e]
    exact ha
theorem sort_madeX {C CS CI : Addr} {H : Hp} {d : Addr} {es : List En} {Q : VK} {E : XK} (T : TabsAt C H d es) (n : ((plOf es).map Prod.fst).Nodup) (hl : ∀ e ∈ es, e.2.1.length ≤ 1000) (h1 : tot (plOf es) ≤ 300) (h2 : es.length ≤ 100) (qG : GoodPl (plOf es) → ∀ x H', Same H H' → SortOf C CS H' x (plOf es) → Q (.ref x) H')
    (qB : ¬ GoodPl (plOf es) → ∀ e H', Same H H' → H' e = some (.xd [(wWhat, .str wSorting)]) → E (.ref CI) (some e) H') :
    ∀ x dx, H x = none → H dx = none → dx ≠ x → spSInitX C CS CI (V.ref x :: ([V.ref d] ++ [])) (upd (upd H dx (.own x)) x (.ins CS dx [])) (fun v H2 => v = .non ∧ Q (.ref x) H2) E := by
  intro x dx nx ndx hne
  have S0 : Same H (upd (upd H dx (.own x)) x (.ins CS dx [])) := (same_upd ndx).trans (same_upd (by rw [upd_ne (Ne.symm hne)]; exact nx))
  exact ⟨x, dx, d, es, rfl, upd_same, T.same S0, n, hl, h1, h2, fun g H' b S => ⟨rfl, qG g x H' (fun c o hc => b c o (S0 _ _ hc) (ne_of_none hc nx)) (S H' (But.refl d H'))⟩, fun g e H' S he => qB g e H' (S0.trans S) he⟩
theorem cut_lo1 (xs : List V) : cutV xs (some 1) none = xs.drop 1 := by
  cases xs with
  | nil => rfl
  | cons x xs =>
    unfold cutV
    have e1 : HT.sIx (x :: xs).length 0 (some 1) = 1 := by
      unfold HT.sIx
      simp
    have e2 : HT.sIx (x :: xs).length (x :: xs).length none = (x :: xs).length := by
      unfold HT.sIx
      rfl
    rw [e1, e2]
    exact List.take_of_length_le (by rw [List.length_drop]; exact Nat.le_refl _)
theorem kvE_keysR (es : List En) : (kvE es).map (fun kv => kV kv.1) = ((plOf es).map Prod.fst).map V.str := kvE_keys es
section
variable {P : Program} {w : World} {K : PySem.W.Frag} {mg : Str → Option Value} {base : Heap}
theorem ok_snames {f C CS : Addr} {fd : FuncData} {k : Nat} (F : Fun K "names" "Sorting.names" sSNames f fd) (B : Blt mg) (SC : SCls K CS) : FnOk P w K mg base CX0 (k + 1) f fd ["self"] (spSNames C CS) := by
  refine F.ok scSNames (fun vs H Q E h => ?_) (fun cdv A outer s H vs Q E hr h => ?_)
  · obtain ⟨j, pl, rfl, _⟩ := h
    rfl
  · obtain ⟨j, pl, rfl, hS, q⟩ := h
    obtain ⟨⟨dx, dt, dm, es, ms, h1, h2, h3, h4, h5, h6, h7, h8⟩, g⟩ := hS
    refine ⟨_, (pss_one (ps_ret (pe_callTy (call_listD rfl) (by rfl) B.list PyProof.Rows.boot_list (pa_cons (pe_fld (pv 0) rfl) pa_nil)))), ?_⟩
    refine ⟨.ref j, rfl, j, CS, dx, _, .ref dt, rfl, h1, SC.c, SC.no1, lkT, dt, kvE es, rfl, .of h2.d, fun p np => q p ((plOf es).map Prod.fst) _ (same_upd np) np (by rw [upd_same, kvE_keys]) ⟨(h3.map Prod.fst).nodup_iff.mpr g.n, h8⟩ (h3.map _)⟩
theorem ok_stable {f C CS CU gU : Addr} {fd gdU : FuncData} (F : Fun K "table" "Sorting.table" sSTable f fd) (SC : SCls K CS) (U : EUnk K mg CU gU gdU) : FnOk P w K mg base (L2.CX P w) 3 f fd ["self", "site"] (spSTable C CS CU) := by
  have GU : FnOk P w K mg base CX0 1 gU gdU ["self", "name"] (spErr K wName) := ok_unk U.M.F
  refine F.okX scSTable (fun vs H Q E h => ?_) (fun cdv A outer s H vs Q E hr h => ?_)
  · obtain ⟨j, t, pl, rfl, _⟩ := h
    rfl
  · obtain ⟨j, t, pl, rfl, hS, tl, qT, qU⟩ := h
    have hu := hu_of hr
    have hr2 : Room 2 _ := hr.mono (show 2 ≤ 2 by decide)
    obtain ⟨⟨dx, dt, dm, es, ms, h1, h2, h3, h4, h5, h6, h7, h8⟩, g⟩ := hS
    have ge := good_plan_perm h3.symm g
    refine ⟨_, (pss_cons (ps_if (pt_cmp (pc_dnotin hu (pv 1) (pe_fld (pv 0) rfl)))
        (pss_one (ps_raise rfl (takes_of rfl rfl rfl rfl) (pmk_oex U.T.ox U.T.iC U.T.tI GU hr2 U.M.b .nil pass0 (by rfl) U.g (pa_cons (pv 1) pa_nil))))
        pss_nil)
      (pss_one (ps_ret (pe_dget hu (pe_fld (pv 0) rfl) (pv 1) (fun _ _ => rfl))))), ?_⟩
    have mi : t ∈ (plOf es).map Prod.fst ↔ t ∈ pl.map Prod.fst := (h3.map Prod.fst).mem_iff
    rcases es_case es t with ⟨e, he, rfl⟩ | hn
    · have dg : DGet H dt (.str e.2.1) (some (.ref e.1)) := by
        rw [← kvE_val ge.n he]
        exact DGet.k (k := Sum.inr e.2.1) h2.d
      have m : e.2.1 ∈ (plOf es).map Prod.fst := List.mem_map.mpr ⟨e.2, List.mem_map.mpr ⟨e, he, rfl⟩, rfl⟩
      refine ⟨.str e.2.1, rfl, .ref j, rfl, j, CS, dx, _, .ref dt, rfl, h1, SC.c, SC.no1, lkT, dt, _, rfl, dg, _, rfl, ?_⟩
      refine ⟨.ref j, rfl, j, CS, dx, _, .ref dt, rfl, h1, SC.c, SC.no1, lkT, .str e.2.1, rfl, dt, .ref e.1, rfl, dg, qT (mi.mp m) e.1 ?_⟩
      have := h2.t e he
      rw [← rows_perm h3 ge.n, rows_of_mem ge.n he]
      exact this
    · have dg : DGet H dt (.str t) none := by
        rw [← kvE_none hn]
        exact DGet.k (k := Sum.inr t) h2.d
      refine ⟨.str t, rfl, .ref j, rfl, j, CS, dx, _, .ref dt, rfl, h1, SC.c, SC.no1, lkT, dt, _, rfl, dg, _, rfl, ?_⟩
      refine ⟨.str t, rfl, (by show 1 ≤ 1000; decide), err_made U.T (Q := E) fun e H4 S4 hd => qU (fun m => hn (mi.mpr m)) e H4 S4 hd⟩
theorem ok_svia {f gP C CS : Addr} {fd gdP : FuncData} (F : Fun K "via" "Sorting.via" sSVia f fd) (B : Blt mg) (SC : SCls K CS) (SPm : Meth K CS "path" gP) (bPa : Binds K gdP ["self", "site", "address"] []) (FPa : FnOk P w K mg base CX0 5 gP gdP ["self", "site", "address"] (spSPath C CS)) : FnOk P w K mg base CX0 6 f fd ["self", "site", "goal", "address"] (spSVia C CS) := by
  refine F.ok scSVia (fun vs H Q E h => ?_) (fun cdv A outer s H vs Q E hr h => ?_)
  · obtain ⟨j, t, x, a, pl, rfl, _⟩ := h
    rfl
  · obtain ⟨j, t, x, a, pl, rfl, hS, al, pn, q⟩ := h
    have hz : sizeLine = 16777216 := rfl
    obtain ⟨dx, dt, dm, hj⟩ : ∃ dx dt dm, H j = some (.ins CS dx [(wTables, .ref dt), (wMarks, .ref dm)]) := let ⟨⟨dx, dt, dm, _, _, h, _⟩, _⟩ := hS; ⟨dx, dt, dm, h⟩
    refine ⟨_, (pss_one (ps_ret (pe_cmpR op_in_seq (pv 2) (pe_slice sl_list (pe_ix ix_tup (pe_meth (pv 0) SC.c SPm FPa (hr.mono (by first | decide | omega)) bPa .nil pass0 (pa_cons (pv 1) (pa_cons (pv 3) pa_nil))) pe_int (fun _ _ => rfl)) (po_some pe_int) po_none) (by rfl)))), ?_⟩
    refine ⟨.str x, rfl, .ref j, rfl, j, dx, _, rfl, hj, rfl, .str t, rfl, .str a, rfl, j, t, a, pl, rfl, hS, al, pn, fun T H1 S1 P1 _ => ?_⟩
    obtain ⟨U, hT, hU⟩ := P1
    refine ⟨T, _, 0, .ref U, rfl, rfl, .of hT, atI_nat (j := 0) rfl, 1, rfl, U, _, rfl, sqOf hU, fun Z nZ => ⟨Z, _, rfl, .inl (sqOf upd_same), rfl, ?_⟩⟩
    rw [cut_lo1, ← List.map_drop]
    exact ⟨flat_strs _, q _ (S1.trans (same_upd nZ))⟩
theorem ok_schangedx {f C CI CU CS fS : Addr} {fd gdS : FuncData} (F : Fun K "changed" "Sorting.changed" sSChanged f fd) (B : Blt mg) (TK : TabK P w K mg base C CI CU) (SC : SCls K CS) (gS : mg "Sorting" = some (.ref CS)) (MKS : Mk K CS fS) (bS : Binds K gdS ["self", "tables"] []) (GS : FnOk P w K mg base (L2.CX P w) 5 fS gdS ["self", "tables"] (spSInitX C CS CI)) : FnOk P w K mg base (L2.CX P w) 8 f fd ["self", "site", "prefix", "lane"] (spSChangedX C CS CI CU) := by
  obtain ⟨fI, fdI, MK, bT, GT⟩ := TK.make
  obtain ⟨fX, fdX, hX, bX, FX⟩ := TK.chg
  refine F.okX scSChanged (fun vs H Q E h => ?_) (fun cdv A outer s H vs Q E hr h => ?_)
  · obtain ⟨j, t, p, o, pl, rfl, _⟩ := h
    rfl
  · obtain ⟨j, t, p, o, pl, rfl, hS, tl, pl1, ol, ht, hl, qI, qU, qS, q⟩ := h
    have hu := hu_of hr
    have hz : sizeLine = 16777216 := rfl
    obtain ⟨⟨dx, dt, dm, es, ms, h1, h2, h3, h4, h5, h6⟩, g⟩ := hS
    have ge := good_plan_perm h3.symm g
    have les : es.length = pl.length := by rw [← plOf_len, h3.length_eq]
    refine ⟨_, (pss_cons (ps_set (i := 4) scSChanged.nd rfl (.inl rfl) (pe_callTy call_dictD (by rfl) B.dict PyProof.Rows.boot_dict (pa_cons (pe_fld (pv 0) rfl) pa_nil)))
      (pss_cons (ps_set (i := 5) scSChanged.nd rfl (.inl rfl) (pe_dget2 hu (pv 4) (pv 1) (pe_make MK GT (hr.mono (by first | decide | omega)) (by rfl) TK.g bT .nil (passes_call (takes_of rfl rfl rfl rfl) fun _ _ _ _ h => h) (pa_cons (pe_lst pa_nil) pa_nil)) ⟨rfl, by rfl, rfl, rfl⟩))
      (pss_cons (ps_dput hu (pv 4) (pv 1) (pe_meth (pv 5) TK.T.c hX FX (hr.mono (by first | decide | omega)) bX .nil (passes_call (takes_of rfl rfl rfl rfl) fun _ _ _ _ h => h) (pa_cons (pv 2) (pa_cons (pv 3) pa_nil))) (by rfl))
      (pss_one (ps_ret (pe_make MKS GS (hr.mono (by first | decide | omega)) (by rfl) gS bS .nil (passes_call (takes_of rfl rfl rfl rfl) fun _ _ _ _ h => h) (pa_cons (pv 4) pa_nil))))))), ?_⟩
    refine ⟨.ref j, rfl, j, CS, dx, _, .ref dt, rfl, h1, SC.c, SC.no1, lkT, dt, kvE es, rfl, .of h2.d, fun D nD => ?_⟩
    have S1 : Same H (L2.upd H D (.dK (kvE es))) := same_upd nD
    have hD1 : (L2.upd H D (.dK (kvE es))) D = some (.dK (kvE es)) := upd_same
    generalize L2.upd H D (.dK (kvE es)) = H1 at S1 hD1
    refine ⟨.ref D, rfl, D, rfl, .inl ⟨_, .of hD1⟩, .str t, rfl, Nat.zero_le _, fun L nL => ?_⟩
    have S2 : Same H1 (L2.upd H1 L (.lst [])) := same_upd nL
    have hL : RowsAt (L2.upd H1 L (.lst [])) L true [] := ⟨upd_same, fun t h => (by cases h), by decide, fun t h => (by cases h)⟩
    intro b0 db nb ndb neb
    refine tab_made2 (H := L2.upd H1 L (.lst [])) hL (by decide) nb ndb neb (fun _ H3 S3 hb0 => ⟨rfl, ?_⟩) (fun h => absurd good_nil h)
    have hD3 := S3 _ _ (S2 _ _ hD1)
    have S3 : Same H H3 := S1.trans (S2.trans S3)
    have pick : ∃ (b : Addr) (o' : Option V), DGet H3 D (.str t) o' ∧ o'.getD (.ref b0) = .ref b ∧ TabOf C H3 b (rowsOf (plOf es) t) := by
      rcases es_case es t with ⟨e, he, rfl⟩ | hn
      · refine ⟨e.1, some (.ref e.1), ?_, rfl, ?_⟩
        · rw [← kvE_val ge.n he]
          exact DGet.k (k := Sum.inr e.2.1) hD3
        · rw [rows_of_mem ge.n he]
          exact (h2.t e he).same S3
      · refine ⟨b0, none, ?_, rfl, ?_⟩
        · rw [← kvE_none hn]
          exact DGet.k (k := Sum.inr t) hD3
        · rw [rows_not hn]
          exact hb0
    obtain ⟨b, o', dg, eo, hT⟩ := pick
    refine ⟨o', dg, ?_⟩
    rw [eo]
    have er := rows_perm h3 ge.n t
    have low := rows_tot (plOf es) t
    have tp := tot_perm h3
    obtain ⟨dy, dd, hb, _⟩ := hT.ex
    refine ⟨.ref b, rfl, b, dy, _, rfl, hb, rfl, .str p, rfl, oStr o, rfl, b, rowsOf (plOf es) t, p, o, rfl, hT, by omega, pl1, ol, fun bad e H4 S4 he => qI bad e H4 (S3.trans S4) he, fun pa e nm x H4 S4 he => qU pa e (by rw [← er]; exact nm) x H4 (S3.trans S4) he, fun pa ho hon b' H4 S4 hb' => ?_⟩
    rw [er] at hon
    have hD4 := S4 _ _ hD3
    refine ⟨.ref D, rfl, .str t, rfl, D, _, rfl, DPut.k (k := Sum.inr t) hD4 (by rw [kvE_len]; omega), ?_⟩
    have S5 : Same H (L2.upd H4 D (.dK (putK (kvE es) (Sum.inr t) (.ref b')))) := fun c x hc => by
      rw [upd_ne (ne_of_none hc nD)]
      exact S4 _ _ (S3 _ _ hc)
    have epl := plOf_esAft ge.n t b' p o
    have pP : (plAft (plOf es) t p o).Perm (plAft pl t p o) := plAft_perm h3 t p o
    have T5 : TabsAt C (L2.upd H4 D (.dK (putK (kvE es) (Sum.inr t) (.ref b')))) D (esAft es t b' (aft (rowsOf (plOf es) t) p o)) := by
      refine ⟨by rw [upd_same, put_esAft], fun e he => ?_⟩
      rcases mem_esAft he with m | rfl
      · exact (h2.t e m).same S5
      · obtain ⟨⟨du, de, u1, u2⟩, u3, u4⟩ := hb'
        exact ⟨⟨du, de, by rw [upd_ne (ne_of u1 hD4 (fun z => by cases z))]; exact u1, by rw [upd_ne (ne_of u2 hD4 (fun z => aft_kvE (by rw [er]; exact hon) (HO.dK.inj z)))]; exact u2⟩, u3, u4⟩
    generalize L2.upd H4 D (.dK (putK (kvE es) (Sum.inr t) (.ref b'))) = H5 at S5 T5
    have gi := good_aft_iff ge (t := t) pa ho
    refine ⟨.ref D, rfl, sort_madeX T5 (by rw [epl]; exact plAft_nodup ge.n) (fun e he => ?_) (by rw [epl]; have := tot_aft (t := t) (p := p) (o := o) ge.n; omega) (by rw [← plOf_len, epl]; have := plAft_len (pl := plOf es) (t := t) (p := p) (o := o); rw [plOf_len] at this; omega) (fun gA x H6 S6 hx => ?_) (fun gA e H6 S6 he => ?_)⟩
    · rcases mem_esAft he with m | rfl
      · have := name_len (ge.e e.2 (List.mem_map.mpr ⟨e, m, rfl⟩)).1
        omega
      · exact tl
    · rw [epl] at hx gA
      exact q pa ho hon (gi.mp gA).1 (gi.mp gA).2 x H6 (S5.trans S6) (hx.perm pP)
    · rw [epl] at gA
      exact qS pa ho hon (fun z => gA (gi.mpr z)) e H6 (S5.trans S6) he
end
end Tb
namespace Tb
open PySem PySem.Spec PyProof.Rows L2
open PySem.W (AllAlike Sortable dataLe TotalLe)
abbrev sTablesAre : Stmt := topS 41
abbrev NTablesAre : List Str := ["joined", "plan", "told", "town", "board"]
theorem scTablesAre : FnScope NTablesAre ["joined", "plan"] (defScope sTablesAre) := ⟨rfl, rfl, rfl, by decide +kernel, rfl, by decide +kernel, by decide +kernel⟩
abbrev sHasNo : Stmt := topS 42
abbrev NHasNo : List Str := ["joined", "town", "e"]
theorem scHasNo : FnScope NHasNo ["joined", "town"] (defScope sHasNo) := ⟨rfl, rfl, rfl, by decide +kernel, rfl, by decide +kernel, by decide +kernel⟩
theorem srt_uniq {xs ys : List Str} (h : Srt xs) (k : Srt ys) (m : ∀ x, x ∈ xs ↔ x ∈ ys) : xs = ys := by
  induction xs generalizing ys with
  | nil =>
    cases ys with
    | nil => rfl
    | cons y ys => exact absurd ((m y).mpr List.mem_cons_self) List.not_mem_nil
  | cons x xs ih =>
    cases ys with
    | nil => exact absurd ((m x).mp List.mem_cons_self) List.not_mem_nil
    | cons y ys =>
      obtain ⟨n1, p1⟩ := h
      obtain ⟨n2, p2⟩ := k
      have n1 := List.nodup_cons.mp n1
      have n2 := List.nodup_cons.mp n2
      have p1 := List.pairwise_cons.mp p1
      have p2 := List.pairwise_cons.mp p2
      have exy : x = y := by
        rcases List.mem_cons.mp ((m x).mp List.mem_cons_self) with e | hx
        · exact e
        · rcases List.mem_cons.mp ((m y).mpr List.mem_cons_self) with e | hy
          · exact e.symm
          · exact le1_anti (p1.1 y hy) (p2.1 x hx)
      subst exy
      rw [ih ⟨n1.2, p1.2⟩ ⟨n2.2, p2.2⟩ fun z => ⟨fun hz => ?_, fun hz => ?_⟩]
      · rcases List.mem_cons.mp ((m z).mp (List.mem_cons_of_mem _ hz)) with e | h
        · rw [e] at hz
          exact absurd hz n1.1
        · exact h
      · rcases List.mem_cons.mp ((m z).mpr (List.mem_cons_of_mem _ hz)) with e | h
        · rw [e] at hz
          exact absurd hz n2.1
        · exact h
/-- the least digit that is no mark -/
theorem SortOf.off {C CS : Addr} {H : Hp} {j d : Addr} {pl : Pl} {es : List En} (S : SortOf C CS H j pl) (P : PlanAt H d es) {e : En} (he : e ∈ es) : ∀ H', But d H H' → SortOf C CS H' j pl := fun H' b => by
  obtain ⟨⟨dx, dt, dm, es', ms, h1, h2, h3, h4, h5⟩, g⟩ := S
  have pd := P.d
  have nt : dt ≠ d := fun z => by
    have a := h2.d
    rw [z, pd] at a
    have a := HO.dK.inj (Option.some.inj a)
    obtain ⟨i, hi⟩ := List.mem_iff_getElem?.mp he
    have a2 : ((kvE es)[i]?).map Prod.snd = ((kvE es')[i]?).map Prod.snd := by rw [a]
    unfold kvE at a2
    rw [List.getElem?_map, List.getElem?_map, hi] at a2
    cases e2 : es'[i]? with
    | none => rw [e2] at a2; cases a2
    | some x =>
      rw [e2] at a2
      have a3 : e.1 = x.1 := V.ref.inj (Option.some.inj a2)
      obtain ⟨⟨_, _, u1, _⟩, _, _⟩ := h2.t x (List.mem_of_getElem? e2)
      have u2 := P.t e he
      rw [a3, u1] at u2
      cases u2
  have nm : dm ≠ d := fun z => by
    rw [z, pd] at h4
    have a := HO.dK.inj (Option.some.inj h4)
    obtain ⟨i, hi⟩ := List.mem_iff_getElem?.mp he
    have a2 : ((kvE es)[i]?).map Prod.snd = ((kvM ms)[i]?).map Prod.snd := by rw [a]
    unfold kvE kvM at a2
    rw [List.getElem?_map, List.getElem?_map, hi] at a2
    cases e2 : ms[i]? with
    | none => rw [e2] at a2; cases a2
    | some x => rw [e2] at a2; cases a2
  refine ⟨⟨dx, dt, dm, es', ms, b _ _ h1 (ne_of h1 pd (fun z => by cases z)), ⟨b _ _ h2.d nt, fun x hx => ?_⟩, h3, b _ _ h4 nm, h5⟩, g⟩
  obtain ⟨⟨dy, dd, u1, u2⟩, u3, u4⟩ := h2.t x hx
  exact ⟨⟨dy, dd, b _ _ u1 (ne_of u1 pd (fun z => by cases z)), b _ _ u2 (ne_of u2 pd (fun z => kvP_kvE he (HO.dK.inj z)))⟩, u3, u4⟩
theorem kvE_keysK (es : List En) : (kvE es).map (·.1) = ((plOf es).map Prod.fst).map Sum.inr := by
  unfold kvE plOf
  rw [List.map_map, List.map_map, List.map_map]
  rfl
theorem SortOf.insX {C CS : Addr} {H : Hp} {j : Addr} {pl : Pl} (S : SortOf C CS H j pl) : ∃ dx dt dm, H j = some (.ins CS dx [(wTables, .ref dt), (wMarks, .ref dm)]) := let ⟨⟨dx, dt, dm, _, _, h, _⟩, _⟩ := S; ⟨dx, dt, dm, h⟩
theorem lkNo2 {f g g2 : Str} {v v2 : V} (h : (f == g) = false) (h2 : (f == g2) = false) : List.lookup f [(g, v), (g2, v2)] = none := by
  rw [List.lookup_cons, h, List.lookup_cons, h2]
  rfl
def spTablesAre (C CS : Addr) : Sp := fun vs H Q _ => ∃ (j d : Addr) (es : List En), vs = [.ref j, .ref d] ∧ SortOf C CS H j (plOf es) ∧ PlanAt H d es ∧ tot (plOf es) ≤ 900 ∧ es.length ≤ 900 ∧ ∀ H', Same H H' → Q (.bl true) H'
def spHasNo (C CS : Addr) : Sp := fun vs H Q _ => ∃ (j : Addr) (t : Str) (pl : Pl), vs = [.ref j, .str t] ∧ SortOf C CS H j pl ∧ t.length ≤ 1000 ∧ t ∉ pl.map Prod.fst ∧ ∀ H', Same H H' → Q (.bl true) H'
section
variable {P : Program} {w : World} {K : PySem.W.Frag} {mg : Str → Option Value} {base : Heap}
abbrev CRowsAre (P : Program) (w : World) (K : PySem.W.Frag) (mg : Str → Option Value) (base : Heap) (C : Addr) (g : Addr) (gd : FuncData) := C1 P w K mg base "_law_rows_are" sRowsAre ["board", "due"] 3 (spRowsAre C) g gd
theorem ok_tablesare {f gN gT g1 C CS CI CU : Addr} {fd gdN gdT gd1 : FuncData} (F : Fun K "_law_tables_are" "_law_tables_are" sTablesAre f fd) (B : Blt mg) (TK : TabK P w K mg base C CI CU) (SC : SCls K CS) (SNm : Meth K CS "names" gN) (bNm : Binds K gdN ["self"] []) (FNm : FnOk P w K mg base CX0 1 gN gdN ["self"] (spSNames C CS)) (STm : Meth K CS "table" gT) (bTa : Binds K gdT ["self", "site"] []) (FTa : FnOk P w K mg base (L2.CX P w) 3 gT gdT ["self", "site"] (spSTable C CS CU)) (cRowsAre : CRowsAre P w K mg base C g1 gd1) : FnOk P w K mg base CX0 4 f fd ["joined", "plan"] (spTablesAre C CS) := by
  refine F.ok scTablesAre (fun vs H Q E h => ?_) (fun cdv A outer s H vs Q E hr h => ?_)
  · obtain ⟨j, d, es, rfl, _⟩ := h
    rfl
  · obtain ⟨j, d, es, rfl, hS, hP0, ht, hn, q⟩ := h
    have hu := hu_of hr
    have hz : sizeLine = 16777216 := rfl
    have tc : ClsV (.ref C) (.ref C) := .own C
    obtain ⟨dx, dt, dm, hj⟩ := hS.insX
    have g := hP0.g
    have hd := hP0.d
    have lk : ((plOf es).map Prod.fst).length = es.length := by rw [List.length_map, plOf_len]
    let xs := ((plOf es).map Prod.fst).mergeSort le1
    have sxs : Srt xs := ⟨(List.mergeSort_perm _ _).nodup_iff.mpr g.n, PySem.W.sort_pairwise le1_total _⟩
    have pxs : xs.Perm ((plOf es).map Prod.fst) := List.mergeSort_perm _ _
    have txs : ∀ x ∈ xs, Tx x := fun x hx => by
      obtain ⟨e, he, rfl⟩ := List.mem_map.mp (pxs.mem_iff.mp hx)
      exact name_tx (g.e e he).1
    have lxs : xs.length = es.length := by rw [pxs.length_eq, lk]
    refine ⟨_, (pss_cons (ps_set (i := 2) scTablesAre.nd rfl (.inl rfl) (pe_meth0 (pv 0) SC.c SNm FNm (hr.mono (by first | decide | omega)) bNm .nil pass0))
      (pss_cons (ps_if (PW.pt (pw_or (pt_not (pt_val (pe_callB call_isi (by rfl) B.isi (by decide +kernel) (pa_cons (pv 2) (pa_cons (pe_bltn (by rfl) B.list PyProof.Rows.boot_list (v := .ty "list") (u := .type "list") rfl) pa_nil))))) (pw_or1 (pt_cmpR (op_neD hr.units) (pv 2) (pe_callB (cr_sortedDk rfl hr.units) (by rfl) B.sorted PyProof.Rows.boot_sorted (pa_cons (pv 1) pa_nil)) (nomark _)))))
        (pss_one (ps_ret pe_bl))
        pss_nil)
      (pss_cons (ps_expr (pe_bm PySem.F.plainAttrs_list PySem.F.slot_list_append PySem.F.type_list_append mt_append (pv 2) (pa_cons pe_str pa_nil)))
      (pss_cons (ps_expr (pe_bm0 PySem.F.plainAttrs_list PySem.F.slot_list_reverse PySem.F.type_list_reverse mt_reverse (pv 2)))
      (pss_cons (ps_if (pt_cmpR (op_neD hr.units) (pe_meth0 (pv 0) SC.c SNm FNm (hr.mono (by first | decide | omega)) bNm .nil pass0) (pe_callB (cr_sortedDk rfl hr.units) (by rfl) B.sorted PyProof.Rows.boot_sorted (pa_cons (pv 1) pa_nil)) (nomark _))
        (pss_one (ps_ret pe_bl))
        pss_nil)
      (pss_cons (ps_lock (ps_for PassesOwn.never rfl (pi_keys (pv 1)) (pg_name (i := 3) scTablesAre.nd rfl (.inl rfl))
        (pss_cons (ps_set (i := 4) scTablesAre.nd rfl (.inl rfl) (pe_meth (pv 0) SC.c STm FTa (hr.mono (by first | decide | omega)) bTa .nil passL (pa_cons (pv 3) pa_nil)))
        (pss_one (ps_if (PW.pt (pw_or (pt_not (pt_val (pe_callB call_isi (by rfl) B.isi (by decide +kernel) (pa_cons (pv 4) (pa_cons (pe_glob (by rfl) TK.g (v := .ref C) rfl) pa_nil))))) (pw_or1 (pt_not (pt_val (pe_call cRowsAre.G (hr.mono (by first | decide | omega)) (by rfl) cRowsAre.D.g cRowsAre.D.F.kp cRowsAre.D.b .nil pass0 (pa_cons (pv 4) (pa_cons (pe_sortedItems rfl hr.units (pe_dget hu (pv 1) (pv 3) (fun _ _ => rfl)) (by rfl) B.sorted) pa_nil))))))))
          (pss_one (ps_ret pe_bl))
          pss_nil)))))
      (pss_one (ps_ret pe_bl)))))))), ?_⟩
    refine ⟨.ref j, rfl, j, dx, _, rfl, hj, rfl, j, _, rfl, hS, fun p ys H1 S1 np hp sy py => ?_⟩
    obtain rfl : xs = ys := srt_uniq sxs sy fun x => pxs.mem_iff.trans py.mem_iff.symm
    refine ⟨.ref p, rfl, .ref p, .ty "list", .type "list", .type "list", true, rfl, .ty _, .base (.lst hp), kit_ty (by decide +kernel), true, rfl, ?_⟩
    refine ⟨.ref p, rfl, .ref d, rfl, d, _, (plOf es).map Prod.fst, rfl, .of (S1 _ _ hd), kvE_keysK es, by omega, fun M nM => ?_⟩
    have SM := same_upd nM (o := .lst ((((plOf es).map Prod.fst).mergeSort (PySem.W.dataLe false PyData.str)).map V.str))
    have hM : (L2.upd H1 M (.lst ((((plOf es).map Prod.fst).mergeSort (PySem.W.dataLe false PyData.str)).map V.str))) M = some (.lst (xs.map V.str)) := upd_same
    generalize L2.upd H1 M (.lst ((((plOf es).map Prod.fst).mergeSort (PySem.W.dataLe false PyData.str)).map V.str)) = H2 at SM hM
    have hp2 := SM _ _ hp
    refine ⟨_, _, .lst (sqOf hp2) (dp_strs _), .lst (sqOf hM) (dp_strs _), shaped_strs txs, shaped_strs txs, _, rfl, ?_⟩
    rw [eqv_self (shaped_strs txs)]
    refine ⟨.ref p, rfl, .inl ⟨rfl, _, sqOf hp2⟩, p, _, _, rfl, rfl, hp2, by rw [List.length_map]; omega, ?_⟩
    refine ⟨.ref p, rfl, .inl ⟨rfl, _, sqOf upd_same⟩, p, _, rfl, rfl, upd_same, ?_⟩
    have S3 : ∀ o o', Same H (L2.upd (L2.upd H2 p o) p o') := fun o o' c u hc => by
      rw [upd_ne (ne_of_none hc np), upd_ne (ne_of_none hc np)]
      exact SM _ _ (S1 _ _ hc)
    generalize hH3 : L2.upd (L2.upd H2 p _) p _ = H3
    have S3 : Same H H3 := by rw [← hH3]; exact S3 _ _
    clear hH3
    refine ⟨.ref j, rfl, j, dx, _, rfl, S3 _ _ hj, rfl, j, _, rfl, hS.same S3, fun p4 ys4 H4 S4 np4 hp4 sy4 py4 => ?_⟩
    obtain rfl : xs = ys4 := srt_uniq sxs sy4 fun x => pxs.mem_iff.trans py4.mem_iff.symm
    have S04 := S3.trans S4
    refine ⟨.ref d, rfl, d, _, (plOf es).map Prod.fst, rfl, .of (S04 _ _ hd), kvE_keysK es, by omega, fun M5 nM5 => ?_⟩
    have SM5 := same_upd nM5 (o := .lst ((((plOf es).map Prod.fst).mergeSort (PySem.W.dataLe false PyData.str)).map V.str))
    have hM5 : (L2.upd H4 M5 (.lst ((((plOf es).map Prod.fst).mergeSort (PySem.W.dataLe false PyData.str)).map V.str))) M5 = some (.lst (xs.map V.str)) := upd_same
    generalize L2.upd H4 M5 (.lst ((((plOf es).map Prod.fst).mergeSort (PySem.W.dataLe false PyData.str)).map V.str)) = H5 at SM5 hM5
    refine ⟨_, _, .lst (sqOf (SM5 _ _ hp4)) (dp_strs _), .lst (sqOf hM5) (dp_strs _), shaped_strs txs, shaped_strs txs, _, rfl, ?_⟩
    rw [eqv_self (shaped_strs txs)]
    have S05 := S04.trans SM5
    refine ⟨d, .dK (kvE es), S05 _ _ hd, trivial, fun od => ?_⟩
    refine ⟨.ref d, rfl, d, od, rfl, .inl ⟨kvE es, upd_same, ?_⟩⟩
    refine for_it (walk_keys (d := d) (o := od) (kvs := kvE es)) (fun i σ H' => (∃ y3 y4, σ = [some (.ref j), some (.ref d), some (.ref p), y3, y4]) ∧ But d H H' ∧ H' d = some (.frz od (.dK (kvE es))))
      ⟨⟨none, none, rfl⟩, (Same.but S05).trans But.upd, upd_same⟩ (fun i σ H' _ hP => hP.2.2) (fun i v σ H6 H7 hi hP hy => ?_) (fun σ H6 hP => ?_)
    · obtain ⟨⟨y3, y4, rfl⟩, b6, d6⟩ := hP
      obtain ⟨rfl, k, v, ek, rfl⟩ := hy
      rw [show (kvE es)[i]? = (es[i]?).map (fun e => (Sum.inr e.2.1, V.ref e.1)) by unfold kvE; rw [List.getElem?_map]] at ek
      cases ee : es[i]? with
      | none => rw [ee] at ek; cases ek
      | some e =>
      rw [ee] at ek
      cases (Option.some.inj ek)
      have m := List.mem_of_getElem? ee
      have S7 := hS.off hP0 m _ b6
      obtain ⟨dx7, dt7, dm7, hj7⟩ := S7.insX
      have mk : e.2.1 ∈ (plOf es).map Prod.fst := List.mem_map.mpr ⟨e.2, List.mem_map.mpr ⟨e, m, rfl⟩, rfl⟩
      have nl := name_len (g.e e.2 (List.mem_map.mpr ⟨e, m, rfl⟩)).1
      refine ⟨.ref j, rfl, j, dx7, _, rfl, hj7, rfl, .str e.2.1, rfl, j, e.2.1, _, rfl, S7, by omega, fun _ b hb => ?_, fun z => absurd mk z⟩
      rw [rows_of_mem g.n m] at hb
      obtain ⟨dy, dd, u1, u2⟩ := hb.ex
      refine ⟨.ref b, rfl, .ref b, .ref C, .ref C, .ref C, true, rfl, tc, .base (.ins u1 TK.ins.cl TK.ins.ha TK.ins.hn TK.ins.htk TK.ins.hm), TK.ins.me, true, rfl, ?_⟩
      have he7 : H7 e.1 = some (.dK (kvP e.2.2)) := b6 _ _ (hP0.t e m) (ne_of (hP0.t e m) hd (fun z => kvP_kvE m (HO.dK.inj z)))
      have dg : DGet H7 d (.str e.2.1) (some (.ref e.1)) := by
        rw [← kvE_val g.n m]
        exact .inl ⟨_, Sum.inr e.2.1, .inr ⟨od, d6⟩, rfl, rfl⟩
      have low := rows_tot (plOf es) e.2.1
      rw [rows_of_mem g.n m] at low
      refine ⟨.ref b, rfl, .ref d, rfl, .str e.2.1, rfl, d, .ref e.1, rfl, dg, e.1, e.2.2, rfl, he7, by omega, fun H8 r ts S8 nr hr8 ht8 hm8 => ?_⟩
      refine ⟨b, r, e.2.2, ts, rfl, hb.same S8, ⟨hr8, ht8⟩, hm8, fun H9 S9 => ⟨true, rfl, ?_⟩⟩
      exact ⟨⟨_, _, rfl⟩, (b6.trans (Same.but S8)).trans (Same.but S9), S9 _ _ (S8 _ _ d6)⟩
    · obtain ⟨⟨y3, y4, rfl⟩, b6, d6⟩ := hP
      exact ⟨d6, q _ (unlock_same hd b6)⟩
theorem ok_hasno {f gT C CS CI gI CU gU CP : Addr} {fd gdT gdI gdU : FuncData} (F : Fun K "_law_has_no_table" "_law_has_no_table" sHasNo f fd) (B : Blt mg) (SC : SCls K CS) (R : Errs K mg CI gI gdI CU gU gdU CP) (kUP : PySem.W.kitOne K (.ref CU) (.ref CP) = some true) (kUI : PySem.W.kitOne K (.ref CU) (.ref CI) = some false) (STm : Meth K CS "table" gT) (bTa : Binds K gdT ["self", "site"] []) (FTa : FnOk P w K mg base (L2.CX P w) 3 gT gdT ["self", "site"] (spSTable C CS CU)) : FnOk P w K mg base CX0 4 f fd ["joined", "town"] (spHasNo C CS) := by
  refine F.ok scHasNo (fun vs H Q E h => ?_) (fun cdv A outer s H vs Q E hr h => ?_)
  · obtain ⟨j, t, pl, rfl, _⟩ := h
    rfl
  · obtain ⟨j, t, pl, rfl, hS, tl, nt, q⟩ := h
    obtain ⟨dx, dt, dm, hj⟩ := hS.insX
    refine ⟨_, pss_cons (ps_try_as (i := 2) rfl rfl scHasNo.nd rfl rfl ⟨rfl, by decide, .inl R.U.g⟩ takes0
        (fun W pn xe tk _ => pss_one (ps_expr (pe_methS (pv 0) SC.c STm FTa hr bTa (fun σ => passAt tk σ) (pa_cons (pv 1) pa_nil))))
        (fun a oe cls d pn hz hf => pss_one (ps_ret (pe_and (pe_cmpR op_eq (pe_xf R.U.T.xf R.U.T.no hz hf (pv 2)) (pv 1) (nomark _))
            (pe_and (pe_callB (id := "isinstance") (r := rIsX K CU a cls d) (call_isX R.U.T hz hf) (by rfl) B.isi (by decide +kernel) (pa_cons (pv 2) (pa_cons (pe_glob (by rfl) R.gP (v := .ref CP) rfl) pa_nil)))
            (pe_one (pe_not (pe_callB (id := "isinstance") (r := rIsX K CU a cls d) (call_isX R.U.T hz hf) (by rfl) B.isi (by decide +kernel) (pa_cons (pv 2) (pa_cons (pe_glob (by rfl) R.I.g (v := .ref CI) rfl) pa_nil))))))))))
      (pss_one (ps_ret pe_bl)), ?_⟩
    refine ⟨.ref j, rfl, j, dx, _, rfl, hj, lkNo2 (by decide) (by decide), .str t, rfl, ?_⟩
    refine ⟨j, t, pl, rfl, hS, tl, fun z => absurd z nt, fun _ e H1 S1 he => ?_⟩
    refine ⟨true, R.exU, fun _ a na => ?_, fun z => by cases z⟩
    refine ⟨.ref a, rfl, rfl, rfl, e, _, .str t, rfl, he, lk1, .str t, rfl, rfl, true, ?_, ?_⟩
    · rw [decide_eq_true rfl]
    · refine ⟨.ref a, rfl, rfl, .ref CP, .ref CP, true, e, _, rfl, .own _, rfl, he, kUP, true, rfl, ?_⟩
      refine ⟨.ref a, rfl, rfl, .ref CI, .ref CI, false, e, _, rfl, .own _, rfl, he, kUI, false, rfl, ?_⟩
      exact q H1 S1
end
end Tb
namespace Tb
open PySem PySem.Spec PyProof.Rows L2
open PySem.W (AllAlike Sortable dataLe TotalLe)
abbrev sOnePath : Stmt := topS 43
abbrev NOnePath : List Str := ["bag", "joined", "plan", "towns", "town", "address", "due", "told", "way", "found", "goals", "goal", "k"]
theorem scOnePath : FnScope NOnePath ["bag", "joined", "plan", "towns", "town", "address"] (defScope sOnePath) := ⟨rfl, rfl, rfl, by decide +kernel, rfl, by decide +kernel, by decide +kernel⟩
abbrev sPathsAre : Stmt := topS 44
abbrev NPathsAre : List Str := ["bag", "joined", "plan", "towns", "turns", "known", "turn", "town", "address", "choice", "stems"]
theorem scPathsAre : FnScope NPathsAre ["bag", "joined", "plan", "towns", "turns"] (defScope sPathsAre) := ⟨rfl, rfl, rfl, by decide +kernel, rfl, by decide +kernel, by decide +kernel⟩
def rLenQ (K : PySem.W.Frag) : List V → Hp → VK → Prop := fun xs H Q => ∃ p ys, xs = [V.ref p] ∧ (SqL K H p ys ∨ SqT K H p ys) ∧ Q (V.int (ys.length : Int)) H
theorem cut_map (ts : List Str) (lo hi : Option Int) : ∃ us : List Str, cutV (ts.map V.str) lo hi = us.map V.str ∧ (∀ x ∈ us, x ∈ ts) ∧ us.length ≤ ts.length := by
  refine ⟨(ts.drop (HT.sIx (ts.map V.str).length 0 lo)).take (HT.sIx (ts.map V.str).length (ts.map V.str).length hi - HT.sIx (ts.map V.str).length 0 lo), ?_, fun x hx => List.mem_of_mem_drop (List.mem_of_mem_take hx), ?_⟩
  · unfold cutV
    rw [List.map_take, List.map_drop]
  · rw [List.length_take, List.length_drop]
    omega
theorem But.free {p a : Addr} {H H' : Hp} (b : But p H H') (n : H' a = none) (np : a ≠ p) : H a = none := by
  cases e : H a with
  | none => rfl
  | some o => rw [b _ _ e np] at n; cases n
theorem bag_strs {H : Hp} {p U : Addr} {ks : List Str} (B : Bag H p) (h : H U = some (.lst (ks.map V.str))) : U ≠ p := fun e => by
  obtain ⟨n, c, m, ns, e2, _⟩ := B
  rw [e, e2] at h
  cases ks <;> cases h
theorem gname_go {i : Nat} {v : V} {σ : L2.St} {H : Hp} {Q : L2.St → Hp → Prop} (h : Q (σ.set i (some v)) H) : gName i v σ H Q := h
def spPathsAre (C CS : Addr) : Sp := fun vs H Q _ => ∃ (p j d l : Addr) (n : Int) (es : List En) (ts : List Str), vs = [.ref p, .ref j, .ref d, .ref l, .int n] ∧ Bag H p ∧ SortOf C CS H j (plOf es) ∧ PlanAt H d es ∧ Tw H l ts ∧ 1 ≤ ts.length ∧ es.length ≤ 100 ∧ tot (plOf es) ≤ 300 ∧ 0 ≤ n ∧ n ≤ 100 ∧ ∀ H', Bag H' p → But p H H' → Q (.bl true) H'
def spOnePath (C CS : Addr) : Sp := fun vs H Q _ => ∃ (p j d l : Addr) (t a : Str) (es : List En) (ts : List Str), vs = [.ref p, .ref j, .ref d, .ref l, .str t, .str a] ∧ Bag H p ∧ SortOf C CS H j (plOf es) ∧ PlanAt H d es ∧ Tw H l ts ∧ 1 ≤ ts.length ∧ isName t = true ∧ a.length ≤ 1000 ∧ es.length ≤ 100 ∧ ∀ H', Bag H' p → But p H H' → Q (.bl true) H'
section
variable {P : Program} {w : World} {K : PySem.W.Frag} {mg : Str → Option Value} {base : Heap}
theorem ok_onepath {f gP gL gV g1 g2 g3 C CS : Addr} {fd gdP gdL gdV gd1 gd2 gd3 : FuncData} (F : Fun K "_law_one_path" "_law_one_path" sOnePath f fd) (B : Blt mg) (SC : SCls K CS) (cDraw : CDraw P w K mg base g1 gd1) (cLPath : C1 P w K mg base "_law_path" sLPath ["plan", "town", "address"] 2 spLPath g2 gd2) (cLLane : CLLane P w K mg base g3 gd3) (SPm : Meth K CS "path" gP) (bPa : Binds K gdP ["self", "site", "address"] []) (FPa : FnOk P w K mg base CX0 5 gP gdP ["self", "site", "address"] (spSPath C CS))
    (SLm : Meth K CS "lane" gL) (bLa : Binds K gdL ["self", "site", "address"] []) (FLa : FnOk P w K mg base CX0 4 gL gdL ["self", "site", "address"] (spSLane C CS)) (SVm : Meth K CS "via" gV) (bVi : Binds K gdV ["self", "site", "goal", "address"] []) (FVi : FnOk P w K mg base CX0 6 gV gdV ["self", "site", "goal", "address"] (spSVia C CS)) : FnOk P w K mg base CX0 7 f fd ["bag", "joined", "plan", "towns", "town", "address"] (spOnePath C CS) := by
  refine F.ok scOnePath (fun vs H Q E h => ?_) (fun cdv A outer s H vs Q E hr h => ?_)
  · obtain ⟨p, j, d, l, t, a, es, ts, rfl, _⟩ := h
    rfl
  · obtain ⟨p, j, d, l, t, a, es, ts, rfl, hB, hS, hP0, hT, t1, tn, al, le, q⟩ := h
    have hu := hu_of hr
    have hz : sizeLine = 16777216 := rfl
    obtain ⟨dx, dt, dm, hj⟩ := hS.insX
    have g := hP0.g
    have pl := plOf_len es
    have tz := hT.z
    refine ⟨_, (pss_cons (ps_set (i := 6) scOnePath.nd rfl (.inl rfl) (pe_call cLPath.G (hr.mono (by first | decide | omega)) (by rfl) cLPath.D.g cLPath.D.F.kp cLPath.D.b .nil pass0 (pa_cons (pv 2) (pa_cons (pv 4) (pa_cons (pv 5) pa_nil)))))
      (pss_cons (ps_set (i := 7) scOnePath.nd rfl (.inl rfl) (pe_meth (pv 1) SC.c SPm FPa (hr.mono (by first | decide | omega)) bPa .nil pass0 (pa_cons (pv 4) (pa_cons (pv 5) pa_nil))))
      (pss_cons (ps_if (PW.pt (pw_or (pt_not (pt_val (pe_callB call_isi (by rfl) B.isi (by decide +kernel) (pa_cons (pv 7) (pa_cons (pe_bltn (by rfl) B.tuple (by decide +kernel) (v := .ty "tuple") (u := .type "tuple") rfl) pa_nil))))) (pw_or (pt_cmpR op_ne (pe_callB (r := rLenQ K) call_len_seq (by rfl) B.len PySem.boot_len (pa_cons (pv 7) pa_nil)) pe_int (nomark _)) (pw_or (pt_not (pt_val (pe_callB call_isi (by rfl) B.isi (by decide +kernel) (pa_cons (pe_ix ix_tup (pv 7) pe_int (fun _ _ => rfl)) (pa_cons (pe_bltn (by rfl) B.list PyProof.Rows.boot_list (v := .ty "list") (u := .type "list") rfl) pa_nil))))) (pw_or1 (pt_cmpR (op_neD hr.units) (pv 7) (pv 6) (nomark _)))))))
        (pss_one (ps_ret pe_bl))
        pss_nil)
      (pss_cons (ps_expr (pe_bm PySem.F.plainAttrs_list PySem.F.slot_list_append PySem.F.type_list_append mt_append (pe_ix ix_tup (pv 7) pe_int (fun _ _ => rfl)) (pa_cons pe_str pa_nil)))
      (pss_cons (ps_expr (pe_bm0 PySem.F.plainAttrs_list PySem.F.slot_list_reverse PySem.F.type_list_reverse mt_reverse (pe_ix ix_tup (pv 7) pe_int (fun _ _ => rfl))))
      (pss_cons (ps_if (pt_cmpR (op_neD hr.units) (pe_meth (pv 1) SC.c SPm FPa (hr.mono (by first | decide | omega)) bPa .nil pass0 (pa_cons (pv 4) (pa_cons (pv 5) pa_nil))) (pv 6) (nomark _))
        (pss_one (ps_ret pe_bl))
        pss_nil)
      (pss_cons (ps_set (i := 8) scOnePath.nd rfl (.inl rfl) (pe_call cLLane.G (hr.mono (by first | decide | omega)) (by rfl) cLLane.D.g cLLane.D.F.kp cLLane.D.b .nil pass0 (pa_cons (pe_dget2 hu (pv 2) (pv 4) pe_dnewK ⟨rfl, by rfl, rfl, rfl⟩) (pa_cons (pv 5) pa_nil))))
      (pss_cons (ps_set (i := 9) scOnePath.nd rfl (.inl rfl) (pe_meth (pv 1) SC.c SLm FLa (hr.mono (by first | decide | omega)) bLa .nil pass0 (pa_cons (pv 4) (pa_cons (pv 5) pa_nil))))
      (pss_cons (ps_if (PW.pt (pw_and (pt_cmpR op_isN (pv 8) pe_non (nomark _)) (pw_and1 (pt_cmpR op_notN (pv 9) pe_non (nomark _)))))
        (pss_one (ps_ret pe_bl))
        pss_nil)
      (pss_cons (ps_if (PW.pt (pw_and (pt_cmpR op_notN (pv 8) pe_non (nomark _)) (pw_and1 (PW.pt (pw_or (pt_not (pt_val (pe_callB call_isi (by rfl) B.isi (by decide +kernel) (pa_cons (pv 9) (pa_cons (pe_bltn (by rfl) B.str PyProof.Rows.boot_str (v := .ty "str") (u := .type "str") rfl) pa_nil))))) (pw_or1 (pt_cmpR op_ne (pv 9) (pv 8) (nomark _))))))))
        (pss_one (ps_ret pe_bl))
        pss_nil)
      (pss_cons (ps_set (i := 10) scOnePath.nd rfl (.inl rfl) (pe_callTy call_list_of (by rfl) B.list PyProof.Rows.boot_list (pa_cons (pv 3) pa_nil)))
      (C8.pss_cut (ps_if (pt_cmpR op_gt (pe_callB (r := rLenQ K) call_len_seq (by rfl) B.len PySem.boot_len (pa_cons (pv 10) pa_nil)) pe_int (nomark _))
        (pss_one (ps_set (i := 10) scOnePath.nd rfl (.inl rfl) (pe_op op_cat (pe_lc (own := [("k", 12)]) (g := gName 12) (by rfl) scOnePath.nd (pi_range1 (by rfl) B.range (pa_cons pe_int pa_nil)) (blkOk_by (N := NOnePath) (sc := defScope sOnePath) (by decide +kernel)) (fun _ _ _ _ _ => pg_name (i := 12) scOnePath.nd rfl (Or.inl rfl)) (fun _ _ _ _ _ => pts_nil) (fun _ _ _ _ _ => pe_ix (r := rIxL K) ix_list (pv 3) (pe_call cDraw.G (hr.mono (by first | decide | omega)) (by rfl) cDraw.D.g cDraw.D.F.kp cDraw.D.b .nil pass0 (pa_cons (pv 0) (pa_cons (pe_callB (r := rLenQ K) call_len_seq (by rfl) B.len PySem.boot_len (pa_cons (pv 3) pa_nil)) pa_nil))) (fun _ _ => rfl))) (pe_slice sl_list (pe_ix ix_tup (pv 6) pe_int (fun _ _ => rfl)) (po_some (pe_un un_neg pe_int)) po_none))))
        pss_nil)
      (pss_cons (ps_for PassesOwn.never rfl (pi_list (pv 10)) (pg_name (i := 11) scOnePath.nd rfl (.inl rfl))
        (pss_one (ps_if (pt_cmpR op_ne (pe_cmpR op_isBl (pe_meth (pv 1) SC.c SVm FVi (hr.mono (by first | decide | omega)) bVi .nil pass0 (pa_cons (pv 4) (pa_cons (pv 11) (pa_cons (pv 5) pa_nil)))) pe_bl (nomark _)) (pe_cmpR op_in_seq (pv 11) (pe_slice sl_list (pe_ix ix_tup (pv 6) pe_int (fun _ _ => rfl)) (po_some pe_int) po_none) (by rfl)) (nomark _))
          (pss_one (ps_ret pe_bl))
          pss_nil)))
      (pss_one (ps_ret pe_bl))))))))))))))), ?_⟩
    refine ⟨.ref d, rfl, .str t, rfl, .str a, rfl, d, t, a, es, rfl, hP0, by omega, al, fun T1 H1 S1 P1 => ?_⟩
    refine ⟨.ref j, rfl, j, dx, _, rfl, S1 _ _ hj, rfl, .str t, rfl, .str a, rfl, j, t, a, _, rfl, hS.same S1, al, by omega, fun T2 H2 S2 P2 fr => ?_⟩
    obtain ⟨U2, hT2, hU2⟩ := id P2
    have nU2 : H1 U2 = none := fr U2 _ hT2
    have TU : T2 ≠ U2 := ne_of hT2 hU2 (fun z => by cases z)
    have pthl : (pth (plOf es) a t).1.length ≤ 1000 := by
      have := path_len (nx := laneAt (plOf es) a) ((plOf es).length + 1) [] t
      unfold pth
      have z : ([] : List Str).length = 0 := rfl
      omega
    refine ⟨.ref T2, rfl, .ref T2, .ty "tuple", .type "tuple", .type "tuple", true, rfl, .ty _, .base (.tup hT2), kit_ty (by decide +kernel), true, rfl, ?_⟩
    refine ⟨.ref T2, rfl, T2, _, rfl, .inr (.of hT2), rfl, false, rfl, ?_⟩
    refine ⟨.ref T2, rfl, T2, _, 0, .ref U2, rfl, rfl, .of hT2, atI_nat (j := 0) rfl, .ref U2, .ty "list", .type "list", .type "list", true, rfl, .ty _, .base (.lst hU2), kit_ty (by decide +kernel), true, rfl, ?_⟩
    refine ⟨.ref T2, rfl, .ref T1, rfl, _, _, dp_P P2, dp_P (P1.same S2), shaped_pth g tn, shaped_pth g tn, _, rfl, ?_⟩
    rw [eqv_self (shaped_pth g tn)]
    refine ⟨.ref T2, rfl, T2, _, 0, .ref U2, rfl, rfl, .of hT2, atI_nat (j := 0) rfl, .inl ⟨rfl, _, sqOf hU2⟩, U2, _, .str "x", rfl, rfl, hU2, by rw [List.length_map]; omega, ?_⟩
    refine ⟨.ref T2, rfl, T2, _, 0, .ref U2, rfl, rfl, .of (by rw [upd_ne TU]; exact hT2), atI_nat (j := 0) rfl, .inl ⟨rfl, _, sqOf upd_same⟩, U2, _, rfl, rfl, upd_same, ?_⟩
    have S3 : ∀ o o', Same H1 (L2.upd (L2.upd H2 U2 o) U2 o') := fun o o' c u hc => by
      rw [upd_ne (ne_of_none hc nU2), upd_ne (ne_of_none hc nU2)]
      exact S2 _ _ hc
    generalize hH3 : L2.upd (L2.upd H2 U2 _) U2 _ = H3
    have S3 : Same H1 H3 := by rw [← hH3]; exact S3 _ _
    clear hH3 hT2 hU2 P2 nU2 fr TU S2
    have S03 := S1.trans S3
    have P3 := P1.same S3
    refine ⟨.ref j, rfl, j, dx, _, rfl, S03 _ _ hj, rfl, .str t, rfl, .str a, rfl, j, t, a, _, rfl, hS.same S03, al, by omega, fun T4 H4 S4 P4 _ => ?_⟩
    refine ⟨.ref T1, rfl, _, _, dp_P P4, dp_P (P3.same S4), shaped_pth g tn, shaped_pth g tn, _, rfl, ?_⟩
    rw [eqv_self (shaped_pth g tn)]
    have S04 := S03.trans S4
    have P04 := P3.same S4
    clear P4 P3 S03 S3 P1 S1 S4
    -- the lane
    refine ⟨.ref d, rfl, d, rfl, .inl ⟨_, .of (S04 _ _ hP0.d)⟩, .str t, rfl, fun D nD => ?_⟩
    have S5 : Same H4 (L2.upd H4 D (.dK [])) := same_upd nD
    have hD5 : (L2.upd H4 D (.dK [])) D = some (.dK (kvP [])) := upd_same
    generalize L2.upd H4 D (.dK []) = H5 at S5 hD5
    have S05 := S04.trans S5
    have P05 := P04.same S5
    have PL := hP0.same S05
    have pick : ∃ (b : Addr) (o' : Option V), DGet H5 d (.str t) o' ∧ o'.getD (.ref D) = .ref b ∧ H5 b = some (.dK (kvP (rowsOf (plOf es) t))) := by
      rcases es_case es t with ⟨e, he, ee⟩ | hn
      · refine ⟨e.1, some (.ref e.1), ?_, rfl, ?_⟩
        · rw [← ee, ← kvE_val g.n he]
          exact DGet.k (k := Sum.inr e.2.1) PL.d
        · rw [← ee, rows_of_mem g.n he]
          exact PL.t e he
      · refine ⟨D, none, ?_, rfl, ?_⟩
        · rw [← kvE_none hn]
          exact DGet.k (k := Sum.inr t) PL.d
        · rw [rows_not hn]
          exact hD5
    obtain ⟨b, o', dg, eo, hb⟩ := pick
    refine ⟨o', dg, .str a, rfl, ?_⟩
    rw [eo]
    refine ⟨b, _, a, rfl, hb, al, ?_⟩
    show gName 8 (laneAt (plOf es) a t) _ _ _
    refine ⟨.ref j, rfl, j, dx, _, rfl, S05 _ _ hj, rfl, .str t, rfl, .str a, rfl, j, t, a, _, rfl, hS.same S05, al, ?_⟩
    clear hb eo dg hD5 S5 P04 S04
    have es' := lane_str (plOf es) a t
    generalize laneAt (plOf es) a t = v at es'
    refine gname_go ?_
    dsimp only
    show tSeq (tIfS _ _ _) _ _ _ _
    refine seqIf_via (fun c H' => c = false ∧ H' = H5) (fun Q hQ => ?_) (fun c H6 hR => ?_)
    · rcases es' with rfl | ⟨wd, rfl⟩
      · exact ⟨.non, rfl, rfl, true, rfl, .non, rfl, rfl, false, rfl, hQ _ _ ⟨rfl, rfl⟩⟩
      · exact ⟨.str wd, rfl, rfl, false, rfl, hQ _ _ ⟨rfl, rfl⟩⟩
    obtain ⟨rfl, rfl⟩ := hR
    rw [if_neg (fun h => by cases h)]
    dsimp only [tNext]
    show tSeq (tIfS _ _ _) _ _ _ _
    refine seqIf_via (fun c H' => c = false ∧ H' = H6) (fun Q hQ => ?_) (fun c H7 hR => ?_)
    · rcases es' with rfl | ⟨wd, rfl⟩
      · exact ⟨.non, rfl, rfl, false, rfl, hQ _ _ ⟨rfl, rfl⟩⟩
      · refine ⟨.str wd, rfl, rfl, true, rfl, .str wd, rfl, .str wd, .ty "str", .type "str", .type "str", true, rfl, .ty _, .base (.str _), kit_ty (by decide +kernel), true, rfl, ?_⟩
        exact ⟨.str wd, rfl, .str wd, rfl, rfl, false, by show V.bl (!decide (V.str wd = V.str wd)) = _; rw [decide_eq_true rfl]; rfl, hQ _ _ ⟨rfl, rfl⟩⟩
    obtain ⟨rfl, rfl⟩ := hR
    rw [if_neg (fun h => by cases h)]
    dsimp only [tNext]
    obtain ⟨U1, hT1, hU1⟩ := P05
    have T5 := hT.same S05
    refine ⟨.ref l, rfl, l, _, rfl, .inl (sqOf T5.l), fun G nG => ?_⟩
    have S6 := same_upd nG (o := .lst (ts.map V.str))
    have hG6 : (L2.upd H7 G (.lst (ts.map V.str))) G = some (.lst (ts.map V.str)) := upd_same
    have hT6 := S6 _ _ hT1
    have hU6 := S6 _ _ hU1
    have B6 := (hB.same S05).same S6
    have S06 := S05.trans S6
    have T6 := T5.same S6
    generalize L2.upd H7 G (.lst (ts.map V.str)) = H8 at S06 hG6 hT6 hU6 B6 T6
    clear S6 T5 hT1 hU1 nG S05 PL
    let St : Hp → Prop := fun H' => Bag H' p ∧ But p H H' ∧ H' T1 = some (.tup [.ref U1, .str (pth (plOf es) a t).2]) ∧ H' U1 = some (.lst ((pth (plOf es) a t).1.map V.str)) ∧ Tw H' l ts
    have draw : ∀ H1 H2, St H1 → Bag H2 p → But p H1 H2 → St H2 := fun H1 H2 ⟨a1, a2, a3, a4, a5⟩ BB b => ⟨BB, a2.trans b, b _ _ a3 (bag_tup a1 a3), b _ _ a4 (bag_strs a1 a4), a5.but a1 b⟩
    have same : ∀ H1 H2, St H1 → Same H1 H2 → St H2 := fun H1 H2 ⟨a1, a2, a3, a4, a5⟩ S => ⟨a1.same S, a2.trans (Same.but S), S _ _ a3, S _ _ a4, a5.same S⟩
    have Z8 : St H8 := ⟨B6, Same.but S06, hT6, hU6, T6⟩
    clear hT6 hU6 T6 B6 S06
    refine ⟨fun σ' H' => ∃ (G : Addr) (gs : List Str), σ' = [some (.ref p), some (.ref j), some (.ref d), some (.ref l), some (.str t), some (.str a), some (.ref T1), some (.ref T2), some v, some v, some (.ref G), none, none] ∧ H' G = some (.lst (gs.map V.str)) ∧ G ≠ p ∧ St H', ?_, ?_⟩
    · refine ⟨.ref G, rfl, G, _, rfl, .inl (sqOf hG6), _, 8, rfl, rfl, _, rfl, ite2 (fun c => ?_) (fun c => ?_)⟩
      · refine ⟨6, rfl, by omega, by omega, fun D2 nD2 => ?_⟩
        have Dp := bag_no Z8.1 nD2
        have ZD := same _ _ Z8 (same_upd nD2 (o := HO.lst []))
        refine lc_it (walk_range (lo := 0) (n := (6 : Int).toNat)) (fun i H' => St H' ∧ (∀ c o, H8 c = some o → c ≠ p → H' c = some o) ∧ ∃ ks : List Str, H' D2 = some (.lst (ks.map V.str)) ∧ ks.length = i)
          ⟨ZD, fun c o hc _ => same_upd nD2 _ _ hc, [], upd_same, rfl⟩ (fun _ _ _ _ => trivial) (fun i x H9 HA hi hP hy => ?_) (fun H9 hP => ?_)
        · obtain ⟨Z9, off, ks, hD9, lk⟩ := hP
          obtain ⟨rfl, ev⟩ := hy
          have T9 := Z9.2.2.2.2
          refine ⟨rfl, .ref l, rfl, .ref p, rfl, .ref l, rfl, l, _, rfl, .inl (sqOf T9.l), p, _, rfl, Z9.1, by rw [List.length_map]; omega, by rw [List.length_map]; omega, fun i2 HB j0 j1 BB bB => ?_⟩
          obtain ⟨u, hu2, eu⟩ := pick j0 j1
          have ZB := draw _ _ Z9 BB bB
          have DB := bB _ _ hD9 Dp
          refine ⟨l, _, i2, .str u, rfl, rfl, sqOf ZB.2.2.2.2.l, eu, _, DB, by rw [List.length_map]; omega, ?_, fun c o hc nc => ?_, ks ++ [u], by rw [upd_same, List.map_append]; rfl, by rw [List.length_append, lk]; rfl⟩
          · have offD : ∀ c o, H8 c = some o → c ≠ p → (L2.upd HB D2 (.lst (ks.map V.str ++ [V.str u]))) c = some o := fun c o hc nc => by
              rw [upd_ne (ne_of_none hc nD2)]
              exact bB _ _ (off _ _ hc nc) nc
            exact draw _ _ Z8 (ZB.1.put Dp) offD
          · rw [upd_ne (ne_of_none hc nD2)]
            exact bB _ _ (off _ _ hc nc) nc
        · obtain ⟨Z9, off, ks, hD9, lk⟩ := hP
          obtain ⟨us, eus, _, lus⟩ := cut_map (pth (plOf es) a t).1 (some (-2)) none
          refine ⟨.ref T1, rfl, T1, _, 0, .ref U1, rfl, rfl, .of Z9.2.2.1, atI_nat (j := 0) rfl, 2, rfl, _, rfl, U1, _, rfl, sqOf Z9.2.2.2.1, fun Y nY => ?_⟩
          have SY := same_upd nY (o := HO.lst (cutV ((pth (plOf es) a t).1.map V.str) (some (-2)) none))
          have hY : (L2.upd H9 Y (.lst (cutV ((pth (plOf es) a t).1.map V.str) (some (-2)) none))) Y = some (.lst (us.map V.str)) := by rw [upd_same, eus]
          have ZY := same _ _ Z9 SY
          have DY := SY _ _ hD9
          generalize L2.upd H9 Y (.lst (cutV ((pth (plOf es) a t).1.map V.str) (some (-2)) none)) = HY at SY hY ZY DY
          refine ⟨D2, Y, _, _, rfl, rfl, DY, hY, by rw [List.length_map, List.length_map]; omega, fun X nX => ?_⟩
          exact ⟨X, ks ++ us, rfl, by rw [upd_same, List.map_append], bag_no ZY.1 nX, same _ _ ZY (same_upd nX)⟩
      · exact ⟨G, ts, rfl, hG6, bag_strs Z8.1 hG6, Z8⟩
    clear Z8 hG6
    rintro σ1 H9 ⟨G2, gs, rfl, hG9, Gp, Z9⟩
    refine ⟨.ref G2, rfl, G2, rfl, ⟨_, sqOf hG9⟩, ?_⟩
    refine for_it (walk_list (a := G2) (xs := gs.map V.str)) (fun i σ H' => (∃ y11, σ = [some (.ref p), some (.ref j), some (.ref d), some (.ref l), some (.str t), some (.str a), some (.ref T1), some (.ref T2), some v, some v, some (.ref G2), y11, none]) ∧ H' G2 = some (.lst (gs.map V.str)) ∧ St H')
      ⟨⟨_, rfl⟩, hG9, Z9⟩ (fun i σ H' _ hP => sqOf hP.2.1) (fun i v' σ HA HB hi hP hy => ?_) (fun σ HA hP => ?_)
    · obtain ⟨⟨y11, rfl⟩, GA, ZA⟩ := hP
      obtain ⟨rfl, ev⟩ := hy
      rw [List.getElem?_map] at ev
      cases et : gs[i]? with
      | none => rw [et] at ev; cases ev
      | some x =>
      rw [et] at ev
      cases (Option.some.inj ev)
      have SA := hS.but hB ZA.2.1
      obtain ⟨dx2, dt2, dm2, hj2⟩ := SA.insX
      refine ⟨.ref j, rfl, j, dx2, _, rfl, hj2, rfl, .str t, rfl, .str x, rfl, .str a, rfl, j, t, x, a, _, rfl, SA, al, by omega, fun HC SC' => ?_⟩
      have ZC := same _ _ ZA SC'
      refine ⟨_, _, rfl, rfl, ?_⟩
      refine ⟨.str x, rfl, .ref T1, rfl, T1, _, 0, .ref U1, rfl, rfl, .of ZC.2.2.1, atI_nat (j := 0) rfl, 1, rfl, U1, _, rfl, sqOf ZC.2.2.2.1, fun Y nY => ⟨Y, _, rfl, .inl (sqOf upd_same), rfl, ?_⟩⟩
      rw [cut_lo1, ← List.map_drop]
      refine ⟨flat_strs _, ?_⟩
      generalize inV (V.str x) (((pth (plOf es) a t).1.drop 1).map V.str) = bb
      have fin := And.intro (same_upd nY (o := HO.lst (((pth (plOf es) a t).1.drop 1).map V.str)) _ _ (SC' _ _ GA)) (same _ _ ZC (same_upd nY (o := HO.lst (((pth (plOf es) a t).1.drop 1).map V.str))))
      cases bb with
      | true => exact ⟨rfl, false, rfl, ⟨_, rfl⟩, fin⟩
      | false => exact ⟨rfl, false, rfl, ⟨_, rfl⟩, fin⟩
    · obtain ⟨⟨y11, rfl⟩, GA, ZA⟩ := hP
      exact q HA ZA.1 ZA.2.1
theorem ok_pathsare {f g1 g2 g3 g4 C CS : Addr} {fd gd1 gd2 gd3 gd4 : FuncData} (F : Fun K "_law_paths_are" "_law_paths_are" sPathsAre f fd) (B : Blt mg) (cDraw : CDraw P w K mg base g1 gd1) (cStems : C1 P w K mg base "_law_stems" sStems ["plan"] 1 spStems g2 gd2) (cPrefix : C1 P w K mg base "_law_prefix" sPrefix ["bag", "known"] 2 spPrefix g3 gd3) (cOnePath : C1 P w K mg base "_law_one_path" sOnePath ["bag", "joined", "plan", "towns", "town", "address"] 7 (spOnePath C CS) g4 gd4) : FnOk P w K mg base CX0 8 f fd ["bag", "joined", "plan", "towns", "turns"] (spPathsAre C CS) := by
  refine F.ok scPathsAre (fun vs H Q E h => ?_) (fun cdv A outer s H vs Q E hr h => ?_)
  · obtain ⟨p, j, d, l, n, es, ts, rfl, _⟩ := h
    rfl
  · obtain ⟨p, j, d, l, n, es, ts, rfl, hB, hS, hP0, hT, t1, le, ht, n0, n1, q⟩ := h
    have hu := hu_of hr
    have hz : sizeLine = 16777216 := rfl
    have g := hP0.g
    have tz := hT.z
    refine ⟨_, (pss_cons (ps_set (i := 5) scPathsAre.nd rfl (.inl rfl) (pe_call cStems.G (hr.mono (by first | decide | omega)) (by rfl) cStems.D.g cStems.D.F.kp cStems.D.b .nil pass0 (pa_cons (pv 2) pa_nil)))
      (pss_cons (ps_for PassesOwn.never rfl (pi_range1 (by rfl) B.range (pa_cons (pv 4) pa_nil)) (pg_name (i := 6) scPathsAre.nd rfl (.inl rfl))
        (pss_cons (ps_set (i := 7) scPathsAre.nd rfl (.inl rfl) (pe_ix ix_list (pv 3) (pe_call cDraw.G (hr.mono (by first | decide | omega)) (by rfl) cDraw.D.g cDraw.D.F.kp cDraw.D.b .nil pass0 (pa_cons (pv 0) (pa_cons (pe_callB (r := rLenQ K) call_len_seq (by rfl) B.len PySem.boot_len (pa_cons (pv 3) pa_nil)) pa_nil))) (fun _ _ => rfl)))
        (pss_cons (ps_set (i := 8) scPathsAre.nd rfl (.inl rfl) (pe_call cPrefix.G (hr.mono (by first | decide | omega)) (by rfl) cPrefix.D.g cPrefix.D.F.kp cPrefix.D.b .nil pass0 (pa_cons (pv 0) (pa_cons (pv 5) pa_nil))))
        (pss_cons (ps_set (i := 9) scPathsAre.nd rfl (.inl rfl) (pe_call cDraw.G (hr.mono (by first | decide | omega)) (by rfl) cDraw.D.g cDraw.D.F.kp cDraw.D.b .nil pass0 (pa_cons (pv 0) (pa_cons pe_int pa_nil))))
        (pss_cons (ps_set (i := 10) scPathsAre.nd rfl (.inl rfl) (pe_callTy (call_listD rfl) (by rfl) B.list PyProof.Rows.boot_list (pa_cons (pe_dget2 hu (pv 2) (pv 7) pe_dnewK ⟨rfl, by rfl, rfl, rfl⟩) pa_nil)))
        (C8.pss_cut (ps_if (PW.pt (pw_and (pt_cmpR (op_neD hr.units) (pv 5) (pe_lst pa_nil) (nomark _)) (pw_and1 (pt_cmpR op_eq (pv 9) pe_int (nomark _)))))
          (pss_one (ps_set (i := 8) scPathsAre.nd rfl (.inl rfl) (pe_ix ix_list (pv 5) (pe_call cDraw.G (hr.mono (by first | decide | omega)) (by rfl) cDraw.D.g cDraw.D.F.kp cDraw.D.b .nil pass0 (pa_cons (pv 0) (pa_cons (pe_callB (r := rLenQ K) call_len_seq (by rfl) B.len PySem.boot_len (pa_cons (pv 5) pa_nil)) pa_nil))) (fun _ _ => rfl))))
          pss_nil)
        (C8.pss_cut (ps_if (PW.pt (pw_and (pt_cmpR (op_neD hr.units) (pv 10) (pe_lst pa_nil) (nomark _)) (pw_and1 (pt_cmpR op_gt (pv 9) pe_int (nomark _)))))
          (pss_one (ps_set (i := 8) scPathsAre.nd rfl (.inl rfl) (pe_ix ix_list (pv 10) (pe_call cDraw.G (hr.mono (by first | decide | omega)) (by rfl) cDraw.D.g cDraw.D.F.kp cDraw.D.b .nil pass0 (pa_cons (pv 0) (pa_cons (pe_callB (r := rLenQ K) call_len_seq (by rfl) B.len PySem.boot_len (pa_cons (pv 10) pa_nil)) pa_nil))) (fun _ _ => rfl))))
          pss_nil)
        (pss_one (ps_if (pt_not (pt_val (pe_call cOnePath.G (hr.mono (by first | decide | omega)) (by rfl) cOnePath.D.g cOnePath.D.F.kp cOnePath.D.b .nil pass0 (pa_cons (pv 0) (pa_cons (pv 1) (pa_cons (pv 2) (pa_cons (pv 3) (pa_cons (pv 7) (pa_cons (pv 8) pa_nil)))))))))
          (pss_one (ps_ret pe_bl))
          pss_nil)))))))))
      (pss_one (ps_ret pe_bl)))), ?_⟩
    refine ⟨.ref d, rfl, d, es, rfl, hP0, by omega, fun s0 ms H1 S1 ns hs mm lms srt => ?_⟩
    have am : ∀ x ∈ ms, isAddr x = true := fun x hx => stem_addr g ((mm x).mp hx)
    have txm : ∀ x ∈ ms, Tx x := fun x hx => ad_tx ((isAddr_iff x).mp (am x hx))
    have sp := bag_no hB ns
    let St : Hp → Prop := fun H' => Bag H' p ∧ But p H H' ∧ H' s0 = some (.lst (ms.map V.str))
    have draw : ∀ H1 H2, St H1 → Bag H2 p → But p H1 H2 → St H2 := fun H1 H2 ⟨a1, a2, a3⟩ BB b => ⟨BB, a2.trans b, b _ _ a3 sp⟩
    have same : ∀ H1 H2, St H1 → Same H1 H2 → St H2 := fun H1 H2 ⟨a1, a2, a3⟩ S => ⟨a1.same S, a2.trans (Same.but S), S _ _ a3⟩
    have Z1 : St H1 := ⟨hB.same S1, Same.but S1, hs⟩
    refine ⟨.int n, rfl, n, rfl, by omega, by omega, ?_⟩
    refine for_it (walk_range (lo := 0) (n := n.toNat)) (fun i σ H' => (∃ y6 y7 y8 y9 yA, σ = [some (.ref p), some (.ref j), some (.ref d), some (.ref l), some (.int n), some (.ref s0), y6, y7, y8, y9, yA]) ∧ St H')
      ⟨⟨none, none, none, none, none, rfl⟩, Z1⟩ (fun _ _ _ _ _ => trivial) (fun i x σ H2 H3 hi hP hy => ?_) (fun σ H2 hP => ?_)
    · obtain ⟨⟨y6, y7, y8, y9, yA, rfl⟩, Z2⟩ := hP
      obtain ⟨rfl, rfl⟩ := hy
      have T2 := hT.but hB Z2.2.1
      refine ⟨.ref l, rfl, .ref p, rfl, .ref l, rfl, l, _, rfl, .inl (sqOf T2.l), p, _, rfl, Z2.1, by rw [List.length_map]; omega, by rw [List.length_map]; omega, fun i2 H4 j0 j1 B4 b4 => ?_⟩
      obtain ⟨t, htt, et⟩ := pick j0 j1
      have tn := hT.g t htt
      have Z4 := draw _ _ Z2 B4 b4
      refine ⟨l, _, i2, .str t, rfl, rfl, sqOf (T2.but Z2.1 b4).l, et, ?_⟩
      refine ⟨.ref p, rfl, .ref s0, rfl, p, s0, ms, rfl, Z4.1, ⟨Z4.2.2, by omega, txm⟩, fun x hx => (isAddr_iff x).mp (am x hx), fun z H5 hz5 B5 b5 => ?_⟩
      have Z5 := draw _ _ Z4 B5 b5
      refine ⟨.ref p, rfl, p, 4, rfl, Z5.1, by decide, by decide, fun c H6 c0 c1 B6 b6 => ?_⟩
      have Z6 := draw _ _ Z5 B6 b6
      have zl : z.length ≤ 1000 := by have := addr_len ((isAddr_iff z).mpr hz5); omega
      -- the rows of the town
      refine ⟨.ref d, rfl, d, rfl, .inl ⟨_, .of (hP0.but hB Z6.2.1).d⟩, .str t, rfl, fun D nD => ?_⟩
      have S7 : Same H6 (L2.upd H6 D (.dK [])) := same_upd nD
      have hD7 : (L2.upd H6 D (.dK [])) D = some (.dK (kvP [])) := upd_same
      have Z7 := same _ _ Z6 S7
      generalize L2.upd H6 D (.dK []) = H7 at Z7 hD7
      have P7 := hP0.but hB Z7.2.1
      have pick2 : ∃ (b : Addr) (o' : Option V) (own : List Pr), DGet H7 d (.str t) o' ∧ o'.getD (.ref D) = .ref b ∧ H7 b = some (.dK (kvP own)) ∧ own.length ≤ 900 ∧ ∀ r ∈ own, isAddr r.1 = true := by
        rcases es_case es t with ⟨e, he, ee⟩ | hn
        · refine ⟨e.1, some (.ref e.1), e.2.2, ?_, rfl, P7.t e he, ?_, fun r hr => ?_⟩
          · rw [← ee, ← kvE_val g.n he]
            exact DGet.k (k := Sum.inr e.2.1) P7.d
          · have low := rows_tot (plOf es) e.2.1
            rw [rows_of_mem g.n he] at low
            omega
          · exact ((g.e e.2 (List.mem_map.mpr ⟨e, he, rfl⟩)).2.1.1 r hr).1
        · refine ⟨D, none, [], ?_, rfl, hD7, by decide, fun r hr => by cases hr⟩
          rw [← kvE_none hn]
          exact DGet.k (k := Sum.inr t) P7.d
      obtain ⟨b, o', own, dg, eo, hb, lown, aown⟩ := pick2
      refine ⟨o', dg, ?_⟩
      rw [eo]
      refine ⟨b, _, rfl, .of hb, fun L nL => ?_⟩
      have hL : (L2.upd H7 L (.lst ((kvP own).map fun kv => kV kv.1))) L = some (.lst ((own.map Prod.fst).map V.str)) := by
        rw [upd_same]
        unfold kvP
        rw [List.map_map, List.map_map]
        rfl
      have Lp := bag_no Z7.1 nL
      have Z8 := same _ _ Z7 (same_upd nL (o := HO.lst ((kvP own).map fun kv => kV kv.1)))
      generalize L2.upd H7 L (.lst ((kvP own).map fun kv => kV kv.1)) = H8 at hL Z8
      clear hb dg eo hD7 P7 Z7 S7 nL
      let ks := own.map Prod.fst
      have lk : ks.length ≤ 900 := by show (own.map Prod.fst).length ≤ 900; rw [List.length_map]; exact lown
      have ak : ∀ x ∈ ks, isAddr x = true := fun x hx => by
        obtain ⟨r, hr, rfl⟩ := List.mem_map.mp hx
        exact aown r hr
      have txk : ∀ x ∈ ks, Tx x := fun x hx => ad_tx ((isAddr_iff x).mp (ak x hx))
      have hL : H8 L = some (.lst (ks.map V.str)) := hL
      clear_value ks
      have nilE : ∀ xs : List Str, PyData.eqv (.list (xs.map PyData.str)) (.list []) = decide (xs = []) := fun xs => by rw [eqv_nil]; cases xs <;> rfl
      refine ⟨fun σ' H' => ∃ z, σ' = [some (.ref p), some (.ref j), some (.ref d), some (.ref l), some (.int n), some (.ref s0), some (.int (0 + (i : Int))), some (.str t), some (.str z), some (.int c), some (.ref L)] ∧ z.length ≤ 1000 ∧ St H' ∧ H' L = some (.lst (ks.map V.str)), ?_, ?_⟩
      · refine ifS_via (fun c' H' => (St H' ∧ H' L = some (.lst (ks.map V.str))) ∧ (c' = true → ms ≠ [])) (fun Q hQ => ?_) (fun c' H9 hR => ?_)
        · refine ⟨.ref s0, rfl, Nat.zero_le _, fun e ne => ⟨_, _, .lst (sqOf (same_upd ne _ _ Z8.2.2)) (dp_strs _), .lst (sqOf upd_same) .nil, shaped_strs txm, rfl, _, rfl, ?_⟩⟩
          have Z9 := same _ _ Z8 (same_upd ne (o := HO.lst []))
          have L9 := same_upd ne (o := HO.lst []) _ _ hL
          rw [nilE]
          by_cases hm : ms = []
          · rw [decide_eq_true hm]
            exact hQ _ _ ⟨⟨Z9, L9⟩, fun z => by cases z⟩
          · rw [decide_eq_false hm]
            exact ⟨.int c, rfl, rfl, _, rfl, hQ _ _ ⟨⟨Z9, L9⟩, fun _ => hm⟩⟩
        · obtain ⟨⟨Z9, L9⟩, hne⟩ := hR
          cases c' with
          | false => exact ⟨z, rfl, zl, Z9, L9⟩
          | true =>
            have mpos : 0 < ms.length := List.length_pos_iff.mpr (hne rfl)
            refine ⟨.ref s0, rfl, .ref p, rfl, .ref s0, rfl, s0, _, rfl, .inl (sqOf Z9.2.2), p, _, rfl, Z9.1, by rw [List.length_map]; omega, by rw [List.length_map]; omega, fun i3 HA k0 k1 BA bA => ?_⟩
            obtain ⟨u, hu2, eu⟩ := pick k0 k1
            have ZA := draw _ _ Z9 BA bA
            exact ⟨s0, _, i3, .str u, rfl, rfl, sqOf ZA.2.2, eu, u, rfl, by have := addr_len (am u hu2); omega, ZA, bA _ _ L9 Lp⟩
      clear Z8 hL zl hz5 z
      rintro σ1 H9 ⟨z, rfl, zl, Z9, L9⟩
      refine ⟨fun σ' H' => ∃ z, σ' = [some (.ref p), some (.ref j), some (.ref d), some (.ref l), some (.int n), some (.ref s0), some (.int (0 + (i : Int))), some (.str t), some (.str z), some (.int c), some (.ref L)] ∧ z.length ≤ 1000 ∧ St H', ?_, ?_⟩
      · refine ifS_via (fun c' H' => (St H' ∧ H' L = some (.lst (ks.map V.str))) ∧ (c' = true → ks ≠ [])) (fun Q hQ => ?_) (fun c' HA hR => ?_)
        · refine ⟨.ref L, rfl, Nat.zero_le _, fun e ne => ⟨_, _, .lst (sqOf (same_upd ne _ _ L9)) (dp_strs _), .lst (sqOf upd_same) .nil, shaped_strs txk, rfl, _, rfl, ?_⟩⟩
          have ZA := same _ _ Z9 (same_upd ne (o := HO.lst []))
          have LA := same_upd ne (o := HO.lst []) _ _ L9
          rw [nilE]
          by_cases hm : ks = []
          · rw [decide_eq_true hm]
            exact hQ _ _ ⟨⟨ZA, LA⟩, fun z => by cases z⟩
          · rw [decide_eq_false hm]
            exact ⟨.int c, rfl, c, 1, rfl, rfl, _, rfl, hQ _ _ ⟨⟨ZA, LA⟩, fun _ => hm⟩⟩
        · obtain ⟨⟨ZA, LA⟩, hne⟩ := hR
          cases c' with
          | false => exact ⟨z, rfl, zl, ZA⟩
          | true =>
            have kpos : 0 < ks.length := List.length_pos_iff.mpr (hne rfl)
            refine ⟨.ref L, rfl, .ref p, rfl, .ref L, rfl, L, _, rfl, .inl (sqOf LA), p, _, rfl, ZA.1, by rw [List.length_map]; omega, by rw [List.length_map]; omega, fun i3 HB k0 k1 BB bB => ?_⟩
            obtain ⟨u, hu2, eu⟩ := pick k0 k1
            have ZB := draw _ _ ZA BB bB
            exact ⟨L, _, i3, .str u, rfl, rfl, sqOf (bB _ _ LA Lp), eu, u, rfl, by have := addr_len (ak u hu2); omega, ZB⟩
      clear Z9 L9 zl z
      rintro σ1 HA ⟨z, rfl, zl, ZA⟩
      exact ⟨.ref p, rfl, .ref j, rfl, .ref d, rfl, .ref l, rfl, .str t, rfl, .str z, rfl, p, j, d, l, t, z, es, ts, rfl, ZA.1, hS.but hB ZA.2.1, hP0.but hB ZA.2.1, hT.but hB ZA.2.1, t1, tn, zl, le, fun HB BB bB => ⟨true, rfl, ⟨_, _, _, _, _, rfl⟩, draw _ _ ZA BB bB⟩⟩
    · obtain ⟨⟨y6, y7, y8, y9, yA, rfl⟩, Z2⟩ := hP
      exact q H2 Z2.1 Z2.2.1
end
end Tb
namespace Tb
open PySem PySem.Spec PyProof.Rows L2
open PySem.W (AllAlike Sortable dataLe TotalLe)
abbrev sJoined : Stmt := topS 45
abbrev NJoined : List Str := ["tables", "e", "fine"]
theorem scJoined : FnScope NJoined ["tables"] (defScope sJoined) := ⟨rfl, rfl, rfl, by decide +kernel, rfl, by decide +kernel, by decide +kernel⟩
abbrev sOneSite : Stmt := topS 46
abbrev NOneSite : List Str := ["bag", "plan", "towns", "text", "way", "tables", "told", "after", "town"]
theorem scOneSite : FnScope NOneSite ["bag", "plan", "towns"] (defScope sOneSite) := ⟨rfl, rfl, rfl, by decide +kernel, rfl, by decide +kernel, by decide +kernel⟩
abbrev wMade : Str := ("made" : String)
abbrev wRef : Str := ("refused" : String)
abbrev w3 : Str := ("3" : String)
abbrev w35 : Str := ("35" : String)
def spJoined (C CS : Addr) : Sp := fun vs H Q _ => ∃ (d : Addr) (es : List En), vs = [.ref d] ∧ TabsAt C H d es ∧ ((plOf es).map Prod.fst).Nodup ∧ (∀ e ∈ es, e.2.1.length ≤ 1000) ∧ tot (plOf es) ≤ 300 ∧ es.length ≤ 100 ∧
  (GoodPl (plOf es) → ∀ (T j : Addr) (H' : Hp), Same H H' → H' T = some (.tup [.str wMade, .ref j]) → SortOf C CS H' j (plOf es) → Q (.ref T) H') ∧
  (¬ GoodPl (plOf es) → ∀ (T : Addr) (H' : Hp), Same H H' → H' T = some (.tup [.str wRef, .bl true]) → Q (.ref T) H')
theorem sort_made2X {C CS CI : Addr} {H : Hp} {d x dx : Addr} {es : List En} {R : VK} {E : XK} (T : TabsAt C H d es) (n : ((plOf es).map Prod.fst).Nodup) (hl : ∀ e ∈ es, e.2.1.length ≤ 1000) (h1 : tot (plOf es) ≤ 300) (h2 : es.length ≤ 100) (nx : H x = none) (ndx : H dx = none) (hne : dx ≠ x)
    (qG : GoodPl (plOf es) → ∀ H', Same H H' → (∀ H'', But d H' H'' → SortOf C CS H'' x (plOf es)) → R .non H')
    (qB : ¬ GoodPl (plOf es) → ∀ e H', Same H H' → H' e = some (.xd [(wWhat, .str wSorting)]) → E (.ref CI) (some e) H') :
    spSInitX C CS CI [V.ref x, V.ref d] (L2.upd (L2.upd H dx (.own x)) x (.ins CS dx [])) R E := by
  have S0 : Same H (L2.upd (L2.upd H dx (.own x)) x (.ins CS dx [])) := (same_upd ndx).trans (same_upd (by rw [upd_ne (Ne.symm hne)]; exact nx))
  exact ⟨x, dx, d, es, rfl, upd_same, T.same S0, n, hl, h1, h2, fun g H' b S => qG g H' (fun c o hc => b c o (S0 _ _ hc) (ne_of_none hc nx)) S, fun g e H' S he => qB g e H' (S0.trans S) he⟩
def plSet (pl : Pl) (t : Str) (own : List Pr) : Pl := if t ∈ pl.map Prod.fst then pl.map (fun e => if e.1 = t then (t, own) else e) else pl ++ [(t, own)]
theorem plOf_esSet (es : List En) (t : Str) (a : Addr) (own : List Pr) : plOf (esAft es t a own) = plSet (plOf es) t own := by
  unfold esAft plSet
  by_cases c : t ∈ (plOf es).map Prod.fst
  · rw [if_pos c, if_pos c]
    unfold plOf
    rw [List.map_map, List.map_map]
    refine List.map_congr_left fun e _ => ?_
    show (if e.2.1 = t then ((a, (t, own)) : En) else e).2 = if e.2.1 = t then (t, own) else e.2
    split <;> rfl
  · rw [if_neg c, if_neg c]
    unfold plOf
    rw [List.map_append]
    rfl
theorem plSet_keys {pl : Pl} {t : Str} {own : List Pr} : (plSet pl t own).map Prod.fst = if t ∈ pl.map Prod.fst then pl.map Prod.fst else pl.map Prod.fst ++ [t] := by
  unfold plSet
  by_cases c : t ∈ pl.map Prod.fst
  · rw [if_pos c, if_pos c, List.map_map]
    refine List.map_congr_left fun e _ => ?_
    show (if e.1 = t then (t, own) else e).1 = e.1
    split
    · next h => exact h.symm
    · rfl
  · rw [if_neg c, if_neg c, List.map_append]
    rfl
theorem plSet_nodup {pl : Pl} {t : Str} {own : List Pr} (n : (pl.map Prod.fst).Nodup) : ((plSet pl t own).map Prod.fst).Nodup := by
  rw [plSet_keys]
  split
  · exact n
  · next c =>
    rw [List.nodup_append]
    refine ⟨n, List.nodup_cons.mpr ⟨(fun z => by cases z), List.nodup_nil⟩, fun a ha b hb e => c ?_⟩
    rw [← show b = t from List.mem_singleton.mp hb, ← e]
    exact ha
theorem plSet_mem {pl : Pl} {t : Str} {own : List Pr} {x : Str × List Pr} (h : x ∈ plSet pl t own) : x ∈ pl ∨ x = (t, own) := by
  unfold plSet at h
  split at h
  · obtain ⟨y, hy, rfl⟩ := List.mem_map.mp h
    split
    · exact .inr rfl
    · exact .inl hy
  · exact (List.mem_append.mp h).imp id List.mem_singleton.mp
theorem plSet_in (pl : Pl) (t : Str) (own : List Pr) : (t, own) ∈ plSet pl t own := by
  unfold plSet
  split
  · next c =>
    obtain ⟨e, he, ee⟩ := List.mem_map.mp c
    exact List.mem_map.mpr ⟨e, he, if_pos ee⟩
  · exact List.mem_append_right _ List.mem_cons_self
theorem plSet_good {pl : Pl} (g : GoodPl pl) {t : Str} {own : List Pr} (go : Good own) : GoodPl (plSet pl t own) ↔ isName t = true ∧ t ∉ own.map Prod.snd := by
  constructor
  · intro h
    obtain ⟨h1, _, h3⟩ := h.e _ (plSet_in pl t own)
    exact ⟨h1, h3⟩
  · rintro ⟨h1, h2⟩
    refine ⟨fun x hx => ?_, plSet_nodup g.n⟩
    rcases plSet_mem hx with h | rfl
    · exact g.e x h
    · exact ⟨h1, go, h2⟩
theorem plSet_len {pl : Pl} {t : Str} {own : List Pr} : (plSet pl t own).length ≤ pl.length + 1 := by
  unfold plSet
  split
  · rw [List.length_map]; omega
  · rw [List.length_append]; exact Nat.le_refl _
theorem plSet_tot {pl : Pl} (n : (pl.map Prod.fst).Nodup) {t : Str} {own : List Pr} : tot (plSet pl t own) ≤ tot pl + own.length := by
  unfold plSet
  split
  · next c =>
    clear c
    induction pl with
    | nil => exact Nat.zero_le _
    | cons e pl ih =>
      obtain ⟨n1, n2⟩ := List.nodup_cons.mp n
      rw [List.map_cons, tot_cons, tot_cons]
      by_cases h : e.1 = t
      · rw [if_pos h]
        have e2 : pl.map (fun e => if e.1 = t then (t, own) else e) = pl := by
          conv => rhs; rw [← List.map_id pl]
          refine List.map_congr_left fun x hx => ?_
          rw [if_neg fun z => n1 (by rw [h, ← z]; exact List.mem_map.mpr ⟨x, hx, rfl⟩)]
          rfl
        rw [e2]
        show own.length + tot pl ≤ _
        omega
      · rw [if_neg h]
        have := ih n2
        omega
  · have : tot (pl ++ [(t, own)]) = tot pl + own.length := by
      unfold tot
      rw [List.map_append, List.sum_append]
      rfl
    omega
def spOneSite : Sp := fun vs H Q _ => ∃ (p d l : Addr) (es : List En) (ts : List Str), vs = [.ref p, .ref d, .ref l] ∧ Bag H p ∧ PlanAt H d es ∧ Tw H l ts ∧ es.length ≤ 60 ∧ tot (plOf es) ≤ 200 ∧ ∀ H', Bag H' p → But p H H' → Q (.bl true) H'
section
variable {P : Program} {w : World} {K : PySem.W.Frag} {mg : Str → Option Value} {base : Heap}
theorem ok_joined {f C CS CI gI CU gU CP fS : Addr} {fd gdI gdU fdS : FuncData} (F : Fun K "_law_joined" "_law_joined" sJoined f fd) (B : Blt mg) (gS : mg "Sorting" = some (.ref CS)) (MKS : Mk K CS fS) (bS : Binds K fdS ["self", "tables"] []) (GS : FnOk P w K mg base (L2.CX P w) 5 fS fdS ["self", "tables"] (spSInitX C CS CI)) (R : Errs K mg CI gI gdI CU gU gdU CP) : FnOk P w K mg base CX0 7 f fd ["tables"] (spJoined C CS) := by
  have FMr : FnR P w K mg base (L2.CX P w) 5 fS (spSInitX C CS CI) := (GS.raw bS .nil).imp fun vs H Q E h => by rw [List.append_nil]; exact h
  refine F.ok scJoined (fun vs H Q E h => ?_) (fun cdv A outer s H vs Q E hr h => ?_)
  · obtain ⟨d, es, rfl, _⟩ := h
    rfl
  · obtain ⟨d, es, rfl, hT, nd, kl, ht, hn, q1, q2⟩ := h
    refine ⟨_, pss_one (ps_try_as (i := 1) rfl rfl scJoined.nd rfl rfl ⟨rfl, by decide, .inl R.I.g⟩ takes0
        (fun W pn xe tk _ => pss_one (ps_ret (pe_tup (pa_cons pe_str (pa_cons (pe_makeS MKS FMr hr (by rfl) gS (fun σ => passAt tk σ) (pa_cons (pv 0) pa_nil)) pa_nil)))))
        (fun a oe cls d pn hz hf => pss_cons (ps_set (i := 2) scJoined.nd rfl (.inl rfl) (pe_and (pe_cmpR op_eq (pe_xf R.I.T.xf R.I.T.no hz hf (pv 1)) pe_str (nomark _))
            (pe_and (pe_callB (id := "isinstance") (r := rIsX K CI a cls d) (call_isX R.I.T hz hf) (by rfl) B.isi (by decide +kernel) (pa_cons (pv 1) (pa_cons (pe_glob (by rfl) R.gP (v := .ref CP) rfl) pa_nil)))
            (pe_one (pe_callB (id := "isinstance") (r := rIsX K CI a cls d) (call_isX R.I.T hz hf) (by rfl) B.isi (by decide +kernel) (pa_cons (pv 1) (pa_cons (pe_bltn (by rfl) R.ve (by decide +kernel) (v := .ty "ValueError") (u := .type "ValueError") rfl) pa_nil)))))))
          (pss_one (ps_ret (pe_tup (pa_cons pe_str (pa_cons (pe_and (pv 2) (pe_one (pe_not (pe_callB (id := "isinstance") (r := rIsX K CI a cls d) (call_isX R.I.T hz hf) (by rfl) B.isi (by decide +kernel) (pa_cons (pv 1) (pa_cons (pe_glob (by rfl) R.U.g (v := .ref CU) rfl) pa_nil)))))) pa_nil))))))), ?_⟩
    refine ⟨.ref d, rfl, ?_⟩
    intro x dx nx ndx hne
    refine sort_made2X hT nd kl ht hn nx ndx hne (fun g H' S SO => ?_) (fun g e H' S he => ?_)
    · exact ⟨rfl, by show 2 ≤ sizeLine; decide, fun T' nT => q1 g T' x _ (S.trans (same_upd nT)) upd_same ((SO H' (But.refl d H')).same (same_upd nT))⟩
    · refine ⟨true, R.exI, fun _ a ha => ?_, fun z => by cases z⟩
      refine ⟨.ref a, rfl, rfl, rfl, e, _, .str wSorting, rfl, he, lk1, rfl, true, ?_, ?_⟩
      · rw [decide_eq_true rfl]
      refine ⟨.ref a, rfl, rfl, .ref CP, .ref CP, true, e, _, rfl, .own _, rfl, he, R.kP, true, rfl, ?_⟩
      refine ⟨.ref a, rfl, rfl, .ty "ValueError", .type "ValueError", true, e, _, rfl, .ty _, rfl, he, R.kV, ?_⟩
      refine ⟨.bl true, rfl, true, rfl, .ref a, rfl, rfl, .ref CU, .ref CU, false, e, _, rfl, .own _, rfl, he, R.kU, false, rfl, by decide, fun T nT => ?_⟩
      exact q2 g T _ (S.trans (same_upd nT)) upd_same
end
end Tb
namespace Tb
open PySem PySem.Spec PyProof.Rows L2
open PySem.W (AllAlike Sortable dataLe TotalLe)
theorem good_one {w : Str} (h : isLane w = true) : Good [(w3, w)] := ⟨fun p hp => by rw [List.mem_singleton.mp hp]; exact ⟨show isAddr w3 = true by decide +kernel, h⟩, List.nodup_cons.mpr ⟨(fun z => by cases z), List.nodup_nil⟩⟩
section
variable {P : Program} {w : World} {K : PySem.W.Frag} {mg : Str → Option Value} {base : Heap}
theorem ok_onesite {f gP g1 g2 g3 g4 g5 g6 g7 C CS CI CU : Addr} {fd gdP gd1 gd2 gd3 gd4 gd5 gd6 gd7 : FuncData} (F : Fun K "_law_one_site_more" "_law_one_site_more" sOneSite f fd) (B : Blt mg) (TK : TabK P w K mg base C CI CU) (SC : SCls K CS) (gS : mg "Sorting" = some (.ref CS)) (insS : C8.InsC K CS) (cText : C1 P w K mg base "_law_text" sText ["bag", "most"] 2 spText g1 gd1) (cDraw : CDraw P w K mg base g2 gd2) (cTables : C1 P w K mg base "_law_tables" sTables ["plan"] 6 (spTables C) g3 gd3) (cJoined : C1 P w K mg base "_law_joined" sJoined ["tables"] 7 (spJoined C CS) g4 gd4) (cLName : C1 P w K mg base "_law_is_name" sLName ["text"] 1 (spT0 isName) g5 gd5) (cTablesAre : C1 P w K mg base "_law_tables_are" sTablesAre ["joined", "plan"] 4 (spTablesAre C CS) g6 gd6) (cLPath : C1 P w K mg base "_law_path" sLPath ["plan", "town", "address"] 2 spLPath g7 gd7)
    (SPm : Meth K CS "path" gP) (bPa : Binds K gdP ["self", "site", "address"] []) (FPa : FnOk P w K mg base CX0 5 gP gdP ["self", "site", "address"] (spSPath C CS)) : FnOk P w K mg base CX0 8 f fd ["bag", "plan", "towns"] spOneSite := by
  obtain ⟨fI, fdI, MK, bT, GT⟩ := TK.make
  refine F.ok scOneSite (fun vs H Q E h => ?_) (fun cdv A outer s H vs Q E hr h => ?_)
  · obtain ⟨p, d, l, es, ts, rfl, _⟩ := h
    rfl
  · obtain ⟨p, d, l, es, ts, rfl, hB, hP0, hT, le, ht, q⟩ := h
    have hu := hu_of hr
    have hz : sizeLine = 16777216 := rfl
    have tc : ClsV (.ref CS) (.ref CS) := .own CS
    have g := hP0.g
    have tz := hT.z
    have pl := plOf_len es
    refine ⟨_, (pss_cons (ps_set (i := 3) scOneSite.nd rfl (.inl rfl) (pe_call cText.G (hr.mono (by first | decide | omega)) (by rfl) cText.D.g cText.D.F.kp cText.D.b .nil pass0 (pa_cons (pv 0) (pa_cons pe_int pa_nil))))
      (pss_cons (ps_set (i := 4) scOneSite.nd rfl (.inl rfl) (pe_ix ix_list (pe_op op_cat (pv 2) (pe_lst (pa_cons pe_str pa_nil))) (pe_call cDraw.G (hr.mono (by first | decide | omega)) (by rfl) cDraw.D.g cDraw.D.F.kp cDraw.D.b .nil pass0 (pa_cons (pv 0) (pa_cons (pe_op op_add (pe_callB (r := rLenQ K) call_len_seq (by rfl) B.len PySem.boot_len (pa_cons (pv 2) pa_nil)) pe_int) pa_nil))) (fun _ _ => rfl)))
      (pss_cons (ps_set (i := 5) scOneSite.nd rfl (.inl rfl) (pe_call cTables.G (hr.mono (by first | decide | omega)) (by rfl) cTables.D.g cTables.D.F.kp cTables.D.b .nil pass0 (pa_cons (pv 1) pa_nil)))
      (pss_cons (ps_dput hu (pv 5) (pv 3) (pe_make MK GT (hr.mono (by first | decide | omega)) (by rfl) TK.g bT .nil passL (pa_cons (pe_lst (pa_cons (pe_tup (pa_cons pe_str (pa_cons (pv 4) pa_nil))) pa_nil)) pa_nil)) (by rfl))
      (pss_cons (ps_set (i := 6) scOneSite.nd rfl (.inl rfl) (pe_call cJoined.G (hr.mono (by first | decide | omega)) (by rfl) cJoined.D.g cJoined.D.F.kp cJoined.D.b .nil pass0 (pa_cons (pv 5) pa_nil)))
      (pss_cons (ps_if (PW.pt (pw_or (pt_not (pt_val (pe_call cLName.G (hr.mono (by first | decide | omega)) (by rfl) cLName.D.g cLName.D.F.kp cLName.D.b .nil pass0 (pa_cons (pv 3) pa_nil)))) (pw_or1 (pt_cmpR op_eq (pv 3) (pv 4) (nomark _)))))
        (pss_one (ps_ret (pe_and (pe_cmpR op_eq (pe_ix ix_tup (pv 6) pe_int (fun _ _ => rfl)) pe_str (nomark _)) (pe_one (pe_ix ix_tup (pv 6) pe_int (fun _ _ => rfl))))))
        pss_nil)
      (pss_cons (ps_if (PW.pt (pw_or (pt_cmpR op_ne (pe_ix ix_tup (pv 6) pe_int (fun _ _ => rfl)) pe_str (nomark _)) (pw_or1 (pt_not (pt_val (pe_callB call_isi (by rfl) B.isi (by decide +kernel) (pa_cons (pe_ix ix_tup (pv 6) pe_int (fun _ _ => rfl)) (pa_cons (pe_glob (by rfl) gS (v := .ref CS) rfl) pa_nil))))))))
        (pss_one (ps_ret pe_bl))
        pss_nil)
      (pss_cons (ps_set (i := 7) scOneSite.nd rfl (.inl rfl) pe_dnewK)
      (pss_cons (ps_lock (ps_for PassesOwn.never rfl (pi_keys (pv 1)) (pg_name (i := 8) scOneSite.nd rfl (.inl rfl))
        (pss_one (ps_dput hu (pv 7) (pv 8) (pe_dget hu (pv 1) (pv 8) (fun _ _ => rfl)) (by rfl)))))
      (pss_cons (ps_dput hu (pv 7) (pv 3) (pe_disp (pps_cons pe_str (pv 4) pps_nil) (by rfl) (by rfl) (fun z => by cases z) (by decide)) (by rfl))
      (pss_one (ps_ret (pe_and (pe_call cTablesAre.G (hr.mono (by first | decide | omega)) (by rfl) cTablesAre.D.g cTablesAre.D.F.kp cTablesAre.D.b .nil pass0 (pa_cons (pe_ix ix_tup (pv 6) pe_int (fun _ _ => rfl)) (pa_cons (pv 7) pa_nil))) (pe_one (pe_cmpR (op_eqD hr.units) (pe_meth (pe_ix ix_tup (pv 6) pe_int (fun _ _ => rfl)) SC.c SPm FPa (hr.mono (by first | decide | omega)) bPa .nil pass0 (pa_cons (pv 3) (pa_cons pe_str pa_nil))) (pe_call cLPath.G (hr.mono (by first | decide | omega)) (by rfl) cLPath.D.g cLPath.D.F.kp cLPath.D.b .nil pass0 (pa_cons (pv 7) (pa_cons (pv 3) (pa_cons pe_str pa_nil)))) (nomark _)))))))))))))))), ?_⟩
    refine ⟨.ref p, rfl, p, 14, rfl, hB, by decide, by decide, fun x H1 tx lx B1 b1 => ?_⟩
    have T1 := hT.but hB b1
    have P1 := hP0.but hB b1
    refine ⟨.ref l, rfl, by show 1 ≤ sizeLine; omega, fun W nW => ?_⟩
    have SW := same_upd nW (o := HO.lst [V.str (Str.ofString "")])
    have hW : (L2.upd H1 W (.lst [V.str (Str.ofString "")])) W = some (.lst [V.str (Str.ofString "")]) := upd_same
    have T2 := T1.same SW
    generalize L2.upd H1 W (.lst [V.str (Str.ofString "")]) = H2 at SW hW T2
    refine ⟨l, W, _, _, rfl, rfl, T2.l, hW, by rw [List.length_map]; show ts.length + 1 ≤ sizeLine; omega, fun U nU => ?_⟩
    have SU := same_upd nU (o := HO.lst (ts.map V.str ++ [V.str (Str.ofString "")]))
    have hU : (L2.upd H2 U (.lst (ts.map V.str ++ [V.str (Str.ofString "")]))) U = some (.lst ((ts ++ [wE]).map V.str)) := by rw [upd_same, List.map_append]; rfl
    have S3 := SW.trans SU
    have T3 := T2.same SU
    have B3 := B1.same S3
    have P3 := P1.same S3
    have b3 := b1.trans (Same.but S3)
    have Up := bag_no (B1.same SW) nU
    generalize L2.upd H2 U (.lst (ts.map V.str ++ [V.str (Str.ofString "")])) = H3 at hU T3 B3 P3 b3
    clear S3 SU T2 SW hW T1 P1 nU nW
    have lw : ((ts ++ [wE]).map V.str).length = ts.length + 1 := by rw [List.length_map, List.length_append]; rfl
    refine ⟨.ref p, rfl, .ref l, rfl, l, _, rfl, .inl (sqOf T3.l), _, 1, rfl, rfl, p, _, rfl, B3, by rw [List.length_map]; omega, by rw [List.length_map]; omega, fun i H4 i0 i1 B4 b4 => ?_⟩
    obtain ⟨wy, hwy, ewy⟩ := pick (ks := ts ++ [wE]) i0 (by rw [lw]; rw [List.length_map] at i1; omega)
    have lane : isLane wy = true := by
      rcases List.mem_append.mp hwy with h | h
      · exact name_lane (hT.g wy h)
      · rw [List.mem_singleton.mp h]
        exact wE_lane
    have P4 := P3.but B3 b4
    have b04 := b3.trans b4
    refine ⟨U, _, i, .str wy, rfl, rfl, sqOf (b4 _ _ hU Up), ewy, ?_⟩
    clear hU T3 B3 P3 b3 b4 Up
    -- the tables
    refine ⟨.ref d, rfl, d, es, rfl, P4, by omega, by omega, fun F1 xs H5 S5 nF TA eF => ?_⟩
    refine ⟨.str wy, rfl, by show 2 ≤ sizeLine; omega, fun T nT => ⟨by show 1 ≤ sizeLine; omega, fun L nL => ?_⟩⟩
    have hT6 : (L2.upd (L2.upd H5 T (.tup [.str w3, .str wy])) L (.lst [.ref T])) T = some (.tup [.str w3, .str wy]) := by
      rw [upd_ne (ne_of_none upd_same nL)]
      exact upd_same
    have hL6 : (L2.upd (L2.upd H5 T (.tup [.str w3, .str wy])) L (.lst [.ref T])) L = some (.lst [.ref T]) := upd_same
    have S6 := (same_upd nT (o := .tup [V.str w3, .str wy])).trans (same_upd nL (o := .lst [V.ref T]))
    generalize L2.upd (L2.upd H5 T (.tup [.str w3, .str wy])) L (.lst [.ref T]) = H6 at hT6 hL6 S6
    have RA : RowsAt H6 L true [(T, (w3, wy))] := ⟨hL6, fun t ht => by rw [List.mem_singleton.mp ht]; exact hT6, by show 1 ≤ 1000; decide, fun t ht => by rw [List.mem_singleton.mp ht]; exact ⟨show w3.length ≤ 1000 by decide +kernel, by have := lane_len lane; show wy.length ≤ 1000; omega⟩⟩
    intro b0 db nb ndb neb
    refine tab_made2 RA (by show 1 ≤ 900; decide) nb ndb neb (fun _ H7 S7 hb0 => ⟨rfl, ?_⟩) (fun bad => absurd (good_one lane) bad)
    have S57 := S6.trans S7
    have hF7 := S57 _ _ TA.d
    have gx : GoodPl (plOf xs) := by rw [eF]; exact g
    have lxs : xs.length = es.length := by rw [← plOf_len, eF, pl]
    refine ⟨.ref F1, rfl, .str x, rfl, F1, _, rfl, DPut.k (k := Sum.inr x) hF7 (by rw [kvE_len]; omega), ?_⟩
    rw [put_esAft xs x b0 [(w3, wy)]]
    have nF5 : H4 F1 = none := nF
    have S8 : Same H4 (L2.upd H7 F1 (.dK (kvE (esAft xs x b0 [(w3, wy)])))) := fun c o hc => by
      rw [upd_ne (ne_of_none hc nF5)]
      exact S57 _ _ (S5 _ _ hc)
    have TA8 : TabsAt C (L2.upd H7 F1 (.dK (kvE (esAft xs x b0 [(w3, wy)])))) F1 (esAft xs x b0 [(w3, wy)]) := by
      refine ⟨upd_same, fun e he => ?_⟩
      have off : ∀ own (b : Addr), TabOf C H7 b own → (∀ q : H7 F1 = some (.dK (kvP (own.mergeSort le2))), False) → TabOf C (L2.upd H7 F1 (.dK (kvE (esAft xs x b0 [(w3, wy)])))) b own := fun own b hb no => by
        obtain ⟨⟨dy, dd, u1, u2⟩, u3, u4⟩ := hb
        exact ⟨⟨dy, dd, by rw [upd_ne (ne_of u1 hF7 (fun z => by cases z))]; exact u1, by rw [upd_ne (fun z => no (by rw [← z]; exact u2))]; exact u2⟩, u3, u4⟩
      rcases mem_esAft he with m | rfl
      · exact off _ _ ((TA.t e m).same S57) fun z => by rw [hF7] at z; exact kvP_kvE m (HO.dK.inj (Option.some.inj z)).symm
      · refine off _ _ hb0 fun z => ?_
        rw [hF7] at z
        have z := HO.dK.inj (Option.some.inj z)
        cases xs with
        | nil =>
          have := congrArg List.length z
          rw [kvE_len, kvP_len, len_sort] at this
          cases this
        | cons y ys => exact kvP_kvE (e := y) List.mem_cons_self z.symm
    have epl : plOf (esAft xs x b0 [(w3, wy)]) = plSet (plOf es) x [(w3, wy)] := by rw [plOf_esSet, eF]
    have nd8 : ((plOf (esAft xs x b0 [(w3, wy)])).map Prod.fst).Nodup := by rw [epl]; exact plSet_nodup g.n
    have gi := plSet_good g (t := x) (good_one lane)
    have kl : ∀ e ∈ esAft xs x b0 [(w3, wy)], e.2.1.length ≤ 1000 := fun e he => by
      rcases mem_esAft he with m | rfl
      · have := name_len (gx.e e.2 (List.mem_map.mpr ⟨e, m, rfl⟩)).1
        omega
      · show x.length ≤ 1000
        omega
    have t8 : tot (plSet (plOf es) x [(w3, wy)]) ≤ tot (plOf es) + 1 := plSet_tot g.n
    have l8 : (plSet (plOf es) x [(w3, wy)]).length ≤ (plOf es).length + 1 := plSet_len
    generalize L2.upd H7 F1 (.dK (kvE (esAft xs x b0 [(w3, wy)]))) = H8 at S8 TA8
    clear RA hb0 S7 S6 hT6 hL6 nL nT nb ndb neb S57 hF7
    have wnot : x ∉ ([(w3, wy)] : List Pr).map Prod.snd ↔ x ≠ wy := by
      show x ∉ [wy] ↔ _
      rw [List.mem_singleton]
    refine ⟨.ref F1, rfl, F1, _, rfl, TA8, nd8, kl, by rw [epl]; omega, by rw [← plOf_len, epl]; omega, fun gA T j H9 S9 hT9 SO => ?_, fun gA T H9 S9 hT9 => ?_⟩
    · rw [epl] at gA SO
      obtain ⟨xn, xw⟩ := gi.mp gA
      rw [wnot] at xw
      refine ⟨.str x, rfl, x, rfl, by omega, ?_⟩
      rw [xn]
      refine ⟨true, rfl, .str x, rfl, .str wy, rfl, rfl, false, by show V.bl (decide (V.str x = V.str wy)) = _; rw [decide_eq_false fun z => xw (V.str.inj z)], ?_⟩
      obtain ⟨dxj, dtj, dmj, hj⟩ := SO.insX
      refine ⟨.ref T, rfl, T, _, 0, .str wMade, rfl, rfl, .of hT9, atI_nat (j := 0) rfl, rfl, false, ?_, ?_⟩
      · show V.bl (!decide (V.str wMade = V.str wMade)) = _
        rw [decide_eq_true rfl]
        rfl
      refine ⟨.ref T, rfl, T, _, 1, .ref j, rfl, rfl, .of hT9, atI_nat (j := 1) rfl, .ref j, .ref CS, .ref CS, .ref CS, true, rfl, tc, .base (.ins hj insS.cl insS.ha insS.hn insS.htk insS.hm), insS.me, true, rfl, ?_⟩
      have P9 := (P4.same S8).same S9
      intro G nG
      have Gd : G ≠ d := fun z => by rw [z, P9.d] at nG; cases nG
      have nGH := (S8.trans S9).free nG
      have SG : Same H9 (L2.upd H9 G (.dK [])) := same_upd nG
      have hG : (L2.upd H9 G (.dK [])) G = some (.dK (kvE [])) := upd_same
      generalize L2.upd H9 G (.dK []) = HA at SG hG
      refine ⟨d, .dK (kvE es), SG _ _ P9.d, trivial, fun od => ?_⟩
      refine ⟨.ref d, rfl, d, od, rfl, .inl ⟨kvE es, upd_same, ?_⟩⟩
      refine for_it (walk_keys (d := d) (o := od) (kvs := kvE es)) (fun i σ H' => (∃ y8, σ = [some (.ref p), some (.ref d), some (.ref l), some (.str x), some (.str wy), some (.ref F1), some (.ref T), some (.ref G), y8]) ∧ But d H9 H' ∧ H' d = some (.frz od (.dK (kvE es))) ∧ H' G = some (.dK (kvE (es.take i))))
        ⟨⟨none, rfl⟩, (Same.but SG).trans But.upd, upd_same, by rw [upd_ne Gd]; exact hG⟩ (fun i σ H' _ hP => hP.2.2.1) (fun i v σ HB HC hi hP hy => ?_) (fun σ HB hP => ?_)
      · obtain ⟨⟨y8, rfl⟩, bB, dB, gB⟩ := hP
        obtain ⟨rfl, k, v, ek, rfl⟩ := hy
        rw [kvE_at] at ek
        cases ee : es[i]? with
        | none => rw [ee] at ek; cases ek
        | some e =>
        rw [ee] at ek
        cases (Option.some.inj ek)
        have m := List.mem_of_getElem? ee
        have dg : DGet HC d (.str e.2.1) (some (.ref e.1)) := by
          rw [← kvE_val g.n m]
          exact .inl ⟨_, Sum.inr e.2.1, .inr ⟨od, dB⟩, rfl, rfl⟩
        refine ⟨.ref d, rfl, .str e.2.1, rfl, d, .ref e.1, rfl, dg, .ref G, rfl, .str e.2.1, rfl, G, _, rfl, DPut.k (k := Sum.inr e.2.1) gB (by rw [kvE_len, List.length_take]; omega), ⟨_, rfl⟩, fun c u hc nc => ?_, ?_, ?_⟩
        · rw [upd_ne (ne_of_none hc nG)]
          exact bB _ _ hc nc
        · rw [upd_ne (Ne.symm Gd)]
          exact dB
        · rw [upd_same, kvE_snoc g.n ee]
      obtain ⟨⟨y8, rfl⟩, bB, dB, gB⟩ := hP
      refine ⟨dB, ?_⟩
      rw [kvE_len, List.take_length] at gB
      have SC' := unlock_same P9.d bB
      have gC : (L2.upd HB d (.dK (kvE es))) G = some (.dK (kvE es)) := by rw [upd_ne Gd]; exact gB
      generalize L2.upd HB d (.dK (kvE es)) = HC at SC' gC
      clear bB dB gB SG hG
      intro O nO
      have OG : O ≠ G := fun z => by rw [z, gC] at nO; cases nO
      refine ⟨.str wy, rfl, upd_same, [(Sum.inr w3, .str wy)], rfl, by show 1 ≤ 15; decide, .ref G, rfl, .str x, rfl, G, _, rfl, DPut.k (k := Sum.inr x) (by rw [upd_ne (Ne.symm OG), upd_ne (Ne.symm OG)]; exact gC) (by rw [kvE_len]; omega), ?_⟩
      rw [put_esAft es x O [(w3, wy)]]
      have nOH9 := SC'.free nO
      have SD : Same H9 (L2.upd (L2.upd (L2.upd HC O (.dK [])) O (.dK (mergeK [] [(Sum.inr w3, .str wy)]))) G (.dK (kvE (esAft es x O [(w3, wy)])))) := fun c o hc => by
        rw [upd_ne (ne_of_none hc nG), upd_ne (ne_of_none hc nOH9), upd_ne (ne_of_none hc nOH9)]
        exact SC' _ _ hc
      have PA : PlanAt (L2.upd (L2.upd (L2.upd HC O (.dK [])) O (.dK (mergeK [] [(Sum.inr w3, .str wy)]))) G (.dK (kvE (esAft es x O [(w3, wy)])))) G (esAft es x O [(w3, wy)]) := by
        refine ⟨upd_same, fun e he => ?_, by rw [plOf_esSet]; exact gA⟩
        rcases mem_esAft he with m | rfl
        · exact SD _ _ (P9.t e m)
        · rw [upd_ne OG, upd_same]
          rfl
      have gC9 := gC
      generalize L2.upd (L2.upd (L2.upd HC O (.dK [])) O (.dK (mergeK [] [(Sum.inr w3, .str wy)]))) G (.dK (kvE (esAft es x O [(w3, wy)]))) = HD at SD PA
      have epl2 : plOf (esAft es x O [(w3, wy)]) = plSet (plOf es) x [(w3, wy)] := plOf_esSet _ _ _ _
      rw [← epl2] at SO
      have l2 : (esAft es x O [(w3, wy)]).length ≤ es.length + 1 := by rw [← plOf_len, epl2]; omega
      have hTD := SD _ _ hT9
      refine ⟨.ref T, rfl, T, _, 1, .ref j, rfl, rfl, .of hTD, atI_nat (j := 1) rfl, .ref G, rfl, j, G, _, rfl, SO.same SD, PA, by rw [epl2]; omega, by omega, fun HE SE => ⟨true, rfl, ?_⟩⟩
      have SDE := SD.trans SE
      have hjE := SDE _ _ hj
      refine ⟨.ref T, rfl, T, _, 1, .ref j, rfl, rfl, .of (SE _ _ hTD), atI_nat (j := 1) rfl, j, dxj, _, rfl, hjE, rfl, .str x, rfl, j, x, w35, _, rfl, SO.same SDE, by decide +kernel, by rw [epl2]; omega, fun T2 HF SF P2 _ => ?_⟩
      refine ⟨.ref G, rfl, .str x, rfl, G, x, w35, _, rfl, (PA.same SE).same SF, by omega, by decide +kernel, fun T3 HG SG P3 => ?_⟩
      refine ⟨_, _, dp_P (P2.same SG), dp_P P3, shaped_pth PA.g xn, shaped_pth PA.g xn, ?_⟩
      rw [eqv_self (shaped_pth PA.g xn)]
      have SS := ((S8.trans S9).trans SDE).trans (SF.trans SG)
      exact q HG (B4.same SS) (b04.trans (Same.but SS))
    · rw [epl] at gA
      refine ⟨.str x, rfl, x, rfl, by omega, ?_⟩
      have fin : ∀ Q' : V → Hp → Prop, True := fun _ => trivial
      cases xn : isName x with
      | false =>
        refine ⟨false, rfl, ?_⟩
        refine ⟨.ref T, rfl, T, _, 0, .str wRef, rfl, rfl, .of hT9, atI_nat (j := 0) rfl, rfl, true, ?_, ?_⟩
        · show V.bl (decide (V.str wRef = V.str wRef)) = _
          rw [decide_eq_true rfl]
        exact ⟨.ref T, rfl, T, _, 1, .bl true, rfl, rfl, .of hT9, atI_nat (j := 1) rfl, q H9 ((B4.same S8).same S9) (b04.trans (Same.but (S8.trans S9)))⟩
      | true =>
        have xw : x = wy := Decidable.byContradiction fun z => gA (gi.mpr ⟨xn, wnot.mpr z⟩)
        refine ⟨true, rfl, .str x, rfl, .str wy, rfl, rfl, true, by show V.bl (decide (V.str x = V.str wy)) = _; rw [decide_eq_true (by rw [xw])], ?_⟩
        refine ⟨.ref T, rfl, T, _, 0, .str wRef, rfl, rfl, .of hT9, atI_nat (j := 0) rfl, rfl, true, ?_, ?_⟩
        · show V.bl (decide (V.str wRef = V.str wRef)) = _
          rw [decide_eq_true rfl]
        exact ⟨.ref T, rfl, T, _, 1, .bl true, rfl, rfl, .of hT9, atI_nat (j := 1) rfl, q H9 ((B4.same S8).same S9) (b04.trans (Same.but (S8.trans S9)))⟩
end
end Tb
namespace Tb
open PySem PySem.Spec PyProof.Rows L2
open PySem.W (AllAlike Sortable dataLe TotalLe)
abbrev sOwnLane : Stmt := topS 47
abbrev NOwnLane : List Str := ["bag", "plan", "towns", "town", "prefix", "tables", "told"]
theorem scOwnLane : FnScope NOwnLane ["bag", "plan", "towns"] (defScope sOwnLane) := ⟨rfl, rfl, rfl, by decide +kernel, rfl, by decide +kernel, by decide +kernel⟩
theorem TabsAt.put {C : Addr} {H : Hp} {F b : Addr} {xs : List En} {x : Str} {own : List Pr} (T : TabsAt C H F xs) (hb : TabOf C H b own) (ne : own ≠ []) : TabsAt C (L2.upd H F (.dK (kvE (esAft xs x b own)))) F (esAft xs x b own) := by
  have hF := T.d
  refine ⟨upd_same, fun e he => ?_⟩
  have off : ∀ own' (b' : Addr), TabOf C H b' own' → (∀ q : H F = some (.dK (kvP (own'.mergeSort le2))), False) → TabOf C (L2.upd H F (.dK (kvE (esAft xs x b own)))) b' own' := fun own' b' hb no => by
    obtain ⟨⟨dy, dd, u1, u2⟩, u3, u4⟩ := hb
    exact ⟨⟨dy, dd, by rw [upd_ne (ne_of u1 hF (fun z => by cases z))]; exact u1, by rw [upd_ne (fun z => no (by rw [← z]; exact u2))]; exact u2⟩, u3, u4⟩
  rcases mem_esAft he with m | rfl
  · exact off _ _ (T.t e m) fun z => by rw [hF] at z; exact kvP_kvE m (HO.dK.inj (Option.some.inj z)).symm
  · refine off _ _ hb fun z => ?_
    rw [hF] at z
    have z := HO.dK.inj (Option.some.inj z)
    cases xs with
    | nil =>
      have := congrArg List.length z
      rw [kvE_len, kvP_len, len_sort] at this
      exact ne (List.eq_nil_of_length_eq_zero this.symm)
    | cons y ys => exact kvP_kvE (e := y) List.mem_cons_self z.symm
theorem plSet_set {pl : Pl} {t : Str} {o1 o2 : List Pr} : plSet (plSet pl t o1) t o2 = plSet pl t o2 := by
  have k : t ∈ (plSet pl t o1).map Prod.fst := List.mem_map.mpr ⟨_, plSet_in pl t o1, rfl⟩
  show (if t ∈ (plSet pl t o1).map Prod.fst then (plSet pl t o1).map (fun e => if e.1 = t then (t, o2) else e) else plSet pl t o1 ++ [(t, o2)]) = _
  rw [if_pos k]
  unfold plSet
  by_cases c : t ∈ pl.map Prod.fst
  · rw [if_pos c, if_pos c, List.map_map]
    refine List.map_congr_left fun e _ => ?_
    show (if (if e.1 = t then (t, o1) else e).1 = t then (t, o2) else (if e.1 = t then (t, o1) else e)) = if e.1 = t then (t, o2) else e
    by_cases h : e.1 = t
    · rw [if_pos h, if_pos rfl, if_pos h]
    · rw [if_neg h, if_neg h]
  · rw [if_neg c, if_neg c, List.map_append]
    have e2 : pl.map (fun e => if e.1 = t then (t, o2) else e) = pl := by
      conv => rhs; rw [← List.map_id pl]
      refine List.map_congr_left fun x hx => ?_
      rw [if_neg fun z => c (by rw [← z]; exact List.mem_map.mpr ⟨x, hx, rfl⟩)]
      rfl
    rw [e2]
    show pl ++ [if t = t then (t, o2) else (t, o1)] = _
    rw [if_pos rfl]
theorem plAft_set {pl : Pl} (n : (pl.map Prod.fst).Nodup) (t p : Str) (o : Option Str) : plAft pl t p o = plSet pl t (aft (rowsOf pl t) p o) := by
  have e0 : plOf (pl.map fun x => ((0, x) : En)) = pl := by
    unfold plOf
    rw [List.map_map]
    exact List.map_id pl
  have h := plOf_esAft (es := pl.map fun x => ((0, x) : En)) (by rw [e0]; exact n) t 0 p o
  rw [plOf_esSet, e0] at h
  exact h.symm
theorem put_ne (own : List Pr) (p l : Str) : putP own p l ≠ [] := fun z => by
  have := put_mem own p l
  rw [z] at this
  cases this
def spOwnLane : Sp := fun vs H Q _ => ∃ (p d l : Addr) (es : List En) (ts : List Str) (last : Str), vs = [.ref p, .ref d, .ref l] ∧ Bag H p ∧ PlanAt H d es ∧ Tw H l (ts ++ [last]) ∧ last ∉ (plOf es).map Prod.fst ∧ es.length ≤ 60 ∧ tot (plOf es) ≤ 120 ∧ ∀ H', Bag H' p → But p H H' → Q (.bl true) H'
section
variable {P : Program} {w : World} {K : PySem.W.Frag} {mg : Str → Option Value} {base : Heap}
theorem ok_ownlane {f g2 g3 g4 g6 g7 g8 g9 C CS CI CU : Addr} {fd gd2 gd3 gd4 gd6 gd7 gd8 gd9 : FuncData} (F : Fun K "_law_own_lane" "_law_own_lane" sOwnLane f fd) (B : Blt mg) (TK : TabK P w K mg base C CI CU) (cDraw : CDraw P w K mg base g2 gd2) (cTables : C1 P w K mg base "_law_tables" sTables ["plan"] 6 (spTables C) g3 gd3) (cJoined : C1 P w K mg base "_law_joined" sJoined ["tables"] 7 (spJoined C CS) g4 gd4) (cTablesAre : C1 P w K mg base "_law_tables_are" sTablesAre ["joined", "plan"] 4 (spTablesAre C CS) g6 gd6) (cPrefix : CPrefix P w K mg base g7 gd7) (cAfter : CAfter P w K mg base g8 gd8) (cPlanAft : C1 P w K mg base "_law_plan_after" sPlanAft ["plan", "town", "prefix", "way"] 2 spPlanAft g9 gd9) : FnOk P w K mg base CX0 8 f fd ["bag", "plan", "towns"] spOwnLane := by
  obtain ⟨fI, fdI, MK, bT, GT⟩ := TK.make
  refine F.ok scOwnLane (fun vs H Q E h => ?_) (fun cdv A outer s H vs Q E hr h => ?_)
  · obtain ⟨p, d, l, es, ts, last, rfl, _⟩ := h
    rfl
  · obtain ⟨p, d, l, es, ts, last, rfl, hB, hP0, hT, nlast, le, ht, q⟩ := h
    have hu := hu_of hr
    have hz : sizeLine = 16777216 := rfl
    have g := hP0.g
    have tz := hT.z
    have pl := plOf_len es
    have ln : isName last = true := hT.g last (List.mem_append_right _ List.mem_cons_self)
    refine ⟨_, (pss_cons (ps_if (pt_cmpR (op_eq_dict0 hr.units0) (pv 1) pe_dnewK (nomark _))
        (pss_one (ps_ret pe_bl))
        pss_nil)
      (pss_cons (ps_set (i := 3) scOwnLane.nd rfl (.inl rfl) (pe_ix ix_list (pe_callTy (call_listD rfl) (by rfl) B.list PyProof.Rows.boot_list (pa_cons (pv 1) pa_nil)) (pe_call cDraw.G (hr.mono (by first | decide | omega)) (by rfl) cDraw.D.g cDraw.D.F.kp cDraw.D.b .nil pass0 (pa_cons (pv 0) (pa_cons (pe_callB call_lenD (by rfl) B.len PySem.boot_len (pa_cons (pv 1) pa_nil)) pa_nil))) (fun _ _ => rfl)))
      (pss_cons (ps_set (i := 4) scOwnLane.nd rfl (.inl rfl) (pe_call cPrefix.G (hr.mono (by first | decide | omega)) (by rfl) cPrefix.D.g cPrefix.D.F.kp cPrefix.D.b .nil pass0 (pa_cons (pv 0) (pa_cons (pe_callTy (call_listD rfl) (by rfl) B.list PyProof.Rows.boot_list (pa_cons (pe_dget hu (pv 1) (pv 3) (fun _ _ => rfl)) pa_nil)) pa_nil))))
      (pss_cons (ps_set (i := 5) scOwnLane.nd rfl (.inl rfl) (pe_call cTables.G (hr.mono (by first | decide | omega)) (by rfl) cTables.D.g cTables.D.F.kp cTables.D.b .nil pass0 (pa_cons (pv 1) pa_nil)))
      (pss_cons (ps_dput hu (pv 5) (pv 3) (pe_make MK GT (hr.mono (by first | decide | omega)) (by rfl) TK.g bT .nil passL (pa_cons (LiI.pe_listItems rfl (pe_call cAfter.G (hr.mono (by first | decide | omega)) (by rfl) cAfter.D.g cAfter.D.F.kp cAfter.D.b .nil pass0 (pa_cons (pe_dget hu (pv 1) (pv 3) (fun _ _ => rfl)) (pa_cons (pv 4) (pa_cons (pv 3) pa_nil)))) (by rfl) B.list PyProof.Rows.boot_list) pa_nil)) (by rfl))
      (pss_cons (ps_set (i := 6) scOwnLane.nd rfl (.inl rfl) (pe_call cJoined.G (hr.mono (by first | decide | omega)) (by rfl) cJoined.D.g cJoined.D.F.kp cJoined.D.b .nil pass0 (pa_cons (pv 5) pa_nil)))
      (pss_cons (ps_if (PW.pt (pw_or (pt_cmpR op_ne (pe_ix ix_tup (pv 6) pe_int (fun _ _ => rfl)) pe_str (nomark _)) (pw_or1 (pt_not (pt_val (pe_ix ix_tup (pv 6) pe_int (fun _ _ => rfl)))))))
        (pss_one (ps_ret pe_bl))
        pss_nil)
      (pss_cons (ps_dput hu (pv 5) (pv 3) (pe_make MK GT (hr.mono (by first | decide | omega)) (by rfl) TK.g bT .nil passL (pa_cons (LiI.pe_listItems rfl (pe_call cAfter.G (hr.mono (by first | decide | omega)) (by rfl) cAfter.D.g cAfter.D.F.kp cAfter.D.b .nil pass0 (pa_cons (pe_dget hu (pv 1) (pv 3) (fun _ _ => rfl)) (pa_cons (pv 4) (pa_cons (pe_ix ix_list (pv 2) (pe_un un_neg pe_int) (fun _ _ => rfl)) pa_nil)))) (by rfl) B.list PyProof.Rows.boot_list) pa_nil)) (by rfl))
      (pss_cons (ps_set (i := 6) scOwnLane.nd rfl (.inl rfl) (pe_call cJoined.G (hr.mono (by first | decide | omega)) (by rfl) cJoined.D.g cJoined.D.F.kp cJoined.D.b .nil pass0 (pa_cons (pv 5) pa_nil)))
      (pss_one (ps_ret (pe_and (pe_cmpR op_eq (pe_ix ix_tup (pv 6) pe_int (fun _ _ => rfl)) pe_str (nomark _)) (pe_one (pe_call cTablesAre.G (hr.mono (by first | decide | omega)) (by rfl) cTablesAre.D.g cTablesAre.D.F.kp cTablesAre.D.b .nil pass0 (pa_cons (pe_ix ix_tup (pv 6) pe_int (fun _ _ => rfl)) (pa_cons (pe_call cPlanAft.G (hr.mono (by first | decide | omega)) (by rfl) cPlanAft.D.g cPlanAft.D.F.kp cPlanAft.D.b .nil pass0 (pa_cons (pv 1) (pa_cons (pv 3) (pa_cons (pv 4) (pa_cons (pe_ix ix_list (pv 2) (pe_un un_neg pe_int) (fun _ _ => rfl)) pa_nil))))) pa_nil)))))))))))))))), ?_⟩
    refine ⟨.ref d, rfl, fun e ne => ⟨d, e, kvE es, rfl, rfl, same_upd ne _ _ hP0.d, upd_same, _, rfl, ?_⟩⟩
    have Se := same_upd ne (o := HO.dK [])
    by_cases en : es = []
    · rw [en]
      exact q _ (hB.same Se) (Same.but Se)
    have ee0 : (kvE es).isEmpty = false := by
      cases es with
      | nil => exact absurd rfl en
      | cons x xs => rfl
    rw [ee0]
    have P1 := hP0.same Se
    have B1 := hB.same Se
    have T1 := hT.same Se
    have kpos : 0 < es.length := List.length_pos_iff.mpr en
    generalize L2.upd H e (.dK []) = H1 at Se P1 B1 T1
    refine ⟨.ref d, rfl, d, _, rfl, .of P1.d, fun L nL => ?_⟩
    have Lp := bag_no B1 nL
    have hL : (L2.upd H1 L (.lst ((kvE es).map fun kv => kV kv.1))) L = some (.lst (((plOf es).map Prod.fst).map V.str)) := by rw [upd_same, kvE_keys]
    have SL := same_upd nL (o := HO.lst ((kvE es).map fun kv => kV kv.1))
    generalize L2.upd H1 L (.lst ((kvE es).map fun kv => kV kv.1)) = H2 at hL SL
    have P2 := P1.same SL
    have B2 := B1.same SL
    refine ⟨.ref p, rfl, .ref d, rfl, d, _, rfl, P2.d, p, _, rfl, B2, by rw [kvE_len]; omega, by rw [kvE_len]; omega, fun i H3 i0 i1 B3 b3 => ?_⟩
    obtain ⟨u, hu2, eu⟩ := pick (ks := (plOf es).map Prod.fst) i0 (by rw [List.length_map, List.length_map, plOf_len]; rw [kvE_len] at i1; exact i1)
    obtain ⟨y, hy, rfl⟩ := List.mem_map.mp hu2
    obtain ⟨e1, he1, rfl⟩ := List.mem_map.mp hy
    refine ⟨L, _, i, .str e1.2.1, rfl, rfl, sqOf (b3 _ _ hL Lp), eu, ?_⟩
    have P3 := P2.but B2 b3
    have b03 := (Same.but (Se.trans SL)).trans b3
    clear hL SL P2 P1 T1 Se ne nL
    -- the prefix
    have ge := g.e e1.2 hy
    have low := rows_tot (plOf es) e1.2.1
    rw [rows_of_mem g.n he1] at low
    have dgd : ∀ H', PlanAt H' d es → DGet H' d (.str e1.2.1) (some (.ref e1.1)) := fun H' PP => by
      rw [← kvE_val g.n he1]
      exact DGet.k (k := Sum.inr e1.2.1) PP.d
    refine ⟨.ref p, rfl, .ref d, rfl, .str e1.2.1, rfl, d, .ref e1.1, rfl, dgd _ P3, e1.1, _, rfl, .of (P3.t e1 he1), fun M nM => ?_⟩
    have hM : (L2.upd H3 M (.lst ((kvP e1.2.2).map fun kv => kV kv.1))) M = some (.lst ((e1.2.2.map Prod.fst).map V.str)) := by
      rw [upd_same]
      unfold kvP
      rw [List.map_map, List.map_map]
      rfl
    have SM := same_upd nM (o := HO.lst ((kvP e1.2.2).map fun kv => kV kv.1))
    generalize L2.upd H3 M (.lst ((kvP e1.2.2).map fun kv => kV kv.1)) = H4 at hM SM
    have kad : ∀ x ∈ e1.2.2.map Prod.fst, isAddr x = true := fun x hx => by
      obtain ⟨r, hr2, rfl⟩ := List.mem_map.mp hx
      exact (ge.2.1.1 r hr2).1
    refine ⟨p, M, _, rfl, B3.same SM, ⟨hM, by rw [List.length_map]; omega, fun x hx => ad_tx ((isAddr_iff x).mp (kad x hx))⟩, fun x hx => (isAddr_iff x).mp (kad x hx), fun z H5 hz5 B5 b5 => ?_⟩
    have za := (isAddr_iff z).mpr hz5
    have zl := addr_len za
    have P5 := (P3.same SM).but (B3.same SM) b5
    have b05 := (b03.trans (Same.but SM)).trans b5
    have T5 := hT.but hB b05
    clear hM SM P3 b03 b3 b5 nM B3 B2 B1
    refine ⟨.ref d, rfl, d, es, rfl, P5, by omega, by omega, fun F1 xs H6 S6 nF TA eF => ?_⟩
    have gx : GoodPl (plOf xs) := by rw [eF]; exact g
    have lxs : xs.length = es.length := by rw [← plOf_len, eF, pl]
    have nl := name_len ge.1
    have ll := name_len ln
    have P6 := P5.same S6
    refine ⟨.ref d, rfl, .str e1.2.1, rfl, d, .ref e1.1, rfl, dgd _ P6, .str z, rfl, .str e1.2.1, rfl, e1.1, e1.2.2, z, some e1.2.1, rfl, P6.t e1 he1, ge.2.1.2, by omega, fun D7 H7 S7 nD7 hD7 => ?_⟩
    refine ⟨D7, _, rfl, hD7, fun HI7 pr7 as7 SI7 npr7 _ _ hpr7 hpd7 => ?_⟩
    obtain ⟨rt7, q17, q27, q37⟩ := items_rows hpd7
    have rl7 : rt7.length ≤ 900 := by
      have e4 := congrArg List.length q27
      rw [List.length_map] at e4
      have e5 := @aft_len e1.2.2 z (some e1.2.1)
      omega
    have RA7 : RowsAt HI7 pr7 true rt7 := ⟨by rw [hpr7, ← q17, List.map_map]; rfl, q37, by omega, fun t ht => rows_z (p := z) (o := some e1.2.1) ge.2.1 (by omega) (fun l e => by cases e; omega) (by rw [← q27]; exact List.mem_map.mpr ⟨t, ht, rfl⟩)⟩
    have gd7 : Good (rt7.map (·.2)) := by rw [q27]; exact (aft_good ge.2.1 za).mpr fun l e => by cases e; exact name_lane ge.1
    intro b7 db7 nb7 ndb7 neb7
    refine tab_made2 RA7 rl7 nb7 ndb7 neb7 (fun _ HJ7 SJ7 hb7 => ⟨rfl, ?_⟩) (fun bad => absurd gd7 bad)
    rw [q27] at hb7
    have SK7 := (show Same H7 HI7 from SI7).trans SJ7
    clear RA7 gd7 nb7 ndb7 neb7 q17 q27 q37 hpd7 hpr7 npr7 SI7 SJ7 rl7
    have S67 := S7.trans SK7
    have TA7 := TA.same S67
    have hF7 := TA7.d
    refine ⟨.ref F1, rfl, .str e1.2.1, rfl, F1, _, rfl, DPut.k (k := Sum.inr e1.2.1) hF7 (by rw [kvE_len]; omega), ?_⟩
    rw [put_esAft xs e1.2.1 b7 (aft e1.2.2 z (some e1.2.1))]
    have TA8 := TA7.put (x := e1.2.1) hb7 (put_ne _ _ _)
    have S8 : Same H5 (L2.upd HJ7 F1 (.dK (kvE (esAft xs e1.2.1 b7 (aft e1.2.2 z (some e1.2.1)))))) := fun c o hc => by
      rw [upd_ne (ne_of_none hc nF)]
      exact S67 _ _ (S6 _ _ hc)
    have epl : plOf (esAft xs e1.2.1 b7 (aft e1.2.2 z (some e1.2.1))) = plSet (plOf es) e1.2.1 (aft e1.2.2 z (some e1.2.1)) := by rw [plOf_esSet, eF]
    have kl : ∀ e ∈ esAft xs e1.2.1 b7 (aft e1.2.2 z (some e1.2.1)), e.2.1.length ≤ 1000 := fun e he => by
      rcases mem_esAft he with m | rfl
      · have := name_len (gx.e e.2 (List.mem_map.mpr ⟨e, m, rfl⟩)).1
        omega
      · show e1.2.1.length ≤ 1000
        omega
    have t8 := plSet_tot g.n (t := e1.2.1) (own := aft e1.2.2 z (some e1.2.1))
    have l8 := plSet_len (pl := plOf es) (t := e1.2.1) (own := aft e1.2.2 z (some e1.2.1))
    have a8 := @aft_len e1.2.2 z (some e1.2.1)
    generalize L2.upd HJ7 F1 (.dK (kvE (esAft xs e1.2.1 b7 (aft e1.2.2 z (some e1.2.1))))) = H8 at TA8 S8
    generalize esAft xs e1.2.1 b7 (aft e1.2.2 z (some e1.2.1)) = xs8 at TA8 epl kl
    clear hb7 SK7 S67 TA7 hF7 S7 nD7 hD7 P6
    refine ⟨.ref F1, rfl, F1, xs8, rfl, TA8, by rw [epl]; exact plSet_nodup g.n, kl, by rw [epl]; omega, by rw [← plOf_len, epl]; omega, fun gA => ?_, fun _ T9 H9 S9 hT9 => ?_⟩
    · rw [epl] at gA
      obtain ⟨_, _, h3⟩ := gA.e _ (plSet_in _ _ _)
      exact absurd (List.mem_map.mpr ⟨(z, e1.2.1), put_mem _ _ _, rfl⟩) h3
    refine ⟨.ref T9, rfl, T9, _, 0, .str wRef, rfl, rfl, .of hT9, atI_nat (j := 0) rfl, rfl, false, ?_, ?_⟩
    · show V.bl (!decide (V.str wRef = V.str wRef)) = _
      rw [decide_eq_true rfl]
      rfl
    refine ⟨.ref T9, rfl, T9, _, 1, .bl true, rfl, rfl, .of hT9, atI_nat (j := 1) rfl, true, rfl, ?_⟩
    have S59 := S8.trans S9
    have P9 := P5.same S59
    have T9' := T5.same S59
    have lastAt : ∀ H', Tw H' l (ts ++ [last]) → SqL K H' l ((ts ++ [last]).map V.str) := fun H' TT => sqOf TT.l
    have atl : atI ((ts ++ [last]).map V.str) (-1) = some (.str last) := by rw [List.map_append]; exact atI_last _ _
    have nel : last ≠ e1.2.1 := fun z => nlast (by rw [z]; exact hu2)
    refine ⟨.ref d, rfl, .str e1.2.1, rfl, d, .ref e1.1, rfl, dgd _ P9, .str z, rfl, .ref l, rfl, 1, rfl, l, _, _, .str last, rfl, rfl, sqOf T9'.l, atl, e1.1, e1.2.2, z, some last, rfl, P9.t e1 he1, ge.2.1.2, by omega, fun DA HA SA nDA hDA => ?_⟩
    refine ⟨DA, _, rfl, hDA, fun HIA prA asA SIA nprA _ _ hprA hpdA => ?_⟩
    obtain ⟨rtA, q1A, q2A, q3A⟩ := items_rows hpdA
    have rlA : rtA.length ≤ 900 := by
      have e4 := congrArg List.length q2A
      rw [List.length_map] at e4
      have e5 := @aft_len e1.2.2 z (some last)
      omega
    have RAA : RowsAt HIA prA true rtA := ⟨by rw [hprA, ← q1A, List.map_map]; rfl, q3A, by omega, fun t ht => rows_z (p := z) (o := some last) ge.2.1 (by omega) (fun l e => by cases e; omega) (by rw [← q2A]; exact List.mem_map.mpr ⟨t, ht, rfl⟩)⟩
    have gdA : Good (rtA.map (·.2)) := by rw [q2A]; exact (aft_good ge.2.1 za).mpr fun l e => by cases e; exact name_lane ln
    intro bA dbA nbA ndbA nebA
    refine tab_made2 RAA rlA nbA ndbA nebA (fun _ HJA SJA hbA => ⟨rfl, ?_⟩) (fun bad => absurd gdA bad)
    rw [q2A] at hbA
    have SKA := (show Same HA HIA from SIA).trans SJA
    clear RAA gdA nbA ndbA nebA q1A q2A q3A hpdA hprA nprA SIA SJA rlA
    have S9A := SA.trans SKA
    have TAA := (TA8.same S9).same S9A
    have lx8 : xs8.length ≤ es.length + 1 := by rw [← plOf_len, epl]; omega
    refine ⟨.ref F1, rfl, .str e1.2.1, rfl, F1, _, rfl, DPut.k (k := Sum.inr e1.2.1) TAA.d (by rw [kvE_len]; omega), ?_⟩
    rw [put_esAft xs8 e1.2.1 bA (aft e1.2.2 z (some last))]
    have TAB := TAA.put (x := e1.2.1) hbA (put_ne _ _ _)
    have SB : Same H5 (L2.upd HJA F1 (.dK (kvE (esAft xs8 e1.2.1 bA (aft e1.2.2 z (some last)))))) := fun c o hc => by
      rw [upd_ne (ne_of_none hc (show H5 F1 = none from nF))]
      exact S9A _ _ (S59 _ _ hc)
    have eplB : plOf (esAft xs8 e1.2.1 bA (aft e1.2.2 z (some last))) = plAft (plOf es) e1.2.1 z (some last) := by rw [plOf_esSet, epl, plSet_set, plAft_set g.n, rows_of_mem g.n he1]
    have klB : ∀ e ∈ esAft xs8 e1.2.1 bA (aft e1.2.2 z (some last)), e.2.1.length ≤ 1000 := fun e he => by
      rcases mem_esAft he with m | rfl
      · exact kl e m
      · show e1.2.1.length ≤ 1000
        omega
    have gB : GoodPl (plAft (plOf es) e1.2.1 z (some last)) := good_aft g ge.1 za fun l e => by cases e; exact ⟨name_lane ln, nel⟩
    have tB := tot_aft (t := e1.2.1) (p := z) (o := some last) g.n
    have lB := plAft_len (pl := plOf es) (t := e1.2.1) (p := z) (o := some last)
    generalize L2.upd HJA F1 (.dK (kvE (esAft xs8 e1.2.1 bA (aft e1.2.2 z (some last))))) = HB at TAB SB
    generalize esAft xs8 e1.2.1 bA (aft e1.2.2 z (some last)) = xsB at TAB eplB klB
    clear hbA SKA S9A TAA SA nDA hDA P9 T9' S59 TA8 hT9 S9 S8
    refine ⟨.ref F1, rfl, F1, xsB, rfl, TAB, by rw [eplB]; exact gB.n, klB, by rw [eplB]; omega, by rw [← plOf_len, eplB]; omega, fun _ T j HC SC' hTC SO => ?_, fun bad => absurd gB (by rw [← eplB]; exact bad)⟩
    rw [eplB] at SO
    have S5C := SB.trans SC'
    refine ⟨.ref T, rfl, T, _, 0, .str wMade, rfl, rfl, .of hTC, atI_nat (j := 0) rfl, rfl, true, ?_, ?_⟩
    · show V.bl (decide (V.str wMade = V.str wMade)) = _
      rw [decide_eq_true rfl]
    refine ⟨.ref T, rfl, T, _, 1, .ref j, rfl, rfl, .of hTC, atI_nat (j := 1) rfl, .ref d, rfl, .str e1.2.1, rfl, .str z, rfl, .ref l, rfl, 1, rfl, l, _, _, .str last, rfl, rfl, sqOf (T5.same S5C).l, atl, d, e1.2.1, z, some last, es, rfl, P5.same S5C, ge.1, za, fun l e => by cases e; exact ⟨name_lane ln, nel⟩, by omega, by omega, fun F2 es2 HD SD PD eD => ?_⟩
    refine ⟨j, F2, es2, rfl, by rw [eD]; exact SO.same SD, PD, by rw [eD]; omega, by rw [← plOf_len, eD]; omega, fun HE SE => ?_⟩
    have S5E := (S5C.trans SD).trans SE
    exact q HE (B5.same S5E) (b05.trans (Same.but S5E))
end
end Tb
namespace Tb
open PySem PySem.Spec PyProof.Rows L2
open PySem.W (AllAlike Sortable dataLe TotalLe)
abbrev sLChanged : Stmt := topS 48
abbrev NLChanged : List Str := ["joined", "town", "prefix", "way", "e", "f"]
theorem scLChanged : FnScope NLChanged ["joined", "town", "prefix", "way"] (defScope sLChanged) := ⟨rfl, rfl, rfl, by decide +kernel, rfl, by decide +kernel, by decide +kernel⟩
abbrev sDueCh : Stmt := topS 49
abbrev NDueCh : List Str := ["plan", "town", "prefix", "way"]
theorem scDueCh : FnScope NDueCh ["plan", "town", "prefix", "way"] (defScope sDueCh) := ⟨rfl, rfl, rfl, by decide +kernel, rfl, by decide +kernel, by decide +kernel⟩
abbrev wInvalid : Str := ("invalid" : String)
abbrev wUnknown : Str := ("unknown" : String)
def due1 (p : Str) (o : Option Str) : Bool := !isAddr p || (match o with | some l => !isLane l | none => false)
def due2 (pl : Pl) (t p : Str) (o : Option Str) : Bool := o.isNone && decide (p ∉ (rowsOf pl t).map Prod.fst)
def due3 (t : Str) (o : Option Str) : Bool := !isName t || decide (o = some t)
def dueO (pl : Pl) (t p : Str) (o : Option Str) : Option (Str × Str) := if due1 p o = true then some (wInvalid, wTable) else if due2 pl t p o = true then some (wUnknown, p) else if due3 t o = true then some (wInvalid, wSorting) else none
theorem due1_iff {p : Str} {o : Option Str} : due1 p o = true ↔ (isAddr p = false ∨ ∃ l, o = some l ∧ isLane l = false) := by
  unfold due1
  rw [Bool.or_eq_true, Bool.not_eq_true']
  refine or_congr Iff.rfl ?_
  cases o with
  | none => exact ⟨(fun z => by cases z), (fun ⟨_, z, _⟩ => by cases z)⟩
  | some l =>
    rw [Bool.not_eq_true']
    exact ⟨fun h => ⟨l, rfl, h⟩, fun ⟨_, z, h⟩ => by cases z; exact h⟩
theorem due2_iff {pl : Pl} {t p : Str} {o : Option Str} : due2 pl t p o = true ↔ (o = none ∧ p ∉ (rowsOf pl t).map Prod.fst) := by
  unfold due2
  rw [Bool.and_eq_true, decide_eq_true_eq, Option.isNone_iff_eq_none]
theorem due3_iff {t : Str} {o : Option Str} : due3 t o = true ↔ ¬ (isName t = true ∧ o ≠ some t) := by
  unfold due3
  rw [Bool.or_eq_true, Bool.not_eq_true', decide_eq_true_eq]
  constructor
  · rintro (h | h) ⟨h1, h2⟩
    · rw [h] at h1; cases h1
    · exact h2 h
  · intro h
    cases e : isName t with
    | false => exact .inl rfl
    | true => exact .inr (Decidable.byContradiction fun z => h ⟨e, z⟩)
def spLChanged (C CS : Addr) : Sp := fun vs H Q _ => ∃ (j : Addr) (t p : Str) (o : Option Str) (pl : Pl), vs = [.ref j, .str t, .str p, oStr o] ∧ SortOf C CS H j pl ∧ t.length ≤ 1000 ∧ p.length ≤ 1000 ∧ (∀ l, o = some l → l.length ≤ 1000) ∧ tot pl < 300 ∧ pl.length < 100 ∧
  (∀ a b, dueO pl t p o = some (a, b) → ∀ (T : Addr) (H' : Hp), Same H H' → H' T = some (.tup [.str a, .str b]) → Q (.ref T) H') ∧
  (dueO pl t p o = none → ∀ (T x : Addr) (H' : Hp), Same H H' → H' T = some (.tup [.str wSorting, .ref x]) → SortOf C CS H' x (plAft pl t p o) → Q (.ref T) H')
def spDueCh : Sp := fun vs H Q _ => ∃ (d : Addr) (t p : Str) (o : Option Str) (es : List En), vs = [.ref d, .str t, .str p, oStr o] ∧ PlanAt H d es ∧ t.length ≤ 1000 ∧ p.length ≤ 1000 ∧ (∀ l, o = some l → l.length ≤ 1000) ∧
  (∀ a b, dueO (plOf es) t p o = some (a, b) → ∀ (T : Addr) (H' : Hp), Same H H' → H' T = some (.tup [.str a, .str b]) → Q (.ref T) H') ∧
  (dueO (plOf es) t p o = none → ∀ (H' : Hp), Same H H' → Q .non H')
section
variable {P : Program} {w : World} {K : PySem.W.Frag} {mg : Str → Option Value} {base : Heap}
theorem ok_lchanged {f C CS CI gI CU gU CP fX : Addr} {fd gdI gdU fdX : FuncData} (F : Fun K "_law_changed" "_law_changed" sLChanged f fd) (SC : SCls K CS) (R : Errs K mg CI gI gdI CU gU gdU CP) (me : Meth K CS "changed" fX) (bX : Binds K fdX ["self", "site", "prefix", "lane"] []) (FX : FnOk P w K mg base (L2.CX P w) 8 fX fdX ["self", "site", "prefix", "lane"] (spSChangedX C CS CI CU)) : FnOk P w K mg base CX0 9 f fd ["joined", "town", "prefix", "way"] (spLChanged C CS) := by
  refine F.ok scLChanged (fun vs H Q E h => ?_) (fun cdv A outer s H vs Q E hr h => ?_)
  · obtain ⟨j, t, p, o, pl, rfl, _⟩ := h
    rfl
  · obtain ⟨j, t, p, o, pl, rfl, hS, tl, pl1, ol, ht, hl, q1, q2⟩ := h
    refine ⟨_, pss_one (ps_try_clauses rfl rfl scLChanged.nd takes0
      (fun W pn xe tk _ => pss_one (ps_ret (pe_tup (pa_cons pe_str (pa_cons (pe_methS (pv 0) SC.c me FX hr bX (fun σ => passAt tk σ) (pa_cons (pv 1) (pa_cons (pv 2) (pa_cons (pv 3) pa_nil)))) pa_nil)))))
      (.more (i := 4) ⟨rfl, by decide, .inl R.I.g⟩ rfl rfl (fun a oe cls d pn hz hf => pss_one (ps_ret (pe_tup (pa_cons pe_str (pa_cons (pe_xf R.I.T.xf R.I.T.no hz hf (pv 4)) pa_nil)))))
      (.more (i := 5) ⟨rfl, by decide, .inl R.U.g⟩ rfl rfl (fun a oe cls d pn hz hf => pss_one (ps_ret (pe_tup (pa_cons pe_str (pa_cons (pe_xf R.U.T.xf R.U.T.no hz hf (pv 5)) pa_nil))))) .none))), ?_⟩
    obtain ⟨dx, dt, dm, hj⟩ := hS.insX
    refine ⟨.ref j, rfl, j, dx, _, rfl, hj, lkNo2 (by decide) (by decide), .str t, rfl, .str p, rfl, oStr o, rfl, ?_⟩
    have inv : ∀ (wd : Str) (e : Addr) (H' : Hp), Same H H' → H' e = some (.xd [(wWhat, .str wd)]) → dueO pl t p o = some (wInvalid, wd) → ∀ (T : Addr), H' T = none → Q (.ref T) (upd H' T (.tup [.str wInvalid, .str wd])) := fun wd e H' S he hd T nT => q1 _ _ hd T _ (S.trans (same_upd nT)) upd_same
    refine ⟨j, t, p, o, pl, rfl, hS, tl, pl1, ol, ht, hl, fun hbad e H' S he => ?_, fun ha ho hm e H' S he => ?_, fun ha hlan hon hng e H' S he => ?_, fun ha hlan hon hn ho x H' S SO => ?_⟩
    · have hd : dueO pl t p o = some (wInvalid, wTable) := if_pos (due1_iff.mpr hbad)
      refine ⟨true, R.exI, fun _ a na => ?_, fun z => by cases z⟩
      exact ⟨.ref a, rfl, rfl, rfl, e, _, .str wTable, rfl, he, lk1, by show 2 ≤ sizeLine; decide, fun T nT => inv _ e H' S he hd T nT⟩
    · have n1 : ¬ due1 p o = true := fun z => by
        rcases due1_iff.mp z with z | ⟨l, z, _⟩
        · rw [ha] at z; cases z
        · rw [ho] at z; cases z
      have hd : dueO pl t p o = some (wUnknown, p) := by
        unfold dueO
        rw [if_neg n1, if_pos (due2_iff.mpr ⟨ho, hm⟩)]
      refine ⟨false, R.exN, ⟨fun z => absurd z Bool.false_ne_true, fun _ => ⟨true, R.exU, ⟨fun _ a na => ?_, fun z => absurd z.symm Bool.false_ne_true⟩⟩⟩⟩
      exact ⟨.ref a, rfl, rfl, rfl, e, _, .str p, rfl, he, lk1, by show 2 ≤ sizeLine; decide, fun T nT => q1 _ _ hd T _ (S.trans (same_upd nT)) upd_same⟩
    · have n1 : ¬ due1 p o = true := fun z => by
        rcases due1_iff.mp z with z | ⟨l, z, z2⟩
        · rw [ha] at z; cases z
        · rw [hlan l z] at z2; cases z2
      have n2 : ¬ due2 pl t p o = true := fun z => (due2_iff.mp z).2 (hon (due2_iff.mp z).1)
      have hd : dueO pl t p o = some (wInvalid, wSorting) := by
        unfold dueO
        rw [if_neg n1, if_neg n2, if_pos (due3_iff.mpr hng)]
      refine ⟨true, R.exI, fun _ a na => ?_, fun z => by cases z⟩
      exact ⟨.ref a, rfl, rfl, rfl, e, _, .str wSorting, rfl, he, lk1, by show 2 ≤ sizeLine; decide, fun T nT => inv _ e H' S he hd T nT⟩
    · have n1 : ¬ due1 p o = true := fun z => by
        rcases due1_iff.mp z with z | ⟨l, z, z2⟩
        · rw [ha] at z; cases z
        · rw [hlan l z] at z2; cases z2
      have n2 : ¬ due2 pl t p o = true := fun z => (due2_iff.mp z).2 (hon (due2_iff.mp z).1)
      have hd : dueO pl t p o = none := by
        unfold dueO
        rw [if_neg n1, if_neg n2, if_neg fun z => due3_iff.mp z ⟨hn, ho⟩]
      exact ⟨by show 2 ≤ sizeLine; decide, fun T nT => q2 hd T x _ (S.trans (same_upd nT)) upd_same (SO.same (same_upd nT))⟩
theorem ok_duech {f g1 g2 : Addr} {fd gd1 gd2 : FuncData} (F : Fun K "_law_due_of_change" "_law_due_of_change" sDueCh f fd) (B : Blt mg) (cLAddr : C1 P w K mg base "_law_is_address" sLAddr ["text"] 1 (spT0 isAddr) g1 gd1) (cLName : C1 P w K mg base "_law_is_name" sLName ["text"] 1 (spT0 isName) g2 gd2) : FnOk P w K mg base CX0 2 f fd ["plan", "town", "prefix", "way"] spDueCh := by
  refine F.ok scDueCh (fun vs H Q E h => ?_) (fun cdv A outer s H vs Q E hr h => ?_)
  · obtain ⟨d, t, p, o, es, rfl, _⟩ := h
    rfl
  · obtain ⟨d, t, p, o, es, rfl, hP0, tl, pl, ol, q1, q2⟩ := h
    have hu := hu_of hr
    have hz : sizeLine = 16777216 := rfl
    have g := hP0.g
    refine ⟨_, (pss_cons (ps_if (PW.pt (pw_or (pt_not (pt_val (pe_call cLAddr.G (hr.mono (by first | decide | omega)) (by rfl) cLAddr.D.g cLAddr.D.F.kp cLAddr.D.b .nil pass0 (pa_cons (pv 2) pa_nil)))) (pw_or1 (PW.pt (pw_and (pt_cmpR op_notN (pv 3) pe_non (nomark _)) (pw_and (pt_cmpR op_ne (pv 3) pe_str (nomark _)) (pw_and1 (pt_not (pt_val (pe_call cLName.G (hr.mono (by first | decide | omega)) (by rfl) cLName.D.g cLName.D.F.kp cLName.D.b .nil pass0 (pa_cons (pv 3) pa_nil)))))))))))
        (pss_one (ps_ret (pe_tup (pa_cons pe_str (pa_cons pe_str pa_nil)))))
        pss_nil)
      (pss_cons (ps_if (PW.pt (pw_and (pt_cmpR op_isN (pv 3) pe_non (nomark _)) (pw_and1 (pt_cmp (pc_dnotin hu (pv 2) (pe_dget2 hu (pv 0) (pv 1) pe_dnewK ⟨rfl, by rfl, rfl, rfl⟩))))))
        (pss_one (ps_ret (pe_tup (pa_cons pe_str (pa_cons (pv 2) pa_nil)))))
        pss_nil)
      (pss_cons (ps_if (PW.pt (pw_or (pt_not (pt_val (pe_call cLName.G (hr.mono (by first | decide | omega)) (by rfl) cLName.D.g cLName.D.F.kp cLName.D.b .nil pass0 (pa_cons (pv 1) pa_nil)))) (pw_or1 (pt_cmpR op_eq (pv 3) (pv 1) (nomark _)))))
        (pss_one (ps_ret (pe_tup (pa_cons pe_str (pa_cons pe_str pa_nil)))))
        pss_nil)
      (pss_one (ps_ret pe_non))))), ?_⟩
    refine seqIf_via (fun c H' => c = due1 p o ∧ H' = H) (fun Q hQ => ?_) (fun c H1 hR => ?_)
    · refine ⟨.str p, rfl, p, rfl, pl, ?_⟩
      cases ea : isAddr p with
      | false => exact ⟨false, rfl, hQ _ _ ⟨(due1_iff.mpr (.inl ea)).symm, rfl⟩⟩
      | true =>
        refine ⟨true, rfl, ?_⟩
        cases o with
        | none => exact ⟨.non, rfl, rfl, false, rfl, hQ _ _ ⟨by unfold due1; rw [ea]; rfl, rfl⟩⟩
        | some l =>
          refine ⟨.str l, rfl, rfl, true, rfl, .str l, rfl, rfl, _, rfl, ite2 (fun c => ?_) (fun c => ?_)⟩
          · rw [Bool.not_eq_true', decide_eq_false_iff_not] at c
            have c0 : l ≠ Str.ofString "" := fun z => c (by rw [z])
            refine ⟨.str l, rfl, l, rfl, ol l rfl, ⟨_, rfl, hQ _ _ ⟨?_, rfl⟩⟩⟩
            unfold due1
            rw [ea]
            show (!isName l) = (!true || !(decide (l = Str.ofString "") || isName l))
            rw [decide_eq_false c0]
            rfl
          · rw [Bool.not_eq_true', decide_eq_false_iff_not, Decidable.not_not] at c
            refine hQ _ _ ⟨?_, rfl⟩
            unfold due1
            rw [ea]
            show false = (!true || !(decide (l = Str.ofString "") || isName l))
            rw [decide_eq_true (V.str.inj c)]
            rfl
    obtain ⟨rfl, rfl⟩ := hR
    refine ite2 (fun c1 => ?_) (fun c1 => ?_)
    · have hd : dueO (plOf es) t p o = some (wInvalid, wTable) := if_pos c1
      exact ⟨by show 2 ≤ sizeLine; omega, fun T nT => q1 _ _ hd T _ (same_upd nT) upd_same⟩
    dsimp only [tNext]
    refine seqIf_via (fun c H' => c = due2 (plOf es) t p o ∧ Same H1 H') (fun Q hQ => ?_) (fun c H2 hR => ?_)
    · cases o with
      | some l => exact ⟨.str l, rfl, rfl, false, rfl, hQ _ _ ⟨rfl, fun _ _ h => h⟩⟩
      | none =>
        refine ⟨.non, rfl, rfl, true, rfl, .str p, rfl, .ref d, rfl, d, rfl, .inl ⟨_, .of hP0.d⟩, .str t, rfl, fun D nD => ?_⟩
        have S5 : Same H1 (L2.upd H1 D (.dK [])) := same_upd nD
        have hD5 : (L2.upd H1 D (.dK [])) D = some (.dK (kvP [])) := upd_same
        generalize L2.upd H1 D (.dK []) = H5 at S5 hD5
        have PL := hP0.same S5
        have pick : ∃ (b : Addr) (o' : Option V), DGet H5 d (.str t) o' ∧ o'.getD (.ref D) = .ref b ∧ H5 b = some (.dK (kvP (rowsOf (plOf es) t))) := by
          rcases es_case es t with ⟨e, he, ee⟩ | hn
          · refine ⟨e.1, some (.ref e.1), ?_, rfl, ?_⟩
            · rw [← ee, ← kvE_val g.n he]
              exact DGet.k (k := Sum.inr e.2.1) PL.d
            · rw [← ee, rows_of_mem g.n he]
              exact PL.t e he
          · refine ⟨D, none, ?_, rfl, ?_⟩
            · rw [← kvE_none hn]
              exact DGet.k (k := Sum.inr t) PL.d
            · rw [rows_not hn]
              exact hD5
        obtain ⟨b, o', dg, eo, hb⟩ := pick
        refine ⟨o', dg, b, _, eo, DGet.k (k := Sum.inr p) hb, _, rfl, hQ _ _ ⟨?_, S5⟩⟩
        unfold due2
        show (!(valV (kvP (rowsOf (plOf es) t)) (Sum.inr p)).isSome) = (true && decide (p ∉ (rowsOf (plOf es) t).map Prod.fst))
        rw [Bool.true_and]
        by_cases m : p ∈ (rowsOf (plOf es) t).map Prod.fst
        · rw [(valV_kvP p _).mpr m, decide_eq_false (fun z => z m)]
          rfl
        · rw [decide_eq_true m]
          cases e : (valV (kvP (rowsOf (plOf es) t)) (Sum.inr p)).isSome with
          | true => exact absurd ((valV_kvP p _).mp e) m
          | false => rfl
    obtain ⟨rfl, S2⟩ := hR
    refine ite2 (fun c2 => ?_) (fun c2 => ?_)
    · have hd : dueO (plOf es) t p o = some (wUnknown, p) := by
        unfold dueO
        rw [if_neg c1, if_pos c2]
      exact ⟨.str p, rfl, by show 2 ≤ sizeLine; omega, fun T nT => q1 _ _ hd T _ (S2.trans (same_upd nT)) upd_same⟩
    dsimp only [tNext]
    refine seqIf_via (fun c H' => c = due3 t o ∧ H' = H2) (fun Q hQ => ?_) (fun c H3 hR => ?_)
    · refine ⟨.str t, rfl, t, rfl, tl, ?_⟩
      cases ea : isName t with
      | false => exact ⟨false, rfl, hQ _ _ ⟨by unfold due3; rw [ea]; rfl, rfl⟩⟩
      | true =>
        refine ⟨true, rfl, oStr o, rfl, .str t, rfl, by cases o <;> rfl, _, rfl, hQ _ _ ⟨?_, rfl⟩⟩
        unfold due3
        rw [ea]
        cases o with
        | none => rfl
        | some l =>
          show decide (V.str l = V.str t) = (false || decide (some l = some t))
          rw [Bool.false_or]
          exact decide_eq_decide.mpr ⟨fun z => by rw [V.str.inj z], fun z => by rw [Option.some.inj z]⟩
    obtain ⟨rfl, rfl⟩ := hR
    refine ite2 (fun c3 => ?_) (fun c3 => ?_)
    · have hd : dueO (plOf es) t p o = some (wInvalid, wSorting) := by
        unfold dueO
        rw [if_neg c1, if_neg c2, if_pos c3]
      exact ⟨by show 2 ≤ sizeLine; omega, fun T nT => q1 _ _ hd T _ (S2.trans (same_upd nT)) upd_same⟩
    have hd : dueO (plOf es) t p o = none := by
      unfold dueO
      rw [if_neg c1, if_neg c2, if_neg c3]
    exact q2 hd _ S2
end
end Tb
namespace Tb
open PySem PySem.Spec PyProof.Rows L2
open PySem.W (AllAlike Sortable dataLe TotalLe)
abbrev sChHold : Stmt := topS 50
abbrev NChHold : List Str := ["bag", "joined", "plan", "towns", "kept", "turn", "town", "stems", "prefix", "way", "due", "told", "pair"]
theorem scChHold : FnScope NChHold ["bag", "joined", "plan", "towns"] (defScope sChHold) := ⟨rfl, rfl, rfl, by decide +kernel, rfl, by decide +kernel, by decide +kernel⟩
theorem TabsAt.butL {C : Addr} {H H' : Hp} {d p : Addr} {es : List En} {xs : List V} (T : TabsAt C H d es) (hp : H p = some (.lst xs)) (h : But p H H') : TabsAt C H' d es :=
  ⟨h _ _ T.d (ne_of T.d hp (fun z => by cases z)), fun e he => (T.t e he).but hp h⟩
theorem PlanAt.butL {H H' : Hp} {d p : Addr} {es : List En} {xs : List V} (T : PlanAt H d es) (hp : H p = some (.lst xs)) (h : But p H H') : PlanAt H' d es :=
  ⟨h _ _ T.d (ne_of T.d hp (fun z => by cases z)), fun e he => h _ _ (T.t e he) (ne_of (T.t e he) hp (fun z => by cases z)), T.g⟩
theorem SortOf.butL {C CS : Addr} {H H' : Hp} {j p : Addr} {pl : Pl} {xs : List V} (T : SortOf C CS H j pl) (hp : H p = some (.lst xs)) (h : But p H H') : SortOf C CS H' j pl := by
  obtain ⟨⟨dx, dt, dm, es, ms, h1, h2, h3, h4, h5⟩, g⟩ := T
  exact ⟨⟨dx, dt, dm, es, ms, h _ _ h1 (ne_of h1 hp (fun z => by cases z)), h2.butL hp h, h3, h _ _ h4 (ne_of h4 hp (fun z => by cases z)), h5⟩, g⟩
abbrev Kep := Addr × (Addr × (Addr × List En))
structure KeptAt (C CS : Addr) (H : Hp) (Kp : Addr) (ks : List Kep) : Prop where
  l : H Kp = some (.lst (ks.map fun k => V.ref k.1))
  t : ∀ k ∈ ks, H k.1 = some (.tup [.ref k.2.1, .ref k.2.2.1]) ∧ SortOf C CS H k.2.1 (plOf k.2.2.2) ∧ PlanAt H k.2.2.1 k.2.2.2 ∧ k.2.2.2.length ≤ 70 ∧ tot (plOf k.2.2.2) ≤ 130
theorem KeptAt.same {C CS : Addr} {H H' : Hp} {Kp : Addr} {ks : List Kep} (T : KeptAt C CS H Kp ks) (S : Same H H') : KeptAt C CS H' Kp ks :=
  ⟨S _ _ T.l, fun k hk => let ⟨a, b, c, d⟩ := T.t k hk; ⟨S _ _ a, b.same S, c.same S, d⟩⟩
theorem KeptAt.but {C CS : Addr} {H H' : Hp} {Kp p : Addr} {ks : List Kep} (T : KeptAt C CS H Kp ks) (B : Bag H p) (n : Kp ≠ p) (b : But p H H') : KeptAt C CS H' Kp ks :=
  ⟨b _ _ T.l n, fun k hk => let ⟨a, x, c, d⟩ := T.t k hk; ⟨b _ _ a (bag_tup B a), x.but B b, c.but B b, d⟩⟩
structure ChS (C CS : Addr) (H0 H : Hp) (p j d Kp : Addr) (es : List En) (ks : List Kep) : Prop where
  bag : Bag H p
  but : But p H0 H
  so : SortOf C CS H j (plOf es)
  pl : PlanAt H d es
  kp : KeptAt C CS H Kp ks
  np : Kp ≠ p
theorem ChS.same {C CS : Addr} {H0 H H' : Hp} {p j d Kp : Addr} {es : List En} {ks : List Kep} (Z : ChS C CS H0 H p j d Kp es ks) (S : Same H H') : ChS C CS H0 H' p j d Kp es ks :=
  ⟨Z.bag.same S, Z.but.trans (Same.but S), Z.so.same S, Z.pl.same S, Z.kp.same S, Z.np⟩
theorem ChS.draw {C CS : Addr} {H0 H H' : Hp} {p j d Kp : Addr} {es : List En} {ks : List Kep} (Z : ChS C CS H0 H p j d Kp es ks) (B : Bag H' p) (b : But p H H') : ChS C CS H0 H' p j d Kp es ks :=
  ⟨B, Z.but.trans b, Z.so.but Z.bag b, Z.pl.but Z.bag b, Z.kp.but Z.bag Z.np b, Z.np⟩
/-- a new sorting and its plan are kept, too -/
theorem ChS.more {C CS : Addr} {H0 H : Hp} {p j d Kp T : Addr} {es : List En} {ks : List Kep} (Z : ChS C CS H0 H p j d Kp es ks) (n0 : H0 Kp = none) (hT : H T = some (.tup [.ref j, .ref d])) (l1 : es.length ≤ 70) (l2 : tot (plOf es) ≤ 130) :
    ChS C CS H0 (L2.upd H Kp (.lst (ks.map (fun k => V.ref k.1) ++ [.ref T]))) p j d Kp es (ks ++ [(T, (j, (d, es)))]) := by
  have b : But Kp H (L2.upd H Kp (.lst (ks.map (fun k => V.ref k.1) ++ [.ref T]))) := But.upd
  have hk := Z.kp.l
  refine ⟨Z.bag.put Z.np, put_off Z.but n0, Z.so.butL hk b, Z.pl.butL hk b, ⟨by rw [upd_same, List.map_append]; rfl, fun k hk2 => ?_⟩, Z.np⟩
  rcases List.mem_append.mp hk2 with h | h
  · obtain ⟨a1, a2, a3, a4⟩ := Z.kp.t k h
    exact ⟨b _ _ a1 (ne_of a1 hk (fun z => by cases z)), a2.butL hk b, a3.butL hk b, a4⟩
  · rw [List.mem_singleton.mp h]
    exact ⟨b _ _ hT (ne_of hT hk (fun z => by cases z)), Z.so.butL hk b, Z.pl.butL hk b, l1, l2⟩
def spChHold (C CS : Addr) : Sp := fun vs H Q _ => ∃ (p j d l : Addr) (es : List En) (ts : List Str) (last : Str), vs = [.ref p, .ref j, .ref d, .ref l] ∧ Bag H p ∧ SortOf C CS H j (plOf es) ∧ PlanAt H d es ∧ Tw H l (ts ++ [last]) ∧ es.length ≤ 60 ∧ tot (plOf es) ≤ 120 ∧ ∀ H', Bag H' p → But p H H' → Q (.bl true) H'
section
variable {P : Program} {w : World} {K : PySem.W.Frag} {mg : Str → Option Value} {base : Heap}
theorem ok_chhold {f g1 g2 g3 g4 g5 g6 g7 g8 g9 C CS : Addr} {fd gd1 gd2 gd3 gd4 gd5 gd6 gd7 gd8 gd9 : FuncData} (F : Fun K "_law_changes_hold" "_law_changes_hold" sChHold f fd) (B : Blt mg) (gS : mg "Sorting" = some (.ref CS)) (insS : C8.InsC K CS) (cDraw : CDraw P w K mg base g1 gd1) (cText : C1 P w K mg base "_law_text" sText ["bag", "most"] 2 spText g2 gd2) (cPrefix : CPrefix P w K mg base g3 gd3) (cDueCh : C1 P w K mg base "_law_due_of_change" sDueCh ["plan", "town", "prefix", "way"] 2 spDueCh g4 gd4) (cLChanged : C1 P w K mg base "_law_changed" sLChanged ["joined", "town", "prefix", "way"] 9 (spLChanged C CS) g5 gd5) (cPlanAft : C1 P w K mg base "_law_plan_after" sPlanAft ["plan", "town", "prefix", "way"] 2 spPlanAft g6 gd6) (cOnePath : C1 P w K mg base "_law_one_path" sOnePath ["bag", "joined", "plan", "towns", "town", "address"] 7 (spOnePath C CS) g7 gd7) (cTablesAre : C1 P w K mg base "_law_tables_are" sTablesAre ["joined", "plan"] 4 (spTablesAre C CS) g8 gd8) (cPathsAre : C1 P w K mg base "_law_paths_are" sPathsAre ["bag", "joined", "plan", "towns", "turns"] 8 (spPathsAre C CS) g9 gd9) : FnOk P w K mg base CX0 10 f fd ["bag", "joined", "plan", "towns"] (spChHold C CS) := by
  refine F.ok scChHold (fun vs H Q E h => ?_) (fun cdv A outer s H vs Q E hr h => ?_)
  · obtain ⟨p, j, d, l, es, ts, last, rfl, _⟩ := h
    rfl
  · obtain ⟨p, j0, d0, l, es0, ts, last, rfl, hB, hS, hP0, hT, le, ht, q⟩ := h
    have hu := hu_of hr
    have hz : sizeLine = 16777216 := rfl
    have tc : ClsV (.ref CS) (.ref CS) := .own CS
    have tz := hT.z
    have tlen : (ts ++ [last]).length = ts.length + 1 := by rw [List.length_append]; rfl
    have atl : atI ((ts ++ [last]).map V.str) (-1) = some (.str last) := by rw [List.map_append]; exact atI_last _ _
    have twl : ∀ x ∈ ts ++ [last], x.length ≤ 12 := fun x hx => name_len (hT.g x hx)
    refine ⟨_, (pss_cons (ps_set (i := 4) scChHold.nd rfl (.inl rfl) (pe_lst (pa_cons (pe_tup (pa_cons (pv 1) (pa_cons (pv 2) pa_nil))) pa_nil)))
      (pss_cons (ps_for PassesOwn.never rfl (pi_range1 (by rfl) B.range (pa_cons (pe_op op_add pe_int (pe_call cDraw.G (hr.mono (by first | decide | omega)) (by rfl) cDraw.D.g cDraw.D.F.kp cDraw.D.b .nil pass0 (pa_cons (pv 0) (pa_cons pe_int pa_nil)))) pa_nil)) (pg_name (i := 5) scChHold.nd rfl (.inl rfl))
        (pss_cons (ps_set (i := 6) scChHold.nd rfl (.inl rfl) (pe_ix ix_list (pv 3) (pe_call cDraw.G (hr.mono (by first | decide | omega)) (by rfl) cDraw.D.g cDraw.D.F.kp cDraw.D.b .nil pass0 (pa_cons (pv 0) (pa_cons (pe_callB (r := rLenQ K) call_len_seq (by rfl) B.len PySem.boot_len (pa_cons (pv 3) pa_nil)) pa_nil))) (fun _ _ => rfl)))
        (C8.pss_cut (ps_if (pt_cmpR op_eq (pe_call cDraw.G (hr.mono (by first | decide | omega)) (by rfl) cDraw.D.g cDraw.D.F.kp cDraw.D.b .nil pass0 (pa_cons (pv 0) (pa_cons pe_int pa_nil))) pe_int (nomark _))
          (pss_one (ps_set (i := 6) scChHold.nd rfl (.inl rfl) (pe_call cText.G (hr.mono (by first | decide | omega)) (by rfl) cText.D.g cText.D.F.kp cText.D.b .nil pass0 (pa_cons (pv 0) (pa_cons pe_int pa_nil)))))
          pss_nil)
        (pss_cons (ps_set (i := 7) scChHold.nd rfl (.inl rfl) (pe_callTy (call_listD rfl) (by rfl) B.list PyProof.Rows.boot_list (pa_cons (pe_dget2 hu (pv 2) (pv 6) pe_dnewK ⟨rfl, by rfl, rfl, rfl⟩) pa_nil)))
        (pss_cons (ps_set (i := 8) scChHold.nd rfl (.inl rfl) (pe_call cPrefix.G (hr.mono (by first | decide | omega)) (by rfl) cPrefix.D.g cPrefix.D.F.kp cPrefix.D.b .nil pass0 (pa_cons (pv 0) (pa_cons (pv 7) pa_nil))))
        (C8.pss_cut (ps_if (PW.pt (pw_and (pt_cmpR (op_neD hr.units) (pv 7) (pe_lst pa_nil) (nomark _)) (pw_and1 (pt_cmpR op_eq (pe_call cDraw.G (hr.mono (by first | decide | omega)) (by rfl) cDraw.D.g cDraw.D.F.kp cDraw.D.b .nil pass0 (pa_cons (pv 0) (pa_cons pe_int pa_nil))) pe_int (nomark _)))))
          (pss_one (ps_set (i := 8) scChHold.nd rfl (.inl rfl) (pe_ix ix_list (pv 7) (pe_call cDraw.G (hr.mono (by first | decide | omega)) (by rfl) cDraw.D.g cDraw.D.F.kp cDraw.D.b .nil pass0 (pa_cons (pv 0) (pa_cons (pe_callB (r := rLenQ K) call_len_seq (by rfl) B.len PySem.boot_len (pa_cons (pv 7) pa_nil)) pa_nil))) (fun _ _ => rfl))))
          pss_nil)
        (C8.pss_cut (ps_if (pt_cmpR op_eq (pe_call cDraw.G (hr.mono (by first | decide | omega)) (by rfl) cDraw.D.g cDraw.D.F.kp cDraw.D.b .nil pass0 (pa_cons (pv 0) (pa_cons pe_int pa_nil))) pe_int (nomark _))
          (pss_one (ps_set (i := 8) scChHold.nd rfl (.inl rfl) (pe_call cText.G (hr.mono (by first | decide | omega)) (by rfl) cText.D.g cText.D.F.kp cText.D.b .nil pass0 (pa_cons (pv 0) (pa_cons pe_int pa_nil)))))
          pss_nil)
        (pss_cons (ps_set (i := 9) scChHold.nd rfl (.inl rfl) (pe_ix ix_list (pe_lst (pa_cons pe_non (pa_cons pe_str (pa_cons (pv 6) (pa_cons (pe_ix ix_list (pv 3) (pe_call cDraw.G (hr.mono (by first | decide | omega)) (by rfl) cDraw.D.g cDraw.D.F.kp cDraw.D.b .nil pass0 (pa_cons (pv 0) (pa_cons (pe_callB (r := rLenQ K) call_len_seq (by rfl) B.len PySem.boot_len (pa_cons (pv 3) pa_nil)) pa_nil))) (fun _ _ => rfl)) (pa_cons (pe_ix ix_list (pv 3) (pe_un un_neg pe_int) (fun _ _ => rfl)) pa_nil)))))) (pe_call cDraw.G (hr.mono (by first | decide | omega)) (by rfl) cDraw.D.g cDraw.D.F.kp cDraw.D.b .nil pass0 (pa_cons (pv 0) (pa_cons pe_int pa_nil))) (fun _ _ => rfl)))
        (C8.pss_cut (ps_if (pt_cmpR op_eq (pe_call cDraw.G (hr.mono (by first | decide | omega)) (by rfl) cDraw.D.g cDraw.D.F.kp cDraw.D.b .nil pass0 (pa_cons (pv 0) (pa_cons pe_int pa_nil))) pe_int (nomark _))
          (pss_one (ps_set (i := 9) scChHold.nd rfl (.inl rfl) (pe_call cText.G (hr.mono (by first | decide | omega)) (by rfl) cText.D.g cText.D.F.kp cText.D.b .nil pass0 (pa_cons (pv 0) (pa_cons pe_int pa_nil)))))
          pss_nil)
        (pss_cons (ps_set (i := 10) scChHold.nd rfl (.inl rfl) (pe_call cDueCh.G (hr.mono (by first | decide | omega)) (by rfl) cDueCh.D.g cDueCh.D.F.kp cDueCh.D.b .nil pass0 (pa_cons (pv 2) (pa_cons (pv 6) (pa_cons (pv 8) (pa_cons (pv 9) pa_nil))))))
        (pss_cons (ps_set (i := 11) scChHold.nd rfl (.inl rfl) (pe_call cLChanged.G (hr.mono (by first | decide | omega)) (by rfl) cLChanged.D.g cLChanged.D.F.kp cLChanged.D.b .nil pass0 (pa_cons (pv 1) (pa_cons (pv 6) (pa_cons (pv 8) (pa_cons (pv 9) pa_nil))))))
        (pss_cons (ps_if (PW.pt (pw_and (pt_cmpR op_notN (pv 10) pe_non (nomark _)) (pw_and1 (pt_cmpR (op_neD hr.units) (pv 11) (pv 10) (nomark _)))))
          (pss_one (ps_ret pe_bl))
          pss_nil)
        (pss_one (ps_if (pt_cmpR op_isN (pv 10) pe_non (nomark _))
          (pss_cons (ps_if (PW.pt (pw_or (pt_cmpR op_ne (pe_ix ix_tup (pv 11) pe_int (fun _ _ => rfl)) pe_str (nomark _)) (pw_or1 (pt_not (pt_val (pe_callB call_isi (by rfl) B.isi (by decide +kernel) (pa_cons (pe_ix ix_tup (pv 11) pe_int (fun _ _ => rfl)) (pa_cons (pe_glob (by rfl) gS (v := .ref CS) rfl) pa_nil))))))))
            (pss_one (ps_ret pe_bl))
            pss_nil)
          (pss_cons (ps_set (i := 1) scChHold.nd rfl (.inl rfl) (pe_ix ix_tup (pv 11) pe_int (fun _ _ => rfl)))
          (pss_cons (ps_set (i := 2) scChHold.nd rfl (.inl rfl) (pe_call cPlanAft.G (hr.mono (by first | decide | omega)) (by rfl) cPlanAft.D.g cPlanAft.D.F.kp cPlanAft.D.b .nil pass0 (pa_cons (pv 2) (pa_cons (pv 6) (pa_cons (pv 8) (pa_cons (pv 9) pa_nil))))))
          (pss_cons (ps_expr (pe_bm PySem.F.plainAttrs_list PySem.F.slot_list_append PySem.F.type_list_append mt_append (pv 4) (pa_cons (pe_tup (pa_cons (pv 1) (pa_cons (pv 2) pa_nil))) pa_nil)))
          (pss_one (ps_if (pt_not (pt_val (pe_call cOnePath.G (hr.mono (by first | decide | omega)) (by rfl) cOnePath.D.g cOnePath.D.F.kp cOnePath.D.b .nil pass0 (pa_cons (pv 0) (pa_cons (pv 1) (pa_cons (pv 2) (pa_cons (pv 3) (pa_cons (pv 6) (pa_cons (pv 8) pa_nil)))))))))
            (pss_one (ps_ret pe_bl))
            pss_nil))))))
          pss_nil))))))))))))))
      (pss_cons (ps_for PassesOwn.never rfl (pi_list (pv 4)) (pg_name (i := 12) scChHold.nd rfl (.inl rfl))
        (pss_one (ps_if (PW.pt (pw_or (pt_not (pt_val (pe_call cTablesAre.G (hr.mono (by first | decide | omega)) (by rfl) cTablesAre.D.g cTablesAre.D.F.kp cTablesAre.D.b .nil pass0 (pa_cons (pe_ix ix_tup (pv 12) pe_int (fun _ _ => rfl)) (pa_cons (pe_ix ix_tup (pv 12) pe_int (fun _ _ => rfl)) pa_nil))))) (pw_or1 (pt_not (pt_val (pe_call cPathsAre.G (hr.mono (by first | decide | omega)) (by rfl) cPathsAre.D.g cPathsAre.D.F.kp cPathsAre.D.b .nil pass0 (pa_cons (pv 0) (pa_cons (pe_ix ix_tup (pv 12) pe_int (fun _ _ => rfl)) (pa_cons (pe_ix ix_tup (pv 12) pe_int (fun _ _ => rfl)) (pa_cons (pv 3) (pa_cons pe_int pa_nil)))))))))))
          (pss_one (ps_ret pe_bl))
          pss_nil)))
      (pss_one (ps_ret pe_bl))))), ?_⟩
    refine ⟨.ref j0, rfl, .ref d0, rfl, by show 2 ≤ sizeLine; omega, fun T0 nT0 => ⟨by show 1 ≤ sizeLine; omega, fun Kp nK => ?_⟩⟩
    have S1 := (same_upd nT0 (o := .tup [V.ref j0, .ref d0])).trans (same_upd nK (o := .lst [V.ref T0]))
    have hT1 : (L2.upd (L2.upd H T0 (.tup [V.ref j0, .ref d0])) Kp (.lst [V.ref T0])) T0 = some (.tup [V.ref j0, .ref d0]) := by rw [upd_ne (ne_of_none upd_same nK)]; exact upd_same
    have hK1 : (L2.upd (L2.upd H T0 (.tup [V.ref j0, .ref d0])) Kp (.lst [V.ref T0])) Kp = some (.lst [V.ref T0]) := upd_same
    have nKH : H Kp = none := (same_upd nT0).free nK
    have Kpp := bag_no hB nKH
    have Z1 : ChS C CS H (L2.upd (L2.upd H T0 (.tup [V.ref j0, .ref d0])) Kp (.lst [V.ref T0])) p j0 d0 Kp es0 [(T0, (j0, (d0, es0)))] :=
      ⟨hB.same S1, Same.but S1, hS.same S1, hP0.same S1, ⟨hK1, fun k hk => by rw [List.mem_singleton.mp hk]; exact ⟨hT1, hS.same S1, hP0.same S1, by show es0.length ≤ 70; omega, by show tot (plOf es0) ≤ 130; omega⟩⟩, Kpp⟩
    generalize L2.upd (L2.upd H T0 (.tup [V.ref j0, .ref d0])) Kp (.lst [V.ref T0]) = H1 at Z1
    clear S1 hT1 hK1 nK nT0
    refine ⟨.ref p, rfl, p, 5, rfl, Z1.bag, by decide, by decide, fun m H2 m0 m1 B2 b2 => ⟨1, m, rfl, rfl, _, rfl, by omega, by omega, ?_⟩⟩
    have Z2 := Z1.draw B2 b2
    refine for_it (walk_range (lo := 0) (n := (1 + m).toNat)) (fun i σ H' => ∃ (j d : Addr) (es : List En) (ks : List Kep) (y5 y6 y7 y8 y9 yA yB yC : Option V), σ = [some (.ref p), some (.ref j), some (.ref d), some (.ref l), some (.ref Kp), y5, y6, y7, y8, y9, yA, yB, yC] ∧ ChS C CS H H' p j d Kp es ks ∧ es.length ≤ 60 + i ∧ tot (plOf es) ≤ 120 + i ∧ ks.length ≤ 1 + i)
      ⟨j0, d0, es0, _, none, none, none, none, none, none, none, none, rfl, Z2, by omega, by omega, Nat.le_refl _⟩ (fun _ _ _ _ _ => trivial) (fun i v σ H3 H4 hi hP hy => ?_) (fun σ H3 hP => ?_)
    · obtain ⟨j, d, es, ks, y5, y6, y7, y8, y9, yA, yB, yC, rfl, Z4, les, tes, lks⟩ := hP
      obtain ⟨rfl, rfl⟩ := hy
      have i5 : i < 5 := by omega
      have g := Z4.pl.g
      have T4 := hT.but hB Z4.but
      have lz : ((ts ++ [last]).map V.str).length = ts.length + 1 := by rw [List.length_map]; exact tlen
      refine ⟨.ref l, rfl, .ref p, rfl, .ref l, rfl, l, _, rfl, .inl (sqOf T4.l), p, _, rfl, Z4.bag, by omega, by omega, fun i2 H5 j0 j1 B5 b5 => ?_⟩
      obtain ⟨t1, ht1, et1⟩ := pick j0 j1
      have Z5 := Z4.draw B5 b5
      refine ⟨l, _, i2, .str t1, rfl, rfl, sqOf (T4.but Z4.bag b5).l, et1, ?_⟩
      -- the town
      refine ⟨fun σ' H' => ∃ t : Str, σ' = [some (.ref p), some (.ref j), some (.ref d), some (.ref l), some (.ref Kp), some (.int (0 + (i : Int))), some (.str t), y7, y8, y9, yA, yB, yC] ∧ t.length ≤ 22 ∧ ChS C CS H H' p j d Kp es ks, ?_, ?_⟩
      · refine ⟨.ref p, rfl, p, 6, rfl, Z5.bag, by decide, by decide, fun r H6 r0 r1 B6 b6 => ⟨rfl, _, rfl, ite2 (fun c => ?_) (fun c => ?_)⟩⟩
        · have Z6 := Z5.draw B6 b6
          exact ⟨.ref p, rfl, p, 14, rfl, Z6.bag, by decide, by decide, fun z H7 tz7 lz7 B7 b7 => ⟨z, rfl, lz7, Z6.draw B7 b7⟩⟩
        · exact ⟨t1, rfl, by have := twl t1 ht1; omega, Z5.draw B6 b6⟩
      clear Z5 B5 b5 et1 ht1 T4 Z4 t1
      rintro σ1 H5 ⟨t, rfl, tl, Z5⟩
      -- the rows of the town
      refine ⟨.ref d, rfl, d, rfl, .inl ⟨_, .of Z5.pl.d⟩, .str t, rfl, fun D nD => ?_⟩
      have S7 : Same H5 (L2.upd H5 D (.dK [])) := same_upd nD
      have hD7 : (L2.upd H5 D (.dK [])) D = some (.dK (kvP [])) := upd_same
      have Z7 := Z5.same S7
      generalize L2.upd H5 D (.dK []) = H7 at Z7 hD7
      have pick2 : ∃ (b : Addr) (o' : Option V) (own : List Pr), DGet H7 d (.str t) o' ∧ o'.getD (.ref D) = .ref b ∧ H7 b = some (.dK (kvP own)) ∧ own.length ≤ 400 ∧ ∀ r ∈ own, isAddr r.1 = true := by
        rcases es_case es t with ⟨e, he, ee⟩ | hn
        · refine ⟨e.1, some (.ref e.1), e.2.2, ?_, rfl, Z7.pl.t e he, ?_, fun r hr => ?_⟩
          · rw [← ee, ← kvE_val g.n he]
            exact DGet.k (k := Sum.inr e.2.1) Z7.pl.d
          · have low := rows_tot (plOf es) e.2.1
            rw [rows_of_mem g.n he] at low
            omega
          · exact ((g.e e.2 (List.mem_map.mpr ⟨e, he, rfl⟩)).2.1.1 r hr).1
        · refine ⟨D, none, [], ?_, rfl, hD7, by decide, fun r hr => by cases hr⟩
          rw [← kvE_none hn]
          exact DGet.k (k := Sum.inr t) Z7.pl.d
      obtain ⟨b, o', own, dg, eo, hb, lown, aown⟩ := pick2
      refine ⟨o', dg, ?_⟩
      rw [eo]
      refine ⟨b, _, rfl, .of hb, fun L nL => ?_⟩
      have hL : (L2.upd H7 L (.lst ((kvP own).map fun kv => kV kv.1))) L = some (.lst ((own.map Prod.fst).map V.str)) := by
        rw [upd_same]
        unfold kvP
        rw [List.map_map, List.map_map]
        rfl
      have Lp := bag_no Z7.bag nL
      have Z8 := Z7.same (same_upd nL (o := HO.lst ((kvP own).map fun kv => kV kv.1)))
      generalize L2.upd H7 L (.lst ((kvP own).map fun kv => kV kv.1)) = H8 at hL Z8
      clear hb dg eo hD7 Z7 S7 nL Z5 nD
      let kk := own.map Prod.fst
      have lk : kk.length ≤ 400 := by show (own.map Prod.fst).length ≤ 400; rw [List.length_map]; exact lown
      have ak : ∀ x ∈ kk, isAddr x = true := fun x hx => by
        obtain ⟨r, hr, rfl⟩ := List.mem_map.mp hx
        exact aown r hr
      have txk : ∀ x ∈ kk, Tx x := fun x hx => ad_tx ((isAddr_iff x).mp (ak x hx))
      have hL : H8 L = some (.lst (kk.map V.str)) := hL
      clear_value kk
      have nilE : ∀ xs : List Str, PyData.eqv (.list (xs.map PyData.str)) (.list []) = decide (xs = []) := fun xs => by rw [eqv_nil]; cases xs <;> rfl
      refine ⟨.ref p, rfl, .ref L, rfl, p, L, kk, rfl, Z8.bag, ⟨hL, lk, txk⟩, fun x hx => (isAddr_iff x).mp (ak x hx), fun z H9 hz9 B9 b9 => ?_⟩
      have Z9 := Z8.draw B9 b9
      have hL9 := b9 _ _ hL Lp
      have az := (isAddr_iff z).mpr hz9
      clear Z8 hL b9 B9
      refine ⟨fun σ' H' => ∃ z : Str, σ' = [some (.ref p), some (.ref j), some (.ref d), some (.ref l), some (.ref Kp), some (.int (0 + (i : Int))), some (.str t), some (.ref L), some (.str z), y9, yA, yB, yC] ∧ Tx z ∧ z.length ≤ 22 ∧ ChS C CS H H' p j d Kp es ks, ?_, ?_⟩
      · refine ifS_via (fun c' H' => (ChS C CS H H' p j d Kp es ks ∧ H' L = some (.lst (kk.map V.str))) ∧ (c' = true → kk ≠ [])) (fun Q hQ => ?_) (fun c' HA hR => ?_)
        · refine ⟨.ref L, rfl, Nat.zero_le _, fun e ne => ⟨_, _, .lst (sqOf (same_upd ne _ _ hL9)) (dp_strs _), .lst (sqOf upd_same) .nil, shaped_strs txk, rfl, _, rfl, ?_⟩⟩
          have ZA := Z9.same (same_upd ne (o := HO.lst []))
          have LA := same_upd ne (o := HO.lst []) _ _ hL9
          rw [nilE]
          by_cases hm : kk = []
          · rw [decide_eq_true hm]
            exact hQ _ _ ⟨⟨ZA, LA⟩, fun z => by cases z⟩
          · rw [decide_eq_false hm]
            exact ⟨.ref p, rfl, p, 2, rfl, ZA.bag, by decide, by decide, fun r HB r0 r1 BB bB => ⟨rfl, _, rfl, hQ _ _ ⟨⟨ZA.draw BB bB, bB _ _ LA Lp⟩, fun _ => hm⟩⟩⟩
        · obtain ⟨⟨ZA, LA⟩, hne⟩ := hR
          cases c' with
          | false => exact ⟨z, rfl, ad_tx hz9, by have := addr_len az; omega, ZA⟩
          | true =>
            have kpos : 0 < kk.length := List.length_pos_iff.mpr (hne rfl)
            refine ⟨.ref L, rfl, .ref p, rfl, .ref L, rfl, L, _, rfl, .inl (sqOf LA), p, _, rfl, ZA.bag, by rw [List.length_map]; omega, by rw [List.length_map]; omega, fun i3 HB k0 k1 BB bB => ?_⟩
            obtain ⟨u, hu2, eu⟩ := pick k0 k1
            exact ⟨L, _, i3, .str u, rfl, rfl, sqOf (bB _ _ LA Lp), eu, u, rfl, txk u hu2, by have := addr_len (ak u hu2); omega, ZA.draw BB bB⟩
      clear Z9 hL9 az hz9 z lk ak txk lown aown
      rintro σ1 H9 ⟨z, rfl, txz, zl, Z9⟩
      refine ⟨fun σ' H' => ∃ z : Str, σ' = [some (.ref p), some (.ref j), some (.ref d), some (.ref l), some (.ref Kp), some (.int (0 + (i : Int))), some (.str t), some (.ref L), some (.str z), y9, yA, yB, yC] ∧ Tx z ∧ z.length ≤ 22 ∧ ChS C CS H H' p j d Kp es ks, ?_, ?_⟩
      · refine ⟨.ref p, rfl, p, 6, rfl, Z9.bag, by decide, by decide, fun r HA r0 r1 BA bA => ⟨rfl, _, rfl, ite2 (fun c => ?_) (fun c => ?_)⟩⟩
        · have ZA := Z9.draw BA bA
          exact ⟨.ref p, rfl, p, 10, rfl, ZA.bag, by decide, by decide, fun z HB tzB lzB BB bB => ⟨z, rfl, tzB, lzB, ZA.draw BB bB⟩⟩
        · exact ⟨z, rfl, txz, zl, Z9.draw BA bA⟩
      clear Z9 txz zl z
      rintro σ1 H9 ⟨z, rfl, txz, zl, Z9⟩
      -- the way
      have T9 := hT.but hB Z9.but
      refine ⟨.str t, rfl, .ref l, rfl, .ref p, rfl, .ref l, rfl, l, _, rfl, .inl (sqOf T9.l), p, _, rfl, Z9.bag, by omega, by omega, fun i3 HA j0 j1 BA bA => ?_⟩
      obtain ⟨t2, ht2, et2⟩ := pick j0 j1
      have ZA := Z9.draw BA bA
      have TA := T9.but Z9.bag bA
      refine ⟨l, _, i3, .str t2, rfl, rfl, sqOf TA.l, et2, .ref l, rfl, 1, rfl, l, _, _, .str last, rfl, rfl, sqOf TA.l, atl, by show 5 ≤ sizeLine; omega, fun W nW => ?_⟩
      have Wp := bag_no ZA.bag nW
      have SW := same_upd nW (o := HO.lst [V.non, V.str (Str.ofString ""), V.str t, V.str t2, V.str last])
      have hW : (L2.upd HA W (.lst [V.non, V.str (Str.ofString ""), V.str t, V.str t2, V.str last])) W = some (.lst [V.non, V.str (Str.ofString ""), V.str t, V.str t2, V.str last]) := upd_same
      generalize L2.upd HA W (.lst [V.non, V.str (Str.ofString ""), V.str t, V.str t2, V.str last]) = HB at SW hW
      have ZB := ZA.same SW
      have l2 := twl t2 ht2
      have ll := twl last (List.mem_append_right _ List.mem_cons_self)
      refine ⟨.ref p, rfl, p, 5, rfl, ZB.bag, by decide, by decide, fun r HC r0 r1 BC bC => ?_⟩
      obtain ⟨o, ho, lo⟩ : ∃ o : Option Str, atI [V.non, V.str (Str.ofString ""), V.str t, V.str t2, V.str last] r = some (oStr o) ∧ ∀ y, o = some y → y.length ≤ 22 := by
        have c5 : r = 0 ∨ r = 1 ∨ r = 2 ∨ r = 3 ∨ r = 4 := by omega
        rcases c5 with rfl | rfl | rfl | rfl | rfl
        · exact ⟨none, atI_nat (j := 0) rfl, fun y e => by cases e⟩
        · exact ⟨some _, atI_nat (j := 1) rfl, fun y e => by cases e; decide⟩
        · exact ⟨some _, atI_nat (j := 2) rfl, fun y e => by cases e; exact tl⟩
        · exact ⟨some _, atI_nat (j := 3) rfl, fun y e => by cases e; omega⟩
        · exact ⟨some _, atI_nat (j := 4) rfl, fun y e => by cases e; omega⟩
      have ZC := ZB.draw BC bC
      refine ⟨W, _, r, oStr o, rfl, rfl, sqOf (bC _ _ hW Wp), ho, ?_⟩
      clear ho hW SW nW ZB ZA TA T9 Z9 et2 ht2 l2 bC BC
      refine ⟨fun σ' H' => ∃ o : Option Str, σ' = [some (.ref p), some (.ref j), some (.ref d), some (.ref l), some (.ref Kp), some (.int (0 + (i : Int))), some (.str t), some (.ref L), some (.str z), some (oStr o), yA, yB, yC] ∧ (∀ y, o = some y → y.length ≤ 22) ∧ ChS C CS H H' p j d Kp es ks, ?_, ?_⟩
      · refine ⟨.ref p, rfl, p, 6, rfl, ZC.bag, by decide, by decide, fun r HA r0 r1 BA bA => ⟨rfl, _, rfl, ite2 (fun c => ?_) (fun c => ?_)⟩⟩
        · have ZA := ZC.draw BA bA
          exact ⟨.ref p, rfl, p, 14, rfl, ZA.bag, by decide, by decide, fun z2 HB tzB lzB BB bB => ⟨some z2, rfl, fun y e => by cases e; exact lzB, ZA.draw BB bB⟩⟩
        · exact ⟨o, rfl, lo, ZC.draw BA bA⟩
      clear ZC lo o
      rintro σ1 HC ⟨o, rfl, lo, ZC⟩
      have lo' : ∀ y, o = some y → y.length ≤ 1000 := fun y e => Nat.le_trans (lo y e) (by decide)
      have lpl := plOf_len es
      -- what is due
      refine ⟨.ref d, rfl, .str t, rfl, .str z, rfl, oStr o, rfl, d, t, z, o, es, rfl, ZC.pl, by omega, by omega, lo', fun a b hd T HD SD hTD => ?_, fun hd HD SD => ?_⟩
      · have ZD := ZC.same SD
        refine ⟨.ref j, rfl, .str t, rfl, .str z, rfl, oStr o, rfl, j, t, z, o, _, rfl, ZD.so, by omega, by omega, lo', by omega, by omega, fun a2 b2 hd2 T2 HE SE hTE => ?_, fun hd2 => absurd (hd.symm.trans hd2) (fun z => by cases z)⟩
        rw [hd] at hd2
        cases hd2
        have ZE := ZD.same SE
        have sg : Sg a ∧ Sg b := by
          unfold dueO at hd
          split at hd
          · cases hd; exact ⟨by unfold Sg; decide +kernel, by unfold Sg; decide +kernel⟩
          · split at hd
            · cases hd; exact ⟨by unfold Sg; decide +kernel, txz.sg⟩
            · split at hd
              · cases hd; exact ⟨by unfold Sg; decide +kernel, by unfold Sg; decide +kernel⟩
              · cases hd
        refine ⟨.ref T, rfl, rfl, true, rfl, .ref T2, rfl, .ref T, rfl, _, _, dp_2 (p := (a, b)) hTE, dp_2 (p := (a, b)) (SE _ _ hTD), shaped_2 (p := (a, b)) sg, shaped_2 (p := (a, b)) sg, _, rfl, ?_⟩
        rw [eqv_self (shaped_2 (p := (a, b)) sg)]
        refine ⟨.ref T, rfl, rfl, false, rfl, ?_⟩
        exact ⟨j, d, es, ks, _, _, _, _, _, _, _, _, rfl, ZE, by omega, by omega, by omega⟩
      · have ZD := ZC.same SD
        refine ⟨.ref j, rfl, .str t, rfl, .str z, rfl, oStr o, rfl, j, t, z, o, _, rfl, ZD.so, by omega, by omega, lo', by omega, by omega, fun a2 b2 hd2 => absurd (hd.symm.trans hd2) (fun z => by cases z), fun _ T x HE SE hTE SO => ?_⟩
        have ZE := ZD.same SE
        refine ⟨.non, rfl, rfl, false, rfl, ?_⟩
        refine ⟨.non, rfl, rfl, true, rfl, ?_⟩
        have nd1 : ¬ due1 z o = true := fun e => by
          unfold dueO at hd
          rw [if_pos e] at hd
          cases hd
        have nd2 : ¬ due2 (plOf es) t z o = true := fun e => by
          unfold dueO at hd
          rw [if_neg nd1, if_pos e] at hd
          cases hd
        have nd3 : ¬ due3 t o = true := fun e => by
          unfold dueO at hd
          rw [if_neg nd1, if_neg nd2, if_pos e] at hd
          cases hd
        have za : isAddr z = true := by
          cases e : isAddr z with
          | true => rfl
          | false => exact absurd (due1_iff.mpr (.inl e)) nd1
        have olan : ∀ y, o = some y → isLane y = true := fun y e => by
          cases e2 : isLane y with
          | true => rfl
          | false => exact absurd (due1_iff.mpr (.inr ⟨y, e, e2⟩)) nd1
        have tn : isName t = true ∧ o ≠ some t := Decidable.byContradiction fun e => nd3 (due3_iff.mpr e)
        obtain ⟨dxx, dtx, dmx, hx⟩ := SO.insX
        refine ⟨.ref T, rfl, T, _, 0, .str wSorting, rfl, rfl, .of hTE, atI_nat (j := 0) rfl, rfl, false, ?_, ?_⟩
        · show V.bl (!decide (V.str wSorting = V.str wSorting)) = _
          rw [decide_eq_true rfl]
          rfl
        refine ⟨.ref T, rfl, T, _, 1, .ref x, rfl, rfl, .of hTE, atI_nat (j := 1) rfl, .ref x, .ref CS, .ref CS, .ref CS, true, rfl, tc, .base (.ins hx insS.cl insS.ha insS.hn insS.htk insS.hm), insS.me, true, rfl, ?_⟩
        refine ⟨.ref T, rfl, T, _, 1, .ref x, rfl, rfl, .of hTE, atI_nat (j := 1) rfl, ?_⟩
        refine ⟨.ref d, rfl, .str t, rfl, .str z, rfl, oStr o, rfl, d, t, z, o, es, rfl, ZE.pl, tn.1, za, fun y e => ⟨olan y e, fun e2 => tn.2 (by rw [e, e2])⟩, by omega, by omega, fun F2 es2 HF SF PF eF => ?_⟩
        have ZF := ZE.same SF
        have SOF : SortOf C CS HF x (plOf es2) := by rw [eF]; exact SO.same SF
        have lenF : es2.length ≤ es.length + 1 := by
          rw [← plOf_len, eF]
          have := plAft_len (pl := plOf es) (t := t) (p := z) (o := o)
          omega
        have totF : tot (plOf es2) ≤ tot (plOf es) + 1 := by rw [eF]; exact tot_aft g.n
        have ZF2 : ChS C CS H HF p x F2 Kp es2 ks := ⟨ZF.bag, ZF.but, SOF, PF, ZF.kp, ZF.np⟩
        refine ⟨.ref Kp, rfl, .inl ⟨rfl, _, sqOf ZF.kp.l⟩, .ref x, rfl, .ref F2, rfl, by show 2 ≤ sizeLine; omega, fun T3 nT3 => ?_⟩
        have ZG := ZF2.same (same_upd nT3 (o := .tup [V.ref x, .ref F2]))
        have hT3 : (L2.upd HF T3 (.tup [V.ref x, .ref F2])) T3 = some (.tup [.ref x, .ref F2]) := upd_same
        generalize L2.upd HF T3 (.tup [V.ref x, .ref F2]) = HG at ZG hT3
        refine ⟨Kp, _, .ref T3, rfl, rfl, ZG.kp.l, by rw [List.length_map]; omega, ?_⟩
        have ZH := ZG.more nKH hT3 (by omega) (by omega)
        generalize L2.upd HG Kp (.lst (ks.map (fun k => V.ref k.1) ++ [.ref T3])) = HH at ZH
        exact ⟨.ref p, rfl, .ref x, rfl, .ref F2, rfl, .ref l, rfl, .str t, rfl, .str z, rfl, p, x, F2, l, t, z, es2, _, rfl, ZH.bag, ZH.so, ZH.pl, hT.but hB ZH.but, by omega, tn.1, by omega, by omega, fun HI BI bI => ⟨true, rfl, x, F2, es2, _, _, _, _, _, _, _, _, _, rfl, ZH.draw BI bI, by omega, by omega, by rw [List.length_append]; show ks.length + 1 ≤ _; omega⟩⟩
    · obtain ⟨j, d, es, ks, y5, y6, y7, y8, y9, yA, yB, yC, rfl, Z3, les, tes, lks⟩ := hP
      refine ⟨.ref Kp, rfl, Kp, rfl, ⟨_, sqOf Z3.kp.l⟩, ?_⟩
      refine for_it (walk_list (a := Kp) (xs := ks.map fun k => V.ref k.1)) (fun i σ H' => (∃ yC, σ = [some (.ref p), some (.ref j), some (.ref d), some (.ref l), some (.ref Kp), y5, y6, y7, y8, y9, yA, yB, yC]) ∧ ChS C CS H H' p j d Kp es ks)
        ⟨⟨_, rfl⟩, Z3⟩ (fun i σ H' _ hP => sqOf hP.2.kp.l) (fun i v σ H5 H6 hi hP hy => ?_) (fun σ H5 hP => ?_)
      · obtain ⟨⟨yC, rfl⟩, Z6⟩ := hP
        obtain ⟨rfl, ev⟩ := hy
        rw [List.getElem?_map] at ev
        cases ek : ks[i]? with
        | none => rw [ek] at ev; cases ev
        | some k =>
        rw [ek] at ev
        cases (Option.some.inj ev)
        obtain ⟨kT, kS, kP, kl, kt⟩ := Z6.kp.t k (List.mem_of_getElem? ek)
        refine ⟨.ref k.1, rfl, k.1, _, 0, .ref k.2.1, rfl, rfl, .of kT, atI_nat (j := 0) rfl, .ref k.1, rfl, k.1, _, 1, .ref k.2.2.1, rfl, rfl, .of kT, atI_nat (j := 1) rfl, k.2.1, k.2.2.1, k.2.2.2, rfl, kS, kP, by omega, by omega, fun H7 S7 => ⟨true, rfl, ?_⟩⟩
        have Z7 := Z6.same S7
        have kT7 := S7 _ _ kT
        exact ⟨.ref p, rfl, .ref k.1, rfl, k.1, _, 0, .ref k.2.1, rfl, rfl, .of kT7, atI_nat (j := 0) rfl, .ref k.1, rfl, k.1, _, 1, .ref k.2.2.1, rfl, rfl, .of kT7, atI_nat (j := 1) rfl, .ref l, rfl, p, k.2.1, k.2.2.1, l, 1, k.2.2.2, _, rfl, Z7.bag, kS.same S7, kP.same S7, hT.but hB Z7.but, by omega, by omega, by omega, by decide, by decide, fun H8 B8 b8 => ⟨true, rfl, ⟨_, rfl⟩, Z7.draw B8 b8⟩⟩
      · obtain ⟨_, Z5⟩ := hP
        exact q H5 Z5.bag Z5.but
end
end Tb
namespace Tb
open PySem PySem.Spec PyProof.Rows L2
open PySem.W (AllAlike Sortable dataLe TotalLe)
abbrev sLaw : Stmt := topS 51
abbrev NLaw : List Str := ["script", "bag", "many", "most", "shape", "towns", "plan", "tables", "joined", "town"]
theorem scLaw : FnScope NLaw ["script"] (defScope sLaw) := ⟨rfl, rfl, rfl, by decide +kernel, rfl, by decide +kernel, by decide +kernel⟩
abbrev w1 : Str := ("1" : String)
theorem cut_lo (xs : List V) (k : Nat) (h : k ≤ xs.length) : cutV xs (some (k : Int)) none = xs.drop k := by
  unfold cutV
  rw [HT.sIx_nat, HT.sIx_none, Nat.min_eq_left h, List.take_of_length_le (by rw [List.length_drop]; exact Nat.le_refl _)]
theorem good_one1 : Good [(w1, wE)] := ⟨fun p hp => by rw [List.mem_singleton.mp hp]; exact ⟨show isAddr w1 = true by decide +kernel, wE_lane⟩, List.nodup_cons.mpr ⟨(fun z => by cases z), List.nodup_nil⟩⟩
def spLaw (K : PySem.W.Frag) : Sp := fun vs H Q _ => ∃ (a : Addr) (ns : List Int), vs = [.ref a] ∧ SqL K H a (ns.map V.int) ∧ ∀ H', Q (.bl true) H'
structure LaC (P : Program) (w : World) (K : PySem.W.Frag) (mg : Str → Option Value) (base : Heap) (C CS CI : Addr) : Prop where
  bag : ∃ g gd, C1 P w K mg base "_law_bag" sBag ["script"] 1 (spBag K) g gd
  draw : ∃ g gd, CDraw P w K mg base g gd
  towns : ∃ g gd, C1 P w K mg base "_law_towns" sTowns ["bag", "many"] 3 spTowns g gd
  plan : ∃ g gd, C1 P w K mg base "_law_plan" sPlan ["bag", "towns", "many", "most"] 3 spPlan g gd
  tables : ∃ g gd, C1 P w K mg base "_law_tables" sTables ["plan"] 6 (spTables C) g gd
  are : ∃ g gd, C1 P w K mg base "_law_tables_are" sTablesAre ["joined", "plan"] 4 (spTablesAre C CS) g gd
  paths : ∃ g gd, C1 P w K mg base "_law_paths_are" sPathsAre ["bag", "joined", "plan", "towns", "turns"] 8 (spPathsAre C CS) g gd
  hasno : ∃ g gd, C1 P w K mg base "_law_has_no_table" sHasNo ["joined", "town"] 4 (spHasNo C CS) g gd
  site : ∃ g gd, C1 P w K mg base "_law_one_site_more" sOneSite ["bag", "plan", "towns"] 8 spOneSite g gd
  own : ∃ g gd, C1 P w K mg base "_law_own_lane" sOwnLane ["bag", "plan", "towns"] 8 spOwnLane g gd
  hold : ∃ g gd, C1 P w K mg base "_law_changes_hold" sChHold ["bag", "joined", "plan", "towns"] 10 (spChHold C CS) g gd
  gS : mg "Sorting" = some (.ref CS)
  make : ∃ f fd, Mk K CS f ∧ Binds K fd ["self", "tables"] [] ∧ FnOk P w K mg base (L2.CX P w) 5 f fd ["self", "tables"] (spSInitX C CS CI)
section
variable {P : Program} {w : World} {K : PySem.W.Frag} {mg : Str → Option Value} {base : Heap}
theorem ok_law {f C CS CI CU : Addr} {fd : FuncData} (F : Fun K "law" "law" sLaw f fd) (B : Blt mg) (TK : TabK P w K mg base C CI CU) (LC : LaC P w K mg base C CS CI) : FnOk P w K mg base CX0 11 f fd ["script"] (spLaw K) := by
  obtain ⟨fI, fdI, MK, bT, GT⟩ := TK.make
  obtain ⟨fS, fdS, MKS, bS, GS⟩ := LC.make
  have gS := LC.gS
  obtain ⟨_, _, cBag⟩ := LC.bag
  obtain ⟨_, _, cDraw⟩ := LC.draw
  obtain ⟨_, _, cTowns⟩ := LC.towns
  obtain ⟨_, _, cPlan⟩ := LC.plan
  obtain ⟨_, _, cTables⟩ := LC.tables
  obtain ⟨_, _, cTablesAre⟩ := LC.are
  obtain ⟨_, _, cPathsAre⟩ := LC.paths
  obtain ⟨_, _, cHasNo⟩ := LC.hasno
  obtain ⟨_, _, cOneSite⟩ := LC.site
  obtain ⟨_, _, cOwnLane⟩ := LC.own
  obtain ⟨_, _, cChHold⟩ := LC.hold
  refine F.ok scLaw (fun vs H Q E h => ?_) (fun cdv A outer s H vs Q E hr h => ?_)
  · obtain ⟨a, ns, rfl, _⟩ := h
    rfl
  · obtain ⟨a, ns, rfl, hS, q⟩ := h
    have hu := hu_of hr
    have hz : sizeLine = 16777216 := rfl
    refine ⟨_, (pss_cons (ps_set (i := 1) scLaw.nd rfl (.inl rfl) (pe_call cBag.G (hr.mono (by first | decide | omega)) (by rfl) cBag.D.g cBag.D.F.kp cBag.D.b .nil pass0 (pa_cons (pv 0) pa_nil)))
      (pss_cons (ps_set (i := 2) scLaw.nd rfl (.inl rfl) (pe_call cDraw.G (hr.mono (by first | decide | omega)) (by rfl) cDraw.D.g cDraw.D.F.kp cDraw.D.b .nil pass0 (pa_cons (pv 1) (pa_cons pe_int pa_nil))))
      (pss_cons (ps_set (i := 3) scLaw.nd rfl (.inl rfl) pe_int)
      (pss_cons (ps_set (i := 4) scLaw.nd rfl (.inl rfl) (pe_call cDraw.G (hr.mono (by first | decide | omega)) (by rfl) cDraw.D.g cDraw.D.F.kp cDraw.D.b .nil pass0 (pa_cons (pv 1) (pa_cons pe_int pa_nil))))
      (C8.pss_cut (ps_if (pt_cmpR op_eq (pv 4) pe_int (nomark _))
        (pss_cons (ps_set (i := 2) scLaw.nd rfl (.inl rfl) (pe_op op_add pe_int (pe_call cDraw.G (hr.mono (by first | decide | omega)) (by rfl) cDraw.D.g cDraw.D.F.kp cDraw.D.b .nil pass0 (pa_cons (pv 1) (pa_cons pe_int pa_nil)))))
        (pss_one (ps_set (i := 3) scLaw.nd rfl (.inl rfl) pe_int)))
        pss_nil)
      (C8.pss_cut (ps_if (pt_cmpR op_eq (pv 4) pe_int (nomark _))
        (pss_cons (ps_set (i := 2) scLaw.nd rfl (.inl rfl) (pe_op op_add pe_int (pe_call cDraw.G (hr.mono (by first | decide | omega)) (by rfl) cDraw.D.g cDraw.D.F.kp cDraw.D.b .nil pass0 (pa_cons (pv 1) (pa_cons pe_int pa_nil)))))
        (pss_one (ps_set (i := 3) scLaw.nd rfl (.inl rfl) pe_int)))
        pss_nil)
      (pss_cons (ps_set (i := 5) scLaw.nd rfl (.inl rfl) (pe_call cTowns.G (hr.mono (by first | decide | omega)) (by rfl) cTowns.D.g cTowns.D.F.kp cTowns.D.b .nil pass0 (pa_cons (pv 1) (pa_cons (pv 2) pa_nil))))
      (pss_cons (ps_set (i := 6) scLaw.nd rfl (.inl rfl) (pe_call cPlan.G (hr.mono (by first | decide | omega)) (by rfl) cPlan.D.g cPlan.D.F.kp cPlan.D.b .nil pass0 (pa_cons (pv 1) (pa_cons (pv 5) (pa_cons (pv 2) (pa_cons (pv 3) pa_nil))))))
      (pss_cons (ps_set (i := 7) scLaw.nd rfl (.inl rfl) (pe_call cTables.G (hr.mono (by first | decide | omega)) (by rfl) cTables.D.g cTables.D.F.kp cTables.D.b .nil pass0 (pa_cons (pv 6) pa_nil)))
      (pss_cons (ps_set (i := 8) scLaw.nd rfl (.inl rfl) (pe_make MKS GS (hr.mono (by first | decide | omega)) (by rfl) gS bS .nil passL (pa_cons (pv 7) pa_nil)))
      (pss_cons (ps_if (pt_cmpR (op_neD hr.units) (pe_callB (cr_sortedDk rfl hr.units) (by rfl) B.sorted PyProof.Rows.boot_sorted (pa_cons (pv 7) pa_nil)) (pe_callB (cr_sortedDk rfl hr.units) (by rfl) B.sorted PyProof.Rows.boot_sorted (pa_cons (pv 6) pa_nil)) (nomark _))
        (pss_one (ps_ret pe_bl))
        pss_nil)
      (pss_cons (ps_expr (pe_dclear (pv 7)))
      (pss_cons (ps_dput hu (pv 7) (pe_ix ix_list (pv 5) (pe_un un_neg pe_int) (fun _ _ => rfl)) (pe_make MK GT (hr.mono (by first | decide | omega)) (by rfl) TK.g bT .nil passL (pa_cons (pe_lst (pa_cons (pe_tup (pa_cons pe_str (pa_cons pe_str pa_nil))) pa_nil)) pa_nil)) (by rfl))
      (pss_cons (ps_if (PW.pt (pw_or (pt_not (pt_val (pe_call cTablesAre.G (hr.mono (by first | decide | omega)) (by rfl) cTablesAre.D.g cTablesAre.D.F.kp cTablesAre.D.b .nil pass0 (pa_cons (pv 8) (pa_cons (pv 6) pa_nil))))) (pw_or1 (pt_not (pt_val (pe_call cPathsAre.G (hr.mono (by first | decide | omega)) (by rfl) cPathsAre.D.g cPathsAre.D.F.kp cPathsAre.D.b .nil pass0 (pa_cons (pv 1) (pa_cons (pv 8) (pa_cons (pv 6) (pa_cons (pv 5) (pa_cons pe_int pa_nil)))))))))))
        (pss_one (ps_ret pe_bl))
        pss_nil)
      (pss_cons (ps_for PassesOwn.never rfl (pi_list (pe_slice sl_list (pv 5) (po_some (pv 2)) po_none)) (pg_name (i := 9) scLaw.nd rfl (.inl rfl))
        (pss_one (ps_if (pt_not (pt_val (pe_call cHasNo.G (hr.mono (by first | decide | omega)) (by rfl) cHasNo.D.g cHasNo.D.F.kp cHasNo.D.b .nil pass0 (pa_cons (pv 8) (pa_cons (pv 9) pa_nil)))))
          (pss_one (ps_ret pe_bl))
          pss_nil)))
      (pss_cons (ps_if (PW.pt (pw_or (pt_not (pt_val (pe_call cOneSite.G (hr.mono (by first | decide | omega)) (by rfl) cOneSite.D.g cOneSite.D.F.kp cOneSite.D.b .nil pass0 (pa_cons (pv 1) (pa_cons (pv 6) (pa_cons (pv 5) pa_nil)))))) (pw_or1 (pt_not (pt_val (pe_call cOwnLane.G (hr.mono (by first | decide | omega)) (by rfl) cOwnLane.D.g cOwnLane.D.F.kp cOwnLane.D.b .nil pass0 (pa_cons (pv 1) (pa_cons (pv 6) (pa_cons (pv 5) pa_nil)))))))))
        (pss_one (ps_ret pe_bl))
        pss_nil)
      (pss_cons (ps_if (pt_not (pt_val (pe_call cChHold.G (hr.mono (by first | decide | omega)) (by rfl) cChHold.D.g cChHold.D.F.kp cChHold.D.b .nil pass0 (pa_cons (pv 1) (pa_cons (pv 8) (pa_cons (pv 6) (pa_cons (pv 5) pa_nil)))))))
        (pss_one (ps_ret pe_bl))
        pss_nil)
      (pss_one (ps_ret (pe_call cTablesAre.G (hr.mono (by first | decide | omega)) (by rfl) cTablesAre.D.g cTablesAre.D.F.kp cTablesAre.D.b .nil pass0 (pa_cons (pv 8) (pa_cons (pv 6) pa_nil)))))))))))))))))))))), ?_⟩
    refine ⟨.ref a, rfl, a, ns, rfl, hS, fun p H1 S1 np B1 => ?_⟩
    refine ⟨.ref p, rfl, p, 5, rfl, B1, by decide, by decide, fun m H2 m0 m1 B2 b2 => ?_⟩
    refine ⟨.ref p, rfl, p, 8, rfl, B2, by decide, by decide, fun sh H3 s0 s1 B3 b3 => ?_⟩
    clear b2 b3 B2 B1 S1
    refine ⟨fun σ' H' => ∃ m most : Int, σ' = [some (.ref a), some (.ref p), some (.int m), some (.int most), some (.int sh), none, none, none, none, none] ∧ 0 ≤ m ∧ m ≤ 20 ∧ 0 ≤ most ∧ most ≤ 30 ∧ m.toNat * (most.toNat + 1) ≤ 100 ∧ Bag H' p, ?_, ?_⟩
    · refine ⟨.int sh, rfl, rfl, _, rfl, ite2 (fun c => ?_) (fun c => ?_)⟩
      · exact ⟨.ref p, rfl, p, 13, rfl, B3, by decide, by decide, fun r H4 r0 r1 B4 b4 => ⟨8, r, rfl, rfl, 8 + r, 2, rfl, by omega, by omega, by decide, by decide, Nat.le_trans (Nat.mul_le_mul_right _ (show (8 + r).toNat ≤ 20 by omega)) (by decide), B4⟩⟩
      · exact ⟨m, 5, rfl, m0, by omega, by decide, by decide, Nat.le_trans (Nat.mul_le_mul_right _ (show m.toNat ≤ 4 by omega)) (by decide), B3⟩
    clear B3 m0 m1 m
    rintro σ1 H3 ⟨m, most, rfl, m0, m1, o0, o1, mo, B3⟩
    refine ⟨fun σ' H' => ∃ m most : Int, σ' = [some (.ref a), some (.ref p), some (.int m), some (.int most), some (.int sh), none, none, none, none, none] ∧ 0 ≤ m ∧ m ≤ 20 ∧ 0 ≤ most ∧ most ≤ 30 ∧ m.toNat * (most.toNat + 1) ≤ 100 ∧ Bag H' p, ?_, ?_⟩
    · refine ⟨.int sh, rfl, rfl, _, rfl, ite2 (fun c => ?_) (fun c => ?_)⟩
      · exact ⟨.ref p, rfl, p, 3, rfl, B3, by decide, by decide, fun r H4 r0 r1 B4 b4 => ⟨1, r, rfl, rfl, 1 + r, 30, rfl, by omega, by omega, by decide, by decide, Nat.le_trans (Nat.mul_le_mul_right _ (show (1 + r).toNat ≤ 3 by omega)) (by decide), B4⟩⟩
      · exact ⟨m, most, rfl, m0, m1, o0, o1, mo, B3⟩
    clear B3 m0 m1 o0 o1 mo m most
    rintro σ1 H3 ⟨m, most, rfl, m0, m1, o0, o1, mo, B3⟩
    refine ⟨.ref p, rfl, .int m, rfl, p, m, rfl, B3, m0, by omega, fun l ts0 H4 B4 b4 T4 lts => ?_⟩
    obtain ⟨ts, last, rfl⟩ : ∃ ts last, ts0 = ts ++ [last] := by
      cases ts0 with
      | nil => cases lts
      | cons y ys => exact ⟨_, _, (List.dropLast_concat_getLast (List.cons_ne_nil y ys)).symm⟩
    have tl : ts.length = m.toNat + 1 := by
      rw [List.length_append] at lts
      have : ([last] : List Str).length = 1 := rfl
      omega
    have tlen : (ts ++ [last]).length = ts.length + 1 := by rw [List.length_append]; rfl
    refine ⟨.ref p, rfl, .ref l, rfl, .int m, rfl, .int most, rfl, p, l, m, most, ts ++ [last], rfl, B4, T4, m0, by omega, o0, o1, mo, fun d es H5 B5 b5 P5 le5 te5 ke => ?_⟩
    have T5 := T4.but B4 b5
    have g := P5.g
    have pl := plOf_len es
    have rest : ∀ x ∈ (ts ++ [last]).drop m.toNat, x ∉ (plOf es).map Prod.fst := fun x hx hk => by
      rw [ke] at hk
      have n := T4.n
      rw [← List.take_append_drop m.toNat (ts ++ [last]), List.nodup_append] at n
      exact n.2.2 x hk x hx rfl
    have nlast : last ∉ (plOf es).map Prod.fst := rest last (by
      rw [List.drop_append_of_le_length (by omega)]
      exact List.mem_append_right _ List.mem_cons_self)
    clear T4 B4 b4 B3 b5 lts
    -- the tables and the sorting
    refine ⟨.ref d, rfl, d, es, rfl, P5, by omega, by omega, fun F1 xs H6 S6 nF TA eF => ?_⟩
    have gx : GoodPl (plOf xs) := by rw [eF]; exact g
    have lxs : xs.length = es.length := by rw [← plOf_len, eF, pl]
    refine ⟨.ref F1, rfl, ?_⟩
    intro j dj nj ndj nej
    refine sort_made2X TA gx.n (fun e he => by have := name_len (gx.e e.2 (List.mem_map.mpr ⟨e, he, rfl⟩)).1; omega) (by rw [eF]; omega) (by omega) nj ndj nej (fun _ H7 S7 SO => ⟨rfl, ?_⟩) (fun bad => absurd gx bad)
    have hF7 := S7 _ _ TA.d
    have S57 := S6.trans S7
    have txs : ∀ x ∈ ((plOf es).map Prod.fst).mergeSort le1, Tx x := fun x hx => by
      obtain ⟨e, he, rfl⟩ := List.mem_map.mp (List.mem_mergeSort.mp hx)
      exact name_tx (g.e e he).1
    have lk : ((plOf es).map Prod.fst).length = es.length := by rw [List.length_map, pl]
    have ekF : (kvE xs).map (·.1) = ((plOf es).map Prod.fst).map Sum.inr := by rw [kvE_keysK, eF]
    refine ⟨.ref F1, rfl, F1, _, (plOf es).map Prod.fst, rfl, .of hF7, ekF, by omega, fun M nM => ?_⟩
    have SM := same_upd nM (o := .lst ((((plOf es).map Prod.fst).mergeSort (PySem.W.dataLe false PyData.str)).map V.str))
    have hM : (L2.upd H7 M (.lst ((((plOf es).map Prod.fst).mergeSort (PySem.W.dataLe false PyData.str)).map V.str))) M = some (.lst ((((plOf es).map Prod.fst).mergeSort le1).map V.str)) := upd_same
    generalize L2.upd H7 M (.lst ((((plOf es).map Prod.fst).mergeSort (PySem.W.dataLe false PyData.str)).map V.str)) = H8 at SM hM
    refine ⟨.ref d, rfl, d, _, (plOf es).map Prod.fst, rfl, .of (SM _ _ (S57 _ _ P5.d)), kvE_keysK es, by omega, fun M2 nM2 => ?_⟩
    have SM2 := same_upd nM2 (o := .lst ((((plOf es).map Prod.fst).mergeSort (PySem.W.dataLe false PyData.str)).map V.str))
    have hM2 : (L2.upd H8 M2 (.lst ((((plOf es).map Prod.fst).mergeSort (PySem.W.dataLe false PyData.str)).map V.str))) M2 = some (.lst ((((plOf es).map Prod.fst).mergeSort le1).map V.str)) := upd_same
    generalize L2.upd H8 M2 (.lst ((((plOf es).map Prod.fst).mergeSort (PySem.W.dataLe false PyData.str)).map V.str)) = H9 at SM2 hM2
    refine ⟨_, _, .lst (sqOf (SM2 _ _ hM)) (dp_strs _), .lst (sqOf hM2) (dp_strs _), shaped_strs txs, shaped_strs txs, _, rfl, ?_⟩
    rw [eqv_self (shaped_strs txs)]
    have S79 := SM.trans SM2
    have hF9 := S79 _ _ hF7
    have b79 : But F1 H7 H9 := Same.but S79
    refine ⟨.ref F1, rfl, .inr (.inr (.inl ⟨rfl, .inl ⟨_, hF9⟩⟩)), F1, _, rfl, rfl, hF9, ?_⟩
    have bA : But F1 H7 (L2.upd H9 F1 (.dK [])) := b79.trans But.upd
    have hFA : (L2.upd H9 F1 (.dK [])) F1 = some (.dK (kvE [])) := upd_same
    generalize L2.upd H9 F1 (.dK []) = HA at bA hFA
    clear hM hM2 nM nM2 SM SM2 S79 b79 hF9
    refine ⟨by show 2 ≤ sizeLine; omega, fun T nT => ⟨by show 1 ≤ sizeLine; omega, fun L nL => ?_⟩⟩
    have hTB : (L2.upd (L2.upd HA T (.tup [.str w1, .str (Str.ofString "")])) L (.lst [.ref T])) T = some (.tup [.str w1, .str (Str.ofString "")]) := by
      rw [upd_ne (ne_of_none upd_same nL)]
      exact upd_same
    have hLB : (L2.upd (L2.upd HA T (.tup [.str w1, .str (Str.ofString "")])) L (.lst [.ref T])) L = some (.lst [.ref T]) := upd_same
    have SB := (same_upd nT (o := .tup [V.str w1, .str (Str.ofString "")])).trans (same_upd nL (o := .lst [V.ref T]))
    generalize L2.upd (L2.upd HA T (.tup [.str w1, .str (Str.ofString "")])) L (.lst [.ref T]) = HB at hTB hLB SB
    have RA : RowsAt HB L true [(T, (w1, wE))] := ⟨hLB, fun t ht => by rw [List.mem_singleton.mp ht]; exact hTB, by show 1 ≤ 1000; decide, fun t ht => by rw [List.mem_singleton.mp ht]; exact ⟨show w1.length ≤ 1000 by decide +kernel, show wE.length ≤ 1000 by decide +kernel⟩⟩
    intro b0 db nb ndb neb
    refine tab_made2 RA (by show 1 ≤ 900; decide) nb ndb neb (fun _ HC SC' _ => ⟨rfl, ?_⟩) (fun bad => absurd good_one1 bad)
    have SAC := SB.trans SC'
    have atl : atI ((ts ++ [last]).map V.str) (-1) = some (.str last) := by rw [List.map_append]; exact atI_last _ _
    have bC : But F1 H7 HC := bA.trans (Same.but SAC)
    have k5C : ∀ HX, But F1 H7 HX → Same H5 HX := fun HX bb c o hc => bb _ _ (S57 _ _ hc) (ne_of_none hc nF)
    refine ⟨.ref F1, rfl, .ref l, rfl, 1, rfl, l, _, _, .str last, rfl, rfl, sqOf (T5.same (k5C _ bC)).l, atl, F1, _, rfl, DPut.k (k := Sum.inr last) (SAC _ _ hFA) (by show 0 < sizeLine; omega), ?_⟩
    have bD : But F1 H7 (L2.upd HC F1 (.dK (putK (kvE []) (Sum.inr last) (.ref b0)))) := bC.trans But.upd
    generalize L2.upd HC F1 (.dK (putK (kvE []) (Sum.inr last) (.ref b0))) = HD at bD
    have SOD := SO HD bD
    rw [eF] at SOD
    have S5D := k5C _ bD
    have BD := B5.same S5D
    have PD := P5.same S5D
    have TD := T5.same S5D
    clear RA nb ndb neb SAC bC bD bA hFA hTB hLB SB SO hF7 S57 k5C nL nT nj ndj nej TA P5 B5 T5 S6 nF
    -- what the sorting tells
    refine ⟨.ref j, rfl, .ref d, rfl, j, d, es, rfl, SOD, PD, by omega, by omega, fun HE SE => ⟨true, rfl, ?_⟩⟩
    have BE := BD.same SE
    have PE' := PD.same SE
    have TE' := TD.same SE
    have SOE := SOD.same SE
    refine ⟨.ref p, rfl, .ref j, rfl, .ref d, rfl, .ref l, rfl, p, j, d, l, 6, es, _, rfl, BE, SOE, PE', TE', by omega, by omega, by omega, by decide, by decide, fun HF BF bF => ⟨true, rfl, ?_⟩⟩
    have PF := PE'.but BE bF
    have TF := TE'.but BE bF
    have SOF := SOE.but BE bF
    clear BD PD TD SOD BE PE' TE' SOE
    have em : m = ((m.toNat : Nat) : Int) := by omega
    have ecut : cutV ((ts ++ [last]).map V.str) (some m) none = ((ts ++ [last]).drop m.toNat).map V.str := by
      rw [em, cut_lo _ _ (by rw [List.length_map]; omega), List.map_drop]
      rfl
    refine ⟨.ref l, rfl, .int m, rfl, m, rfl, l, _, rfl, sqOf TF.l, fun Z nZ => ⟨Z, rfl, ⟨_, sqOf upd_same⟩, ?_⟩⟩
    rw [ecut]
    have SG := same_upd nZ (o := .lst (((ts ++ [last]).drop m.toNat).map V.str))
    have hZ : (L2.upd HF Z (.lst (((ts ++ [last]).drop m.toNat).map V.str))) Z = some (.lst (((ts ++ [last]).drop m.toNat).map V.str)) := upd_same
    generalize L2.upd HF Z (.lst (((ts ++ [last]).drop m.toNat).map V.str)) = HG at SG hZ
    have BG := BF.same SG
    have PG := PF.same SG
    have TG := TF.same SG
    have SOG := SOF.same SG
    refine for_it (walk_list (a := Z) (xs := ((ts ++ [last]).drop m.toNat).map V.str)) (fun i σ H' => (∃ y9, σ = [some (.ref a), some (.ref p), some (.int m), some (.int most), some (.int sh), some (.ref l), some (.ref d), some (.ref F1), some (.ref j), y9]) ∧ Same HG H')
      ⟨⟨none, rfl⟩, fun c o h => h⟩ (fun i σ H' _ hP => sqOf (hP.2 _ _ hZ)) (fun i v σ HH HI hi hP hy => ?_) (fun σ HH hP => ?_)
    · obtain ⟨⟨y9, rfl⟩, SH'⟩ := hP
      obtain ⟨rfl, ev⟩ := hy
      rw [List.getElem?_map] at ev
      cases et : ((ts ++ [last]).drop m.toNat)[i]? with
      | none => rw [et] at ev; cases ev
      | some x =>
      rw [et] at ev
      cases (Option.some.inj ev)
      have mx := List.mem_of_getElem? et
      have := name_len (TG.g x (List.mem_of_mem_drop mx))
      exact ⟨.ref j, rfl, .str x, rfl, j, x, _, rfl, SOG.same SH', by omega, rest x mx, fun HJ SJ => ⟨true, rfl, ⟨_, rfl⟩, SH'.trans SJ⟩⟩
    obtain ⟨⟨y9, rfl⟩, SH'⟩ := hP
    have BH := BG.same SH'
    have PH := PG.same SH'
    have TH := TG.same SH'
    have SOH := SOG.same SH'
    refine ⟨.ref p, rfl, .ref d, rfl, .ref l, rfl, p, d, l, es, _, rfl, BH, PH, TH, by omega, by omega, fun HI BI bI => ⟨true, rfl, ?_⟩⟩
    have PI := PH.but BH bI
    have TI := TH.but BH bI
    have SOI := SOH.but BH bI
    refine ⟨.ref p, rfl, .ref d, rfl, .ref l, rfl, p, d, l, es, ts, last, rfl, BI, PI, TI, nlast, by omega, by omega, fun HJ BJ bJ => ⟨true, rfl, ?_⟩⟩
    have PJ := PI.but BI bJ
    have TJ := TI.but BI bJ
    have SOJ := SOI.but BI bJ
    refine ⟨.ref p, rfl, .ref j, rfl, .ref d, rfl, .ref l, rfl, p, j, d, l, es, ts, last, rfl, BJ, SOJ, PJ, TJ, by omega, by omega, fun HK BK bK => ⟨true, rfl, ?_⟩⟩
    exact ⟨.ref j, rfl, .ref d, rfl, j, d, es, rfl, SOJ.but BJ bK, PJ.but BJ bK, by omega, by omega, fun HL _ => q HL⟩
end
end Tb
set_option maxHeartbeats 0
namespace Tb
open PySem PySem.Spec PyProof.Rows L2
theorem cls_some {K : PySem.W.Frag} {C : Addr} (h : PySem.W.hasDictIn K C = true) : (PySem.W.clsIn K C).isSome = true := by
  obtain ⟨cd, hc, _⟩ := PySem.W.any_some h
  rw [hc]
  rfl
theorem kit_refC {K : PySem.W.Frag} {t : Value} {C : Addr} {b : Bool} (hd : PySem.W.hasDictIn K C = true) (ht : PySem.W.typeIn K (.ref C) = some (.type "type")) (hs : PySem.W.subIn K t (.ref C) = some b) : PySem.W.kitCls K t (.ref C) = some b := by
  have e2 : ((PySem.W.clsIn K C).isSome && PySem.W.typeIn K (.ref C) == some (.type "type")) = true := by rw [cls_some hd, ht]; rfl
  show (if ((PySem.W.clsIn K C).isSome && PySem.W.typeIn K (.ref C) == some (.type "type")) = true then PySem.W.subIn K t (.ref C) else none) = some b
  rw [if_pos e2]
  exact hs
theorem kit_tyC {K : PySem.W.Frag} {t : Value} {T : String} {b : Bool} (hT : PySem.W.kitMeta T = true) (hs : PySem.W.subIn K t (.type T) = some b) : PySem.W.kitCls K t (.type T) = some b := by
  show (if PySem.W.kitMeta T = true then PySem.W.subIn K t (.type T) else none) = some b
  rw [if_pos hT]
  exact hs
theorem kit_t {K : PySem.W.Frag} {t c : Value} (h : PySem.W.kitCls K t c = some true) : PySem.W.kitOne K t c = some true := by
  unfold PySem.W.kitOne
  by_cases e : (t == c) = true
  · rw [if_pos e]
  · rw [if_neg e]
    exact h
theorem kit_f {K : PySem.W.Frag} {t c : Value} (e : (t == c) = false) (h : PySem.W.kitCls K t c = some false) : PySem.W.kitOne K t c = some false := by
  unfold PySem.W.kitOne
  rw [if_neg (by rw [e]; exact Bool.false_ne_true)]
  exact h
theorem kit_nil {K : PySem.W.Frag} {t : Value} : PySem.W.kitAny K t [] = some false := rfl
theorem kit_no {K : PySem.W.Frag} {t c : Value} {r : List Value} (h : PySem.W.kitOne K t c = some false) (hr : PySem.W.kitAny K t r = some false) : PySem.W.kitAny K t (c :: r) = some false := by
  show (match PySem.W.kitOne K t c with | some true => some true | some false => PySem.W.kitAny K t r | none => none) = some false
  rw [h]
  exact hr
theorem all_mk {l : PySem.W.OpenLaw} {w : World} {K : PySem.W.Frag} {h : Heap} {mg : Str → Option Value} {fa f1 f2 f3 f4 f5 f6 f7 f8 f9 f10 f11 f12 f13 f14 f15 f16 f17 f18 f19 f20 f21 f22 f23 f24 f25 f26 f27 f28 f29 f30 f31 f32 f33 f34 f35 f36 CI mI CU mU CP C pR mI2 mC mL mX mR CS mSI mSX mSN mST mSV mSL mSP : Addr} (X : K.In h) (G : h.Ns mainGlobals mg) (hfa : mg "law" = some (.ref fa))
    {od1 an1 od2 an2 od3 an3 od4 an4 od5 an5 od6 an6 od7 an7 od8 an8 od9 an9 od10 an10 od11 an11 od12 an12 od13 an13 od14 an14 od15 an15 od16 an16 od17 an17 od18 an18 od19 an19 od20 an20 od21 an21 od22 an22 od23 an23 od24 an24 od25 an25 od26 an26 od27 an27 od28 an28 od29 an29 od30 an30 od31 an31 od32 an32 od33 an33 od34 an34 od35 an35 od36 an36 odmI anmI odmU anmU odmI2 anmI2 odmC anmC odmL anmL odmX anmX odmR anmR odmSI anmSI odmSX anmSX odmSN anmSN odmST anmST odmSV anmSV odmSL anmSL odmSP anmSP : Option Addr} {sl1 sl2 sl3 sl4 sl5 sl6 sl7 sl8 sl9 sl10 sl11 sl12 sl13 sl14 sl15 sl16 sl17 sl18 sl19 sl20 sl21 sl22 sl23 sl24 sl25 sl26 sl27 sl28 sl29 sl30 sl31 sl32 sl33 sl34 sl35 sl36 slmI slmU slmI2 slmC slmL slmX slmR slmSI slmSX slmSN slmST slmSV slmSL slmSP : Array (Option Value)} {oc1 kV1 dc1 pm1 cd1 ct1 oc2 kV2 dc2 pm2 cd2 ct2 oc3 kV3 dc3 pm3 cd3 ct3 oc4 kV4 dc4 pm4 cd4 ct4 oc5 kV5 dc5 pm5 cd5 ct5 oc6 kV6 dc6 pm6 cd6 ct6 oc7 kV7 dc7 pm7 cd7 ct7 oc8 kV8 dc8 pm8 cd8 ct8 oc9 kV9 dc9 pm9 cd9 ct9 oc10 kV10 dc10 pm10 cd10 ct10 oc11 kV11 dc11 pm11 cd11 ct11 oc12 kV12 dc12 pm12 cd12 ct12 oc13 kV13 dc13 pm13 cd13 ct13 oc14 kV14 dc14 pm14 cd14 ct14 oc15 kV15 dc15 pm15 cd15 ct15 oc16 kV16 dc16 pm16 cd16 ct16 oc17 kV17 dc17 pm17 cd17 ct17 oc18 kV18 dc18 pm18 cd18 ct18 oc19 kV19 dc19 pm19 cd19 ct19 oc20 kV20 dc20 pm20 cd20 ct20 oc21 kV21 dc21 pm21 cd21 ct21 oc22 kV22 dc22 pm22 cd22 ct22 oc23 kV23 dc23 pm23 cd23 ct23 oc24 kV24 dc24 pm24 cd24 ct24 oc25 kV25 dc25 pm25 cd25 ct25 oc26 kV26 dc26 pm26 cd26 ct26 oc27 kV27 dc27 pm27 cd27 ct27 oc28 kV28 dc28 pm28 cd28 ct28 oc29 kV29 dc29 pm29 cd29 ct29 oc30 kV30 dc30 pm30 cd30 ct30 oc31 kV31 dc31 pm31 cd31 ct31 oc32 kV32 dc32 pm32 cd32 ct32 oc33 kV33 dc33 pm33 cd33 ct33 oc34 kV34 dc34 pm34 cd34 ct34 oc35 kV35 dc35 pm35 cd35 ct35 oc36 kV36 dc36 pm36 cd36 ct36 ocmI kVmI dcmI pmmI cdmI ctmI ocmU kVmU dcmU pmmU cdmU ctmU ocmI2 kVmI2 dcmI2 pmmI2 cdmI2 ctmI2 ocmC kVmC dcmC pmmC cdmC ctmC ocmL kVmL dcmL pmmL cdmL ctmL ocmX kVmX dcmX pmmX cdmX ctmX ocmR kVmR dcmR pmmR cdmR ctmR ocmSI kVmSI dcmSI pmmSI cdmSI ctmSI ocmSX kVmSX dcmSX pmmSX cdmSX ctmSX ocmSN kVmSN dcmSN pmmSN cdmSN ctmSN ocmST kVmST dcmST pmmST cdmST ctmST ocmSV kVmSV dcmSV pmmSV cdmSV ctmSV ocmSL kVmSL dcmSL pmmSL cdmSL ctmSL ocmSP kVmSP dcmSP pmmSP cdmSP ctmSP : Value}
    {tDG tLT tHR : Tok}
    {nmI qI} {NI} {bsI} {bmI} {snI} {subI} {abI} {colI} {ddI} {k0I} {k1I} {k2I} {k3I} {k5I}
    {nmU qU} {NU} {bsU} {bmU} {snU} {subU} {abU} {colU} {ddU} {k0U} {k1U} {k2U} {k3U} {k5U}
    {restR : List Value}
    (a1 : PySem.W.nsIn K mainGlobals "made_of" = some (some (.ref f1)))
    (l1 : K.lookup f1 = some ⟨oc1, od1, .func (PySem.W.fnOf "made_of" "made_of" (defArgs sMade) (defBody sMade) (defScope sMade) .none kV1 dc1 pm1 an1 cd1 ct1), sl1⟩)
    (c1 : PySem.W.codeIn K cd1 "made_of" = true)
    (k1 : PySem.W.keepIn K (.ref f1) = true)
    (a2 : PySem.W.nsIn K mainGlobals "spells_address" = some (some (.ref f2)))
    (l2 : K.lookup f2 = some ⟨oc2, od2, .func (PySem.W.fnOf "spells_address" "spells_address" (defArgs sSpells) (defBody sSpells) (defScope sSpells) .none kV2 dc2 pm2 an2 cd2 ct2), sl2⟩)
    (c2 : PySem.W.codeIn K cd2 "spells_address" = true)
    (k2 : PySem.W.keepIn K (.ref f2) = true)
    (a3 : PySem.W.nsIn K mainGlobals "is_name" = some (some (.ref f3)))
    (l3 : K.lookup f3 = some ⟨oc3, od3, .func (PySem.W.fnOf "is_name" "is_name" (defArgs sIsName) (defBody sIsName) (defScope sIsName) .none kV3 dc3 pm3 an3 cd3 ct3), sl3⟩)
    (c3 : PySem.W.codeIn K cd3 "is_name" = true)
    (k3 : PySem.W.keepIn K (.ref f3) = true)
    (a4 : PySem.W.nsIn K mainGlobals "is_address" = some (some (.ref f4)))
    (l4 : K.lookup f4 = some ⟨oc4, od4, .func (PySem.W.fnOf "is_address" "is_address" (defArgs sIsAddr) (defBody sIsAddr) (defScope sIsAddr) .none kV4 dc4 pm4 an4 cd4 ct4), sl4⟩)
    (c4 : PySem.W.codeIn K cd4 "is_address" = true)
    (k4 : PySem.W.keepIn K (.ref f4) = true)
    (a5 : PySem.W.nsIn K mainGlobals "longest_prefix" = some (some (.ref f5)))
    (l5 : K.lookup f5 = some ⟨oc5, od5, .func (PySem.W.fnOf "longest_prefix" "longest_prefix" (defArgs sLong) (defBody sLong) (defScope sLong) .none kV5 dc5 pm5 an5 cd5 ct5), sl5⟩)
    (c5 : PySem.W.codeIn K cd5 "longest_prefix" = true)
    (k5 : PySem.W.keepIn K (.ref f5) = true)
    (a6 : PySem.W.nsIn K mainGlobals "_is_lane" = some (some (.ref f6)))
    (l6 : K.lookup f6 = some ⟨oc6, od6, .func (PySem.W.fnOf "_is_lane" "_is_lane" (defArgs sIsLane) (defBody sIsLane) (defScope sIsLane) .none kV6 dc6 pm6 an6 cd6 ct6), sl6⟩)
    (c6 : PySem.W.codeIn K cd6 "_is_lane" = true)
    (k6 : PySem.W.keepIn K (.ref f6) = true)
    (a7 : PySem.W.nsIn K mainGlobals "_lane" = some (some (.ref f7)))
    (l7 : K.lookup f7 = some ⟨oc7, od7, .func (PySem.W.fnOf "_lane" "_lane" (defArgs sLane) (defBody sLane) (defScope sLane) .none kV7 dc7 pm7 an7 cd7 ct7), sl7⟩)
    (c7 : PySem.W.codeIn K cd7 "_lane" = true)
    (k7 : PySem.W.keepIn K (.ref f7) = true)
    (a8 : PySem.W.nsIn K mainGlobals "_lanes_of" = some (some (.ref f8)))
    (l8 : K.lookup f8 = some ⟨oc8, od8, .func (PySem.W.fnOf "_lanes_of" "_lanes_of" (defArgs sLanesOf) (defBody sLanesOf) (defScope sLanesOf) .none kV8 dc8 pm8 an8 cd8 ct8), sl8⟩)
    (c8 : PySem.W.codeIn K cd8 "_lanes_of" = true)
    (k8 : PySem.W.keepIn K (.ref f8) = true)
    (a9 : PySem.W.nsIn K mainGlobals "_marks_of" = some (some (.ref f9)))
    (l9 : K.lookup f9 = some ⟨oc9, od9, .func (PySem.W.fnOf "_marks_of" "_marks_of" (defArgs sMarksOf) (defBody sMarksOf) (defScope sMarksOf) .none kV9 dc9 pm9 an9 cd9 ct9), sl9⟩)
    (c9 : PySem.W.codeIn K cd9 "_marks_of" = true)
    (k9 : PySem.W.keepIn K (.ref f9) = true)
    (a10 : PySem.W.nsIn K mainGlobals "_law_bag" = some (some (.ref f10)))
    (l10 : K.lookup f10 = some ⟨oc10, od10, .func (PySem.W.fnOf "_law_bag" "_law_bag" (defArgs sBag) (defBody sBag) (defScope sBag) .none kV10 dc10 pm10 an10 cd10 ct10), sl10⟩)
    (c10 : PySem.W.codeIn K cd10 "_law_bag" = true)
    (k10 : PySem.W.keepIn K (.ref f10) = true)
    (a11 : PySem.W.nsIn K mainGlobals "_law_draw" = some (some (.ref f11)))
    (l11 : K.lookup f11 = some ⟨oc11, od11, .func (PySem.W.fnOf "_law_draw" "_law_draw" (defArgs sDraw) (defBody sDraw) (defScope sDraw) .none kV11 dc11 pm11 an11 cd11 ct11), sl11⟩)
    (c11 : PySem.W.codeIn K cd11 "_law_draw" = true)
    (k11 : PySem.W.keepIn K (.ref f11) = true)
    (a12 : PySem.W.nsIn K mainGlobals "_law_fresh_name" = some (some (.ref f12)))
    (l12 : K.lookup f12 = some ⟨oc12, od12, .func (PySem.W.fnOf "_law_fresh_name" "_law_fresh_name" (defArgs sFresh) (defBody sFresh) (defScope sFresh) .none kV12 dc12 pm12 an12 cd12 ct12), sl12⟩)
    (c12 : PySem.W.codeIn K cd12 "_law_fresh_name" = true)
    (k12 : PySem.W.keepIn K (.ref f12) = true)
    (a13 : PySem.W.nsIn K mainGlobals "_law_prefix" = some (some (.ref f13)))
    (l13 : K.lookup f13 = some ⟨oc13, od13, .func (PySem.W.fnOf "_law_prefix" "_law_prefix" (defArgs sPrefix) (defBody sPrefix) (defScope sPrefix) .none kV13 dc13 pm13 an13 cd13 ct13), sl13⟩)
    (c13 : PySem.W.codeIn K cd13 "_law_prefix" = true)
    (k13 : PySem.W.keepIn K (.ref f13) = true)
    (a14 : PySem.W.nsIn K mainGlobals "_law_text" = some (some (.ref f14)))
    (l14 : K.lookup f14 = some ⟨oc14, od14, .func (PySem.W.fnOf "_law_text" "_law_text" (defArgs sText) (defBody sText) (defScope sText) .none kV14 dc14 pm14 an14 cd14 ct14), sl14⟩)
    (c14 : PySem.W.codeIn K cd14 "_law_text" = true)
    (k14 : PySem.W.keepIn K (.ref f14) = true)
    (a15 : PySem.W.nsIn K mainGlobals "_law_is_address" = some (some (.ref f15)))
    (l15 : K.lookup f15 = some ⟨oc15, od15, .func (PySem.W.fnOf "_law_is_address" "_law_is_address" (defArgs sLAddr) (defBody sLAddr) (defScope sLAddr) .none kV15 dc15 pm15 an15 cd15 ct15), sl15⟩)
    (c15 : PySem.W.codeIn K cd15 "_law_is_address" = true)
    (k15 : PySem.W.keepIn K (.ref f15) = true)
    (a16 : PySem.W.nsIn K mainGlobals "_law_is_name" = some (some (.ref f16)))
    (l16 : K.lookup f16 = some ⟨oc16, od16, .func (PySem.W.fnOf "_law_is_name" "_law_is_name" (defArgs sLName) (defBody sLName) (defScope sLName) .none kV16 dc16 pm16 an16 cd16 ct16), sl16⟩)
    (c16 : PySem.W.codeIn K cd16 "_law_is_name" = true)
    (k16 : PySem.W.keepIn K (.ref f16) = true)
    (a17 : PySem.W.nsIn K mainGlobals "_law_lane" = some (some (.ref f17)))
    (l17 : K.lookup f17 = some ⟨oc17, od17, .func (PySem.W.fnOf "_law_lane" "_law_lane" (defArgs sLLane) (defBody sLLane) (defScope sLLane) .none kV17 dc17 pm17 an17 cd17 ct17), sl17⟩)
    (c17 : PySem.W.codeIn K cd17 "_law_lane" = true)
    (k17 : PySem.W.keepIn K (.ref f17) = true)
    (a18 : PySem.W.nsIn K mainGlobals "_law_after" = some (some (.ref f18)))
    (l18 : K.lookup f18 = some ⟨oc18, od18, .func (PySem.W.fnOf "_law_after" "_law_after" (defArgs sLAfter) (defBody sLAfter) (defScope sLAfter) .none kV18 dc18 pm18 an18 cd18 ct18), sl18⟩)
    (c18 : PySem.W.codeIn K cd18 "_law_after" = true)
    (k18 : PySem.W.keepIn K (.ref f18) = true)
    (a19 : PySem.W.nsIn K mainGlobals "_law_rows_are" = some (some (.ref f19)))
    (l19 : K.lookup f19 = some ⟨oc19, od19, .func (PySem.W.fnOf "_law_rows_are" "_law_rows_are" (defArgs sRowsAre) (defBody sRowsAre) (defScope sRowsAre) .none kV19 dc19 pm19 an19 cd19 ct19), sl19⟩)
    (c19 : PySem.W.codeIn K cd19 "_law_rows_are" = true)
    (k19 : PySem.W.keepIn K (.ref f19) = true)
    (a20 : PySem.W.nsIn K mainGlobals "_law_towns" = some (some (.ref f20)))
    (l20 : K.lookup f20 = some ⟨oc20, od20, .func (PySem.W.fnOf "_law_towns" "_law_towns" (defArgs sTowns) (defBody sTowns) (defScope sTowns) .none kV20 dc20 pm20 an20 cd20 ct20), sl20⟩)
    (c20 : PySem.W.codeIn K cd20 "_law_towns" = true)
    (k20 : PySem.W.keepIn K (.ref f20) = true)
    (a21 : PySem.W.nsIn K mainGlobals "_law_plan" = some (some (.ref f21)))
    (l21 : K.lookup f21 = some ⟨oc21, od21, .func (PySem.W.fnOf "_law_plan" "_law_plan" (defArgs sPlan) (defBody sPlan) (defScope sPlan) .none kV21 dc21 pm21 an21 cd21 ct21), sl21⟩)
    (c21 : PySem.W.codeIn K cd21 "_law_plan" = true)
    (k21 : PySem.W.keepIn K (.ref f21) = true)
    (a22 : PySem.W.nsIn K mainGlobals "_law_path" = some (some (.ref f22)))
    (l22 : K.lookup f22 = some ⟨oc22, od22, .func (PySem.W.fnOf "_law_path" "_law_path" (defArgs sLPath) (defBody sLPath) (defScope sLPath) .none kV22 dc22 pm22 an22 cd22 ct22), sl22⟩)
    (c22 : PySem.W.codeIn K cd22 "_law_path" = true)
    (k22 : PySem.W.keepIn K (.ref f22) = true)
    (a23 : PySem.W.nsIn K mainGlobals "_law_tables" = some (some (.ref f23)))
    (l23 : K.lookup f23 = some ⟨oc23, od23, .func (PySem.W.fnOf "_law_tables" "_law_tables" (defArgs sTables) (defBody sTables) (defScope sTables) .none kV23 dc23 pm23 an23 cd23 ct23), sl23⟩)
    (c23 : PySem.W.codeIn K cd23 "_law_tables" = true)
    (k23 : PySem.W.keepIn K (.ref f23) = true)
    (a24 : PySem.W.nsIn K mainGlobals "_law_stems" = some (some (.ref f24)))
    (l24 : K.lookup f24 = some ⟨oc24, od24, .func (PySem.W.fnOf "_law_stems" "_law_stems" (defArgs sStems) (defBody sStems) (defScope sStems) .none kV24 dc24 pm24 an24 cd24 ct24), sl24⟩)
    (c24 : PySem.W.codeIn K cd24 "_law_stems" = true)
    (k24 : PySem.W.keepIn K (.ref f24) = true)
    (a25 : PySem.W.nsIn K mainGlobals "_law_plan_after" = some (some (.ref f25)))
    (l25 : K.lookup f25 = some ⟨oc25, od25, .func (PySem.W.fnOf "_law_plan_after" "_law_plan_after" (defArgs sPlanAft) (defBody sPlanAft) (defScope sPlanAft) .none kV25 dc25 pm25 an25 cd25 ct25), sl25⟩)
    (c25 : PySem.W.codeIn K cd25 "_law_plan_after" = true)
    (k25 : PySem.W.keepIn K (.ref f25) = true)
    (a26 : PySem.W.nsIn K mainGlobals "_law_tables_are" = some (some (.ref f26)))
    (l26 : K.lookup f26 = some ⟨oc26, od26, .func (PySem.W.fnOf "_law_tables_are" "_law_tables_are" (defArgs sTablesAre) (defBody sTablesAre) (defScope sTablesAre) .none kV26 dc26 pm26 an26 cd26 ct26), sl26⟩)
    (c26 : PySem.W.codeIn K cd26 "_law_tables_are" = true)
    (k26 : PySem.W.keepIn K (.ref f26) = true)
    (a27 : PySem.W.nsIn K mainGlobals "_law_has_no_table" = some (some (.ref f27)))
    (l27 : K.lookup f27 = some ⟨oc27, od27, .func (PySem.W.fnOf "_law_has_no_table" "_law_has_no_table" (defArgs sHasNo) (defBody sHasNo) (defScope sHasNo) .none kV27 dc27 pm27 an27 cd27 ct27), sl27⟩)
    (c27 : PySem.W.codeIn K cd27 "_law_has_no_table" = true)
    (k27 : PySem.W.keepIn K (.ref f27) = true)
    (a28 : PySem.W.nsIn K mainGlobals "_law_one_path" = some (some (.ref f28)))
    (l28 : K.lookup f28 = some ⟨oc28, od28, .func (PySem.W.fnOf "_law_one_path" "_law_one_path" (defArgs sOnePath) (defBody sOnePath) (defScope sOnePath) .none kV28 dc28 pm28 an28 cd28 ct28), sl28⟩)
    (c28 : PySem.W.codeIn K cd28 "_law_one_path" = true)
    (k28 : PySem.W.keepIn K (.ref f28) = true)
    (a29 : PySem.W.nsIn K mainGlobals "_law_paths_are" = some (some (.ref f29)))
    (l29 : K.lookup f29 = some ⟨oc29, od29, .func (PySem.W.fnOf "_law_paths_are" "_law_paths_are" (defArgs sPathsAre) (defBody sPathsAre) (defScope sPathsAre) .none kV29 dc29 pm29 an29 cd29 ct29), sl29⟩)
    (c29 : PySem.W.codeIn K cd29 "_law_paths_are" = true)
    (k29 : PySem.W.keepIn K (.ref f29) = true)
    (a30 : PySem.W.nsIn K mainGlobals "_law_joined" = some (some (.ref f30)))
    (l30 : K.lookup f30 = some ⟨oc30, od30, .func (PySem.W.fnOf "_law_joined" "_law_joined" (defArgs sJoined) (defBody sJoined) (defScope sJoined) .none kV30 dc30 pm30 an30 cd30 ct30), sl30⟩)
    (c30 : PySem.W.codeIn K cd30 "_law_joined" = true)
    (k30 : PySem.W.keepIn K (.ref f30) = true)
    (a31 : PySem.W.nsIn K mainGlobals "_law_one_site_more" = some (some (.ref f31)))
    (l31 : K.lookup f31 = some ⟨oc31, od31, .func (PySem.W.fnOf "_law_one_site_more" "_law_one_site_more" (defArgs sOneSite) (defBody sOneSite) (defScope sOneSite) .none kV31 dc31 pm31 an31 cd31 ct31), sl31⟩)
    (c31 : PySem.W.codeIn K cd31 "_law_one_site_more" = true)
    (k31 : PySem.W.keepIn K (.ref f31) = true)
    (a32 : PySem.W.nsIn K mainGlobals "_law_own_lane" = some (some (.ref f32)))
    (l32 : K.lookup f32 = some ⟨oc32, od32, .func (PySem.W.fnOf "_law_own_lane" "_law_own_lane" (defArgs sOwnLane) (defBody sOwnLane) (defScope sOwnLane) .none kV32 dc32 pm32 an32 cd32 ct32), sl32⟩)
    (c32 : PySem.W.codeIn K cd32 "_law_own_lane" = true)
    (k32 : PySem.W.keepIn K (.ref f32) = true)
    (a33 : PySem.W.nsIn K mainGlobals "_law_changed" = some (some (.ref f33)))
    (l33 : K.lookup f33 = some ⟨oc33, od33, .func (PySem.W.fnOf "_law_changed" "_law_changed" (defArgs sLChanged) (defBody sLChanged) (defScope sLChanged) .none kV33 dc33 pm33 an33 cd33 ct33), sl33⟩)
    (c33 : PySem.W.codeIn K cd33 "_law_changed" = true)
    (k33 : PySem.W.keepIn K (.ref f33) = true)
    (a34 : PySem.W.nsIn K mainGlobals "_law_due_of_change" = some (some (.ref f34)))
    (l34 : K.lookup f34 = some ⟨oc34, od34, .func (PySem.W.fnOf "_law_due_of_change" "_law_due_of_change" (defArgs sDueCh) (defBody sDueCh) (defScope sDueCh) .none kV34 dc34 pm34 an34 cd34 ct34), sl34⟩)
    (c34 : PySem.W.codeIn K cd34 "_law_due_of_change" = true)
    (k34 : PySem.W.keepIn K (.ref f34) = true)
    (a35 : PySem.W.nsIn K mainGlobals "_law_changes_hold" = some (some (.ref f35)))
    (l35 : K.lookup f35 = some ⟨oc35, od35, .func (PySem.W.fnOf "_law_changes_hold" "_law_changes_hold" (defArgs sChHold) (defBody sChHold) (defScope sChHold) .none kV35 dc35 pm35 an35 cd35 ct35), sl35⟩)
    (c35 : PySem.W.codeIn K cd35 "_law_changes_hold" = true)
    (k35 : PySem.W.keepIn K (.ref f35) = true)
    (a36 : PySem.W.nsIn K mainGlobals "law" = some (some (.ref f36)))
    (l36 : K.lookup f36 = some ⟨oc36, od36, .func (PySem.W.fnOf "law" "law" (defArgs sLaw) (defBody sLaw) (defScope sLaw) .none kV36 dc36 pm36 an36 cd36 ct36), sl36⟩)
    (c36 : PySem.W.codeIn K cd36 "law" = true)
    (k36 : PySem.W.keepIn K (.ref f36) = true)
    (z_len : PySem.W.nsIn K mainGlobals "len" = some none)
    (z_int : PySem.W.nsIn K mainGlobals "int" = some none)
    (z_str : PySem.W.nsIn K mainGlobals "str" = some none)
    (z_list : PySem.W.nsIn K mainGlobals "list" = some none)
    (z_tuple : PySem.W.nsIn K mainGlobals "tuple" = some none)
    (z_dict : PySem.W.nsIn K mainGlobals "dict" = some none)
    (z_bool : PySem.W.nsIn K mainGlobals "bool" = some none)
    (z_range : PySem.W.nsIn K mainGlobals "range" = some none)
    (z_sorted : PySem.W.nsIn K mainGlobals "sorted" = some none)
    (z_all : PySem.W.nsIn K mainGlobals "all" = some none)
    (z_isinstance : PySem.W.nsIn K mainGlobals "isinstance" = some none)
    (z_set : PySem.W.nsIn K mainGlobals "set" = some none)
    (z_ValueError : PySem.W.nsIn K mainGlobals "ValueError" = some none)
    (gDG : PySem.W.nsIn K mainGlobals "DIGITS" = some (some (.str ("0123456789" : String) tDG)))
    (gLT : PySem.W.nsIn K mainGlobals "LETTERS" = some (some (.str ("abcdefghijklmnopqrstuvwxyz" : String) tLT)))
    (gHR : PySem.W.nsIn K mainGlobals "HERE" = some (some (.str ("" : String) tHR)))
    (oHn : PySem.W.specialIn K (.builtin "object.__class__") "__get__" = some (some (.builtin "getset_descriptor.__get__")))
    (oTk : PySem.W.takesIn K (.builtin "object.__class__") = some true)
    (aIc : PySem.W.nsIn K mainGlobals "Invalid" = some (some (.ref CI)))
    (xIl : K.lookup CI = some (excClassObj nmI qI CI NI bsI bmI true snI subI abI colI ddI k0I k1I k2I k3I k5I "ValueError.__new__"))
    (xIv : PySem.HandSPX.refsVE bmI = true)
    (xIi : PySem.W.findIn K (.ref CI) "__init__" = some (some (.ref mI)))
    (xIs : PySem.W.findIn K (.ref CI) "__setattr__" = some (some (.builtin "object.__setattr__")))
    (xIe : PySem.W.subIn K (.ref CI) (.type "BaseException") = some true)
    (xIt : PySem.W.typeIn K (.ref CI) = some (.type "type"))
    (xIk : PySem.W.keepIn K (.ref CI) = true)
    (xIg : PySem.W.findIn K (.ref CI) "__getattribute__" = some (some (.builtin "BaseException.__getattribute__")))
    (xIa : PySem.W.findIn K (.ref CI) "__getattr__" = some none)
    (xIh : PySem.W.hasDictIn K CI = true)
    (xIn : PySem.W.findIn K (.ref CI) "what" = some none)
    (xIy : PySem.W.typeIn K (.ref mI) = some (.type "function"))
    (xIo : PySem.W.findIn K (.ref CI) "__class__" = some (some (.builtin "object.__class__")))
    (xIm : PySem.W.mroIn K CI (.type "object") = some true)
    (lmI : K.lookup mI = some ⟨ocmI, odmI, .func (PySem.W.fnOf "__init__" "Invalid.__init__" (defArgs sInv) (defBody sInv) (defScope sInv) .none kVmI dcmI pmmI anmI cdmI ctmI), slmI⟩)
    (cmI : PySem.W.codeIn K cdmI "Invalid.__init__" = true)
    (kmI : PySem.W.keepIn K (.ref mI) = true)
    (aUc : PySem.W.nsIn K mainGlobals "Unknown" = some (some (.ref CU)))
    (xUl : K.lookup CU = some (excClassObj nmU qU CU NU bsU bmU true snU subU abU colU ddU k0U k1U k2U k3U k5U "ValueError.__new__"))
    (xUv : PySem.HandSPX.refsVE bmU = true)
    (xUi : PySem.W.findIn K (.ref CU) "__init__" = some (some (.ref mU)))
    (xUs : PySem.W.findIn K (.ref CU) "__setattr__" = some (some (.builtin "object.__setattr__")))
    (xUe : PySem.W.subIn K (.ref CU) (.type "BaseException") = some true)
    (xUt : PySem.W.typeIn K (.ref CU) = some (.type "type"))
    (xUk : PySem.W.keepIn K (.ref CU) = true)
    (xUg : PySem.W.findIn K (.ref CU) "__getattribute__" = some (some (.builtin "BaseException.__getattribute__")))
    (xUa : PySem.W.findIn K (.ref CU) "__getattr__" = some none)
    (xUh : PySem.W.hasDictIn K CU = true)
    (xUn : PySem.W.findIn K (.ref CU) "name" = some none)
    (xUy : PySem.W.typeIn K (.ref mU) = some (.type "function"))
    (xUo : PySem.W.findIn K (.ref CU) "__class__" = some (some (.builtin "object.__class__")))
    (xUm : PySem.W.mroIn K CU (.type "object") = some true)
    (lmU : K.lookup mU = some ⟨ocmU, odmU, .func (PySem.W.fnOf "__init__" "Unknown.__init__" (defArgs sUnk) (defBody sUnk) (defScope sUnk) .none kVmU dcmU pmmU anmU cdmU ctmU), slmU⟩)
    (cmU : PySem.W.codeIn K cdmU "Unknown.__init__" = true)
    (kmU : PySem.W.keepIn K (.ref mU) = true)
    (aPc : PySem.W.nsIn K mainGlobals "ParcelError" = some (some (.ref CP)))
    (xPh : PySem.W.hasDictIn K CP = true)
    (xPt : PySem.W.typeIn K (.ref CP) = some (.type "type"))
    (sIP : PySem.W.subIn K (.ref CI) (.ref CP) = some true)
    (sIV : PySem.W.subIn K (.ref CI) (.type "ValueError") = some true)
    (sIU : PySem.W.subIn K (.ref CI) (.ref CU) = some false)
    (nsIU : (Value.ref CI == Value.ref CU) = false)
    (sII : PySem.W.subIn K (.ref CI) (.ref CI) = some true)
    (sUU : PySem.W.subIn K (.ref CU) (.ref CU) = some true)
    (sUI : PySem.W.subIn K (.ref CU) (.ref CI) = some false)
    (nsUI : (Value.ref CU == Value.ref CI) = false)
    (sUP : PySem.W.subIn K (.ref CU) (.ref CP) = some true)
    (aT : PySem.W.nsIn K mainGlobals "Table" = some (some (.ref C)))
    (tI2 : PySem.W.findIn K (.ref C) "__init__" = some (some (.ref mI2)))
    (lmI2 : K.lookup mI2 = some ⟨ocmI2, odmI2, .func (PySem.W.fnOf "__init__" "Table.__init__" (defArgs sTInit) (defBody sTInit) (defScope sTInit) .none kVmI2 dcmI2 pmmI2 anmI2 cdmI2 ctmI2), slmI2⟩)
    (cmI2 : PySem.W.codeIn K cdmI2 "Table.__init__" = true)
    (kmI2 : PySem.W.keepIn K (.ref mI2) = true)
    (nI2 : PySem.W.isFn K (.ref mI2) = true)
    (tC : PySem.W.findIn K (.ref C) "__call__" = some (some (.ref mC)))
    (lmC : K.lookup mC = some ⟨ocmC, odmC, .func (PySem.W.fnOf "__call__" "Table.__call__" (defArgs sTCall) (defBody sTCall) (defScope sTCall) .none kVmC dcmC pmmC anmC cdmC ctmC), slmC⟩)
    (cmC : PySem.W.codeIn K cdmC "Table.__call__" = true)
    (kmC : PySem.W.keepIn K (.ref mC) = true)
    (nC : PySem.W.isFn K (.ref mC) = true)
    (tL : PySem.W.findIn K (.ref C) "__len__" = some (some (.ref mL)))
    (lmL : K.lookup mL = some ⟨ocmL, odmL, .func (PySem.W.fnOf "__len__" "Table.__len__" (defArgs sTLen) (defBody sTLen) (defScope sTLen) .none kVmL dcmL pmmL anmL cdmL ctmL), slmL⟩)
    (cmL : PySem.W.codeIn K cdmL "Table.__len__" = true)
    (kmL : PySem.W.keepIn K (.ref mL) = true)
    (nL : PySem.W.isFn K (.ref mL) = true)
    (tX : PySem.W.findIn K (.ref C) "changed" = some (some (.ref mX)))
    (lmX : K.lookup mX = some ⟨ocmX, odmX, .func (PySem.W.fnOf "changed" "Table.changed" (defArgs sTChanged) (defBody sTChanged) (defScope sTChanged) .none kVmX dcmX pmmX anmX cdmX ctmX), slmX⟩)
    (cmX : PySem.W.codeIn K cdmX "Table.changed" = true)
    (kmX : PySem.W.keepIn K (.ref mX) = true)
    (nX : PySem.W.isFn K (.ref mX) = true)
    (fnC : PySem.W.fnIn K mC = true)
    (tR : PySem.W.findIn K (.ref C) "rows" = some (some (.ref pR)))
    (tRg : PySem.W.specialIn K (.ref pR) "__get__" = some (some (.builtin "property.__get__")))
    (tRt : PySem.W.takesIn K (.ref pR) = some true)
    (tRr : PySem.W.recIn K pR "property" = some (.ref mR :: restR))
    (lmR : K.lookup mR = some ⟨ocmR, odmR, .func (PySem.W.fnOf "rows" "Table.rows" (defArgs sTRows) (defBody sTRows) (defScope sTRows) .none kVmR dcmR pmmR anmR cdmR ctmR), slmR⟩)
    (cmR : PySem.W.codeIn K cdmR "Table.rows" = true)
    (kmR : PySem.W.keepIn K (.ref mR) = true)
    (tPg : PySem.W.plainGet K C Str.empty = true)
    (tHd : PySem.W.hasDictIn K C = true)
    (tPo : PySem.W.plainOver K C = true)
    (tSa : PySem.W.findIn K (.ref C) "__setattr__" = some (some (.builtin "object.__setattr__")))
    (tNo : PySem.W.findIn K (.ref C) "_lanes" = some none)
    (tMk : PySem.W.makesIn K C = true)
    (tKp : PySem.W.keepIn K (.ref C) = true)
    (tHa : PySem.W.findIn K (.ref C) "__class__" = some (some (.builtin "object.__class__")))
    (tMr : PySem.W.mroIn K C (.type "object") = some true)
    (aS : PySem.W.nsIn K mainGlobals "Sorting" = some (some (.ref CS)))
    (tSI : PySem.W.findIn K (.ref CS) "__init__" = some (some (.ref mSI)))
    (lmSI : K.lookup mSI = some ⟨ocmSI, odmSI, .func (PySem.W.fnOf "__init__" "Sorting.__init__" (defArgs sSInit) (defBody sSInit) (defScope sSInit) .none kVmSI dcmSI pmmSI anmSI cdmSI ctmSI), slmSI⟩)
    (cmSI : PySem.W.codeIn K cdmSI "Sorting.__init__" = true)
    (kmSI : PySem.W.keepIn K (.ref mSI) = true)
    (nSI : PySem.W.isFn K (.ref mSI) = true)
    (tSX : PySem.W.findIn K (.ref CS) "changed" = some (some (.ref mSX)))
    (lmSX : K.lookup mSX = some ⟨ocmSX, odmSX, .func (PySem.W.fnOf "changed" "Sorting.changed" (defArgs sSChanged) (defBody sSChanged) (defScope sSChanged) .none kVmSX dcmSX pmmSX anmSX cdmSX ctmSX), slmSX⟩)
    (cmSX : PySem.W.codeIn K cdmSX "Sorting.changed" = true)
    (kmSX : PySem.W.keepIn K (.ref mSX) = true)
    (nSX : PySem.W.isFn K (.ref mSX) = true)
    (tSN : PySem.W.findIn K (.ref CS) "names" = some (some (.ref mSN)))
    (lmSN : K.lookup mSN = some ⟨ocmSN, odmSN, .func (PySem.W.fnOf "names" "Sorting.names" (defArgs sSNames) (defBody sSNames) (defScope sSNames) .none kVmSN dcmSN pmmSN anmSN cdmSN ctmSN), slmSN⟩)
    (cmSN : PySem.W.codeIn K cdmSN "Sorting.names" = true)
    (kmSN : PySem.W.keepIn K (.ref mSN) = true)
    (nSN : PySem.W.isFn K (.ref mSN) = true)
    (tST : PySem.W.findIn K (.ref CS) "table" = some (some (.ref mST)))
    (lmST : K.lookup mST = some ⟨ocmST, odmST, .func (PySem.W.fnOf "table" "Sorting.table" (defArgs sSTable) (defBody sSTable) (defScope sSTable) .none kVmST dcmST pmmST anmST cdmST ctmST), slmST⟩)
    (cmST : PySem.W.codeIn K cdmST "Sorting.table" = true)
    (kmST : PySem.W.keepIn K (.ref mST) = true)
    (nST : PySem.W.isFn K (.ref mST) = true)
    (tSV : PySem.W.findIn K (.ref CS) "via" = some (some (.ref mSV)))
    (lmSV : K.lookup mSV = some ⟨ocmSV, odmSV, .func (PySem.W.fnOf "via" "Sorting.via" (defArgs sSVia) (defBody sSVia) (defScope sSVia) .none kVmSV dcmSV pmmSV anmSV cdmSV ctmSV), slmSV⟩)
    (cmSV : PySem.W.codeIn K cdmSV "Sorting.via" = true)
    (kmSV : PySem.W.keepIn K (.ref mSV) = true)
    (nSV : PySem.W.isFn K (.ref mSV) = true)
    (tSL : PySem.W.findIn K (.ref CS) "lane" = some (some (.ref mSL)))
    (lmSL : K.lookup mSL = some ⟨ocmSL, odmSL, .func (PySem.W.fnOf "lane" "Sorting.lane" (defArgs sSLane) (defBody sSLane) (defScope sSLane) .none kVmSL dcmSL pmmSL anmSL cdmSL ctmSL), slmSL⟩)
    (cmSL : PySem.W.codeIn K cdmSL "Sorting.lane" = true)
    (kmSL : PySem.W.keepIn K (.ref mSL) = true)
    (nSL : PySem.W.isFn K (.ref mSL) = true)
    (tSP : PySem.W.findIn K (.ref CS) "path" = some (some (.ref mSP)))
    (lmSP : K.lookup mSP = some ⟨ocmSP, odmSP, .func (PySem.W.fnOf "path" "Sorting.path" (defArgs sSPath) (defBody sSPath) (defScope sSPath) .none kVmSP dcmSP pmmSP anmSP cdmSP ctmSP), slmSP⟩)
    (cmSP : PySem.W.codeIn K cdmSP "Sorting.path" = true)
    (kmSP : PySem.W.keepIn K (.ref mSP) = true)
    (nSP : PySem.W.isFn K (.ref mSP) = true)
    (sPg : PySem.W.plainGet K CS Str.empty = true)
    (sHd : PySem.W.hasDictIn K CS = true)
    (sPo : PySem.W.plainOver K CS = true)
    (sSa : PySem.W.findIn K (.ref CS) "__setattr__" = some (some (.builtin "object.__setattr__")))
    (sN1 : PySem.W.findIn K (.ref CS) "_tables" = some none)
    (sN2 : PySem.W.findIn K (.ref CS) "_marks" = some none)
    (sMk : PySem.W.makesIn K CS = true)
    (sHa : PySem.W.findIn K (.ref CS) "__class__" = some (some (.builtin "object.__class__")))
    (sMr : PySem.W.mroIn K CS (.type "object") = some true)
    (sKp : PySem.W.keepIn K (.ref CS) = true)
    : ∃ fd : FuncData, (∀ (s : Shared) (v : Value), BindsTo s fd ⟨[v], []⟩ [("script", v)]) ∧ ∀ base : Heap, K.In base → base.Ns mainGlobals mg → FnOk l.prog w K mg base CX0 11 fa fd ["script"] (spLaw K) := by
  have e := hfa.symm.trans (PySem.W.mg_of X G a36)
  cases e
  have F1 := fun_mk (st := sMade) l1 c1 k1
  have b1 := F1.binds (ps := ["text", "signs", "most"]) fun _ _ _ _ _ _ us hl => match us, hl with | [_, _, _], _ => rfl
  have D1 : Dd K mg "made_of" sMade ["text", "signs", "most"] f1 _ := ⟨F1, b1, PySem.W.mg_of X G a1⟩
  have F2 := fun_mk (st := sSpells) l2 c2 k2
  have b2 := F2.binds (ps := ["text"]) fun _ _ _ _ _ _ us hl => match us, hl with | [_], _ => rfl
  have D2 : Dd K mg "spells_address" sSpells ["text"] f2 _ := ⟨F2, b2, PySem.W.mg_of X G a2⟩
  have F3 := fun_mk (st := sIsName) l3 c3 k3
  have b3 := F3.binds (ps := ["text"]) fun _ _ _ _ _ _ us hl => match us, hl with | [_], _ => rfl
  have D3 : Dd K mg "is_name" sIsName ["text"] f3 _ := ⟨F3, b3, PySem.W.mg_of X G a3⟩
  have F4 := fun_mk (st := sIsAddr) l4 c4 k4
  have b4 := F4.binds (ps := ["text"]) fun _ _ _ _ _ _ us hl => match us, hl with | [_], _ => rfl
  have D4 : Dd K mg "is_address" sIsAddr ["text"] f4 _ := ⟨F4, b4, PySem.W.mg_of X G a4⟩
  have F5 := fun_mk (st := sLong) l5 c5 k5
  have b5 := F5.binds (ps := ["prefixes", "address"]) fun _ _ _ _ _ _ us hl => match us, hl with | [_, _], _ => rfl
  have D5 : Dd K mg "longest_prefix" sLong ["prefixes", "address"] f5 _ := ⟨F5, b5, PySem.W.mg_of X G a5⟩
  have F6 := fun_mk (st := sIsLane) l6 c6 k6
  have b6 := F6.binds (ps := ["text"]) fun _ _ _ _ _ _ us hl => match us, hl with | [_], _ => rfl
  have D6 : Dd K mg "_is_lane" sIsLane ["text"] f6 _ := ⟨F6, b6, PySem.W.mg_of X G a6⟩
  have F7 := fun_mk (st := sLane) l7 c7 k7
  have b7 := F7.binds (ps := ["lanes", "address"]) fun _ _ _ _ _ _ us hl => match us, hl with | [_, _], _ => rfl
  have D7 : Dd K mg "_lane" sLane ["lanes", "address"] f7 _ := ⟨F7, b7, PySem.W.mg_of X G a7⟩
  have F8 := fun_mk (st := sLanesOf) l8 c8 k8
  have b8 := F8.binds (ps := ["table"]) fun _ _ _ _ _ _ us hl => match us, hl with | [_], _ => rfl
  have D8 : Dd K mg "_lanes_of" sLanesOf ["table"] f8 _ := ⟨F8, b8, PySem.W.mg_of X G a8⟩
  have F9 := fun_mk (st := sMarksOf) l9 c9 k9
  have b9 := F9.binds (ps := ["tables"]) fun _ _ _ _ _ _ us hl => match us, hl with | [_], _ => rfl
  have D9 : Dd K mg "_marks_of" sMarksOf ["tables"] f9 _ := ⟨F9, b9, PySem.W.mg_of X G a9⟩
  have F10 := fun_mk (st := sBag) l10 c10 k10
  have b10 := F10.binds (ps := ["script"]) fun _ _ _ _ _ _ us hl => match us, hl with | [_], _ => rfl
  have D10 : Dd K mg "_law_bag" sBag ["script"] f10 _ := ⟨F10, b10, PySem.W.mg_of X G a10⟩
  have F11 := fun_mk (st := sDraw) l11 c11 k11
  have b11 := F11.binds (ps := ["bag", "size"]) fun _ _ _ _ _ _ us hl => match us, hl with | [_, _], _ => rfl
  have D11 : Dd K mg "_law_draw" sDraw ["bag", "size"] f11 _ := ⟨F11, b11, PySem.W.mg_of X G a11⟩
  have F12 := fun_mk (st := sFresh) l12 c12 k12
  have b12 := F12.binds (ps := ["bag", "known"]) fun _ _ _ _ _ _ us hl => match us, hl with | [_, _], _ => rfl
  have D12 : Dd K mg "_law_fresh_name" sFresh ["bag", "known"] f12 _ := ⟨F12, b12, PySem.W.mg_of X G a12⟩
  have F13 := fun_mk (st := sPrefix) l13 c13 k13
  have b13 := F13.binds (ps := ["bag", "known"]) fun _ _ _ _ _ _ us hl => match us, hl with | [_, _], _ => rfl
  have D13 : Dd K mg "_law_prefix" sPrefix ["bag", "known"] f13 _ := ⟨F13, b13, PySem.W.mg_of X G a13⟩
  have F14 := fun_mk (st := sText) l14 c14 k14
  have b14 := F14.binds (ps := ["bag", "most"]) fun _ _ _ _ _ _ us hl => match us, hl with | [_, _], _ => rfl
  have D14 : Dd K mg "_law_text" sText ["bag", "most"] f14 _ := ⟨F14, b14, PySem.W.mg_of X G a14⟩
  have F15 := fun_mk (st := sLAddr) l15 c15 k15
  have b15 := F15.binds (ps := ["text"]) fun _ _ _ _ _ _ us hl => match us, hl with | [_], _ => rfl
  have D15 : Dd K mg "_law_is_address" sLAddr ["text"] f15 _ := ⟨F15, b15, PySem.W.mg_of X G a15⟩
  have F16 := fun_mk (st := sLName) l16 c16 k16
  have b16 := F16.binds (ps := ["text"]) fun _ _ _ _ _ _ us hl => match us, hl with | [_], _ => rfl
  have D16 : Dd K mg "_law_is_name" sLName ["text"] f16 _ := ⟨F16, b16, PySem.W.mg_of X G a16⟩
  have F17 := fun_mk (st := sLLane) l17 c17 k17
  have b17 := F17.binds (ps := ["own", "address"]) fun _ _ _ _ _ _ us hl => match us, hl with | [_, _], _ => rfl
  have D17 : Dd K mg "_law_lane" sLLane ["own", "address"] f17 _ := ⟨F17, b17, PySem.W.mg_of X G a17⟩
  have F18 := fun_mk (st := sLAfter) l18 c18 k18
  have b18 := F18.binds (ps := ["own", "prefix", "way"]) fun _ _ _ _ _ _ us hl => match us, hl with | [_, _, _], _ => rfl
  have D18 : Dd K mg "_law_after" sLAfter ["own", "prefix", "way"] f18 _ := ⟨F18, b18, PySem.W.mg_of X G a18⟩
  have F19 := fun_mk (st := sRowsAre) l19 c19 k19
  have b19 := F19.binds (ps := ["board", "due"]) fun _ _ _ _ _ _ us hl => match us, hl with | [_, _], _ => rfl
  have D19 : Dd K mg "_law_rows_are" sRowsAre ["board", "due"] f19 _ := ⟨F19, b19, PySem.W.mg_of X G a19⟩
  have F20 := fun_mk (st := sTowns) l20 c20 k20
  have b20 := F20.binds (ps := ["bag", "many"]) fun _ _ _ _ _ _ us hl => match us, hl with | [_, _], _ => rfl
  have D20 : Dd K mg "_law_towns" sTowns ["bag", "many"] f20 _ := ⟨F20, b20, PySem.W.mg_of X G a20⟩
  have F21 := fun_mk (st := sPlan) l21 c21 k21
  have b21 := F21.binds (ps := ["bag", "towns", "many", "most"]) fun _ _ _ _ _ _ us hl => match us, hl with | [_, _, _, _], _ => rfl
  have D21 : Dd K mg "_law_plan" sPlan ["bag", "towns", "many", "most"] f21 _ := ⟨F21, b21, PySem.W.mg_of X G a21⟩
  have F22 := fun_mk (st := sLPath) l22 c22 k22
  have b22 := F22.binds (ps := ["plan", "town", "address"]) fun _ _ _ _ _ _ us hl => match us, hl with | [_, _, _], _ => rfl
  have D22 : Dd K mg "_law_path" sLPath ["plan", "town", "address"] f22 _ := ⟨F22, b22, PySem.W.mg_of X G a22⟩
  have F23 := fun_mk (st := sTables) l23 c23 k23
  have b23 := F23.binds (ps := ["plan"]) fun _ _ _ _ _ _ us hl => match us, hl with | [_], _ => rfl
  have D23 : Dd K mg "_law_tables" sTables ["plan"] f23 _ := ⟨F23, b23, PySem.W.mg_of X G a23⟩
  have F24 := fun_mk (st := sStems) l24 c24 k24
  have b24 := F24.binds (ps := ["plan"]) fun _ _ _ _ _ _ us hl => match us, hl with | [_], _ => rfl
  have D24 : Dd K mg "_law_stems" sStems ["plan"] f24 _ := ⟨F24, b24, PySem.W.mg_of X G a24⟩
  have F25 := fun_mk (st := sPlanAft) l25 c25 k25
  have b25 := F25.binds (ps := ["plan", "town", "prefix", "way"]) fun _ _ _ _ _ _ us hl => match us, hl with | [_, _, _, _], _ => rfl
  have D25 : Dd K mg "_law_plan_after" sPlanAft ["plan", "town", "prefix", "way"] f25 _ := ⟨F25, b25, PySem.W.mg_of X G a25⟩
  have F26 := fun_mk (st := sTablesAre) l26 c26 k26
  have b26 := F26.binds (ps := ["joined", "plan"]) fun _ _ _ _ _ _ us hl => match us, hl with | [_, _], _ => rfl
  have D26 : Dd K mg "_law_tables_are" sTablesAre ["joined", "plan"] f26 _ := ⟨F26, b26, PySem.W.mg_of X G a26⟩
  have F27 := fun_mk (st := sHasNo) l27 c27 k27
  have b27 := F27.binds (ps := ["joined", "town"]) fun _ _ _ _ _ _ us hl => match us, hl with | [_, _], _ => rfl
  have D27 : Dd K mg "_law_has_no_table" sHasNo ["joined", "town"] f27 _ := ⟨F27, b27, PySem.W.mg_of X G a27⟩
  have F28 := fun_mk (st := sOnePath) l28 c28 k28
  have b28 := F28.binds (ps := ["bag", "joined", "plan", "towns", "town", "address"]) fun _ _ _ _ _ _ us hl => match us, hl with | [_, _, _, _, _, _], _ => rfl
  have D28 : Dd K mg "_law_one_path" sOnePath ["bag", "joined", "plan", "towns", "town", "address"] f28 _ := ⟨F28, b28, PySem.W.mg_of X G a28⟩
  have F29 := fun_mk (st := sPathsAre) l29 c29 k29
  have b29 := F29.binds (ps := ["bag", "joined", "plan", "towns", "turns"]) fun _ _ _ _ _ _ us hl => match us, hl with | [_, _, _, _, _], _ => rfl
  have D29 : Dd K mg "_law_paths_are" sPathsAre ["bag", "joined", "plan", "towns", "turns"] f29 _ := ⟨F29, b29, PySem.W.mg_of X G a29⟩
  have F30 := fun_mk (st := sJoined) l30 c30 k30
  have b30 := F30.binds (ps := ["tables"]) fun _ _ _ _ _ _ us hl => match us, hl with | [_], _ => rfl
  have D30 : Dd K mg "_law_joined" sJoined ["tables"] f30 _ := ⟨F30, b30, PySem.W.mg_of X G a30⟩
  have F31 := fun_mk (st := sOneSite) l31 c31 k31
  have b31 := F31.binds (ps := ["bag", "plan", "towns"]) fun _ _ _ _ _ _ us hl => match us, hl with | [_, _, _], _ => rfl
  have D31 : Dd K mg "_law_one_site_more" sOneSite ["bag", "plan", "towns"] f31 _ := ⟨F31, b31, PySem.W.mg_of X G a31⟩
  have F32 := fun_mk (st := sOwnLane) l32 c32 k32
  have b32 := F32.binds (ps := ["bag", "plan", "towns"]) fun _ _ _ _ _ _ us hl => match us, hl with | [_, _, _], _ => rfl
  have D32 : Dd K mg "_law_own_lane" sOwnLane ["bag", "plan", "towns"] f32 _ := ⟨F32, b32, PySem.W.mg_of X G a32⟩
  have F33 := fun_mk (st := sLChanged) l33 c33 k33
  have b33 := F33.binds (ps := ["joined", "town", "prefix", "way"]) fun _ _ _ _ _ _ us hl => match us, hl with | [_, _, _, _], _ => rfl
  have D33 : Dd K mg "_law_changed" sLChanged ["joined", "town", "prefix", "way"] f33 _ := ⟨F33, b33, PySem.W.mg_of X G a33⟩
  have F34 := fun_mk (st := sDueCh) l34 c34 k34
  have b34 := F34.binds (ps := ["plan", "town", "prefix", "way"]) fun _ _ _ _ _ _ us hl => match us, hl with | [_, _, _, _], _ => rfl
  have D34 : Dd K mg "_law_due_of_change" sDueCh ["plan", "town", "prefix", "way"] f34 _ := ⟨F34, b34, PySem.W.mg_of X G a34⟩
  have F35 := fun_mk (st := sChHold) l35 c35 k35
  have b35 := F35.binds (ps := ["bag", "joined", "plan", "towns"]) fun _ _ _ _ _ _ us hl => match us, hl with | [_, _, _, _], _ => rfl
  have D35 : Dd K mg "_law_changes_hold" sChHold ["bag", "joined", "plan", "towns"] f35 _ := ⟨F35, b35, PySem.W.mg_of X G a35⟩
  have F36 := fun_mk (st := sLaw) l36 c36 k36
  have FmI := fun_mk (st := sInv) lmI cmI kmI
  have bmI := FmI.binds (ps := ["self", "what"]) fun _ _ _ _ _ _ us hl => match us, hl with | [_, _], _ => rfl
  have EI : ErrC K CI mI "what" := ⟨⟨⟨_, _, _, _, _, _, _, _, _, _, _, _, _, _, _, xIl, xIv⟩, xIs, xIe, xIt, xIk⟩, ⟨xIg, xIa, xIe, xIh⟩, xIn, xIi, xIy, cls_some xIh, xIo, xIm, oHn, oTk⟩
  have MI : Mm K "__init__" "Invalid.__init__" sInv ["self", "what"] mI _ := ⟨FmI, bmI⟩
  have FmU := fun_mk (st := sUnk) lmU cmU kmU
  have bmU := FmU.binds (ps := ["self", "name"]) fun _ _ _ _ _ _ us hl => match us, hl with | [_, _], _ => rfl
  have EU : ErrC K CU mU "name" := ⟨⟨⟨_, _, _, _, _, _, _, _, _, _, _, _, _, _, _, xUl, xUv⟩, xUs, xUe, xUt, xUk⟩, ⟨xUg, xUa, xUe, xUh⟩, xUn, xUi, xUy, cls_some xUh, xUo, xUm, oHn, oTk⟩
  have MU : Mm K "__init__" "Unknown.__init__" sUnk ["self", "name"] mU _ := ⟨FmU, bmU⟩
  have FmI2 := fun_mk (st := sTInit) lmI2 cmI2 kmI2
  have bmI2 := FmI2.binds (ps := ["self", "rows"]) fun _ _ _ _ _ _ us hl => match us, hl with | [_, _], _ => rfl
  have FmC := fun_mk (st := sTCall) lmC cmC kmC
  have bmC := FmC.binds (ps := ["self", "address"]) fun _ _ _ _ _ _ us hl => match us, hl with | [_, _], _ => rfl
  have FmL := fun_mk (st := sTLen) lmL cmL kmL
  have bmL := FmL.binds (ps := ["self"]) fun _ _ _ _ _ _ us hl => match us, hl with | [_], _ => rfl
  have FmX := fun_mk (st := sTChanged) lmX cmX kmX
  have bmX := FmX.binds (ps := ["self", "prefix", "lane"]) fun _ _ _ _ _ _ us hl => match us, hl with | [_, _, _], _ => rfl
  have FmR := fun_mk (st := sTRows) lmR cmR kmR
  have bmR := FmR.binds (ps := ["self"]) fun _ _ _ _ _ _ us hl => match us, hl with | [_], _ => rfl
  have FmSI := fun_mk (st := sSInit) lmSI cmSI kmSI
  have bmSI := FmSI.binds (ps := ["self", "tables"]) fun _ _ _ _ _ _ us hl => match us, hl with | [_, _], _ => rfl
  have FmSX := fun_mk (st := sSChanged) lmSX cmSX kmSX
  have bmSX := FmSX.binds (ps := ["self", "site", "prefix", "lane"]) fun _ _ _ _ _ _ us hl => match us, hl with | [_, _, _, _], _ => rfl
  have FmSN := fun_mk (st := sSNames) lmSN cmSN kmSN
  have bmSN := FmSN.binds (ps := ["self"]) fun _ _ _ _ _ _ us hl => match us, hl with | [_], _ => rfl
  have FmST := fun_mk (st := sSTable) lmST cmST kmST
  have bmST := FmST.binds (ps := ["self", "site"]) fun _ _ _ _ _ _ us hl => match us, hl with | [_, _], _ => rfl
  have FmSV := fun_mk (st := sSVia) lmSV cmSV kmSV
  have bmSV := FmSV.binds (ps := ["self", "site", "goal", "address"]) fun _ _ _ _ _ _ us hl => match us, hl with | [_, _, _, _], _ => rfl
  have FmSL := fun_mk (st := sSLane) lmSL cmSL kmSL
  have bmSL := FmSL.binds (ps := ["self", "site", "address"]) fun _ _ _ _ _ _ us hl => match us, hl with | [_, _, _], _ => rfl
  have FmSP := fun_mk (st := sSPath) lmSP cmSP kmSP
  have bmSP := FmSP.binds (ps := ["self", "site", "address"]) fun _ _ _ _ _ _ us hl => match us, hl with | [_, _, _], _ => rfl
  refine ⟨PySem.W.fnOf "law" "law" (defArgs sLaw) (defBody sLaw) (defScope sLaw) .none kV36 dc36 pm36 an36 cd36 ct36, fun s v => .of_eq rfl, fun base _ _ => ?_⟩
  have B : Blt mg := ⟨PySem.W.mg_none_of X G z_len, PySem.W.mg_none_of X G z_int, PySem.W.mg_none_of X G z_str, PySem.W.mg_none_of X G z_list, PySem.W.mg_none_of X G z_tuple, PySem.W.mg_none_of X G z_dict, PySem.W.mg_none_of X G z_bool, PySem.W.mg_none_of X G z_range, PySem.W.mg_none_of X G z_sorted, PySem.W.mg_none_of X G z_all, PySem.W.mg_none_of X G z_isinstance, ⟨_, PySem.W.mg_of X G gDG⟩, ⟨_, PySem.W.mg_of X G gLT⟩, ⟨_, PySem.W.mg_of X G gHR⟩⟩
  have zset := PySem.W.mg_none_of X G z_set
  have RI : EInv K mg CI mI _ := ⟨EI, MI, PySem.W.mg_of X G aIc⟩
  have RU : EUnk K mg CU mU _ := ⟨EU, MU, PySem.W.mg_of X G aUc⟩
  have TC : TCls K C := ⟨⟨tPg, tHd, tPo, tSa⟩, tNo⟩
  have GIA : FnOk l.prog w K mg base CX0 3 _ _ ["text"] (spT isAddr) := ok_isAddr D4.F D2 D1 B
  have GIL : FnOk l.prog w K mg base CX0 3 _ _ ["text"] (spT isLane) := ok_isLane D6.F D3 D1 B
  have GLn : FnOk l.prog w K mg base CX0 2 _ _ ["lanes", "address"] (spDA laneV) := ok_lane D7.F D5 B
  have GMI : FnOk l.prog w K mg base (L2.CX l.prog w) 4 mI2 _ ["self", "rows"] (spInit C CI) := ok_init FmI2 B TC RI D4 GIA D6 GIL
  have MK : Mk K C mI2 := ⟨tMk, tI2, nI2, tKp⟩
  have TK : TabK l.prog w K mg base C CI CU := ⟨TC, PySem.W.mg_of X G aT, ⟨TC.c, tHa, oHn, oTk, tMr, if_pos (beq_self_eq_true _)⟩, ⟨_, _, MK, bmI2, GMI⟩, ⟨_, _, _, ⟨tR, tRg, tRt, ⟨_, tRr⟩⟩, bmR, ok_trows FmR B TC⟩, ⟨_, _, tL, nL, bmL, ok_tlen FmL B TC⟩, ⟨_, _, ⟨tC, nC, fnC⟩, bmC, ok_tcall FmC D7 GLn TC⟩, ⟨_, _, ⟨tX, nX, kmX⟩, bmX, ok_tchanged FmX B TC RI RU D4 GIA MK (PySem.W.mg_of X G aT) bmI2 GMI⟩⟩
  have cIsName : C1 l.prog w K mg base "is_name" sIsName ["text"] 2 (spT isName) _ _ := ⟨D3, ok_isName D3.F D1 B⟩
  have cLanesOf : C1 l.prog w K mg base "_lanes_of" sLanesOf ["table"] 3 (spLanesOf C) _ _ := ⟨D8, ok_lanesOf D8.F B TK⟩
  have cMarksOf : C1 l.prog w K mg base "_marks_of" sMarksOf ["tables"] 3 (spMarksOf C) _ _ := ⟨D9, ok_marksOf D9.F B zset TK⟩
  have SC : SCls K CS := ⟨⟨sPg, sHd, sPo, sSa⟩, sN1, sN2⟩
  have R : Errs K mg CI mI _ CU mU _ CP := ⟨RI, RU, PySem.W.mg_of X G aPc, PySem.W.mg_none_of X G z_ValueError, kit_t (kit_refC xPh xPt sIP), kit_t (kit_tyC rfl sIV), kit_f nsIU (kit_refC xUh xUt sIU), PySem.W.exm_ref xIe xIh xIt sII, PySem.W.exm_ref xUe xUh xUt sUU, PySem.W.exm_ref xIe xIh xIt sUI⟩
  have kUP : PySem.W.kitOne K (.ref CU) (.ref CP) = some true := kit_t (kit_refC xPh xPt sUP)
  have kUI : PySem.W.kitOne K (.ref CU) (.ref CI) = some false := kit_f nsUI (kit_refC xIh xIt sUI)
  have insS : C8.InsC K CS := ⟨SC.c, sHa, oHn, oTk, sMr, if_pos (beq_self_eq_true _)⟩
  have gS : mg "Sorting" = some (.ref CS) := PySem.W.mg_of X G aS
  have GSI : FnOk l.prog w K mg base (L2.CX l.prog w) 5 mSI _ ["self", "tables"] (spSInitX C CS CI) := ok_sinitx FmSI B SC RI cIsName cLanesOf cMarksOf
  have MKS : Mk K CS mSI := ⟨sMk, tSI, nSI, sKp⟩
  have GSL : FnOk l.prog w K mg base CX0 4 mSL _ ["self", "site", "address"] (spSLane C CS) := ok_slane FmSL B SC TK
  have SLm : Meth K CS "lane" mSL := ⟨tSL, nSL, kmSL⟩
  have GSP : FnOk l.prog w K mg base CX0 5 mSP _ ["self", "site", "address"] (spSPath C CS) := ok_spath FmSP B zset SC SLm bmSL GSL
  have SPm : Meth K CS "path" mSP := ⟨tSP, nSP, kmSP⟩
  have SNm : Meth K CS "names" mSN := ⟨tSN, nSN, kmSN⟩
  have GSN : FnOk l.prog w K mg base CX0 1 mSN _ ["self"] (spSNames C CS) := ok_snames FmSN B SC
  have STm : Meth K CS "table" mST := ⟨tST, nST, kmST⟩
  have GST : FnOk l.prog w K mg base (L2.CX l.prog w) 3 mST _ ["self", "site"] (spSTable C CS CU) := ok_stable FmST SC RU
  have SVm : Meth K CS "via" mSV := ⟨tSV, nSV, kmSV⟩
  have GSV : FnOk l.prog w K mg base CX0 6 mSV _ ["self", "site", "goal", "address"] (spSVia C CS) := ok_svia FmSV B SC SPm bmSP GSP
  have SXm : Meth K CS "changed" mSX := ⟨tSX, nSX, kmSX⟩
  have GSX : FnOk l.prog w K mg base (L2.CX l.prog w) 8 mSX _ ["self", "site", "prefix", "lane"] (spSChangedX C CS CI CU) := ok_schangedx FmSX B TK SC gS MKS bmSI GSI
  have cBag : C1 l.prog w K mg base "_law_bag" sBag ["script"] 1 (spBag K) _ _ := ⟨D10, ok_bag D10.F B⟩
  have cDraw : C1 l.prog w K mg base "_law_draw" sDraw ["bag", "size"] 1 (spDraw) _ _ := ⟨D11, ok_draw D11.F B⟩
  have cFresh : C1 l.prog w K mg base "_law_fresh_name" sFresh ["bag", "known"] 2 (spFresh) _ _ := ⟨D12, ok_fresh D12.F D11 B⟩
  have cPrefix : C1 l.prog w K mg base "_law_prefix" sPrefix ["bag", "known"] 2 (spPrefix) _ _ := ⟨D13, ok_prefix D13.F D11 B⟩
  have cText : C1 l.prog w K mg base "_law_text" sText ["bag", "most"] 2 (spText) _ _ := ⟨D14, ok_text D14.F D11 B⟩
  have cLAddr : C1 l.prog w K mg base "_law_is_address" sLAddr ["text"] 1 (spT0 isAddr) _ _ := ⟨D15, ok_laddr D15.F B⟩
  have cLName : C1 l.prog w K mg base "_law_is_name" sLName ["text"] 1 (spT0 isName) _ _ := ⟨D16, ok_lname D16.F B⟩
  have cLLane : C1 l.prog w K mg base "_law_lane" sLLane ["own", "address"] 1 (spDA laneV) _ _ := ⟨D17, ok_llane D17.F B⟩
  have cAfter : C1 l.prog w K mg base "_law_after" sLAfter ["own", "prefix", "way"] 1 (spAfter) _ _ := ⟨D18, ok_lafter D18.F B⟩
  have cRowsAre : C1 l.prog w K mg base "_law_rows_are" sRowsAre ["board", "due"] 3 (spRowsAre C) _ _ := ⟨D19, ok_rowsAre D19.F B TK⟩
  have cTowns : C1 l.prog w K mg base "_law_towns" sTowns ["bag", "many"] 3 (spTowns) _ _ := ⟨D20, ok_towns D20.F B cFresh⟩
  have cPlan : C1 l.prog w K mg base "_law_plan" sPlan ["bag", "towns", "many", "most"] 3 (spPlan) _ _ := ⟨D21, ok_plan D21.F B cDraw cPrefix⟩
  have cLPath : C1 l.prog w K mg base "_law_path" sLPath ["plan", "town", "address"] 2 (spLPath) _ _ := ⟨D22, ok_lpath D22.F B cLLane⟩
  have cTables : C1 l.prog w K mg base "_law_tables" sTables ["plan"] 6 (spTables C) _ _ := ⟨D23, ok_tables D23.F B TK⟩
  have cStems : C1 l.prog w K mg base "_law_stems" sStems ["plan"] 1 (spStems) _ _ := ⟨D24, ok_stems D24.F B⟩
  have cPlanAft : C1 l.prog w K mg base "_law_plan_after" sPlanAft ["plan", "town", "prefix", "way"] 2 (spPlanAft) _ _ := ⟨D25, ok_planaft D25.F B cAfter⟩
  have cTablesAre : C1 l.prog w K mg base "_law_tables_are" sTablesAre ["joined", "plan"] 4 (spTablesAre C CS) _ _ := ⟨D26, ok_tablesare D26.F B TK SC SNm bmSN GSN STm bmST GST cRowsAre⟩
  have cHasNo : C1 l.prog w K mg base "_law_has_no_table" sHasNo ["joined", "town"] 4 (spHasNo C CS) _ _ := ⟨D27, ok_hasno D27.F B SC R kUP kUI STm bmST GST⟩
  have cOnePath : C1 l.prog w K mg base "_law_one_path" sOnePath ["bag", "joined", "plan", "towns", "town", "address"] 7 (spOnePath C CS) _ _ := ⟨D28, ok_onepath D28.F B SC cDraw cLPath cLLane SPm bmSP GSP SLm bmSL GSL SVm bmSV GSV⟩
  have cPathsAre : C1 l.prog w K mg base "_law_paths_are" sPathsAre ["bag", "joined", "plan", "towns", "turns"] 8 (spPathsAre C CS) _ _ := ⟨D29, ok_pathsare D29.F B cDraw cStems cPrefix cOnePath⟩
  have cJoined : C1 l.prog w K mg base "_law_joined" sJoined ["tables"] 7 (spJoined C CS) _ _ := ⟨D30, ok_joined D30.F B gS MKS bmSI GSI R⟩
  have cOneSite : C1 l.prog w K mg base "_law_one_site_more" sOneSite ["bag", "plan", "towns"] 8 (spOneSite) _ _ := ⟨D31, ok_onesite D31.F B TK SC gS insS cText cDraw cTables cJoined cLName cTablesAre cLPath SPm bmSP GSP⟩
  have cOwnLane : C1 l.prog w K mg base "_law_own_lane" sOwnLane ["bag", "plan", "towns"] 8 (spOwnLane) _ _ := ⟨D32, ok_ownlane D32.F B TK cDraw cTables cJoined cTablesAre cPrefix cAfter cPlanAft⟩
  have cLChanged : C1 l.prog w K mg base "_law_changed" sLChanged ["joined", "town", "prefix", "way"] 9 (spLChanged C CS) _ _ := ⟨D33, ok_lchanged D33.F SC R SXm bmSX GSX⟩
  have cDueCh : C1 l.prog w K mg base "_law_due_of_change" sDueCh ["plan", "town", "prefix", "way"] 2 (spDueCh) _ _ := ⟨D34, ok_duech D34.F B cLAddr cLName⟩
  have cChHold : C1 l.prog w K mg base "_law_changes_hold" sChHold ["bag", "joined", "plan", "towns"] 10 (spChHold C CS) _ _ := ⟨D35, ok_chhold D35.F B gS insS cDraw cText cPrefix cDueCh cLChanged cPlanAft cOnePath cTablesAre cPathsAre⟩
  exact ok_law F36 B TK ⟨⟨_, _, cBag⟩, ⟨_, _, cDraw⟩, ⟨_, _, cTowns⟩, ⟨_, _, cPlan⟩, ⟨_, _, cTables⟩, ⟨_, _, cTablesAre⟩, ⟨_, _, cPathsAre⟩, ⟨_, _, cHasNo⟩, ⟨_, _, cOneSite⟩, ⟨_, _, cOwnLane⟩, ⟨_, _, cChHold⟩, gS, ⟨_, _, MKS, bmSI, GSI⟩⟩
end Tb
open PySem PySem.W PyProof.Rows
set_option maxRecDepth 100000 in
set_option maxHeartbeats 0 in
theorem PySem.Challenge.cw_everyparcel_k06_lanes_and_paths_of_a_sor_holds : PySem.Challenge.rw_everyparcel_k06_lanes_and_paths_of_a_sor.Holds := by
  w_on; o_law; k_head; (case hw => w_witness2)
  k_fill
  refine L2.walk_of (l := PySem.Challenge.rw_everyparcel_k06_lanes_and_paths_of_a_sor) (n := 63) (k := 11) (x := "script") (CX := fun _ => L2.CX0) (sp := fun w => Tb.spLaw _) rfl (by decide) rfl ⟨rfl, by decide, by decide⟩ (fun w h Y => PySem.W.kIn_of Y) ?F (fun _ _ a ns hl _ hS => ⟨a, ns, rfl, hS, fun _ => rfl⟩) (fun _ _ _ _ _ h => h)
  case F =>
    intro w mg fa h KX G hmg
    refine' Tb.all_mk KX G hmg ?a1 ?l1 ?c1 ?k1 ?a2 ?l2 ?c2 ?k2 ?a3 ?l3 ?c3 ?k3 ?a4 ?l4 ?c4 ?k4 ?a5 ?l5 ?c5 ?k5 ?a6 ?l6 ?c6 ?k6 ?a7 ?l7 ?c7 ?k7 ?a8 ?l8 ?c8 ?k8 ?a9 ?l9 ?c9 ?k9 ?a10 ?l10 ?c10 ?k10 ?a11 ?l11 ?c11 ?k11 ?a12 ?l12 ?c12 ?k12 ?a13 ?l13 ?c13 ?k13 ?a14 ?l14 ?c14 ?k14 ?a15 ?l15 ?c15 ?k15 ?a16 ?l16 ?c16 ?k16 ?a17 ?l17 ?c17 ?k17 ?a18 ?l18 ?c18 ?k18 ?a19 ?l19 ?c19 ?k19 ?a20 ?l20 ?c20 ?k20 ?a21 ?l21 ?c21 ?k21 ?a22 ?l22 ?c22 ?k22 ?a23 ?l23 ?c23 ?k23 ?a24 ?l24 ?c24 ?k24 ?a25 ?l25 ?c25 ?k25 ?a26 ?l26 ?c26 ?k26 ?a27 ?l27 ?c27 ?k27 ?a28 ?l28 ?c28 ?k28 ?a29 ?l29 ?c29 ?k29 ?a30 ?l30 ?c30 ?k30 ?a31 ?l31 ?c31 ?k31 ?a32 ?l32 ?c32 ?k32 ?a33 ?l33 ?c33 ?k33 ?a34 ?l34 ?c34 ?k34 ?a35 ?l35 ?c35 ?k35 ?a36 ?l36 ?c36 ?k36 ?z_len ?z_int ?z_str ?z_list ?z_tuple ?z_dict ?z_bool ?z_range ?z_sorted ?z_all ?z_isinstance ?z_set ?z_ValueError ?gDG ?gLT ?gHR ?oHn ?oTk ?aIc ?xIl ?xIv ?xIi ?xIs ?xIe ?xIt ?xIk ?xIg ?xIa ?xIh ?xIn ?xIy ?xIo ?xIm ?lmI ?cmI ?kmI ?aUc ?xUl ?xUv ?xUi ?xUs ?xUe ?xUt ?xUk ?xUg ?xUa ?xUh ?xUn ?xUy ?xUo ?xUm ?lmU ?cmU ?kmU ?aPc ?xPh ?xPt ?sIP ?sIV ?sIU ?nsIU ?sII ?sUU ?sUI ?nsUI ?sUP ?aT ?tI2 ?lmI2 ?cmI2 ?kmI2 ?nI2 ?tC ?lmC ?cmC ?kmC ?nC ?tL ?lmL ?cmL ?kmL ?nL ?tX ?lmX ?cmX ?kmX ?nX ?fnC ?tR ?tRg ?tRt ?tRr ?lmR ?cmR ?kmR ?tPg ?tHd ?tPo ?tSa ?tNo ?tMk ?tKp ?tHa ?tMr ?aS ?tSI ?lmSI ?cmSI ?kmSI ?nSI ?tSX ?lmSX ?cmSX ?kmSX ?nSX ?tSN ?lmSN ?cmSN ?kmSN ?nSN ?tST ?lmST ?cmST ?kmST ?nST ?tSV ?lmSV ?cmSV ?kmSV ?nSV ?tSL ?lmSL ?cmSL ?kmSL ?nSL ?tSP ?lmSP ?cmSP ?kmSP ?nSP ?sPg ?sHd ?sPo ?sSa ?sN1 ?sN2 ?sMk ?sHa ?sMr ?sKp
    (case a1 => k_is); (case l1 => k_is); (case c1 => k_is); (case k1 => k_is); (case a2 => k_is); (case l2 => k_is); (case c2 => k_is); (case k2 => k_is)
    (case a3 => k_is); (case l3 => k_is); (case c3 => k_is); (case k3 => k_is); (case a4 => k_is); (case l4 => k_is); (case c4 => k_is); (case k4 => k_is)
    (case a5 => k_is); (case l5 => k_is); (case c5 => k_is); (case k5 => k_is); (case a6 => k_is); (case l6 => k_is); (case c6 => k_is); (case k6 => k_is)
    (case a7 => k_is); (case l7 => k_is); (case c7 => k_is); (case k7 => k_is); (case a8 => k_is); (case l8 => k_is); (case c8 => k_is); (case k8 => k_is)
    (case a9 => k_is); (case l9 => k_is); (case c9 => k_is); (case k9 => k_is); (case a10 => k_is); (case l10 => k_is); (case c10 => k_is); (case k10 => k_is)
    (case a11 => k_is); (case l11 => k_is); (case c11 => k_is); (case k11 => k_is); (case a12 => k_is); (case l12 => k_is); (case c12 => k_is); (case k12 => k_is)
    (case a13 => k_is); (case l13 => k_is); (case c13 => k_is); (case k13 => k_is); (case a14 => k_is); (case l14 => k_is); (case c14 => k_is); (case k14 => k_is)
    (case a15 => k_is); (case l15 => k_is); (case c15 => k_is); (case k15 => k_is); (case a16 => k_is); (case l16 => k_is); (case c16 => k_is); (case k16 => k_is)
    (case a17 => k_is); (case l17 => k_is); (case c17 => k_is); (case k17 => k_is); (case a18 => k_is); (case l18 => k_is); (case c18 => k_is); (case k18 => k_is)
    (case a19 => k_is); (case l19 => k_is); (case c19 => k_is); (case k19 => k_is); (case a20 => k_is); (case l20 => k_is); (case c20 => k_is); (case k20 => k_is)
    (case a21 => k_is); (case l21 => k_is); (case c21 => k_is); (case k21 => k_is); (case a22 => k_is); (case l22 => k_is); (case c22 => k_is); (case k22 => k_is)
    (case a23 => k_is); (case l23 => k_is); (case c23 => k_is); (case k23 => k_is); (case a24 => k_is); (case l24 => k_is); (case c24 => k_is); (case k24 => k_is)
    (case a25 => k_is); (case l25 => k_is); (case c25 => k_is); (case k25 => k_is); (case a26 => k_is); (case l26 => k_is); (case c26 => k_is); (case k26 => k_is)
    (case a27 => k_is); (case l27 => k_is); (case c27 => k_is); (case k27 => k_is); (case a28 => k_is); (case l28 => k_is); (case c28 => k_is); (case k28 => k_is)
    (case a29 => k_is); (case l29 => k_is); (case c29 => k_is); (case k29 => k_is); (case a30 => k_is); (case l30 => k_is); (case c30 => k_is); (case k30 => k_is)
    (case a31 => k_is); (case l31 => k_is); (case c31 => k_is); (case k31 => k_is); (case a32 => k_is); (case l32 => k_is); (case c32 => k_is); (case k32 => k_is)
    (case a33 => k_is); (case l33 => k_is); (case c33 => k_is); (case k33 => k_is); (case a34 => k_is); (case l34 => k_is); (case c34 => k_is); (case k34 => k_is)
    (case a35 => k_is); (case l35 => k_is); (case c35 => k_is); (case k35 => k_is); (case a36 => k_is); (case l36 => k_is); (case c36 => k_is); (case k36 => k_is)
    (case z_len => k_is); (case z_int => k_is); (case z_str => k_is); (case z_list => k_is); (case z_tuple => k_is); (case z_dict => k_is); (case z_bool => k_is); (case z_range => k_is)
    (case z_sorted => k_is); (case z_all => k_is); (case z_isinstance => k_is); (case z_set => k_is); (case z_ValueError => k_is); (case gDG => k_is); (case gLT => k_is); (case gHR => k_is)
    (case oHn => k_is); (case oTk => k_is); (case aIc => k_is); (case xIl => k_is); (case xIv => first | rfl | decide +kernel); (case xIi => k_is); (case xIs => k_is); (case xIe => k_is)
    (case xIt => k_is); (case xIk => k_is); (case xIg => k_is); (case xIa => k_is); (case xIh => k_is); (case xIn => k_is); (case xIy => k_is); (case xIo => k_is)
    (case xIm => k_is); (case lmI => k_is); (case cmI => k_is); (case kmI => k_is); (case aUc => k_is); (case xUl => k_is); (case xUv => first | rfl | decide +kernel); (case xUi => k_is)
    (case xUs => k_is); (case xUe => k_is); (case xUt => k_is); (case xUk => k_is); (case xUg => k_is); (case xUa => k_is); (case xUh => k_is); (case xUn => k_is)
    (case xUy => k_is); (case xUo => k_is); (case xUm => k_is); (case lmU => k_is); (case cmU => k_is); (case kmU => k_is); (case aPc => k_is); (case xPh => k_is)
    (case xPt => k_is); (case sIP => k_is); (case sIV => k_is); (case sIU => k_is); (case nsIU => first | rfl | decide +kernel); (case sII => k_is); (case sUU => k_is); (case sUI => k_is)
    (case nsUI => first | rfl | decide +kernel); (case sUP => k_is); (case aT => k_is); (case tI2 => k_is); (case lmI2 => k_is); (case cmI2 => k_is); (case kmI2 => k_is); (case nI2 => k_is)
    (case tC => k_is); (case lmC => k_is); (case cmC => k_is); (case kmC => k_is); (case nC => k_is); (case tL => k_is); (case lmL => k_is); (case cmL => k_is)
    (case kmL => k_is); (case nL => k_is); (case tX => k_is); (case lmX => k_is); (case cmX => k_is); (case kmX => k_is); (case nX => k_is); (case fnC => k_is)
    (case tR => k_is); (case tRg => k_is); (case tRt => k_is); (case tRr => k_is); (case lmR => k_is); (case cmR => k_is); (case kmR => k_is); (case tPg => k_is)
    (case tHd => k_is); (case tPo => k_is); (case tSa => k_is); (case tNo => k_is); (case tMk => k_is); (case tKp => k_is); (case tHa => k_is); (case tMr => k_is)
    (case aS => k_is); (case tSI => k_is); (case lmSI => k_is); (case cmSI => k_is); (case kmSI => k_is); (case nSI => k_is); (case tSX => k_is); (case lmSX => k_is)
    (case cmSX => k_is); (case kmSX => k_is); (case nSX => k_is); (case tSN => k_is); (case lmSN => k_is); (case cmSN => k_is); (case kmSN => k_is); (case nSN => k_is)
    (case tST => k_is); (case lmST => k_is); (case cmST => k_is); (case kmST => k_is); (case nST => k_is); (case tSV => k_is); (case lmSV => k_is); (case cmSV => k_is)
    (case kmSV => k_is); (case nSV => k_is); (case tSL => k_is); (case lmSL => k_is); (case cmSL => k_is); (case kmSL => k_is); (case nSL => k_is); (case tSP => k_is)
    (case lmSP => k_is); (case cmSP => k_is); (case kmSP => k_is); (case nSP => k_is); (case sPg => k_is); (case sHd => k_is); (case sPo => k_is); (case sSa => k_is)
    (case sN1 => k_is); (case sN2 => k_is); (case sMk => k_is); (case sHa => k_is); (case sMr => k_is); (case sKp => k_is)
