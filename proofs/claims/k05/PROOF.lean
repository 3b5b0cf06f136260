import PyProof.Rows.All
import Wide.All
import OpenK.AllK
import Wide.FinOn
import HandS.TupSets
import KE.SortData
import KE.KDictKeyed
import HandS.ForMost
import PyProof.Transfer
import HandS.Wide
import HandS.StrMore
import HandS.IsInst
import HandS.Codes
import HandS.Walk
import HandS.More
import HandS.Conv
import HandS.DictComp
import HandS.ListItems
import HandS.Property
import HandS.Star
import HandS.Exc
import HandS.TryOnly
import HandS.TryMany
import HandS.ExcOwn
import HandS.WordsExc
import HandS.ExcInit
import HandS.ExcField
import HandS.ExcIs
import HandS.RaiseMore
import KE.KItemsList
import KE.KExcIs
import HandS.Style
import PySem.Challenge.RW_everyparcel_k05_least_address_that_parts
set_option Elab.async false
set_option linter.all false
set_option maxRecDepth 100000
/-! sets of any heap keys: the table, up to 512 slots -/
namespace SH
open PySem PySem.Spec PyProof.Rows L2
/-- 1 + 5 + 25 + .. -/
def geo : Nat → Nat
  | 0 => 0
  | k + 1 => geo k * 5 + 1
theorem geo_pow : ∀ k, 5 ^ k = 4 * geo k + 1
  | 0 => rfl
  | k + 1 => by
    rw [Nat.pow_succ, geo_pow k]
    show (4 * geo k + 1) * 5 = 4 * (geo k * 5 + 1) + 1
    omega
theorem lcg_geo (m : Nat) : ∀ k, lcgN m k = geo k % (m + 1)
  | 0 => (Nat.zero_mod _).symm
  | k + 1 => by
    show (lcgN m k * 5 + 1) % (m + 1) = (geo k * 5 + 1) % (m + 1)
    rw [lcg_geo m k, Nat.add_mod, Nat.mod_mul_mod, ← Nat.add_mod]
theorem geo_eq (k : Nat) : geo k = (5 ^ k - 1) / 4 := by
  have := geo_pow k
  omega
/-- the step at which the slot j comes, bit by bit -/
def stepOf (j : Nat) : Nat := (List.range 9).foldl (fun b i => if 5 ^ b % 2 ^ (i + 3) = (4 * j + 1) % 2 ^ (i + 3) then b else b + 2 ^ i) 0
theorem steps512 : ((List.range 512).all fun j => decide (stepOf j ≤ 511 ∧ (5 ^ stepOf j - 1) / 4 % 512 = j)) = true := by decide +kernel
/-- soon enough each slot begins a run -/
def Meets (m : Nat) : Prop := ∀ (g : Int) (j : Nat), j ≤ m → ∃ n, n ≤ m + 12 ∧ runI m (SetTable.bits g) n = j
theorem meets_of {m : Nat} (all : ∀ j, j ≤ m → ∃ b, b ≤ m ∧ lcgN m b = j) (round : lcgN m (m + 1) = 0) : Meets m := by
  have per : ∀ k, lcgN m (m + 1 + k) = lcgN m k := by
    intro k
    induction k with
    | zero => exact round
    | succ k ih => exact congrArg (fun x => (x * 5 + 1) % (m + 1)) ih
  intro g j hj
  obtain ⟨a, ha, ea⟩ := all _ (runI_le m (SetTable.bits g) 12)
  obtain ⟨b, hb, eb⟩ := all j hj
  have key : ∀ k, lcgN m (a + k) = j → runI m (SetTable.bits g) (12 + k) = j := fun k e => by
    rw [runI_tail (bits_lt g), ← ea, lcgN_add, e]
  by_cases c : a ≤ b
  · exact ⟨12 + (b - a), by omega, key _ (by rw [show a + (b - a) = b by omega, eb])⟩
  · exact ⟨12 + (m + 1 + b - a), by omega, key _ (by rw [show a + (m + 1 + b - a) = m + 1 + b by omega, per, eb])⟩
theorem meets511 : Meets 511 := by
  refine meets_of (fun j hj => ?_) ?_
  · have h := List.all_eq_true.mp steps512 j (List.mem_range.mpr (by omega))
    rw [decide_eq_true_eq] at h
    exact ⟨stepOf j, h.1, by rw [lcg_geo, geo_eq]; exact h.2⟩
  · rw [lcg_geo, geo_eq]
    decide +kernel
/-- the masks that come with fewer than 300 members -/
def Mk (m : Nat) : Prop := MaskOk m ∨ m = 511
theorem Mk.meets {m : Nat} (h : Mk m) : Meets m := by
  rcases h with h | rfl
  · exact fun g j hj => run_meets h g hj
  · exact meets511
theorem Mk.odd {m : Nat} (h : Mk m) : m % 2 = 1 := by
  rcases h with h | rfl
  · exact mask_odd h
  · rfl
theorem Mk.cases {m : Nat} (h : Mk m) : m = 7 ∨ m = 31 ∨ m = 127 ∨ m = 511 := by
  rcases h with (h | h | h) | h
  · exact .inl h
  · exact .inr (.inl h)
  · exact .inr (.inr (.inl h))
  · exact .inr (.inr (.inr h))
theorem way_in (m : Nat) (g : Int) (k : Nat) : way m g k ≤ m := by
  have r := runEnd_bd (Nat.le_of_lt_succ (Nat.mod_lt (SetTable.bits g) (Nat.succ_pos m)))
  have q := nth_in (m := m) k (runAt m (SetTable.bits g % (m + 1)) (SetTable.bits g)) (by
    show SetTable.bits g % (m + 1) + (SetTable.runEnd m (SetTable.bits g % (m + 1)) - SetTable.bits g % (m + 1)) ≤ m
    rw [Nat.add_sub_cancel' r.2.1]
    exact r.1)
  exact Nat.le_trans (Nat.le_add_right _ _) q
theorem way_meets {m : Nat} (hm : Meets m) (g : Int) {j : Nat} (hj : j ≤ m) : ∃ k, k < 10 * SetTable.turns m ∧ way m g k = j := by
  obtain ⟨n, hn, e⟩ := hm g j hj
  obtain ⟨k, hk, e2⟩ := run_nth m (SetTable.bits g) n
  exact ⟨k, by unfold SetTable.turns; omega, (congrArg SetTable.Probe.j e2).trans e⟩
/-- each member is found again from its hash gs -/
structure TabM (t : SetTable) (gs : List Int) : Prop where
  up : Ris t.place.toList
  no : t.dummies = #[]
  n : t.place.size = gs.length
  msk : Mk t.mask
  le : ∀ x, x ∈ t.place.toList → x ≤ t.mask
  at' : ∀ (i : Nat) (g : Int) (j : Nat), gs[i]? = some g → t.place.toList[i]? = some j → ∃ k, way t.mask g k = j ∧ ∀ c, c < k → way t.mask g c ∈ t.place.toList
section
variable {t : SetTable} {gs : List Int}
theorem TabM.len (T : TabM t gs) : t.place.toList.length = gs.length := (Array.length_toList).trans T.n
theorem TabM.gap (T : TabM t gs) (hl : gs.length ≤ t.mask) (g : Int) : ∃ K, K < 10 * SetTable.turns t.mask ∧ way t.mask g K ∉ t.place.toList ∧ ∀ c, c < K → way t.mask g c ∈ t.place.toList := by
  obtain ⟨j, hj, hn⟩ := st_missing t.place.toList (t.mask + 1) (by rw [T.len]; omega)
  obtain ⟨k, hk, e⟩ := way_meets T.msk.meets g (Nat.le_of_lt_succ hj)
  obtain ⟨K, h1, h2, h3⟩ := st_least (p := fun c => way t.mask g c ∉ t.place.toList) k (fun z => hn (e ▸ z))
  exact ⟨K, Nat.lt_of_le_of_lt h1 hk, h2, fun c hc => Classical.not_not.mp (h3 c hc)⟩
theorem TabM.ahead (T : TabM t gs) {g : Int} {K i j : Nat} (hK : way t.mask g K ∉ t.place.toList) (hi : gs[i]? = some g) (hj : t.place.toList[i]? = some j) : ∃ k, k < K ∧ way t.mask g k = j := by
  obtain ⟨k, e, hb⟩ := T.at' i g j hi hj
  refine ⟨k, Nat.lt_of_not_le fun z => ?_, e⟩
  rcases Nat.lt_or_eq_of_le z with c | c
  · exact hK (hb K c)
  · exact hK (c ▸ e ▸ List.mem_of_getElem? hj)
theorem TabM.put (T : TabM t gs) {g : Int} {K : Nat} (hK : way t.mask g K ∉ t.place.toList) (hb : ∀ c, c < K → way t.mask g c ∈ t.place.toList) :
    SetTable.below t.place (way t.mask g K) ≤ gs.length ∧ TabM (t.put (way t.mask g K)).1 (gs.take (SetTable.below t.place (way t.mask g K)) ++ g :: gs.drop (SetTable.below t.place (way t.mask g K))) ∧ (t.put (way t.mask g K)).1.fill = gs.length + 1 := by
  have hin := way_in t.mask g K
  generalize hj : way t.mask g K = j at hK hin ⊢
  obtain ⟨c1, _, _⟩ := below_cut T.up j
  have b1 : SetTable.below t.place j ≤ t.place.toList.length := by rw [Array.length_toList]; exact c1
  have b2 : SetTable.below t.place j ≤ gs.length := T.len ▸ b1
  have pp := put_place t j
  have sz : (t.put j).1.place.size = gs.length + 1 := by rw [← Array.length_toList, pp, len_ins _ b1, T.len]
  have sub : ∀ x, x ∈ t.place.toList → x ∈ (t.put j).1.place.toList := fun x hx => by
    rw [pp]
    exact mem_ins.mpr (.inr hx)
  have pd := put_dm T.no j
  refine ⟨b2, ⟨ris_insert T.up fun e => hK (List.mem_of_getElem? (i := SetTable.below t.place j) (by rw [Array.getElem?_toList]; exact e)), pd, by rw [len_ins _ b2, sz], T.msk, fun x hx => ?_, fun i g' j' e1 e2 => ?_⟩, ?_⟩
  · rw [pp] at hx
    rcases mem_ins.mp hx with z | z
    · exact z ▸ hin
    · exact T.le x z
  · rw [tins_get gs b2] at e1
    rw [pp, tins_get _ b1] at e2
    have old : ∀ i', gs[i']? = some g' → t.place.toList[i']? = some j' → ∃ k, way t.mask g' k = j' ∧ ∀ c, c < k → way t.mask g' c ∈ (t.put j).1.place.toList := fun i' z1 z2 => by
      obtain ⟨k, e, z⟩ := T.at' i' g' j' z1 z2
      exact ⟨k, e, fun c hc => sub _ (z c hc)⟩
    by_cases lo : i < SetTable.below t.place j
    · rw [if_pos lo] at e1 e2
      exact old i e1 e2
    · rw [if_neg lo] at e1 e2
      by_cases eq : i = SetTable.below t.place j
      · rw [if_pos eq] at e1 e2
        cases e1
        cases e2
        exact ⟨K, hj, fun c hc => sub _ (hb c hc)⟩
      · rw [if_neg eq] at e1 e2
        exact old (i - 1) e1 e2
  · show (t.put j).1.place.size + (t.put j).1.dummies.size = _
    rw [sz, pd]
    rfl
end
/-! laying anew -/
theorem free_way {m : Nat} (hm : Meets m) (ow : Array (Option Nat)) (g : Int) {j : Nat} (hj : j ≤ m) (hf : oAt ow j = none) :
    ∃ K, SetTable.layClean.free m ow (SetTable.turns m) (SetTable.bits g % (m + 1)) (SetTable.bits g) = some (way m g K) ∧ oAt ow (way m g K) = none ∧ ∀ c, c < K → oAt ow (way m g c) ≠ none := by
  obtain ⟨n, hn, e⟩ := hm g j hj
  have hw : way m g (off m (SetTable.bits g % (m + 1)) (SetTable.bits g) n) = j := by
    show (nth m (runAt m _ _) _).j = j
    rw [nth_off, itL_run]
    exact e
  obtain ⟨K, k1, k2, k3⟩ := st_least (p := fun c => oAt ow (way m g c) = none) _ (show oAt ow (way m g (off m (SetTable.bits g % (m + 1)) (SetTable.bits g) n)) = none by rw [hw]; exact hf)
  refine ⟨K, free_spec m ow _ n _ _ K (by unfold SetTable.turns; omega) k1 (fun c hc => ?_) (by rw [show oAt ow (nth m _ K).j = none from k2]; rfl), k2, k3⟩
  cases z : oAt ow (nth m (runAt m (SetTable.bits g % (m + 1)) (SetTable.bits g)) c).j with
  | none => exact absurd z (k3 c hc)
  | some _ => rfl
theorem own_next {m : Nat} (hm : Meets m) {done : List Int} {ow : Array (Option Nat)} (W : Own m done ow) (hl : done.length ≤ m) (g : Int) :
    ∃ j, SetTable.layClean.free m ow (SetTable.turns m) (SetTable.bits g % (m + 1)) (SetTable.bits g) = some j ∧ Own m (done ++ [g]) (ow.setIfInBounds j (some done.length)) := by
  obtain ⟨ps, hps, hin⟩ := W.ps
  obtain ⟨j0, h0, hn0⟩ := st_missing ps (m + 1) (hps ▸ Nat.lt_succ_of_le hl)
  obtain ⟨K, e1, e2, e3⟩ := free_way hm ow g (Nat.le_of_lt_succ h0) (Classical.byContradiction fun z => hn0 (hin j0 (Nat.le_of_lt_succ h0) z))
  have hjm := way_in m g K
  generalize hj : way m g K = j at e1 e2 hjm
  have hjs : j < ow.size := by rw [W.sz]; omega
  have self := oAt_set_self (some done.length) hjs
  have up : ∀ i, oAt ow i ≠ none → oAt (ow.setIfInBounds j (some done.length)) i ≠ none := fun i hi => by
    by_cases c : i = j
    · rw [c, self]
      exact Option.some_ne_none _
    · rw [oAt_set_ne _ c]
      exact hi
  refine ⟨j, e1, by rw [Array.size_setIfInBounds]; exact W.sz, fun i k hi e => ?_, fun k hk => ?_, j :: ps, by simp [hps], fun i hi e => ?_⟩
  · by_cases c : i = j
    · rw [c, self] at e
      cases e
      exact ⟨g, K, by rw [List.getElem?_append_right (Nat.le_refl _), Nat.sub_self]; rfl, hj.trans c.symm, fun c' hc' => up _ (e3 c' hc')⟩
    · rw [oAt_set_ne _ c] at e
      obtain ⟨g', K', a1, a2, a3⟩ := W.at_ i k hi e
      exact ⟨g', K', by rw [List.getElem?_append_left (List.getElem?_eq_some_iff.mp a1).1]; exact a1, a2, fun c' hc' => up _ (a3 c' hc')⟩
  · by_cases c : k = done.length
    · exact ⟨j, hjm, c ▸ self⟩
    · rw [List.length_append] at hk
      obtain ⟨i, hi, e⟩ := W.all k (by simp at hk; omega)
      exact ⟨i, hi, by rw [oAt_set_ne _ (fun z => by rw [z, e2] at e; cases e)]; exact e⟩
  · by_cases c : i = j
    · exact c ▸ List.mem_cons_self
    · rw [oAt_set_ne _ c] at e
      exact List.mem_cons_of_mem _ (hin i hi e)
theorem lay_fold {m : Nat} (hm : Meets m) : ∀ (more done : List Int) (ow : Array (Option Nat)), Own m done ow → done.length + more.length ≤ m → ∃ ow', more.foldl (stepF m) (some (ow, done.length)) = some (ow', (done ++ more).length) ∧ Own m (done ++ more) ow'
  | [], done, ow, W, _ => by
    rw [List.append_nil]
    exact ⟨ow, rfl, W⟩
  | g :: more, done, ow, W, hl => by
    have hl2 : done.length + (more.length + 1) ≤ m := hl
    obtain ⟨j, e, W'⟩ := own_next hm W (by omega) g
    have q := lay_fold hm more (done ++ [g]) _ W' (by rw [List.length_append]; show done.length + 1 + more.length ≤ m; omega)
    rw [List.append_assoc, List.length_append] at q
    obtain ⟨ow', f, W2⟩ := q
    refine ⟨ow', ?_, W2⟩
    rw [List.foldl_cons, stepF_some (k := done.length) e]
    exact f
theorem lay_clean {m : Nat} (hm : Meets m) {hs : Array Int} (hn : hs.size ≤ m) : ∃ ow, SetTable.layClean m hs = some ow ∧ Own m hs.toList ow := by
  obtain ⟨ow, f, W⟩ := lay_fold hm hs.toList [] _ (Own.init m) (by show 0 + hs.toList.length ≤ m; rw [Array.length_toList]; omega)
  exact ⟨ow, by rw [layClean_eq, show hs.toList.foldl (stepF m) (some (Array.replicate (m + 1) none, 0)) = _ from f]; rfl, W⟩
theorem relaid_tab (t : SetTable) {hs : Array Int} {wanted M : Nat} (hw : SetTable.sizeAbove wanted - 1 = M) (hM : Mk M) (hn : hs.size ≤ M) :
    ∃ t' order, t.relaid hs wanted = some (t', order) ∧ order.toList.Perm (List.range hs.size) ∧ TabM t' (order.toList.map fun i => hs.getD i 0) ∧ t'.mask = M ∧ t'.led = t.led := by
  obtain ⟨ow, e, W⟩ := lay_clean hM.meets hn
  have er : t.relaid hs wanted = some (tabOf t M ow, ((liveOf M ow).map (·.2)).toArray) := by
    rw [relaid_eq, hw, e]
    rfl
  have rr := ris_live (fun j => ow.getD j none) (List.range (M + 1)) (by unfold Ris; exact List.pairwise_lt_range)
  have r1 : Ris ((liveOf M ow).map (·.1)) := rr.1
  have r2 : ∀ x ∈ (liveOf M ow).map (·.1), x ∈ List.range (M + 1) := rr.2
  have hz : hs.toList.length = hs.size := Array.length_toList
  have hlen : (liveOf M ow).length = hs.size := by
    obtain ⟨ps, p1, p2⟩ := W.ps
    have a : ((liveOf M ow).map (·.1)).length ≤ ps.length := nat_nodup_len _ ps (List.Pairwise.imp (fun h => Nat.ne_of_lt h) r1) fun x hx => by
      obtain ⟨⟨y, k⟩, hq, rfl⟩ := List.mem_map.mp hx
      have ⟨b1, b2⟩ := (mem_live W.sz).mp hq
      exact p2 y b1 (by rw [b2]; exact Option.some_ne_none _)
    have b : (List.range hs.size).length ≤ ((liveOf M ow).map (·.2)).length := nat_nodup_len _ _ List.nodup_range fun k hk => by
      obtain ⟨j, b1, b2⟩ := W.all k (by rw [hz]; exact List.mem_range.mp hk)
      exact List.mem_map.mpr ⟨_, (mem_live W.sz).mpr ⟨b1, b2⟩, rfl⟩
    rw [List.length_map] at a b
    rw [List.length_range] at b
    omega
  refine ⟨_, _, er, perm_range hs.size _ (by simpa using hlen) fun k hk => ?_, ⟨r1, rfl, by simp [tabOf], hM, fun x hx => Nat.le_of_lt_succ (List.mem_range.mp (r2 x hx)), fun i g j h1 h2 => ?_⟩, rfl, rfl⟩
  · obtain ⟨j, b1, b2⟩ := W.all k (by rw [hz]; exact hk)
    exact List.mem_map.mpr ⟨_, (mem_live W.sz).mpr ⟨b1, b2⟩, rfl⟩
  · have z1 : (((liveOf M ow).map (·.2)).map fun i => hs.getD i 0)[i]? = some g := h1
    have z2 : ((liveOf M ow).map (·.1))[i]? = some j := h2
    rw [List.getElem?_map, List.getElem?_map] at z1
    rw [List.getElem?_map] at z2
    cases hq : (liveOf M ow)[i]? with
    | none =>
      rw [hq] at z2
      cases z2
    | some q =>
      rw [hq] at z1 z2
      cases z2
      have ⟨b1, b2⟩ := (mem_live W.sz).mp (List.mem_of_getElem? hq)
      obtain ⟨g0, K, a1, a2, a3⟩ := W.at_ q.1 q.2 b1 b2
      have eg : g0 = g := by
        have u : hs.getD q.2 0 = g := Option.some.inj z1
        rw [Array.getD_eq_getD_getElem?, ← Array.getElem?_toList, a1] at u
        exact u
      subst eg
      refine ⟨K, a2, fun c hc => ?_⟩
      show way M g0 c ∈ (liveOf M ow).map (·.1)
      cases z : oAt ow (way M g0 c) with
      | none => exact absurd z (a3 c hc)
      | some k2 => exact List.mem_map.mpr ⟨(way M g0 c, k2), (mem_live W.sz).2 ⟨way_in M g0 c, z⟩, rfl⟩
theorem sizes : SetTable.sizeAbove (SetTable.grown 5) = 32 ∧ SetTable.sizeAbove (SetTable.grown 19) = 128 ∧ SetTable.sizeAbove (SetTable.grown 77) = 512 := by decide +kernel
end SH
/-! sets of any heap keys: the search, and adding -/
namespace SH
open PySem PySem.Spec PyProof.Rows L2
/-- the c-th probe for the hash g -/
def pb (m : Nat) (g : Int) (c : Nat) : SetTable.Probe := nth m (runAt m (SetTable.bits g % (m + 1)) (SetTable.bits g)) c
theorem pb_add (m : Nat) (g : Int) (c q : Nat) : nth m (pb m g c) q = pb m g (c + q) := (nth_add m c _ q).symm
theorem pb_dummy (m : Nat) (g : Int) : ∀ c, (pb m g c).dummy = none
  | 0 => rfl
  | c + 1 => by
    rw [← pb_add m g c 1]
    show (adv m (pb m g c)).dummy = none
    unfold adv
    split <;> exact pb_dummy m g c
section
variable {P : Program} {w : World} {κ : Type} [DecidableEq κ] {knd : HeapKind P w κ} {A : Around} {E : Value → Shared → Prop} {s : Shared}
/-- what a set asks of a member beside its hash -/
structure Calm (knd : HeapKind P w κ) : Prop where
  st : knd.Stays
  cl : ∀ {A : Around} {E : Value → Shared → Prop} {s : Shared} {k : κ} {b : Addr} {Q : Bool → Shared → Prop}, knd.is s.heap k b → Q false s → wpAny (model P w) A (ofAClassStatement 8 (.ref b)) Q E s
  hv : ∀ {A : Around} {E : Value → Shared → Prop} {s : Shared} {k : κ} {b : Addr} {Q : Bool → Shared → Prop}, knd.is s.heap k b → (∀ r, Q r s) → wpAny (model P w) A (hashByValue 8 (.ref b)) Q E s
theorem seen_no (C : Calm knd) {k : κ} {b : Addr} {Q : Bool → Shared → Prop} (hk : knd.is s.heap k b) {ys : List Value} (hy : ∀ y ∈ ys, ∃ k' c, y = Value.ref c ∧ knd.is s.heap k' c) (h : Q false s) :
    wpAny (model P w) A (searchCouldBeSeen (.ref b) ys) Q E s := by
  unfold searchCouldBeSeen
  refine wpAny_bind (wpAny_forIn_list _ (fun rest r z => z = s ∧ r.1 = none ∧ ∀ y ∈ rest, ∃ k' c, y = Value.ref c ∧ knd.is s.heap k' c) _ (fun v rest r z hz => ?_) (fun r z hz => ?_) _ _ ⟨rfl, rfl, hy⟩)
  · obtain ⟨rfl, hr, al⟩ := hz
    obtain ⟨k', c, rfl, hc⟩ := al v List.mem_cons_self
    have tl : ∀ y ∈ rest, ∃ k' c, y = Value.ref c ∧ knd.is z.heap k' c := fun y hy => al y (List.mem_cons_of_mem _ hy)
    dsimp only
    by_cases e : (b == c || (carriedByValue (.ref b) && carriedByValue (.ref c))) = true
    · exact wp_if_pos e (wpAny_pure ⟨rfl, rfl, tl⟩)
    · refine wp_if_neg e (wpAny_bind (knd.quiet hk ?_))
      rw [Bool.not_true, if_neg Bool.false_ne_true]
      refine wpAny_bind (knd.quiet hc ?_)
      rw [Bool.not_true, if_neg Bool.false_ne_true]
      refine wpAny_bind (C.cl hk ?_)
      rw [if_neg Bool.false_ne_true]
      refine wpAny_bind (C.cl hc ?_)
      rw [if_neg Bool.false_ne_true]
      exact wpAny_pure ⟨rfl, rfl, tl⟩
  · obtain ⟨r1, r2⟩ := r
    obtain ⟨rfl, hr, _⟩ := hz
    cases (show r1 = none from hr)
    exact wpAny_pure h
/-- the set at a, of the members L (their places, their keys) in the table's order -/
structure SetH (knd : HeapKind P w κ) (h : Heap) (a : Addr) (L : List (Addr × κ)) (es : Array (Int × Value)) (ep : Nat) (t : SetTable) : Prop where
  ob : ∃ o, h.get? a = some o ∧ o.ExactSet ∧ o.data = .set es ep t
  rows : es.toList = L.map fun p => (knd.hash p.2, Value.ref p.1)
  tab : TabM t (L.map fun p => knd.hash p.2)
  nd : (L.map (·.2)).Nodup
  el : ∀ p ∈ L, knd.is h p.2 p.1
  ld : w.params.followText "set-order" = true ∨ t.led = true
  gap : L.length * 5 < t.mask * 3
variable {a : Addr} {L : List (Addr × κ)} {es : Array (Int × Value)} {ep : Nat} {t : SetTable}
theorem rows_size (h : es.toList = L.map fun p => (knd.hash p.2, Value.ref p.1)) : es.size = L.length := by
  rw [← Array.length_toList, h, List.length_map]
theorem rows_at (h : es.toList = L.map fun p => (knd.hash p.2, Value.ref p.1)) {i : Nat} {p : Addr × κ} (e : L[i]? = some p) : es[i]? = some (knd.hash p.2, Value.ref p.1) := by
  rw [← Array.getElem?_toList, h, List.getElem?_map, e]
  rfl
theorem fits_of {gs : List Int} (T : TabM t gs) {n : Nat} (hn : gs.length = n) (hl : n ≤ t.mask) : t.fits n = true := by
  have := T.n
  unfold SetTable.fits SetTable.fill
  rw [T.no, Bool.and_eq_true, beq_iff_eq, decide_eq_true_eq]
  show t.place.size = n ∧ t.place.size + 0 ≤ t.mask
  omega
theorem SetH.fits (R : SetH knd s.heap a L es ep t) : t.fits es.size = true := by
  have h2 := R.gap
  have h3 := rows_size R.rows
  exact fits_of R.tab (by rw [List.length_map]; exact h3.symm) (by omega)
theorem SetH.small (R : SetH knd s.heap a L es ep t) : L.length ≤ 306 := by
  have h2 := R.gap
  rcases R.tab.msk.cases with e | e | e | e <;> omega
/-- the search from its c-th step on; K: the first gap on the way -/
theorem look (C : Calm knd) (R : SetH knd s.heap a L es ep t) {x : Addr} {k : κ} (hx : knd.is s.heap k x) (hr : knd.room A) {K : Nat} (hKf : K < 10 * SetTable.turns t.mask)
    (hK : way t.mask (knd.hash k) K ∉ t.place.toList) (hKb : ∀ c, c < K → way t.mask (knd.hash k) c ∈ t.place.toList) {Q : SetFound → Shared → Prop}
    (yes : k ∈ L.map (·.2) → Q (.there none) s) (no : k ∉ L.map (·.2) → Q (.free (way t.mask (knd.hash k) K) false) s) :
    ∀ (f c : Nat) (stand : Option SetTable.Probe), stand.getD (t.probeStart (knd.hash k)) = pb t.mask (knd.hash k) c → c ≤ K → K - c < f →
      (∀ (i : Nat) p, L[i]? = some p → p.2 = k → ∃ d, c ≤ d ∧ d < K ∧ t.place.toList[i]? = some (way t.mask (knd.hash k) d)) →
      wpAny (model P w) A (setSearchFrom a (.ref x) (knd.hash k) true f stand) Q E s
  | 0, c, stand, _, _, hf, _ => absurd hf (Nat.not_lt_zero _)
  | f + 1, c, stand, hst, hc, hf, hre => by
    obtain ⟨o, ho, hex, hd⟩ := R.ob
    have odd := R.tab.msk.odd
    rw [setSearchFrom_succ]
    refine wpAny_bind (wpAny_setState_of ho hd R.fits ?_)
    dsimp only
    refine wp_if_neg (by unfold SetTable.gaveWay; rw [odd]; decide) ?_
    try refine wpAny_bind (wpAny_pure ?_)
    have hz : c + (K - c) = K := by omega
    have hs : ∀ (i : Nat) p, L[i]? = some p → (fun i => (es[i]?.map (·.1)).getD 0) i = knd.hash p.2 := fun i p hp => by
      show (es[i]?.map (·.1)).getD 0 = _
      rw [rows_at R.rows hp]
      rfl
    have J : ∀ q, (nth t.mask (pb t.mask (knd.hash k) c) q).j = way t.mask (knd.hash k) (c + q) := fun q => congrArg SetTable.Probe.j (pb_add t.mask (knd.hash k) c q)
    rcases go_spec t R.tab.up R.tab.no (fun i => (es[i]?.map (·.1)).getD 0) (knd.hash k) (10 * SetTable.turns t.mask) (K - c) (pb t.mask (knd.hash k) c) (pb_dummy _ _ _) (by omega)
      (fun q hq => by rw [J]; exact hKb _ (by omega)) (by rw [J, hz]; exact hK) with ⟨q, i, hq, hi, _, first, pr⟩ | ⟨first, pr⟩
    · rw [J] at hi
      have pr2 : t.probe (fun i => (es[i]?.map (·.1)).getD 0) (knd.hash k) (stand.getD (t.probeStart (knd.hash k))) = some (.candidate (way t.mask (knd.hash k) (c + q)) i (pb t.mask (knd.hash k) (c + (q + 1)))) := by
        rw [hst, ← J, ← pb_add]
        exact pr
      rw [pr2]
      dsimp only
      have il : i < L.length := by
        have h1 := (List.getElem?_eq_some_iff.mp hi).1
        rw [R.tab.len, List.length_map] at h1
        exact h1
      obtain ⟨p, hp⟩ : ∃ p, L[i]? = some p := ⟨_, List.getElem?_eq_getElem il⟩
      have pm := List.mem_of_getElem? hp
      have rest : wpAny (model P w) A (searchRest a (.ref x) (knd.hash k) true f es t (way t.mask (knd.hash k) (c + q)) i (pb t.mask (knd.hash k) (c + (q + 1)))) Q E s := by
        unfold searchRest
        rw [rows_at R.rows hp]
        dsimp only
        refine wpAny_bind (wpAny_holding (knd.eqBool hr (R.el p pm) hx (wpAny_bind (wpAny_setState_of ho hd R.fits ?_))))
        dsimp only
        by_cases e : p.2 = k
        · exact wp_if_pos (by simp [e]) (wpAny_pure (yes (List.mem_map.mpr ⟨p, pm, e⟩)))
        · refine wp_if_neg (by simp [e]) ?_
          try refine wpAny_bind (wpAny_pure ?_)
          have live : t.slot (way t.mask (knd.hash k) (c + q)) = .live i := slot_live R.tab.up hi
          rw [sameMem]
          dsimp only
          simp only [if_true, live, rows_at R.rows hp]
          refine wpAny_bind (wpAny_isSame_ref_self (wpAny_bind (wpAny_pure ?_)))
          simp only [if_true]
          refine wp_if_neg (by simp [e]) ?_
          refine look C R hx hr hKf hK hKb yes no f (c + (q + 1)) _ rfl (by omega) (by omega) fun i0 p0 h0 k0 => ?_
          obtain ⟨d, d1, d2, d3⟩ := hre i0 p0 h0 k0
          refine ⟨d, Nat.lt_of_not_le fun z => ?_, d2, d3⟩
          rcases Nat.lt_or_eq_of_le z with z | z
          · exact first (d - c) i0 (Nat.sub_lt_left_of_lt_add d1 z) (by rw [J, Nat.add_sub_cancel' d1]; exact d3) ((hs i0 p0 h0).trans (congrArg knd.hash k0))
          · have z : d = c + q := z
            have s0 := slot_live R.tab.up d3
            rw [z, live] at s0
            cases s0
            rw [hp] at h0
            cases h0
            exact e k0
      by_cases hl : t.led = true
      · refine wp_if_neg (by simp [hl]) ?_
        try refine wpAny_bind (wpAny_pure ?_)
        exact rest
      · refine wp_if_pos (by simp [hl]) (wpAny_bind (seen_no C hx (fun y hy => ?_) ?_))
        · obtain ⟨u, hu, rfl⟩ := List.mem_map.mp hy
          have hu2 : u ∈ es.toList := by
            have h1 : u ∈ es ∧ u.1 = knd.hash k := by simpa using hu
            simpa using h1.1
          rw [R.rows] at hu2
          obtain ⟨p2, hp2, rfl⟩ := List.mem_map.mp hu2
          exact ⟨p2.2, p2.1, rfl, R.el p2 hp2⟩
        · refine wp_if_neg (by decide) ?_
          try refine wpAny_bind (wpAny_pure ?_)
          exact rest
    · have pr2 : t.probe (fun i => (es[i]?.map (·.1)).getD 0) (knd.hash k) (stand.getD (t.probeStart (knd.hash k))) = some (.empty (way t.mask (knd.hash k) K) none) := by
        have e2 := J (K - c)
        rw [hz] at e2
        rw [hst, ← e2]
        exact pr
      rw [pr2]
      dsimp only
      refine wpAny_pure (no fun hm => ?_)
      obtain ⟨p0, h0, k0⟩ := List.mem_map.mp hm
      obtain ⟨i0, hi0⟩ := List.mem_iff_getElem?.mp h0
      obtain ⟨d, d1, d2, d3⟩ := hre i0 p0 hi0 k0
      exact first (d - c) i0 (by omega) (by rw [J, Nat.add_sub_cancel' d1]; exact d3) ((hs i0 p0 hi0).trans (congrArg knd.hash k0))
/-- the search that adding makes -/
theorem look_at (C : Calm knd) (R : SetH knd s.heap a L es ep t) {x : Addr} {k : κ} (hx : knd.is s.heap k x) (hr : knd.room A) {Q : SetFound → Shared → Prop} (yes : k ∈ L.map (·.2) → Q (.there none) s)
    (no : ∀ K, k ∉ L.map (·.2) → way t.mask (knd.hash k) K ∉ t.place.toList → (∀ c, c < K → way t.mask (knd.hash k) c ∈ t.place.toList) → Q (.free (way t.mask (knd.hash k) K) false) s) :
    wpAny (model P w) A (setSearch a (.ref x) (knd.hash k) true) Q E s := by
  have g := R.gap
  obtain ⟨K, k1, k2, k3⟩ := R.tab.gap (by rw [List.length_map]; omega) (knd.hash k)
  have big : 10 * SetTable.turns t.mask ≤ 10000 := by
    unfold SetTable.turns
    rcases R.tab.msk.cases with e | e | e | e <;> omega
  unfold setSearch
  refine look C R hx hr k1 k2 k3 yes (fun n => no K n k2 k3) 100000 0 none rfl (Nat.zero_le _) (by omega) fun i p hp hk => ?_
  have hi : (L.map fun p => knd.hash p.2)[i]? = some (knd.hash k) := by
    rw [List.getElem?_map, hp, ← hk]
    rfl
  have hil : i < t.place.toList.length := by
    rw [R.tab.len]
    exact (List.getElem?_eq_some_iff.mp hi).1
  obtain ⟨c, hc, e⟩ := R.tab.ahead k2 hi (List.getElem?_eq_getElem hil)
  exact ⟨c, Nat.zero_le _, hc, by rw [List.getElem?_eq_getElem hil, e]⟩
/-- a member isn't the set -/
theorem el_same (C : Calm knd) {h h' : Heap} {k : κ} {b : Addr} {o : Obj} (hb : knd.is h k b) (ho : h.get? a = some o) (hd : o.data = .set es ep t) (hs : Heap.SameBut a h h') : knd.is h' k b := by
  refine C.st.stays (fun c u vs n hc hu => ?_) hb
  refine (hs.2 c fun e => ?_).trans hc
  rw [e, ho] at hc
  cases hc
  rw [hd] at hu
  cases hu
/-- the rows in the order of another table -/
theorem rows_order (h : es.toList = L.map fun p => (knd.hash p.2, Value.ref p.1)) (od : Array Nat) (hp : od.toList.Perm (List.range L.length)) :
    ∃ L2 : List (Addr × κ), (od.filterMap (es[·]?)).toList = (L2.map fun p => (knd.hash p.2, Value.ref p.1)) ∧ L2.Perm L ∧ (L2.map fun p => knd.hash p.2) = od.toList.map fun i => (es.map (·.1)).getD i 0 := by
  have all : (List.range L.length).filterMap (fun i => L[i]?) = L := by
    clear hp h
    have gen : ∀ (M : List (Addr × κ)), (List.range M.length).filterMap (fun i => M[i]?) = M := by
      intro M
      induction M with
      | nil => rfl
      | cons x M ih =>
        rw [List.length_cons, List.range_succ_eq_map, List.filterMap_cons_some (f := fun i => (x :: M)[i]?) (a := 0) (b := x) rfl, List.filterMap_map]
        exact congrArg (x :: ·) ih
    exact gen L
  have one : ∀ l : List Nat, (∀ i ∈ l, i < L.length) → l.filterMap (fun i => es[i]?) = ((l.filterMap fun i => L[i]?).map fun p => (knd.hash p.2, Value.ref p.1)) ∧ ((l.filterMap fun i => L[i]?).map fun p => knd.hash p.2) = l.map fun i => (es.map (·.1)).getD i 0 := by
    intro l
    induction l with
    | nil => exact fun _ => ⟨rfl, rfl⟩
    | cons i l ih =>
      intro hl
      have hi := List.getElem?_eq_getElem (hl i List.mem_cons_self)
      obtain ⟨e1, e2⟩ := ih fun j hj => hl j (List.mem_cons_of_mem _ hj)
      have e5 : (es.map (·.1))[i]? = some (knd.hash (L[i]'(hl i List.mem_cons_self)).2) := by
        rw [Array.getElem?_map, rows_at h hi]
        rfl
      rw [List.filterMap_cons_some (rows_at h hi), List.filterMap_cons_some hi, e1, List.map_cons, List.map_cons, List.map_cons, e2]
      exact ⟨rfl, by rw [Array.getD_eq_getD_getElem?, e5]; rfl⟩
  obtain ⟨e1, e2⟩ := one od.toList fun i hi => List.mem_range.mp (hp.mem_iff.mp hi)
  refine ⟨od.toList.filterMap fun i => L[i]?, by rw [Array.toList_filterMap]; exact e1, ?_, e2⟩
  have q := hp.filterMap fun i => L[i]?
  rw [all] at q
  exact q
/-- the members in a larger table -/
theorem relay (C : Calm knd) {o : Obj} (ho : s.heap.get? a = some o) (hex : o.ExactSet) (hd : o.data = .set es ep t) (rows : es.toList = L.map fun p => (knd.hash p.2, Value.ref p.1)) (hf : t.fits es.size = true)
    (nd : (L.map (·.2)).Nodup) (el : ∀ p ∈ L, knd.is s.heap p.2 p.1) (ld : w.params.followText "set-order" = true ∨ t.led = true) {wanted M : Nat}
    (hw : SetTable.sizeAbove wanted = M + 1) (hM : Mk M) (hn : L.length * 5 < M * 3) {Q : Unit → Shared → Prop}
    (hQ : ∀ h' L' es' ep' t', Heap.SameBut a s.heap h' → SetH knd h' a L' es' ep' t' → L'.Perm L → Q () { s with heap := h' }) : wpAny (model P w) A (setRelay a wanted) Q E s := by
  have hz := rows_size rows
  have hM5 : M ≤ 511 := by rcases hM.cases with e | e | e | e <;> omega
  obtain ⟨t', od, e, hp, T, em, el'⟩ := relaid_tab t (hs := es.map (·.1)) (wanted := wanted) (M := M) (by omega) hM (by rw [Array.size_map]; omega)
  rw [Array.size_map, hz] at hp
  obtain ⟨L2, r1, r2, r3⟩ := rows_order rows od hp
  rw [← r3] at T
  have z2 := (rows_size r1).trans (r2.length_eq.trans hz.symm)
  have line : sizeLine = 16777216 := rfl
  rw [setRelay_eq]
  refine wpAny_bind (wpAny_setState_of ho hd hf ?_)
  dsimp only
  refine wp_if_neg (by rw [hw]; omega) ?_
  try refine wpAny_bind (wpAny_pure ?_)
  rw [e]
  dsimp only
  refine wpAny_bind (wp_if_neg (by rw [z2]; simp) ?_)
  try refine wpAny_bind (wpAny_pure ?_)
  refine wpAny_pure ?_
  dsimp only
  refine wpAny_storeSet_of ho hd (hQ _ L2 (od.filterMap (es[·]?)) (ep + 1) t' (Heap.SameBut.update ..) ⟨⟨_, store_at ho hd, ⟨hex.1, hex.2.1, hex.2.2⟩, rfl⟩, r1, T, (r2.map (·.2)).nodup_iff.mpr nd, fun p hpm => el_same C (el p (r2.mem_iff.mp hpm)) ho hd (Heap.SameBut.update ..), by rw [el']; exact ld, by rw [r2.length_eq, em]; exact hn⟩ r2) (by rw [z2]; omega)
/-- one more member -/
theorem add (C : Calm knd) (R : SetH knd s.heap a L es ep t) {x : Addr} {k : κ} (hx : knd.is s.heap k x) (hr : knd.room A) (few : L.length + 1 ≤ 300) {Q : Bool → Shared → Prop}
    (hQ : ∀ b h' L' es' ep' t', Heap.SameBut a s.heap h' → SetH knd h' a L' es' ep' t' → (k ∈ L.map (·.2) → L' = L) → (k ∉ L.map (·.2) → L'.Perm ((x, k) :: L)) → Q b { s with heap := h' }) :
    wpAny (model P w) A (setAddHashed a (.ref x) (knd.hash k)) Q E s := by
  obtain ⟨o, ho, hex, hd⟩ := R.ob
  have line : sizeLine = 16777216 := rfl
  unfold setAddHashed
  rw [show (100000 : Nat) = 99999 + 1 from rfl, setAddHashedIn_succ]
  refine wpAny_holding (wpAny_bind (wpAny_setState_of ho hd R.fits ?_))
  dsimp only
  refine wp_if_neg (by simp [byScan, Value.scannable]) ?_
  try refine wpAny_bind (wpAny_pure ?_)
  refine wpAny_bind (look_at C R hx hr (fun hm => ?_) fun K hm hK hb => ?_)
  · exact wpAny_pure (hQ false s.heap L es ep t (Heap.SameBut.refl a s.heap) R (fun _ => rfl) fun z => absurd hm z)
  · dsimp only
    refine wpAny_bind (wpAny_setState_of ho hd R.fits ?_)
    dsimp only
    obtain ⟨q1, q2, q3⟩ := R.tab.put hK hb
    have zL := rows_size R.rows
    have gap := R.gap
    -- the table with the new slot
    have v1 : (t.put (way t.mask (knd.hash k) K)).2 = SetTable.below t.place (way t.mask (knd.hash k) K) := rfl
    have v2 : (t.put (way t.mask (knd.hash k) K)).1.mask = t.mask := rfl
    have v3 : (t.put (way t.mask (knd.hash k) K)).1.led = t.led := rfl
    generalize t.put (way t.mask (knd.hash k) K) = pt at q2 q3 v1 v2 v3 ⊢
    obtain ⟨t1, p⟩ := pt
    dsimp only at q2 q3 v1 v2 v3 ⊢
    rw [← v1] at q1 q2
    have rows1 : (SetTable.insertAt es p (knd.hash k, Value.ref x)).toList = (L.take p ++ (x, k) :: L.drop p).map fun p => (knd.hash p.2, Value.ref p.1) := by
      rw [SetTable.toList_insertAt, R.rows, List.map_append, List.map_cons, List.map_take, List.map_drop]
    have pm : (L.take p ++ (x, k) :: L.drop p).Perm ((x, k) :: L) := by
      have h := List.perm_middle (a := (x, k)) (l₁ := L.take p) (l₂ := L.drop p)
      rw [List.take_append_drop] at h
      exact h
    have hg : (L.map fun p => knd.hash p.2).take p ++ knd.hash k :: (L.map fun p => knd.hash p.2).drop p = (L.take p ++ (x, k) :: L.drop p).map fun p => knd.hash p.2 := by
      rw [List.map_append, List.map_cons, List.map_take, List.map_drop]
    rw [hg] at q2
    generalize L.take p ++ (x, k) :: L.drop p = L1 at rows1 pm q2
    have l1 := pm.length_eq
    rw [List.length_cons] at l1
    have nd1 : (L1.map (·.2)).Nodup := (pm.map (·.2)).nodup_iff.mpr (List.nodup_cons.mpr ⟨hm, R.nd⟩)
    have z1 := rows_size rows1
    generalize SetTable.insertAt es p (knd.hash k, Value.ref x) = es1 at rows1 z1
    rw [List.length_map] at q3
    -- whatever becomes of the mark «plain»
    have main : ∀ t2 : SetTable, TabM t2 (L1.map fun p => knd.hash p.2) → t2.mask = t.mask → t2.led = t.led → t2.fill = L.length + 1 →
        wpAny (model P w) A (storeSet a es1 t2 >>= fun _ => if (!false && t2.tooFull) = true then (setRelay a (SetTable.grown (es.size + 1)) >>= fun _ => pure true) else pure true) Q E s := fun t2 T2 m2 d2 f2 => by
      refine wpAny_bind (wpAny_storeSet_of ho hd ?_ (by rw [z1]; omega))
      have sb : Heap.SameBut a s.heap (s.heap.update a (Obj.putSet es1 t2)) := Heap.SameBut.update ..
      have ho1 := store_at (es' := es1) (t' := t2) ho hd
      generalize s.heap.update a (Obj.putSet es1 t2) = h1 at sb ho1 ⊢
      have el1 : ∀ p ∈ L1, knd.is h1 p.2 p.1 := fun p hp => by
        rcases List.mem_cons.mp (pm.mem_iff.mp hp) with e | hp
        · rw [e]
          exact el_same C hx ho hd sb
        · exact el_same C (R.el p hp) ho hd sb
      have ld1 : w.params.followText "set-order" = true ∨ t2.led = true := d2.symm ▸ R.ld
      by_cases hf : t2.tooFull = true
      · have full : (L.length + 1) * 5 ≥ t.mask * 3 := by
          have h := hf
          unfold SetTable.tooFull at h
          rw [decide_eq_true_eq, f2, m2] at h
          exact h
        have big : ∃ M, SetTable.sizeAbove (SetTable.grown (es.size + 1)) = M + 1 ∧ Mk M ∧ L1.length * 5 < M * 3 ∧ t.mask < M := by
          rcases R.tab.msk.cases with e | e | e | e
          · exact ⟨31, by rw [show es.size + 1 = 5 by omega]; exact sizes.1, .inl (.inr (.inl rfl)), by omega, by omega⟩
          · exact ⟨127, by rw [show es.size + 1 = 19 by omega]; exact sizes.2.1, .inl (.inr (.inr rfl)), by omega, by omega⟩
          · exact ⟨511, by rw [show es.size + 1 = 77 by omega]; exact sizes.2.2, .inr rfl, by omega, by omega⟩
          · omega
        obtain ⟨M, b1, b2, b3, b4⟩ := big
        have fin : wpAny (model P w) A (setRelay a (SetTable.grown (es.size + 1))) (fun _ s' => Q true s') E { s with heap := h1 } :=
          relay (s := { s with heap := h1 }) C ho1 ⟨hex.1, hex.2.1, hex.2.2⟩ rfl rows1 (fits_of T2 (by rw [List.length_map, z1]) (by omega)) nd1 el1 ld1 b1 b2 b3 fun h2 L2 es2 ep2 t3 sb2 R2 pm2 => hQ true h2 L2 es2 ep2 t3 (sb.trans sb2) R2 (fun z => absurd z hm) fun _ => pm2.trans pm
        exact wp_if_pos (by rw [hf]; rfl) (wpAny_bind (wpAny_mono fin (fun _ _ h => wpAny_pure h) fun _ _ h => h))
      · have fin : Q true { s with heap := h1 } := hQ true h1 L1 es1 (ep + 1) t2 sb ⟨⟨_, ho1, ⟨hex.1, hex.2.1, hex.2.2⟩, rfl⟩, rows1, T2, nd1, el1, ld1, by
          have h := hf
          unfold SetTable.tooFull at h
          rw [decide_eq_true_eq, f2, m2] at h
          omega⟩ (fun z => absurd z hm) fun _ => pm
        exact wp_if_neg (by rw [Bool.eq_false_iff.mpr hf]; decide) (wpAny_pure fin)
    have both : ∀ r : Bool, ∃ t2, (if r = true then t1 else { t1 with plain := false }) = t2 ∧ TabM t2 (L1.map fun p => knd.hash p.2) ∧ t2.mask = t.mask ∧ t2.led = t.led ∧ t2.fill = L.length + 1 := fun r => by
      cases r
      · exact ⟨{ t1 with plain := false }, rfl, ⟨q2.up, q2.no, q2.n, q2.msk, q2.le, q2.at'⟩, v2, v3, q3⟩
      · exact ⟨t1, rfl, q2, v2, v3, q3⟩
    by_cases pl : t1.plain = true
    · refine wp_if_pos pl (wpAny_bind (C.hv hx fun r => ?_))
      obtain ⟨t2, e2, f1, f2, f3, f4⟩ := both r
      rw [e2]
      exact main t2 f1 f2 f3 f4
    · refine wp_if_neg pl (wpAny_bind (wpAny_pure ?_))
      obtain ⟨t2, e2, f1, f2, f3, f4⟩ := both true
      rw [e2]
      exact main t2 f1 f2 f3 f4
end
end SH
/-! set(xs) of a list, whatever the members: by what holds of the set behind i items -/
namespace SH
open PySem PySem.Spec PyProof.Rows L2
/-- a set just made -/
abbrev fs (w : World) : Obj := { cls := .type "set", dict := none, data := .set #[] 0 (.fresh 0 0 (!w.params.followText "set-order")) }
section
variable {P : Program} {w : World} {A : Around} {E : Value → Shared → Prop} {s : Shared}
/-- what adding the item v to the set at S leaves -/
def Adds (P : Program) (w : World) (A : Around) (S : Addr) (v : Value) (J : Heap → Prop) (z : Shared) : Prop :=
  ∀ E' : Value → Shared → Prop, wpAny (model P w) A (setAdd S v) (fun _ y => ∃ h' tk, z.toks ≤ tk ∧ y = { z with heap := h', toks := tk } ∧ Heap.SameBut S z.heap h' ∧ J h') E' z
theorem set_loop {it : Addr} {fp wr : List Addr} {G : Array GenState → Array GenState → Prop} {n : Nat} {Pv : Nat → Value → Prop} {St : Nat → Shared → Prop} {R : Result → Shared → Prop} (W : WalksS P w A.in1 it fp wr G n Pv St)
    {S : Addr} (hSf : S ∉ fp) (J : Nat → Heap → Prop) (h0 : Heap) (hS0 : h0.get? S = none) (hw0 : ∀ b ∈ wr, h0.get? b = none)
    (fr : ∀ i h h', J i h → (∀ o, h.get? S = some o → h'.get? S = some o) → (∀ b o, h0.get? b = some o → h'.get? b = some o) → J i h')
    (step : ∀ i v (z : Shared), i < n → Pv i v → (∀ b o, h0.get? b = some o → z.heap.get? b = some o) → J i z.heap → Adds P w A.in1 S v (J (i + 1)) z) :
    ∀ (k i : Nat) (s : Shared), n - i = k → i ≤ n → St i s → (∀ b o, h0.get? b = some o → s.heap.get? b = some o) → J i s.heap →
      (∀ s', Moved (S :: wr) G s s' → J n s'.heap → (∀ b o, h0.get? b = some o → s'.heap.get? b = some o) → R (.ok (.ret .none)) s') →
      codeAny (model P w) A (.builtin "set.update.loop" ⟨[.ref S, .ref it], []⟩) R s := by
  have notin : S ∉ wr := fun h => hSf (W.sub _ h)
  have up : ∀ b ∈ wr, b ∈ S :: wr := fun b hb => List.mem_cons_of_mem _ hb
  have keep : ∀ {z z' : Shared}, Moved wr G z z' → (∀ b o, h0.get? b = some o → z.heap.get? b = some o) → ∀ b o, h0.get? b = some o → z'.heap.get? b = some o := fun m k b o e =>
    m.heap b o (fun hb => absurd e (by rw [hw0 b hb]; exact fun z => nomatch z)) (k b o e)
  intro k
  induction k with
  | zero =>
    intro i s hk hi hst old hJ hR
    obtain rfl : i = n := by omega
    refine codeAny_builtin F.entry_set_update_loop ?_
    rw [Around.under_plainId (id := "set.update.loop") F.plain_set_update_loop]
    show wpAny (model P w) A.in1 (pyNext (.ref it) >>= _) _ _ s
    refine wpAny_bind (W.done s _ _ hst fun z m => ?_)
    show wpAny _ A.in1 (ret .none) _ _ z
    exact wpAny_pure (hR z (m.mono up) (fr _ _ _ hJ (fun o e => m.heap S o notin e) (keep m old)) (keep m old))
  | succ k ih =>
    intro i s hk hi hst old hJ hR
    have lt : i < n := by omega
    refine codeAny_builtin F.entry_set_update_loop ?_
    rw [Around.under_plainId (id := "set.update.loop") F.plain_set_update_loop]
    show wpAny (model P w) A.in1 (pyNext (.ref it) >>= _) _ _ s
    refine wpAny_bind (W.item i s _ _ lt hst fun v z hv hz m => ?_)
    have old' := keep m old
    show wpAny _ A.in1 (holding [v] (setAdd S v) >>= _) _ _ z
    refine wpAny_bind (wpAny_holding (wpAny_mono (step i v z lt hv old' (fr _ _ _ hJ (fun o e => m.heap S o notin e) old') _) (fun _ y hy => ?_) fun _ _ h => h))
    obtain ⟨h', tk, htk, rfl, sb, hJ'⟩ := hy
    have old2 : ∀ b o, h0.get? b = some o → h'.get? b = some o := fun b o e => (sb.2 b (fun e2 => by rw [e2, hS0] at e; cases e)).trans (old' b o e)
    refine wpAny_pure ⟨plainId_quiet F.plain_set_update_loop _, ih (i + 1) _ (by omega) lt (W.frame _ z _ _ hz htk fun b hb o e => ?_) old2 hJ' fun y my hy oy => ?_⟩
    · rw [sb.2 b fun e2 => hSf (e2 ▸ hb)]
      exact e
    · refine hR y (Moved.trans W.gtrans ((m.mono up).then_heap htk fun b o hb e => ?_) my) hy oy
      rw [sb.2 b fun e2 => hb (e2 ▸ List.mem_cons_self)]
      exact e
set_option maxHeartbeats 3200000 in
/-- set(xs), xs a list: J i holds of the heap once i items are in -/
theorem call_set_of {l : Addr} {its : Array Value} {Q : Value → Shared → Prop} (hh : A.handled = none) (hl : s.heap.IsList l its) (J : Nat → Heap → Prop)
    (fr : ∀ i h h', J i h → (∀ o, h.get? s.heap.objs.size = some o → h'.get? s.heap.objs.size = some o) → (∀ b o, s.heap.get? b = some o → h'.get? b = some o) → J i h')
    (start : ∀ h, h.get? s.heap.objs.size = some (fs w) → (∀ b o, s.heap.get? b = some o → h.get? b = some o) → J 0 h)
    (step : ∀ i v (z : Shared), its[i]? = some v → (∀ b o, s.heap.get? b = some o → z.heap.get? b = some o) → J i z.heap → Adds P w A.in1.in1.in1 s.heap.objs.size v (J (i + 1)) z)
    (fin : ∀ (h' : Heap) (tk : Nat), J its.size h' → (∀ b o, s.heap.get? b = some o → h'.get? b = some o) → Q (.ref s.heap.objs.size) { s with heap := h', toks := tk }) :
    wpAny (model P w) A (call (.type "set") [.ref l]) Q E s := by
  generalize hS : s.heap.objs.size = S at fr start step fin
  obtain ⟨c, tl, hmro⟩ := F.called_set.mro
  have hmade := F.called_set.made
  have hsub := F.called_set.sub
  refine wpAny_call (codeAny_of_tree ?_)
  show wpAny _ _ (callAny (.type "set") _) _ _ _
  refine wpAny_pure ⟨Code.quiet_builtin _ (by decide +kernel), codeAny_builtin F.entry_type_call ?_⟩
  rw [Around.under_plain (weight_type_call_type "set" [.ref l] []) rfl]
  have h1 := F.called_set.notType
  have h2 := F.called_set.canCreate
  have hct := F.typeCall_set_1 (.ref l)
  repeat (any_goals (first | assumption | wp_step))
  refine codeAny_mono (code_set_led1 (.ref l) (E := E) (Q₁ := fun x z => x = .ref S ∧ z = { s with heap := s.heap.push (fs w) }) ⟨congrArg Value.ref hS, rfl⟩) fun r z hr => ?_
  cases r with
  | error e => exact hr
  | ok fl =>
    cases fl with
    | ret x =>
      obtain ⟨rfl, rfl⟩ := hr
      have atS : (s.heap.push (fs w)).get? S = some (fs w) := hS ▸ Heap.get?_push_size _ rfl
      have hT : Shared.TypeIs { s with heap := s.heap.push (fs w) } (.ref S) "set" := ⟨_, atS, rfl⟩
      have hli := F.called_set.init.lookup
      have hbi := F.called_set.init.bind (.ref S)
      repeat (any_goals (first | assumption | wp_step))
      refine codeAny_mono (codeAny_call_builtin (R := wants (fun r y => r = .none ∧ ∃ h' tk, y = { s with heap := h', toks := tk } ∧ J its.size h' ∧ ∀ b o, s.heap.get? b = some o → h'.get? b = some o) E) F.called_set.init.plain F.entry_set_init (check_set_init_1 hT ?_)) fun r y hr => ?_
      · obtain ⟨ol, hol, hcl, nl, hdl⟩ := hl
        obtain ⟨ocls, odict, odata, oslots⟩ := ol
        simp only at hcl hdl
        subst hcl
        subst hdl
        have hol' : (s.heap.push (fs w)).get? l = some { cls := .type "list", dict := odict, data := .seq its nl, slots := oslots } := Heap.get?_push_of_some _ hol
        have hl1 : (s.heap.push (fs w)).IsList l its := ⟨_, hol', rfl, nl, rfl⟩
        have hsls := F.sub_list_set
        have hslf := F.sub_list_frozenset
        have hne : (Value.type "list" == Value.type "dict") = false := by decide
        unfold Builtin.«set.__init__» noKeywords Builtin.Frozenset.updateFrom
        generalize hPI : pyIter = PI
        wp_walk
        subst hPI
        refine wpAny_pyIter_list hl1 (wpAny_bind (wpAny_runValue ?_))
        have lS : l < S := hS ▸ Heap.lt_size hol
        have z1 : (s.heap.push (fs w)).objs.size = S + 1 := by rw [Heap.size_push, hS]
        have none_of : ∀ b, S ≤ b → s.heap.get? b = none := fun b hb => by
          cases q : s.heap.get? b with
          | none => rfl
          | some o => exact absurd (Heap.lt_size q) (Nat.not_lt.mpr (hS.symm ▸ hb))
        have hh3 : A.in1.in1.in1.handled = none := by simp [hh]
        have push2 : ∀ b o, (s.heap.push (fs w)).get? b = some o → ((s.heap.push (fs w)).push { cls := .type "list_iterator", data := .fields #[.ref l, .int 0 0] }).get? b = some o := fun b o e => Heap.get?_push_of_some _ e
        refine set_loop (Walks.list hh3 (s.heap.push (fs w)).objs.size l (by rw [z1]; exact Nat.ne_of_lt (Nat.lt_succ_of_lt lS)) its).toS (S := S) (by rw [z1]; simp; exact fun e => Nat.lt_irrefl S (e.symm ▸ lS)) J s.heap (none_of S (Nat.le_refl _)) (fun b hb => none_of b (by rw [List.mem_singleton.mp hb, z1]; omega)) fr (fun i v z _ hv oz jz => step i v z hv oz jz)
          (its.size - 0) 0 _ rfl (Nat.zero_le _) ⟨⟨_, Heap.get?_push_size _ rfl, rfl, rfl⟩, hl1.push _⟩ (fun b o e => push2 b o (Heap.get?_push_of_some _ e)) (start _ (push2 S _ atS) fun b o e => push2 b o (Heap.get?_push_of_some _ e)) fun y m jy oy => ?_
        obtain ⟨h', g', d', tk', os'⟩ := y
        obtain rfl : g' = s.gens := m.gens
        obtain rfl : d' = s.drawn := m.drawn
        obtain rfl : os' = s.os := m.os
        show wpAny _ _ _ _ _ _
        refine wpAny_pure ?_
        show wpAny _ _ (ret .none) _ _ _
        exact wpAny_pure ⟨rfl, h', tk', rfl, jy, oy⟩
      · cases r with
        | error e => exact hr
        | ok fl =>
          cases fl with
          | ret r =>
            obtain ⟨rfl, h', tk, rfl, jy, oy⟩ := hr
            repeat (any_goals (first | assumption | wp_step))
            exact fin _ _ jy oy
          | _ => exact hr.elim
    | _ => exact hr.elim
end
end SH
/-! the layer's rules: set(xs) of tuples of keys, sorted of a set -/
namespace SH
open PySem PySem.Spec PyProof.Rows L2
open PySem.W (EachIs AllAlike Sortable dataLe)
/-! tuples of keys -/
abbrev TKK (P : Program) (w : World) : HeapKind P w (List Key) := tupleKind (mixKind P w)
section
variable {P : Program} {w : World} {A : Around} {E : Value → Shared → Prop} {s : Shared}
theorem items_keys {k : List Key} {vs : List Value} (h : ItemsAre (mixKind P w) k vs) : ∀ v ∈ vs, (∃ i t, v = Value.int i t) ∨ ∃ x t, v = Value.str x t := by
  induction h with
  | nil => exact fun v hv => nomatch hv
  | @cons k0 v' ks vs h1 _ ih =>
    intro v hv
    rcases List.mem_cons.mp hv with rfl | hv
    · rcases keyIs_shape h1 with ⟨i, t, _, e⟩ | ⟨x, t, _, e⟩
      · exact .inl ⟨i, t, e⟩
      · exact .inr ⟨x, t, e⟩
    · exact ih v hv
theorem cl_keys {k : List Key} {b : Addr} {Q : Bool → Shared → Prop} (hk : (TKK P w).is s.heap k b) (h : Q false s) : wpAny (model P w) A (ofAClassStatement 8 (.ref b)) Q E s := by
  have hT := IsTupleKey.typeIs hk
  obtain ⟨o, items, n, ho, _, hd, hi⟩ := hk
  unfold ofAClassStatement
  refine wpAny_bind (wpAny_typeOf hT ?_)
  dsimp only
  simp only [show (("tuple" : String) == "tuple") = true by decide, if_true, Bool.not_true, Bool.false_eq_true, if_false]
  try refine wpAny_bind (wpAny_pure ?_)
  try simp only [Bool.not_true, Bool.false_eq_true, if_false]
  show wpAny _ _ (seqItems? (.ref b) >>= _) _ _ s
  refine wpAny_bind (wpAny_seqItems ho hd ?_)
  dsimp only
  refine wpAny_bind ?_
  show wpAny _ _ (forIn items _ _) _ _ s
  rw [← Array.forIn_toList]
  refine wpAny_forIn_list _ (fun rest r z => z = s ∧ r.1 = none ∧ ∀ v ∈ rest, (∃ i t, v = Value.int i t) ∨ ∃ x t, v = Value.str x t) _ (fun v rest r z hz => ?_) (fun r z hz => ?_) _ _ ⟨rfl, rfl, items_keys hi⟩
  · obtain ⟨rfl, hr, al⟩ := hz
    have tl := fun u hu => al u (List.mem_cons_of_mem v hu)
    have e : ∀ n, ofAClassStatement n v = pure false := fun n => by
      rcases al v List.mem_cons_self with ⟨i, t, rfl⟩ | ⟨x, t, rfl⟩ <;> cases n <;> rfl
    rw [e]
    refine wpAny_bind (wpAny_pure ?_)
    rw [if_neg Bool.false_ne_true]
    exact wpAny_pure ⟨rfl, rfl, tl⟩
  · obtain ⟨r1, r2⟩ := r
    obtain ⟨rfl, hr, _⟩ := hz
    cases (show r1 = none from hr)
    exact wpAny_pure h
theorem hv_keys {k : List Key} {b : Addr} {Q : Bool → Shared → Prop} (hk : (TKK P w).is s.heap k b) (h : ∀ r, Q r s) : wpAny (model P w) A (hashByValue 8 (.ref b)) Q E s := by
  have hT := IsTupleKey.typeIs hk
  obtain ⟨o, items, n, ho, _, hd, hi⟩ := hk
  unfold hashByValue
  refine wpAny_bind (wpAny_specialOf hT F.slot_tuple_hash.lookup ?_)
  show wpAny _ _ (seqItems? (.ref b) >>= _) _ _ s
  refine wpAny_bind (wpAny_seqItems ho hd (wpAny_bind ?_))
  show wpAny _ _ (forIn items _ _) _ _ s
  rw [← Array.forIn_toList]
  refine wpAny_forIn_list _ (fun rest r z => z = s ∧ r.1 = none ∧ ∀ v ∈ rest, (∃ i t, v = Value.int i t) ∨ ∃ x t, v = Value.str x t) _ (fun v rest r z hz => ?_) (fun r z hz => ?_) _ _ ⟨rfl, rfl, items_keys hi⟩
  · obtain ⟨rfl, hr, al⟩ := hz
    have tl := fun u hu => al u (List.mem_cons_of_mem v hu)
    rcases al v List.mem_cons_self with ⟨i, t, rfl⟩ | ⟨x, t, rfl⟩
    · have e : ∀ n, hashByValue n (.int i t) = pure true := fun n => by cases n <;> rfl
      rw [e]
      refine wpAny_bind (wpAny_pure ?_)
      rw [Bool.not_true, if_neg Bool.false_ne_true]
      exact wpAny_pure ⟨rfl, rfl, tl⟩
    · have e : ∀ n, hashByValue n (.str x t) = pure false := fun n => by cases n <;> rfl
      rw [e]
      refine wpAny_bind (wpAny_pure ?_)
      rw [Bool.not_false, if_pos rfl]
      exact wpAny_pure (wpAny_pure (h false))
  · obtain ⟨r1, r2⟩ := r
    obtain ⟨rfl, hr, _⟩ := hz
    cases (show r1 = none from hr)
    exact wpAny_pure (h true)
theorem calm_keys : Calm (TKK P w) := ⟨tupleKind_stays, fun hk h => cl_keys hk h, fun hk h => hv_keys hk h⟩
end
/-! what the set has of the first i items -/
structure Has {κ : Type} (ks : List (Addr × κ)) (i : Nat) (L : List (Addr × κ)) : Prop where
  sub : ∀ p, p ∈ L → p ∈ ks.take i
  all : ∀ p, p ∈ ks.take i → p.2 ∈ L.map (·.2)
  len : L.length ≤ i
theorem Has.old {κ : Type} {ks L : List (Addr × κ)} {i : Nat} {x : Addr × κ} (g : Has ks i L) (h : ks[i]? = some x) (hm : x.2 ∈ L.map (·.2)) : Has ks (i + 1) L := by
  have e : ks.take (i + 1) = ks.take i ++ [x] := by rw [List.take_add_one, h]; rfl
  refine ⟨fun p hp => e ▸ List.mem_append_left _ (g.sub p hp), fun p hp => ?_, Nat.le_succ_of_le g.len⟩
  rw [e] at hp
  rcases List.mem_append.mp hp with z | z
  · exact g.all p z
  · exact List.mem_singleton.mp z ▸ hm
theorem Has.new {κ : Type} {ks L L' : List (Addr × κ)} {i : Nat} {x : Addr × κ} (g : Has ks i L) (h : ks[i]? = some x) (pm : L'.Perm (x :: L)) : Has ks (i + 1) L' := by
  have e : ks.take (i + 1) = ks.take i ++ [x] := by rw [List.take_add_one, h]; rfl
  refine ⟨fun p hp => ?_, fun p hp => ?_, ?_⟩
  · rw [e]
    rcases List.mem_cons.mp (pm.mem_iff.mp hp) with z | z
    · exact z ▸ List.mem_append_right _ List.mem_cons_self
    · exact List.mem_append_left _ (g.sub p z)
  · rw [(pm.map (·.2)).mem_iff, List.map_cons]
    rw [e] at hp
    rcases List.mem_append.mp hp with z | z
    · exact List.mem_cons_of_mem _ (g.all p z)
    · exact List.mem_singleton.mp z ▸ List.mem_cons_self
  · have := pm.length_eq
    have := g.len
    simp at *
    omega
/-! a set that can be walked: its members' values, in some order -/
def Walked (w : World) (h : Heap) (a : Addr) (xs : List V) : Prop := ∃ (es : Array (Int × Value)) (ep : Nat) (t : SetTable), SetAt h a es ep t ∧ t.fits es.size = true ∧ es.size < scanBound ∧ Ris t.place.toList ∧
  (w.params.followText "set-order" = true ∨ t.led = true) ∧ Vals xs (es.toList.map (·.2))
/-- the set at a of the tuples L -/
def SetP (P : Program) (w : World) (a : Addr) (L : List (Addr × List Key)) (h : Heap) : Prop := ∃ (es : Array (Int × Value)) (ep : Nat) (t : SetTable), (∃ o, h.get? a = some o ∧ o.ExactSet ∧ o.data = .set es ep t) ∧
  es.toList = (L.map fun p => ((TKK P w).hash p.2, Value.ref p.1)) ∧ TabM t (L.map fun p => (TKK P w).hash p.2) ∧ (L.map (·.2)).Nodup ∧ (w.params.followText "set-order" = true ∨ t.led = true) ∧ L.length * 5 < t.mask * 3
def SetT (P : Program) (w : World) (a : Addr) (L : List (Addr × List Key)) : HO := .ext (SetP P w a L)
theorem SetP.walked {P : Program} {w : World} {a : Addr} {L : List (Addr × List Key)} {h : Heap} (R : SetP P w a L h) : Walked w h a (L.map fun p => V.ref p.1) := by
  obtain ⟨es, ep, t, ⟨o, ho, hx, hd⟩, rows, T, _, ld, gap⟩ := R
  have z := rows_size rows
  have sm : L.length ≤ 306 := by rcases T.msk.cases with e | e | e | e <;> omega
  have sb : scanBound = 4096 := rfl
  refine ⟨es, ep, t, ⟨o, ho, hx.1, hd⟩, fits_of T (by rw [List.length_map, z]) (by omega), by omega, T.up, ld, ?_⟩
  rw [rows, List.map_map]
  have gen : ∀ M : List (Addr × List Key), Vals (M.map fun p => V.ref p.1) (M.map fun p => Value.ref p.1) := fun M => by
    induction M with
    | nil => exact .nil
    | cons p M ih => exact .cons rfl ih
  exact gen L
theorem setT_ok {P : Program} {w : World} {H : Hp} {h : Heap} {a : Addr} {L : List (Addr × List Key)} (R : SetP P w a L h) : ObjOk P w H h a (SetT P w a L) := by
  have ⟨es, ep, t, ⟨o, ho, r⟩, q⟩ := R
  refine ⟨R, ⟨o, ho⟩, fun h1 h2 p k => ?_⟩
  obtain ⟨es', ep', t', ⟨o', ho', r'⟩, q'⟩ := p
  exact ⟨es', ep', t', ⟨o', k o' ho', r'⟩, q'⟩
theorem items_vals {P : Program} {w : World} : ∀ {k : List Key} {us : List Value}, Vals (k.map kV) us → ItemsAre (mixKind P w) k us
  | [], _, .nil => .nil
  | n :: k, _, .cons r t => .cons (kV_is r) (items_vals t)
theorem refs_vals : ∀ {ks : List (Addr × List Key)} {us : List Value}, Vals (ks.map fun p => V.ref p.1) us → us = ks.map fun p => Value.ref p.1
  | [], _, .nil => rfl
  | p :: ks, _, .cons r t => by
    cases r
    rw [refs_vals t]
    rfl
section
variable {X : Cx}
theorem key_tup {pins : List (Addr × Obj)} {σ : L2.St} {H : Hp} {s : Shared} {b : Addr} {k : List Key} (I : Inv X pins σ H s) (h : SqT X.K H b (k.map kV)) : (TKK X.prog X.w).is s.heap k b := by
  obtain ⟨its, r, ⟨o, ho, hc, n, hd⟩, _⟩ := I.tuple h
  exact ⟨o, its.toArray, n, ho, hc, hd, items_vals r⟩
/-- set(xs), xs a list of tuples of keys -/
def rSetT (K : PySem.W.Frag) (P : Program) (w : World) : List V → Hp → VK → Prop := fun xs H Q => ∃ (l : Addr) (ks : List (Addr × List Key)), xs = [V.ref l] ∧ SqL K H l (ks.map fun p => V.ref p.1) ∧ (∀ p ∈ ks, SqT K H p.1 (p.2.map kV)) ∧ ks.length ≤ 300 ∧
  ∀ a L, H a = none → Has ks ks.length L → (L.map (·.2)).Nodup → Q (.ref a) (upd H a (SetT P w a L))
theorem cr_setT (hc : X.calm = true) (hu : X.A.units + 64 < cLine) : CallR X (.type "set") (rSetT X.K X.prog X.w) := by
  intro pins s σ H xs us Q I r h
  obtain ⟨l, ks, rfl, hl, hk, hf, q⟩ := h
  rw [Vals.ref1 r]
  obtain ⟨its, rv, pl, hz⟩ := I.list hl
  have hits : its = ks.map fun p => Value.ref p.1 := refs_vals rv
  have hn : H s.heap.objs.size = none := I.hok.fresh (Nat.le_refl _)
  have mem : ∀ p ∈ ks, (TKK X.prog X.w).is s.heap p.2 p.1 := fun p hp => key_tup I (hk p hp)
  have room : X.A.in1.in1.in1.units < cLine := by
    show X.A.units + 1 + 1 + 1 < cLine
    omega
  have none0 : s.heap.get? s.heap.objs.size = none := by
    cases e : s.heap.get? s.heap.objs.size with
    | none => rfl
    | some o => exact absurd (Heap.lt_size e) (Nat.lt_irrefl _)
  refine call_set_of (P := X.prog) (w := X.w) (I.ok.hd hc) pl.isList (fun i h => ∃ L es ep t, SetH (TKK X.prog X.w) h s.heap.objs.size L es ep t ∧ Has ks i L) (fun i h h' ⟨L, es, ep, t, R, g⟩ k1 k2 => ?_) (fun h e _ => ?_) (fun i v z hv old ⟨L, es, ep, t, R, g⟩ E' => ?_) fun h' tk ⟨L, es, ep, t, R, g⟩ old => ?_
  · obtain ⟨o, ho, rr⟩ := R.ob
    exact ⟨L, es, ep, t, ⟨⟨o, k1 o ho, rr⟩, R.rows, R.tab, R.nd, fun p hp => calm_keys.st.stays (fun b o vs n hb _ => k2 b o hb) (mem p (List.mem_of_mem_take (g.sub p hp))), R.ld, R.gap⟩, g⟩
  · refine ⟨[], #[], 0, _, ⟨⟨_, e, ⟨rfl, rfl, rfl⟩, rfl⟩, rfl, ⟨List.Pairwise.nil, rfl, rfl, .inl (.inl rfl), fun x hx => (by cases hx), fun i h j hi => (by simp at hi)⟩, List.nodup_nil, fun p hp => (by cases hp), ?_, by show 0 * 5 < 7 * 3; decide⟩, ⟨fun p h => (by cases h), fun p h => (by simp at h), Nat.le_refl _⟩⟩
    show _ ∨ (!X.w.params.followText "set-order") = true
    cases X.w.params.followText "set-order"
    · exact .inr rfl
    · exact .inl rfl
  · have hv2 : (ks.map fun p => Value.ref p.1)[i]? = some v := by
      rw [← hits, ← hv]
      simp
    rw [List.getElem?_map] at hv2
    cases hp : ks[i]? with
    | none =>
      rw [hp] at hv2
      cases hv2
    | some p =>
      rw [hp] at hv2
      cases hv2
      have hx : (TKK X.prog X.w).is z.heap p.2 p.1 := calm_keys.st.stays (fun b o vs n hb _ => old b o hb) (mem p (List.mem_of_getElem? hp))
      have il := (List.getElem?_eq_some_iff.mp hp).1
      unfold setAdd
      refine wpAny_holding (wpAny_bind ((TKK X.prog X.w).pyHash room hx ?_))
      refine add (s := { z with toks := z.toks + (TKK X.prog X.w).draws p.2 }) calm_keys R hx room (by have := g.len; omega) fun b h' L' es' ep' t' sb R' c1 c2 => ⟨h', _, Nat.le_add_right _ _, rfl, sb, L', es', ep', t', R', ?_⟩
      by_cases c : p.2 ∈ L.map (·.2)
      · rw [c1 c]
        exact g.old hp c
      · exact g.new hp (c2 c)
  · have e : its.toArray.size = ks.length := by
      rw [hits]
      simp
    rw [e] at g
    exact ⟨.ref s.heap.objs.size, upd H s.heap.objs.size (SetT X.prog X.w s.heap.objs.size L), I.laid (t' := tk) old (Nat.le_refl _) (setT_ok ⟨es, ep, t, R.ob, R.rows, R.tab, R.nd, R.ld, R.gap⟩), rfl, q _ L hn g R.nd⟩
/-! sorted(a set) -/
theorem each_perm {α β : Type} {R : α → β → Prop} {us vs : List α} (p : us.Perm vs) : ∀ {bs : List β}, EachIs R us bs → ∃ cs : List β, cs.Perm bs ∧ EachIs R vs cs := by
  induction p with
  | nil => exact fun {bs} h => ⟨bs, .refl _, h⟩
  | cons x _ ih =>
    intro bs h
    cases h with
    | cons h t =>
      obtain ⟨cs, c, e⟩ := ih t
      exact ⟨_ :: cs, c.cons _, .cons h e⟩
  | swap x y l =>
    intro bs h
    cases h with
    | cons h t =>
      cases t with
      | cons h2 t => exact ⟨_ :: _ :: _, .swap _ _ _, .cons h2 (.cons h t)⟩
  | trans _ _ ih1 ih2 =>
    intro bs h
    obtain ⟨cs, c, e⟩ := ih1 h
    obtain ⟨ds, d, f⟩ := ih2 e
    exact ⟨ds, d.trans c, f⟩
theorem each_of_vals : ∀ {bs : List (V × PyData)} {us : List Value}, Vals (bs.map Prod.fst) us → EachIs (fun (v : Value) (b : V × PyData) => RelV b.1 v) us bs
  | [], _, r => by cases r; exact .nil
  | b :: bs, _, r => by
    cases r with
    | cons r1 r2 => exact .cons r1 (each_of_vals r2)
theorem vals_of_each : ∀ {bs : List (V × PyData)} {us : List Value}, EachIs (fun (v : Value) (b : V × PyData) => RelV b.1 v) us bs → Vals (bs.map Prod.fst) us
  | [], _, r => by cases r; exact .nil
  | b :: bs, _, r => by
    cases r with
    | cons r1 r2 => exact .cons r1 (vals_of_each r2)
theorem each_and {α β : Type} {R S : α → β → Prop} : ∀ {as : List α} {bs : List β}, EachIs R as bs → (∀ a b, b ∈ bs → R a b → S a b) → EachIs S as bs
  | _, _, .nil, _ => .nil
  | _, _, .cons h t, k => .cons (k _ _ List.mem_cons_self h) (each_and t fun a b hb => k a b (List.mem_cons_of_mem _ hb))
def rSortSet (K : PySem.W.Frag) (w : World) : List V → Hp → VK → Prop := fun vs H Q => ∃ (a : Addr) (bs : List (V × PyData)) (U : Heap → Prop), vs = [V.ref a] ∧ H a = some (.ext U) ∧ (∀ h, U h → Walked w h a (bs.map Prod.fst)) ∧ (∀ b ∈ bs, Dp K H b.1 b.2) ∧
  AllAlike (bs.map Prod.snd) ∧ Sortable (bs.map Prod.snd) ∧ (∀ b ∈ bs, b.2.depth ≤ 10) ∧
  ∀ (cs : List (V × PyData)) (p : Addr), cs.Perm bs → cs.Pairwise (fun x y => dataLe false Prod.snd x y = true) → H p = none → Q (.ref p) (upd H p (.lst (cs.map Prod.fst)))
theorem cr_sortSet (hc : X.calm = true) (hu : X.A.units + 64 < cLine) : CallR X (.builtin "sorted") (rSortSet X.K X.w) := by
  intro pins s σ H vs us Q I r h
  obtain ⟨a, bs, U, rfl, ha, hw, hd, hal, hso, hdp, q⟩ := h
  rw [Vals.ref1 r]
  obtain ⟨es, ep, t, hat, hf, hsz, ris, ld, rv⟩ := hw _ (I.hok a _ ha).1
  have line : sizeLine = 16777216 := rfl
  have sbd : scanBound = 4096 := rfl
  refine Calls.call_function_entry kind_sorted plain_sorted entry_sorted (args_sorted1 _) ?_
  unfold Builtin.«sorted»
  refine wpAny_bind (m := checkCount "sorted" 1 1 _) (wpAny_pure ?_)
  refine wpAny_bind (collect_set (A := X.A.in1) (I.ok.hd hc) hat hf hsz ris ld fun s1 vs k1 hz g1 o1 pm => ?_)
  obtain ⟨cs, pc, ec⟩ := each_perm pm.symm (each_of_vals rv)
  have hl : vs.length = bs.length := ec.length.trans pc.length_eq
  have lb : bs.length = es.size := by
    have h1 := (each_of_vals rv).length
    simp at h1
    exact h1.symm
  refine wpAny_bind (wpAny_newList ?_ (by omega))
  have hoL : (s1.heap.push (seqObj "list" vs.toArray 0)).get? s1.heap.objs.size = some (seqObj "list" vs.toArray 0) := Heap.get?_push_size _ rfl
  show wpAny _ _ _ _ _ { s1 with heap := s1.heap.push (seqObj "list" vs.toArray 0) }
  have er : EachIs (fun (v : Value) (b : V × PyData) => ∃ as, Reads (s1.heap.push (seqObj "list" vs.toArray 0)) v b.2 as ∧ s1.heap.objs.size ∉ as) vs cs := each_and ec fun v b hb rb => by
    obtain ⟨as, hr⟩ := Dp.reads I b.2 b.1 v (hd b (pc.mem_iff.mp hb)) rb
    have hr1 : Reads s1.heap v b.2 as := Reads.keeps k1 hr
    refine ⟨as, Reads.keeps (fun b o e => Heap.get?_push_of_some _ e) hr1, fun hm => ?_⟩
    obtain ⟨o, ho⟩ := PyProof.On.reads_mem_get hr1 _ hm
    exact absurd (Heap.lt_size ho) (Nat.lt_irrefl _)
  have pd := pc.map Prod.snd
  have hal' : AllAlike (cs.map Prod.snd) := fun d h1 d' h2 => hal d (pd.mem_iff.mp h1) d' (pd.mem_iff.mp h2)
  have hso' : Sortable (cs.map Prod.snd) := by
    rcases hso with z | z
    · exact .inl fun d h1 => z d (pd.mem_iff.mp h1)
    · exact .inr fun d h1 => z d (pd.mem_iff.mp h1)
  refine wpAny_bind (wpAny_holding (PySem.W.list_sort_data (enc := Prod.snd) (s := { s1 with heap := s1.heap.push (seqObj "list" vs.toArray 0) }) hoL ec er hal' hso' (by have := pc.length_eq; omega) ?k4 fun out ho eo => ?_))
  case k4 =>
    intro b hb
    have h1 := hdp b (pc.mem_iff.mp hb)
    have h2 : X.A.in1.units = X.A.units + 1 := rfl
    omega
  obtain ⟨c, hcat⟩ := sortedHeap_at (vs := vs) (out := out.toArray) hoL
  have pw : (cs.mergeSort (dataLe false Prod.snd)).Pairwise (fun x y => dataLe false Prod.snd x y = true) := PySem.W.sort_pairwise (by unfold dataLe; exact PySem.W.sortLe_total _ _ _) cs
  have pm2 : (cs.mergeSort (dataLe false Prod.snd)).Perm bs := (List.mergeSort_perm cs _).trans pc
  generalize cs.mergeSort (dataLe false Prod.snd) = ds at eo pw pm2
  have ev := vals_of_each eo
  have hn : H s1.heap.objs.size = none := I.hok.fresh hz
  have hlen : (ds.map Prod.fst).length ≤ sizeLine := by
    rw [List.length_map, pm2.length_eq]
    omega
  have J : Inv X pins σ (upd H s1.heap.objs.size (.lst (ds.map Prod.fst))) { s with heap := sortedHeap (s1.heap.push (seqObj "list" vs.toArray 0)) s1.heap.objs.size vs out.toArray, gens := s1.gens, drawn := s1.drawn, toks := s1.toks } := by
    have old : ∀ b u, s.heap.get? b = some u → (sortedHeap (s1.heap.push (seqObj "list" vs.toArray 0)) s1.heap.objs.size vs out.toArray).get? b = some u := fun b u e => by
      have q2 := k1 b u e
      have hlt := Heap.lt_size q2
      rw [sortedHeap_old (Nat.ne_of_lt hlt) (by rw [size_push']; exact Nat.lt_succ_of_lt hlt)]
      exact Heap.get?_push_of_some _ q2
    exact I.call (ch := []) (Un.laid old hz hn) (I.hok.laid old hz ⟨hlen, out, c, ev, hcat⟩) (by rw [g1]; exact I.bare) (fun _ z => nomatch z)
  refine wpAny_pure ⟨_, rfl, ?_⟩
  have e : ({ s1 with heap := sortedHeap (s1.heap.push (seqObj "list" vs.toArray 0)) s1.heap.objs.size vs out.toArray } : Shared) = { s with heap := sortedHeap (s1.heap.push (seqObj "list" vs.toArray 0)) s1.heap.objs.size vs out.toArray, gens := s1.gens, drawn := s1.drawn, toks := s1.toks } := by
    cases s1
    cases s
    cases o1
    rfl
  rw [e]
  exact ⟨.ref s1.heap.objs.size, _, J, rfl, q ds _ pm2 pw hn⟩
end
end SH
namespace Tb
open PySem PySem.Spec PyProof.Rows L2
def topS (i : Nat) : Stmt := PySem.Challenge.pw_everyparcel_k05_least_address_that_parts.main.body.getD i (.Pass ⟨0, 0, 0, 0⟩)
abbrev sMade : Stmt := topS 8
abbrev sSpells : Stmt := topS 9
abbrev sIsName : Stmt := topS 11
abbrev sIsAddr : Stmt := topS 14
abbrev sLong : Stmt := topS 15
abbrev sIsLane : Stmt := topS 17
abbrev sLane : Stmt := topS 18
/-- a def of the text: it stands, its arguments bind, its global is it -/
structure Dd (K : PySem.W.Frag) (mg : Str → Option Value) (x : Str) (st : Stmt) (ps : List Str) (f : Addr) (fd : FuncData) : Prop where
  F : Fun K x x st f fd
  b : Binds K fd ps []
  g : mg x = some (.ref f)
/-- the globals that are the built-ins, and the two texts -/
structure Blt (mg : Str → Option Value) : Prop where
  len : mg "len" = none
  int : mg "int" = none
  str : mg "str" = none
  list : mg "list" = none
  tuple : mg "tuple" = none
  dict : mg "dict" = none
  bool : mg "bool" = none
  range : mg "range" = none
  sorted : mg "sorted" = none
  all : mg "all" = none
  isi : mg "isinstance" = none
  dg : ∃ t, mg "DIGITS" = some (.str ("0123456789" : String) t)
  lt : ∃ t, mg "LETTERS" = some (.str ("abcdefghijklmnopqrstuvwxyz" : String) t)
  hr : ∃ t, mg "HERE" = some (.str ("" : String) t)
theorem sqOf {K : PySem.W.Frag} {H : Hp} {p : Addr} {xs : List V} (h : H p = some (.lst xs)) : SqL K H p xs := .inl (.inl h)
theorem same_upd {H : Hp} {p : Addr} {o : HO} (h : H p = none) : Same H (upd H p o) := fun b x e => by
  rw [upd_ne (ne_of_none e h)]
  exact e
def digits : Str := ("0123456789" : String)
def letters : Str := ("abcdefghijklmnopqrstuvwxyz" : String)
/-- a module's name that holds a text -/
theorem pe_txt {X : Cx} {x z : Str} {pos : Pos} (hg : Gl X x) (h : ∃ t, X.mg x = some (.str z t)) (hd : (x == ("__debug__" : Str)) = false := by decide) : PE X (.Name x pos) (tC (.str z)) := by
  obtain ⟨t, h⟩ := h
  exact pe_glob hg h (show RelV (.str z) (.str z t) from ⟨t, rfl⟩) hd
/-! ### the mirrors -/
def isIn (signs : Str) (c : Nat) : Bool := decide (c ∈ signs.cps.toList)
def made (t signs : Str) (most : Int) : Bool := decide (1 ≤ (t.length : Int)) && decide ((t.length : Int) ≤ most) && t.cps.toList.all (isIn signs)
def isAddr (t : Str) : Bool := made t digits 8
def isName (t : Str) : Bool := made t (letters ++ digits) 12 && (match t.cps[0]? with | some c => isIn letters c | none => false)
def isLane (t : Str) : Bool := decide (t = Str.ofString "") || isName t
section
variable {P : Program} {w : World} {K : PySem.W.Frag} {mg : Str → Option Value} {base : Heap}
theorem scMade : FnScope ["text", "signs", "most", "sign"] ["text", "signs", "most"] (defScope sMade) := ⟨rfl, rfl, rfl, by decide +kernel, rfl, by decide +kernel, by decide +kernel⟩
def spMade : Sp := fun vs H Q _ => ∃ (t signs : Str) (most : Int), vs = [.str t, .str signs, .int most] ∧ t.length ≤ 1000 ∧ ∀ H', Same H H' → Q (.bl (made t signs most)) H'
theorem ok_made {f : Addr} {fd : FuncData} {k : Nat} (F : Fun K "made_of" "made_of" sMade f fd) (B : Blt mg) : FnOk P w K mg base CX0 (k + 1) f fd ["text", "signs", "most"] spMade := by
  refine F.ok scMade (fun vs H Q E h => ?_) (fun cdv A outer s H vs Q E hr h => ?_)
  · obtain ⟨t, sg, m, rfl, _⟩ := h
    rfl
  · obtain ⟨t, sg, m, rfl, hl, q⟩ := h
    refine ⟨_, pss_one (ps_ret (pe_and (pe_chain op_le op_le pe_int (pe_callB call_len_str (by rfl) B.len PySem.boot_len (pa_cons (pv 0) pa_nil)) (pv 2))
      (pe_one (pe_callB (cr_all rfl) (by rfl) B.all (by decide +kernel) (pa_cons (pe_lc (own := [("sign", 3)]) (g := gName 3) (by rfl) scMade.nd (pi_str (pv 0)) (blkOk_by (N := ["text", "signs", "most", "sign"]) (sc := defScope sMade) (by decide +kernel)) (fun _ _ _ _ _ => pg_name (i := 3) scMade.nd rfl (Or.inl rfl)) (fun _ _ _ _ _ => pts_nil) (fun _ _ _ _ _ => pe_cmpR op_in_sign (pv 3) (pv 1) (by rfl))) pa_nil))))), ?_⟩
    refine ⟨.str t, rfl, t, rfl, Nat.le_trans hl (by decide), 1, (t.length : Int), rfl, rfl, _, rfl, ?_⟩
    have h0 : ∀ c : Bool, c = false → Q (.bl c) H → made t sg m = false → Q (.bl (made t sg m)) H := fun c e q e2 => by rw [e2, ← e]; exact q
    refine ite2 (fun e1 => ?_) (fun e1 => ?_)
    · refine ⟨.int m, rfl, (t.length : Int), m, rfl, rfl, _, rfl, ite2 (fun e2 => ?_) (fun e2 => ?_)⟩
      · refine ⟨.str t, rfl, t, rfl, fun D nD => lc_it (walk_str (z := t)) (fun i H' => Same H H' ∧ H' D = some (.lst (((t.cps.toList.take i).map (isIn sg)).map V.bl))) ⟨same_upd nD, upd_same⟩ (fun _ _ _ _ => trivial) (fun i x H1 H2 hi hP hy => ?_) (fun H1 hP => ?_)⟩
        · obtain ⟨hS, hD⟩ := hP
          obtain ⟨rfl, c, hc, rfl⟩ := hy
          refine ⟨rfl, ?_⟩
          have hi' : i < t.cps.toList.length := by rw [Array.length_toList]; exact hi
          have hc' : t.cps.toList[i]? = some c := by rw [Array.getElem?_toList]; exact hc
          refine ⟨_, rfl, .str sg, rfl, c, sg, rfl, rfl, _, hD, ?_, ?_, ?_⟩
          · rw [List.length_map, List.length_map, List.length_take, Array.length_toList]
            exact small1000 (Nat.le_trans (Nat.min_le_right _ _) hl)
          · intro b o hb
            rw [upd_ne (ne_of_none hb nD)]
            exact hS _ _ hb
          · rw [upd_same, List.take_add_one, hc', List.map_append, List.map_append]
            rfl
        · obtain ⟨hS, hD⟩ := hP
          refine ⟨D, (t.cps.toList.map (isIn sg)), rfl, sqOf (by rw [hD, ← Array.length_toList, List.take_length]), ?_⟩
          have e : (t.cps.toList.map (isIn sg)).all id = made t sg m := by
            unfold made
            rw [of_decide_eq_true e1 |> decide_eq_true, of_decide_eq_true e2 |> decide_eq_true, List.all_map]
            rfl
          rw [e]
          exact q _ hS
      · have e : made t sg m = false := by
          unfold made
          rw [Bool.eq_false_iff.mpr e2, Bool.and_false, Bool.false_and]
        have := q H (Same.refl _)
        rw [e] at this
        exact this
    · have e : made t sg m = false := by
        unfold made
        rw [Bool.eq_false_iff.mpr e1, Bool.false_and, Bool.false_and]
      have := q H (Same.refl _)
      rw [e] at this
      exact ⟨false, rfl, this⟩
theorem scSpells : FnScope ["text"] ["text"] (defScope sSpells) := ⟨rfl, rfl, rfl, by decide +kernel, rfl, by decide +kernel, by decide +kernel⟩
theorem scIsName : FnScope ["text"] ["text"] (defScope sIsName) := ⟨rfl, rfl, rfl, by decide +kernel, rfl, by decide +kernel, by decide +kernel⟩
theorem scIsAddr : FnScope ["text"] ["text"] (defScope sIsAddr) := ⟨rfl, rfl, rfl, by decide +kernel, rfl, by decide +kernel, by decide +kernel⟩
theorem scIsLane : FnScope ["text"] ["text"] (defScope sIsLane) := ⟨rfl, rfl, rfl, by decide +kernel, rfl, by decide +kernel, by decide +kernel⟩
/-- one text in, a bool out -/
def spT (g : Str → Bool) : Sp := fun vs H Q _ => ∃ (t : Str), vs = [.str t] ∧ t.length ≤ 1000 ∧ ∀ H', Same H H' → Q (.bl (g t)) H'
theorem ok_spells {f g : Addr} {fd gd : FuncData} (F : Fun K "spells_address" "spells_address" sSpells f fd) (D : Dd K mg "made_of" sMade ["text", "signs", "most"] g gd) (B : Blt mg) : FnOk P w K mg base CX0 2 f fd ["text"] (spT isAddr) := by
  have G : FnOk P w K mg base CX0 1 g gd ["text", "signs", "most"] spMade := ok_made D.F B
  refine F.ok scSpells (fun vs H Q E h => ?_) (fun cdv A outer s H vs Q E hr h => ?_)
  · obtain ⟨t, rfl, _⟩ := h
    rfl
  · obtain ⟨t, rfl, hl, q⟩ := h
    refine ⟨_, pss_one (ps_ret (pe_call G hr (by rfl) D.g D.F.kp D.b .nil pass0 (pa_cons (pv 0) (pa_cons (pe_txt (by rfl) B.dg) (pa_cons pe_int pa_nil))))), ?_⟩
    exact ⟨.str t, rfl, t, digits, 8, rfl, hl, q⟩
theorem ok_isAddr {f g g2 : Addr} {fd gd gd2 : FuncData} (F : Fun K "is_address" "is_address" sIsAddr f fd) (D : Dd K mg "spells_address" sSpells ["text"] g gd) (D2 : Dd K mg "made_of" sMade ["text", "signs", "most"] g2 gd2) (B : Blt mg) : FnOk P w K mg base CX0 3 f fd ["text"] (spT isAddr) := by
  have G : FnOk P w K mg base CX0 2 g gd ["text"] (spT isAddr) := ok_spells D.F D2 B
  refine F.ok scIsAddr (fun vs H Q E h => ?_) (fun cdv A outer s H vs Q E hr h => ?_)
  · obtain ⟨t, rfl, _⟩ := h
    rfl
  · obtain ⟨t, rfl, hl, q⟩ := h
    refine ⟨_, pss_one (ps_ret (pe_call G hr (by rfl) D.g D.F.kp D.b .nil pass0 (pa_cons (pv 0) pa_nil))), ?_⟩
    exact ⟨.str t, rfl, t, rfl, hl, q⟩
theorem ok_isName {f g : Addr} {fd gd : FuncData} (F : Fun K "is_name" "is_name" sIsName f fd) (D : Dd K mg "made_of" sMade ["text", "signs", "most"] g gd) (B : Blt mg) : FnOk P w K mg base CX0 2 f fd ["text"] (spT isName) := by
  have G : FnOk P w K mg base CX0 1 g gd ["text", "signs", "most"] spMade := ok_made D.F B
  refine F.ok scIsName (fun vs H Q E h => ?_) (fun cdv A outer s H vs Q E hr h => ?_)
  · obtain ⟨t, rfl, _⟩ := h
    rfl
  · obtain ⟨t, rfl, hl, q⟩ := h
    refine ⟨_, pss_one (ps_ret (pe_and (pe_call G hr (by rfl) D.g D.F.kp D.b .nil pass0 (pa_cons (pv 0) (pa_cons (pe_op op_add_str (pe_txt (by rfl) B.lt) (pe_txt (by rfl) B.dg)) (pa_cons pe_int pa_nil))))
      (pe_one (pe_cmpR op_in_sign (pe_item_str (pv 0) pe_int (fun _ _ => rfl)) (pe_txt (by rfl) B.lt) (by rfl))))), ?_⟩
    refine ⟨.str t, rfl, _, _, rfl, rfl, by decide +kernel, t, letters ++ digits, 12, rfl, hl, fun H1 S1 => ⟨_, rfl, ite2 (fun e => ?_) (fun e => ?_)⟩⟩
    · have e' : (decide (1 ≤ (t.length : Int)) && decide ((t.length : Int) ≤ 12) && t.cps.toList.all (isIn (letters ++ digits))) = true := e
      rw [Bool.and_eq_true, Bool.and_eq_true] at e'
      have h1 : 1 ≤ (t.length : Int) := of_decide_eq_true e'.1.1
      have h2 : 0 < t.cps.size := by
        show 0 < t.length
        omega
      have hc : t.cps[0]? = some t.cps[0] := Array.getElem?_eq_getElem h2
      refine ⟨.str t, rfl, t, 0, t.cps[0], rfl, rfl, by decide, by decide, by omega, hc, t.cps[0], letters, rfl, rfl, ?_⟩
      have en : isName t = decide (t.cps[0] ∈ letters.cps.toList) := by
        unfold isName
        rw [show made t (letters ++ digits) 12 = true from e, hc, Bool.true_and]
        rfl
      rw [← en]
      exact q _ S1
    · have en : isName t = false := by
        unfold isName
        rw [show made t (letters ++ digits) 12 = false from Bool.eq_false_iff.mpr e, Bool.false_and]
      have := q _ S1
      rw [en] at this
      exact this
theorem ok_isLane {f g g2 : Addr} {fd gd gd2 : FuncData} (F : Fun K "_is_lane" "_is_lane" sIsLane f fd) (D : Dd K mg "is_name" sIsName ["text"] g gd) (D2 : Dd K mg "made_of" sMade ["text", "signs", "most"] g2 gd2) (B : Blt mg) : FnOk P w K mg base CX0 3 f fd ["text"] (spT isLane) := by
  have G : FnOk P w K mg base CX0 2 g gd ["text"] (spT isName) := ok_isName D.F D2 B
  refine F.ok scIsLane (fun vs H Q E h => ?_) (fun cdv A outer s H vs Q E hr h => ?_)
  · obtain ⟨t, rfl, _⟩ := h
    rfl
  · obtain ⟨t, rfl, hl, q⟩ := h
    refine ⟨_, pss_one (ps_ret (pe_or (pe_cmpR op_eq (pv 0) (pe_txt (by rfl) B.hr) (nomark _)) (pe_one (pe_call G hr (by rfl) D.g D.F.kp D.b .nil pass0 (pa_cons (pv 0) pa_nil))))), ?_⟩
    refine ⟨.str t, rfl, rfl, _, rfl, ite2 (fun e => ?_) (fun e => ?_)⟩
    · have e1 : V.str t = V.str (Str.ofString "") := of_decide_eq_true e
      have e2 : t = Str.ofString "" := V.str.inj e1
      have el : isLane t = true := by
        unfold isLane
        rw [decide_eq_true e2, Bool.true_or]
      have := q H (Same.refl _)
      rw [el] at this
      exact this
    · have e2 : ¬ t = Str.ofString "" := fun z => e (decide_eq_true (congrArg V.str z))
      have el : isLane t = isName t := by
        unfold isLane
        rw [decide_eq_false e2, Bool.false_or]
      refine ⟨.str t, rfl, t, rfl, hl, fun H' S => ?_⟩
      rw [← el]
      exact q H' S
end
end Tb
namespace Tb
open PySem PySem.Spec PyProof.Rows L2
/-! ### prefixes and lanes: the mirrors -/
/-- the first n signs -/
def pre (a : Str) (n : Nat) : Str := cutS a none (some (n : Int))
abbrev Kvs := List (Key × V)
/-- the longest of the first n beginnings that is a key -/
def lp (kvs : Kvs) (a : Str) : Nat → Option Str
  | 0 => none
  | n + 1 => if (valV kvs (Sum.inr (pre a (n + 1)))).isSome = true then some (pre a (n + 1)) else lp kvs a n
def long (kvs : Kvs) (a : Str) : Option Str := lp kvs a a.length
def oStr : Option Str → V
  | none => .non
  | some z => .str z
/-- the lane of an address -/
def laneV (kvs : Kvs) (a : Str) : V := match long kvs a with
  | none => .non
  | some p => (valV kvs (Sum.inr p)).getD .non
theorem lp_some {kvs : Kvs} {a : Str} : ∀ {n : Nat} {p : Str}, lp kvs a n = some p → ∃ v, valV kvs (Sum.inr p) = some v
  | 0, _, h => by cases h
  | n + 1, p, h => by
    unfold lp at h
    by_cases c : (valV kvs (Sum.inr (pre a (n + 1)))).isSome = true
    · rw [if_pos c] at h
      cases h
      exact Option.isSome_iff_exists.mp c
    · rw [if_neg c] at h
      exact lp_some h
theorem lp_len {kvs : Kvs} {a : Str} : ∀ {n : Nat} {p : Str}, lp kvs a n = some p → p.length ≤ a.length
  | 0, _, h => by cases h
  | n + 1, p, h => by
    unfold lp at h
    by_cases c : (valV kvs (Sum.inr (pre a (n + 1)))).isSome = true
    · rw [if_pos c] at h
      cases h
      exact cutS_length a _ _
    · rw [if_neg c] at h
      exact lp_len h
section
variable {P : Program} {w : World} {K : PySem.W.Frag} {mg : Str → Option Value} {base : Heap}
theorem scLong : FnScope ["prefixes", "address", "end"] ["prefixes", "address"] (defScope sLong) := ⟨rfl, rfl, rfl, by decide +kernel, rfl, by decide +kernel, by decide +kernel⟩
theorem scLane : FnScope ["lanes", "address", "prefix"] ["lanes", "address"] (defScope sLane) := ⟨rfl, rfl, rfl, by decide +kernel, rfl, by decide +kernel, by decide +kernel⟩
/-- a dict and an address in; what g says out, the heap as it was -/
def spDA (g : Kvs → Str → V) : Sp := fun vs H Q _ => ∃ (d : Addr) (kvs : Kvs) (a : Str), vs = [.ref d, .str a] ∧ H d = some (.dK kvs) ∧ a.length ≤ 1000 ∧ Q (g kvs a) H
theorem ok_long {f : Addr} {fd : FuncData} {k : Nat} (F : Fun K "longest_prefix" "longest_prefix" sLong f fd) (B : Blt mg) : FnOk P w K mg base CX0 (k + 1) f fd ["prefixes", "address"] (spDA fun kvs a => oStr (long kvs a)) := by
  refine F.ok scLong (fun vs H Q E h => ?_) (fun cdv A outer s H vs Q E hr h => ?_)
  · obtain ⟨d, kvs, a, rfl, _⟩ := h
    rfl
  · obtain ⟨d, kvs, a, rfl, hd, hl, q⟩ := h
    have hu := hu_of hr
    refine ⟨_, pss_cons (ps_for PassesOwn.never rfl (pi_range3 (by rfl) B.range (pa_cons (pe_callB call_len_str (by rfl) B.len PySem.boot_len (pa_cons (pv 1) pa_nil)) (pa_cons pe_int (pa_cons (pe_un un_neg pe_int) pa_nil)))) (pg_name (i := 2) scLong.nd rfl (.inl rfl))
        (pss_one (ps_if (pt_cmp (pc_din hu (pe_slice sl_str (pv 1) po_none (po_some (pv 2))) (pv 0))) (pss_one (ps_ret (pe_slice sl_str (pv 1) po_none (po_some (pv 2))))) pss_nil)))
      (pss_one (ps_ret pe_non)), ?_⟩
    have hz : sizeLine = 16777216 := rfl
    refine ⟨.str a, rfl, a, rfl, by omega, 1, rfl, (a.length : Int), 0, -1, ((a.length : Int) - 0).toNat, rfl, RgC.neg (by omega) (by omega) (by omega) (by omega), ?_⟩
    refine for_rangeC (lo := (a.length : Int)) (c := -1) (n := ((a.length : Int) - 0).toNat) (fun i σ H' => ∃ y, σ = [some (.ref d), some (.str a), y] ∧ H' = H ∧ long kvs a = lp kvs a (a.length - i)) ⟨none, rfl, rfl, rfl⟩ ?_ ?_
    · rintro i σ H' hi ⟨y, rfl, rfl, e⟩
      have hi' : i < a.length := by omega
      have ei : (a.length : Int) + (i : Int) * -1 = ((a.length - i : Nat) : Int) := by omega
      rw [ei]
      refine ⟨.str a, rfl, .int ((a.length - i : Nat) : Int), rfl, ((a.length - i : Nat) : Int), rfl, a, rfl, by omega, .ref d, rfl, d, _, rfl, DGet.k (k := Sum.inr (pre a (a.length - i))) hd, ?_⟩
      obtain ⟨m, em⟩ : ∃ m, a.length - i = m + 1 := ⟨a.length - i - 1, by omega⟩
      by_cases c : (valV kvs (Sum.inr (pre a (a.length - i)))).isSome = true
      · refine ⟨_, rfl, ?_⟩
        rw [c]
        refine ⟨.str a, rfl, .int ((a.length - i : Nat) : Int), rfl, ((a.length - i : Nat) : Int), rfl, a, rfl, by omega, ?_⟩
        have : long kvs a = some (pre a (a.length - i)) := by
          rw [e, em]
          unfold lp
          rw [← em, if_pos c]
        have q : Q (oStr (long kvs a)) H' := q
        rw [this] at q
        exact q
      · refine ⟨_, rfl, ?_⟩
        rw [Bool.eq_false_iff.mpr c]
        refine ⟨_, rfl, rfl, ?_⟩
        rw [e, em]
        show (if (valV kvs (Sum.inr (pre a (m + 1)))).isSome = true then some (pre a (m + 1)) else lp kvs a m) = _
        rw [← em, if_neg c, show a.length - (i + 1) = m by omega]
    · rintro σ H' ⟨y, rfl, rfl, e⟩
      rw [show a.length - ((a.length : Int) - 0).toNat = 0 by omega] at e
      have q : Q (oStr (long kvs a)) H' := q
      rw [e] at q
      exact q
theorem ok_lane {f g : Addr} {fd gd : FuncData} (F : Fun K "_lane" "_lane" sLane f fd) (D : Dd K mg "longest_prefix" sLong ["prefixes", "address"] g gd) (B : Blt mg) : FnOk P w K mg base CX0 2 f fd ["lanes", "address"] (spDA laneV) := by
  have G : FnOk P w K mg base CX0 1 g gd ["prefixes", "address"] (spDA fun kvs a => oStr (long kvs a)) := ok_long D.F B
  refine F.ok scLane (fun vs H Q E h => ?_) (fun cdv A outer s H vs Q E hr h => ?_)
  · obtain ⟨d, kvs, a, rfl, _⟩ := h
    rfl
  · obtain ⟨d, kvs, a, rfl, hd, hl, q⟩ := h
    have hu := hu_of hr
    refine ⟨_, pss_cons (ps_set (i := 2) scLane.nd rfl (.inl rfl) (pe_call G hr (by rfl) D.g D.F.kp D.b .nil pass0 (pa_cons (pv 0) (pa_cons (pv 1) pa_nil))))
      (pss_cons (ps_if (pt_cmpR op_isN (pv 2) pe_non (nomark _)) (pss_one (ps_ret pe_non)) pss_nil)
      (pss_one (ps_ret (pe_dget hu (pv 0) (pv 2) (fun _ _ => rfl))))), ?_⟩
    refine ⟨.ref d, rfl, .str a, rfl, d, kvs, a, rfl, hd, hl, ?_⟩
    have q : Q (laneV kvs a) H := q
    show gName 2 (oStr (long kvs a)) _ _ _
    unfold laneV at q
    cases e : long kvs a with
    | none =>
      rw [e] at q
      exact ⟨.non, rfl, rfl, true, rfl, q⟩
    | some p =>
      rw [e] at q
      obtain ⟨v, ev⟩ := lp_some e
      have q : Q ((valV kvs (Sum.inr p)).getD .non) H := q
      rw [ev] at q
      refine ⟨.str p, rfl, rfl, false, rfl, .ref d, rfl, .str p, rfl, d, v, rfl, ?_, q⟩
      rw [← ev]
      exact DGet.k (k := Sum.inr p) hd
end
end Tb
namespace Tb
open PySem PySem.Spec PyProof.Rows L2
open PySem.W (EachIs AllAlike Sortable dataLe)
/-! ### sorted, any number of items -/
theorem vals_each : ∀ {bs : List (V × PyData)} {us : List Value}, Vals (bs.map Prod.fst) us → EachIs (fun (v : Value) (b : V × PyData) => RelV b.1 v) us bs
  | [], _, r => by cases r; exact .nil
  | b :: bs, _, r => by
    cases r with
    | cons r1 r2 => exact .cons r1 (vals_each r2)
theorem each_vals : ∀ {bs : List (V × PyData)} {us : List Value}, EachIs (fun (v : Value) (b : V × PyData) => RelV b.1 v) us bs → Vals (bs.map Prod.fst) us
  | [], _, r => by cases r; exact .nil
  | b :: bs, _, r => by
    cases r with
    | cons r1 r2 => exact .cons r1 (each_vals r2)
theorem each_imp {α β : Type} {R S : α → β → Prop} : ∀ {as : List α} {bs : List β}, EachIs R as bs → (∀ a b, b ∈ bs → R a b → S a b) → EachIs S as bs
  | _, _, .nil, _ => .nil
  | _, _, .cons h t, k => .cons (k _ _ (List.mem_cons_self ..) h) (each_imp t fun a b hb => k a b (List.mem_cons_of_mem _ hb))
def rSortDt (K : PySem.W.Frag) : List V → Hp → VK → Prop := fun vs H Q => ∃ (a : Addr) (bs : List (V × PyData)), vs = [.ref a] ∧ SqL K H a (bs.map Prod.fst) ∧ (∀ b ∈ bs, Dp K H b.1 b.2) ∧ AllAlike (bs.map Prod.snd) ∧ Sortable (bs.map Prod.snd) ∧ (∀ b ∈ bs, b.2.depth ≤ 10) ∧
  ∀ p, H p = none → Q (.ref p) (upd H p (.lst ((bs.mergeSort (dataLe false Prod.snd)).map Prod.fst)))
section
variable {X : Cx}
theorem cr_sortedDt (hu : X.A.units + 64 < cLine) : CallR X (.builtin "sorted") (rSortDt X.K) := by
  intro pins s σ H vs us Q I r h
  obtain ⟨a, bs, rfl, hs, hd, hal, hso, hdp, q⟩ := h
  obtain ⟨its, rv, hl, hz⟩ := I.list hs
  rw [Vals.ref1 r]
  have e := vals_each rv
  rw [List.length_map] at hz
  refine PySem.W.sorted_data (enc := Prod.snd) hl.isList e (each_imp e fun v b hb rb => Dp.reads I b.2 b.1 v (hd b hb) rb) hal hso hz (fun b hb => by have := hdp b hb; omega) fun out ho eo => ?_
  obtain ⟨ep, he'⟩ := PyProof.Rows.sortedAll_at s.heap its out.toArray
  have hlen : ((bs.mergeSort (dataLe false Prod.snd)).map Prod.fst).length ≤ sizeLine := by
    rw [List.length_map, List.length_mergeSort]
    exact hz
  exact ⟨.ref _, upd H (s.heap.objs.size + 1) (.lst ((bs.mergeSort (dataLe false Prod.snd)).map Prod.fst)), I.laid (t' := s.toks) (fun _ _ => PyProof.Rows.sortedAll_old) (Nat.le_succ _) ⟨hlen, out, ep, each_vals eo, he'⟩, rfl, q _ (I.hok.fresh (Nat.le_succ _))⟩
/-- sorted(d), the keys texts, any number of them -/
theorem cr_sortedDk (hcalm : X.calm = true) (hu : X.A.units + 64 < cLine) : CallR X (.builtin "sorted") (fun xs H Q => ∃ (a : Addr) (kvs : List (Key × V)) (ks : List Str), xs = [.ref a] ∧ Rd H a (.dK kvs) ∧ kvs.map (·.1) = ks.map Sum.inr ∧ ks.length ≤ 1000 ∧
    ∀ p, H p = none → Q (.ref p) (upd H p (.lst ((ks.mergeSort (dataLe false PyData.str)).map V.str)))) := by
  intro pins s σ H xs us Q I r q
  obtain ⟨a, kvs, ks, rfl, hd, hks, hln, q⟩ := q
  obtain ⟨u, rfl, rx⟩ := vals1 r
  cases rx
  obtain ⟨z, lo, vs, rel, dd⟩ := dk_rd I.hok hd
  obtain ⟨ep, hat⟩ := dd.dictAt
  have hkeys : vs.map (·.1) = ks.map Sum.inr := rel.keys.symm.trans hks
  have hl : vs.length = ks.length := by
    have e := congrArg List.length hkeys
    rwa [List.length_map, List.length_map] at e
  have hline : sizeLine = 16777216 := rfl
  refine Calls.call_function_entry PyProof.Rows.kind_sorted PyProof.Rows.plain_sorted PyProof.Rows.entry_sorted (PyProof.Rows.args_sorted1 _) ?_
  unfold Builtin.«sorted»
  refine wpAny_bind (m := checkCount "sorted" 1 1 _) (wpAny_pure ?_)
  refine wpAny_bind (PySem.W.kdu_collect (A := X.A.in1) (PySem.W.kdl_dict (knd := mixKind X.prog X.w) (kvs := vs) (ep := ep) lo) (I.ok.hd hcalm) hat (by omega) fun h' tk acc hk hacc => ?_)
  have hal : acc.toList.length = ks.length := by rw [Array.length_toList, hacc.1, hl]
  -- the values are the texts
  have each : EachIs (fun (v : Value) (x : Str) => ∃ t, v = .str x t) acc.toList ks := by
    have gen : ∀ (n : Nat) (us : List Value) (xs : List Str), us.length = xs.length → (∀ (j : Nat) (v : Value), us[j]? = some v → ∃ (x : Str) (t : Tok), xs[j]? = some x ∧ v = Value.str x t) →
      EachIs (fun (v : Value) (x : Str) => ∃ t, v = .str x t) us xs := by
      intro _ us
      induction us with
      | nil =>
        intro xs e _
        cases xs with
        | nil => exact .nil
        | cons _ _ => cases e
      | cons u us ih =>
        intro xs e k
        cases xs with
        | nil => cases e
        | cons x xs =>
          obtain ⟨x', t, e1, e2⟩ := k 0 u rfl
          cases e1
          exact .cons ⟨t, e2⟩ (ih xs (Nat.succ.inj e) fun j v hv => k (j + 1) v hv)
    refine gen 0 _ _ hal fun j v e => ?_
    obtain ⟨k, x, e1, e2⟩ := hacc.2 j v (by rw [← Array.getElem?_toList]; exact e)
    have e3 : (vs.map (·.1))[j]? = some k := by rw [List.getElem?_map, e1]; rfl
    rw [hkeys, List.getElem?_map] at e3
    cases e4 : ks[j]? with
    | none => rw [e4] at e3; cases e3
    | some y =>
      rw [e4] at e3
      cases (Option.some.inj e3 : Sum.inr y = k)
      obtain ⟨t, ev⟩ := Value.isStrOf_shape (x := y) (v := v) e2
      exact ⟨y, t, rfl, ev⟩
  have I1 : Inv X pins σ H { s with heap := h', toks := tk } := I.kept hk
  refine wpAny_bind (wpAny_newList ?_ (by rw [hal]; omega))
  have hoL : (h'.push (seqObj "list" acc.toList.toArray 0)).get? h'.objs.size = some (seqObj "list" acc.toList.toArray 0) := Heap.get?_push_size _ rfl
  show wpAny _ _ _ _ _ { s with heap := h'.push (seqObj "list" acc.toList.toArray 0), toks := tk }
  have alike1 : AllAlike (ks.map PyData.str) := fun d hd d' hd' => by
    obtain ⟨x, _, rfl⟩ := List.mem_map.mp hd
    obtain ⟨y, _, rfl⟩ := List.mem_map.mp hd'
    simp [PySem.W.alike]
  have srt1 : Sortable (ks.map PyData.str) := .inr fun d hd => by
    obtain ⟨x, _, rfl⟩ := List.mem_map.mp hd
    exact ⟨PyData.noConfusion, fun _ => PyData.noConfusion⟩
  refine wpAny_bind (wpAny_holding (PySem.W.list_sort_data (enc := PyData.str) (s := { s with heap := h'.push (seqObj "list" acc.toList.toArray 0), toks := tk }) hoL each (each_imp each fun v x _ ⟨t, e⟩ => ⟨[], by rw [e]; exact Reads.str x t, List.not_mem_nil⟩) alike1 srt1 (by omega) ?k4 fun out ho eo => ?_))
  case k4 =>
    intro b _
    have h1 : (PyData.str b).depth ≤ 1 := by simp [PyData.depth]
    have h2 : X.A.in1.units = X.A.units + 1 := rfl
    omega
  obtain ⟨ep', he'⟩ := PyProof.Rows.sortedHeap_at (vs := acc.toList) (out := out.toArray) hoL
  have hlen : ((ks.mergeSort (dataLe false PyData.str)).map V.str).length ≤ sizeLine := by
    rw [List.length_map, List.length_mergeSort]
    omega
  have ev : Vals ((ks.mergeSort (dataLe false PyData.str)).map V.str) out := by
    generalize ks.mergeSort (dataLe false PyData.str) = zs at eo
    clear ho he' hlen
    induction eo with
    | nil => exact .nil
    | cons h _ ih => exact .cons h ih
  have hnew : H h'.objs.size = none := I1.hok.fresh (Nat.le_refl _)
  refine wpAny_pure ⟨_, rfl, .ref h'.objs.size, upd H h'.objs.size (.lst ((ks.mergeSort (dataLe false PyData.str)).map V.str)), I1.laid (t' := tk) (fun b o e => ?_) (Nat.le_refl _) ⟨hlen, out, ep', ev, he'⟩, rfl, q _ hnew⟩
  have hb : b < h'.objs.size := Heap.lt_size e
  rw [PyProof.Rows.sortedHeap_old (Nat.ne_of_lt hb) (by rw [size_push']; exact Nat.lt_succ_of_lt hb)]
  exact Heap.get?_push_of_some _ e
end
end Tb
namespace Tb
open PySem PySem.Spec PyProof.Rows L2
open PySem.W (EachIs AllAlike Sortable dataLe)
/-! ### sorted(d.items()) -/
abbrev Pr := Str × Str
def enc2 (p : Pr) : PyData := .tuple [.str p.1, .str p.2]
def kvP (ps : List Pr) : Kvs := ps.map fun p => (Sum.inr p.1, V.str p.2)
section
variable {prog : Program} {w : World} {κ : Type} [DecidableEq κ] {knd : KeyKind prog w κ} {A : Around} {E : Value → Shared → Prop} {s : Shared} {r d : Addr} {kvs : List (κ × Value)} {ep : Nat}
theorem collect_items {R : List Value → Shared → Prop} (hh : A.handled = none) (hv : s.heap.IsItemsView r d) (hm : s.heap.DictAt knd d kvs ep) (hn : kvs.length ≤ sizeLine)
    (h : ∀ (h' : Heap) (tk : Nat) (acc : Array Value) (c : Nat) (as : List Addr), (∀ b o, s.heap.get? b = some o → h'.get? b = some o) → h'.get? s.heap.objs.size = some { cls := .type "list", dict := none, data := .seq acc c, slots := #[] } → as.length = kvs.length → PySem.W.KdxG knd kvs s.heap.objs.size h' as →
      acc.toList = as.map Value.ref → R (as.map Value.ref) { s with heap := h', toks := tk }) :
    wpAny (model prog w) A (collect (.ref r)) R E s := by
  obtain ⟨ov, hov, hvr⟩ := id hv
  have hr : r < s.heap.objs.size := Heap.lt_size hov
  have hd : d < s.heap.objs.size := by
    obtain ⟨od, _, hod, _⟩ := id hm
    exact Heap.lt_size hod
  unfold collect
  refine wpAny_bind (wpAny_runValue (codeAny_builtin entry_proto_collect' ?_))
  rw [Around.under_plainId PySem.F.plain_proto_collect _]
  show wpAny _ A.in1 (newList [] >>= fun l => again (.builtin "list.__iadd__" ⟨[l, .ref r], []⟩)) _ _ s
  refine wpAny_bind (wpAny_newObj_type ?_)
  refine wpAny_pure ⟨plainId_quiet PySem.F.plain_list_iadd _, codeAny_builtin entry_list_iadd' ?_⟩
  rw [Around.under_plainId PySem.F.plain_list_iadd _]
  have up : ∀ b o, s.heap.get? b = some o → (s.heap.push { cls := .type "list", data := .seq ([] : List Value).toArray }).get? b = some o := fun b o e => Heap.get?_push_of_some _ e
  have key := PySem.W.kdx_extend (A := A) (knd := knd) (kvs := kvs) (ep := ep) (s := { s with heap := s.heap.push { cls := .type "list", data := .seq ([] : List Value).toArray } })
    (R := fun (q : Result) (s' : Shared) => ∃ (h' : Heap) (tk : Nat) (acc : Array Value) (c : Nat) (as : List Addr), q = .ok (.ret (.ref s.heap.objs.size)) ∧ s' = { s with heap := h', toks := tk } ∧ (∀ b o, s.heap.get? b = some o → h'.get? b = some o) ∧
      h'.get? s.heap.objs.size = some { cls := .type "list", dict := none, data := .seq acc c, slots := #[] } ∧ as.length = kvs.length ∧ PySem.W.KdxG knd kvs s.heap.objs.size h' as ∧ acc.toList = as.map Value.ref)
    hh ⟨ov, up _ _ hov, hvr⟩ (hm.at' fun o e => up _ _ e) s.heap.objs.size (Nat.ne_of_gt hr) (Nat.ne_of_lt hd) (.ref s.heap.objs.size) 0 (Heap.get?_push_size _ rfl)
    (fun h' tk acc c as hk hS hl hG hacc => ⟨h', tk, acc, c, as, rfl, rfl, fun b o e => hk b o (Nat.ne_of_lt (Heap.lt_size e)) (up _ _ e), hS, hl, hG.low (by show s.heap.objs.size ≤ (s.heap.push _).objs.size; rw [Heap.size_push]; exact Nat.le_succ _), hacc⟩) hn
  refine wpAny_mono key (fun fin s' x => ?_) fun e s' x => ?_
  · cases fin with
    | done f =>
      obtain ⟨h', tk, acc, c, as, e, rfl, hk, hS, hl, hG, hacc⟩ := x
      cases e
      show wpAny _ A (load s.heap.objs.size >>= _) _ _ _
      refine wpAny_bind (wpAny_load hS ?_)
      refine wpAny_pure ?_
      show R acc.toList _
      rw [hacc]
      exact h h' tk acc c as hk hS hl hG hacc
    | again c₁ =>
      refine ⟨x.1, codeAny_mono x.2 fun q s₂ y => ?_⟩
      obtain ⟨h', tk, acc, c, as, rfl, rfl, hk, hS, hl, hG, hacc⟩ := y
      show wpAny _ A (load s.heap.objs.size >>= _) _ _ _
      refine wpAny_bind (wpAny_load hS ?_)
      refine wpAny_pure ?_
      show R acc.toList _
      rw [hacc]
      exact h h' tk acc c as hk hS hl hG hacc
  · obtain ⟨_, _, _, _, _, e', _⟩ := x
    cases e'
end
/-- the order of the pairs, and of the texts -/
def le2 : Pr → Pr → Bool := dataLe false enc2
def le1 : Str → Str → Bool := dataLe false PyData.str
theorem alike2 (ps : List Pr) : AllAlike (ps.map enc2) := fun d hd d' hd' => by
  obtain ⟨x, _, rfl⟩ := List.mem_map.mp hd
  obtain ⟨y, _, rfl⟩ := List.mem_map.mp hd'
  simp [enc2, PySem.W.alike, PySem.W.alikeAll]
theorem sortable2 (ps : List Pr) : Sortable (ps.map enc2) := .inl fun d hd => by
  obtain ⟨x, _, rfl⟩ := List.mem_map.mp hd
  exact ⟨_, _, rfl⟩
theorem depth2 (p : Pr) : (enc2 p).depth ≤ 2 := by simp [enc2, PyData.depth, PyData.depthAll]
/-- a list of refs to pairs of texts -/
structure PrsAt (K : PySem.W.Frag) (H : Hp) (l : Addr) (ts : List (Addr × Pr)) : Prop where
  l : SqL K H l (ts.map fun t => V.ref t.1)
  t : ∀ t ∈ ts, SqT K H t.1 [.str t.2.1, .str t.2.2]
theorem kvP_keys (ps : List Pr) : (kvP ps).map (·.1) = (ps.map (·.1)).map Sum.inr := by
  unfold kvP
  rw [List.map_map, List.map_map]
  rfl
/-- sorted(e.items()) -/
def tSortItems (te : TE) : TE := fun σ H Q => te σ H fun x H1 => ∃ (d : Addr) (ps : List Pr), x = .ref d ∧ H1 d = some (.dK (kvP ps)) ∧ ps.length ≤ 1000 ∧
  ∀ (H' : Hp) (p : Addr) (ts : List (Addr × Pr)), Same H1 H' → H1 p = none → H' p = some (.lst (ts.map fun t => V.ref t.1)) → (∀ t ∈ ts, H' t.1 = some (.tup [.str t.2.1, .str t.2.2])) → ts.map (·.2) = ps.mergeSort le2 → Q (.ref p) H'
section
variable {X : Cx} {e : Expr} {te : TE} {p apos cpos pos : Pos}
theorem pe_sortedItems (hc : X.calm = true) (hu : X.A.units + 64 < cLine) (he : PE X e te) (hg : Gl X "sorted") (hm : X.mg "sorted" = none) (hbase : attributeBase e "items" X.env (eval e X.env) = eval e X.env := by rfl) (hline : (apos.endLine == cpos.line) = true := by rfl)
    (hs : starEach [.Call (.Attribute e "items" apos) [] [] cpos] X.env = (false, eval (.Call (.Attribute e "items" apos) [] [] cpos) X.env) :: starEach [] X.env := by rfl) :
    PE X (.Call (.Name "sorted" p) [.Call (.Attribute e "items" apos) [] [] cpos] [] pos) (tSortItems te) := by
  refine ⟨fun pins s σ H Q I hq => ?_⟩
  refine wpAny_Call_Name_kw (ld_blt I hg hm PyProof.Rows.boot_sorted ?_)
  refine PyProof.Rows.callWith_builtin1 ?_ hs rfl
  rw [hs]
  show wpAny _ _ (spliced ((false, eval (.Call (.Attribute e "items" apos) [] [] cpos) X.env) :: backTo pos (starEach [] X.env))) _ _ s
  refine Calls.spliced_cons ?_
  refine wpAny_Call_method (T := "dict") (id := "dict.items") hbase rfl hline PySem.F.plainAttrs_dict PySem.F.slot_dict_items PySem.F.type_dict_items (thn (he.run pins s σ H _ I hq) fun u s1 ⟨x, H1, I1, rx, d, ps, ex, hd, hln, q⟩ => ?_)
  subst ex
  obtain rfl : u = Value.ref d := rx
  obtain ⟨hz, hs0, vs, kv, hdo⟩ := I1.hok d _ hd
  obtain ⟨ep, hat⟩ := hdo.dictAt
  have lk : (kvP ps).length = vs.length := Paired.length kv
  have lps : (kvP ps).length = ps.length := by unfold kvP; rw [List.length_map]
  have hline' : sizeLine = 16777216 := rfl
  have I2 : Inv X pins σ H1 { s1 with heap := s1.heap.push { cls := .type "dict_items", data := .fields #[.ref d] } } := I1.kept (t' := s1.toks) fun b ob q => Heap.get?_push_of_some _ q
  refine ⟨hdo.typeIs, hdo.mapOf.noDict, ?_⟩
  show wpAny _ _ (callWith cpos (.builtin "dict.items") [.ref d] [] []) _ X.xe s1
  refine method_meetsIn PySem.F.slot_dict_items PySem.F.entry_dict_items rfl (PySem.evalArgs_none ⟨rfl, hdo.typeIs, PySem.F.args_dict_items_1 _, _, meets_dict_items (mixKind X.prog X.w) d hs0, ⟨vs, hdo⟩, ?_⟩)
  refine Calls.spliced_nil ?_
  refine Calls.call_function_entry PyProof.Rows.kind_sorted PyProof.Rows.plain_sorted PyProof.Rows.entry_sorted (PyProof.Rows.args_sorted1 _) ?_
  unfold Builtin.«sorted»
  refine wpAny_bind (m := checkCount "sorted" 1 1 _) (wpAny_pure ?_)
  refine wpAny_bind (collect_items (A := X.A.in1) (knd := mixKind X.prog X.w) (kvs := vs) (ep := ep) (I1.ok.hd hc) ⟨_, Heap.get?_push_size _ rfl, rfl, rfl⟩ (hat.push _) (by omega) fun h' tk acc c as hk hS hl hG hacc => ?_)
  obtain ⟨H', k1, k2, k3, k4, k5, k6, J⟩ := LiI.items_laid (tk := tk) I2 hz kv hk hS hl hG hacc
  have las : as.length = ps.length := by omega
  -- the pairs with their places
  have pr : ∀ t ∈ as.zip ps, H' t.1 = some (.tup [.str t.2.1, .str t.2.2]) := by
    intro t ht
    obtain ⟨j, hj⟩ := List.mem_iff_getElem?.mp ht
    rw [List.getElem?_zip_eq_some] at hj
    obtain ⟨y, hy, hy2⟩ := LiI.paired_get k6 hj.1
    unfold kvP at hy
    rw [List.getElem?_map, hj.2] at hy
    cases (Option.some.inj hy)
    exact hy2
  have z1 : (as.zip ps).map Prod.fst = as := List.map_fst_zip (by omega)
  have z2 : (as.zip ps).map Prod.snd = ps := List.map_snd_zip (by omega)
  generalize as.zip ps = bs at pr z1 z2
  have lbs : bs.length = as.length := by rw [← z1, List.length_map]
  refine wpAny_bind (wpAny_newList ?_ (by rw [List.length_map]; omega))
  have hoL : (h'.push (seqObj "list" (as.map Value.ref).toArray 0)).get? h'.objs.size = some (seqObj "list" (as.map Value.ref).toArray 0) := Heap.get?_push_size _ rfl
  show wpAny _ _ _ _ _ { s1 with heap := h'.push (seqObj "list" (as.map Value.ref).toArray 0), toks := tk }
  have e2 : bs.map (fun t : Addr × Pr => enc2 t.2) = ps.map enc2 := by rw [← z2, List.map_map]; rfl
  have each : EachIs (fun (v : Value) (t : Addr × Pr) => v = .ref t.1) (as.map Value.ref) bs := by
    rw [← z1, List.map_map]
    clear pr z1 z2 lbs e2
    induction bs with
    | nil => exact .nil
    | cons b bs ih => exact .cons rfl ih
  have Jn := J
  have old : ∀ b o, h'.get? b = some o → (h'.push (seqObj "list" (as.map Value.ref).toArray 0)).get? b = some o := fun b o e => Heap.get?_push_of_some _ e
  have rd : EachIs (fun (v : Value) (t : Addr × Pr) => ∃ as', Reads (h'.push (seqObj "list" (as.map Value.ref).toArray 0)) v (enc2 t.2) as' ∧ h'.objs.size ∉ as') (as.map Value.ref) bs := by
    refine each_imp each fun v t ht hv => ?_
    subst hv
    obtain ⟨_, its, rv, o, h1, h2, n, h3⟩ := (show ObjOk X.prog X.w H' h' t.1 (.tup [.str t.2.1, .str t.2.2]) from J.hok t.1 _ (pr t ht))
    obtain ⟨u1, u2, rfl, r1, r2⟩ := vals2 rv
    obtain ⟨t1, rfl⟩ := r1
    obtain ⟨t2, rfl⟩ := r2
    exact ⟨[], Reads.tuple (old _ _ h1) h2 h3 (ReadsAll.cons (Reads.str _ _) (ReadsAll.cons (Reads.str _ _) ReadsAll.nil)), List.not_mem_nil⟩
  refine wpAny_bind (wpAny_holding (PySem.W.list_sort_data (enc := fun t : Addr × Pr => enc2 t.2) (s := { s1 with heap := h'.push (seqObj "list" (as.map Value.ref).toArray 0), toks := tk }) hoL each rd (by rw [e2]; exact alike2 ps) (by rw [e2]; exact sortable2 ps) (by omega) ?k4 fun out ho eo => ?_))
  case k4 =>
    intro b _
    have h1 := depth2 b.2
    have h2 : X.A.in1.units = X.A.units + 1 := rfl
    omega
  obtain ⟨ep', he'⟩ := PyProof.Rows.sortedHeap_at (vs := as.map Value.ref) (out := out.toArray) hoL
  have hsm : (bs.mergeSort (dataLe false fun t : Addr × Pr => enc2 t.2)).map (·.2) = ps.mergeSort le2 := by
    have h := PySem.W.sort_maps (r := dataLe false fun t : Addr × Pr => enc2 t.2) (s := le2) (l := bs) (fun t : Addr × Pr => t.2) (fun _ _ _ _ => rfl)
    rw [z2] at h
    exact h
  have hmem : ∀ t ∈ bs.mergeSort (dataLe false fun t : Addr × Pr => enc2 t.2), H' t.1 = some (.tup [.str t.2.1, .str t.2.2]) := fun t ht => pr t (List.mem_mergeSort.mp ht)
  have hlen : ((bs.mergeSort (dataLe false fun t : Addr × Pr => enc2 t.2)).map fun t => V.ref t.1).length ≤ sizeLine := by
    rw [List.length_map, List.length_mergeSort]
    omega
  generalize bs.mergeSort (dataLe false fun t : Addr × Pr => enc2 t.2) = ts at eo hsm hmem hlen
  have ev : Vals (ts.map fun t => V.ref t.1) out := by
    clear ho he' hlen hsm hmem
    induction eo with
    | nil => exact .nil
    | cons h _ ih => exact .cons h ih
  have hnew : H' h'.objs.size = none := J.hok.fresh (Nat.le_refl _)
  refine wpAny_pure ⟨_, rfl, .ref h'.objs.size, upd H' h'.objs.size (.lst (ts.map fun t => V.ref t.1)), J.laid (t' := tk) (fun b o e => ?_) (Nat.le_refl _) ⟨hlen, out, ep', ev, he'⟩, rfl, q _ _ ts ((show Same H1 H' from k1).trans (same_upd hnew)) ((show Same H1 H' from k1).free hnew) upd_same (fun t ht => by rw [upd_ne (ne_of_none (hmem t ht) hnew)]; exact hmem t ht) hsm⟩
  have hb : b < h'.objs.size := Heap.lt_size e
  rw [PyProof.Rows.sortedHeap_old (Nat.ne_of_lt hb) (by rw [size_push']; exact Nat.lt_succ_of_lt hb)]
  exact old b o e
end
end Tb
namespace Tb
open PySem PySem.Spec PyProof.Rows L2
/-! ### errors with one field (as in wip/k17 X17A, over this text) -/
structure ErrC (K : PySem.W.Frag) (C fI : Addr) (n : Str) : Prop where
  ox : OexC K C
  xf : XfC K C
  no : PySem.W.findIn K (.ref C) n = some none
  iC : PySem.W.findIn K (.ref C) "__init__" = some (some (.ref fI))
  tI : PySem.W.typeIn K (.ref fI) = some (.type "function")
  cl : (PySem.W.clsIn K C).isSome = true
  ha : PySem.W.findIn K (.ref C) "__class__" = some (some (.builtin "object.__class__"))
  hm : PySem.W.mroIn K C (.type "object") = some true
  hn : PySem.W.specialIn K (.builtin "object.__class__") "__get__" = some (some (.builtin "getset_descriptor.__get__"))
  tk : PySem.W.takesIn K (.builtin "object.__class__") = some true
def spErr (K : PySem.W.Frag) (n : Str) : Sp := fun vs H Q _ => ∃ (a C : Addr) (v : V), vs = [.ref a, v] ∧ OexC K C ∧ PySem.W.findIn K (.ref C) n = some none ∧ H a = some (exo a C none) ∧ ∀ dx, H dx = none → dx ≠ a → Q .non (upd (upd H dx (exd dx [(n, v)])) a (exo a C (some dx)))
theorem err_made {K : PySem.W.Frag} {C fI : Addr} {n : Str} (T : ErrC K C fI n) {v : V} {H : Hp} {Q : XK} (q : ∀ d H', Same H H' → H' d = some (.xd [(n, v)]) → Q (.ref C) (some d) H') :
    ∀ a, H a = none → spErr K n [.ref a, v] (upd H a (exo a C none)) (fun u H2 => u = .non ∧ ∃ (d : Addr) (fs : List (Str × V)), H2 a = some (exo a C (some d)) ∧ H2 d = some (exd d fs) ∧ H d = none ∧ Q (.ref C) (some d) (upd (del H2 a) d (.xd fs))) (fun _ _ _ => False) := by
  intro a na
  refine ⟨a, C, v, rfl, T.ox, T.no, upd_same, fun d nd da => ⟨rfl, d, [(n, v)], upd_same, ?_, ?_, ?_⟩⟩
  · rw [upd_ne da]
    exact upd_same
  · rw [upd_ne da] at nd
    exact nd
  · rw [upd_ne da] at nd
    refine q d _ (fun b o hb => ?_) upd_same
    have hba : b ≠ a := ne_of_none hb na
    have hbd : b ≠ d := ne_of_none hb nd
    rw [upd_ne hbd, del_ne hba, upd_ne hba, upd_ne hbd, upd_ne hba]
    exact hb
section
variable {X : Cx} {a D : Addr} {oe : Obj} {pn : List (Addr × Obj)} {d : Option Addr} {cls : Value}
def rIsX (K : PySem.W.Frag) (D a : Addr) (cls : Value) (d : Option Addr) : List V → Hp → VK → Prop := fun xs H Q => cls = .ref D ∧ ∃ (c : V) (cv : Value) (b : Bool) (dd : Addr) (fs : List (Str × V)), xs = [.ref a, c] ∧ ClsV c cv ∧ d = some dd ∧ H dd = some (.xd fs) ∧ PySem.W.kitOne K (.ref D) cv = some b ∧ Q (.bl b) H
theorem inst_at {pins : List (Addr × Obj)} {σ : L2.St} {H : Hp} {s : Shared} {dd : Addr} {fs : List (Str × V)} (hz : Zc (.ref D) (some dd) oe) (hf : ∃ vs, oe.data = .fields vs) (I : Inv (X.suite a ((a, oe) :: pn)) pins σ H s) (hd : H dd = some (.xd fs)) : ∃ od, PySem.W.InstAt s.heap a oe D (some od) := by
  obtain ⟨ha, _⟩ := I.pin (a, oe) (List.mem_append_left _ List.mem_cons_self)
  obtain ⟨vs, hv⟩ := hf
  have hx : ObjOk X.prog X.w H s.heap dd (.xd fs) := I.hok dd _ hd
  obtain ⟨mA, hns, _⟩ := hx
  obtain ⟨od, ho, _⟩ := lookIn_ns hns
  refine ⟨od, ha, hz.1, ?_, ?_⟩
  · unfold PySem.W.notCls
    rw [hv]
  · rw [hz.2]
    exact ho
theorem call_isX {fI : Addr} {n : Str} (T : ErrC X.K D fI n) (hz : Zc cls d oe) (hf : ∃ vs, oe.data = .fields vs) : CallR (X.suite a ((a, oe) :: pn)) (.builtin "isinstance") (rIsX X.K D a cls d) := by
  intro pins s σ H xs us Q I r h
  obtain ⟨rfl, c, cv, b, dd, fs, rfl, hc, rfl, hdd, e, q⟩ := h
  obtain ⟨u1, u2, rfl, r1, r2⟩ := vals2 r
  cases (show u1 = Value.ref a from r1)
  obtain rfl := hc.eq r2
  obtain ⟨od, J⟩ := inst_at hz hf I hdd
  exact PySem.W.kia_one (PySem.W.kitx_exc T.cl T.xf.ga T.xf.gg T.xf.exC T.ha T.hn T.tk T.hm) I.kIn J e (fun z => nomatch z) fun tk => ⟨.bl b, H, I.tok tk, rfl, q⟩
end
abbrev sInv : Stmt := inClass (topS 3) 0
abbrev sUnk : Stmt := inClass (topS 4) 0
theorem scInv : FnScope ["self", "what"] ["self", "what"] (defScope sInv) := ⟨rfl, rfl, rfl, by decide +kernel, rfl, by decide +kernel, by decide +kernel⟩
theorem scUnk : FnScope ["self", "name"] ["self", "name"] (defScope sUnk) := ⟨rfl, rfl, rfl, by decide +kernel, rfl, by decide +kernel, by decide +kernel⟩
abbrev wWhat : Str := ("what" : String)
abbrev wName : Str := ("name" : String)
abbrev wTable : Str := ("table" : String)
abbrev wLanes : Str := ("_lanes" : String)
/-- a method of the text -/
structure Mm (K : PySem.W.Frag) (x qual : Str) (st : Stmt) (ps : List Str) (f : Addr) (fd : FuncData) : Prop where
  F : Fun K x qual st f fd
  b : Binds K fd ps []
section
variable {P : Program} {w : World} {K : PySem.W.Frag} {mg : Str → Option Value} {base : Heap}
theorem ok_inv {f : Addr} {fd : FuncData} {k : Nat} (F : Fun K "__init__" "Invalid.__init__" sInv f fd) : FnOk P w K mg base CX0 (k + 1) f fd ["self", "what"] (spErr K wWhat) := by
  refine F.ok scInv (fun vs H Q E h => ?_) (fun cdv A outer s H vs Q E hr h => ?_)
  · obtain ⟨a, C, v, rfl, _⟩ := h
    rfl
  · obtain ⟨a, C, v, rfl, ox, no, ha, q⟩ := h
    refine ⟨_, pss_one (ps_ost (pv 0) (pv 1)), ?_⟩
    exact ⟨v, rfl, .ref a, rfl, a, C, rfl, ox, no, .inl ⟨ha, fun dx nd da => q dx nd da⟩⟩
theorem ok_unk {f : Addr} {fd : FuncData} {k : Nat} (F : Fun K "__init__" "Unknown.__init__" sUnk f fd) : FnOk P w K mg base CX0 (k + 1) f fd ["self", "name"] (spErr K wName) := by
  refine F.ok scUnk (fun vs H Q E h => ?_) (fun cdv A outer s H vs Q E hr h => ?_)
  · obtain ⟨a, C, v, rfl, _⟩ := h
    rfl
  · obtain ⟨a, C, v, rfl, ox, no, ha, q⟩ := h
    refine ⟨_, pss_one (ps_ost (pv 0) (pv 1)), ?_⟩
    exact ⟨v, rfl, .ref a, rfl, a, C, rfl, ox, no, .inl ⟨ha, fun dx nd da => q dx nd da⟩⟩
/-- the class Invalid and its __init__ -/
structure EInv (K : PySem.W.Frag) (mg : Str → Option Value) (C fI : Addr) (fdI : FuncData) : Prop where
  T : ErrC K C fI wWhat
  M : Mm K "__init__" "Invalid.__init__" sInv ["self", "what"] fI fdI
  g : mg "Invalid" = some (.ref C)
/-- the class Unknown and its __init__ -/
structure EUnk (K : PySem.W.Frag) (mg : Str → Option Value) (C fI : Addr) (fdI : FuncData) : Prop where
  T : ErrC K C fI wName
  M : Mm K "__init__" "Unknown.__init__" sUnk ["self", "name"] fI fdI
  g : mg "Unknown" = some (.ref C)
end
/-! ### heaps -/
def But (p : Addr) (H H' : Hp) : Prop := ∀ b o, H b = some o → b ≠ p → H' b = some o
theorem But.refl (p : Addr) (H : Hp) : But p H H := fun _ _ h _ => h
theorem But.trans {p : Addr} {H H1 H2 : Hp} (a : But p H H1) (b : But p H1 H2) : But p H H2 := fun c o h n => b c o (a c o h n) n
theorem But.upd {p : Addr} {H : Hp} {o : HO} : But p H (upd H p o) := fun b x e n => by rw [upd_ne n]; exact e
theorem Same.but {p : Addr} {H H' : Hp} (h : Same H H') : But p H H' := fun b o e _ => h b o e
/-! ### rows -/
def Good (ps : List Pr) : Prop := (∀ p ∈ ps, isAddr p.1 = true ∧ isLane p.2 = true) ∧ (ps.map Prod.fst).Nodup
def ok1 (kvs : Kvs) (p : Pr) : Bool := isAddr p.1 && isLane p.2 && (valV kvs (Sum.inr p.1)).isNone
theorem valV_kvP (k : Str) : ∀ ps : List Pr, (valV (kvP ps) (Sum.inr k)).isSome = true ↔ k ∈ ps.map Prod.fst
  | [] => by simp [kvP, valV]
  | p :: ps => by
    have ih := valV_kvP k ps
    by_cases c : p.1 = k
    · rw [show kvP (p :: ps) = (Sum.inr p.1, V.str p.2) :: kvP ps from rfl, valV_pos (by rw [c])]
      simp [c]
    · rw [show kvP (p :: ps) = (Sum.inr p.1, V.str p.2) :: kvP ps from rfl, valV_neg (by simpa using c), ih]
      simp [c, Ne.symm c, eq_comm]
theorem good_snoc {ps : List Pr} {p : Pr} (h : Good ps) (c : ok1 (kvP ps) p = true) : Good (ps ++ [p]) := by
  unfold ok1 at c
  rw [Bool.and_eq_true, Bool.and_eq_true] at c
  obtain ⟨⟨c1, c2⟩, c3⟩ := c
  refine ⟨fun q hq => ?_, ?_⟩
  · rcases List.mem_append.mp hq with hq | hq
    · exact h.1 q hq
    · cases List.mem_singleton.mp hq
      exact ⟨c1, c2⟩
  · rw [List.map_append, List.nodup_append]
    refine ⟨h.2, by simp, fun x hx y hy e => ?_⟩
    subst e
    rw [List.map_singleton, List.mem_singleton] at hy
    subst hy
    have := (valV_kvP p.1 ps).mpr hx
    rw [Option.isNone_iff_eq_none] at c3
    rw [c3] at this
    cases this
theorem good_ok {ps qs : List Pr} {p : Pr} (h : Good (ps ++ p :: qs)) : ok1 (kvP ps) p = true := by
  obtain ⟨h1, h2⟩ := h
  have a := h1 p (List.mem_append_right _ List.mem_cons_self)
  unfold ok1
  rw [a.1, a.2, Bool.true_and, Bool.true_and, Option.isNone_iff_eq_none]
  cases e : valV (kvP ps) (Sum.inr p.1) with
  | none => rfl
  | some v =>
    exfalso
    have m := (valV_kvP p.1 ps).mp (by rw [e]; rfl)
    rw [List.map_append, List.nodup_append] at h2
    exact h2.2.2 _ m _ (by simp) rfl
theorem put_snoc {ps : List Pr} {p : Pr} (c : ok1 (kvP ps) p = true) : putK (kvP ps) (Sum.inr p.1) (V.str p.2) = kvP (ps ++ [p]) := by
  unfold ok1 at c
  rw [Bool.and_eq_true] at c
  rw [putK_new _ (Option.isNone_iff_eq_none.mp c.2)]
  unfold kvP
  rw [List.map_append]
  rfl
end Tb
namespace Tb
open PySem PySem.Spec PyProof.Rows L2
open PySem.W (TotalLe dataLe)
/-! ### the order of the rows -/
def sLt (a b : Str) : Bool := decide (a.cps.toList < b.cps.toList)
theorem sLt_tri {a b : Str} (h1 : sLt a b = false) (h2 : sLt b a = false) : a = b := by
  have h1 : ¬ a.cps.toList < b.cps.toList := of_decide_eq_false h1
  have h2 : ¬ b.cps.toList < a.cps.toList := of_decide_eq_false h2
  have e : a.cps.toList = b.cps.toList := List.le_antisymm (List.not_lt.mp h2) (List.not_lt.mp h1)
  cases a; cases b
  simp only at e
  congr 1
  exact Array.ext' e
theorem lt2 (a b : Pr) : PySem.W.dataLt (enc2 a) (enc2 b) = if a.1 = b.1 then sLt a.2 b.2 else sLt a.1 b.1 := by
  have q : ∀ x y : Str, PyData.eqv (.str x) (.str y) = decide (x = y) := fun x y => by rw [PyData.eqv]; exact Bool.beq_eq_decide_eq x y
  unfold enc2
  rw [PySem.W.dataLt_pair (by simp [PySem.W.alike]) (by simp [PySem.W.alike]), q, q, PySem.W.dataLt_str, PySem.W.dataLt_str]
  by_cases c : a.1 = b.1
  · rw [if_pos (decide_eq_true c), if_pos c]
    by_cases c2 : a.2 = b.2
    · rw [if_pos (decide_eq_true c2), c2]
      exact (decide_eq_false (List.lt_irrefl _)).symm
    · rw [if_neg (by simpa using c2)]
      rfl
  · rw [if_neg (by simpa using c), if_neg c]
    rfl
theorem le2_eq (a b : Pr) : le2 a b = !(if b.1 = a.1 then sLt b.2 a.2 else sLt b.1 a.1) := by
  unfold le2
  rw [PySem.W.dataLe_eq]
  show (!PySem.W.dataLt (enc2 b) (enc2 a)) = _
  rw [lt2]
theorem le1_eq (a b : Str) : le1 a b = !sLt b a := by
  unfold le1
  rw [PySem.W.dataLe_eq]
  show (!PySem.W.dataLt (.str b) (.str a)) = _
  rw [PySem.W.dataLt_str]
  rfl
theorem le2_total : TotalLe le2 := by
  unfold le2 dataLe
  exact PySem.W.sortLe_total _ _ _
theorem le2_anti {a b : Pr} (h1 : le2 a b = true) (h2 : le2 b a = true) : a = b := by
  rw [le2_eq, Bool.not_eq_true'] at h1 h2
  by_cases c : a.1 = b.1
  · rw [if_pos c.symm] at h1
    rw [if_pos c] at h2
    exact Prod.ext c (sLt_tri h2 h1)
  · rw [if_neg (Ne.symm c)] at h1
    rw [if_neg c] at h2
    exact absurd (sLt_tri h2 h1) c
/-- the sorted list is one -/
theorem sort_perm {ps qs : List Pr} (h : ps.Perm qs) : ps.mergeSort le2 = qs.mergeSort le2 := by
  refine List.Perm.eq_of_pairwise (le := fun a b => le2 a b = true) (fun a b _ _ h1 h2 => le2_anti h1 h2) (PySem.W.sort_pairwise le2_total ps) (PySem.W.sort_pairwise le2_total qs) ?_
  exact ((List.mergeSort_perm ps le2).trans h).trans (List.mergeSort_perm qs le2).symm
/-- the first parts of the sorted rows are the sorted first parts -/
theorem sort_keys {ps : List Pr} (h : (ps.map Prod.fst).Nodup) : (ps.mergeSort le2).map Prod.fst = (ps.map Prod.fst).mergeSort le1 := by
  refine PySem.W.sort_maps (r := le2) (s := le1) Prod.fst fun a ha b hb => ?_
  rw [le2_eq, le1_eq]
  by_cases c : b.1 = a.1
  · have e : a = b := by
      have := List.pairwise_map.mp h
      exact Classical.byContradiction fun n => by
        have : ∀ (l : List Pr), l.Pairwise (fun x y => x.1 ≠ y.1) → ∀ x ∈ l, ∀ y ∈ l, x.1 = y.1 → x = y := by
          intro l hl
          induction hl with
          | nil => intro x hx; cases hx
          | cons h1 _ ih =>
            intro x hx y hy e
            rcases List.mem_cons.mp hx with rfl | hx
            · rcases List.mem_cons.mp hy with rfl | hy
              · rfl
              · exact absurd e (h1 y hy)
            · rcases List.mem_cons.mp hy with e2 | hy
              · rw [e2] at e; exact absurd e.symm (h1 x hx)
              · exact ih x hx y hy e
        exact n (this ps (List.pairwise_map.mp h) a ha b hb c.symm)
    rw [if_pos c, e]
    unfold sLt
    rw [decide_eq_false (List.lt_irrefl _), decide_eq_false (List.lt_irrefl _)]
  · rw [if_neg c]
theorem valV_mem {ps : List Pr} (h : (ps.map Prod.fst).Nodup) {p : Pr} (hp : p ∈ ps) : valV (kvP ps) (Sum.inr p.1) = some (.str p.2) := by
  induction ps with
  | nil => cases hp
  | cons q ps ih =>
    rw [List.map_cons, List.nodup_cons] at h
    show valV ((Sum.inr q.1, V.str q.2) :: kvP ps) _ = _
    rcases List.mem_cons.mp hp with rfl | hp
    · rw [valV_pos rfl]
    · rw [valV_neg, ih h.2 hp]
      intro e
      have e2 : q.1 = p.1 := Sum.inr.inj e
      exact h.1 (List.mem_map.mpr ⟨p, hp, e2.symm⟩)
theorem nodup_sort {ps : List Pr} (h : (ps.map Prod.fst).Nodup) : ((ps.mergeSort le2).map Prod.fst).Nodup := ((List.mergeSort_perm ps le2).map Prod.fst).nodup_iff.mpr h
theorem mem_sort {ps : List Pr} {p : Pr} : p ∈ ps.mergeSort le2 ↔ p ∈ ps := List.mem_mergeSort
theorem len_sort {ps : List Pr} : (ps.mergeSort le2).length = ps.length := List.length_mergeSort _
end Tb
namespace Tb
open PySem PySem.Spec PyProof.Rows L2
abbrev sTInit : Stmt := inClass (topS 19) 0
theorem scTInit : FnScope ["self", "rows", "lanes", "prefix", "lane"] ["self", "rows"] (defScope sTInit) := ⟨rfl, rfl, rfl, by decide +kernel, rfl, by decide +kernel, by decide +kernel⟩
/-- rows in a list (lst) or a tuple: pairs of texts -/
structure RowsAt (H : Hp) (r : Addr) (lst : Bool) (ts : List (Addr × Pr)) : Prop where
  l : H r = some (if lst = true then .lst (ts.map fun t => V.ref t.1) else .tup (ts.map fun t => V.ref t.1))
  t : ∀ t ∈ ts, H t.1 = some (.tup [.str t.2.1, .str t.2.2])
  n : ts.length ≤ 1000
  z : ∀ t ∈ ts, t.2.1.length ≤ 1000 ∧ t.2.2.length ≤ 1000
theorem RowsAt.same {H H' : Hp} {r : Addr} {l : Bool} {ts : List (Addr × Pr)} (R : RowsAt H r l ts) (h : Same H H') : RowsAt H' r l ts := ⟨h _ _ R.l, fun t ht => h _ _ (R.t t ht), R.n, R.z⟩
def spInit (C CI : Addr) : Sp := fun vs H Q E => ∃ (x dx r : Addr) (lst : Bool) (ts : List (Addr × Pr)), vs = [.ref x, .ref r] ∧ H x = some (.ins C dx []) ∧ RowsAt H r lst ts ∧
  (Good (ts.map (·.2)) → ∀ d H', But x H H' → H d = none → H' x = some (.ins C dx [(wLanes, .ref d)]) → H' d = some (.dK (kvP ((ts.map (·.2)).mergeSort le2))) → Q .non H') ∧
  (¬ Good (ts.map (·.2)) → ∀ e H', Same H H' → H' e = some (.xd [(wWhat, .str wTable)]) → E (.ref CI) (some e) H')
/-- of the class Table itself -/
structure TCls (K : PySem.W.Frag) (C : Addr) : Prop where
  c : Cls K C
  no : NoAttr K C wLanes
section
variable {P : Program} {w : World} {K : PySem.W.Frag} {mg : Str → Option Value} {base : Heap}
theorem kvP_take {ps : List Pr} {i : Nat} : (kvP ps).take i = kvP (ps.take i) := by
  unfold kvP
  rw [List.map_take]
theorem kvP_len {ps : List Pr} : (kvP ps).length = ps.length := by
  unfold kvP
  rw [List.length_map]
end
end Tb
namespace Tb
open PySem PySem.Spec PyProof.Rows L2
/-- a dict comprehension over a walk: Pv by the turn and the heap (the new dict at D within) -/
theorem dc_it {J : It} {n : Nat} {G : Hp → Prop} {Y : Nat → Hp → V → Hp → Prop} (w : Walk J n G Y) {g : TG} {tt : TT} {tk tv : TE} {vs : List Nat} {σ : L2.St} {H1 : Hp} {D : Addr} {Qd : Hp → Prop} (Pv : Nat → Hp → Prop) (h0 : Pv 0 (upd H1 D (.dK []))) (hG : ∀ i H, i ≤ n → Pv i H → G H)
    (hs : ∀ i x H H', i < n → Pv i H → Y i H x H' → g x (wipe σ vs) H' fun σ2 H2 => wipe σ2 vs = wipe σ vs ∧ tt σ2 H2 fun b H3 =>
      if b = true then tk σ2 H3 fun y H4 => tv σ2 H4 fun z H5 => ∃ kvs k, y = kV k ∧ H5 D = some (.dK kvs) ∧ kvs.length < sizeLine ∧ Pv (i + 1) (upd H5 D (.dK (putK kvs k z))) else Pv (i + 1) H3) (hd : ∀ H, Pv n H → Qd H) :
    ∃ W : Nat → Nat → Hp → Prop, (∃ m, W 0 m (upd H1 D (.dK []))) ∧ ∀ i m H, W i m H →
      (J.stop i H ∧ Qd H) ∨ (J.go i H ∧ ∃ Nx : Hp → Prop, (∀ H', Nx H' → ∃ m', m' < m ∧ W (i + 1) m' H') ∧ ∀ x H', J.yld i H x H' → g x (wipe σ vs) H' fun σ2 H2 => wipe σ2 vs = wipe σ vs ∧ tt σ2 H2 fun b H3 =>
        if b = true then tk σ2 H3 fun y H4 => tv σ2 H4 fun z H5 => ∃ kvs k, y = kV k ∧ H5 D = some (.dK kvs) ∧ kvs.length < sizeLine ∧ Nx (upd H5 D (.dK (putK kvs k z))) else Nx H3) := by
  refine ⟨fun i m H => m = n - i ∧ i ≤ n ∧ Pv i H, ⟨n, by simp, Nat.zero_le _, h0⟩, ?_⟩
  rintro i m H ⟨rfl, hi, p⟩
  have q := hG i H hi p
  by_cases hlt : i < n
  · exact .inr ⟨w.goes i H hlt q, Pv (i + 1), fun H' p' => ⟨n - (i + 1), by omega, rfl, hlt, p'⟩, fun x H' y => hs i x H H' hlt p (w.yields i H x H' hlt q y)⟩
  · have e : i = n := by omega
    subst e
    exact .inl ⟨w.stops H q, hd H p⟩
theorem good_nil : Good [] := ⟨fun p hp => (List.not_mem_nil hp).elim, List.nodup_nil⟩
/-- the sorted keys with their rows -/
theorem sorted_take {ps : List Pr} (h : (ps.map Prod.fst).Nodup) {i : Nat} {k : Str} (hk : ((ps.map Prod.fst).mergeSort le1)[i]? = some k) :
    ∃ p, (ps.mergeSort le2)[i]? = some p ∧ p.1 = k ∧ valV (kvP ps) (Sum.inr k) = some (.str p.2) ∧ valV (kvP ((ps.mergeSort le2).take i)) (Sum.inr k) = none := by
  rw [← sort_keys h, List.getElem?_map] at hk
  cases e : (ps.mergeSort le2)[i]? with
  | none => rw [e] at hk; cases hk
  | some p =>
    rw [e] at hk
    have ek : p.1 = k := Option.some.inj hk
    subst ek
    have m : p ∈ ps := mem_sort.mp (List.mem_of_getElem? e)
    refine ⟨p, rfl, rfl, valV_mem h m, ?_⟩
    cases e2 : valV (kvP ((ps.mergeSort le2).take i)) (Sum.inr p.1) with
    | none => rfl
    | some v =>
      exfalso
      have mm := (valV_kvP p.1 _).mp (by rw [e2]; rfl)
      have nd := nodup_sort h
      obtain ⟨q, hq, eq⟩ := List.mem_map.mp mm
      obtain ⟨j, hj⟩ := List.mem_iff_getElem?.mp hq
      rw [List.getElem?_take] at hj
      by_cases hji : j < i
      · rw [if_pos hji] at hj
        have a1 : ((ps.mergeSort le2).map Prod.fst)[j]? = some p.1 := by rw [List.getElem?_map, hj, ← eq]; rfl
        have a2 : ((ps.mergeSort le2).map Prod.fst)[i]? = some p.1 := by rw [List.getElem?_map, e]; rfl
        obtain ⟨l1, g1⟩ := List.getElem?_eq_some_iff.mp a1
        obtain ⟨l2, g2⟩ := List.getElem?_eq_some_iff.mp a2
        have np := List.pairwise_iff_getElem.mp nd j i l1 l2 hji
        exact np (g1.trans g2.symm)
      · rw [if_neg hji] at hj
        cases hj
section
variable {P : Program} {w : World} {K : PySem.W.Frag} {mg : Str → Option Value} {base : Heap}
theorem ok_init {f gA gL gI C CI : Addr} {fd gdA gdL gdI : FuncData} (F : Fun K "__init__" "Table.__init__" sTInit f fd) (B : Blt mg) (T : TCls K C) (R : EInv K mg CI gI gdI)
    (DA : Dd K mg "is_address" sIsAddr ["text"] gA gdA) (GA : FnOk P w K mg base CX0 3 gA gdA ["text"] (spT isAddr)) (DL : Dd K mg "_is_lane" sIsLane ["text"] gL gdL) (GL : FnOk P w K mg base CX0 3 gL gdL ["text"] (spT isLane)) :
    FnOk P w K mg base (L2.CX P w) 4 f fd ["self", "rows"] (spInit C CI) := by
  have GE : FnOk P w K mg base CX0 1 gI gdI ["self", "what"] (spErr K wWhat) := ok_inv R.M.F
  refine F.okX scTInit (fun vs H Q E h => ?_) (fun cdv A outer s H vs Q E hr h => ?_)
  · obtain ⟨x, dx, r, lst, ts, rfl, _⟩ := h
    rfl
  · obtain ⟨x, dx, r, lst, ts, rfl, hx, hR, qG, qB⟩ := h
    have hu := hu_of hr
    have hr2 : Room 2 _ := hr.mono (show 2 ≤ 3 by decide)
    have hz : sizeLine = 16777216 := rfl
    generalize eps : ts.map (·.2) = ps at qG qB
    have lps : ps.length = ts.length := by rw [← eps, List.length_map]
    cases lst with
    | true =>
      refine ⟨_, pss_cons (ps_set (i := 2) scTInit.nd rfl (.inr rfl) pe_dnewK)
        (pss_cons (ps_for (passes_of rfl) rfl (pi_list (pv 1)) (pg_tup rfl (pgs_cons (pg_name (i := 3) scTInit.nd rfl (.inl rfl)) (pgs_cons (pg_name (i := 4) scTInit.nd rfl (.inl rfl)) pgs_nil)))
          (pss_cons (ps_if (PW.pt (pw_or (pt_not (pt_val (pe_call GA hr (by rfl) DA.g DA.F.kp DA.b .nil pass0 (pa_cons (pv 3) pa_nil))))
            (pw_or (pt_not (pt_val (pe_call GL hr (by rfl) DL.g DL.F.kp DL.b .nil pass0 (pa_cons (pv 4) pa_nil)))) (pw_or1 (pt_cmp (pc_din hu (pv 3) (pv 2)))))))
            (pss_one (ps_raise rfl (takes_of rfl rfl rfl rfl) (pmk_oex R.T.ox R.T.iC R.T.tI GE hr2 R.M.b .nil pass0 (by rfl) R.g (pa_cons pe_str pa_nil)))) pss_nil)
          (pss_one (ps_dput hu (pv 2) (pv 3) (pv 4) (by rfl)))))
        (pss_one (ps_fld (pv 0) (pe_dc (own := [("prefix", 3)]) (g := gName 3) (by rfl) scTInit.nd (pi_list (pe_callB (cr_sortedDk rfl hr.units) (by rfl) B.sorted PyProof.Rows.boot_sorted (pa_cons (pv 2) pa_nil)))
          (blkOk_by (N := ["self", "rows", "lanes", "prefix", "lane"]) (sc := defScope sTInit) (by decide +kernel)) (fun _ _ _ _ _ => pg_name (i := 3) scTInit.nd rfl (Or.inl rfl)) (fun _ _ _ _ _ => pts_nil) (fun _ _ _ _ _ => pv 3)
          (fun _ _ _ _ _ => pe_dget hu (pv 2) (pv 3) (fun _ _ => rfl))) (by rfl)))), ?_⟩
      intro D nD
      have S0 : Same H (upd H D (.dK [])) := same_upd nD
      refine ⟨.ref r, rfl, r, rfl, ⟨_, sqOf (S0 _ _ hR.l)⟩, ?_⟩
      refine for_it (walk_list (a := r) (xs := ts.map fun t => V.ref t.1)) (fun i σ H' => ∃ y3 y4, σ = [some (.ref x), some (.ref r), some (.ref D), y3, y4] ∧ Same H H' ∧ H' D = some (.dK (kvP (ps.take i))) ∧ Good (ps.take i))
        ⟨none, none, rfl, S0, upd_same, good_nil⟩ (fun i σ H' _ hP => ?_) (fun i v σ H1 H2 hi hP hy => ?_) (fun σ H1 hP => ?_)
      · obtain ⟨_, _, _, S1, _⟩ := hP
        exact sqOf (S1 _ _ hR.l)
      · obtain ⟨y3, y4, rfl, S1, hD, hg⟩ := hP
        obtain ⟨rfl, ev⟩ := hy
        rw [List.getElem?_map] at ev
        cases et : ts[i]? with
        | none => rw [et] at ev; cases ev
        | some t =>
        rw [et] at ev
        cases (Option.some.inj ev)
        have mt : t ∈ ts := List.mem_of_getElem? et
        have ep : ps[i]? = some t.2 := by rw [← eps, List.getElem?_map, et]; rfl
        have li : i < ps.length := (List.getElem?_eq_some_iff.mp ep).1
        have spl : ps = ps.take i ++ t.2 :: ps.drop (i + 1) := by
          have e1 := (List.getElem?_eq_some_iff.mp ep).2
          rw [← e1, ← List.drop_eq_getElem_cons li, List.take_append_drop]
        have bad : ok1 (kvP (ps.take i)) t.2 = false → ¬ Good ps := fun e g => by
          rw [spl] at g
          rw [good_ok g] at e
          cases e
        refine ⟨t.1, _, rfl, .of (S1 _ _ (hR.t t mt)), rfl, .str t.2.1, _, rfl, .str t.2.2, _, rfl, rfl, ?_⟩
        have z := hR.z t mt
        refine ⟨.str t.2.1, rfl, t.2.1, rfl, z.1, fun H3 S3 => ⟨_, rfl, ?_⟩⟩
        have raise : ∀ H3, Same H2 H3 → ok1 (kvP (ps.take i)) t.2 = false → ∀ a, H3 a = none → spErr K wWhat [.ref a, .str wTable] (upd H3 a (exo a CI none)) (fun u H4 => u = .non ∧ ∃ (d : Addr) (fs : List (Str × V)), H4 a = some (exo a CI (some d)) ∧ H4 d = some (exd d fs) ∧ H3 d = none ∧ E (.ref CI) (some d) (upd (del H4 a) d (.xd fs))) (fun _ _ _ => False) :=
          fun H3 S3 e => err_made R.T (Q := E) fun d H4 S4 hd => qB (bad e) d H4 ((S1.trans S3).trans S4) hd
        cases eA : isAddr t.2.1 with
        | false => exact ⟨by decide, raise H3 S3 (by unfold ok1; rw [eA]; rfl)⟩
        | true =>
        refine ⟨.str t.2.2, rfl, t.2.2, rfl, z.2, fun H4 S4 => ⟨_, rfl, ?_⟩⟩
        cases eL : isLane t.2.2 with
        | false => exact ⟨by decide, raise H4 (S3.trans S4) (by unfold ok1; rw [eA, eL]; rfl)⟩
        | true =>
        have hD4 := S4 _ _ (S3 _ _ hD)
        refine ⟨.str t.2.1, rfl, .ref D, rfl, D, _, rfl, DGet.k (k := Sum.inr t.2.1) hD4, _, rfl, ?_⟩
        cases eV : (valV (kvP (ps.take i)) (Sum.inr t.2.1)).isSome with
        | true => exact ⟨by decide, raise H4 (S3.trans S4) (by unfold ok1; rw [eA, eL, Option.isNone_eq_false_iff.mpr eV]; rfl)⟩
        | false =>
        have ok : ok1 (kvP (ps.take i)) t.2 = true := by
          unfold ok1
          rw [eA, eL]
          exact Option.isNone_iff_eq_none.mpr (Option.isSome_eq_false_iff.mp eV |> Option.isNone_iff_eq_none.mp)
        refine ⟨.str t.2.2, rfl, .ref D, rfl, .str t.2.1, rfl, D, _, rfl, DPut.k (k := Sum.inr t.2.1) hD4 (by rw [kvP_len, List.length_take]; have := hR.n; omega), ?_⟩
        have tk : ps.take (i + 1) = ps.take i ++ [t.2] := by rw [List.take_add_one, ep]; rfl
        refine ⟨_, _, rfl, ?_, ?_, ?_⟩
        · exact fun b o hb => by rw [upd_ne (ne_of_none hb nD)]; exact S4 _ _ (S3 _ _ (S1 _ _ hb))
        · rw [upd_same, put_snoc ok, tk]
        · rw [tk]
          exact good_snoc hg ok
      · obtain ⟨y3, y4, rfl, S1, hD, hg⟩ := hP
        rw [List.length_map, ← lps, List.take_length] at hD hg
        refine ⟨.ref D, rfl, D, _, ps.map Prod.fst, rfl, .of hD, kvP_keys ps, by rw [List.length_map, lps]; exact hR.n, fun p np => ⟨p, rfl, ⟨_, sqOf upd_same⟩, fun D2 nD2 => ?_⟩⟩
        have nD2p : p ≠ D2 := fun e => by rw [e, upd_same] at nD2; cases nD2
        have nD2' : H1 D2 = none := by rw [upd_ne (Ne.symm nD2p)] at nD2; exact nD2
        have nDD : D ≠ D2 := fun e => by rw [e, nD2'] at hD; cases hD
        have nDp : D ≠ p := fun e => by rw [e, np] at hD; cases hD
        refine dc_it (walk_list (a := p) (xs := ((ps.map Prod.fst).mergeSort (PySem.W.dataLe false PyData.str)).map V.str)) (fun i H' => Same H1 H' ∧ H' p = some (.lst (((ps.map Prod.fst).mergeSort (PySem.W.dataLe false PyData.str)).map V.str)) ∧ H' D2 = some (.dK (kvP ((ps.mergeSort le2).take i))))
          ⟨(same_upd np).trans (same_upd nD2), by rw [upd_ne nD2p]; exact upd_same, upd_same⟩ (fun i H' _ hP => sqOf hP.2.1) (fun i v H2 H3 hi hP hy => ?_) (fun H2 hP => ?_)
        · obtain ⟨S2, hp, hD2⟩ := hP
          obtain ⟨rfl, ev⟩ := hy
          rw [List.getElem?_map] at ev
          cases ek : ((ps.map Prod.fst).mergeSort (PySem.W.dataLe false PyData.str))[i]? with
          | none => rw [ek] at ev; cases ev
          | some k =>
          rw [ek] at ev
          cases (Option.some.inj ev)
          obtain ⟨q, eq, rfl, evq, enq⟩ := sorted_take hg.2 ek
          refine ⟨rfl, .str q.1, rfl, .ref D, rfl, .str q.1, rfl, D, .str q.2, rfl, ?_, ?_⟩
          · rw [← evq]
            exact DGet.k (k := Sum.inr q.1) (S2 _ _ hD)
          · refine ⟨_, Sum.inr q.1, rfl, hD2, by rw [kvP_len, List.length_take]; have := hR.n; have := @len_sort ps; omega, ?_, ?_, ?_⟩
            · exact fun b o hb => by rw [upd_ne (ne_of_none hb nD2')]; exact S2 _ _ hb
            · rw [upd_ne nD2p]
              exact hp
            · rw [upd_same, putK_new _ enq, List.take_add_one, eq]
              unfold kvP
              rw [List.map_append]
              rfl
        · obtain ⟨S2, hp, hD2⟩ := hP
          have hl : (((ps.map Prod.fst).mergeSort (PySem.W.dataLe false PyData.str)).map V.str).length = (ps.mergeSort le2).length := by
            rw [List.length_map, List.length_mergeSort, List.length_map, len_sort]
          rw [hl, List.take_length] at hD2
          have hx2 := S2 _ _ (S1 _ _ hx)
          have nDx : x ≠ D2 := fun e => by rw [e] at hx; rw [S1 _ _ hx] at nD2'; cases nD2'
          have HD2 : H D2 = none := by
            cases e : H D2 with
            | none => rfl
            | some o => rw [S1 _ _ e] at nD2'; cases nD2'
          refine ⟨.ref x, rfl, x, C, dx, [], rfl, hx2, T.c, T.no, by decide, ?_⟩
          refine qG hg D2 _ (fun b o hb nb => by rw [upd_ne nb]; exact S2 _ _ (S1 _ _ hb)) HD2 upd_same ?_
          rw [upd_ne (Ne.symm nDx)]
          exact hD2
    | false =>
      refine ⟨_, pss_cons (ps_set (i := 2) scTInit.nd rfl (.inr rfl) pe_dnewK)
        (pss_cons (ps_for (passes_of rfl) rfl (pi_tup (pv 1)) (pg_tup rfl (pgs_cons (pg_name (i := 3) scTInit.nd rfl (.inl rfl)) (pgs_cons (pg_name (i := 4) scTInit.nd rfl (.inl rfl)) pgs_nil)))
          (pss_cons (ps_if (PW.pt (pw_or (pt_not (pt_val (pe_call GA hr (by rfl) DA.g DA.F.kp DA.b .nil pass0 (pa_cons (pv 3) pa_nil))))
            (pw_or (pt_not (pt_val (pe_call GL hr (by rfl) DL.g DL.F.kp DL.b .nil pass0 (pa_cons (pv 4) pa_nil)))) (pw_or1 (pt_cmp (pc_din hu (pv 3) (pv 2)))))))
            (pss_one (ps_raise rfl (takes_of rfl rfl rfl rfl) (pmk_oex R.T.ox R.T.iC R.T.tI GE hr2 R.M.b .nil pass0 (by rfl) R.g (pa_cons pe_str pa_nil)))) pss_nil)
          (pss_one (ps_dput hu (pv 2) (pv 3) (pv 4) (by rfl)))))
        (pss_one (ps_fld (pv 0) (pe_dc (own := [("prefix", 3)]) (g := gName 3) (by rfl) scTInit.nd (pi_list (pe_callB (cr_sortedDk rfl hr.units) (by rfl) B.sorted PyProof.Rows.boot_sorted (pa_cons (pv 2) pa_nil)))
          (blkOk_by (N := ["self", "rows", "lanes", "prefix", "lane"]) (sc := defScope sTInit) (by decide +kernel)) (fun _ _ _ _ _ => pg_name (i := 3) scTInit.nd rfl (Or.inl rfl)) (fun _ _ _ _ _ => pts_nil) (fun _ _ _ _ _ => pv 3)
          (fun _ _ _ _ _ => pe_dget hu (pv 2) (pv 3) (fun _ _ => rfl))) (by rfl)))), ?_⟩
      intro D nD
      have S0 : Same H (upd H D (.dK [])) := same_upd nD
      refine ⟨.ref r, rfl, r, rfl, ⟨_, .of (S0 _ _ hR.l)⟩, ?_⟩
      refine for_it (walk_tup (a := r) (xs := ts.map fun t => V.ref t.1)) (fun i σ H' => ∃ y3 y4, σ = [some (.ref x), some (.ref r), some (.ref D), y3, y4] ∧ Same H H' ∧ H' D = some (.dK (kvP (ps.take i))) ∧ Good (ps.take i))
        ⟨none, none, rfl, S0, upd_same, good_nil⟩ (fun i σ H' _ hP => ?_) (fun i v σ H1 H2 hi hP hy => ?_) (fun σ H1 hP => ?_)
      · obtain ⟨_, _, _, S1, _⟩ := hP
        exact .of (S1 _ _ hR.l)
      · obtain ⟨y3, y4, rfl, S1, hD, hg⟩ := hP
        obtain ⟨rfl, ev⟩ := hy
        rw [List.getElem?_map] at ev
        cases et : ts[i]? with
        | none => rw [et] at ev; cases ev
        | some t =>
        rw [et] at ev
        cases (Option.some.inj ev)
        have mt : t ∈ ts := List.mem_of_getElem? et
        have ep : ps[i]? = some t.2 := by rw [← eps, List.getElem?_map, et]; rfl
        have li : i < ps.length := (List.getElem?_eq_some_iff.mp ep).1
        have spl : ps = ps.take i ++ t.2 :: ps.drop (i + 1) := by
          have e1 := (List.getElem?_eq_some_iff.mp ep).2
          rw [← e1, ← List.drop_eq_getElem_cons li, List.take_append_drop]
        have bad : ok1 (kvP (ps.take i)) t.2 = false → ¬ Good ps := fun e g => by
          rw [spl] at g
          rw [good_ok g] at e
          cases e
        refine ⟨t.1, _, rfl, .of (S1 _ _ (hR.t t mt)), rfl, .str t.2.1, _, rfl, .str t.2.2, _, rfl, rfl, ?_⟩
        have z := hR.z t mt
        refine ⟨.str t.2.1, rfl, t.2.1, rfl, z.1, fun H3 S3 => ⟨_, rfl, ?_⟩⟩
        have raise : ∀ H3, Same H2 H3 → ok1 (kvP (ps.take i)) t.2 = false → ∀ a, H3 a = none → spErr K wWhat [.ref a, .str wTable] (upd H3 a (exo a CI none)) (fun u H4 => u = .non ∧ ∃ (d : Addr) (fs : List (Str × V)), H4 a = some (exo a CI (some d)) ∧ H4 d = some (exd d fs) ∧ H3 d = none ∧ E (.ref CI) (some d) (upd (del H4 a) d (.xd fs))) (fun _ _ _ => False) :=
          fun H3 S3 e => err_made R.T (Q := E) fun d H4 S4 hd => qB (bad e) d H4 ((S1.trans S3).trans S4) hd
        cases eA : isAddr t.2.1 with
        | false => exact ⟨by decide, raise H3 S3 (by unfold ok1; rw [eA]; rfl)⟩
        | true =>
        refine ⟨.str t.2.2, rfl, t.2.2, rfl, z.2, fun H4 S4 => ⟨_, rfl, ?_⟩⟩
        cases eL : isLane t.2.2 with
        | false => exact ⟨by decide, raise H4 (S3.trans S4) (by unfold ok1; rw [eA, eL]; rfl)⟩
        | true =>
        have hD4 := S4 _ _ (S3 _ _ hD)
        refine ⟨.str t.2.1, rfl, .ref D, rfl, D, _, rfl, DGet.k (k := Sum.inr t.2.1) hD4, _, rfl, ?_⟩
        cases eV : (valV (kvP (ps.take i)) (Sum.inr t.2.1)).isSome with
        | true => exact ⟨by decide, raise H4 (S3.trans S4) (by unfold ok1; rw [eA, eL, Option.isNone_eq_false_iff.mpr eV]; rfl)⟩
        | false =>
        have ok : ok1 (kvP (ps.take i)) t.2 = true := by
          unfold ok1
          rw [eA, eL]
          exact Option.isNone_iff_eq_none.mpr (Option.isSome_eq_false_iff.mp eV |> Option.isNone_iff_eq_none.mp)
        refine ⟨.str t.2.2, rfl, .ref D, rfl, .str t.2.1, rfl, D, _, rfl, DPut.k (k := Sum.inr t.2.1) hD4 (by rw [kvP_len, List.length_take]; have := hR.n; omega), ?_⟩
        have tk : ps.take (i + 1) = ps.take i ++ [t.2] := by rw [List.take_add_one, ep]; rfl
        refine ⟨_, _, rfl, ?_, ?_, ?_⟩
        · exact fun b o hb => by rw [upd_ne (ne_of_none hb nD)]; exact S4 _ _ (S3 _ _ (S1 _ _ hb))
        · rw [upd_same, put_snoc ok, tk]
        · rw [tk]
          exact good_snoc hg ok
      · obtain ⟨y3, y4, rfl, S1, hD, hg⟩ := hP
        rw [List.length_map, ← lps, List.take_length] at hD hg
        refine ⟨.ref D, rfl, D, _, ps.map Prod.fst, rfl, .of hD, kvP_keys ps, by rw [List.length_map, lps]; exact hR.n, fun p np => ⟨p, rfl, ⟨_, sqOf upd_same⟩, fun D2 nD2 => ?_⟩⟩
        have nD2p : p ≠ D2 := fun e => by rw [e, upd_same] at nD2; cases nD2
        have nD2' : H1 D2 = none := by rw [upd_ne (Ne.symm nD2p)] at nD2; exact nD2
        have nDD : D ≠ D2 := fun e => by rw [e, nD2'] at hD; cases hD
        have nDp : D ≠ p := fun e => by rw [e, np] at hD; cases hD
        refine dc_it (walk_list (a := p) (xs := ((ps.map Prod.fst).mergeSort (PySem.W.dataLe false PyData.str)).map V.str)) (fun i H' => Same H1 H' ∧ H' p = some (.lst (((ps.map Prod.fst).mergeSort (PySem.W.dataLe false PyData.str)).map V.str)) ∧ H' D2 = some (.dK (kvP ((ps.mergeSort le2).take i))))
          ⟨(same_upd np).trans (same_upd nD2), by rw [upd_ne nD2p]; exact upd_same, upd_same⟩ (fun i H' _ hP => sqOf hP.2.1) (fun i v H2 H3 hi hP hy => ?_) (fun H2 hP => ?_)
        · obtain ⟨S2, hp, hD2⟩ := hP
          obtain ⟨rfl, ev⟩ := hy
          rw [List.getElem?_map] at ev
          cases ek : ((ps.map Prod.fst).mergeSort (PySem.W.dataLe false PyData.str))[i]? with
          | none => rw [ek] at ev; cases ev
          | some k =>
          rw [ek] at ev
          cases (Option.some.inj ev)
          obtain ⟨q, eq, rfl, evq, enq⟩ := sorted_take hg.2 ek
          refine ⟨rfl, .str q.1, rfl, .ref D, rfl, .str q.1, rfl, D, .str q.2, rfl, ?_, ?_⟩
          · rw [← evq]
            exact DGet.k (k := Sum.inr q.1) (S2 _ _ hD)
          · refine ⟨_, Sum.inr q.1, rfl, hD2, by rw [kvP_len, List.length_take]; have := hR.n; have := @len_sort ps; omega, ?_, ?_, ?_⟩
            · exact fun b o hb => by rw [upd_ne (ne_of_none hb nD2')]; exact S2 _ _ hb
            · rw [upd_ne nD2p]
              exact hp
            · rw [upd_same, putK_new _ enq, List.take_add_one, eq]
              unfold kvP
              rw [List.map_append]
              rfl
        · obtain ⟨S2, hp, hD2⟩ := hP
          have hl : (((ps.map Prod.fst).mergeSort (PySem.W.dataLe false PyData.str)).map V.str).length = (ps.mergeSort le2).length := by
            rw [List.length_map, List.length_mergeSort, List.length_map, len_sort]
          rw [hl, List.take_length] at hD2
          have hx2 := S2 _ _ (S1 _ _ hx)
          have nDx : x ≠ D2 := fun e => by rw [e] at hx; rw [S1 _ _ hx] at nD2'; cases nD2'
          have HD2 : H D2 = none := by
            cases e : H D2 with
            | none => rfl
            | some o => rw [S1 _ _ e] at nD2'; cases nD2'
          refine ⟨.ref x, rfl, x, C, dx, [], rfl, hx2, T.c, T.no, by decide, ?_⟩
          refine qG hg D2 _ (fun b o hb nb => by rw [upd_ne nb]; exact S2 _ _ (S1 _ _ hb)) HD2 upd_same ?_
          rw [upd_ne (Ne.symm nDx)]
          exact hD2
end
end Tb
namespace Tb
open PySem PySem.Spec PyProof.Rows L2
/-! ### rows put and dropped: the mirrors -/
def putP (ps : List Pr) (p l : Str) : List Pr := if (ps.any fun q => decide (q.1 = p)) = true then ps.map (fun q => if q.1 = p then (q.1, l) else q) else ps ++ [(p, l)]
def dropP (ps : List Pr) (p : Str) : List Pr := ps.filter fun q => decide (q.1 ≠ p)
/-- after the change -/
def aft (ps : List Pr) (p : Str) : Option Str → List Pr
  | none => dropP ps p
  | some l => putP ps p l
theorem any_kvP (ps : List Pr) (p : Str) : ((kvP ps).any fun kv => decide (kv.1 = Sum.inr p)) = ps.any fun q => decide (q.1 = p) := by
  unfold kvP
  rw [List.any_map]
  congr 1
  funext q
  show decide ((Sum.inr q.1 : Key) = Sum.inr p) = decide (q.1 = p)
  exact decide_eq_decide.mpr ⟨Sum.inr.inj, fun e => by rw [e]⟩
theorem put_kvP (ps : List Pr) (p l : Str) : putK (kvP ps) (Sum.inr p) (V.str l) = kvP (putP ps p l) := by
  unfold putK putP
  rw [any_kvP]
  by_cases c : (ps.any fun q => decide (q.1 = p)) = true
  · rw [if_pos c, if_pos c]
    unfold kvP
    rw [List.map_map, List.map_map]
    refine List.map_congr_left fun q _ => ?_
    show (if (Sum.inr q.1 : Key) = Sum.inr p then ((Sum.inr q.1 : Key), V.str l) else (Sum.inr q.1, V.str q.2)) = (Sum.inr (if q.1 = p then (q.1, l) else q).1, V.str (if q.1 = p then (q.1, l) else q).2)
    by_cases e : q.1 = p
    · rw [if_pos (by rw [e]), if_pos e]
    · rw [if_neg (fun x => e (Sum.inr.inj x)), if_neg e]
  · rw [if_neg c, if_neg c]
    unfold kvP
    rw [List.map_append]
    rfl
theorem drop_kvP (ps : List Pr) (p : Str) : dropK (kvP ps) (Sum.inr p) = kvP (dropP ps p) := by
  unfold dropK dropP kvP
  rw [List.filter_map]
  congr 1
  refine List.filter_congr fun q _ => ?_
  show decide ((Sum.inr q.1 : Key) ≠ Sum.inr p) = decide (q.1 ≠ p)
  exact decide_eq_decide.mpr ⟨fun e x => e (by rw [x]), fun e x => e (Sum.inr.inj x)⟩
theorem any_perm {ps qs : List Pr} (h : ps.Perm qs) (f : Pr → Bool) : ps.any f = qs.any f := by
  rw [Bool.eq_iff_iff, List.any_eq_true, List.any_eq_true]
  exact ⟨fun ⟨x, hx, e⟩ => ⟨x, h.mem_iff.mp hx, e⟩, fun ⟨x, hx, e⟩ => ⟨x, h.mem_iff.mpr hx, e⟩⟩
theorem put_perm {ps qs : List Pr} (h : ps.Perm qs) (p l : Str) : (putP ps p l).Perm (putP qs p l) := by
  unfold putP
  rw [any_perm h]
  by_cases c : (qs.any fun q => decide (q.1 = p)) = true
  · rw [if_pos c, if_pos c]
    exact h.map _
  · rw [if_neg c, if_neg c]
    exact h.append_right _
theorem aft_perm {ps qs : List Pr} (h : ps.Perm qs) (p : Str) (o : Option Str) : (aft ps p o).Perm (aft qs p o) := by
  cases o with
  | none => exact h.filter _
  | some l => exact put_perm h p l
theorem put_keys {ps : List Pr} {p l : Str} (h : (ps.any fun q => decide (q.1 = p)) = true) : (putP ps p l).map Prod.fst = ps.map Prod.fst := by
  unfold putP
  rw [if_pos h, List.map_map]
  refine List.map_congr_left fun q _ => ?_
  show (if q.1 = p then (q.1, l) else q).1 = q.1
  by_cases e : q.1 = p
  · rw [if_pos e]
  · rw [if_neg e]
theorem any_mem {ps : List Pr} {p : Str} : (ps.any fun q => decide (q.1 = p)) = true ↔ p ∈ ps.map Prod.fst := by
  rw [List.any_eq_true, List.mem_map]
  exact ⟨fun ⟨x, hx, e⟩ => ⟨x, hx, of_decide_eq_true e⟩, fun ⟨x, hx, e⟩ => ⟨x, hx, decide_eq_true e⟩⟩
theorem put_nodup {ps : List Pr} {p l : Str} (h : (ps.map Prod.fst).Nodup) : ((putP ps p l).map Prod.fst).Nodup := by
  by_cases c : (ps.any fun q => decide (q.1 = p)) = true
  · rw [put_keys c]
    exact h
  · have c2 : p ∉ ps.map Prod.fst := fun z => c (any_mem.mpr z)
    unfold putP
    rw [if_neg c, List.map_append, List.nodup_append]
    refine ⟨h, by simp, fun x hx y hy e => ?_⟩
    subst e
    rw [List.map_singleton, List.mem_singleton] at hy
    exact c2 (by rw [show x = p from hy] at hx; exact hx)
theorem mem_put {ps : List Pr} {p l : Str} {q : Pr} (h : q ∈ putP ps p l) : q ∈ ps ∨ q = (p, l) := by
  unfold putP at h
  by_cases c : (ps.any fun q => decide (q.1 = p)) = true
  · rw [if_pos c] at h
    obtain ⟨x, hx, e⟩ := List.mem_map.mp h
    by_cases e2 : x.1 = p
    · rw [if_pos e2] at e
      exact .inr (by rw [← e, e2])
    · rw [if_neg e2] at e
      exact .inl (by rw [← e]; exact hx)
  · rw [if_neg c] at h
    rcases List.mem_append.mp h with h | h
    · exact .inl h
    · exact .inr (List.mem_singleton.mp h)
theorem put_mem (ps : List Pr) (p l : Str) : (p, l) ∈ putP ps p l := by
  unfold putP
  by_cases c : (ps.any fun q => decide (q.1 = p)) = true
  · rw [if_pos c]
    obtain ⟨x, hx, e⟩ := List.any_eq_true.mp c
    have e := of_decide_eq_true e
    exact List.mem_map.mpr ⟨x, hx, by rw [if_pos e, e]⟩
  · rw [if_neg c]
    exact List.mem_append_right _ (List.mem_singleton.mpr rfl)
theorem put_good {ps : List Pr} {p l : Str} (h : Good ps) (h1 : isAddr p = true) (h2 : isLane l = true) : Good (putP ps p l) :=
  ⟨fun q hq => by
    rcases mem_put hq with hq | rfl
    · exact h.1 q hq
    · exact ⟨h1, h2⟩, put_nodup h.2⟩
theorem put_bad {ps : List Pr} {p l : Str} (h2 : isLane l = false) : ¬ Good (putP ps p l) := fun g => by
  have := (g.1 _ (put_mem ps p l)).2
  rw [h2] at this
  cases this
theorem drop_good {ps : List Pr} {p : Str} (h : Good ps) : Good (dropP ps p) :=
  ⟨fun q hq => h.1 q (List.mem_filter.mp hq).1, List.Nodup.sublist (List.filter_sublist.map Prod.fst) h.2⟩
theorem drop_len (ps : List Pr) (p : Str) : (dropP ps p).length ≤ ps.length := List.length_filter_le _ _
theorem put_len (ps : List Pr) (p l : Str) : (putP ps p l).length ≤ ps.length + 1 := by
  unfold putP
  by_cases c : (ps.any fun q => decide (q.1 = p)) = true
  · rw [if_pos c, List.length_map]
    omega
  · rw [if_neg c, List.length_append]
    exact Nat.le_refl _
theorem good_perm {ps qs : List Pr} (h : ps.Perm qs) (g : Good ps) : Good qs := ⟨fun p hp => g.1 p (h.mem_iff.mpr hp), (h.map Prod.fst).nodup_iff.mp g.2⟩
theorem good_sort {ps : List Pr} : Good (ps.mergeSort le2) ↔ Good ps := ⟨good_perm (List.mergeSort_perm ps le2), good_perm (List.mergeSort_perm ps le2).symm⟩
theorem addr_len {t : Str} (h : isAddr t = true) : t.length ≤ 8 := by
  unfold isAddr made at h
  rw [Bool.and_eq_true, Bool.and_eq_true] at h
  have := of_decide_eq_true h.1.2
  omega
theorem lane_len {t : Str} (h : isLane t = true) : t.length ≤ 12 := by
  unfold isLane at h
  rw [Bool.or_eq_true] at h
  rcases h with h | h
  · have e := of_decide_eq_true h
    rw [e]
    decide
  · unfold isName made at h
    rw [Bool.and_eq_true, Bool.and_eq_true, Bool.and_eq_true] at h
    have := of_decide_eq_true h.1.1.2
    omega
theorem valV_kvP_eq {ps : List Pr} {k : Str} : valV (kvP ps) (Sum.inr k) = (ps.find? fun q => decide (q.1 = k)).map fun q => V.str q.2 := by
  induction ps with
  | nil => rfl
  | cons p ps ih =>
    show valV ((Sum.inr p.1, V.str p.2) :: kvP ps) _ = _
    by_cases c : p.1 = k
    · rw [valV_pos (by rw [c]), List.find?_cons_of_pos (by exact decide_eq_true c)]
      rfl
    · rw [valV_neg (by intro e; exact c (Sum.inr.inj e)), ih, List.find?_cons_of_neg (by simpa using c)]
/-- a dict's rows in another order say the same -/
theorem valV_perm {ps qs : List Pr} (h : ps.Perm qs) (n : (ps.map Prod.fst).Nodup) (k : Str) : valV (kvP ps) (Sum.inr k) = valV (kvP qs) (Sum.inr k) := by
  by_cases c : k ∈ ps.map Prod.fst
  · obtain ⟨p, hp, e⟩ := List.mem_map.mp c
    subst e
    rw [valV_mem n hp, valV_mem ((h.map Prod.fst).nodup_iff.mp n) (h.mem_iff.mp hp)]
  · have c2 : k ∉ qs.map Prod.fst := fun z => c ((h.map Prod.fst).mem_iff.mpr z)
    have a1 : valV (kvP ps) (Sum.inr k) = none := by
      cases e : valV (kvP ps) (Sum.inr k) with
      | none => rfl
      | some v => exact absurd ((valV_kvP k ps).mp (by rw [e]; rfl)) c
    have a2 : valV (kvP qs) (Sum.inr k) = none := by
      cases e : valV (kvP qs) (Sum.inr k) with
      | none => rfl
      | some v => exact absurd ((valV_kvP k qs).mp (by rw [e]; rfl)) c2
    rw [a1, a2]
theorem lp_congr {kvs kvs' : Kvs} (h : ∀ k : Str, valV kvs (Sum.inr k) = valV kvs' (Sum.inr k)) (a : Str) : ∀ n, lp kvs a n = lp kvs' a n
  | 0 => rfl
  | n + 1 => by
    unfold lp
    rw [h, lp_congr h a n]
theorem laneV_congr {kvs kvs' : Kvs} (h : ∀ k : Str, valV kvs (Sum.inr k) = valV kvs' (Sum.inr k)) (a : Str) : laneV kvs a = laneV kvs' a := by
  unfold laneV long
  rw [lp_congr h]
  cases lp kvs' a a.length with
  | none => rfl
  | some p =>
    show (valV kvs (Sum.inr p)).getD _ = (valV kvs' (Sum.inr p)).getD _
    rw [h]
/-- what the table says of an address -/
theorem laneV_sort {own : List Pr} (n : (own.map Prod.fst).Nodup) (a : Str) : laneV (kvP (own.mergeSort le2)) a = laneV (kvP own) a :=
  laneV_congr (fun k => (valV_perm (List.mergeSort_perm own le2).symm n k).symm) a
end Tb
namespace Tb
open PySem PySem.Spec PyProof.Rows L2
abbrev sTCall : Stmt := inClass (topS 19) 1
abbrev sTLen : Stmt := inClass (topS 19) 3
abbrev sTRows : Stmt := inClass (topS 19) 4
abbrev sTChanged : Stmt := inClass (topS 19) 7
theorem scTCall : FnScope ["self", "address"] ["self", "address"] (defScope sTCall) := ⟨rfl, rfl, rfl, by decide +kernel, rfl, by decide +kernel, by decide +kernel⟩
theorem scTLen : FnScope ["self"] ["self"] (defScope sTLen) := ⟨rfl, rfl, rfl, by decide +kernel, rfl, by decide +kernel, by decide +kernel⟩
theorem scTRows : FnScope ["self"] ["self"] (defScope sTRows) := ⟨rfl, rfl, rfl, by decide +kernel, rfl, by decide +kernel, by decide +kernel⟩
theorem scTChanged : FnScope ["self", "prefix", "lane", "lanes"] ["self", "prefix", "lane"] (defScope sTChanged) := ⟨rfl, rfl, rfl, by decide +kernel, rfl, by decide +kernel, by decide +kernel⟩
/-- at b: a table of these rows -/
structure TabOf (C : Addr) (H : Hp) (b : Addr) (own : List Pr) : Prop where
  ex : ∃ dx d, H b = some (.ins C dx [(wLanes, .ref d)]) ∧ H d = some (.dK (kvP (own.mergeSort le2)))
  g : Good own
  n : own.length ≤ 900
theorem TabOf.same {C : Addr} {H H' : Hp} {b : Addr} {own : List Pr} (T : TabOf C H b own) (h : Same H H') : TabOf C H' b own := by
  obtain ⟨⟨dx, d, h1, h2⟩, g, n⟩ := T
  exact ⟨⟨dx, d, h _ _ h1, h _ _ h2⟩, g, n⟩
theorem TabOf.but {C : Addr} {H H' : Hp} {b p : Addr} {own : List Pr} {xs : List V} (T : TabOf C H b own) (hp : H p = some (.lst xs)) (h : But p H H') : TabOf C H' b own := by
  obtain ⟨⟨dx, d, h1, h2⟩, g, n⟩ := T
  exact ⟨⟨dx, d, h _ _ h1 (fun e => by rw [e, hp] at h1; cases h1), h _ _ h2 (fun e => by rw [e, hp] at h2; cases h2)⟩, g, n⟩
theorem TabOf.perm {C : Addr} {H : Hp} {b : Addr} {own own' : List Pr} (T : TabOf C H b own) (h : own.Perm own') : TabOf C H b own' := by
  obtain ⟨⟨dx, d, h1, h2⟩, g, n⟩ := T
  exact ⟨⟨dx, d, h1, by rw [← sort_perm h]; exact h2⟩, good_perm h g, by rw [← h.length_eq]; exact n⟩
theorem lk1 {f : Str} {v : V} : List.lookup f [(f, v)] = some v := by
  rw [List.lookup_cons, beq_self_eq_true]
/-- Table(rows): from what __init__ says -/
theorem tab_made {C CI : Addr} {H : Hp} {r : Addr} {lst : Bool} {ts : List (Addr × Pr)} {Q : VK} {E : XK} (R : RowsAt H r lst ts) (hn : ts.length ≤ 900)
    (qG : Good (ts.map (·.2)) → ∀ b H', Same H H' → H b = none → TabOf C H' b (ts.map (·.2)) → Q (.ref b) H')
    (qB : ¬ Good (ts.map (·.2)) → ∀ e H', Same H H' → H' e = some (.xd [(wWhat, .str wTable)]) → E (.ref CI) (some e) H') :
    ∀ x dx, H x = none → H dx = none → dx ≠ x → spInit C CI (V.ref x :: ([V.ref r] ++ [])) (upd (upd H dx (.own x)) x (.ins C dx [])) (fun v H2 => v = .non ∧ Q (.ref x) H2) E := by
  intro x dx nx ndx hne
  have S0 : Same H (upd (upd H dx (.own x)) x (.ins C dx [])) := (same_upd ndx).trans (same_upd (by rw [upd_ne (Ne.symm hne)]; exact nx))
  refine ⟨x, dx, r, lst, ts, rfl, upd_same, R.same S0, fun g d H' S nd hx hd => ⟨rfl, ?_⟩, fun g e H' S he => qB g e H' (S0.trans S) he⟩
  refine qG g x H' (fun b o hb => ?_) nx ⟨⟨dx, d, hx, hd⟩, g, by rw [List.length_map]; exact hn⟩
  exact S b o (S0 _ _ hb) (fun e => by rw [e, nx] at hb; cases hb)
section
variable {P : Program} {w : World} {K : PySem.W.Frag} {mg : Str → Option Value} {base : Heap}
/-- __call__ -/
def spTCall (C : Addr) : Sp := fun vs H Q _ => ∃ (b : Addr) (own : List Pr) (a : Str), vs = [.ref b, .str a] ∧ TabOf C H b own ∧ a.length ≤ 1000 ∧ Q (laneV (kvP own) a) H
theorem ok_tcall {f g C : Addr} {fd gd : FuncData} (F : Fun K "__call__" "Table.__call__" sTCall f fd) (D : Dd K mg "_lane" sLane ["lanes", "address"] g gd) (G : FnOk P w K mg base CX0 2 g gd ["lanes", "address"] (spDA laneV)) (T : TCls K C) : FnOk P w K mg base CX0 3 f fd ["self", "address"] (spTCall C) := by
  refine F.ok scTCall (fun vs H Q E h => ?_) (fun cdv A outer s H vs Q E hr h => ?_)
  · obtain ⟨b, own, a, rfl, _⟩ := h
    rfl
  · obtain ⟨b, own, a, rfl, hT, hl, q⟩ := h
    obtain ⟨dx, d, h1, h2⟩ := hT.ex
    refine ⟨_, pss_one (ps_ret (pe_call G hr (by rfl) D.g D.F.kp D.b .nil pass0 (pa_cons (pe_fld (pv 0) (by rfl)) (pa_cons (pv 1) pa_nil)))), ?_⟩
    refine ⟨.ref b, rfl, b, C, dx, _, .ref d, rfl, h1, T.c, T.no, lk1, .str a, rfl, d, _, a, rfl, h2, hl, ?_⟩
    rw [laneV_sort hT.g.2]
    exact q
/-- __len__ -/
def spTLen (C : Addr) : Sp := fun vs H Q _ => ∃ (b : Addr) (own : List Pr), vs = [.ref b] ∧ TabOf C H b own ∧ Q (.int (own.length : Int)) H
theorem ok_tlen {f C : Addr} {fd : FuncData} {k : Nat} (F : Fun K "__len__" "Table.__len__" sTLen f fd) (B : Blt mg) (T : TCls K C) : FnOk P w K mg base CX0 (k + 1) f fd ["self"] (spTLen C) := by
  refine F.ok scTLen (fun vs H Q E h => ?_) (fun cdv A outer s H vs Q E hr h => ?_)
  · obtain ⟨b, own, rfl, _⟩ := h
    rfl
  · obtain ⟨b, own, rfl, hT, q⟩ := h
    obtain ⟨dx, d, h1, h2⟩ := hT.ex
    refine ⟨_, pss_one (ps_ret (pe_callB call_lenD (by rfl) B.len PySem.boot_len (pa_cons (pe_fld (pv 0) (by rfl)) pa_nil))), ?_⟩
    refine ⟨.ref b, rfl, b, C, dx, _, .ref d, rfl, h1, T.c, T.no, lk1, d, _, rfl, h2, ?_⟩
    rw [kvP_len, len_sort]
    exact q
/-- rows -/
def spTRows (C : Addr) : Sp := fun vs H Q _ => ∃ (b : Addr) (own : List Pr), vs = [.ref b] ∧ TabOf C H b own ∧ ∀ (p : Addr) (ts : List (Addr × Pr)) (H' : Hp), Same H H' → H p = none → H' p = some (.lst (ts.map fun t => V.ref t.1)) → (∀ t ∈ ts, H' t.1 = some (.tup [.str t.2.1, .str t.2.2])) → ts.map (·.2) = own.mergeSort le2 → Q (.ref p) H'
/-- the items of a dict of texts -/
theorem items_rows {H' : Hp} : ∀ {as : List Addr} {ps : List Pr}, Paired (fun (t : Addr) (q : Key × V) => H' t = some (.tup [kV q.1, q.2])) as (kvP ps) → ∃ ts : List (Addr × Pr), ts.map Prod.fst = as ∧ ts.map Prod.snd = ps ∧ ∀ t ∈ ts, H' t.1 = some (.tup [.str t.2.1, .str t.2.2])
  | _, [], .nil => ⟨[], rfl, rfl, fun t ht => (List.not_mem_nil ht).elim⟩
  | _, p :: ps, .cons (a := a) h t => by
    obtain ⟨ts, e1, e2, e3⟩ := items_rows t
    exact ⟨(a, p) :: ts, by rw [List.map_cons, e1], by rw [List.map_cons, e2], fun x hx => by
      rcases List.mem_cons.mp hx with rfl | hx
      · exact h
      · exact e3 x hx⟩
theorem ok_trows {f C : Addr} {fd : FuncData} {k : Nat} (F : Fun K "rows" "Table.rows" sTRows f fd) (B : Blt mg) (T : TCls K C) : FnOk P w K mg base CX0 (k + 1) f fd ["self"] (spTRows C) := by
  refine F.ok scTRows (fun vs H Q E h => ?_) (fun cdv A outer s H vs Q E hr h => ?_)
  · obtain ⟨b, own, rfl, _⟩ := h
    rfl
  · obtain ⟨b, own, rfl, hT, q⟩ := h
    obtain ⟨dx, d, h1, h2⟩ := hT.ex
    refine ⟨_, pss_one (ps_ret (LiI.pe_listItems rfl (pe_fld (pv 0) (by rfl)) (by rfl) B.list PyProof.Rows.boot_list)), ?_⟩
    refine ⟨.ref b, rfl, b, C, dx, _, .ref d, rfl, h1, T.c, T.no, lk1, d, _, rfl, h2, fun H' p as S np _ _ hp hpr => ?_⟩
    obtain ⟨ts, e1, e2, e3⟩ := items_rows hpr
    refine q p ts H' S np ?_ e3 e2
    rw [hp, ← e1, List.map_map]
    rfl
end
end Tb
namespace Tb
open PySem PySem.Spec PyProof.Rows L2
/-- what `changed` answers -/
def spTChanged (C CI CU : Addr) : Sp := fun vs H Q E => ∃ (b : Addr) (own : List Pr) (p : Str) (o : Option Str), vs = [.ref b, .str p, oStr o] ∧ TabOf C H b own ∧ own.length < 900 ∧ p.length ≤ 1000 ∧ (∀ l, o = some l → l.length ≤ 1000) ∧
  ((isAddr p = false ∨ ∃ l, o = some l ∧ isLane l = false) → ∀ e H', Same H H' → H' e = some (.xd [(wWhat, .str wTable)]) → E (.ref CI) (some e) H') ∧
  (isAddr p = true → o = none → p ∉ own.map Prod.fst → ∀ e H', Same H H' → H' e = some (.xd [(wName, .str p)]) → E (.ref CU) (some e) H') ∧
  (isAddr p = true → (∀ l, o = some l → isLane l = true) → (o = none → p ∈ own.map Prod.fst) → ∀ b' H', Same H H' → TabOf C H' b' (aft own p o) → Q (.ref b') H')
theorem rows_z {own : List Pr} {p : Str} {o : Option Str} (g : Good own) (hp : p.length ≤ 1000) (ho : ∀ l, o = some l → l.length ≤ 1000) {q : Pr} (hq : q ∈ aft own p o) : q.1.length ≤ 1000 ∧ q.2.length ≤ 1000 := by
  have base : ∀ q ∈ own, q.1.length ≤ 1000 ∧ q.2.length ≤ 1000 := fun q hq => by
    have h := g.1 q hq
    have h1 := addr_len h.1
    have h2 := lane_len h.2
    omega
  cases o with
  | none => exact base q (List.mem_filter.mp hq).1
  | some l =>
    rcases mem_put hq with hq | rfl
    · exact base q hq
    · exact ⟨hp, ho l rfl⟩
theorem aft_len {own : List Pr} {p : Str} {o : Option Str} : (aft own p o).length ≤ own.length + 1 := by
  cases o with
  | none => exact Nat.le_trans (drop_len own p) (Nat.le_succ _)
  | some l => exact put_len own p l
theorem aft_good {own : List Pr} {p : Str} {o : Option Str} (g : Good own) (hp : isAddr p = true) : Good (aft own p o) ↔ ∀ l, o = some l → isLane l = true := by
  cases o with
  | none => exact ⟨fun _ l e => by (cases e), fun _ => drop_good g⟩
  | some l =>
    refine ⟨fun h l' e => ?_, fun h => put_good g hp (h l rfl)⟩
    cases e
    cases e2 : isLane l with
    | true => rfl
    | false => exact absurd h (put_bad e2)
section
variable {P : Program} {w : World} {K : PySem.W.Frag} {mg : Str → Option Value} {base : Heap}
theorem ok_tchanged {f gA gT gI gU C CI CU : Addr} {fd gdA gdT gdI gdU : FuncData} (F : Fun K "changed" "Table.changed" sTChanged f fd) (B : Blt mg) (T : TCls K C) (R : EInv K mg CI gI gdI) (U : EUnk K mg CU gU gdU)
    (DA : Dd K mg "is_address" sIsAddr ["text"] gA gdA) (GA : FnOk P w K mg base CX0 3 gA gdA ["text"] (spT isAddr))
    (MK : Mk K C gT) (gC : mg "Table" = some (.ref C)) (bT : Binds K gdT ["self", "rows"] []) (GT : FnOk P w K mg base (L2.CX P w) 4 gT gdT ["self", "rows"] (spInit C CI)) :
    FnOk P w K mg base (L2.CX P w) 6 f fd ["self", "prefix", "lane"] (spTChanged C CI CU) := by
  have GI : FnOk P w K mg base CX0 1 gI gdI ["self", "what"] (spErr K wWhat) := ok_inv R.M.F
  have GU : FnOk P w K mg base CX0 1 gU gdU ["self", "name"] (spErr K wName) := ok_unk U.M.F
  refine F.okX scTChanged (fun vs H Q E h => ?_) (fun cdv A outer s H vs Q E hr h => ?_)
  · obtain ⟨b, own, p, o, rfl, _⟩ := h
    rfl
  · obtain ⟨b, own, p, o, rfl, hT, hn, hp, ho, qI, qU, qT⟩ := h
    have hu := hu_of hr
    have hr2 : Room 2 _ := hr.mono (show 2 ≤ 5 by decide)
    have hr3 : Room 3 _ := hr.mono (show 3 ≤ 5 by decide)
    obtain ⟨dx, d, h1, h2⟩ := hT.ex
    refine ⟨_, pss_cons (ps_if (pt_not (pt_val (pe_call GA hr3 (by rfl) DA.g DA.F.kp DA.b .nil pass0 (pa_cons (pv 1) pa_nil))))
        (pss_one (ps_raise rfl (takes_of rfl rfl rfl rfl) (pmk_oex R.T.ox R.T.iC R.T.tI GI hr2 R.M.b .nil pass0 (by rfl) R.g (pa_cons pe_str pa_nil)))) pss_nil)
      (pss_cons (ps_set (i := 3) scTChanged.nd rfl (.inl rfl) (pe_callTy call_dictD (by rfl) B.dict PyProof.Rows.boot_dict (pa_cons (pe_fld (pv 0) (by rfl)) pa_nil)))
      (C8.pss_cut (ps_if (pt_cmp (pc_notN (pv 2))) (pss_one (ps_dput hu (pv 3) (pv 1) (pv 2) (by rfl)))
        (pss_one (ps_if (pt_cmp (pc_din hu (pv 1) (pv 3))) (pss_one (ps_ddel (pv 3) (pv 1))) (pss_one (ps_raise rfl (takes_of rfl rfl rfl rfl) (pmk_oex U.T.ox U.T.iC U.T.tI GU hr2 U.M.b .nil pass0 (by rfl) U.g (pa_cons (pv 1) pa_nil)))))))
      (pss_one (ps_ret (pe_make MK GT hr (by rfl) gC bT .nil (passes_call (takes_of rfl rfl rfl rfl) fun _ _ _ _ h => h) (pa_cons (LiI.pe_listItems rfl (pv 3) (by rfl) B.list PyProof.Rows.boot_list) pa_nil)))))), ?_⟩
    refine ⟨.str p, rfl, p, rfl, hp, fun H1 S1 => ⟨_, rfl, ?_⟩⟩
    cases eA : isAddr p with
    | false => exact ⟨by decide, err_made R.T (Q := E) fun e H4 S4 hd => qI (.inl eA) e H4 (S1.trans S4) hd⟩
    | true =>
    refine ⟨.ref b, rfl, b, C, dx, _, .ref d, rfl, S1 _ _ h1, T.c, T.no, lk1, d, _, rfl, .of (S1 _ _ h2), fun D nD => ?_⟩
    have S2 : Same H (upd H1 D (.dK (kvP (own.mergeSort le2)))) := S1.trans (same_upd nD)
    have HD : H D = none := by
      cases e : H D with
      | none => rfl
      | some z => rw [S1 _ _ e] at nD; cases nD
    refine ⟨fun σ' H' => σ' = [some (.ref b), some (.str p), some (oStr o), some (.ref D)] ∧ Same H H' ∧ H' D = some (.dK (kvP (aft (own.mergeSort le2) p o))) ∧ (o = none → p ∈ own.map Prod.fst), ?_, ?_⟩
    · cases o with
      | some l =>
        refine ⟨.str l, rfl, true, rfl, .str l, rfl, .ref D, rfl, .str p, rfl, D, _, rfl, DPut.k (k := Sum.inr p) upd_same ?_, rfl, fun c z hc => ?_, ?_, fun z => by (cases z)⟩
        · rw [kvP_len, len_sort]
          have hz : sizeLine = 16777216 := rfl
          omega
        · rw [upd_ne (ne_of_none hc HD)]
          exact S2 _ _ hc
        · rw [upd_same, put_kvP]
          rfl
      | none =>
        refine ⟨.non, rfl, false, rfl, .str p, rfl, .ref D, rfl, D, _, rfl, DGet.k (k := Sum.inr p) upd_same, _, rfl, ?_⟩
        cases eV : (valV (kvP (own.mergeSort le2)) (Sum.inr p)).isSome with
        | true =>
          have m : p ∈ own.map Prod.fst := ((List.mergeSort_perm own le2).map Prod.fst).mem_iff.mp ((valV_kvP p _).mp eV)
          refine ⟨.ref D, rfl, .str p, rfl, D, _, Sum.inr p, rfl, upd_same, rfl, eV, rfl, fun c z hc => ?_, ?_, fun _ => m⟩
          · rw [upd_ne (ne_of_none hc HD)]
            exact S2 _ _ hc
          · rw [upd_same, drop_kvP]
            rfl
        | false =>
          have m : p ∉ own.map Prod.fst := fun z => by
            have := (valV_kvP p _).mpr (((List.mergeSort_perm own le2).map Prod.fst).mem_iff.mpr z)
            rw [eV] at this
            cases this
          refine ⟨.str p, rfl, (by show 1 ≤ 1000; decide), err_made U.T (Q := E) fun e H4 S4 hd => qU eA rfl m e H4 (S2.trans S4) hd⟩
    · rintro σ' H' ⟨rfl, S3, hD, hm⟩
      refine ⟨.ref D, rfl, D, _, rfl, hD, fun H4 pr as S4 npr _ _ hpr hpd => ?_⟩
      obtain ⟨ts, e1, e2, e3⟩ := items_rows hpd
      have hl : ts.length ≤ 900 := by
        have e4 : ts.length = (aft (own.mergeSort le2) p o).length := by rw [← e2, List.length_map]
        have e5 := @aft_len (own.mergeSort le2) p o
        rw [len_sort] at e5
        omega
      have RA : RowsAt H4 pr true ts := ⟨by rw [hpr, ← e1, List.map_map]; rfl, e3, by omega, fun t ht => rows_z (good_sort.mpr hT.g) hp ho (by rw [← e2]; exact List.mem_map.mpr ⟨t, ht, rfl⟩)⟩
      have S5 : Same H H4 := S3.trans S4
      refine tab_made RA hl (fun g b' H5 S6 nb T5 => ?_) (fun g e H5 S6 he => ?_)
      · rw [e2] at g T5
        have ok := (aft_good (good_sort.mpr hT.g) eA).mp g
        exact qT eA ok hm b' H5 (S5.trans S6) (T5.perm (aft_perm (List.mergeSort_perm own le2) p o))
      · rw [e2] at g
        refine qI (.inr ?_) e H5 (S5.trans S6) he
        refine Classical.byContradiction fun n => g ((aft_good (good_sort.mpr hT.g) eA).mpr fun l el => ?_)
        cases e6 : isLane l with
        | true => rfl
        | false => exact absurd ⟨l, el, e6⟩ n
end
end Tb
namespace Tb
open PySem PySem.Spec PyProof.Rows L2
theorem cut_hi (xs : List V) (k : Nat) : cutV xs none (some (k : Int)) = xs.take k := by
  unfold cutV
  rw [HT.sIx_nat, HT.sIx_none, List.drop_zero, Nat.sub_zero]
  by_cases h : k ≤ xs.length
  · rw [Nat.min_eq_left h]
  · rw [Nat.min_eq_right (by omega), List.take_length, List.take_of_length_le (by omega)]
abbrev sBag : Stmt := topS 21
abbrev sDraw : Stmt := topS 22
theorem scBag : FnScope ["script", "cell"] ["script"] (defScope sBag) := ⟨rfl, rfl, rfl, by decide +kernel, rfl, by decide +kernel, by decide +kernel⟩
theorem scDraw : FnScope ["bag", "size", "cell", "digit", "mixed"] ["bag", "size"] (defScope sDraw) := ⟨rfl, rfl, rfl, by decide +kernel, rfl, by decide +kernel, by decide +kernel⟩
abbrev MM : Int := 2147483647
/-- the bag of the draws -/
def bagL (n c m : Int) (ns : List Int) : HO := .lst (.int n :: .int c :: .int m :: ns.map V.int)
def Bag (H : Hp) (p : Addr) : Prop := ∃ (n c m : Int) (ns : List Int), H p = some (bagL n c m ns) ∧ 0 ≤ c ∧ 0 ≤ m ∧ m < MM ∧ ns.length ≤ 63
theorem Bag.same {H H' : Hp} {p : Addr} (B : Bag H p) (h : Same H H') : Bag H' p := by
  obtain ⟨n, c, m, ns, hp, rest⟩ := B
  exact ⟨n, c, m, ns, h _ _ hp, rest⟩
section
variable {P : Program} {w : World} {K : PySem.W.Frag} {mg : Str → Option Value} {base : Heap}
def spBag (K : PySem.W.Frag) : Sp := fun vs H Q _ => ∃ (a : Addr) (ns : List Int), vs = [.ref a] ∧ SqL K H a (ns.map V.int) ∧ ∀ (p : Addr) (H' : Hp), Same H H' → H p = none → Bag H' p → Q (.ref p) H'
theorem ok_bag {f : Addr} {fd : FuncData} {k : Nat} (F : Fun K "_law_bag" "_law_bag" sBag f fd) (B : Blt mg) : FnOk P w K mg base CX0 (k + 1) f fd ["script"] (spBag K) := by
  refine F.ok scBag (fun vs H Q E h => ?_) (fun cdv A outer s H vs Q E hr h => ?_)
  · obtain ⟨a, ns, rfl, _⟩ := h
    rfl
  · obtain ⟨a, ns, rfl, hS, q⟩ := h
    refine ⟨_, pss_one (ps_ret (pe_op op_cat (pe_lst (pa_cons pe_int (pa_cons pe_int (pa_cons pe_int pa_nil))))
      (pe_lc (own := [("cell", 1)]) (g := gName 1) (by rfl) scBag.nd (pi_list (pe_slice sl_list (pv 0) po_none (po_some pe_int))) (blkOk_by (N := ["script", "cell"]) (sc := defScope sBag) (by decide +kernel)) (fun _ _ _ _ _ => pg_name (i := 1) scBag.nd rfl (Or.inl rfl)) (fun _ _ _ _ _ => pts_nil)
        (fun _ _ _ _ _ => pe_callTy call_int1 (by rfl) B.int PyProof.Rows.boot_int (pa_cons (pv 1) pa_nil))))), ?_⟩
    refine ⟨by show 3 ≤ sizeLine; decide, fun l nl => ?_⟩
    have S1 : Same H (upd H l (.lst [V.int 0, V.int 0, V.int 0])) := same_upd nl
    refine ⟨.ref a, rfl, 63, rfl, a, ns.map V.int, rfl, S1.seq hS, fun p np => ?_⟩
    refine ⟨p, rfl, ⟨_, sqOf upd_same⟩, fun D nD => ?_⟩
    have hl : (upd (upd H l (.lst [V.int 0, V.int 0, V.int 0])) p (.lst (cutV (ns.map V.int) none (some 63)))) l = some (.lst [V.int 0, V.int 0, V.int 0]) := by
      rw [upd_ne (ne_of_none upd_same np)]
      exact upd_same
    have e63 : cutV (ns.map V.int) none (some 63) = (ns.take 63).map V.int := (cut_hi (ns.map V.int) 63).trans List.map_take.symm
    have hp : (upd (upd H l (.lst [V.int 0, V.int 0, V.int 0])) p (.lst (cutV (ns.map V.int) none (some 63)))) p = some (.lst ((ns.take 63).map V.int)) := by rw [upd_same, e63]
    have S2 : Same H (upd (upd H l (.lst [V.int 0, V.int 0, V.int 0])) p (.lst (cutV (ns.map V.int) none (some 63)))) := S1.trans (same_upd np)
    have l63 : (ns.take 63).length ≤ 63 := by rw [List.length_take]; exact Nat.min_le_left _ _
    generalize ns.take 63 = ks at *
    generalize eH : upd (upd H l (.lst [V.int 0, V.int 0, V.int 0])) p (.lst (cutV (ns.map V.int) none (some 63))) = H2 at *
    refine lc_it (walk_list (a := p) (xs := cutV (ns.map V.int) none (some 63))) (fun i H' => Same H2 H' ∧ H' D = some (.lst ((ks.take i).map V.int))) ⟨same_upd nD, upd_same⟩ (fun i H' _ hP => sqOf (by rw [e63]; exact hP.1 _ _ hp)) (fun i v H3 H4 hi hP hy => ?_) (fun H3 hP => ?_)
    · obtain ⟨S3, hD⟩ := hP
      obtain ⟨rfl, ev⟩ := hy
      rw [e63, List.getElem?_map] at ev
      cases ek : ks[i]? with
      | none => rw [ek] at ev; cases ev
      | some k =>
      rw [ek] at ev
      cases (Option.some.inj ev)
      refine ⟨rfl, .int k, rfl, .inl ⟨k, rfl, _, hD, ?_, fun b o hb => by rw [upd_ne (ne_of_none hb nD)]; exact S3 _ _ hb, ?_⟩⟩
      · rw [List.length_map, List.length_take]
        have hz : sizeLine = 16777216 := rfl
        omega
      · rw [upd_same, List.take_add_one, ek, List.map_append]
        rfl
    · obtain ⟨S3, hD⟩ := hP
      rw [e63, List.length_map, List.take_length] at hD
      refine ⟨l, D, _, _, rfl, rfl, S3 _ _ hl, hD, ?_, fun r nr => ?_⟩
      · rw [List.length_map]
        show 3 + ks.length ≤ sizeLine
        have hz : sizeLine = 16777216 := rfl
        omega
      · refine q r _ ((S2.trans S3).trans (same_upd nr)) ((S2.trans S3).free nr) ⟨0, 0, 0, ks, ?_, by decide, by decide, by decide, l63⟩
        rw [upd_same]
        rfl
theorem ixN_nat' {n j : Nat} (hj : j < n) : ixN n (j : Int) = some j := by
  unfold ixN
  rw [if_pos (by omega), if_pos (by omega)]
  rfl
theorem ix0 {a b c : V} {xs : List V} : ixN (a :: b :: c :: xs).length 0 = some 0 := ixN_nat' (n := (a :: b :: c :: xs).length) (j := 0) (by simp)
theorem ix1 {a b c : V} {xs : List V} : ixN (a :: b :: c :: xs).length 1 = some 1 := ixN_nat' (n := (a :: b :: c :: xs).length) (j := 1) (by simp)
theorem ix2 {a b c : V} {xs : List V} : ixN (a :: b :: c :: xs).length 2 = some 2 := ixN_nat' (n := (a :: b :: c :: xs).length) (j := 2) (by simp)
theorem six3 {a b c d : V} {xs : List V} : seqIndex? 3 (a :: b :: c :: d :: xs).length = some 3 := (ixN_seq (ixN_nat' (n := (a :: b :: c :: d :: xs).length) (j := 3) (by simp))).1
/-- `size` at least 1 -/
def spDraw : Sp := fun vs H Q _ => ∃ (p : Addr) (n : Int), vs = [.ref p, .int n] ∧ Bag H p ∧ 0 < n ∧ n < 2 ^ 60 ∧ ∀ (z : Int) (H' : Hp), 0 ≤ z → z < n → Bag H' p → But p H H' → Q (.int z) H'
theorem ok_draw {f : Addr} {fd : FuncData} {k : Nat} (F : Fun K "_law_draw" "_law_draw" sDraw f fd) (B : Blt mg) : FnOk P w K mg base CX0 (k + 1) f fd ["bag", "size"] spDraw := by
  refine F.ok scDraw (fun vs H Q E h => ?_) (fun cdv A outer s H vs Q E hr h => ?_)
  · obtain ⟨p, n, rfl, _⟩ := h
    rfl
  · obtain ⟨p, sz, rfl, hB, hn0, hn, q⟩ := h
    obtain ⟨n, c, m, ns, hp, c0, m0, m1, l63⟩ := hB
    have hz : sizeLine = 16777216 := rfl
    refine ⟨_, pss_cons (ps_asg (pe_op op_add (pe_ix ix_list (pv 0) pe_int (fun _ _ => rfl)) pe_int) (pg_sub (pv 0) pe_int set_list))
      (C8.pss_cut (ps_if (PW.pt (pw_and (pt_cmp (pc_eqI (pe_ix ix_list (pv 0) pe_int (fun _ _ => rfl)) pe_int)) (pw_and1 (pt_cmpR op_gt (pe_callB call_len_seq (by rfl) B.len PySem.boot_len (pa_cons (pv 0) pa_nil)) pe_int (nomark _)))))
        (pss_cons (ps_set (i := 2) scDraw.nd rfl (.inl rfl) (pe_bm PySem.F.plainAttrs_list PySem.F.slot_list_pop PySem.F.type_list_pop mt_popAt (pv 0) (pa_cons pe_int pa_nil)))
        (pss_cons (ps_asg (pe_op op_mod (pe_callTy call_int1 (by rfl) B.int PyProof.Rows.boot_int (pa_cons (pe_op op_add (pe_op op_add (pe_op op_mul (pe_ix ix_list (pv 0) pe_int (fun _ _ => rfl)) pe_int) (pv 2)) pe_int) pa_nil)) pe_int) (pg_sub (pv 0) pe_int set_list))
        (pss_one (ps_if (pt_cmpR op_ge (pv 2) (pe_op op_pow pe_int pe_int) (nomark _)) (pss_one (ps_asg (pv 2) (pg_sub (pv 0) pe_int set_list))) pss_nil)))) pss_nil)
      (pss_cons (ps_if (pt_cmpR op_gt (pe_ix ix_list (pv 0) pe_int (fun _ _ => rfl)) pe_int (nomark _))
        (pss_cons (ps_set (i := 3) scDraw.nd rfl (.inl rfl) (pe_op op_mod (pe_callTy call_int1 (by rfl) B.int PyProof.Rows.boot_int (pa_cons (pe_ix ix_list (pv 0) pe_int (fun _ _ => rfl)) pa_nil)) (pv 1)))
        (pss_cons (ps_asg (pe_op op_fdivW (pe_ix ix_list (pv 0) pe_int (fun _ _ => rfl)) (pv 1)) (pg_sub (pv 0) pe_int set_list))
        (pss_one (ps_ret (pv 3))))) pss_nil)
      (pss_cons (ps_set (i := 4) scDraw.nd rfl (.inl rfl) (pe_op op_mod (pe_callTy call_int1 (by rfl) B.int PyProof.Rows.boot_int (pa_cons (pe_op op_add (pe_op op_add (pe_op op_mul (pe_ix ix_list (pv 0) pe_int (fun _ _ => rfl)) pe_int) (pe_op op_mul (pe_ix ix_list (pv 0) pe_int (fun _ _ => rfl)) pe_int)) pe_int) pa_nil)) pe_int))
      (pss_cons (ps_set (i := 4) scDraw.nd rfl (.inl rfl) (pe_op op_mod (pe_callTy call_int1 (by rfl) B.int PyProof.Rows.boot_int (pa_cons (pe_op op_add (pe_op op_fdiv (pe_op op_mul (pv 4) (pv 4)) pe_int) (pe_op op_mul (pv 4) pe_int)) pa_nil)) pe_int))
      (pss_one (ps_ret (pe_op op_mod (pe_callTy call_int1 (by rfl) B.int PyProof.Rows.boot_int (pa_cons (pe_op op_fdiv (pv 4) pe_int) pa_nil)) (pv 1)))))))), ?_⟩
    -- bag[0] = bag[0] + 1
    refine ⟨.ref p, rfl, p, _, 0, .int n, rfl, rfl, sqOf hp, atI_nat (j := 0) rfl, n, 1, rfl, rfl, .ref p, rfl, p, _, 0, 0, rfl, rfl, hp, ix0, ?_⟩
    have B1 : But p H (upd H p (bagL (n + 1) c m ns)) := But.upd
    have hp1 : (upd H p (bagL (n + 1) c m ns)) p = some (bagL (n + 1) c m ns) := upd_same
    show ∃ Mid : L2.St → Hp → Prop, _ ∧ _
    refine ⟨fun σ' H' => ∃ (y : Option V) (n c m : Int) (ns : List Int), σ' = [some (.ref p), some (.int sz), y, none, none] ∧ H' p = some (bagL n c m ns) ∧ 0 ≤ c ∧ 0 ≤ m ∧ m < MM ∧ ns.length ≤ 63 ∧ But p H H', ?_, ?_⟩
    · change tIfS _ _ _ _ _ (upd H p (bagL (n + 1) c m ns))
      generalize upd H p (bagL (n + 1) c m ns) = H1 at B1 hp1
      refine ⟨.ref p, rfl, p, _, 1, .int c, rfl, rfl, sqOf hp1, atI_nat (j := 1) rfl, c, 0, rfl, rfl, _, rfl, ite2 (fun e1 => ?_) (fun e1 => ?_)⟩
      · refine ⟨.ref p, rfl, p, _, rfl, .inl (sqOf hp1), _, 3, rfl, rfl, _, rfl, ite2 (fun e2 => ?_) (fun e2 => ?_)⟩
        · cases ns with
          | nil => exact absurd (of_decide_eq_true e2) (by simp)
          | cons k ks =>
          have lk : ks.length ≤ 63 := Nat.le_of_succ_le l63
          refine ⟨.ref p, rfl, .inl ⟨rfl, _, sqOf hp1⟩, p, _, 3, 3, .int k, rfl, rfl, hp1, by decide, by decide, six3, rfl, ?_⟩
          refine ⟨.ref p, rfl, p, V.int (n + 1) :: V.int c :: V.int m :: ks.map V.int, 2, .int m, rfl, rfl, sqOf upd_same, atI_nat (j := 2) rfl, m, 48271, rfl, rfl, .inr ⟨by decide, by decide⟩, .int k, rfl, _, _, rfl, rfl, _, _, rfl, rfl, .inl ⟨_, rfl, _, MM, rfl, rfl, (by show (0 : Int) < MM; decide), .ref p, rfl, p, V.int (n + 1) :: V.int c :: V.int m :: ks.map V.int, 2, 2, rfl, rfl, upd_same, ix2, ?_⟩⟩
          have z0 : 0 ≤ (m * 48271 + k + 11) % MM := Int.emod_nonneg _ (by decide)
          have z1 : (m * 48271 + k + 11) % MM < MM := Int.emod_lt_of_pos _ (by decide)
          refine ⟨.int k, rfl, 10, 18, rfl, rfl, ⟨by decide, by decide, by decide⟩, k, _, rfl, rfl, _, rfl, ite2 (fun e3 => ?_) (fun e3 => ?_)⟩
          · have h1 : (10 : Int) ^ (18 : Int).toNat ≤ k := of_decide_eq_true e3
            have h0 : (0 : Int) ≤ (10 : Int) ^ (18 : Int).toNat := by decide
            refine ⟨.int k, rfl, .ref p, rfl, p, V.int (n + 1) :: V.int c :: V.int ((m * 48271 + k + 11) % MM) :: ks.map V.int, 1, 1, rfl, rfl, upd_same, ix1, ?_⟩
            exact ⟨some (.int k), n + 1, k, _, ks, rfl, upd_same, by omega, z0, z1, lk, ((B1.trans But.upd).trans But.upd).trans But.upd⟩
          · exact ⟨some (.int k), n + 1, c, _, ks, rfl, upd_same, c0, z0, z1, lk, (B1.trans But.upd).trans But.upd⟩
        · exact ⟨none, n + 1, c, m, ns, rfl, hp1, c0, m0, m1, l63, B1⟩
      · exact ⟨none, n + 1, c, m, ns, rfl, hp1, c0, m0, m1, l63, B1⟩
    · rintro σ' H2 ⟨y, n, c, m, ns, rfl, hp, c0, m0, m1, l63, B2⟩
      have hn9 : sz.natAbs < 2 ^ 61 := by omega
      refine ⟨.ref p, rfl, p, _, 1, .int c, rfl, rfl, sqOf hp, atI_nat (j := 1) rfl, c, 0, rfl, rfl, _, rfl, ite2 (fun e2 => ?_) (fun e2 => ?_)⟩
      · refine ⟨.ref p, rfl, p, _, 1, .int c, rfl, rfl, sqOf hp, atI_nat (j := 1) rfl, .inl ⟨_, rfl, .int sz, rfl, _, _, rfl, rfl, (by show (0 : Int) < sz; omega), ?_⟩⟩
        refine ⟨.ref p, rfl, p, _, 1, .int c, rfl, rfl, sqOf hp, atI_nat (j := 1) rfl, .int sz, rfl, c, sz, rfl, rfl, wide_div (by omega) hn9 (by decide) (by decide), .ref p, rfl, p, _, 1, 1, rfl, rfl, hp, ix1, ?_⟩
        exact ⟨_, rfl, q _ _ (Int.emod_nonneg _ (by omega)) (Int.emod_lt_of_pos _ (by omega)) ⟨n, c / sz, m, ns, upd_same, Int.ediv_nonneg c0 (by omega), m0, m1, l63⟩ (B2.trans But.upd)⟩
      · refine ⟨.ref p, rfl, p, _, 2, .int m, rfl, rfl, sqOf hp, atI_nat (j := 2) rfl, m, 69621, rfl, rfl, .inr ⟨by decide, by decide⟩, .ref p, rfl, p, _, 0, .int n, rfl, rfl, sqOf hp, atI_nat (j := 0) rfl, n, 40692, rfl, rfl, .inr ⟨by decide, by decide⟩, _, _, rfl, rfl, _, 7, rfl, rfl, .inl ⟨_, rfl, _, 2147483399, rfl, rfl, (by show (0 : Int) < 2147483399; decide), ?_⟩⟩
        have x0 : 0 ≤ (m * 69621 + n * 40692 + 7) % 2147483399 := Int.emod_nonneg _ (by decide)
        have x1 : (m * 69621 + n * 40692 + 7) % 2147483399 < 2147483399 := Int.emod_lt_of_pos _ (by decide)
        show tSeq _ _ _ ([some (.ref p), some (.int sz), y, none, some (.int ((m * 69621 + n * 40692 + 7) % 2147483399))] : L2.St) _
        generalize (m * 69621 + n * 40692 + 7) % 2147483399 = x at x0 x1
        refine ⟨.int x, rfl, .int x, rfl, x, x, rfl, rfl, .inl ⟨by omega, by omega⟩, _, 65537, rfl, rfl, ⟨by decide, by decide⟩, .int x, rfl, x, 48271, rfl, rfl, .inr ⟨by decide, by decide⟩, _, _, rfl, rfl, .inl ⟨_, rfl, _, MM, rfl, rfl, (by show (0 : Int) < MM; decide), ?_⟩⟩
        exact ⟨.int ((x * x / 65537 + x * 48271) % MM), rfl, _, 32, rfl, rfl, ⟨by decide, by decide⟩, .inl ⟨_, rfl, .int sz, rfl, _, _, rfl, rfl, (by show (0 : Int) < sz; omega), q _ _ (Int.emod_nonneg _ (by omega)) (Int.emod_lt_of_pos _ (by omega)) ⟨n, c, m, ns, hp, c0, m0, m1, l63⟩ B2⟩⟩
end
end Tb
namespace Tb
open PySem PySem.Spec PyProof.Rows L2
/-! ### texts by their signs -/
abbrev tl (z : Str) : List Nat := z.cps.toList
theorem len_tl (z : Str) : z.length = (tl z).length := (Array.length_toList).symm
theorem tl_one (c : Nat) : tl ⟨#[c]⟩ = [c] := rfl
theorem tl_app (a b : Str) : tl (a ++ b) = tl a ++ tl b := by
  show (a.cps ++ b.cps).toList = _
  rw [Array.toList_append]
theorem tl_hi (z : Str) (k : Nat) : tl (cutS z none (some (k : Int))) = (tl z).take k := by
  show ((z.cps.toList.drop (HT.sIx z.length 0 none)).take (HT.sIx z.length z.length (some (k : Int)) - HT.sIx z.length 0 none)).toArray.toList = _
  rw [List.toList_toArray, HT.sIx_nat, HT.sIx_none, List.drop_zero, Nat.sub_zero]
  by_cases h : k ≤ z.length
  · rw [Nat.min_eq_left h]
  · have : z.cps.toList.length = z.length := Array.length_toList
    rw [Nat.min_eq_right (by omega), ← this, List.take_length, List.take_of_length_le (by show z.cps.toList.length ≤ k; omega)]
theorem tl_lo (z : Str) (k : Nat) : tl (cutS z (some (k : Int)) none) = (tl z).drop k := by
  show ((z.cps.toList.drop (HT.sIx z.length 0 (some (k : Int)))).take (HT.sIx z.length z.length none - HT.sIx z.length 0 (some (k : Int)))).toArray.toList = _
  have e0 : z.cps.toList.length = z.length := Array.length_toList
  have e1 : HT.sIx z.length 0 (some (k : Int)) = min k z.length := HT.sIx_nat _ _ _
  rw [List.toList_toArray, e1, HT.sIx_none]
  have e2 : z.cps.toList.drop (min k z.length) = z.cps.toList.drop k := by
    by_cases h : k ≤ z.length
    · rw [Nat.min_eq_left h]
    · rw [Nat.min_eq_right (by omega), List.drop_eq_nil_of_le (by omega), List.drop_eq_nil_of_le (by omega)]
  rw [e2, List.take_of_length_le (by rw [List.length_drop]; omega)]
theorem tl_inj {a b : Str} (h : tl a = tl b) : a = b := by
  cases a; cases b
  congr 1
  exact Array.ext' h
def Sg (z : Str) : Prop := ∀ c ∈ tl z, c < 1114112
structure Tx (z : Str) : Prop where
  len : z.length ≤ 100
  sg : Sg z
def Nm (l : List Nat) : Prop := l.length ≤ 12 ∧ (∀ d ∈ l, isIn (letters ++ digits) d = true) ∧ ∃ c, l[0]? = some c ∧ isIn letters c = true
def Ad (l : List Nat) : Prop := 1 ≤ l.length ∧ l.length ≤ 8 ∧ ∀ d ∈ l, isIn digits d = true
theorem isName_iff (t : Str) : isName t = true ↔ Nm (tl t) := by
  have e0 : t.cps.toList.length = t.length := Array.length_toList
  unfold isName made Nm
  rw [Bool.and_eq_true, Bool.and_eq_true, Bool.and_eq_true, List.all_eq_true, decide_eq_true_eq, decide_eq_true_eq, ← Array.getElem?_toList]
  constructor
  · rintro ⟨⟨⟨h1, h2⟩, h3⟩, h4⟩
    refine ⟨by show t.cps.toList.length ≤ 12; omega, h3, ?_⟩
    cases e : t.cps.toList[0]? with
    | none => rw [e] at h4; cases h4
    | some c => rw [e] at h4; exact ⟨c, rfl, h4⟩
  · rintro ⟨h1, h2, c, h3, h4⟩
    have h1 : t.cps.toList.length ≤ 12 := h1
    have h3 : t.cps.toList[0]? = some c := h3
    have := (List.getElem?_eq_some_iff.mp h3).1
    rw [h3]
    exact ⟨⟨⟨by omega, by omega⟩, h2⟩, h4⟩
theorem isAddr_iff (t : Str) : isAddr t = true ↔ Ad (tl t) := by
  have e0 : t.cps.toList.length = t.length := Array.length_toList
  unfold isAddr made Ad
  rw [Bool.and_eq_true, Bool.and_eq_true, List.all_eq_true, decide_eq_true_eq, decide_eq_true_eq]
  constructor
  · rintro ⟨⟨h1, h2⟩, h3⟩
    exact ⟨by show 1 ≤ t.cps.toList.length; omega, by show t.cps.toList.length ≤ 8; omega, h3⟩
  · rintro ⟨h1, h2, h3⟩
    have h1 : 1 ≤ t.cps.toList.length := h1
    have h2 : t.cps.toList.length ≤ 8 := h2
    exact ⟨⟨by omega, by omega⟩, h3⟩
theorem in_lt {s : Str} (hs : (tl s).all (fun c => decide (c < 1114112)) = true) {c : Nat} (h : isIn s c = true) : c < 1114112 :=
  of_decide_eq_true (List.all_eq_true.mp hs c (of_decide_eq_true h))
theorem nm_tx {t : Str} (h : Nm (tl t)) : Tx t :=
  ⟨by rw [len_tl]; have := h.1; omega, fun c hc => in_lt (by decide +kernel) (h.2.1 c hc)⟩
theorem ad_tx {t : Str} (h : Ad (tl t)) : Tx t :=
  ⟨by rw [len_tl]; have := h.2.1; omega, fun c hc => in_lt (by decide +kernel) (h.2.2 c hc)⟩
/-- a sign put in the place -/
def rep (l : List Nat) (s d : Nat) : List Nat := l.take s ++ [d] ++ l.drop (s + 1)
theorem rep_len {l : List Nat} {s d : Nat} (h : s < l.length) : (rep l s d).length = l.length := by
  unfold rep
  rw [List.length_append, List.length_append, List.length_take, List.length_drop, List.length_singleton]
  omega
theorem rep_mem {l : List Nat} {s d e : Nat} (h : e ∈ rep l s d) : e ∈ l ∨ e = d := by
  unfold rep at h
  rcases List.mem_append.mp h with h | h
  · rcases List.mem_append.mp h with h | h
    · exact .inl (List.mem_of_mem_take h)
    · exact .inr (List.mem_singleton.mp h)
  · exact .inl (List.mem_of_mem_drop h)
theorem rep_head {l : List Nat} {s d : Nat} (h : s < l.length) : (rep l s d)[0]? = if s = 0 then some d else l[0]? := by
  unfold rep
  cases s with
  | zero => rfl
  | succ s =>
    cases l with
    | nil => cases h
    | cons a l => rfl
theorem rep_tl (t : Str) (s d : Nat) : tl ((cutS t none (some (s : Int)) ++ ⟨#[d]⟩) ++ cutS t (some ((s : Int) + 1)) none) = rep (tl t) s d := by
  rw [tl_app, tl_app, tl_hi, show ((s : Int) + 1) = ((s + 1 : Nat) : Int) from rfl, tl_lo]
  rfl
theorem nm_rep {l : List Nat} {s d : Nat} (h : Nm l) (hs : s < l.length) (hd : isIn (letters ++ digits) d = true) (h0 : s = 0 → isIn letters d = true) : Nm (rep l s d) := by
  obtain ⟨h1, h2, c, h3, h4⟩ := h
  refine ⟨by rw [rep_len hs]; exact h1, fun e he => ?_, ?_⟩
  · rcases rep_mem he with he | rfl
    · exact h2 e he
    · exact hd
  · rw [rep_head hs]
    by_cases e : s = 0
    · exact ⟨d, by rw [if_pos e], h0 e⟩
    · exact ⟨c, by rw [if_neg e]; exact h3, h4⟩
theorem ad_rep {l : List Nat} {s d : Nat} (h : Ad l) (hs : s < l.length) (hd : isIn digits d = true) : Ad (rep l s d) := by
  obtain ⟨h1, h2, h3⟩ := h
  refine ⟨by rw [rep_len hs]; exact h1, by rw [rep_len hs]; exact h2, fun e he => ?_⟩
  rcases rep_mem he with he | rfl
  · exact h3 e he
  · exact hd
abbrev LD : Str := (("abcdefghijklmnopqrstuvwxyz0123456789" : String) : Str)
theorem ld_len : (LD.length : Int) = 36 := by decide +kernel
theorem ld_any {n c : Nat} (h : LD.cps[n]? = some c) : isIn (letters ++ digits) c = true := by
  have k : ∀ m : Fin 36, isIn (letters ++ digits) (LD.cps[m.val]?.getD 0) = true := by decide +kernel
  have hl : n < 36 := by
    have := (Array.getElem?_eq_some_iff.mp h).1
    have e : LD.cps.size = 36 := by decide +kernel
    omega
  have := k ⟨n, hl⟩
  rw [h] at this
  exact this
theorem ld_lo {n c : Nat} (h : LD.cps[n]? = some c) (hn : n < 26) : isIn letters c = true := by
  have k : ∀ m : Fin 26, isIn letters (LD.cps[m.val]?.getD 0) = true := by decide +kernel
  have := k ⟨n, hn⟩
  rw [h] at this
  exact this
theorem dg_any {n c : Nat} (h : digits.cps[n]? = some c) : isIn digits c = true := decide_eq_true (by
  rw [Array.mem_toList_iff]
  exact Array.mem_of_getElem? h)
theorem dg_len : (digits.length : Int) = 10 := by decide +kernel
theorem at_sign {z : Str} {i : Int} (h : i < z.length) (h0 : 0 ≤ i) : ∃ c, z.cps[i.toNat]? = some c := by
  have : i.toNat < z.cps.size := by
    show i.toNat < z.length
    omega
  exact ⟨_, Array.getElem?_eq_getElem this⟩
theorem nm_app {l m : List Nat} (h : Nm l) (hm : ∀ d ∈ m, isIn (letters ++ digits) d = true) (hl : l.length + m.length ≤ 12) : Nm (l ++ m) := by
  obtain ⟨h1, h2, c, h3, h4⟩ := h
  refine ⟨by rw [List.length_append]; exact hl, fun e he => ?_, c, ?_, h4⟩
  · rcases List.mem_append.mp he with he | he
    · exact h2 e he
    · exact hm e he
  · rw [List.getElem?_append_left (List.getElem?_eq_some_iff.mp h3).1]
    exact h3
theorem nm_take {l : List Nat} (h : Nm l) {k : Nat} (hk : 0 < k) : Nm (l.take k) := by
  obtain ⟨h1, h2, c, h3, h4⟩ := h
  refine ⟨by rw [List.length_take]; omega, fun e he => h2 e (List.mem_of_mem_take he), c, ?_, h4⟩
  rw [List.getElem?_take, if_pos hk]
  exact h3
theorem nm_pos {l : List Nat} (h : Nm l) : 0 < l.length := by
  obtain ⟨_, _, c, h3, _⟩ := h
  exact (List.getElem?_eq_some_iff.mp h3).1
theorem num100 {k : Nat} (h : k < 100) : (tl (Str.ofString (toString (k : Int)))).length ≤ 2 ∧ ∀ d ∈ tl (Str.ofString (toString (k : Int))), isIn (letters ++ digits) d = true := by
  have k1 : ∀ m : Fin 100, (decide ((tl (Str.ofString (toString (m.val : Int)))).length ≤ 2) && (tl (Str.ofString (toString (m.val : Int)))).all (isIn (letters ++ digits))) = true := by decide +kernel
  have := k1 ⟨k, h⟩
  rw [Bool.and_eq_true, List.all_eq_true] at this
  exact ⟨of_decide_eq_true this.1, this.2⟩
end Tb
namespace Tb
open PySem PySem.Spec PyProof.Rows L2
abbrev sFresh : Stmt := topS 23
abbrev NF8 : List Str := ["bag", "known", "letters", "text", "spot", "sign", "size", "k", "base"]
theorem scFresh : FnScope NF8 ["bag", "known"] (defScope sFresh) := ⟨rfl, rfl, rfl, by decide +kernel, rfl, by decide +kernel, by decide +kernel⟩
/-- a list of texts -/
structure Txs (H : Hp) (l : Addr) (ks : List Str) : Prop where
  l : H l = some (.lst (ks.map V.str))
  n : ks.length ≤ 100
  t : ∀ x ∈ ks, Tx x
theorem Txs.off {H : Hp} {l p : Addr} {ks : List Str} (T : Txs H l ks) (B : Bag H p) : l ≠ p := fun e => by
  obtain ⟨n, c, m, ns, hp, _⟩ := B
  have h := T.l
  rw [e, hp] at h
  have e2 : V.int n :: V.int c :: V.int m :: ns.map V.int = ks.map V.str := HO.lst.inj (Option.some.inj h)
  cases ks with
  | nil => cases e2
  | cons k ks => cases e2
theorem Txs.but {H H' : Hp} {l p : Addr} {ks : List Str} (T : Txs H l ks) (B : Bag H p) (h : But p H H') : Txs H' l ks := ⟨h _ _ T.l (T.off B), T.n, T.t⟩
theorem Txs.same {H H' : Hp} {l : Addr} {ks : List Str} (T : Txs H l ks) (h : Same H H') : Txs H' l ks := ⟨h _ _ T.l, T.n, T.t⟩
theorem dp_strs {K : PySem.W.Frag} {H : Hp} : ∀ ks : List Str, DpAll K H (ks.map V.str) (ks.map PyData.str)
  | [] => .nil
  | k :: ks => .cons (.str k) (dp_strs ks)
theorem strOk_sg {z : Str} (h : Sg z) : PySem.PyData.strOk z = true := by
  unfold PySem.PyData.strOk
  rw [Array.all_eq_true']
  intro c hc
  exact decide_eq_true (h c (Array.mem_toList_iff.mpr hc))
theorem lay_strs : ∀ {ks : List Str}, (∀ x ∈ ks, Tx x) → PyData.canLayAll0 (ks.map PyData.str) = true ∧ PyData.depthAll (ks.map PyData.str) ≤ 1
  | [], _ => by simp [PyData.canLayAll0, PyData.depthAll]
  | k :: ks, h => by
    obtain ⟨b1, b2⟩ := lay_strs (ks := ks) fun q hq => h q (List.mem_cons_of_mem _ hq)
    have a1 := strOk_sg (h k List.mem_cons_self).sg
    refine ⟨?_, ?_⟩
    · simp only [List.map_cons, PyData.canLayAll0, PyData.canLay0, a1, b1, Bool.and_true]
    · simp only [List.map_cons, PyData.depthAll, PyData.depth]
      omega
theorem shaped_strs {ks : List Str} (h : ∀ x ∈ ks, Tx x) : SeqAt.shaped (.list (ks.map PyData.str)) = true := by
  obtain ⟨h1, h2⟩ := lay_strs h
  show (PyData.canLay0 (.list (ks.map PyData.str)) && decide (PyData.depth (.list (ks.map PyData.str)) ≤ 64)) = true
  rw [Bool.and_eq_true]
  refine ⟨by simp only [PyData.canLay0]; exact h1, decide_eq_true ?_⟩
  simp only [PyData.depth]
  omega
theorem eqv_nil {ds : List PyData} : PyData.eqv (.list ds) (.list []) = ds.isEmpty := by
  cases ds <;> simp [PyData.eqv, PyData.eqvAll]
theorem flat_strs (ks : List Str) : (ks.map V.str).all flatV = true := by
  rw [List.all_map, List.all_eq_true]
  exact fun _ _ => rfl
/-- draws that leave the rest -/
abbrev Drawn (p : Addr) (H H' : Hp) : Prop := Bag H' p ∧ But p H H'
theorem ifS_via {tc : TT} {t u : TS} {D : Ends} {σ : L2.St} {H : Hp} (R : Bool → Hp → Prop) (h : ∀ Q : Bool → Hp → Prop, (∀ b H1, R b H1 → Q b H1) → tc σ H Q) (k : ∀ b H1, R b H1 → (if b = true then t D σ H1 else u D σ H1)) : tIfS tc t u D σ H := h _ k
theorem at_nat {α : Type} {xs : List α} {i : Int} {v : α} (h0 : 0 ≤ i) (h : xs[i.toNat]? = some v) : atI xs i = some v := by
  have e : i = (i.toNat : Int) := by omega
  rw [e]
  exact atI_nat h
theorem pick {ks : List Str} {i : Int} (h0 : 0 ≤ i) (h1 : i < ((ks.map V.str).length : Int)) : ∃ x ∈ ks, atI (ks.map V.str) i = some (V.str x) := by
  rw [List.length_map] at h1
  have hl : i.toNat < ks.length := by omega
  refine ⟨ks[i.toNat], List.getElem_mem hl, at_nat h0 ?_⟩
  rw [List.getElem?_map, List.getElem?_eq_getElem hl]
  rfl
theorem app_len (a b : Str) : (a ++ b).length = a.length + b.length := by
  rw [len_tl, tl_app, List.length_append, ← len_tl, ← len_tl]
theorem one_len (c : Nat) : (⟨#[c]⟩ : Str).length = 1 := rfl
theorem cut_le (z : Str) (lo hi : Option Int) : (cutS z lo hi).length ≤ z.length := cutS_length z lo hi
section
variable {P : Program} {w : World} {K : PySem.W.Frag} {mg : Str → Option Value} {base : Heap}
def spFresh : Sp := fun vs H Q _ => ∃ (p l : Addr) (ks : List Str), vs = [.ref p, .ref l] ∧ Bag H p ∧ Txs H l ks ∧ (∀ x ∈ ks, Nm (tl x)) ∧ ∀ (z : Str) (H' : Hp), Nm (tl z) → Bag H' p → But p H H' → Q (.str z) H'
theorem ok_fresh {f g : Addr} {fd gd : FuncData} (F : Fun K "_law_fresh_name" "_law_fresh_name" sFresh f fd) (D : Dd K mg "_law_draw" sDraw ["bag", "size"] g gd) (B : Blt mg) : FnOk P w K mg base CX0 2 f fd ["bag", "known"] spFresh := by
  have GD : FnOk P w K mg base CX0 1 g gd ["bag", "size"] spDraw := ok_draw D.F B
  refine F.ok scFresh (fun vs H Q E h => ?_) (fun cdv A outer s H vs Q E hr h => ?_)
  · obtain ⟨p, l, ks, rfl, _⟩ := h
    rfl
  · obtain ⟨p, l, ks, rfl, hB, hT, hN, q⟩ := h
    have hz : sizeLine = 16777216 := rfl
    refine ⟨_, pss_cons (ps_set (i := 2) scFresh.nd rfl (.inl rfl) pe_str)
      (C8.pss_cut (ps_if (PW.pt (pw_and (pt_cmpR (op_neD hr.units) (pv 1) (pe_lst pa_nil) (nomark _)) (pw_and1 (pt_cmpR op_eq (pe_call GD hr (by rfl) D.g D.F.kp D.b .nil pass0 (pa_cons (pv 0) (pa_cons pe_int pa_nil))) pe_int (nomark _)))))
        (pss_cons (ps_set (i := 3) scFresh.nd rfl (.inl rfl) (pe_ix ix_list (pv 1) (pe_call GD hr (by rfl) D.g D.F.kp D.b .nil pass0 (pa_cons (pv 0) (pa_cons (pe_callB call_len_seq (by rfl) B.len PySem.boot_len (pa_cons (pv 1) pa_nil)) pa_nil))) (fun _ _ => rfl)))
        (pss_cons (ps_set (i := 4) scFresh.nd rfl (.inl rfl) (pe_call GD hr (by rfl) D.g D.F.kp D.b .nil pass0 (pa_cons (pv 0) (pa_cons (pe_callB call_len_str (by rfl) B.len PySem.boot_len (pa_cons (pv 3) pa_nil)) pa_nil))))
        (pss_cons (ps_set (i := 5) scFresh.nd rfl (.inl rfl) (pe_item_str (pv 2) (pe_call GD hr (by rfl) D.g D.F.kp D.b .nil pass0 (pa_cons (pv 0) (pa_cons (pe_op op_add pe_int (pe_op op_mul pe_int (pe_callTy call_int1 (by rfl) B.int PyProof.Rows.boot_int (pa_cons (pe_cmpR op_gt (pv 4) pe_int (nomark _)) pa_nil)))) pa_nil))) (fun _ _ => rfl)))
        (pss_one (ps_set (i := 3) scFresh.nd rfl (.inl rfl) (pe_op op_add_str (pe_op op_add_str (pe_slice sl_str (pv 3) po_none (po_some (pv 4))) (pv 5)) (pe_slice sl_str (pv 3) (po_some (pe_op op_add (pv 4) pe_int)) po_none)))))))
        (pss_cons (ps_set (i := 6) scFresh.nd rfl (.inl rfl) (pe_op op_add pe_int (pe_call GD hr (by rfl) D.g D.F.kp D.b .nil pass0 (pa_cons (pv 0) (pa_cons pe_int pa_nil)))))
        (C8.pss_cut (ps_if (pt_cmpR op_eq (pe_call GD hr (by rfl) D.g D.F.kp D.b .nil pass0 (pa_cons (pv 0) (pa_cons pe_int pa_nil))) pe_int (nomark _)) (pss_one (ps_set (i := 6) scFresh.nd rfl (.inl rfl) (pe_op op_add pe_int (pe_call GD hr (by rfl) D.g D.F.kp D.b .nil pass0 (pa_cons (pv 0) (pa_cons pe_int pa_nil)))))) pss_nil)
        (pss_cons (ps_set (i := 3) scFresh.nd rfl (.inl rfl) (pe_item_str (pv 2) (pe_call GD hr (by rfl) D.g D.F.kp D.b .nil pass0 (pa_cons (pv 0) (pa_cons pe_int pa_nil))) (fun _ _ => rfl)))
        (pss_one (ps_for PassesOwn.never rfl (pi_range1 (by rfl) B.range (pa_cons (pe_op op_sub (pv 6) pe_int) pa_nil)) (pg_name (i := 7) scFresh.nd rfl (.inl rfl)) (pss_one (ps_set (i := 3) scFresh.nd rfl (.inl rfl) (pe_op op_add_str (pv 3) (pe_item_str (pv 2) (pe_call GD hr (by rfl) D.g D.F.kp D.b .nil pass0 (pa_cons (pv 0) (pa_cons pe_int pa_nil))) (fun _ _ => rfl)))))))))))
      (pss_cons (ps_set (i := 8) scFresh.nd rfl (.inl rfl) (pe_slice sl_str (pv 3) po_none (po_some pe_int)))
      (pss_cons (ps_for PassesOwn.never rfl (pi_range1 (by rfl) B.range (pa_cons pe_int pa_nil)) (pg_name (i := 7) scFresh.nd rfl (.inl rfl))
        (pss_cons (ps_if (pt_cmpR op_notIn_seq (pv 3) (pv 1) (by rfl)) (pss_one ps_break) pss_nil)
        (pss_one (ps_set (i := 3) scFresh.nd rfl (.inl rfl) (pe_op op_add_str (pv 8) (pe_callTy call_str_int (by rfl) B.str PyProof.Rows.boot_str (pa_cons (pv 7) pa_nil)))))))
      (pss_one (ps_ret (pv 3)))))), ?_⟩
    refine ⟨fun σ' H' => ∃ (t : Str) (y4 y5 y6 y7 : Option V), σ' = [some (.ref p), some (.ref l), some (.str LD), some (.str t), y4, y5, y6, y7, none] ∧ Nm (tl t) ∧ Bag H' p ∧ But p H H', ?_, ?_⟩
    · refine ifS_via (fun b H1 => Bag H1 p ∧ But p H H1 ∧ (b = true → ks ≠ [])) (fun Q hQ => ?_) (fun b H1 hR => ?_)
      · refine ⟨.ref l, rfl, by decide, fun e ne => ⟨_, _, .lst (sqOf (same_upd ne _ _ hT.l)) (dp_strs ks), .lst (sqOf upd_same) .nil, shaped_strs hT.t, by decide, _, rfl, ?_⟩⟩
        rw [eqv_nil]
        cases ks with
        | nil => exact hQ _ _ ⟨hB.same (same_upd ne), Same.but (same_upd ne), fun z => by cases z⟩
        | cons x xs =>
          refine ⟨.ref p, rfl, p, 2, rfl, hB.same (same_upd ne), by decide, by decide, fun i H2 i0 i1 B2 b2 => ⟨rfl, _, rfl, ?_⟩⟩
          exact hQ _ _ ⟨B2, (Same.but (same_upd ne)).trans b2, fun _ => by simp⟩
      · obtain ⟨B1, b1, hne⟩ := hR
        have T1 := hT.but hB b1
        cases b with
        | true =>
          have kpos : 0 < ks.length := List.length_pos_iff.mpr (hne rfl)
          refine ⟨.ref l, rfl, .ref p, rfl, .ref l, rfl, l, _, rfl, .inl (sqOf T1.l), p, _, rfl, B1, by rw [List.length_map]; omega, by rw [List.length_map]; have := hT.n; omega, fun i H2 i0 i1 B2 b2 => ?_⟩
          obtain ⟨t, ht, et⟩ := pick i0 i1
          have N := hN t ht
          have tpos := nm_pos N
          have tmax := N.1
          have el : t.length = (tl t).length := len_tl t
          refine ⟨l, _, i, .str t, rfl, rfl, sqOf (T1.but B1 b2).l, et, ?_⟩
          refine ⟨.ref p, rfl, .str t, rfl, t, rfl, by omega, p, _, rfl, B2, by omega, by omega, fun s H3 s0 s1 B3 b3 => ?_⟩
          obtain ⟨s, rfl⟩ : ∃ k : Nat, s = (k : Int) := ⟨s.toNat, by omega⟩
          refine ⟨_, rfl, .ref p, rfl, .int (s : Int), rfl, (s : Int), 0, rfl, rfl, .inr ⟨_, rfl, 10, _, rfl, rfl, .inl ⟨by decide, by decide⟩, 26, _, rfl, rfl, ?_⟩⟩
          have lim : ∀ b : Bool, b = decide ((0 : Int) < (s : Int)) → (26 : Int) + 10 * (if b = true then 1 else 0) ≤ 36 ∧ 26 ≤ (26 : Int) + 10 * (if b = true then 1 else 0) ∧ (s = 0 → (26 : Int) + 10 * (if b = true then 1 else 0) = 26) := by
            intro b hb
            cases b with
            | true =>
              have := of_decide_eq_true hb.symm
              rw [if_pos rfl]
              omega
            | false => rw [if_neg Bool.false_ne_true]; omega
          obtain ⟨lm, h36, lim⟩ : ∃ lm, (26 : Int) + 10 * (if decide ((0 : Int) < (s : Int)) = true then 1 else 0) = lm ∧ lm ≤ 36 ∧ 26 ≤ lm ∧ (s = 0 → lm = 26) := ⟨_, rfl, lim _ rfl⟩
          refine ⟨p, lm, congrArg (fun z => [V.ref p, V.int z]) h36, B3, by omega, by omega, fun j H4 j0 j1 B4 b4 => ?_⟩
          have hz36 := ld_len
          obtain ⟨c, ec⟩ := at_sign (z := LD) (i := j) (by omega) j0
          refine ⟨LD, j, c, rfl, rfl, j0, by omega, by omega, ec, ?_⟩
          have l1 := cut_le t none (some (s : Int))
          have l2 := cut_le t (some ((s : Int) + 1)) none
          refine ⟨.str t, rfl, .int (s : Int), rfl, (s : Int), rfl, t, rfl, by omega, .str ⟨#[c]⟩, rfl, _, _, rfl, rfl, by rw [one_len]; omega, .str t, rfl, .int (s : Int), rfl, (s : Int), 1, rfl, rfl, (s : Int) + 1, rfl, t, rfl, by omega, _, _, rfl, rfl, by rw [app_len, one_len]; omega, ?_⟩
          refine ⟨_, _, _, _, _, rfl, ?_, B4, ((b1.trans b2).trans b3).trans b4⟩
          rw [rep_tl]
          exact nm_rep N (by omega) (ld_any ec) (fun z => ld_lo ec (by have := lim.2.2 z; omega))
        | false =>
          refine ⟨.ref p, rfl, p, 3, rfl, B1, by decide, by decide, fun i H2 i0 i1 B2 b2 => ⟨1, i, rfl, rfl, ?_⟩⟩
          refine ⟨fun σ' H' => ∃ (n : Int), σ' = [some (.ref p), some (.ref l), some (.str LD), none, none, none, some (.int n), none, none] ∧ 1 ≤ n ∧ n ≤ 12 ∧ Bag H' p ∧ But p H H', ?_, ?_⟩
          · refine ⟨.ref p, rfl, p, 4, rfl, B2, by decide, by decide, fun j H3 j0 j1 B3 b3 => ⟨rfl, _, rfl, ite2 (fun e => ?_) (fun e => ?_)⟩⟩
            · refine ⟨.ref p, rfl, p, 12, rfl, B3, by decide, by decide, fun k H4 k0 k1 B4 b4 => ⟨1, k, rfl, rfl, ?_⟩⟩
              exact ⟨1 + k, rfl, by omega, by omega, B4, ((b1.trans b2).trans b3).trans b4⟩
            · exact ⟨1 + i, rfl, by omega, by omega, B3, (b1.trans b2).trans b3⟩
          · rintro σ' H3 ⟨n, rfl, n1, n2, B3, b3⟩
            have hz36 := ld_len
            refine ⟨_, rfl, .ref p, rfl, p, 26, rfl, B3, by decide, by decide, fun j H4 j0 j1 B4 b4 => ?_⟩
            obtain ⟨c, ec⟩ := at_sign (z := LD) (i := j) (by omega) j0
            refine ⟨LD, j, c, rfl, rfl, j0, by omega, by omega, ec, ?_⟩
            refine ⟨.int n, rfl, n, 1, rfl, rfl, n - 1, rfl, by omega, by omega, ?_⟩
            refine for_it (walk_range (lo := 0) (n := (n - 1).toNat)) (fun i σ H' => ∃ (t : Str) (y7 : Option V), σ = [some (.ref p), some (.ref l), some (.str LD), some (.str t), none, none, some (.int n), y7, none] ∧ Nm (tl t) ∧ (tl t).length = i + 1 ∧ Bag H' p ∧ But p H H')
              ⟨_, none, rfl, ⟨by show 1 ≤ 12; decide, fun d hd => ?_, c, rfl, ld_lo ec (by omega)⟩, rfl, B4, b3.trans b4⟩ (fun _ _ _ _ _ => trivial) (fun i x σ H5 H6 hi hP hy => ?_) (fun σ H5 hP => ?_)
            · rw [show d = c from List.mem_singleton.mp hd]
              exact ld_any ec
            · obtain ⟨t, y7, rfl, N, tn, B5, b5⟩ := hP
              obtain ⟨rfl, rfl⟩ := hy
              refine ⟨.str t, rfl, _, rfl, .ref p, rfl, p, 36, rfl, B5, by decide, by decide, fun j H7 j0 j1 B7 b7 => ?_⟩
              obtain ⟨c2, ec2⟩ := at_sign (z := LD) (i := j) (by omega) j0
              have el : t.length = (tl t).length := len_tl t
              refine ⟨LD, j, c2, rfl, rfl, j0, by omega, by omega, ec2, t, _, rfl, rfl, by rw [one_len]; omega, ?_⟩
              refine ⟨t ++ ⟨#[c2]⟩, _, rfl, ?_, ?_, B7, b5.trans b7⟩
              · rw [tl_app]
                refine nm_app N (fun d hd => ?_) (by rw [tl_one, List.length_singleton]; omega)
                rw [show d = c2 from List.mem_singleton.mp hd]
                exact ld_any ec2
              · rw [tl_app, List.length_append, tn]
                rfl
            · obtain ⟨t, y7, rfl, N, tn, B5, b5⟩ := hP
              exact ⟨t, _, _, _, _, rfl, N, B5, b5⟩
    · rintro σ' H1 ⟨t, y4, y5, y6, y7, rfl, N, B1, b1⟩
      have el : t.length = (tl t).length := len_tl t
      have tmax := N.1
      have T1 := hT.but hB b1
      refine ⟨.str t, rfl, 10, rfl, t, rfl, by omega, ?_⟩
      have Nb : Nm (tl (cutS t none (some 10))) := by
        rw [show (10 : Int) = ((10 : Nat) : Int) from rfl, tl_hi]
        exact nm_take N (by decide)
      have Lb : (tl (cutS t none (some 10))).length ≤ 10 := by
        rw [show (10 : Int) = ((10 : Nat) : Int) from rfl, tl_hi, List.length_take]
        omega
      have elb : (cutS t none (some 10)).length = (tl (cutS t none (some 10))).length := len_tl _
      generalize cutS t none (some 10) = bs at Nb Lb elb
      refine ⟨100, rfl, by decide, by decide, ?_⟩
      refine for_it (walk_range (lo := 0) (n := (100 : Int).toNat)) (fun i σ H' => ∃ (t : Str) (y7 : Option V), σ = [some (.ref p), some (.ref l), some (.str LD), some (.str t), y4, y5, y6, y7, some (.str bs)] ∧ Nm (tl t) ∧ H' = H1)
        ⟨t, y7, rfl, N, rfl⟩ (fun _ _ _ _ _ => trivial) (fun i x σ H5 H6 hi hP hy => ?_) (fun σ H5 hP => ?_)
      · obtain ⟨t, y7, rfl, N, rfl⟩ := hP
        obtain ⟨rfl, ex⟩ := hy
        have ex2 : x = .int (i : Int) := by
          rw [ex]
          show V.int (0 + (i : Int)) = _
          rw [Int.zero_add]
        subst ex2
        refine ⟨.str t, rfl, .ref l, rfl, l, _, rfl, .inl (sqOf T1.l), rfl, flat_strs ks, _, rfl, ite2 (fun e => ?_) (fun e => ?_)⟩
        · exact ⟨.str t, rfl, q t _ N B1 b1⟩
        · have hi : i < 100 := hi
          have n100 := num100 hi
          refine ⟨.str bs, rfl, .int (i : Int), rfl, (i : Int), rfl, ?_, _, _, rfl, rfl, ?_, ?_⟩
          · show (i : Int).natAbs.log2 < 1920
            exact Nat.lt_of_le_of_lt (Nat.log2_le_self _) (by omega)
          · rw [len_tl (Str.ofString (toString (i : Int)))]
            omega
          · refine ⟨bs ++ Str.ofString (toString (i : Int)), _, rfl, ?_, rfl⟩
            rw [tl_app]
            exact nm_app Nb n100.2 (by omega)
      · obtain ⟨t, y7, rfl, N, rfl⟩ := hP
        exact ⟨.str t, rfl, q t _ N B1 b1⟩
end
end Tb
namespace Tb
open PySem PySem.Spec PyProof.Rows L2
abbrev sPrefix : Stmt := topS 24
abbrev NPf : List Str := ["bag", "known", "digits", "kind", "text", "spot", "sign", "size", "k"]
theorem scPrefix : FnScope NPf ["bag", "known"] (defScope sPrefix) := ⟨rfl, rfl, rfl, by decide +kernel, rfl, by decide +kernel, by decide +kernel⟩
theorem ad_take {l : List Nat} (h : Ad l) {k : Nat} (hk : 0 < k) : Ad (l.take k) := by
  obtain ⟨h1, h2, h3⟩ := h
  exact ⟨by rw [List.length_take]; omega, by rw [List.length_take]; omega, fun e he => h3 e (List.mem_of_mem_take he)⟩
theorem seqIf_via {tc : TT} {t u v : TS} {D : Ends} {σ : L2.St} {H : Hp} (R : Bool → Hp → Prop) (h : ∀ Q : Bool → Hp → Prop, (∀ b H1, R b H1 → Q b H1) → tc σ H Q) (k : ∀ b H1, R b H1 → (if b = true then t { D with nx := v D } σ H1 else u { D with nx := v D } σ H1)) : tSeq (tIfS tc t u) v D σ H := h _ k
section
variable {P : Program} {w : World} {K : PySem.W.Frag} {mg : Str → Option Value} {base : Heap}
def spPrefix : Sp := fun vs H Q _ => ∃ (p l : Addr) (ks : List Str), vs = [.ref p, .ref l] ∧ Bag H p ∧ Txs H l ks ∧ (∀ x ∈ ks, Ad (tl x)) ∧ ∀ (z : Str) (H' : Hp), Ad (tl z) → Bag H' p → But p H H' → Q (.str z) H'
theorem ok_prefix {f g : Addr} {fd gd : FuncData} (F : Fun K "_law_prefix" "_law_prefix" sPrefix f fd) (D : Dd K mg "_law_draw" sDraw ["bag", "size"] g gd) (B : Blt mg) : FnOk P w K mg base CX0 2 f fd ["bag", "known"] spPrefix := by
  have GD : FnOk P w K mg base CX0 1 g gd ["bag", "size"] spDraw := ok_draw D.F B
  refine F.ok scPrefix (fun vs H Q E h => ?_) (fun cdv A outer s H vs Q E hr h => ?_)
  · obtain ⟨p, l, ks, rfl, _⟩ := h
    rfl
  · obtain ⟨p, l, ks, rfl, hB, hT, hN, q⟩ := h
    have hz : sizeLine = 16777216 := rfl
    refine ⟨_, pss_cons (ps_set (i := 2) scPrefix.nd rfl (.inl rfl) pe_str)
      (C8.pss_cut (ps_set (i := 3) scPrefix.nd rfl (.inl rfl) (pe_call GD hr (by rfl) D.g D.F.kp D.b .nil pass0 (pa_cons (pv 0) (pa_cons pe_int pa_nil))))
      (pss_cons (ps_if (PW.pt (pw_and (pt_cmpR (op_neD hr.units) (pv 1) (pe_lst pa_nil) (nomark _)) (pw_and1 (pt_cmpR op_lt (pv 3) pe_int (nomark _)))))
        (pss_cons (ps_set (i := 4) scPrefix.nd rfl (.inl rfl) (pe_ix ix_list (pv 1) (pe_call GD hr (by rfl) D.g D.F.kp D.b .nil pass0 (pa_cons (pv 0) (pa_cons (pe_callB call_len_seq (by rfl) B.len PySem.boot_len (pa_cons (pv 1) pa_nil)) pa_nil))) (fun _ _ => rfl)))
        (pss_cons (ps_set (i := 5) scPrefix.nd rfl (.inl rfl) (pe_call GD hr (by rfl) D.g D.F.kp D.b .nil pass0 (pa_cons (pv 0) (pa_cons (pe_callB call_len_str (by rfl) B.len PySem.boot_len (pa_cons (pv 4) pa_nil)) pa_nil))))
        (pss_cons (ps_set (i := 6) scPrefix.nd rfl (.inl rfl) (pe_item_str (pv 2) (pe_call GD hr (by rfl) D.g D.F.kp D.b .nil pass0 (pa_cons (pv 0) (pa_cons pe_int pa_nil))) (fun _ _ => rfl)))
        (pss_cons (ps_if (pt_cmpR op_eq (pv 3) pe_int (nomark _)) (pss_one (ps_ret (pe_slice sl_str (pv 4) po_none (po_some (pe_op op_add (pv 5) pe_int))))) pss_nil)
        (pss_cons (ps_if (pt_cmpR op_eq (pv 3) pe_int (nomark _)) (pss_one (ps_ret (pe_op op_add_str (pe_op op_add_str (pe_slice sl_str (pv 4) po_none (po_some (pv 5))) (pv 6)) (pe_slice sl_str (pv 4) (po_some (pe_op op_add (pv 5) pe_int)) po_none)))) pss_nil)
        (pss_one (ps_ret (pe_op op_add_str (pe_slice sl_str (pv 4) po_none (po_some pe_int)) (pv 6))))))))) pss_nil)
      (pss_cons (ps_set (i := 7) scPrefix.nd rfl (.inl rfl) (pe_op op_add pe_int (pe_call GD hr (by rfl) D.g D.F.kp D.b .nil pass0 (pa_cons (pv 0) (pa_cons pe_int pa_nil)))))
      (C8.pss_cut (ps_if (pt_cmpR op_eq (pe_call GD hr (by rfl) D.g D.F.kp D.b .nil pass0 (pa_cons (pv 0) (pa_cons pe_int pa_nil))) pe_int (nomark _)) (pss_one (ps_set (i := 7) scPrefix.nd rfl (.inl rfl) (pe_op op_add pe_int (pe_call GD hr (by rfl) D.g D.F.kp D.b .nil pass0 (pa_cons (pv 0) (pa_cons pe_int pa_nil)))))) pss_nil)
      (pss_cons (ps_set (i := 4) scPrefix.nd rfl (.inl rfl) pe_str)
      (pss_cons (ps_for PassesOwn.never rfl (pi_range1 (by rfl) B.range (pa_cons (pv 7) pa_nil)) (pg_name (i := 8) scPrefix.nd rfl (.inl rfl)) (pss_one (ps_set (i := 4) scPrefix.nd rfl (.inl rfl) (pe_op op_add_str (pv 4) (pe_item_str (pv 2) (pe_call GD hr (by rfl) D.g D.F.kp D.b .nil pass0 (pa_cons (pv 0) (pa_cons pe_int pa_nil))) (fun _ _ => rfl))))))
      (pss_one (ps_ret (pv 4))))))))), ?_⟩
    refine ⟨fun σ' H' => ∃ kd : Int, σ' = [some (.ref p), some (.ref l), some (.str digits), some (.int kd), none, none, none, none, none] ∧ Bag H' p ∧ But p H H', ?_, ?_⟩
    · exact ⟨.ref p, rfl, p, 5, rfl, hB, by decide, by decide, fun kd H1 kd0 kd1 B1 b1 => ⟨kd, rfl, B1, b1⟩⟩
    rintro σ' H1 ⟨kd, rfl, B1, b1⟩
    have T1 := hT.but hB b1
    have hz10 := dg_len
    refine seqIf_via (fun b H2 => Bag H2 p ∧ But p H H2 ∧ (b = true → ks ≠ [])) (fun Q hQ => ?_) (fun b H2 hR => ?_)
    · refine ⟨.ref l, rfl, by decide, fun e ne => ⟨_, _, .lst (sqOf (same_upd ne _ _ T1.l)) (dp_strs ks), .lst (sqOf upd_same) .nil, shaped_strs hT.t, by decide, _, rfl, ?_⟩⟩
      rw [eqv_nil]
      cases ks with
      | nil => exact hQ _ _ ⟨B1.same (same_upd ne), b1.trans (Same.but (same_upd ne)), fun z => by cases z⟩
      | cons x xs =>
        refine ⟨.int kd, rfl, kd, 4, rfl, rfl, _, rfl, ?_⟩
        exact hQ _ _ ⟨B1.same (same_upd ne), b1.trans (Same.but (same_upd ne)), fun _ => by simp⟩
    · obtain ⟨B2, b2, hne⟩ := hR
      have T2 := hT.but hB b2
      cases b with
      | true =>
        have kpos : 0 < ks.length := List.length_pos_iff.mpr (hne rfl)
        refine ⟨.ref l, rfl, .ref p, rfl, .ref l, rfl, l, _, rfl, .inl (sqOf T2.l), p, _, rfl, B2, by rw [List.length_map]; omega, by rw [List.length_map]; have := hT.n; omega, fun i H3 i0 i1 B3 b3 => ?_⟩
        obtain ⟨t, ht, et⟩ := pick i0 i1
        have N := hN t ht
        obtain ⟨tpos, tmax, _⟩ := id N
        have el : t.length = (tl t).length := len_tl t
        refine ⟨l, _, i, .str t, rfl, rfl, sqOf (T2.but B2 b3).l, et, ?_⟩
        refine ⟨.ref p, rfl, .str t, rfl, t, rfl, by omega, p, _, rfl, B3, by omega, by omega, fun s H4 s0 s1 B4 b4 => ?_⟩
        obtain ⟨s, rfl⟩ : ∃ k : Nat, s = (k : Int) := ⟨s.toNat, by omega⟩
        refine ⟨_, rfl, .ref p, rfl, p, 10, rfl, B4, by decide, by decide, fun j H5 j0 j1 B5 b5 => ?_⟩
        obtain ⟨c, ec⟩ := at_sign (z := digits) (i := j) (by omega) j0
        have b5' := ((b2.trans b3).trans b4).trans b5
        refine ⟨digits, j, c, rfl, rfl, j0, by omega, by omega, ec, ?_⟩
        have l1 := cut_le t none (some (s : Int))
        have l2 := cut_le t (some ((s : Int) + 1)) none
        have l3 := cut_le t none (some 7)
        refine ⟨.int kd, rfl, rfl, _, rfl, ite2 (fun e1 => ?_) (fun e1 => ?_)⟩
        · refine ⟨.str t, rfl, .int (s : Int), rfl, (s : Int), 1, rfl, rfl, (s : Int) + 1, rfl, t, rfl, by omega, q _ _ ?_ B5 b5'⟩
          rw [show ((s : Int) + 1) = ((s + 1 : Nat) : Int) from rfl, tl_hi]
          exact ad_take N (Nat.succ_pos _)
        · refine ⟨.int kd, rfl, rfl, _, rfl, ite2 (fun e2 => ?_) (fun e2 => ?_)⟩
          · refine ⟨.str t, rfl, .int (s : Int), rfl, (s : Int), rfl, t, rfl, by omega, .str ⟨#[c]⟩, rfl, _, _, rfl, rfl, by rw [one_len]; omega, .str t, rfl, .int (s : Int), rfl, (s : Int), 1, rfl, rfl, (s : Int) + 1, rfl, t, rfl, by omega, _, _, rfl, rfl, by rw [app_len, one_len]; omega, q _ _ ?_ B5 b5'⟩
            rw [rep_tl]
            exact ad_rep N (by omega) (dg_any ec)
          · refine ⟨.str t, rfl, 7, rfl, t, rfl, by omega, .str ⟨#[c]⟩, rfl, _, _, rfl, rfl, by rw [one_len]; omega, q _ _ ?_ B5 b5'⟩
            rw [tl_app, show (7 : Int) = ((7 : Nat) : Int) from rfl, tl_hi, tl_one]
            obtain ⟨n1, n2, n3⟩ := N
            refine ⟨by rw [List.length_append, List.length_singleton]; omega, by rw [List.length_append, List.length_take, List.length_singleton]; omega, fun d hd => ?_⟩
            rcases List.mem_append.mp hd with hd | hd
            · exact n3 d (List.mem_of_mem_take hd)
            · rw [List.mem_singleton.mp hd]
              exact dg_any ec
      | false =>
        refine ⟨.ref p, rfl, p, 2, rfl, B2, by decide, by decide, fun i H3 i0 i1 B3 b3 => ⟨1, i, rfl, rfl, ?_⟩⟩
        refine ⟨fun σ' H' => ∃ (n : Int), σ' = [some (.ref p), some (.ref l), some (.str digits), some (.int kd), none, none, none, some (.int n), none] ∧ 1 ≤ n ∧ n ≤ 8 ∧ Bag H' p ∧ But p H H', ?_, ?_⟩
        · refine ⟨.ref p, rfl, p, 4, rfl, B3, by decide, by decide, fun j H4 j0 j1 B4 b4 => ⟨rfl, _, rfl, ite2 (fun e => ?_) (fun e => ?_)⟩⟩
          · refine ⟨.ref p, rfl, p, 8, rfl, B4, by decide, by decide, fun k H5 k0 k1 B5 b5 => ⟨1, k, rfl, rfl, ?_⟩⟩
            exact ⟨1 + k, rfl, by omega, by omega, B5, ((b2.trans b3).trans b4).trans b5⟩
          · exact ⟨1 + i, rfl, by omega, by omega, B4, (b2.trans b3).trans b4⟩
        · rintro σ' H4 ⟨n, rfl, n1, n2, B4, b4⟩
          refine ⟨.int n, rfl, n, rfl, by omega, by omega, ?_⟩
          refine for_it (walk_range (lo := 0) (n := n.toNat)) (fun i σ H' => ∃ (t : Str) (y8 : Option V), σ = [some (.ref p), some (.ref l), some (.str digits), some (.int kd), some (.str t), none, none, some (.int n), y8] ∧ (∀ d ∈ tl t, isIn digits d = true) ∧ (tl t).length = i ∧ Bag H' p ∧ But p H H')
            ⟨_, none, rfl, (fun d hd => by cases hd), rfl, B4, b4⟩ (fun _ _ _ _ _ => trivial) (fun i x σ H5 H6 hi hP hy => ?_) (fun σ H5 hP => ?_)
          · obtain ⟨t, y8, rfl, N, tn, B5, b5⟩ := hP
            obtain ⟨rfl, rfl⟩ := hy
            refine ⟨.str t, rfl, _, rfl, .ref p, rfl, p, 10, rfl, B5, by decide, by decide, fun j H7 j0 j1 B7 b7 => ?_⟩
            obtain ⟨c2, ec2⟩ := at_sign (z := digits) (i := j) (by omega) j0
            have el : t.length = (tl t).length := len_tl t
            refine ⟨digits, j, c2, rfl, rfl, j0, by omega, by omega, ec2, t, _, rfl, rfl, by rw [one_len]; omega, ?_⟩
            refine ⟨t ++ ⟨#[c2]⟩, _, rfl, fun d hd => ?_, ?_, B7, b5.trans b7⟩
            · rw [tl_app] at hd
              rcases List.mem_append.mp hd with hd | hd
              · exact N d hd
              · rw [show d = c2 from List.mem_singleton.mp hd]
                exact dg_any ec2
            · rw [tl_app, List.length_append, tn]
              rfl
          · obtain ⟨t, y8, rfl, N, tn, B5, b5⟩ := hP
            exact ⟨.str t, rfl, q t _ ⟨by omega, by omega, N⟩ B5 b5⟩
end
end Tb
namespace Tb
open PySem PySem.Spec PyProof.Rows L2
abbrev sLLane : Stmt := topS 25
abbrev sLAfter : Stmt := topS 26
theorem scLLane : FnScope ["own", "address", "size"] ["own", "address"] (defScope sLLane) := ⟨rfl, rfl, rfl, by decide +kernel, rfl, by decide +kernel, by decide +kernel⟩
theorem scLAfter : FnScope ["own", "prefix", "way", "found", "one"] ["own", "prefix", "way"] (defScope sLAfter) := ⟨rfl, rfl, rfl, by decide +kernel, rfl, by decide +kernel, by decide +kernel⟩
/-- a text in, a bool out, the heap as it was -/
def spT0 (g : Str → Bool) : Sp := fun vs H Q _ => ∃ (t : Str), vs = [.str t] ∧ t.length ≤ 1000 ∧ Q (.bl (g t)) H
theorem isAddr_no {t : Str} (h : ¬ Ad (tl t)) : isAddr t = false := by
  cases e : isAddr t with
  | false => rfl
  | true => exact absurd ((isAddr_iff t).mp e) h
theorem isName_no {t : Str} (h : ¬ Nm (tl t)) : isName t = false := by
  cases e : isName t with
  | false => rfl
  | true => exact absurd ((isName_iff t).mp e) h
theorem ld_eq : LD = letters ++ digits := tl_inj (by decide +kernel)
theorem let_dig {c : Nat} (h : isIn (letters ++ digits) c = true) : isIn letters c = !isIn digits c := by
  have hm : c ∈ tl (letters ++ digits) := of_decide_eq_true h
  have k : (tl (letters ++ digits)).all (fun c => isIn letters c == !isIn digits c) = true := by decide +kernel
  exact eq_of_beq (List.all_eq_true.mp k c hm)
section
variable {P : Program} {w : World} {K : PySem.W.Frag} {mg : Str → Option Value} {base : Heap}
/-- the law's own lane -/
theorem ok_llane {f : Addr} {fd : FuncData} {k : Nat} (F : Fun K "_law_lane" "_law_lane" sLLane f fd) (B : Blt mg) : FnOk P w K mg base CX0 (k + 1) f fd ["own", "address"] (spDA laneV) := by
  refine F.ok scLLane (fun vs H Q E h => ?_) (fun cdv A outer s H vs Q E hr h => ?_)
  · obtain ⟨d, kvs, a, rfl, _⟩ := h
    rfl
  · obtain ⟨d, kvs, a, rfl, hd, hl, q⟩ := h
    have hu := hu_of hr
    refine ⟨_, pss_cons (ps_for PassesOwn.never rfl (pi_range3 (by rfl) B.range (pa_cons (pe_callB call_len_str (by rfl) B.len PySem.boot_len (pa_cons (pv 1) pa_nil)) (pa_cons pe_int (pa_cons (pe_un un_neg pe_int) pa_nil)))) (pg_name (i := 2) scLLane.nd rfl (.inl rfl))
        (pss_one (ps_if (pt_cmp (pc_din hu (pe_slice sl_str (pv 1) po_none (po_some (pv 2))) (pv 0))) (pss_one (ps_ret (pe_dget hu (pv 0) (pe_slice sl_str (pv 1) po_none (po_some (pv 2))) (fun _ _ => rfl)))) pss_nil)))
      (pss_one (ps_ret pe_non)), ?_⟩
    have hz : sizeLine = 16777216 := rfl
    refine ⟨.str a, rfl, a, rfl, by omega, 1, rfl, (a.length : Int), 0, -1, ((a.length : Int) - 0).toNat, rfl, RgC.neg (by omega) (by omega) (by omega) (by omega), ?_⟩
    refine for_rangeC (lo := (a.length : Int)) (c := -1) (n := ((a.length : Int) - 0).toNat) (fun i σ H' => ∃ y, σ = [some (.ref d), some (.str a), y] ∧ H' = H ∧ long kvs a = lp kvs a (a.length - i)) ⟨none, rfl, rfl, rfl⟩ ?_ ?_
    · rintro i σ H' hi ⟨y, rfl, rfl, e⟩
      have hi' : i < a.length := by omega
      have ei : (a.length : Int) + (i : Int) * -1 = ((a.length - i : Nat) : Int) := by omega
      rw [ei]
      refine ⟨.str a, rfl, .int ((a.length - i : Nat) : Int), rfl, ((a.length - i : Nat) : Int), rfl, a, rfl, by omega, .ref d, rfl, d, _, rfl, DGet.k (k := Sum.inr (pre a (a.length - i))) hd, ?_⟩
      obtain ⟨m, em⟩ : ∃ m, a.length - i = m + 1 := ⟨a.length - i - 1, by omega⟩
      by_cases c : (valV kvs (Sum.inr (pre a (a.length - i)))).isSome = true
      · refine ⟨_, rfl, ?_⟩
        rw [c]
        obtain ⟨v, ev⟩ := Option.isSome_iff_exists.mp c
        refine ⟨.ref d, rfl, .str a, rfl, .int ((a.length - i : Nat) : Int), rfl, ((a.length - i : Nat) : Int), rfl, a, rfl, by omega, d, v, rfl, ?_, ?_⟩
        · rw [← ev]
          exact DGet.k (k := Sum.inr (pre a (a.length - i))) hd
        · have : long kvs a = some (pre a (a.length - i)) := by
            rw [e, em]
            unfold lp
            rw [← em, if_pos c]
          have q : Q (laneV kvs a) H' := q
          unfold laneV at q
          rw [this] at q
          have q : Q ((valV kvs (Sum.inr (pre a (a.length - i)))).getD .non) H' := q
          rw [ev] at q
          exact q
      · refine ⟨_, rfl, ?_⟩
        rw [Bool.eq_false_iff.mpr c]
        refine ⟨_, rfl, rfl, ?_⟩
        rw [e, em]
        show (if (valV kvs (Sum.inr (pre a (m + 1)))).isSome = true then some (pre a (m + 1)) else lp kvs a m) = _
        rw [← em, if_neg c, show a.length - (i + 1) = m by omega]
    · rintro σ H' ⟨y, rfl, rfl, e⟩
      rw [show a.length - ((a.length : Int) - 0).toNat = 0 by omega] at e
      have q : Q (laneV kvs a) H' := q
      unfold laneV at q
      rw [e] at q
      exact q
end
end Tb
namespace Tb
open PySem PySem.Spec PyProof.Rows L2
/-- what the loop keeps -/
def flt (p : Str) (o : Option Str) (q : Pr) : Bool := decide (q.1 ≠ p) || o.isSome
theorem nodup_take {own : List Pr} (h : (own.map Prod.fst).Nodup) {i : Nat} {q : Pr} (e : own[i]? = some q) (f : Pr → Bool) : valV (kvP ((own.take i).filter f)) (Sum.inr q.1) = none := by
  cases e2 : valV (kvP ((own.take i).filter f)) (Sum.inr q.1) with
  | none => rfl
  | some v =>
    exfalso
    have mm := (valV_kvP q.1 _).mp (by rw [e2]; rfl)
    obtain ⟨x, hx, ex⟩ := List.mem_map.mp mm
    have hx := (List.mem_filter.mp hx).1
    obtain ⟨j, hj⟩ := List.mem_iff_getElem?.mp hx
    rw [List.getElem?_take] at hj
    by_cases hji : j < i
    · rw [if_pos hji] at hj
      have a1 : (own.map Prod.fst)[j]? = some q.1 := by rw [List.getElem?_map, hj, ← ex]; rfl
      have a2 : (own.map Prod.fst)[i]? = some q.1 := by rw [List.getElem?_map, e]; rfl
      obtain ⟨l1, g1⟩ := List.getElem?_eq_some_iff.mp a1
      obtain ⟨l2, g2⟩ := List.getElem?_eq_some_iff.mp a2
      exact List.pairwise_iff_getElem.mp h j i l1 l2 hji (g1.trans g2.symm)
    · rw [if_neg hji] at hj
      cases hj
section
variable {P : Program} {w : World} {K : PySem.W.Frag} {mg : Str → Option Value} {base : Heap}
def spAfter : Sp := fun vs H Q _ => ∃ (d : Addr) (own : List Pr) (p : Str) (o : Option Str), vs = [.ref d, .str p, oStr o] ∧ H d = some (.dK (kvP own)) ∧ (own.map Prod.fst).Nodup ∧ own.length ≤ 1000 ∧
  ∀ (e : Addr) (H' : Hp), Same H H' → H e = none → H' e = some (.dK (kvP (aft own p o))) → Q (.ref e) H'
theorem ok_lafter {f : Addr} {fd : FuncData} {k : Nat} (F : Fun K "_law_after" "_law_after" sLAfter f fd) (B : Blt mg) : FnOk P w K mg base CX0 (k + 1) f fd ["own", "prefix", "way"] spAfter := by
  refine F.ok scLAfter (fun vs H Q E h => ?_) (fun cdv A outer s H vs Q E hr h => ?_)
  · obtain ⟨d, own, p, o, rfl, _⟩ := h
    rfl
  · obtain ⟨d, own, p, o, rfl, hd, hn, hl, q⟩ := h
    have hu := hu_of hr
    have hz : sizeLine = 16777216 := rfl
    refine ⟨_, pss_cons (ps_set (i := 3) scLAfter.nd rfl (.inl rfl) pe_dnewK)
      (pss_cons (ps_lock (ps_for PassesOwn.never rfl (pi_keys (pv 0)) (pg_name (i := 4) scLAfter.nd rfl (.inl rfl))
        (pss_one (ps_if (PW.pt (pw_or (pt_cmpR op_ne (pv 4) (pv 1) (nomark _)) (pw_or1 (pt_cmp (pc_notN (pv 2)))))) (pss_one (ps_dput hu (pv 3) (pv 4) (pe_dget hu (pv 0) (pv 4) (fun _ _ => rfl)) (by rfl))) pss_nil))))
      (pss_cons (ps_if (pt_cmp (pc_notN (pv 2))) (pss_one (ps_dput hu (pv 3) (pv 1) (pv 2) (by rfl))) pss_nil)
      (pss_one (ps_ret (pv 3))))), ?_⟩
    intro D nD
    have dD : d ≠ D := fun e => by rw [e, nD] at hd; cases hd
    refine ⟨d, .dK (kvP own), by rw [upd_ne dD]; exact hd, trivial, fun od => ?_⟩
    refine ⟨.ref d, rfl, d, od, rfl, .inl ⟨kvP own, upd_same, ?_⟩⟩
    refine for_it (walk_keys (d := d) (o := od) (kvs := kvP own)) (fun i σ H' => ∃ y, σ = [some (.ref d), some (.str p), some (oStr o), some (.ref D), y] ∧ But d H H' ∧ H' d = some (.frz od (.dK (kvP own))) ∧ H' D = some (.dK (kvP ((own.take i).filter (flt p o)))))
      ⟨none, rfl, ?_, upd_same, ?_⟩ (fun i σ H' _ hP => hP.choose_spec.2.2.1) (fun i x σ H5 H6 hi hP hy => ?_) (fun σ H5 hP => ?_)
    · exact fun b u hb nb => by rw [upd_ne nb, upd_ne (ne_of_none hb nD)]; exact hb
    · rw [upd_ne (Ne.symm dD)]
      exact upd_same
    · obtain ⟨y, rfl, b1, h1, h2⟩ := hP
      obtain ⟨rfl, k, v, ek, rfl⟩ := hy
      unfold kvP at ek
      rw [List.getElem?_map] at ek
      cases eq : own[i]? with
      | none => rw [eq] at ek; cases ek
      | some r =>
      rw [eq] at ek
      obtain ⟨rfl, rfl⟩ := Prod.mk.inj (Option.some.inj ek)
      have hm : valV (kvP own) (Sum.inr r.1) = some (.str r.2) := valV_mem hn (List.mem_of_getElem? eq)
      have tk : own.take (i + 1) = own.take i ++ [r] := by rw [List.take_add_one, eq]; rfl
      have li : i < own.length := (List.getElem?_eq_some_iff.mp eq).1
      have good : flt p o r = true → ∃ v, (DGet H6 d (.str r.1) (some v)) ∧ ∃ H7, DPut H6 D (.str r.1) v H7 ∧ (∃ y, ([some (.ref d), some (.str p), some (oStr o), some (.ref D), some (.str r.1)] : L2.St) = [some (.ref d), some (.str p), some (oStr o), some (.ref D), y] ∧ But d H H7 ∧ H7 d = some (.frz od (.dK (kvP own))) ∧ H7 D = some (.dK (kvP ((own.take (i + 1)).filter (flt p o))))) := fun hf => by
        refine ⟨.str r.2, ?_, _, DPut.k (k := Sum.inr r.1) h2 ?_, _, rfl, ?_, ?_, ?_⟩
        · exact .inl ⟨kvP own, Sum.inr r.1, .inr ⟨od, h1⟩, rfl, hm.symm⟩
        · rw [kvP_len]
          have := List.length_filter_le (flt p o) (own.take i)
          rw [List.length_take] at this
          omega
        · exact fun b u hb nb => by rw [upd_ne (ne_of_none hb nD)]; exact b1 b u hb nb
        · rw [upd_ne dD]
          exact h1
        · rw [upd_same, putK_new _ (nodup_take hn eq _), tk, List.filter_append, List.filter_cons, if_pos hf]
          unfold kvP
          rw [List.map_append]
          rfl
      refine ⟨.str r.1, rfl, .str p, rfl, rfl, _, rfl, ite2 (fun e1 => ?_) (fun e1 => ?_)⟩
      · have hf : flt p o r = true := by
          unfold flt
          rw [Bool.or_eq_true]
          refine .inl (decide_eq_true fun z => ?_)
          rw [z] at e1
          simp at e1
        obtain ⟨v, g1, H7, g2, g3⟩ := good hf
        exact ⟨.ref d, rfl, .str r.1, rfl, d, v, rfl, g1, .ref D, rfl, .str r.1, rfl, D, H7, rfl, g2, g3⟩
      · have hp : r.1 = p := by
          refine Classical.byContradiction fun z => e1 ?_
          rw [decide_eq_false (fun y => z (V.str.inj y))]
          rfl
        cases o with
        | some l =>
          obtain ⟨v, g1, H7, g2, g3⟩ := good (by unfold flt; rw [Bool.or_eq_true]; exact .inr rfl)
          exact ⟨.str l, rfl, true, rfl, .ref d, rfl, .str r.1, rfl, d, v, rfl, g1, .ref D, rfl, .str r.1, rfl, D, H7, rfl, g2, g3⟩
        | none =>
          refine ⟨.non, rfl, false, rfl, _, rfl, b1, h1, ?_⟩
          rw [tk, List.filter_append, List.filter_cons, if_neg (by unfold flt; rw [decide_eq_false (fun z => z hp)]; decide), List.filter_nil, List.append_nil]
          exact h2
    · obtain ⟨y, rfl, b1, h1, h2⟩ := hP
      rw [kvP_len, List.take_length] at h2
      have S5 : Same H (upd H5 d (.dK (kvP own))) := fun b u hb => by
        by_cases e : b = d
        · rw [e] at hb ⊢
          rw [upd_same]
          rw [hd] at hb
          exact hb
        · rw [upd_ne e]
          exact b1 b u hb e
      have hD5 : (upd H5 d (.dK (kvP own))) D = some (.dK (kvP (own.filter (flt p o)))) := by
        rw [upd_ne (Ne.symm dD)]
        exact h2
      refine ⟨h1, ?_⟩
      generalize upd H5 d (.dK (kvP own)) = H6 at S5 hD5
      cases o with
      | none =>
        refine ⟨.non, rfl, false, rfl, .ref D, rfl, q D H6 S5 nD ?_⟩
        rw [hD5]
        show some (HO.dK (kvP (own.filter (flt p none)))) = some (HO.dK (kvP (dropP own p)))
        unfold dropP
        have e : (flt p none) = fun q : Pr => decide (q.1 ≠ p) := funext fun q => by unfold flt; exact Bool.or_false _
        rw [e]
      | some l =>
        have e : own.filter (flt p (some l)) = own := List.filter_eq_self.mpr fun q _ => by unfold flt; exact Bool.or_true _
        rw [e] at hD5
        refine ⟨.str l, rfl, true, rfl, .str l, rfl, .ref D, rfl, .str p, rfl, D, _, rfl, DPut.k (k := Sum.inr p) hD5 (by rw [kvP_len]; omega), .ref D, rfl, q D _ (fun b u hb => ?_) nD ?_⟩
        · rw [upd_ne (ne_of_none hb nD)]
          exact S5 b u hb
        · rw [upd_same, put_kvP]
          rfl
end
end Tb
namespace Tb
open PySem PySem.Spec PyProof.Rows L2
section
variable {X : Cx} {C g : Addr} {k : Nat} {sp : Sp}
/-- len(x), x an instance whose class has its own __len__ -/
theorem call_lenO (hs : PySem.W.findIn X.K (.ref C) "__len__" = some (some (.ref g))) (hf : PySem.W.isFn X.K (.ref g) = true) (F : FnR X.prog X.w X.K X.mg X.base CX0 k g sp) (hr : Room (k + 1) X.A) :
    CallR X (.builtin "len") (fun xs H Q => ∃ (a dx : Addr) (fs : List (Str × V)), xs = [.ref a] ∧ H a = some (.ins C dx fs) ∧ sp [.ref a] H (fun v H' => ∃ n : Nat, v = .int (n : Int) ∧ n ≤ 1000 ∧ Q v H') E0) := by
  intro pins s σ H xs us Q I r h
  obtain ⟨a, dx, fs, rfl, ea, q⟩ := h
  obtain ⟨u, rfl, rx⟩ := vals1 r
  cases rx
  obtain ⟨mA, O, _⟩ := ins_get I.hok ea
  obtain ⟨od, J, _⟩ := O.look
  refine Calls.call_function_entry PySem.kind_len PySem.plain_len PySem.entry_len (PySem.args_len1 _) ?_
  unfold Builtin.«len»
  refine wpAny_bind (m := oneArg "len" _) (wpAny_pure ?_)
  refine wpAny_bind (m := callSpecial? (.ref a) (Str.ofString "__len__")) (PySem.W.special_fn I.kIn J hs (beq_iff_eq.mp hf) (wpAny_call (codeAny_mono (F X.A.in1 X.stack s H [.ref a] [.ref a] _ E0 hr.in1 I.env0.in1 (.cons rfl .nil) q) fun r s' hq => ?_)))
  cases r with
  | error er => exact hq.elim
  | ok fl =>
    cases fl with
    | ret u =>
      obtain ⟨v, H', I3, rv, n, rfl, hn, q3⟩ := I.after hq
      obtain ⟨t, rfl⟩ := rv
      refine wpAny_bind (wpAny_holding (wpAny_pure ?_))
      refine wpAny_bind (wpAny_letGo ?_)
      show wpAny _ _ (if (n : Int) < 0 then _ else _) _ _ _
      rw [if_neg (by omega)]
      show wpAny _ _ (if (n : Int) ≥ 2 ^ 63 then _ else _) _ _ _
      rw [if_neg (by omega)]
      exact wpAny_bind (wpAny_mkInt (wpAny_pure ⟨_, rfl, .int (n : Int), H', I3.tok _, ⟨_, rfl⟩, q3⟩))
    | next => exact hq.elim
    | brk => exact hq.elim
    | cont => exact hq.elim
end
end Tb
namespace Tb
open PySem PySem.Spec PyProof.Rows L2
/-- the class Table, its methods and what they keep -/
structure TabK (P : Program) (w : World) (K : PySem.W.Frag) (mg : Str → Option Value) (base : Heap) (C CI CU : Addr) : Prop where
  T : TCls K C
  g : mg "Table" = some (.ref C)
  ins : C8.InsC K C
  make : ∃ f fd, Mk K C f ∧ Binds K fd ["self", "rows"] [] ∧ FnOk P w K mg base (L2.CX P w) 4 f fd ["self", "rows"] (spInit C CI)
  rows : ∃ p f fd, PropOf K C "rows" p f ∧ Binds K fd ["self"] [] ∧ FnOk P w K mg base CX0 1 f fd ["self"] (spTRows C)
  len : ∃ f fd, PySem.W.findIn K (.ref C) "__len__" = some (some (.ref f)) ∧ PySem.W.isFn K (.ref f) = true ∧ Binds K fd ["self"] [] ∧ FnOk P w K mg base CX0 1 f fd ["self"] (spTLen C)
  call : ∃ f fd, StX.CallO K C f ∧ Binds K fd ["self", "address"] [] ∧ FnOk P w K mg base CX0 3 f fd ["self", "address"] (spTCall C)
  chg : ∃ f fd, Meth K C "changed" f ∧ Binds K fd ["self", "prefix", "lane"] [] ∧ FnOk P w K mg base (L2.CX P w) 6 f fd ["self", "prefix", "lane"] (spTChanged C CI CU)
abbrev sRowsAre : Stmt := topS 27
theorem scRowsAre : FnScope ["board", "due", "told", "k"] ["board", "due"] (defScope sRowsAre) := ⟨rfl, rfl, rfl, by decide +kernel, rfl, by decide +kernel, by decide +kernel⟩
theorem lane_sg {t : Str} (h : isLane t = true) : Sg t := by
  unfold isLane at h
  rw [Bool.or_eq_true] at h
  rcases h with h | h
  · rw [of_decide_eq_true h]
    unfold Sg
    decide +kernel
  · exact (nm_tx ((isName_iff t).mp h)).sg
theorem addr_sg {t : Str} (h : isAddr t = true) : Sg t := (ad_tx ((isAddr_iff t).mp h)).sg
def SgP (p : Pr) : Prop := Sg p.1 ∧ Sg p.2
theorem good_sg {ps : List Pr} (g : Good ps) : ∀ p ∈ ps, SgP p := fun p hp => ⟨addr_sg (g.1 p hp).1, lane_sg (g.1 p hp).2⟩
theorem lay_2 {p : Pr} (h : SgP p) : (enc2 p).canLay0 = true ∧ (enc2 p).depth ≤ 2 := by
  refine ⟨?_, depth2 p⟩
  simp only [enc2, PyData.canLay0, PyData.canLayAll0, strOk_sg h.1, strOk_sg h.2, Bool.and_true]
theorem shaped_2 {p : Pr} (h : SgP p) : SeqAt.shaped (enc2 p) = true := by
  obtain ⟨h1, h2⟩ := lay_2 h
  show (PyData.canLay0 (enc2 p) && decide (PyData.depth (enc2 p) ≤ 64)) = true
  rw [Bool.and_eq_true]
  exact ⟨h1, decide_eq_true (by omega)⟩
theorem lay_2s : ∀ {ps : List Pr}, (∀ p ∈ ps, SgP p) → PyData.canLayAll0 (ps.map enc2) = true ∧ PyData.depthAll (ps.map enc2) ≤ 2
  | [], _ => by simp [PyData.canLayAll0, PyData.depthAll]
  | p :: ps, h => by
    obtain ⟨a1, a2⟩ := lay_2 (h p (List.mem_cons_self ..))
    obtain ⟨b1, b2⟩ := lay_2s (ps := ps) fun q hq => h q (List.mem_cons_of_mem _ hq)
    refine ⟨?_, ?_⟩
    · simp only [List.map_cons, PyData.canLayAll0, a1, b1, Bool.and_true]
    · simp only [List.map_cons, PyData.depthAll]
      omega
theorem shaped_2s {ps : List Pr} (h : ∀ p ∈ ps, SgP p) : SeqAt.shaped (.list (ps.map enc2)) = true := by
  obtain ⟨h1, h2⟩ := lay_2s h
  show (PyData.canLay0 (.list (ps.map enc2)) && decide (PyData.depth (.list (ps.map enc2)) ≤ 64)) = true
  rw [Bool.and_eq_true]
  refine ⟨by simp only [PyData.canLay0]; exact h1, decide_eq_true ?_⟩
  simp only [PyData.depth]
  omega
theorem dp_2 {K : PySem.W.Frag} {H : Hp} {a : Addr} {p : Pr} (h : H a = some (.tup [.str p.1, .str p.2])) : Dp K H (.ref a) (enc2 p) := .tup (.of h) (.cons (.str _) (.cons (.str _) .nil))
theorem dp_2s {K : PySem.W.Frag} {H : Hp} : ∀ {ts : List (Addr × Pr)}, (∀ t ∈ ts, H t.1 = some (.tup [.str t.2.1, .str t.2.2])) → DpAll K H (ts.map fun t => V.ref t.1) ((ts.map (·.2)).map enc2)
  | [], _ => .nil
  | t :: ts, h => .cons (dp_2 (h t (List.mem_cons_self ..))) (dp_2s fun q hq => h q (List.mem_cons_of_mem _ hq))
theorem eqv_self {d : PyData} (h : SeqAt.shaped d = true) : PyData.eqv d d = true := SeqAt.eqv_refl _ (SeqAt.canLay_of_shaped h)
/-- the list of these rows -/
structure Prs (H : Hp) (r : Addr) (ts : List (Addr × Pr)) : Prop where
  l : H r = some (.lst (ts.map fun t => V.ref t.1))
  t : ∀ t ∈ ts, H t.1 = some (.tup [.str t.2.1, .str t.2.2])
theorem Prs.same {H H' : Hp} {r : Addr} {ts : List (Addr × Pr)} (R : Prs H r ts) (h : Same H H') : Prs H' r ts := ⟨h _ _ R.l, fun t ht => h _ _ (R.t t ht)⟩
theorem row_at {H : Hp} {ts : List (Addr × Pr)} {ps : List Pr} (e : ts.map (·.2) = ps) {i : Nat} (hi : i < ps.length) (ht : ∀ t ∈ ts, H t.1 = some (.tup [.str t.2.1, .str t.2.2])) :
    ∃ a p, (ts.map fun t => V.ref t.1)[i]? = some (.ref a) ∧ ps[i]? = some p ∧ H a = some (.tup [.str p.1, .str p.2]) := by
  have hl : i < ts.length := by rw [← e, List.length_map] at hi; exact hi
  refine ⟨ts[i].1, ts[i].2, ?_, ?_, ht _ (List.getElem_mem hl)⟩
  · rw [List.getElem?_map, List.getElem?_eq_getElem hl]
    rfl
  · rw [← e, List.getElem?_map, List.getElem?_eq_getElem hl]
    rfl
section
variable {P : Program} {w : World} {K : PySem.W.Frag} {mg : Str → Option Value} {base : Heap}
def spRowsAre (C : Addr) : Sp := fun vs H Q _ => ∃ (b l : Addr) (own : List Pr) (ts : List (Addr × Pr)), vs = [.ref b, .ref l] ∧ TabOf C H b own ∧ Prs H l ts ∧ ts.map (·.2) = own.mergeSort le2 ∧ ∀ H', Same H H' → Q (.bl true) H'
theorem ok_rowsAre {f C CI CU : Addr} {fd : FuncData} (F : Fun K "_law_rows_are" "_law_rows_are" sRowsAre f fd) (B : Blt mg) (TK : TabK P w K mg base C CI CU) : FnOk P w K mg base CX0 3 f fd ["board", "due"] (spRowsAre C) := by
  obtain ⟨pR, fR, fdR, hpR, bR, FR⟩ := TK.rows
  obtain ⟨fL, fdL, hs, hf, bL, FL⟩ := TK.len
  have FLr : FnR P w K mg base CX0 1 fL (spTLen C) := (FL.raw bL .nil).imp fun vs H Q E h => by rw [List.append_nil]; exact h
  refine F.ok scRowsAre (fun vs H Q E h => ?_) (fun cdv A outer s H vs Q E hr h => ?_)
  · obtain ⟨b, l, own, ts, rfl, _⟩ := h
    rfl
  · obtain ⟨b, l, own, ts, rfl, hT, hD, eD, q⟩ := h
    have hz : sizeLine = 16777216 := rfl
    have hn : own.length ≤ 900 := hT.n
    have ln : ts.length = own.length := by rw [← len_sort (ps := own), ← eD, List.length_map]
    have hsg := good_sg (good_sort.mpr hT.g)
    refine ⟨_, pss_cons (ps_set (i := 2) scRowsAre.nd rfl (.inl rfl) (pe_prop (pv 0) TK.T.c hpR FR hr bR .nil pass0 (by rfl)))
      (pss_cons (ps_if (PW.pt (pw_or (pt_not (pt_val (pe_callB call_isi (by rfl) B.isi (by decide +kernel) (pa_cons (pv 2) (pa_cons (pe_bltn (by rfl) B.list PyProof.Rows.boot_list (v := .ty "list") rfl) pa_nil))))) (pw_or1 (pt_cmpR op_ne (pe_callB call_len_seq (by rfl) B.len PySem.boot_len (pa_cons (pv 2) pa_nil)) (pe_callB call_len_seq (by rfl) B.len PySem.boot_len (pa_cons (pv 1) pa_nil)) (nomark _))))) (pss_one (ps_ret pe_bl)) pss_nil)
      (pss_cons (ps_for PassesOwn.never rfl (pi_range1 (by rfl) B.range (pa_cons (pe_callB call_len_seq (by rfl) B.len PySem.boot_len (pa_cons (pv 1) pa_nil)) pa_nil)) (pg_name (i := 3) scRowsAre.nd rfl (.inl rfl))
        (pss_one (ps_if (PW.pt (pw_or (pt_not (pt_val (pe_callB call_isi (by rfl) B.isi (by decide +kernel) (pa_cons (pe_ix ix_list (pv 2) (pv 3) (fun _ _ => rfl)) (pa_cons (pe_bltn (by rfl) B.tuple PyProof.Rows.boot_tuple (v := .ty "tuple") rfl) pa_nil))))) (pw_or1 (pt_cmpR (op_neD hr.units) (pe_ix ix_list (pv 2) (pv 3) (fun _ _ => rfl)) (pe_ix ix_list (pv 1) (pv 3) (fun _ _ => rfl)) (nomark _))))) (pss_one (ps_ret pe_bl)) pss_nil)))
      (pss_cons (ps_expr (pe_bm PySem.F.plainAttrs_list PySem.F.slot_list_append PySem.F.type_list_append mt_append (pv 2) (pa_cons (pe_tup (pa_cons pe_str (pa_cons pe_str pa_nil))) pa_nil)))
      (pss_cons (ps_expr (pe_bm0 PySem.F.plainAttrs_list PySem.F.slot_list_reverse PySem.F.type_list_reverse mt_reverse (pv 2)))
      (pss_one (ps_ret (pe_and (pe_cmpR op_eq (pe_callB (call_lenO hs hf FLr hr) (by rfl) B.len PySem.boot_len (pa_cons (pv 0) pa_nil)) (pe_callB call_len_seq (by rfl) B.len PySem.boot_len (pa_cons (pv 1) pa_nil)) (nomark _)) (pe_one (pe_cmpR (op_eqD hr.units) (pe_prop (pv 0) TK.T.c hpR FR hr bR .nil pass0 (by rfl)) (pv 1) (nomark _)))))))))), ?_⟩
    obtain ⟨dx, d, h1, h2⟩ := id hT.ex
    refine ⟨.ref b, rfl, b, dx, _, rfl, h1, b, own, rfl, hT, fun p us H1 S1 np hp hus eus => ?_⟩
    have lu : us.length = own.length := by rw [← len_sort (ps := own), ← eus, List.length_map]
    have D1 := hD.same S1
    refine ⟨.ref p, rfl, .ref p, .ty "list", .type "list", .type "list", true, rfl, .ty _, .base (.lst hp), kit_ty (by decide +kernel), true, rfl, ?_⟩
    refine ⟨.ref p, rfl, p, _, rfl, .inl (sqOf hp), .ref l, rfl, l, _, rfl, .inl (sqOf D1.l), rfl, _, rfl, ?_⟩
    rw [List.length_map, List.length_map, lu, ln, decide_eq_true rfl]
    refine ⟨.ref l, rfl, l, _, rfl, .inl (sqOf D1.l), _, rfl, by rw [List.length_map]; omega, by rw [List.length_map]; omega, ?_⟩
    rw [List.length_map, ln]
    refine for_it (walk_range (lo := 0) (n := ((own.length : Nat) : Int).toNat)) (fun i σ H' => ∃ y, σ = [some (.ref b), some (.ref l), some (.ref p), y] ∧ H' = H1) ⟨none, rfl, rfl⟩ (fun _ _ _ _ _ => trivial) (fun i x σ H5 H6 hi hP hy => ?_) (fun σ H5 hP => ?_)
    · obtain ⟨y, rfl, rfl⟩ := hP
      obtain ⟨rfl, ex⟩ := hy
      have ex2 : x = .int (i : Int) := by
        rw [ex]
        show V.int (0 + (i : Int)) = _
        rw [Int.zero_add]
      subst ex2
      have hi' : i < (own.mergeSort le2).length := by rw [len_sort]; omega
      obtain ⟨a1, p1, e1, e2, e3⟩ := row_at eus hi' hus
      obtain ⟨a2, p2, e4, e5, e6⟩ := row_at eD hi' D1.t
      rw [e2] at e5
      cases e5
      have sg := hsg p1 (List.mem_of_getElem? e2)
      refine ⟨.ref p, rfl, .int (i : Int), rfl, p, _, (i : Int), .ref a1, rfl, rfl, sqOf hp, atI_nat e1, .ref a1, .ty "tuple", .type "tuple", .type "tuple", true, rfl, .ty _, .base (.tup e3), kit_ty (by decide +kernel), true, rfl, ?_⟩
      refine ⟨.ref p, rfl, .int (i : Int), rfl, p, _, (i : Int), .ref a1, rfl, rfl, sqOf hp, atI_nat e1, .ref l, rfl, .int (i : Int), rfl, l, _, (i : Int), .ref a2, rfl, rfl, sqOf D1.l, atI_nat e4, _, _, dp_2 e3, dp_2 e6, shaped_2 sg, shaped_2 sg, _, rfl, ?_⟩
      rw [eqv_self (shaped_2 sg)]
      exact ⟨_, rfl, rfl⟩
    · obtain ⟨y, rfl, rfl⟩ := hP
      refine ⟨.ref p, rfl, .inl ⟨rfl, _, sqOf hp⟩, by decide, fun t nt => ⟨p, _, _, rfl, rfl, by rw [upd_ne (ne_of_none hp nt)]; exact hp, by rw [List.length_map]; omega, ?_⟩⟩
      refine ⟨.ref p, rfl, .inl ⟨rfl, _, sqOf upd_same⟩, p, _, rfl, rfl, upd_same, ?_⟩
      have S6 : ∀ o o' o'', Same H (upd (upd (upd H5 t o) p o') p o'') := fun o o' o'' c u hc => by
        have n1 : c ≠ p := ne_of_none hc np
        rw [upd_ne n1, upd_ne n1]
        exact (S1.trans (same_upd nt)) c u hc
      generalize hH7 : upd (upd (upd H5 t (.tup [V.str (Str.ofString "5"), V.str (Str.ofString "x")])) p _) p _ = H7
      have S7 : Same H H7 := by rw [← hH7]; exact S6 _ _ _
      have D7 := hD.same S7
      have T7 := hT.same S7
      refine ⟨.ref b, rfl, b, dx, _, rfl, S7 _ _ h1, b, own, rfl, T7, own.length, rfl, by omega, .ref l, rfl, l, _, rfl, .inl (sqOf D7.l), rfl, _, rfl, ?_⟩
      rw [List.length_map, ln, decide_eq_true rfl]
      refine ⟨.ref b, rfl, b, dx, _, rfl, S7 _ _ h1, b, own, rfl, T7, fun p2 us2 H8 S8 np2 hp2 hus2 eus2 => ?_⟩
      refine ⟨.ref l, rfl, _, _, .lst (sqOf hp2) (dp_2s hus2), .lst (sqOf (D7.same S8).l) (dp_2s (D7.same S8).t), by rw [eus2]; exact shaped_2s hsg, by rw [eD]; exact shaped_2s hsg, ?_⟩
      rw [eus2, eD, eqv_self (shaped_2s hsg)]
      exact q _ (S7.trans S8)
end
end Tb
namespace Tb
open PySem PySem.Spec PyProof.Rows L2
abbrev sWays : Stmt := topS 28
abbrev sPairs : Stmt := topS 29
theorem scWays : FnScope ["bag", "found", "k"] ["bag"] (defScope sWays) := ⟨rfl, rfl, rfl, by decide +kernel, rfl, by decide +kernel, by decide +kernel⟩
theorem scPairs : FnScope ["bag", "ways", "count", "found", "known", "k", "prefix"] ["bag", "ways", "count"] (defScope sPairs) := ⟨rfl, rfl, rfl, by decide +kernel, rfl, by decide +kernel, by decide +kernel⟩
/-- two addresses that hold unlike things -/
theorem ne_of {H : Hp} {a b : Addr} {x y : HO} (h1 : H a = some x) (h2 : H b = some y) (n : x ≠ y) : a ≠ b := fun e => by
  rw [e, h2] at h1
  cases h1
  exact n rfl
/-- the drawn lanes -/
structure Ways (H : Hp) (l : Addr) (ws : List Str) : Prop where
  l : H l = some (.lst (ws.map V.str))
  n : 1 ≤ ws.length ∧ ws.length ≤ 6
  g : ∀ x ∈ ws, isLane x = true
theorem lane_tx {x : Str} (h : isLane x = true) : Tx x := ⟨by have := lane_len h; omega, lane_sg h⟩
theorem Ways.txs {H : Hp} {l : Addr} {ws : List Str} (W : Ways H l ws) : Txs H l ws := ⟨W.l, by have := W.n; omega, fun x hx => lane_tx (W.g x hx)⟩
theorem Ways.but {H H' : Hp} {l p : Addr} {ws : List Str} (W : Ways H l ws) (B : Bag H p) (h : But p H H') : Ways H' l ws := ⟨h _ _ W.l (W.txs.off B), W.n, W.g⟩
theorem Ways.same {H H' : Hp} {l : Addr} {ws : List Str} (W : Ways H l ws) (h : Same H H') : Ways H' l ws := ⟨h _ _ W.l, W.n, W.g⟩
theorem lane_of_name {t : Str} (h : Nm (tl t)) : isLane t = true := by
  unfold isLane
  rw [Bool.or_eq_true]
  exact .inr ((isName_iff t).mpr h)
section
variable {P : Program} {w : World} {K : PySem.W.Frag} {mg : Str → Option Value} {base : Heap}
def spWays : Sp := fun vs H Q _ => ∃ (p : Addr), vs = [.ref p] ∧ Bag H p ∧ ∀ (l : Addr) (ws : List Str) (H' : Hp), Ways H' l ws → H l = none → Bag H' p → But p H H' → Q (.ref l) H'
theorem ok_ways {f g g2 : Addr} {fd gd gd2 : FuncData} (F : Fun K "_law_ways" "_law_ways" sWays f fd) (D : Dd K mg "_law_draw" sDraw ["bag", "size"] g gd) (D2 : Dd K mg "_law_fresh_name" sFresh ["bag", "known"] g2 gd2) (B : Blt mg) : FnOk P w K mg base CX0 3 f fd ["bag"] spWays := by
  have GD : FnOk P w K mg base CX0 1 g gd ["bag", "size"] spDraw := ok_draw D.F B
  have G2 : FnOk P w K mg base CX0 2 g2 gd2 ["bag", "known"] spFresh := ok_fresh D2.F D B
  refine F.ok scWays (fun vs H Q E h => ?_) (fun cdv A outer s H vs Q E hr h => ?_)
  · obtain ⟨p, rfl, _⟩ := h
    rfl
  · obtain ⟨p, rfl, hB, q⟩ := h
    have hz : sizeLine = 16777216 := rfl
    have hr1 : Room 1 _ := hr.mono (show 1 ≤ 2 by decide)
    refine ⟨_, pss_cons (ps_set (i := 1) scWays.nd rfl (.inl rfl) (pe_lst pa_nil))
      (pss_cons (ps_for PassesOwn.never rfl (pi_range1 (by rfl) B.range (pa_cons (pe_op op_add pe_int (pe_call GD hr1 (by rfl) D.g D.F.kp D.b .nil pass0 (pa_cons (pv 0) (pa_cons pe_int pa_nil)))) pa_nil)) (pg_name (i := 2) scWays.nd rfl (.inl rfl))
        (pss_one (ps_expr (pe_bm PySem.F.plainAttrs_list PySem.F.slot_list_append PySem.F.type_list_append mt_append (pv 1) (pa_cons (pe_call G2 hr (by rfl) D2.g D2.F.kp D2.b .nil pass0 (pa_cons (pv 0) (pa_cons (pv 1) pa_nil))) pa_nil)))))
      (pss_one (ps_ret (pe_op op_cat (pe_lst (pa_cons pe_str pa_nil)) (pv 1))))), ?_⟩
    refine ⟨by decide, fun F nF => ?_⟩
    refine ⟨.ref p, rfl, p, 4, rfl, hB.same (same_upd nF), by decide, by decide, fun n H1 n0 n1 B1 b1 => ⟨1, n, rfl, rfl, 1 + n, rfl, by omega, by omega, ?_⟩⟩
    have hF1 : H1 F = some (.lst ([] : List V)) := b1 _ _ upd_same (fun e => by obtain ⟨_, _, _, _, hp, _⟩ := hB; rw [e, hp] at nF; cases nF)
    have b01 : But p H H1 := (Same.but (same_upd nF)).trans b1
    refine for_it (walk_range (lo := 0) (n := (1 + n).toNat)) (fun i σ H' => ∃ (y : Option V) (ks : List Str), σ = [some (.ref p), some (.ref F), y] ∧ H' F = some (.lst (ks.map V.str)) ∧ ks.length = i ∧ (∀ x ∈ ks, Nm (tl x)) ∧ Bag H' p ∧ But p H H')
      ⟨none, [], rfl, hF1, rfl, (fun x hx => by cases hx), B1, b01⟩ (fun _ _ _ _ _ => trivial) (fun i x σ H5 H6 hi hP hy => ?_) (fun σ H5 hP => ?_)
    · obtain ⟨y, ks, rfl, hF, hl, hN, B5, b5⟩ := hP
      obtain ⟨rfl, rfl⟩ := hy
      have T5 : Txs H6 F ks := ⟨hF, by omega, fun x hx => nm_tx (hN x hx)⟩
      refine ⟨.ref F, rfl, .inl ⟨rfl, _, sqOf hF⟩, .ref p, rfl, .ref F, rfl, p, F, ks, rfl, B5, T5, hN, fun z H7 Nz B7 b7 => ?_⟩
      have hF7 := (T5.but B5 b7).l
      have nFp := T5.off B5
      refine ⟨F, _, .str z, rfl, rfl, hF7, by rw [List.length_map]; omega, ?_⟩
      refine ⟨_, ks ++ [z], rfl, by rw [upd_same, List.map_append]; rfl, by rw [List.length_append, hl]; rfl, fun x hx => ?_, ?_, fun c u hc nc => ?_⟩
      · rcases List.mem_append.mp hx with hx | hx
        · exact hN x hx
        · rw [List.mem_singleton.mp hx]
          exact Nz
      · obtain ⟨n, c, m, ns, hp, rest⟩ := B7
        exact ⟨n, c, m, ns, by rw [upd_ne (Ne.symm nFp)]; exact hp, rest⟩
      · rw [upd_ne (ne_of_none hc nF)]
        exact (b5.trans b7) c u hc nc
    · obtain ⟨y, ks, rfl, hF, hl, hN, B5, b5⟩ := hP
      refine ⟨by decide, fun E nE => ⟨.ref F, rfl, E, F, _, _, rfl, rfl, upd_same, by rw [upd_ne (ne_of_none hF nE)]; exact hF, ?_, fun l nl => ?_⟩⟩
      · rw [List.length_map]
        show 1 + ks.length ≤ sizeLine
        omega
      · have S : Same H5 (upd (upd H5 E (.lst [V.str (Str.ofString "")])) l (.lst ([V.str (Str.ofString "")] ++ ks.map V.str))) := (same_upd nE).trans (same_upd nl)
        have nl0 : H l = none := by
          cases e : H l with
          | none => rfl
          | some o =>
            exfalso
            by_cases elp : l = p
            · obtain ⟨_, _, _, _, hp, _⟩ := B5.same (same_upd (o := HO.lst [V.str (Str.ofString "")]) nE)
              rw [elp, hp] at nl
              cases nl
            · rw [(same_upd nE) _ _ (b5 _ _ e elp)] at nl
              cases nl
        refine q l (Str.ofString "" :: ks) _ ⟨upd_same, by rw [List.length_cons]; omega, fun x hx => ?_⟩ nl0 (B5.same S) (b5.trans (Same.but S))
        rcases List.mem_cons.mp hx with rfl | hx
        · unfold isLane
          rw [decide_eq_true rfl]
          rfl
        · exact lane_of_name (hN x hx)
/-- the lane of a dict of texts is a text or None -/
theorem laneV_kvP (own : List Pr) (a : Str) : laneV (kvP own) a = .non ∨ ∃ z, laneV (kvP own) a = .str z ∧ ∃ q ∈ own, q.2 = z := by
  unfold laneV
  cases long (kvP own) a with
  | none => exact .inl rfl
  | some p =>
    show (valV (kvP own) (Sum.inr p)).getD .non = .non ∨ ∃ z, (valV (kvP own) (Sum.inr p)).getD .non = .str z ∧ _
    rw [valV_kvP_eq]
    cases e : own.find? fun q => decide (q.1 = p) with
    | none => exact .inl rfl
    | some q => exact .inr ⟨q.2, rfl, q, List.mem_of_find?_eq_some e, rfl⟩
end
end Tb
namespace Tb
open PySem PySem.Spec PyProof.Rows L2
theorem Bag.off {H : Hp} {p a : Addr} {o : HO} (B : Bag H p) (h : H a = none) : a ≠ p := fun e => by
  obtain ⟨_, _, _, _, hp, _⟩ := B
  rw [e, hp] at h
  cases h
theorem Bag.put {H : Hp} {p a : Addr} {o : HO} (B : Bag H p) (h : a ≠ p) : Bag (L2.upd H a o) p := by
  obtain ⟨n, c, m, ns, hp, rest⟩ := B
  exact ⟨n, c, m, ns, by rw [upd_ne (Ne.symm h)]; exact hp, rest⟩
theorem But.put {p a : Addr} {H H' : Hp} {o : HO} (b : But p H H') (h : H a = none) : But p H (L2.upd H' a o) := fun c u hc nc => by
  rw [upd_ne (ne_of_none hc h)]
  exact b c u hc nc
theorem bag_free {H H' : Hp} {p a : Addr} (B : Bag H p) (b : But p H H') (B' : Bag H' p) (h : H' a = none) : H a = none := by
  cases e : H a with
  | none => rfl
  | some o =>
    by_cases c : a = p
    · obtain ⟨_, _, _, _, hp, _⟩ := B'
      rw [c, hp] at h
      cases h
    · rw [b _ _ e c] at h
      cases h
theorem bag_no {H : Hp} {p a : Addr} (B : Bag H p) (h : H a = none) : a ≠ p := fun e => by
  obtain ⟨_, _, _, _, hp, _⟩ := B
  rw [e, hp] at h
  cases h
theorem bag_tup {H : Hp} {p a : Addr} {xs : List V} (B : Bag H p) (h : H a = some (.tup xs)) : a ≠ p := fun e => by
  obtain ⟨_, _, _, _, hp, _⟩ := B
  rw [e, hp] at h
  cases h
theorem eqV_str (x z : Str) : eqV (.str x) (.str z) = (x == z) := rfl
theorem inV_strs {z : Str} {ks : List Str} (h : inV (.str z) (ks.map V.str) = false) : z ∉ ks := fun hm => by
  unfold inV at h
  rw [List.any_map, List.any_eq_false] at h
  exact h z hm (by show eqV (.str z) (.str z) = true; rw [eqV_str]; exact beq_self_eq_true z)
section
variable {P : Program} {w : World} {K : PySem.W.Frag} {mg : Str → Option Value} {base : Heap}
def spPairs : Sp := fun vs H Q _ => ∃ (p l : Addr) (ws : List Str) (n : Int), vs = [.ref p, .ref l, .int n] ∧ Bag H p ∧ Ways H l ws ∧ 0 ≤ n ∧ n ≤ 70 ∧ ∀ (F : Addr) (ts : List (Addr × Pr)) (H' : Hp), Prs H' F ts → Good (ts.map (·.2)) → ts.length ≤ 70 → H F = none → Bag H' p → But p H H' → Q (.ref F) H'
theorem ok_pairs {f g g2 : Addr} {fd gd gd2 : FuncData} (F : Fun K "_law_pairs" "_law_pairs" sPairs f fd) (D : Dd K mg "_law_draw" sDraw ["bag", "size"] g gd) (D2 : Dd K mg "_law_prefix" sPrefix ["bag", "known"] g2 gd2) (B : Blt mg) : FnOk P w K mg base CX0 3 f fd ["bag", "ways", "count"] spPairs := by
  have GD : FnOk P w K mg base CX0 1 g gd ["bag", "size"] spDraw := ok_draw D.F B
  have G2 : FnOk P w K mg base CX0 2 g2 gd2 ["bag", "known"] spPrefix := ok_prefix D2.F D B
  refine F.ok scPairs (fun vs H Q E h => ?_) (fun cdv A outer s H vs Q E hr h => ?_)
  · obtain ⟨p, l, ws, n, rfl, _⟩ := h
    rfl
  · obtain ⟨p, l, ws, n, rfl, hB, hW, n0, n1, q⟩ := h
    have hz : sizeLine = 16777216 := rfl
    have hr1 : Room 1 _ := hr.mono (show 1 ≤ 2 by decide)
    refine ⟨_, pss_cons (ps_set (i := 3) scPairs.nd rfl (.inl rfl) (pe_lst pa_nil))
      (pss_cons (ps_set (i := 4) scPairs.nd rfl (.inl rfl) (pe_lst pa_nil))
      (pss_cons (ps_for PassesOwn.never rfl (pi_range1 (by rfl) B.range (pa_cons (pv 2) pa_nil)) (pg_name (i := 5) scPairs.nd rfl (.inl rfl))
        (pss_cons (ps_set (i := 6) scPairs.nd rfl (.inl rfl) (pe_call G2 hr (by rfl) D2.g D2.F.kp D2.b .nil pass0 (pa_cons (pv 0) (pa_cons (pv 4) pa_nil))))
        (pss_one (ps_if (pt_cmpR op_notIn_seq (pv 6) (pv 4) (by rfl))
          (pss_cons (ps_expr (pe_bm PySem.F.plainAttrs_list PySem.F.slot_list_append PySem.F.type_list_append mt_append (pv 4) (pa_cons (pv 6) pa_nil)))
          (pss_one (ps_expr (pe_bm PySem.F.plainAttrs_list PySem.F.slot_list_append PySem.F.type_list_append mt_append (pv 3) (pa_cons (pe_tup (pa_cons (pv 6) (pa_cons (pe_ix ix_list (pv 1) (pe_call GD hr1 (by rfl) D.g D.F.kp D.b .nil pass0 (pa_cons (pv 0) (pa_cons (pe_callB call_len_seq (by rfl) B.len PySem.boot_len (pa_cons (pv 1) pa_nil)) pa_nil))) (fun _ _ => rfl)) pa_nil))) pa_nil))))) pss_nil))))
      (pss_one (ps_ret (pv 3))))), ?_⟩
    refine ⟨by decide, fun F nF => ⟨by decide, fun Kn nK => ?_⟩⟩
    have FK : F ≠ Kn := fun e => by rw [e, upd_same] at nK; cases nK
    have nK0 : H Kn = none := by rw [upd_ne (Ne.symm FK)] at nK; exact nK
    have S0 : Same H (upd (upd H F (.lst [])) Kn (.lst [])) := (same_upd nF).trans (same_upd nK)
    refine ⟨.int n, rfl, n, rfl, by omega, by omega, ?_⟩
    refine for_it (walk_range (lo := 0) (n := n.toNat)) (fun i σ H' => ∃ (y5 y6 : Option V) (ts : List (Addr × Pr)), σ = [some (.ref p), some (.ref l), some (.int n), some (.ref F), some (.ref Kn), y5, y6] ∧ Prs H' F ts ∧ H' Kn = some (.lst ((ts.map fun t => t.2.1).map V.str)) ∧ ts.length ≤ i ∧ Good (ts.map (·.2)) ∧ Bag H' p ∧ But p H H')
      ⟨none, none, [], rfl, ⟨by rw [upd_ne FK]; exact upd_same, fun t ht => by cases ht⟩, upd_same, Nat.le_refl _, good_nil, hB.same S0, Same.but S0⟩ (fun _ _ _ _ _ => trivial) (fun i x σ H5 H6 hi hP hy => ?_) (fun σ H5 hP => ?_)
    · obtain ⟨y5, y6, ts, rfl, hF, hK, hl, hg, B5, b5⟩ := hP
      obtain ⟨rfl, rfl⟩ := hy
      have hAd : ∀ x ∈ ts.map (fun t => t.2.1), Ad (tl x) := fun x hx => by
        obtain ⟨t, ht, rfl⟩ := List.mem_map.mp hx
        exact (isAddr_iff _).mp (hg.1 t.2 (List.mem_map.mpr ⟨t, ht, rfl⟩)).1
      have TK : Txs H6 Kn (ts.map fun t => t.2.1) := ⟨hK, by rw [List.length_map]; omega, fun x hx => ad_tx (hAd x hx)⟩
      refine ⟨.ref p, rfl, .ref Kn, rfl, p, Kn, _, rfl, B5, TK, hAd, fun z H7 Nz B7 b7 => ?_⟩
      have nFp : F ≠ p := fun e => bag_no hB nF e
      have nKp : Kn ≠ p := fun e => bag_no hB nK0 e
      have TK7 := TK.but B5 b7
      have hF7 : H7 F = some (.lst (ts.map fun t => V.ref t.1)) := b7 _ _ hF.l nFp
      have ht7 : ∀ t ∈ ts, H7 t.1 = some (.tup [.str t.2.1, .str t.2.2]) := fun t ht => b7 _ _ (hF.t t ht) (bag_tup B5 (hF.t t ht))
      have b57 := b5.trans b7
      refine ⟨.str z, rfl, .ref Kn, rfl, Kn, _, rfl, .inl (sqOf TK7.l), rfl, flat_strs _, _, rfl, ite2 (fun e => ?_) (fun e => ?_)⟩
      · have e : inV (.str z) ((ts.map fun t => t.2.1).map V.str) = false := by simpa using e
        have hz' : z ∉ ts.map fun t => t.2.1 := inV_strs e
        refine ⟨.ref Kn, rfl, .inl ⟨rfl, _, sqOf TK7.l⟩, .str z, rfl, Kn, _, .str z, rfl, rfl, TK7.l, by rw [List.length_map, List.length_map]; omega, ?_⟩
        have hF8 : (upd H7 Kn (.lst ((ts.map fun t => t.2.1).map V.str ++ [V.str z]))) F = some (.lst (ts.map fun t => V.ref t.1)) := by rw [upd_ne FK]; exact hF7
        have ht8 : ∀ t ∈ ts, (upd H7 Kn (.lst ((ts.map fun t => t.2.1).map V.str ++ [V.str z]))) t.1 = some (.tup [.str t.2.1, .str t.2.2]) := fun t ht => by
          rw [upd_ne (ne_of (ht7 t ht) TK7.l (fun z => by cases z))]
          exact ht7 t ht
        have B8 : Bag (upd H7 Kn (.lst ((ts.map fun t => t.2.1).map V.str ++ [V.str z]))) p := B7.put nKp
        have b8 : But p H (upd H7 Kn (.lst ((ts.map fun t => t.2.1).map V.str ++ [V.str z]))) := b57.put nK0
        have hK8 : (upd H7 Kn (.lst ((ts.map fun t => t.2.1).map V.str ++ [V.str z]))) Kn = some (.lst ((ts.map fun t => t.2.1).map V.str ++ [V.str z])) := upd_same
        generalize upd H7 Kn (.lst ((ts.map fun t => t.2.1).map V.str ++ [V.str z])) = H8 at hF8 ht8 B8 b8 hK8
        have W8 := hW.but hB b8
        have wn := W8.n
        refine ⟨.ref F, rfl, .inl ⟨rfl, _, sqOf hF8⟩, .str z, rfl, .ref l, rfl, .ref p, rfl, .ref l, rfl, l, _, rfl, .inl (sqOf W8.l), p, _, rfl, B8, by rw [List.length_map]; omega, by rw [List.length_map]; omega, fun j H9 j0 j1 B9 b9 => ?_⟩
        obtain ⟨x, hx, ex⟩ := pick j0 j1
        have W9 := W8.but B8 b9
        refine ⟨l, _, j, .str x, rfl, rfl, sqOf W9.l, ex, by show 2 ≤ sizeLine; decide, fun T nT => ?_⟩
        have hF9 := b9 _ _ hF8 nFp
        have hK9 := b9 _ _ hK8 nKp
        have ht9 : ∀ t ∈ ts, H9 t.1 = some (.tup [.str t.2.1, .str t.2.2]) := fun t ht => b9 _ _ (ht8 t ht) (bag_tup B8 (ht8 t ht))
        have nTp := bag_no B9 nT
        have nT0 := bag_free hB (b8.trans b9) B9 nT
        have TF : F ≠ T := ne_of_none hF9 nT
        have TKn : Kn ≠ T := ne_of_none hK9 nT
        refine ⟨F, _, .ref T, rfl, rfl, by rw [upd_ne TF]; exact hF9, by rw [List.length_map]; omega, ?_⟩
        refine ⟨_, _, ts ++ [(T, (z, x))], rfl, ⟨?_, fun t ht => ?_⟩, ?_, ?_, ?_, ?_, ?_⟩
        · rw [upd_same, List.map_append]
          rfl
        · rcases List.mem_append.mp ht with ht | ht
          · rw [upd_ne (ne_of (ht9 t ht) hF9 (fun z => by cases z)), upd_ne (ne_of_none (ht9 t ht) nT)]
            exact ht9 t ht
          · rw [List.mem_singleton.mp ht, upd_ne (Ne.symm TF)]
            exact upd_same
        · rw [upd_ne (Ne.symm FK), upd_ne TKn, hK9, List.map_append, List.map_append]
          rfl
        · rw [List.length_append]
          show ts.length + 1 ≤ i + 1
          omega
        · rw [List.map_append]
          refine good_snoc hg ?_
          unfold ok1
          rw [(isAddr_iff z).mpr Nz, hW.g x hx]
          have nn : valV (kvP (ts.map (·.2))) (Sum.inr z) = none := by
            cases e9 : valV (kvP (ts.map (·.2))) (Sum.inr z) with
            | none => rfl
            | some v =>
              have m := (valV_kvP z _).mp (by rw [e9]; rfl)
              rw [List.map_map] at m
              exact absurd m hz'
          show (true && true && (valV (kvP (ts.map (·.2))) (Sum.inr z)).isNone) = true
          rw [nn]
          rfl
        · exact (B9.put (Ne.symm (Ne.symm nTp))).put nFp
        · exact ((b8.trans b9).put nT0).put nF
      · exact ⟨_, _, ts, rfl, ⟨hF7, ht7⟩, TK7.l, by omega, hg, B7, b57⟩
    · obtain ⟨y5, y6, ts, rfl, hF, hK, hl, hg, B5, b5⟩ := hP
      exact ⟨.ref F, rfl, q F ts _ hF hg (by omega) nF B5 b5⟩
end
end Tb
namespace Tb
open PySem PySem.Spec PyProof.Rows L2
section
variable {P : Program} {w : World} {K : PySem.W.Frag} {mg : Str → Option Value} {base : Heap}
/-- while the addresses are gathered -/
structure Gat (H0 H : Hp) (p d F : Addr) (u : HO) (ks : List Str) : Prop where
  fn : H F = some (.lst (ks.map V.str))
  dn : H d = some u
  bn : Bag H p
  rn : ∀ b o, H0 b = some o → b ≠ p → b ≠ d → H b = some o
  zn : ∀ x ∈ ks, x.length ≤ 1000
theorem Gat.put {H0 H : Hp} {p d F : Addr} {u : HO} {ks : List Str} (G : Gat H0 H p d F u ks) (nF : H0 F = none) (Fp : F ≠ p) (Fd : F ≠ d) {z : Str} (hz : z.length ≤ 1000) : Gat H0 (L2.upd H F (.lst (ks.map V.str ++ [V.str z]))) p d F u (ks ++ [z]) where
  fn := by rw [upd_same, List.map_append]; rfl
  dn := by rw [upd_ne (Ne.symm Fd)]; exact G.dn
  bn := G.bn.put Fp
  rn := fun c o hc n1 n2 => by rw [upd_ne (ne_of_none hc nF)]; exact G.rn c o hc n1 n2
  zn := fun x hx => by
    rcases List.mem_append.mp hx with hx | hx
    · exact G.zn x hx
    · rw [List.mem_singleton.mp hx]
      exact hz
theorem Gat.draw {H0 H H' : Hp} {p d F : Addr} {u : HO} {ks : List Str} (G : Gat H0 H p d F u ks) (Fp : F ≠ p) (dp : d ≠ p) (B : Bag H' p) (b : But p H H') : Gat H0 H' p d F u ks where
  fn := b _ _ G.fn Fp
  dn := b _ _ G.dn dp
  bn := B
  rn := fun c o hc n1 n2 => b _ _ (G.rn c o hc n1 n2) n1
  zn := G.zn
def spAddrs : Sp := fun vs H Q _ => ∃ (p d : Addr) (own : List Pr), vs = [.ref p, .ref d] ∧ Bag H p ∧ H d = some (.dK (kvP own)) ∧ Good own ∧ own.length ≤ 100 ∧ ∀ (F : Addr) (as : List Str) (H' : Hp), H' F = some (.lst (as.map V.str)) → (∀ a ∈ as, a.length ≤ 1000) → H F = none → Bag H' p → But p H H' → Q (.ref F) H'
theorem keys_txs {own : List Pr} (g : Good own) (hn : own.length ≤ 100) {H : Hp} {l : Addr} (h : H l = some (.lst ((kvP own).map fun kv => kV kv.1))) : Txs H l (own.map Prod.fst) ∧ ∀ x ∈ own.map Prod.fst, Ad (tl x) := by
  have e : ((kvP own).map fun kv => kV kv.1) = (own.map Prod.fst).map V.str := by
    unfold kvP
    rw [List.map_map, List.map_map]
    rfl
  have hA : ∀ x ∈ own.map Prod.fst, Ad (tl x) := fun x hx => by
    obtain ⟨q, hq, rfl⟩ := List.mem_map.mp hx
    exact (isAddr_iff _).mp (g.1 q hq).1
  exact ⟨⟨by rw [h, e], by rw [List.length_map]; exact hn, fun x hx => ad_tx (hA x hx)⟩, hA⟩
end
end Tb
namespace Tb
open PySem PySem.Spec PyProof.Rows L2
/-! ### making and calling where the errors that may come depend on the slots (in a try) -/
section
variable {X : Cx} {CX : CXT} {k : Nat} {f C : Addr} {fd : FuncData} {ps : List Str} {sp : Sp} {E : L2.St → XK} {x m : Str} {p pos apos : Pos} {e o : Expr} {es : List Expr} {ta : TE} {t : TA}
theorem run_makeS {pins : List (Addr × Obj)} {σ : L2.St} {H : Hp} {s : Shared} {Q : VK} {us : List Value} {vs : List V} (M : Mk X.K C f) (F : FnR X.prog X.w X.K X.mg X.base CX k f sp) (hr : Room (k + 1) X.A) (hx : PassesAt CX X σ (E σ)) (I : Inv X pins σ H s) (r : Vals vs us)
    (h : ∀ x dx, H x = Option.none → H dx = Option.none → dx ≠ x → sp (V.ref x :: vs) (L2.upd (L2.upd H dx (.own x)) x (.ins C dx [])) (fun v H2 => v = .non ∧ Q (.ref x) H2) (E σ)) :
    wpAny (model X.prog X.w) X.A (call (.ref C) us) (EP X pins σ Q) X.xe s := by
  have hq := h (s.heap.objs.size + 1) s.heap.objs.size (I.hok.fresh (Nat.le_succ _)) (I.hok.fresh (Nat.le_refl _)) (Nat.ne_of_lt (Nat.lt_succ_self _))
  have I2 := Inv.made (C := C) I
  have r2 : Vals (V.ref (s.heap.objs.size + 1) :: vs) (Value.ref (s.heap.objs.size + 1) :: us) := .cons rfl r
  refine wpAny_call (make_map (f := f) I.kIn M.makes M.init (beq_iff_eq.mp M.fn) (codeAny_mono (F _ X.stack _ _ (Value.ref (s.heap.objs.size + 1) :: us) _ _ (E σ) (hr.make C us []) (I2.env0.make C us []) r2 hq) fun r s' hq' => ?_))
  cases r with
  | error e => exact hx pins _ _ e s' I2 hq'
  | ok fl =>
    cases fl with
    | ret u =>
      obtain ⟨v, H', I3, rv, ev, q3⟩ := I2.after hq'
      subst ev
      exact ⟨rv, ⟨V.ref (s.heap.objs.size + 1), H', I3, rfl, q3⟩⟩
    | next => exact False.elim hq'
    | brk => exact False.elim hq'
    | cont => exact False.elim hq'
def tMakeS (C : Addr) (sp : Sp) (E : L2.St → XK) (t : TA) : TE := fun σ H Q => t σ H fun vs H1 => ∀ x dx, H1 x = Option.none → H1 dx = Option.none → dx ≠ x →
  sp (V.ref x :: vs) (L2.upd (L2.upd H1 dx (.own x)) x (.ins C dx [])) (fun v H2 => v = .non ∧ Q (.ref x) H2) (E σ)
theorem pe_makeS (M : Mk X.K C f) (F : FnR X.prog X.w X.K X.mg X.base CX k f sp) (hr : Room (k + 1) X.A) (hg : Gl X x) (hm : X.mg x = some (.ref C)) (hx : ∀ σ, PassesAt CX X σ (E σ)) (ha : PA X (e :: es) t) (hdb : (x == ("__debug__" : Str)) = false := by decide)
    (he : starEach (e :: es) X.env = (false, eval e X.env) :: starEach es X.env := by rfl) (hpl : (backTo pos (starEach es X.env)).any (·.1) = false := by rfl) : PE X (.Call (.Name x p) (e :: es) [] pos) (tMakeS C sp E t) := by
  refine ⟨fun pins s σ H Q I h => ?_⟩
  refine wpAny_Call_Name_kw (ld_glob I hg hm ?_ hdb)
  refine PySem.W.callWith_K (h₀ := X.base) I.ok.mod.kin M.kp (thn (ha.run pos pins s σ H _ I h) fun us s1 ⟨vs, H1, I1, r, q⟩ => ⟨I1.kIn, ?_⟩) he hpl
  exact run_makeS M F hr (hx σ) I1 r q
def tMethS (C : Addr) (m : Str) (sp : Sp) (E : L2.St → XK) (ta : TE) (t : TA) : TE := fun σ H Q => ta σ H fun x H1 => ∃ a dx fs, x = .ref a ∧ H1 a = some (.ins C dx fs) ∧ fs.lookup m = none ∧
  t σ H1 fun vs H2 => sp (x :: vs) H2 Q (E σ)
theorem pe_methS {pl : Sem Bool} (he : PE X o ta) (c : Cls X.K C) (hm : Meth X.K C m f) (F : FnOk X.prog X.w X.K X.mg X.base CX k f fd ps sp) (hr : Room k X.A) (hb : Binds X.K fd ps []) (hx : ∀ σ, PassesAt CX X σ (E σ)) (ha : PA X (e :: es) t)
    (hst : starEach (e :: es) X.env = (false, eval e X.env) :: starEach es X.env := by rfl) (hpl : (backTo pos (starEach es X.env)).any (·.1) = false := by rfl)
    (ht : eval (.Call (.Attribute o m apos) (e :: es) [] pos) X.env = (do
      let ov ← eval o X.env
      standAt apos.atName
      let (f, first) ← holding [ov] (getMethod ov m pl)
      callWith pos f first (backTo pos (starEach (e :: es) X.env)) (backToKw pos (keywordEach [] X.env))) := by rfl) :
    PE X (.Call (.Attribute o m apos) (e :: es) [] pos) (tMethS C m sp E ta t) := by
  refine ⟨fun pins s σ H Q I h => ?_⟩
  refine PySem.W.methodCall_KW (pl := pl) (thn (he.run pins s σ H _ I h) fun u s1 ⟨x, H1, I1, rx, a, dx, fs, ex, ea, l, q⟩ => ?_) ht
  subst ex
  obtain rfl : u = Value.ref a := rx
  refine getmeth_ok I1 ea c hm l ?_
  refine PySem.W.callWith_K (first := [.ref a]) (h₀ := X.base) I.ok.mod.kin hm.kp (thn (ha.run pos pins s1 σ H1 _ I1 q) fun us s2 ⟨vs, H2, I2, r, q2⟩ => ⟨I2.kIn, ?_⟩) hst hpl
  exact run_fnS (us := .ref a :: us) (vs := .ref a :: vs) F hr hb (hx σ) I2 (.cons rfl r) q2
end
theorem tab_made2 {C CI : Addr} {H : Hp} {r x dx : Addr} {lst : Bool} {ts : List (Addr × Pr)} {R : VK} {E : XK} (RA : RowsAt H r lst ts) (hn : ts.length ≤ 900) (nx : H x = none) (ndx : H dx = none) (hne : dx ≠ x)
    (qG : Good (ts.map (·.2)) → ∀ H', Same H H' → TabOf C H' x (ts.map (·.2)) → R .non H')
    (qB : ¬ Good (ts.map (·.2)) → ∀ e H', Same H H' → H' e = some (.xd [(wWhat, .str wTable)]) → E (.ref CI) (some e) H') :
    spInit C CI [V.ref x, V.ref r] (L2.upd (L2.upd H dx (.own x)) x (.ins C dx [])) R E := by
  have S0 : Same H (L2.upd (L2.upd H dx (.own x)) x (.ins C dx [])) := (same_upd ndx).trans (same_upd (by rw [upd_ne (Ne.symm hne)]; exact nx))
  refine ⟨x, dx, r, lst, ts, rfl, upd_same, RA.same S0, fun g d H' S nd hx hd => ?_, fun g e H' S he => qB g e H' (S0.trans S) he⟩
  refine qG g H' (fun b o hb => ?_) ⟨⟨dx, d, hx, hd⟩, g, by rw [List.length_map]; exact hn⟩
  exact S b o (S0 _ _ hb) (fun e => by rw [e, nx] at hb; cases hb)
/-- the errors' classes, as the module has them -/
structure Errs (K : PySem.W.Frag) (mg : Str → Option Value) (CI gI : Addr) (gdI : FuncData) (CU gU : Addr) (gdU : FuncData) (CP : Addr) : Prop where
  I : EInv K mg CI gI gdI
  U : EUnk K mg CU gU gdU
  gP : mg "ParcelError" = some (.ref CP)
  ve : mg "ValueError" = none
  kP : PySem.W.kitOne K (.ref CI) (.ref CP) = some true
  kV : PySem.W.kitOne K (.ref CI) (.type "ValueError") = some true
  kU : PySem.W.kitOne K (.ref CI) (.ref CU) = some false
  exI : PySem.W.exmOne K (.ref CI) (.ref CI) = some true
  exU : PySem.W.exmOne K (.ref CU) (.ref CU) = some true
  exN : PySem.W.exmOne K (.ref CU) (.ref CI) = some false
section
variable {P : Program} {w : World} {K : PySem.W.Frag} {mg : Str → Option Value} {base : Heap}
end
end Tb
namespace Tb
open PySem PySem.Spec PyProof.Rows L2
open PySem.W (TotalLe dataLe)
/-! ### addresses by length, then as texts -/
def encA (a : Str) : PyData := .tuple [.int (a.length : Int), .str a]
def leA (a b : Str) : Bool := dataLe false encA a b
theorem ltA (a b : Str) : PySem.W.dataLt (encA a) (encA b) = if a.length = b.length then sLt a b else decide (a.length < b.length) := by
  have q : ∀ x y : Str, PyData.eqv (.str x) (.str y) = decide (x = y) := fun x y => by rw [PyData.eqv]; exact Bool.beq_eq_decide_eq x y
  have qi : ∀ x y : Int, PyData.eqv (.int x) (.int y) = decide (x = y) := fun x y => by rw [PyData.eqv]; exact Bool.beq_eq_decide_eq x y
  unfold encA
  rw [PySem.W.dataLt_pair (by simp [PySem.W.alike]) (by simp [PySem.W.alike]), q, qi, PySem.W.dataLt_str, PySem.W.dataLt_int]
  by_cases c : a.length = b.length
  · rw [if_pos (decide_eq_true (by rw [c])), if_pos c]
    by_cases c2 : a = b
    · rw [if_pos (decide_eq_true c2), c2]
      exact (decide_eq_false (List.lt_irrefl _)).symm
    · rw [if_neg (by simpa using c2)]
      rfl
  · rw [if_neg (by rw [decide_eq_true_eq]; omega), if_neg c]
    exact decide_eq_decide.mpr Int.ofNat_lt
theorem leA_eq (a b : Str) : leA a b = !(if b.length = a.length then sLt b a else decide (b.length < a.length)) := by
  unfold leA
  rw [PySem.W.dataLe_eq]
  show (!PySem.W.dataLt (encA b) (encA a)) = _
  rw [ltA]
theorem leA_anti {a b : Str} (h1 : leA a b = true) (h2 : leA b a = true) : a = b := by
  rw [leA_eq, Bool.not_eq_true'] at h1 h2
  by_cases c : a.length = b.length
  · rw [if_pos c.symm] at h1
    rw [if_pos c] at h2
    exact sLt_tri h2 h1
  · rw [if_neg (Ne.symm c)] at h1
    rw [if_neg c] at h2
    have := of_decide_eq_false h1
    have := of_decide_eq_false h2
    omega
theorem leA_refl (a : Str) : leA a a = true := by
  rw [leA_eq, if_pos rfl]
  unfold sLt
  rw [decide_eq_false (List.lt_irrefl _)]
  rfl
theorem leA_len {a b : Str} (h : a.length < b.length) : leA a b = true := by
  rw [leA_eq, if_neg (by omega), decide_eq_false (by omega)]
  rfl
/-! ### lanes by the first n digits -/
def laneN (kvs : Kvs) (a : Str) (n : Nat) : V := match lp kvs a n with
  | none => .non
  | some p => (valV kvs (Sum.inr p)).getD .non
theorem laneV_N (kvs : Kvs) (a : Str) : laneV kvs a = laneN kvs a a.length := rfl
theorem laneN_yes {kvs : Kvs} {a : Str} {n : Nat} {v : V} (h : valV kvs (Sum.inr (pre a (n + 1))) = some v) : laneN kvs a (n + 1) = v := by
  unfold laneN lp
  rw [h]
  show (valV kvs (Sum.inr (pre a (n + 1)))).getD V.non = v
  rw [h]
  rfl
theorem laneN_no {kvs : Kvs} {a : Str} {n : Nat} (h : valV kvs (Sum.inr (pre a (n + 1))) = none) : laneN kvs a (n + 1) = laneN kvs a n := by
  unfold laneN
  conv => lhs; unfold lp
  rw [h]
  rfl
theorem pre_tl (a : Str) (n : Nat) : tl (pre a n) = (tl a).take n := tl_hi a n
theorem pre_len {a : Str} {n : Nat} (h : n ≤ a.length) : (pre a n).length = n := by
  rw [len_tl, pre_tl, List.length_take, ← len_tl]
  omega
theorem pre_pre {a : Str} {n k : Nat} (h : k ≤ n) : pre (pre a n) k = pre a k := tl_inj (by rw [pre_tl, pre_tl, pre_tl, List.take_take, Nat.min_eq_left h])
theorem pre_all (a : Str) : pre a a.length = a := tl_inj (by rw [pre_tl, len_tl, List.take_length])
theorem lp_pre {kvs : Kvs} {a : Str} {m : Nat} : ∀ n, n ≤ m → lp kvs (pre a m) n = lp kvs a n
  | 0, _ => rfl
  | n + 1, h => by
    unfold lp
    rw [pre_pre h, lp_pre n (by omega)]
theorem laneN_pre {kvs : Kvs} {a : Str} {m n : Nat} (h : n ≤ m) : laneN kvs (pre a m) n = laneN kvs a n := by
  unfold laneN
  rw [lp_pre n h]
theorem laneV_pre {kvs : Kvs} {a : Str} {n : Nat} (h : n ≤ a.length) : laneV kvs (pre a n) = laneN kvs a n := by
  rw [laneV_N, pre_len h, laneN_pre (Nat.le_refl _)]
/-- without the last sign -/
abbrev bl (a : Str) : Str := cutS a none (some (-1))
theorem bl_tl (z : Str) (h : 1 ≤ z.length) : tl (bl z) = (tl z).take ((tl z).length - 1) := by
  show ((z.cps.toList.drop (HT.sIx z.length 0 none)).take (HT.sIx z.length z.length (some (-1)) - HT.sIx z.length 0 none)).toArray.toList = _
  have e : HT.sIx z.length z.length (some (-1)) = z.length - 1 := by
    unfold HT.sIx
    first
      | omega
      | (simp; omega)
      | (split <;> omega)
  rw [List.toList_toArray, e, HT.sIx_none, List.drop_zero, Nat.sub_zero, len_tl]
theorem bl_pre {a : Str} (h : 1 ≤ a.length) : bl a = pre a (a.length - 1) := tl_inj (by rw [bl_tl a h, pre_tl, len_tl])
theorem bl_step {a : Str} {n : Nat} (h : n + 1 ≤ a.length) : bl (pre a (n + 1)) = pre a n := by
  rw [bl_pre (by rw [pre_len h]; omega), pre_len h, pre_pre (by omega)]
  rfl
/-- the lane of the address less its last digit -/
theorem laneV_bl {kvs : Kvs} {a : Str} {n : Nat} (h : n + 1 ≤ a.length) : laneV kvs (bl (pre a (n + 1))) = laneN kvs a n := by
  rw [bl_step h, laneV_pre (by omega)]
theorem val_none {ps : List Pr} {k : Str} (h : k ∉ ps.map Prod.fst) : valV (kvP ps) (Sum.inr k) = none := by
  cases e : valV (kvP ps) (Sum.inr k) with
  | none => rfl
  | some v => exact absurd ((valV_kvP k ps).mp (by rw [e]; rfl)) h
theorem laneV_key {ps : List Pr} (g : Good ps) {p : Pr} (h : p ∈ ps) : laneV (kvP ps) p.1 = .str p.2 := by
  have hl := (g.1 p h).1
  have h1 : 1 ≤ p.1.length := by
    have := ((isAddr_iff _).mp hl).1
    rw [len_tl]
    exact this
  obtain ⟨n, hn⟩ : ∃ n, p.1.length = n + 1 := ⟨p.1.length - 1, by omega⟩
  rw [laneV_N, hn]
  refine laneN_yes ?_
  rw [← hn, pre_all]
  exact valV_mem g.2 h
theorem key_len {ps : List Pr} (g : Good ps) {x : Str} (h : x ∈ ps.map Prod.fst) : 1 ≤ x.length := by
  obtain ⟨p, hp, rfl⟩ := List.mem_map.mp h
  have := ((isAddr_iff _).mp (g.1 p hp).1).1
  rw [len_tl]
  exact this
theorem laneV_nokey {ps : List Pr} {x : Str} (h1 : 1 ≤ x.length) (h : x ∉ ps.map Prod.fst) : laneV (kvP ps) x = laneV (kvP ps) (bl x) := by
  obtain ⟨n, hn⟩ : ∃ n, x.length = n + 1 := ⟨x.length - 1, by omega⟩
  rw [laneV_N, hn, laneN_no (by rw [← hn, pre_all]; exact val_none h), bl_pre h1, laneV_pre (by omega), hn]
  rfl
/-! ### the least table -/
def isRow (own : List Pr) (p : Pr) : Bool := !decide (V.str p.2 = laneV (kvP own) (bl p.1))
def leastR (own : List Pr) : List Pr := (own.mergeSort le2).filter (isRow own)
theorem mem_least {own : List Pr} {p : Pr} : p ∈ leastR own ↔ p ∈ own ∧ V.str p.2 ≠ laneV (kvP own) (bl p.1) := by
  unfold leastR isRow
  rw [List.mem_filter, mem_sort, Bool.not_eq_true', decide_eq_false_iff_not]
theorem least_pw (own : List Pr) : (leastR own).Pairwise fun a b => le2 a b = true := List.Pairwise.filter _ (PySem.W.sort_pairwise le2_total own)
theorem nodup_of_keys {ps : List Pr} (h : (ps.map Prod.fst).Nodup) : ps.Nodup := List.Pairwise.of_map Prod.fst (fun _ _ hne e => hne (congrArg Prod.fst e)) h
theorem good_filter {ps : List Pr} (g : Good ps) (f : Pr → Bool) : Good (ps.filter f) := ⟨fun p hp => g.1 p (List.mem_filter.mp hp).1, (List.Sublist.map Prod.fst List.filter_sublist).nodup g.2⟩
theorem least_good {own : List Pr} (g : Good own) : Good (leastR own) := good_filter (good_sort.mpr g) _
theorem least_len (own : List Pr) : (leastR own).length ≤ own.length := by
  have := List.length_filter_le (isRow own) (own.mergeSort le2)
  rw [len_sort] at this
  exact this
theorem least_sort (own : List Pr) : (leastR own).mergeSort le2 = leastR own :=
  List.Perm.eq_of_pairwise (le := fun a b => le2 a b = true) (fun a b _ _ h1 h2 => le2_anti h1 h2) (PySem.W.sort_pairwise le2_total _) (least_pw own) (List.mergeSort_perm _ le2)
theorem least_N {own : List Pr} (g : Good own) (a : Str) : ∀ n, n ≤ a.length → laneN (kvP (leastR own)) a n = laneN (kvP own) a n
  | 0, _ => rfl
  | n + 1, h => by
    have ih := least_N g a n (by omega)
    by_cases c : pre a (n + 1) ∈ own.map Prod.fst
    · obtain ⟨p, hp, e⟩ := List.mem_map.mp c
      have e1 : laneN (kvP own) a (n + 1) = .str p.2 := laneN_yes (by rw [← e]; exact valV_mem g.2 hp)
      by_cases d : V.str p.2 = laneN (kvP own) a n
      · rw [laneN_no (val_none fun m => ?_), ih, e1, d]
        obtain ⟨q, hq, e2⟩ := List.mem_map.mp m
        obtain ⟨hq1, hq2⟩ := mem_least.mp hq
        have v1 := valV_mem g.2 hp
        have v2 := valV_mem g.2 hq1
        rw [e] at v1
        rw [e2, v1] at v2
        have e3 : V.str p.2 = V.str q.2 := Option.some.inj v2
        refine hq2 ?_
        rw [← e3, e2, laneV_bl h]
        exact d
      · have m : p ∈ leastR own := mem_least.mpr ⟨hp, by rw [e, laneV_bl h]; exact d⟩
        rw [e1]
        exact laneN_yes (by rw [← e]; exact valV_mem (least_good g).2 m)
    · rw [laneN_no (val_none c), laneN_no (val_none fun m => c ?_), ih]
      obtain ⟨q, hq, e2⟩ := List.mem_map.mp m
      exact List.mem_map.mpr ⟨q, (mem_least.mp hq).1, e2⟩
theorem least_lane {own : List Pr} (g : Good own) (a : Str) : laneV (kvP (leastR own)) a = laneV (kvP own) a := least_N g a _ (Nat.le_refl _)
theorem least_least {own : List Pr} (g : Good own) : leastR (leastR own) = leastR own := by
  unfold leastR
  rw [show ((own.mergeSort le2).filter (isRow own)) = leastR own from rfl, least_sort, List.filter_eq_self]
  intro p hp
  have h := (mem_least.mp hp).2
  unfold isRow
  rw [least_lane g, decide_eq_false h]
  rfl
/-! ### parting -/
def keys2 (one two : List Pr) : List Str := one.map Prod.fst ++ two.map Prod.fst
def unl (one two : List Pr) (x : Str) : Prop := laneV (kvP one) x ≠ laneV (kvP two) x
structure IsPart (one two : List Pr) (r : Option Str) : Prop where
  no : r = none → ∀ x ∈ keys2 one two, ¬ unl one two x
  yes : ∀ z, r = some z → z ∈ keys2 one two ∧ unl one two z ∧ ∀ y ∈ keys2 one two, unl one two y → leA z y = true
theorem IsPart.uniq {one two : List Pr} {r r' : Option Str} (h : IsPart one two r) (h' : IsPart one two r') : r = r' := by
  cases r with
  | none =>
    cases r' with
    | none => rfl
    | some z => exact absurd (h'.yes z rfl).2.1 (h.no rfl z (h'.yes z rfl).1)
  | some z =>
    obtain ⟨a1, a2, a3⟩ := h.yes z rfl
    cases r' with
    | none => exact absurd a2 (h'.no rfl z a1)
    | some z' =>
      obtain ⟨b1, b2, b3⟩ := h'.yes z' rfl
      rw [leA_anti (a3 z' b1 b2) (b3 z a1 a2)]
theorem keys2_symm {one two : List Pr} {x : Str} : x ∈ keys2 one two ↔ x ∈ keys2 two one := by
  unfold keys2
  rw [List.mem_append, List.mem_append]
  exact Or.comm
theorem IsPart.symm {one two : List Pr} {r : Option Str} (h : IsPart one two r) : IsPart two one r :=
  ⟨fun e x hx u => h.no e x (keys2_symm.mpr hx) (Ne.symm u), fun z e => let ⟨a, b, c⟩ := h.yes z e; ⟨keys2_symm.mp a, Ne.symm b, fun y hy u => c y (keys2_symm.mpr hy) (Ne.symm u)⟩⟩
theorem IsPart.congr {one one' two two' : List Pr} {r : Option Str} (p1 : one.Perm one') (p2 : two.Perm two') (n1 : (one.map Prod.fst).Nodup) (n2 : (two.map Prod.fst).Nodup) (h : IsPart one two r) : IsPart one' two' r := by
  have k : ∀ x, x ∈ keys2 one' two' ↔ x ∈ keys2 one two := fun x => by
    unfold keys2
    rw [List.mem_append, List.mem_append, (p1.map Prod.fst).mem_iff, (p2.map Prod.fst).mem_iff]
  have l1 : ∀ x, laneV (kvP one) x = laneV (kvP one') x := fun x => laneV_congr (fun k => valV_perm p1 n1 k) x
  have l2 : ∀ x, laneV (kvP two) x = laneV (kvP two') x := fun x => laneV_congr (fun k => valV_perm p2 n2 k) x
  have u : ∀ x, unl one' two' x ↔ unl one two x := fun x => by
    unfold unl
    rw [l1, l2]
  exact ⟨fun e x hx z => h.no e x ((k x).mp hx) ((u x).mp z), fun z e => let ⟨a, b, c⟩ := h.yes z e; ⟨(k z).mpr a, (u z).mpr b, fun y hy w => c y ((k y).mp hy) ((u y).mp w)⟩⟩
/-- found in a walk in that order -/
theorem part_at {one two : List Pr} {zs : List Str} (pw : zs.Pairwise fun a b => leA a b = true) (mem : ∀ x, x ∈ zs ↔ x ∈ keys2 one two) {i : Nat} {z : Str} (hz : zs[i]? = some z) (before : ∀ j x, j < i → zs[j]? = some x → ¬ unl one two x) (u : unl one two z) : IsPart one two (some z) := by
  refine ⟨fun e => (by cases e), fun z' e => ?_⟩
  cases e
  refine ⟨(mem z).mp (List.mem_of_getElem? hz), u, fun y hy w => ?_⟩
  obtain ⟨j, hj⟩ := List.mem_iff_getElem?.mp ((mem y).mpr hy)
  obtain ⟨li, ei⟩ := List.getElem?_eq_some_iff.mp hz
  obtain ⟨lj, ej⟩ := List.getElem?_eq_some_iff.mp hj
  rcases Nat.lt_trichotomy i j with c | c | c
  · have q := List.pairwise_iff_getElem.mp pw i j li lj c
    rw [ei, ej] at q
    exact q
  · subst c
    rw [ei] at ej
    rw [ej]
    exact leA_refl y
  · exact absurd w (before j y c hj)
theorem part_end {one two : List Pr} {zs : List Str} (mem : ∀ x, x ∈ zs ↔ x ∈ keys2 one two) (before : ∀ j x, j < zs.length → zs[j]? = some x → ¬ unl one two x) : IsPart one two none :=
  ⟨fun _ x hx => by
    obtain ⟨j, hj⟩ := List.mem_iff_getElem?.mp ((mem x).mpr hx)
    exact before j x (List.getElem?_eq_some_iff.mp hj).1 hj, fun z e => by cases e⟩
/-- alike at all keys: alike everywhere -/
theorem alike_N {one two : List Pr} (h : ∀ x ∈ keys2 one two, ¬ unl one two x) (a : Str) : ∀ n, n ≤ a.length → laneN (kvP one) a n = laneN (kvP two) a n
  | 0, _ => rfl
  | n + 1, hn => by
    by_cases c : pre a (n + 1) ∈ keys2 one two
    · rw [← laneV_pre hn, ← laneV_pre hn]
      exact Classical.not_not.mp (h _ c)
    · have c1 : pre a (n + 1) ∉ one.map Prod.fst := fun z => c (List.mem_append_left _ z)
      have c2 : pre a (n + 1) ∉ two.map Prod.fst := fun z => c (List.mem_append_right _ z)
      rw [laneN_no (val_none c1), laneN_no (val_none c2)]
      exact alike_N h a n (by omega)
theorem alike_all {one two : List Pr} (h : ∀ x ∈ keys2 one two, ¬ unl one two x) (a : Str) : laneV (kvP one) a = laneV (kvP two) a := alike_N h a _ (Nat.le_refl _)
theorem least_sub {one two : List Pr} (g : Good one) (g2 : Good two) (h : ∀ a, laneV (kvP one) a = laneV (kvP two) a) {p : Pr} (hp : p ∈ leastR one) : p ∈ leastR two := by
  obtain ⟨m, u⟩ := mem_least.mp hp
  have k := laneV_key g m
  rw [h] at k
  have l1 := key_len g (List.mem_map.mpr ⟨p, m, rfl⟩)
  by_cases c : p.1 ∈ two.map Prod.fst
  · obtain ⟨q, hq, e⟩ := List.mem_map.mp c
    have k2 := laneV_key g2 hq
    rw [e, k] at k2
    have e2 : p.2 = q.2 := V.str.inj k2
    have : p = q := Prod.ext e.symm e2
    rw [this] at u ⊢
    exact mem_least.mpr ⟨hq, by rw [← h]; exact u⟩
  · rw [laneV_nokey l1 c, ← h] at k
    exact absurd k.symm u
theorem least_same {one two : List Pr} (g : Good one) (g2 : Good two) (h : ∀ a, laneV (kvP one) a = laneV (kvP two) a) : leastR one = leastR two := by
  refine List.Perm.eq_of_pairwise (le := fun a b => le2 a b = true) (fun a b _ _ h1 h2 => le2_anti h1 h2) (least_pw one) (least_pw two) ?_
  exact (List.perm_ext_iff_of_nodup (nodup_of_keys (least_good g).2) (nodup_of_keys (least_good g2).2)).mpr fun p => ⟨least_sub g g2 h, least_sub g2 g fun a => (h a).symm⟩
/-- the least tables are the same exactly if nothing parts -/
theorem least_iff {one two : List Pr} (g : Good one) (g2 : Good two) {r : Option Str} (P : IsPart one two r) : leastR one = leastR two ↔ r = none := by
  constructor
  · intro e
    cases r with
    | none => rfl
    | some z =>
      refine absurd ?_ (P.yes z rfl).2.1
      rw [← least_lane g, e, least_lane g2]
  · intro e
    exact least_same g g2 (alike_all (P.no e))
theorem part_least {own : List Pr} (g : Good own) : IsPart (leastR own) own none := ⟨fun _ x _ u => u (least_lane g x), fun z e => by cases e⟩
/-! ### without one row -/
theorem drop_mem {ps : List Pr} {k x : Str} : x ∈ (dropP ps k).map Prod.fst ↔ x ∈ ps.map Prod.fst ∧ x ≠ k := by
  unfold dropP
  simp only [List.mem_map, List.mem_filter, decide_eq_true_eq]
  constructor
  · rintro ⟨q, ⟨h1, h2⟩, rfl⟩
    exact ⟨⟨q, h1, rfl⟩, h2⟩
  · rintro ⟨⟨q, h1, rfl⟩, h2⟩
    exact ⟨q, ⟨h1, h2⟩, rfl⟩
theorem drop_val {ps : List Pr} (g : Good ps) {k x : Str} (n : x ≠ k) : valV (kvP (dropP ps k)) (Sum.inr x) = valV (kvP ps) (Sum.inr x) := by
  by_cases c : x ∈ ps.map Prod.fst
  · obtain ⟨q, hq, rfl⟩ := List.mem_map.mp c
    rw [valV_mem g.2 hq, valV_mem (drop_good g).2 (List.mem_filter.mpr ⟨hq, decide_eq_true n⟩)]
  · rw [val_none c, val_none fun z => c (drop_mem.mp z).1]
theorem drop_N {ps : List Pr} (g : Good ps) {k y : Str} : ∀ n, (∀ m, m ≤ n → pre y m ≠ k) → laneN (kvP (dropP ps k)) y n = laneN (kvP ps) y n
  | 0, _ => rfl
  | n + 1, h => by
    have ih := drop_N g (k := k) (y := y) n fun m hm => h m (by omega)
    have e := drop_val g (h (n + 1) (Nat.le_refl _))
    cases c : valV (kvP ps) (Sum.inr (pre y (n + 1))) with
    | none => rw [laneN_no c, laneN_no (e.trans c), ih]
    | some v => rw [laneN_yes c, laneN_yes (e.trans c)]
theorem part_drop {own : List Pr} (g : Good own) {p : Pr} (hp : p ∈ leastR own) : IsPart (dropP (leastR own) p.1) own (some p.1) := by
  obtain ⟨m, u⟩ := mem_least.mp hp
  have l1 := key_len g (List.mem_map.mpr ⟨p, m, rfl⟩)
  obtain ⟨n, hn⟩ : ∃ n, p.1.length = n + 1 := ⟨p.1.length - 1, by omega⟩
  have gl := least_good g
  refine ⟨fun e => (by cases e), fun z e => ?_⟩
  cases e
  refine ⟨List.mem_append_right _ (List.mem_map.mpr ⟨p, m, rfl⟩), ?_, fun y _ w => ?_⟩
  · show laneV _ p.1 ≠ laneV _ p.1
    rw [laneV_key g m, laneV_N, hn, laneN_no (by rw [← hn, pre_all]; exact val_none fun z => (drop_mem.mp z).2 rfl), drop_N gl n fun k hk e => ?_, least_N g _ _ (by omega)]
    · refine Ne.symm ?_
      rw [bl_pre l1, laneV_pre (by omega), hn] at u
      exact u
    · have h2 := pre_len (a := p.1) (n := k) (by omega)
      rw [e] at h2
      omega
  · by_cases c : p.1.length < y.length
    · exact leA_len c
    · by_cases d : y = p.1
      · rw [d]
        exact leA_refl _
      · refine absurd ?_ w
        rw [laneV_N, laneV_N, drop_N gl _ fun k hk e => ?_, least_N g _ _ (Nat.le_refl _)]
        have h2 := pre_len hk
        rw [e] at h2
        have : k = y.length := by omega
        rw [this, pre_all] at e
        exact d e
end Tb
namespace Tb
open PySem PySem.Spec PyProof.Rows L2
open PySem.W (EachIs AllAlike Sortable dataLe)
/-- a def of the text and what it promises -/
structure C1 (P : Program) (w : World) (K : PySem.W.Frag) (mg : Str → Option Value) (base : Heap) (x : Str) (st : Stmt) (ps : List Str) (l : Nat) (sp : Sp) (g : Addr) (gd : FuncData) : Prop where
  D : Dd K mg x st ps g gd
  G : FnOk P w K mg base CX0 l g gd ps sp
abbrev sByLen : Stmt := topS 16
abbrev NByLen : List Str := ["addresses", "pairs", "address", "pair"]
theorem scByLen : FnScope NByLen ["addresses"] (defScope sByLen) := ⟨rfl, rfl, rfl, by decide +kernel, rfl, by decide +kernel, by decide +kernel⟩
/-- a pair (length, text) at its place -/
abbrev pT (H : Hp) (u : Addr × Str) : Prop := H u.1 = some (.tup [.int (u.2.length : Int), .str u.2])
def kT (u : Addr × Str) : Addr × List Key := (u.1, [Sum.inl (u.2.length : Int), Sum.inr u.2])
theorem sub_map {α β : Type} {f : α → β} {us : List α} : ∀ {L : List β}, (∀ p ∈ L, ∃ u ∈ us, p = f u) → ∃ M : List α, L = M.map f ∧ ∀ u ∈ M, u ∈ us
  | [], _ => ⟨[], rfl, fun u h => by cases h⟩
  | p :: L, h => by
    obtain ⟨u, hu, e⟩ := h p List.mem_cons_self
    obtain ⟨M, eM, hM⟩ := sub_map fun q hq => h q (List.mem_cons_of_mem _ hq)
    refine ⟨u :: M, by rw [List.map_cons, ← e, ← eM], fun v hv => ?_⟩
    rcases List.mem_cons.mp hv with rfl | hv
    · exact hu
    · exact hM v hv
theorem each_map_eq {α β : Type} {g : α → β} : ∀ {bs : List β} {M : List α}, EachIs (fun b u => b = g u) bs M → bs = M.map g
  | _, _, .nil => rfl
  | _, _, .cons h t => by rw [h, each_map_eq t]; rfl
theorem each_map_of {α β : Type} (g : α → β) : ∀ M : List α, EachIs (fun b u => b = g u) (M.map g) M
  | [] => .nil
  | _ :: M => .cons rfl (each_map_of g M)
theorem perm_map {α β : Type} {g : α → β} {cs : List β} {M : List α} (p : cs.Perm (M.map g)) : ∃ N : List α, N.Perm M ∧ cs = N.map g := by
  obtain ⟨N, h1, h2⟩ := SH.each_perm p.symm (each_map_of g M)
  exact ⟨N, h1, each_map_eq h2⟩
theorem alike_A (L : List Str) : AllAlike (L.map encA) := fun d hd d' hd' => by
  obtain ⟨x, _, rfl⟩ := List.mem_map.mp hd
  obtain ⟨y, _, rfl⟩ := List.mem_map.mp hd'
  simp [encA, PySem.W.alike, PySem.W.alikeAll]
theorem sortable_A (L : List Str) : Sortable (L.map encA) := .inl fun d hd => by
  obtain ⟨x, _, rfl⟩ := List.mem_map.mp hd
  exact ⟨_, _, rfl⟩
theorem depth_A (x : Str) : (encA x).depth ≤ 10 := by simp [encA, PyData.depth, PyData.depthAll]
theorem dp_A {K : PySem.W.Frag} {H : Hp} {u : Addr × Str} (h : pT H u) : Dp K H (.ref u.1) (encA u.2) := .tup (.of h) (.cons (.int _) (.cons (.str _) .nil))
/-- a text list by length -/
def spByLen (K : PySem.W.Frag) : Sp := fun vs H Q _ => ∃ (l : Addr) (ks : List Str), vs = [.ref l] ∧ SqL K H l (ks.map V.str) ∧ ks.length ≤ 300 ∧ (∀ x ∈ ks, x.length ≤ 1000) ∧
  ∀ (F : Addr) (zs : List Str) (H' : Hp), Same H H' → H F = none → H' F = some (.lst (zs.map V.str)) → zs.Pairwise (fun a b => leA a b = true) → (∀ x, x ∈ zs ↔ x ∈ ks) → zs.length ≤ 300 → Q (.ref F) H'
section
variable {P : Program} {w : World} {K : PySem.W.Frag} {mg : Str → Option Value} {base : Heap}
/-- a dict and an address in; what g says out, the heap as it was -/
def spDR (g : Kvs → Str → V) : Sp := fun vs H Q _ => ∃ (d : Addr) (kvs : Kvs) (a : Str), vs = [.ref d, .str a] ∧ Rd H d (.dK kvs) ∧ a.length ≤ 1000 ∧ Q (g kvs a) H
theorem ok_longR {f : Addr} {fd : FuncData} {k : Nat} (F : Fun K "longest_prefix" "longest_prefix" sLong f fd) (B : Blt mg) : FnOk P w K mg base CX0 (k + 1) f fd ["prefixes", "address"] (spDR fun kvs a => oStr (long kvs a)) := by
  refine F.ok scLong (fun vs H Q E h => ?_) (fun cdv A outer s H vs Q E hr h => ?_)
  · obtain ⟨d, kvs, a, rfl, _⟩ := h
    rfl
  · obtain ⟨d, kvs, a, rfl, hd, hl, q⟩ := h
    have hu := hu_of hr
    refine ⟨_, pss_cons (ps_for PassesOwn.never rfl (pi_range3 (by rfl) B.range (pa_cons (pe_callB call_len_str (by rfl) B.len PySem.boot_len (pa_cons (pv 1) pa_nil)) (pa_cons pe_int (pa_cons (pe_un un_neg pe_int) pa_nil)))) (pg_name (i := 2) scLong.nd rfl (.inl rfl))
        (pss_one (ps_if (pt_cmp (pc_din hu (pe_slice sl_str (pv 1) po_none (po_some (pv 2))) (pv 0))) (pss_one (ps_ret (pe_slice sl_str (pv 1) po_none (po_some (pv 2))))) pss_nil)))
      (pss_one (ps_ret pe_non)), ?_⟩
    have hz : sizeLine = 16777216 := rfl
    refine ⟨.str a, rfl, a, rfl, by omega, 1, rfl, (a.length : Int), 0, -1, ((a.length : Int) - 0).toNat, rfl, RgC.neg (by omega) (by omega) (by omega) (by omega), ?_⟩
    refine for_rangeC (lo := (a.length : Int)) (c := -1) (n := ((a.length : Int) - 0).toNat) (fun i σ H' => ∃ y, σ = [some (.ref d), some (.str a), y] ∧ H' = H ∧ long kvs a = lp kvs a (a.length - i)) ⟨none, rfl, rfl, rfl⟩ ?_ ?_
    · rintro i σ H' hi ⟨y, rfl, rfl, e⟩
      have hi' : i < a.length := by omega
      have ei : (a.length : Int) + (i : Int) * -1 = ((a.length - i : Nat) : Int) := by omega
      rw [ei]
      refine ⟨.str a, rfl, .int ((a.length - i : Nat) : Int), rfl, ((a.length - i : Nat) : Int), rfl, a, rfl, by omega, .ref d, rfl, d, _, rfl, (.inl ⟨_, Sum.inr (pre a (a.length - i)), hd, rfl, rfl⟩ : DGet _ _ _ _), ?_⟩
      obtain ⟨m, em⟩ : ∃ m, a.length - i = m + 1 := ⟨a.length - i - 1, by omega⟩
      by_cases c : (valV kvs (Sum.inr (pre a (a.length - i)))).isSome = true
      · refine ⟨_, rfl, ?_⟩
        rw [c]
        refine ⟨.str a, rfl, .int ((a.length - i : Nat) : Int), rfl, ((a.length - i : Nat) : Int), rfl, a, rfl, by omega, ?_⟩
        have : long kvs a = some (pre a (a.length - i)) := by
          rw [e, em]
          unfold lp
          rw [← em, if_pos c]
        have q : Q (oStr (long kvs a)) H' := q
        rw [this] at q
        exact q
      · refine ⟨_, rfl, ?_⟩
        rw [Bool.eq_false_iff.mpr c]
        refine ⟨_, rfl, rfl, ?_⟩
        rw [e, em]
        show (if (valV kvs (Sum.inr (pre a (m + 1)))).isSome = true then some (pre a (m + 1)) else lp kvs a m) = _
        rw [← em, if_neg c, show a.length - (i + 1) = m by omega]
    · rintro σ H' ⟨y, rfl, rfl, e⟩
      rw [show a.length - ((a.length : Int) - 0).toNat = 0 by omega] at e
      have q : Q (oStr (long kvs a)) H' := q
      rw [e] at q
      exact q
theorem ok_laneR {f g : Addr} {fd gd : FuncData} (F : Fun K "_lane" "_lane" sLane f fd) (D : Dd K mg "longest_prefix" sLong ["prefixes", "address"] g gd) (B : Blt mg) : FnOk P w K mg base CX0 2 f fd ["lanes", "address"] (spDR laneV) := by
  have G : FnOk P w K mg base CX0 1 g gd ["prefixes", "address"] (spDR fun kvs a => oStr (long kvs a)) := ok_longR D.F B
  refine F.ok scLane (fun vs H Q E h => ?_) (fun cdv A outer s H vs Q E hr h => ?_)
  · obtain ⟨d, kvs, a, rfl, _⟩ := h
    rfl
  · obtain ⟨d, kvs, a, rfl, hd, hl, q⟩ := h
    have hu := hu_of hr
    refine ⟨_, pss_cons (ps_set (i := 2) scLane.nd rfl (.inl rfl) (pe_call G hr (by rfl) D.g D.F.kp D.b .nil pass0 (pa_cons (pv 0) (pa_cons (pv 1) pa_nil))))
      (pss_cons (ps_if (pt_cmpR op_isN (pv 2) pe_non (nomark _)) (pss_one (ps_ret pe_non)) pss_nil)
      (pss_one (ps_ret (pe_dget hu (pv 0) (pv 2) (fun _ _ => rfl))))), ?_⟩
    refine ⟨.ref d, rfl, .str a, rfl, d, kvs, a, rfl, hd, hl, ?_⟩
    have q : Q (laneV kvs a) H := q
    show gName 2 (oStr (long kvs a)) _ _ _
    unfold laneV at q
    cases e : long kvs a with
    | none =>
      rw [e] at q
      exact ⟨.non, rfl, rfl, true, rfl, q⟩
    | some p =>
      rw [e] at q
      obtain ⟨v, ev⟩ := lp_some e
      have q : Q ((valV kvs (Sum.inr p)).getD .non) H := q
      rw [ev] at q
      refine ⟨.str p, rfl, rfl, false, rfl, .ref d, rfl, .str p, rfl, d, v, rfl, ?_, q⟩
      rw [← ev]
      exact .inl ⟨_, Sum.inr p, hd, rfl, rfl⟩
theorem ok_bylen {f : Addr} {fd : FuncData} {k : Nat} (F : Fun K "by_length" "by_length" sByLen f fd) (B : Blt mg) (zset : mg "set" = none) : FnOk P w K mg base CX0 (k + 1) f fd ["addresses"] (spByLen K) := by
  refine F.ok scByLen (fun vs H Q E h => ?_) (fun cdv A outer s H vs Q E hr h => ?_)
  · obtain ⟨l, ks, rfl, _⟩ := h
    rfl
  · obtain ⟨l, ks, rfl, hl, hn, hx, q⟩ := h
    have hz : sizeLine = 16777216 := rfl
    refine ⟨_, (pss_cons (ps_set (i := 1) scByLen.nd rfl (.inl rfl) (pe_callB (r := SH.rSortSet K w) (SH.cr_sortSet rfl hr.units) (by rfl) B.sorted PyProof.Rows.boot_sorted (pa_cons (pe_callTy (r := SH.rSetT K P w) (SH.cr_setT rfl hr.units) (by rfl) zset boot_set (pa_cons (pe_lc (own := [("address", 2)]) (g := gName 2) (by rfl) scByLen.nd (pi_list (pv 0)) (blkOk_by (N := NByLen) (sc := defScope sByLen) (by decide +kernel)) (fun _ _ _ _ _ => pg_name (i := 2) scByLen.nd rfl (Or.inl rfl)) (fun _ _ _ _ _ => pts_nil) (fun _ _ _ _ _ => pe_tup (pa_cons (pe_callB call_len_str (by rfl) B.len PySem.boot_len (pa_cons (pv 2) pa_nil)) (pa_cons (pv 2) pa_nil)))) pa_nil)) pa_nil)))
      (pss_one (ps_ret (pe_lc (own := [("pair", 3)]) (g := gName 3) (by rfl) scByLen.nd (pi_list (pv 1)) (blkOk_by (N := NByLen) (sc := defScope sByLen) (by decide +kernel)) (fun _ _ _ _ _ => pg_name (i := 3) scByLen.nd rfl (Or.inl rfl)) (fun _ _ _ _ _ => pts_nil) (fun _ _ _ _ _ => pe_ix (r := rIxT K) ix_tup (pv 3) pe_int (fun _ _ => rfl)))))), ?_⟩
    refine ⟨.ref l, rfl, l, rfl, ⟨_, hl⟩, fun D nD => ?_⟩
    refine lc_it (walk_list (a := l) (xs := ks.map V.str)) (fun i H1 => Same H H1 ∧ ∃ us : List (Addr × Str), H1 D = some (.lst (us.map fun u => V.ref u.1)) ∧ us.map (·.2) = ks.take i ∧ ∀ u ∈ us, pT H1 u) ⟨same_upd nD, [], upd_same, rfl, fun u h => by cases h⟩ (fun i H1 _ hP => hP.1.seq hl) (fun i v H1 H2 hi hP hy => ?_) (fun H1 hP => ?_)
    · obtain ⟨S1, us, hD, eu, hu⟩ := hP
      obtain ⟨rfl, ev⟩ := hy
      rw [List.getElem?_map] at ev
      cases ek : ks[i]? with
      | none => rw [ek] at ev; cases ev
      | some x =>
      rw [ek] at ev
      cases (Option.some.inj ev)
      have xl := hx x (List.mem_of_getElem? ek)
      refine ⟨rfl, .str x, rfl, x, rfl, by omega, .str x, rfl, by show 2 ≤ sizeLine; omega, fun T nT => ?_⟩
      have lu : us.length ≤ 300 := by
        have := congrArg List.length eu
        rw [List.length_map, List.length_take] at this
        omega
      have DT : D ≠ T := ne_of_none hD nT
      refine ⟨_, by rw [upd_ne DT]; exact hD, by rw [List.length_map]; omega, fun b o hb => ?_, us ++ [(T, x)], ?_, ?_, fun u hu' => ?_⟩
      · rw [upd_ne (ne_of_none hb nD)]
        exact (S1.trans (same_upd nT)) _ _ hb
      · rw [upd_same, List.map_append]
        rfl
      · rw [List.map_append, eu, List.take_add_one, ek]
        rfl
      · rcases List.mem_append.mp hu' with hm | hm
        · show L2.upd _ D _ u.1 = _
          rw [upd_ne (ne_of (hu u hm) hD (fun z => by cases z)), upd_ne (ne_of_none (hu u hm) nT)]
          exact hu u hm
        · rw [List.mem_singleton.mp hm]
          show L2.upd _ D _ T = _
          rw [upd_ne (Ne.symm DT)]
          exact upd_same
    · obtain ⟨S1, us, hD, eu, hu⟩ := hP
      have ew : us.map (·.2) = ks := by
        rw [eu, List.length_map, List.take_length]
      clear eu
      have lu : us.length = ks.length := by rw [← ew, List.length_map]
      -- the set of the pairs
      refine ⟨D, us.map kT, rfl, sqOf (by rw [List.map_map]; exact hD), fun p hp => ?_, by rw [List.length_map]; omega, fun a L na g nd => ?_⟩
      · obtain ⟨u, hm, rfl⟩ := List.mem_map.mp hp
        exact .of (hu u hm)
      obtain ⟨M, rfl, hM⟩ := sub_map (f := kT) (us := us) fun p hp => by
        have := g.sub p hp
        rw [List.take_length] at this
        obtain ⟨u, hm, e⟩ := List.mem_map.mp this
        exact ⟨u, hm, e.symm⟩
      have all : ∀ x, x ∈ M.map (·.2) ↔ x ∈ ks := fun x => by
        rw [← ew]
        constructor
        · intro hm
          obtain ⟨u, h1, e⟩ := List.mem_map.mp hm
          exact List.mem_map.mpr ⟨u, hM u h1, e⟩
        · intro hm
          obtain ⟨u, h1, rfl⟩ := List.mem_map.mp hm
          have := g.all (kT u) (by rw [List.take_length]; exact List.mem_map.mpr ⟨u, h1, rfl⟩)
          rw [List.map_map] at this
          obtain ⟨v, h2, e⟩ := List.mem_map.mp this
          have e2 : ([Sum.inl (v.2.length : Int), Sum.inr v.2] : List Key) = [Sum.inl (u.2.length : Int), Sum.inr u.2] := e
          have e3 : v.2 = u.2 := by
            simp only [List.cons.injEq, Sum.inr.injEq] at e2
            exact e2.2.1
          exact List.mem_map.mpr ⟨v, h2, e3⟩
      have lM : M.length ≤ 300 := by
        have := g.len
        rw [List.length_map, List.length_map] at this
        omega
      have Sa : Same H (L2.upd H1 a (SH.SetT P w a (M.map kT))) := S1.trans (same_upd na)
      have hu2 : ∀ u ∈ us, pT (L2.upd H1 a (SH.SetT P w a (M.map kT))) u := fun u hm => (same_upd na) _ _ (hu u hm)
      -- sorted
      refine ⟨a, M.map fun u => (V.ref u.1, encA u.2), _, rfl, upd_same, fun h hU => ?_, fun b hb => ?_, ?_, ?_, fun b hb => ?_, fun cs p pc pw np => ?_⟩
      · have := SH.SetP.walked hU
        rw [List.map_map] at this
        rw [List.map_map]
        exact this
      · obtain ⟨u, hm, rfl⟩ := List.mem_map.mp hb
        exact dp_A (hu2 u (hM u hm))
      · rw [List.map_map, show (Prod.snd ∘ fun u : Addr × Str => (V.ref u.1, encA u.2)) = encA ∘ Prod.snd from rfl, ← List.map_map]
        exact alike_A _
      · rw [List.map_map, show (Prod.snd ∘ fun u : Addr × Str => (V.ref u.1, encA u.2)) = encA ∘ Prod.snd from rfl, ← List.map_map]
        exact sortable_A _
      · obtain ⟨u, hm, rfl⟩ := List.mem_map.mp hb
        exact depth_A _
      obtain ⟨N, pN, rfl⟩ := perm_map pc
      have lN : N.length ≤ 300 := by rw [pN.length_eq]; exact lM
      have pw2 : (N.map (·.2)).Pairwise (fun a b => leA a b = true) := List.pairwise_map.mpr (List.pairwise_map.mp pw)
      have mem2 : ∀ x, x ∈ N.map (·.2) ↔ x ∈ ks := fun x => ((pN.map (·.2)).mem_iff).trans (all x)
      rw [List.map_map]
      generalize L2.upd H1 a (SH.SetT P w a (M.map kT)) = H3 at Sa hu2 np
      have Sp : Same H (L2.upd H3 p (.lst (N.map (Prod.fst ∘ fun u : Addr × Str => (V.ref u.1, encA u.2))))) := Sa.trans (same_upd np)
      have hN : ∀ u ∈ N, pT (L2.upd H3 p (.lst (N.map (Prod.fst ∘ fun u : Addr × Str => (V.ref u.1, encA u.2))))) u := fun u hm => (same_upd np) _ _ (hu2 u (hM u (pN.mem_iff.mp hm)))
      have hp : (L2.upd H3 p (.lst (N.map (Prod.fst ∘ fun u : Addr × Str => (V.ref u.1, encA u.2))))) p = some (.lst (N.map fun u => V.ref u.1)) := upd_same
      generalize L2.upd H3 p (.lst (N.map (Prod.fst ∘ fun u : Addr × Str => (V.ref u.1, encA u.2)))) = H4 at Sp hN hp
      refine ⟨.ref p, rfl, p, rfl, ⟨_, sqOf hp⟩, fun F nF => ?_⟩
      refine lc_it (walk_list (a := p) (xs := N.map fun u => V.ref u.1)) (fun i H5 => Same H4 H5 ∧ H5 F = some (.lst (((N.map (·.2)).take i).map V.str))) ⟨same_upd nF, upd_same⟩ (fun i H5 _ hP => sqOf (hP.1 _ _ hp)) (fun i v H5 H6 hi hP hy => ?_) (fun H5 hP => ?_)
      · obtain ⟨S5, hF⟩ := hP
        obtain ⟨rfl, ev⟩ := hy
        rw [List.getElem?_map] at ev
        cases ek : N[i]? with
        | none => rw [ek] at ev; cases ev
        | some u =>
        rw [ek] at ev
        cases (Option.some.inj ev)
        have hm := List.mem_of_getElem? ek
        refine ⟨rfl, .ref u.1, rfl, u.1, _, 1, .str u.2, rfl, rfl, .of (S5 _ _ (hN u hm)), atI_nat (j := 1) rfl, _, hF, ?_, fun b o hb => ?_, ?_⟩
        · rw [List.length_map, List.length_take, List.length_map]
          omega
        · rw [upd_ne (ne_of_none hb nF)]
          exact S5 _ _ hb
        · rw [upd_same, List.take_add_one, List.getElem?_map, ek, List.map_append]
          rfl
      · obtain ⟨S5, hF⟩ := hP
        rw [List.length_map, ← List.length_map (f := fun u : Addr × Str => u.2), List.take_length] at hF
        exact q F _ H5 (Sp.trans S5) (Sp.free nF) hF pw2 mem2 (by rw [List.length_map]; exact lN)
end
end Tb
namespace Tb
open PySem PySem.Spec PyProof.Rows L2
section
variable {X : Cx} {C f : Addr} {k : Nat} {sp : Sp}
/-- x == y, x an instance whose class has its own ==, y an instance of it or a list -/
def rEqO (C : Addr) (sp : Sp) : R2 := fun x y H Q => ∃ a dx fs b, x = .ref a ∧ H a = some (.ins C dx fs) ∧ y = .ref b ∧ ((∃ dy gs, H b = some (.ins C dy gs)) ∨ ∃ xs, H b = some (.lst xs)) ∧ sp [.ref a, .ref b] H (fun v H' => (∃ r, v = .bl r) ∧ Q v H') E0
theorem op_eqO (hs : PySem.W.findIn X.K (.ref C) "__eq__" = some (some (.ref f))) (hf : PySem.W.isFn X.K (.ref f) = true) (nl : PySem.W.notFirst X.K C (.type "list") = true) (F : FnR X.prog X.w X.K X.mg X.base CX0 k f sp) (hr : Room k X.A) : OpR X (compareOp .Eq) (rEqO C sp) := by
  intro pins s σ H x y v u Q I rx ry h
  obtain ⟨a, dx, fs, b, rfl, ha, rfl, hb, q⟩ := h
  cases rx
  cases ry
  obtain ⟨mA, J, _⟩ := ins_get I.hok ha
  obtain ⟨od, J, _⟩ := J.look
  obtain ⟨m, hF⟩ := I.fr
  show wpAny (model X.prog X.w) X.A (richCompare .Eq (.ref a) (.ref b)) (EP X pins σ Q) X.xe s
  have main : ∀ tb, PySem.W.Looks (model X.prog X.w) s.heap (typeOf (.ref b)) tb → PySem.W.notFirst X.K C tb = true → wpAny (model X.prog X.w) X.A (richCompare .Eq (.ref a) (.ref b)) (EP X pins σ Q) X.xe s := fun tb lk nf => by
    refine PySem.W.cmp_K (op := .Eq) (tb := tb) hr.units0 hF I.ok.mod.kin J lk nf hs hf ?_
    refine wpAny_call (codeAny_mono (F X.A X.stack s H [.ref a, .ref b] [.ref a, .ref b] _ E0 hr I.env0 (.cons rfl (.cons rfl .nil)) q) fun r s' hq => ?_)
    cases r with
    | error er => exact hq.elim
    | ok fl =>
      cases fl with
      | ret w =>
        obtain ⟨z, H', I', rz, ⟨r, rfl⟩, q'⟩ := I.after hq
        cases rz
        exact ⟨.bl r, H', I', rfl, q'⟩
      | next => exact hq.elim
      | brk => exact hq.elim
      | cont => exact hq.elim
  rcases hb with ⟨dy, gs, hb⟩ | ⟨xs, hb⟩
  · obtain ⟨mB, J', _⟩ := ins_get I.hok hb
    obtain ⟨od', J', _⟩ := J'.look
    exact main _ J'.type (by simp [PySem.W.notFirst])
  · obtain ⟨_, its, n, _, ho⟩ := (show ObjOk X.prog X.w H s.heap b (.lst xs) from I.hok b _ hb)
    exact main (.type "list") ((PySem.W.Looks.ld ho).andThen .now) nl
end
abbrev sParting : Stmt := inClass (topS 19) 5
abbrev NParting : List Str := ["self", "other", "address"]
theorem scParting : FnScope NParting ["self", "other"] (defScope sParting) := ⟨rfl, rfl, rfl, by decide +kernel, rfl, by decide +kernel, by decide +kernel⟩
abbrev sLeast : Stmt := inClass (topS 19) 6
abbrev NLeast : List Str := ["self", "rows", "prefix", "lane"]
theorem scLeast : FnScope NLeast ["self"] (defScope sLeast) := ⟨rfl, rfl, rfl, by decide +kernel, rfl, by decide +kernel, by decide +kernel⟩
abbrev sTEq : Stmt := inClass (topS 19) 2
abbrev NTEq : List Str := ["self", "other"]
theorem scTEq : FnScope NTEq ["self", "other"] (defScope sTEq) := ⟨rfl, rfl, rfl, by decide +kernel, rfl, by decide +kernel, by decide +kernel⟩
/-- which address parts two tables -/
def spParting (C : Addr) : Sp := fun vs H Q _ => ∃ (b c : Addr) (own two : List Pr), vs = [.ref b, .ref c] ∧ TabOf C H b own ∧ TabOf C H c two ∧ own.length + two.length ≤ 300 ∧ ∀ (r : Option Str) (H' : Hp), Same H H' → IsPart own two r → Q (oStr r) H'
def spTEq (C : Addr) : Sp := fun vs H Q _ => ∃ (b c : Addr) (own : List Pr), vs = [.ref b, .ref c] ∧ TabOf C H b own ∧
  ((∃ two, TabOf C H c two ∧ own.length + two.length ≤ 300 ∧ ∀ (r : Option Str) (H' : Hp), Same H H' → IsPart own two r → Q (.bl r.isNone) H') ∨ (∃ xs, H c = some (.lst xs)) ∧ Q (.bl false) H)
def spLeast (C : Addr) : Sp := fun vs H Q _ => ∃ (b : Addr) (own : List Pr), vs = [.ref b] ∧ TabOf C H b own ∧ ∀ (x : Addr) (H' : Hp), Same H H' → H x = none → TabOf C H' x (leastR own) → Q (.ref x) H'
theorem kv_keys (ps : List Pr) : ((kvP ps).map fun kv => kV kv.1) = (ps.map Prod.fst).map V.str := by
  unfold kvP
  rw [List.map_map, List.map_map]
  rfl
theorem lane_scal (ps : List Pr) (a : Str) (qs : List Pr) (b : Str) : scal (laneV (kvP ps) a) (laneV (kvP qs) b) = true := by
  rcases laneV_kvP ps a with e | ⟨z, e, _⟩ <;> rcases laneV_kvP qs b with e2 | ⟨y, e2, _⟩ <;> rw [e, e2] <;> rfl
section
variable {P : Program} {w : World} {K : PySem.W.Frag} {mg : Str → Option Value} {base : Heap}
abbrev CByLen (P : Program) (w : World) (K : PySem.W.Frag) (mg : Str → Option Value) (base : Heap) (g : Addr) (gd : FuncData) := C1 P w K mg base "by_length" sByLen ["addresses"] 1 (spByLen K) g gd
abbrev CLaneF (P : Program) (w : World) (K : PySem.W.Frag) (mg : Str → Option Value) (base : Heap) (g : Addr) (gd : FuncData) := C1 P w K mg base "_lane" sLane ["lanes", "address"] 2 (spDR laneV) g gd
theorem ok_parting {f g g2 C : Addr} {fd gd gd2 : FuncData} (F : Fun K "parting" "Table.parting" sParting f fd) (B : Blt mg) (T : TCls K C) (cByLen : CByLen P w K mg base g gd) (cLaneF : CLaneF P w K mg base g2 gd2) : FnOk P w K mg base CX0 3 f fd ["self", "other"] (spParting C) := by
  refine F.ok scParting (fun vs H Q E h => ?_) (fun cdv A outer s H vs Q E hr h => ?_)
  · obtain ⟨b, c, own, two, rfl, _⟩ := h
    rfl
  · obtain ⟨b, c, own, two, rfl, hT, hU, hn, q⟩ := h
    have hz : sizeLine = 16777216 := rfl
    obtain ⟨dx, d, h1, h2⟩ := hT.ex
    obtain ⟨dy, e, h3, h4⟩ := hU.ex
    refine ⟨_, (pss_cons (ps_for PassesOwn.never rfl (pi_list (pe_call cByLen.G (hr.mono (by first | decide | omega)) (by rfl) cByLen.D.g cByLen.D.F.kp cByLen.D.b .nil pass0 (pa_cons (pe_op op_cat (pe_callTy (call_listD rfl) (by rfl) B.list PyProof.Rows.boot_list (pa_cons (pe_fld (pv 0) rfl) pa_nil)) (pe_callTy (call_listD rfl) (by rfl) B.list PyProof.Rows.boot_list (pa_cons (pe_fld (pv 1) rfl) pa_nil))) pa_nil))) (pg_name (i := 2) scParting.nd rfl (.inl rfl))
        (pss_one (ps_if (pt_cmpR op_ne (pe_call cLaneF.G (hr.mono (by first | decide | omega)) (by rfl) cLaneF.D.g cLaneF.D.F.kp cLaneF.D.b .nil pass0 (pa_cons (pe_fld (pv 0) rfl) (pa_cons (pv 2) pa_nil))) (pe_call cLaneF.G (hr.mono (by first | decide | omega)) (by rfl) cLaneF.D.g cLaneF.D.F.kp cLaneF.D.b .nil pass0 (pa_cons (pe_fld (pv 1) rfl) (pa_cons (pv 2) pa_nil))) (nomark _))
          (pss_one (ps_ret (pv 2)))
          pss_nil)))
      (pss_one (ps_ret pe_non))), ?_⟩
    refine ⟨.ref b, rfl, b, C, dx, _, .ref d, rfl, h1, T.c, T.no, lk1, d, _, rfl, .of h2, fun p np => ?_⟩
    have S1 : Same H (L2.upd H p (.lst ((kvP (own.mergeSort le2)).map fun kv => kV kv.1))) := same_upd np
    refine ⟨.ref c, rfl, c, C, dy, _, .ref e, rfl, S1 _ _ h3, T.c, T.no, lk1, e, _, rfl, .of (S1 _ _ h4), fun p2 np2 => ?_⟩
    have S2 := S1.trans (same_upd np2 (o := .lst ((kvP (two.mergeSort le2)).map fun kv => kV kv.1)))
    have hp : (L2.upd (L2.upd H p (.lst ((kvP (own.mergeSort le2)).map fun kv => kV kv.1))) p2 (.lst ((kvP (two.mergeSort le2)).map fun kv => kV kv.1))) p = some (.lst ((kvP (own.mergeSort le2)).map fun kv => kV kv.1)) := by
      rw [upd_ne (ne_of_none upd_same np2)]
      exact upd_same
    have l1 : ((kvP (own.mergeSort le2)).map fun kv => kV kv.1).length = own.length := by rw [kv_keys, List.length_map, List.length_map, len_sort]
    have l2 : ((kvP (two.mergeSort le2)).map fun kv => kV kv.1).length = two.length := by rw [kv_keys, List.length_map, List.length_map, len_sort]
    refine ⟨p, p2, _, _, rfl, rfl, hp, upd_same, by omega, fun p3 np3 => ?_⟩
    have S3 := S2.trans (same_upd np3 (o := .lst (((kvP (own.mergeSort le2)).map fun kv => kV kv.1) ++ ((kvP (two.mergeSort le2)).map fun kv => kV kv.1))))
    rw [kv_keys, kv_keys, ← List.map_append]
    have mem : ∀ x, x ∈ (own.mergeSort le2).map Prod.fst ++ (two.mergeSort le2).map Prod.fst ↔ x ∈ keys2 own two := fun x => by
      unfold keys2
      rw [List.mem_append, List.mem_append, ((List.mergeSort_perm own le2).map Prod.fst).mem_iff, ((List.mergeSort_perm two le2).map Prod.fst).mem_iff]
    have xl : ∀ x ∈ keys2 own two, x.length ≤ 1000 := fun x hx => by
      have one : ∀ ps : List Pr, Good ps → x ∈ ps.map Prod.fst → x.length ≤ 1000 := fun ps g m => by
        obtain ⟨r, hr, rfl⟩ := List.mem_map.mp m
        have := addr_len (g.1 r hr).1
        omega
      rcases List.mem_append.mp hx with m | m
      · exact one own hT.g m
      · exact one two hU.g m
    refine ⟨p3, _, rfl, sqOf upd_same, by rw [List.length_append, List.length_map, List.length_map, len_sort, len_sort]; exact hn, fun x hx => xl x ((mem x).mp hx), fun F zs H4 S4 nF hF pw mz lz => ?_⟩
    rw [kv_keys, kv_keys, ← List.map_append] at S3
    have S5 := S3.trans S4
    have mz2 : ∀ x, x ∈ zs ↔ x ∈ keys2 own two := fun x => (mz x).trans (mem x)
    refine ⟨F, rfl, ⟨_, sqOf hF⟩, ?_⟩
    refine for_it (walk_list (a := F) (xs := zs.map V.str)) (fun i σ H' => (∃ y, σ = [some (.ref b), some (.ref c), y]) ∧ H' = H4 ∧ ∀ j x, j < i → zs[j]? = some x → ¬ unl own two x) ⟨⟨none, rfl⟩, rfl, fun j x h => absurd h (Nat.not_lt_zero _)⟩ (fun i σ H' _ hP => by obtain ⟨_, rfl, _⟩ := hP; exact sqOf hF) (fun i x σ H5 H6 hi hP hy => ?_) (fun σ H5 hP => ?_)
    · obtain ⟨⟨y, rfl⟩, rfl, bef⟩ := hP
      obtain ⟨rfl, ev⟩ := hy
      rw [List.getElem?_map] at ev
      cases ek : zs[i]? with
      | none => rw [ek] at ev; cases ev
      | some z =>
      rw [ek] at ev
      cases (Option.some.inj ev)
      have zl := xl z ((mz2 z).mp (List.mem_of_getElem? ek))
      refine ⟨.ref b, rfl, b, C, dx, _, .ref d, rfl, S5 _ _ h1, T.c, T.no, lk1, .str z, rfl, d, _, z, rfl, .of (S5 _ _ h2), zl, ?_⟩
      refine ⟨.ref c, rfl, c, C, dy, _, .ref e, rfl, S5 _ _ h3, T.c, T.no, lk1, .str z, rfl, e, _, z, rfl, .of (S5 _ _ h4), zl, ?_⟩
      show rNe _ _ _ _
      rw [laneV_sort hT.g.2, laneV_sort hU.g.2]
      refine ⟨lane_scal _ _ _ _, _, rfl, ite2 (fun u => ?_) (fun u => ?_)⟩
      · rw [Bool.not_eq_true', decide_eq_false_iff_not] at u
        exact ⟨.str z, rfl, q (some z) _ S5 (part_at pw mz2 ek bef u)⟩
      · refine ⟨⟨_, rfl⟩, rfl, fun j x hj hx => ?_⟩
        rcases Nat.lt_succ_iff_lt_or_eq.mp hj with c | c
        · exact bef j x c hx
        · subst c
          rw [ek] at hx
          cases hx
          exact fun w => u (by rw [decide_eq_false w]; rfl)
    · obtain ⟨⟨y, rfl⟩, rfl, bef⟩ := hP
      rw [List.length_map] at bef
      exact q none _ S5 (part_end mz2 bef)
end
end Tb
namespace Tb
open PySem PySem.Spec PyProof.Rows L2
theorem isRow_iff {own : List Pr} {p : Pr} : isRow own p = true ↔ V.str p.2 ≠ laneV (kvP own) (bl p.1) := by
  unfold isRow
  rw [Bool.not_eq_true', decide_eq_false_iff_not]
theorem filter_snoc {α : Type} {l : List α} {i : Nat} {x : α} (h : l[i]? = some x) (f : α → Bool) : (l.take (i + 1)).filter f = (l.take i).filter f ++ (if f x = true then [x] else []) := by
  rw [List.take_add_one, h, List.filter_append]
  congr 1
  show [x].filter f = _
  cases e : f x <;> simp [e]
theorem rows_zl {ps : List Pr} (g : Good ps) {p : Pr} (h : p ∈ ps) : p.1.length ≤ 1000 ∧ p.2.length ≤ 1000 := by
  have := g.1 p h
  have h1 := addr_len this.1
  have h2 := lane_len this.2
  omega
/-- made since H, at t -/
theorem prs_snoc {H1 : Hp} {R T : Addr} {ts : List (Addr × Pr)} {z l : Str} (hR : H1 R = some (.lst (ts.map fun t => V.ref t.1))) (ht : ∀ t ∈ ts, H1 t.1 = some (.tup [.str t.2.1, .str t.2.2])) (nT : H1 T = none) :
    Prs (L2.upd (L2.upd H1 T (.tup [.str z, .str l])) R (.lst (ts.map (fun t => V.ref t.1) ++ [V.ref T]))) R (ts ++ [(T, (z, l))]) := by
  have RT : R ≠ T := ne_of_none hR nT
  refine ⟨by rw [upd_same, List.map_append]; rfl, fun t hm => ?_⟩
  rcases List.mem_append.mp hm with hm | hm
  · rw [upd_ne (ne_of (ht t hm) hR (fun z => by cases z)), upd_ne (ne_of_none (ht t hm) nT)]
    exact ht t hm
  · rw [List.mem_singleton.mp hm]
    show L2.upd _ R _ T = _
    rw [upd_ne (Ne.symm RT)]
    exact upd_same
section
variable {P : Program} {w : World} {K : PySem.W.Frag} {mg : Str → Option Value} {base : Heap}
theorem ok_teq {f g C : Addr} {fd gd : FuncData} (F : Fun K "__eq__" "Table.__eq__" sTEq f fd) (B : Blt mg) {CI CU : Addr} (TK : TabK P w K mg base C CI CU) (tl : PySem.W.kitOne K (.type "list") (.ref C) = some false) (tc : ClsV (.ref C) (.ref C)) (TPm : Meth K C "parting" g) (bP : Binds K gd ["self", "other"] []) (FP : FnOk P w K mg base CX0 3 g gd ["self", "other"] (spParting C)) : FnOk P w K mg base CX0 4 f fd ["self", "other"] (spTEq C) := by
  refine F.ok scTEq (fun vs H Q E h => ?_) (fun cdv A outer s H vs Q E hr h => ?_)
  · obtain ⟨b, c, own, rfl, _⟩ := h
    rfl
  · obtain ⟨b, c, own, rfl, hT, q⟩ := h
    refine ⟨_, (pss_one (ps_ret (pe_and (pe_callB call_isi (by rfl) B.isi (by decide +kernel) (pa_cons (pv 1) (pa_cons (pe_glob (by rfl) TK.g (v := .ref C) rfl) pa_nil))) (pe_one (pe_cmpR op_isN (pe_meth (pv 0) TK.T.c TPm FP (hr.mono (by first | decide | omega)) bP .nil pass0 (pa_cons (pv 1) pa_nil)) pe_non (nomark _)))))), ?_⟩
    obtain ⟨dx, d, h1, h2⟩ := id hT.ex
    rcases q with ⟨two, hU, hn, q⟩ | ⟨⟨xs, hc⟩, q⟩
    · obtain ⟨dy, e, h3, h4⟩ := id hU.ex
      refine ⟨.ref c, rfl, .ref c, .ref C, .ref C, .ref C, true, rfl, tc, .base (.ins h3 TK.ins.cl TK.ins.ha TK.ins.hn TK.ins.htk TK.ins.hm), TK.ins.me, _, rfl, ?_⟩
      refine ⟨.ref b, rfl, b, dx, _, rfl, h1, rfl, .ref c, rfl, b, c, own, two, rfl, hT, hU, hn, fun r H1 S1 P1 => ?_⟩
      have q := q r H1 S1 P1
      cases r with
      | none => exact ⟨rfl, q⟩
      | some z => exact ⟨rfl, q⟩
    · refine ⟨.ref c, rfl, .ref c, .ref C, .type "list", .ref C, false, rfl, tc, .base (.lst hc), tl, _, rfl, q⟩
theorem ok_least {f g C CI : Addr} {fd gd : FuncData} (F : Fun K "least" "Table.least" sLeast f fd) (B : Blt mg) {CU : Addr} (TK : TabK P w K mg base C CI CU) (cLaneF : CLaneF P w K mg base g gd) : FnOk P w K mg base CX0 6 f fd ["self"] (spLeast C) := by
  obtain ⟨fI, fdI, MK, bT, GT⟩ := TK.make
  refine F.ok scLeast (fun vs H Q E h => ?_) (fun cdv A outer s H vs Q E hr h => ?_)
  · obtain ⟨b, own, rfl, _⟩ := h
    rfl
  · obtain ⟨b, own, rfl, hT, q⟩ := h
    have hz : sizeLine = 16777216 := rfl
    obtain ⟨dx, d, h1, h2⟩ := id hT.ex
    have gs := good_sort.mpr hT.g
    have hn : own.length ≤ 900 := hT.n
    refine ⟨_, (pss_cons (ps_set (i := 1) scLeast.nd rfl (.inl rfl) (pe_lst pa_nil))
      (pss_cons (ps_lock (ps_for PassesOwn.never rfl (pi_items (pe_fld (pv 0) rfl)) (pg_tup (by rfl) (pgs_cons (pg_name (i := 2) scLeast.nd rfl (.inl rfl)) (pgs_cons (pg_name (i := 3) scLeast.nd rfl (.inl rfl)) pgs_nil)))
        (pss_one (ps_if (pt_cmpR op_ne (pv 3) (pe_call cLaneF.G (hr.mono (by first | decide | omega)) (by rfl) cLaneF.D.g cLaneF.D.F.kp cLaneF.D.b .nil pass0 (pa_cons (pe_fld (pv 0) rfl) (pa_cons (pe_slice sl_str (pv 2) po_none (po_some (pe_un un_neg pe_int))) pa_nil))) (nomark _))
          (pss_one (ps_expr (pe_bm PySem.F.plainAttrs_list PySem.F.slot_list_append PySem.F.type_list_append mt_append (pv 1) (pa_cons (pe_tup (pa_cons (pv 2) (pa_cons (pv 3) pa_nil))) pa_nil))))
          pss_nil))))
      (pss_one (ps_ret (pe_make MK GT (hr.mono (by first | decide | omega)) (by rfl) TK.g bT .nil passL (pa_cons (pv 1) pa_nil)))))), ?_⟩
    refine ⟨by show 0 ≤ sizeLine; omega, fun R nR => ?_⟩
    have S1 : Same H (L2.upd H R (.lst [])) := same_upd nR
    generalize hps : own.mergeSort le2 = ps at *
    have lps : ps.length = own.length := by rw [← hps, len_sort]
    have lane' : ∀ a, laneV (kvP ps) a = laneV (kvP own) a := fun a => by rw [← hps]; exact laneV_sort hT.g.2 a
    have Rd0 : R ≠ d := fun e => by rw [e, h2] at nR; cases nR
    have Rb : R ≠ b := fun e => by rw [e, h1] at nR; cases nR
    have bd : b ≠ d := ne_of h1 h2 (fun z => by cases z)
    refine ⟨d, .dK (kvP ps), S1 _ _ h2, trivial, fun od => ?_⟩
    refine ⟨.ref b, rfl, b, C, dx, _, .ref d, rfl, by rw [upd_ne bd]; exact S1 _ _ h1, TK.T.c, TK.T.no, lk1, d, od, kvP ps, rfl, upd_same, ?_⟩
    refine for_it (walk_items (d := d) (o := od) (kvs := kvP ps)) (fun i σ H' => (∃ y2 y3, σ = [some (.ref b), some (.ref R), y2, y3]) ∧ But d H H' ∧ H' d = some (.frz od (.dK (kvP ps))) ∧ ∃ ts : List (Addr × Pr), Prs H' R ts ∧ ts.map (·.2) = (ps.take i).filter (isRow own))
      ⟨⟨none, none, rfl⟩, fun c o hc nc => by rw [upd_ne nc]; exact S1 _ _ hc, upd_same, [], ⟨by rw [upd_ne Rd0]; exact upd_same, fun t h => by cases h⟩, rfl⟩ (fun i σ H' _ hP => hP.2.2.1) (fun i x σ H5 H6 hi hP hy => ?_) (fun σ H5 hP => ?_)
    · obtain ⟨⟨y2, y3, rfl⟩, b5, d5, ts, pr, et⟩ := hP
      obtain ⟨T, kx, vx, rfl, nT, rfl, ek, ev⟩ := hy
      dsimp only at ek ev
      rw [show (kvP ps)[i]? = (ps[i]?).map (fun p => (Sum.inr p.1, V.str p.2)) by unfold kvP; rw [List.getElem?_map]] at ek ev
      cases ep : ps[i]? with
      | none => rw [ep] at ek; cases ek
      | some r =>
      rw [ep] at ek ev
      obtain rfl : V.str r.1 = kx := Option.some.inj ek
      obtain rfl : V.str r.2 = vx := Option.some.inj ev
      have m := List.mem_of_getElem? ep
      have zl := rows_zl gs m
      have S6 : Same H5 (L2.upd H5 T (.tup [.str r.1, .str r.2])) := same_upd nT
      refine ⟨T, _, rfl, .of upd_same, rfl, .str r.1, _, rfl, .str r.2, _, rfl, rfl, ?_⟩
      have hb6 := S6 _ _ (b5 _ _ h1 bd)
      have hd6 := S6 _ _ d5
      have pr6 := pr.same S6
      have b6 : But d H (L2.upd H5 T (.tup [.str r.1, .str r.2])) := b5.trans (Same.but S6)
      generalize L2.upd H5 T (.tup [V.str r.1, V.str r.2]) = H7 at hb6 hd6 pr6 b6
      have nR7 : But d H H7 := b6
      refine ⟨.str r.2, rfl, .ref b, rfl, b, C, dx, _, .ref d, rfl, hb6, TK.T.c, TK.T.no, lk1, .str r.1, rfl, 1, rfl, _, rfl, r.1, rfl, by omega, d, _, _, rfl, .inr ⟨od, hd6⟩, Nat.le_trans (cut_le r.1 none (some (-1))) zl.1, ?_⟩
      show rNe _ _ _ _
      rw [lane']
      refine ⟨?_, _, rfl, ite2 (fun u => ?_) (fun u => ?_)⟩
      · rcases laneV_kvP own (bl r.1) with e | ⟨z, e, _⟩ <;> rw [show cutS r.1 none (some (-1)) = bl r.1 from rfl, e] <;> rfl
      · rw [Bool.not_eq_true', decide_eq_false_iff_not] at u
        have lt : ts.length ≤ 900 := by
          have := congrArg List.length et
          rw [List.length_map] at this
          have h3 := List.length_filter_le (isRow own) (ps.take i)
          rw [List.length_take] at h3
          omega
        refine ⟨.ref R, rfl, .inl ⟨rfl, _, sqOf pr6.l⟩, .str r.1, rfl, .str r.2, rfl, by show 2 ≤ sizeLine; omega, fun T2 nT2 => ⟨R, _, .ref T2, rfl, rfl, by rw [upd_ne (ne_of_none pr6.l nT2)]; exact pr6.l, by rw [List.length_map]; omega, ?_⟩⟩
        have RT2 : R ≠ T2 := ne_of_none pr6.l nT2
        have dT2 : d ≠ T2 := ne_of_none hd6 nT2
        refine ⟨⟨_, _, rfl⟩, fun c o hc nc => ?_, ?_, ts ++ [(T2, r)], prs_snoc pr6.l pr6.t nT2, ?_⟩
        · have h7 := b6 c o hc nc
          rw [upd_ne (ne_of_none hc nR), upd_ne (ne_of_none h7 nT2)]
          exact h7
        · rw [upd_ne (Ne.symm Rd0), upd_ne dT2]
          exact hd6
        · rw [filter_snoc ep, if_pos (isRow_iff.mpr u), List.map_append, et]
          rfl
      · refine ⟨⟨_, _, rfl⟩, b6, hd6, ts, pr6, ?_⟩
        rw [filter_snoc ep, if_neg (fun z => u (by rw [Bool.not_eq_true', decide_eq_false_iff_not]; exact isRow_iff.mp z)), List.append_nil]
        exact et
    · obtain ⟨⟨y2, y3, rfl⟩, b5, d5, ts, pr, et⟩ := hP
      have le : (kvP ps).length = ps.length := kvP_len
      rw [le, List.take_length, ← hps] at et
      have et : ts.map (·.2) = leastR own := et
      have S6 : Same H (L2.upd H5 d (.dK (kvP ps))) := fun c o hc => by
        by_cases y : c = d
        · rw [y, upd_same]
          rw [y, h2] at hc
          exact hc
        · rw [upd_ne y]
          exact b5 c o hc y
      have ll := least_len own
      have lt : ts.length ≤ 900 := by
        have := congrArg List.length et
        rw [List.length_map] at this
        omega
      have pr6 : Prs (L2.upd H5 d (.dK (kvP ps))) R ts := ⟨by rw [upd_ne Rd0]; exact pr.l, fun t ht => by rw [upd_ne (ne_of (pr.t t ht) d5 (fun z => by cases z))]; exact pr.t t ht⟩
      have gl := least_good hT.g
      refine ⟨d5, .ref R, rfl, fun x dx nx ndx hne => ?_⟩
      refine tab_made2 (lst := true) (ts := ts) ⟨pr6.l, pr6.t, by omega, fun t ht => rows_zl gl (by rw [← et]; exact List.mem_map.mpr ⟨t, ht, rfl⟩)⟩ lt nx ndx hne (fun _ H' S T => ⟨rfl, ?_⟩) (fun g => absurd (by rw [et]; exact gl) g)
      rw [et] at T
      exact q x H' (S6.trans S) (S6.free nx) T
end
end Tb
namespace Tb
open PySem PySem.Spec PyProof.Rows L2
open PySem.W (EachIs AllAlike Sortable dataLe)
abbrev sLPart : Stmt := topS 30
abbrev NLPart : List Str := ["one", "two", "stems", "stem", "prefix"]
theorem scLPart : FnScope NLPart ["one", "two"] (defScope sLPart) := ⟨rfl, rfl, rfl, by decide +kernel, rfl, by decide +kernel, by decide +kernel⟩
abbrev sLRows : Stmt := topS 31
abbrev NLRows : List Str := ["own", "found", "prefix"]
theorem scLRows : FnScope NLRows ["own"] (defScope sLRows) := ⟨rfl, rfl, rfl, by decide +kernel, rfl, by decide +kernel, by decide +kernel⟩
abbrev sSpares : Stmt := topS 32
abbrev NSpares : List Str := ["bag", "own", "count", "k", "prefix", "way"]
theorem scSpares : FnScope NSpares ["bag", "own", "count"] (defScope sSpares) := ⟨rfl, rfl, rfl, by decide +kernel, rfl, by decide +kernel, by decide +kernel⟩
abbrev sOneCh : Stmt := topS 33
abbrev NOneCh : List Str := ["bag", "own", "ways", "prefix", "kind"]
theorem scOneCh : FnScope NOneCh ["bag", "own", "ways"] (defScope sOneCh) := ⟨rfl, rfl, rfl, by decide +kernel, rfl, by decide +kernel, by decide +kernel⟩
abbrev sSecond : Stmt := topS 34
abbrev NSecond : List Str := ["bag", "own", "ways", "k", "change"]
theorem scSecond : FnScope NSecond ["bag", "own", "ways"] (defScope sSecond) := ⟨rfl, rfl, rfl, by decide +kernel, rfl, by decide +kernel, by decide +kernel⟩
abbrev sLTable : Stmt := topS 35
abbrev NLTable : List Str := ["own", "turned", "pairs", "prefix"]
theorem scLTable : FnScope NLTable ["own", "turned"] (defScope sLTable) := ⟨rfl, rfl, rfl, by decide +kernel, rfl, by decide +kernel, by decide +kernel⟩
/-- two dicts of rows -/
def spLPart : Sp := fun vs H Q _ => ∃ (d e : Addr) (own two : List Pr), vs = [.ref d, .ref e] ∧ H d = some (.dK (kvP own)) ∧ H e = some (.dK (kvP two)) ∧ Good own ∧ Good two ∧ own.length + two.length ≤ 300 ∧ ∀ (r : Option Str) (H' : Hp), Same H H' → IsPart own two r → Q (oStr r) H'
def spLRows : Sp := fun vs H Q _ => ∃ (d : Addr) (own : List Pr), vs = [.ref d] ∧ H d = some (.dK (kvP own)) ∧ Good own ∧ own.length ≤ 300 ∧ ∀ (R : Addr) (ts : List (Addr × Pr)) (H' : Hp), Same H H' → H R = none → Prs H' R ts → ts.map (·.2) = leastR own → Q (.ref R) H'
theorem keys_len {ps : List Pr} (g : Good ps) {x : Str} (h : x ∈ ps.map Prod.fst) : x.length ≤ 1000 := by
  obtain ⟨r, hr, rfl⟩ := List.mem_map.mp h
  have := addr_len (g.1 r hr).1
  omega
section
variable {P : Program} {w : World} {K : PySem.W.Frag} {mg : Str → Option Value} {base : Heap}
abbrev CLLane (P : Program) (w : World) (K : PySem.W.Frag) (mg : Str → Option Value) (base : Heap) (g : Addr) (gd : FuncData) := C1 P w K mg base "_law_lane" sLLane ["own", "address"] 1 (spDA laneV) g gd
theorem ok_lpart {f g : Addr} {fd gd : FuncData} (F : Fun K "_law_least_parting" "_law_least_parting" sLPart f fd) (B : Blt mg) (cLLane : CLLane P w K mg base g gd) : FnOk P w K mg base CX0 2 f fd ["one", "two"] spLPart := by
  refine F.ok scLPart (fun vs H Q E h => ?_) (fun cdv A outer s H vs Q E hr h => ?_)
  · obtain ⟨d, e, own, two, rfl, _⟩ := h
    rfl
  · obtain ⟨d, e, own, two, rfl, h2, h4, g1, g2, hn, q⟩ := h
    have hz : sizeLine = 16777216 := rfl
    refine ⟨_, (pss_cons (ps_set (i := 2) scLPart.nd rfl (.inl rfl) (pe_callB (cr_sortedDt hr.units) (by rfl) B.sorted PyProof.Rows.boot_sorted (pa_cons (pe_lc (own := [("prefix", 4)]) (g := gName 4) (by rfl) scLPart.nd (pi_list (pe_op op_cat (pe_callTy (call_listD rfl) (by rfl) B.list PyProof.Rows.boot_list (pa_cons (pv 0) pa_nil)) (pe_callTy (call_listD rfl) (by rfl) B.list PyProof.Rows.boot_list (pa_cons (pv 1) pa_nil)))) (blkOk_by (N := NLPart) (sc := defScope sLPart) (by decide +kernel)) (fun _ _ _ _ _ => pg_name (i := 4) scLPart.nd rfl (Or.inl rfl)) (fun _ _ _ _ _ => pts_nil) (fun _ _ _ _ _ => pe_tup (pa_cons (pe_callB call_len_str (by rfl) B.len PySem.boot_len (pa_cons (pv 4) pa_nil)) (pa_cons (pv 4) pa_nil)))) pa_nil)))
      (pss_cons (ps_for PassesOwn.never rfl (pi_list (pv 2)) (pg_name (i := 3) scLPart.nd rfl (.inl rfl))
        (pss_one (ps_if (pt_cmpR op_ne (pe_call cLLane.G (hr.mono (by first | decide | omega)) (by rfl) cLLane.D.g cLLane.D.F.kp cLLane.D.b .nil pass0 (pa_cons (pv 0) (pa_cons (pe_ix ix_tup (pv 3) pe_int (fun _ _ => rfl)) pa_nil))) (pe_call cLLane.G (hr.mono (by first | decide | omega)) (by rfl) cLLane.D.g cLLane.D.F.kp cLLane.D.b .nil pass0 (pa_cons (pv 1) (pa_cons (pe_ix ix_tup (pv 3) pe_int (fun _ _ => rfl)) pa_nil))) (nomark _))
          (pss_one (ps_ret (pe_ix ix_tup (pv 3) pe_int (fun _ _ => rfl))))
          pss_nil)))
      (pss_one (ps_ret pe_non)))), ?_⟩
    refine ⟨.ref d, rfl, d, _, rfl, .of h2, fun p np => ?_⟩
    have S1 : Same H (L2.upd H p (.lst ((kvP own).map fun kv => kV kv.1))) := same_upd np
    refine ⟨.ref e, rfl, e, _, rfl, .of (S1 _ _ h4), fun p2 np2 => ?_⟩
    have S2 := S1.trans (same_upd np2 (o := .lst ((kvP two).map fun kv => kV kv.1)))
    have hp : (L2.upd (L2.upd H p (.lst ((kvP own).map fun kv => kV kv.1))) p2 (.lst ((kvP two).map fun kv => kV kv.1))) p = some (.lst ((kvP own).map fun kv => kV kv.1)) := by
      rw [upd_ne (ne_of_none upd_same np2)]
      exact upd_same
    have l1 : ((kvP own).map fun kv => kV kv.1).length = own.length := by rw [kv_keys, List.length_map, List.length_map]
    have l2 : ((kvP two).map fun kv => kV kv.1).length = two.length := by rw [kv_keys, List.length_map, List.length_map]
    refine ⟨p, p2, _, _, rfl, rfl, hp, upd_same, by omega, fun p3 np3 => ?_⟩
    have S3 := S2.trans (same_upd np3 (o := .lst (((kvP own).map fun kv => kV kv.1) ++ ((kvP two).map fun kv => kV kv.1))))
    have eK : ((kvP own).map fun kv => kV kv.1) ++ ((kvP two).map fun kv => kV kv.1) = (keys2 own two).map V.str := by
      rw [kv_keys, kv_keys, ← List.map_append]
      rfl
    rw [eK] at S3 ⊢
    have xl : ∀ x ∈ keys2 own two, x.length ≤ 1000 := fun x hx => (List.mem_append.mp hx).elim (keys_len g1) (keys_len g2)
    have lk : (keys2 own two).length ≤ 300 := by
      unfold keys2
      rw [List.length_append, List.length_map, List.length_map]
      exact hn
    have h3 : (L2.upd (L2.upd (L2.upd H p (.lst ((kvP own).map fun kv => kV kv.1))) p2 (.lst ((kvP two).map fun kv => kV kv.1))) p3 (.lst ((keys2 own two).map V.str))) p3 = some (.lst ((keys2 own two).map V.str)) := upd_same
    generalize L2.upd (L2.upd (L2.upd H p (.lst ((kvP own).map fun kv => kV kv.1))) p2 (.lst ((kvP two).map fun kv => kV kv.1))) p3 (.lst ((keys2 own two).map V.str)) = H3 at S3 h3 ⊢
    generalize hks : keys2 own two = ks at *
    refine ⟨p3, rfl, ⟨_, sqOf h3⟩, fun D nD => ?_⟩
    refine lc_it (walk_list (a := p3) (xs := ks.map V.str)) (fun i H1 => Same H3 H1 ∧ ∃ us : List (Addr × Str), H1 D = some (.lst (us.map fun u => V.ref u.1)) ∧ us.map (·.2) = ks.take i ∧ ∀ u ∈ us, pT H1 u) ⟨same_upd nD, [], upd_same, rfl, fun u h => by cases h⟩ (fun i H1 _ hP => sqOf (hP.1 _ _ h3)) (fun i v H1 H2 hi hP hy => ?_) (fun H1 hP => ?_)
    · obtain ⟨S4, us, hD, eu, hu⟩ := hP
      obtain ⟨rfl, ev⟩ := hy
      rw [List.getElem?_map] at ev
      cases ek : ks[i]? with
      | none => rw [ek] at ev; cases ev
      | some x =>
      rw [ek] at ev
      cases (Option.some.inj ev)
      have xl' := xl x (List.mem_of_getElem? ek)
      refine ⟨rfl, .str x, rfl, x, rfl, by omega, .str x, rfl, by show 2 ≤ sizeLine; omega, fun T nT => ?_⟩
      have lu : us.length ≤ 300 := by
        have := congrArg List.length eu
        rw [List.length_map, List.length_take] at this
        omega
      have DT : D ≠ T := ne_of_none hD nT
      refine ⟨_, by rw [upd_ne DT]; exact hD, by rw [List.length_map]; omega, fun b o hb => ?_, us ++ [(T, x)], ?_, ?_, fun u hu' => ?_⟩
      · rw [upd_ne (ne_of_none hb nD)]
        exact (S4.trans (same_upd nT)) _ _ hb
      · rw [upd_same, List.map_append]
        rfl
      · rw [List.map_append, eu, List.take_add_one, ek]
        rfl
      · rcases List.mem_append.mp hu' with hm | hm
        · show L2.upd _ D _ u.1 = _
          rw [upd_ne (ne_of (hu u hm) hD (fun z => by cases z)), upd_ne (ne_of_none (hu u hm) nT)]
          exact hu u hm
        · rw [List.mem_singleton.mp hm]
          show L2.upd _ D _ T = _
          rw [upd_ne (Ne.symm DT)]
          exact upd_same
    · obtain ⟨S4, us, hD, eu, hu⟩ := hP
      have ew : us.map (·.2) = ks := by
        rw [eu, List.length_map, List.take_length]
      clear eu
      have lu : us.length = ks.length := by rw [← ew, List.length_map]
      refine ⟨D, us.map fun u => (V.ref u.1, encA u.2), rfl, sqOf (by rw [List.map_map]; exact hD), fun b hb => ?_, ?_, ?_, fun b hb => ?_, fun p4 np4 => ?_⟩
      · obtain ⟨u, hm, rfl⟩ := List.mem_map.mp hb
        exact dp_A (hu u hm)
      · rw [List.map_map, show (Prod.snd ∘ fun u : Addr × Str => (V.ref u.1, encA u.2)) = encA ∘ Prod.snd from rfl, ← List.map_map]
        exact alike_A _
      · rw [List.map_map, show (Prod.snd ∘ fun u : Addr × Str => (V.ref u.1, encA u.2)) = encA ∘ Prod.snd from rfl, ← List.map_map]
        exact sortable_A _
      · obtain ⟨u, hm, rfl⟩ := List.mem_map.mp hb
        exact depth_A _
      have pm : ((us.map fun u => (V.ref u.1, encA u.2)).mergeSort (dataLe false Prod.snd)).Perm (us.map fun u => (V.ref u.1, encA u.2)) := List.mergeSort_perm _ _
      have pw : ((us.map fun u => (V.ref u.1, encA u.2)).mergeSort (dataLe false Prod.snd)).Pairwise (fun x y => dataLe false Prod.snd x y = true) := PySem.W.sort_pairwise (by unfold dataLe; exact PySem.W.sortLe_total _ _ _) _
      generalize (us.map fun u => (V.ref u.1, encA u.2)).mergeSort (dataLe false Prod.snd) = cs at pm pw ⊢
      obtain ⟨N, pN, rfl⟩ := perm_map pm
      have pw2 : (N.map (·.2)).Pairwise (fun a b => leA a b = true) := List.pairwise_map.mpr (List.pairwise_map.mp pw)
      have mem2 : ∀ x, x ∈ N.map (·.2) ↔ x ∈ keys2 own two := fun x => by
        rw [hks, ← ew]
        exact (pN.map (·.2)).mem_iff
      have S5 := (S3.trans S4).trans (same_upd np4 (o := .lst ((N.map fun u => (V.ref u.1, encA u.2)).map Prod.fst)))
      have hN : ∀ u ∈ N, pT (L2.upd H1 p4 (.lst ((N.map fun u => (V.ref u.1, encA u.2)).map Prod.fst))) u := fun u hm => (same_upd np4) _ _ (hu u (pN.mem_iff.mp hm))
      have h4' : (L2.upd H1 p4 (.lst ((N.map fun u => (V.ref u.1, encA u.2)).map Prod.fst))) p4 = some (.lst (N.map fun u => V.ref u.1)) := by
        rw [upd_same, List.map_map]
        rfl
      generalize L2.upd H1 p4 (.lst ((N.map fun u => (V.ref u.1, encA u.2)).map Prod.fst)) = H5 at S5 hN h4' ⊢
      refine ⟨.ref p4, rfl, p4, rfl, ⟨_, sqOf h4'⟩, ?_⟩
      refine for_it (walk_list (a := p4) (xs := N.map fun u => V.ref u.1)) (fun i σ H' => (∃ y, σ = [some (.ref d), some (.ref e), some (.ref p4), y, none]) ∧ H' = H5 ∧ ∀ j x, j < i → (N.map (·.2))[j]? = some x → ¬ unl own two x) ⟨⟨none, rfl⟩, rfl, fun j x h => absurd h (Nat.not_lt_zero _)⟩ (fun i σ H' _ hP => by obtain ⟨_, rfl, _⟩ := hP; exact sqOf h4') (fun i x σ H6 H7 hi hP hy => ?_) (fun σ H6 hP => ?_)
      · obtain ⟨⟨y, rfl⟩, rfl, bef⟩ := hP
        obtain ⟨rfl, ev⟩ := hy
        rw [List.getElem?_map] at ev
        cases ek : N[i]? with
        | none => rw [ek] at ev; cases ev
        | some u =>
        rw [ek] at ev
        cases (Option.some.inj ev)
        have hm := List.mem_of_getElem? ek
        have ek2 : (N.map (·.2))[i]? = some u.2 := by rw [List.getElem?_map, ek]; rfl
        have zl := xl u.2 (by rw [← hks]; exact (mem2 _).mp (List.mem_of_getElem? ek2))
        refine ⟨.ref d, rfl, .ref u.1, rfl, u.1, _, 1, .str u.2, rfl, rfl, .of (hN u hm), atI_nat (j := 1) rfl, d, _, u.2, rfl, S5 _ _ h2, zl, ?_⟩
        refine ⟨.ref e, rfl, .ref u.1, rfl, u.1, _, 1, .str u.2, rfl, rfl, .of (hN u hm), atI_nat (j := 1) rfl, e, _, u.2, rfl, S5 _ _ h4, zl, ?_⟩
        refine ⟨lane_scal _ _ _ _, _, rfl, ite2 (fun c => ?_) (fun c => ?_)⟩
        · rw [Bool.not_eq_true', decide_eq_false_iff_not] at c
          exact ⟨.ref u.1, rfl, u.1, _, 1, .str u.2, rfl, rfl, .of (hN u hm), atI_nat (j := 1) rfl, q (some u.2) _ S5 (part_at pw2 mem2 ek2 bef c)⟩
        · refine ⟨⟨_, rfl⟩, rfl, fun j x hj hx => ?_⟩
          rcases Nat.lt_succ_iff_lt_or_eq.mp hj with c2 | c2
          · exact bef j x c2 hx
          · subst c2
            rw [ek2] at hx
            cases hx
            exact fun w => c (by rw [decide_eq_false w]; rfl)
      · obtain ⟨⟨y, rfl⟩, rfl, bef⟩ := hP
        rw [List.length_map] at bef
        exact q none _ S5 (part_end mem2 (by rw [List.length_map]; exact bef))
theorem ok_lrows {f g : Addr} {fd gd : FuncData} (F : Fun K "_law_least_rows" "_law_least_rows" sLRows f fd) (B : Blt mg) (cLLane : CLLane P w K mg base g gd) : FnOk P w K mg base CX0 2 f fd ["own"] spLRows := by
  refine F.ok scLRows (fun vs H Q E h => ?_) (fun cdv A outer s H vs Q E hr h => ?_)
  · obtain ⟨d, own, rfl, _⟩ := h
    rfl
  · obtain ⟨d, own, rfl, h2, g1, hn, q⟩ := h
    have hz : sizeLine = 16777216 := rfl
    have hu := hu_of hr
    refine ⟨_, (pss_cons (ps_set (i := 1) scLRows.nd rfl (.inl rfl) (pe_lst pa_nil))
      (pss_cons (ps_for PassesOwn.never rfl (pi_list (pe_callB (cr_sortedDk rfl hr.units) (by rfl) B.sorted PyProof.Rows.boot_sorted (pa_cons (pv 0) pa_nil))) (pg_name (i := 2) scLRows.nd rfl (.inl rfl))
        (pss_one (ps_if (pt_cmpR op_ne (pe_dget hu (pv 0) (pv 2) (fun _ _ => rfl)) (pe_call cLLane.G (hr.mono (by first | decide | omega)) (by rfl) cLLane.D.g cLLane.D.F.kp cLLane.D.b .nil pass0 (pa_cons (pv 0) (pa_cons (pe_slice sl_str (pv 2) po_none (po_some (pe_un un_neg pe_int))) pa_nil))) (nomark _))
          (pss_one (ps_expr (pe_bm PySem.F.plainAttrs_list PySem.F.slot_list_append PySem.F.type_list_append mt_append (pv 1) (pa_cons (pe_tup (pa_cons (pv 2) (pa_cons (pe_dget hu (pv 0) (pv 2) (fun _ _ => rfl)) pa_nil))) pa_nil))))
          pss_nil)))
      (pss_one (ps_ret (pv 1))))), ?_⟩
    refine ⟨by show 0 ≤ sizeLine; omega, fun R nR => ?_⟩
    have S1 : Same H (L2.upd H R (.lst [])) := same_upd nR
    refine ⟨.ref d, rfl, d, _, own.map Prod.fst, rfl, .of (S1 _ _ h2), kvP_keys own, by rw [List.length_map]; omega, fun p np => ?_⟩
    have nRp : R ≠ p := ne_of_none upd_same np
    have S2 : Same H (L2.upd (L2.upd H R (.lst [])) p (.lst (((own.map Prod.fst).mergeSort le1).map V.str))) := S1.trans (same_upd np)
    have hR2 : (L2.upd (L2.upd H R (.lst [])) p (.lst (((own.map Prod.fst).mergeSort le1).map V.str))) R = some (.lst []) := by
      rw [upd_ne nRp]
      exact upd_same
    have hp2 : (L2.upd (L2.upd H R (.lst [])) p (.lst (((own.map Prod.fst).mergeSort le1).map V.str))) p = some (.lst (((own.map Prod.fst).mergeSort le1).map V.str)) := upd_same
    refine ⟨p, rfl, ⟨_, sqOf hp2⟩, ?_⟩
    refine for_it (walk_list (a := p) (xs := ((own.map Prod.fst).mergeSort le1).map V.str)) (fun i σ H' => (∃ y, σ = [some (.ref d), some (.ref R), y]) ∧ Same H H' ∧ H' p = some (.lst (((own.map Prod.fst).mergeSort le1).map V.str)) ∧ ∃ ts : List (Addr × Pr), Prs H' R ts ∧ ts.map (·.2) = ((own.mergeSort le2).take i).filter (isRow own))
      ⟨⟨none, rfl⟩, S2, hp2, [], ⟨hR2, fun t h => by cases h⟩, rfl⟩ (fun i σ H' _ hP => sqOf hP.2.2.1) (fun i x σ H5 H6 hi hP hy => ?_) (fun σ H5 hP => ?_)
    · obtain ⟨⟨y, rfl⟩, S5, h5, ts, pr, et⟩ := hP
      obtain ⟨rfl, ev⟩ := hy
      rw [List.getElem?_map] at ev
      cases ek : ((own.map Prod.fst).mergeSort le1)[i]? with
      | none => rw [ek] at ev; cases ev
      | some k =>
      rw [ek] at ev
      cases (Option.some.inj ev)
      obtain ⟨r, er, rfl, evr, _⟩ := sorted_take g1.2 ek
      have m : r ∈ own := mem_sort.mp (List.mem_of_getElem? er)
      have zl := rows_zl g1 m
      have hd5 := S5 _ _ h2
      have dg : DGet H6 d (.str r.1) (some (.str r.2)) := by
        rw [← evr]
        exact DGet.k (k := Sum.inr r.1) hd5
      refine ⟨.ref d, rfl, .str r.1, rfl, d, .str r.2, rfl, dg, .ref d, rfl, .str r.1, rfl, 1, rfl, _, rfl, r.1, rfl, by omega, d, _, _, rfl, hd5, Nat.le_trans (cut_le r.1 none (some (-1))) zl.1, ?_⟩
      refine ⟨?_, _, rfl, ite2 (fun u => ?_) (fun u => ?_)⟩
      · rcases laneV_kvP own (bl r.1) with e | ⟨z, e, _⟩ <;> rw [show cutS r.1 none (some (-1)) = bl r.1 from rfl, e] <;> rfl
      · rw [Bool.not_eq_true', decide_eq_false_iff_not] at u
        have lt : ts.length ≤ 900 := by
          have := congrArg List.length et
          rw [List.length_map] at this
          have h3 := List.length_filter_le (isRow own) ((own.mergeSort le2).take i)
          rw [List.length_take, len_sort] at h3
          omega
        refine ⟨.ref R, rfl, .inl ⟨rfl, _, sqOf pr.l⟩, .str r.1, rfl, .ref d, rfl, .str r.1, rfl, d, .str r.2, rfl, dg, by show 2 ≤ sizeLine; omega, fun T2 nT2 => ⟨R, _, .ref T2, rfl, rfl, by rw [upd_ne (ne_of_none pr.l nT2)]; exact pr.l, by rw [List.length_map]; omega, ?_⟩⟩
        refine ⟨⟨_, rfl⟩, fun c o hc => ?_, ?_, ts ++ [(T2, r)], prs_snoc pr.l pr.t nT2, ?_⟩
        · rw [upd_ne (ne_of_none hc nR), upd_ne (ne_of_none (S5 _ _ hc) nT2)]
          exact S5 _ _ hc
        · rw [upd_ne (Ne.symm nRp), upd_ne (ne_of_none h5 nT2)]
          exact h5
        · rw [filter_snoc er, if_pos (isRow_iff.mpr u), List.map_append, et]
          rfl
      · refine ⟨⟨_, rfl⟩, S5, h5, ts, pr, ?_⟩
        rw [filter_snoc er, if_neg (fun z => u (by rw [Bool.not_eq_true', decide_eq_false_iff_not]; exact isRow_iff.mp z)), List.append_nil]
        exact et
    · obtain ⟨⟨y, rfl⟩, S5, h5, ts, pr, et⟩ := hP
      have le : (((own.map Prod.fst).mergeSort le1).map V.str).length = (own.mergeSort le2).length := by
        rw [List.length_map, List.length_mergeSort, List.length_map, len_sort]
      rw [le, List.take_length] at et
      exact ⟨.ref R, rfl, q R ts H5 S5 nR pr et⟩
end
end Tb
namespace Tb
open PySem PySem.Spec PyProof.Rows L2
section
variable {X : Cx}
/-- a dict and an empty one -/
def rNeD0 : R2 := fun x y H Q => ∃ (a b : Addr) (ks : Kvs), x = .ref a ∧ y = .ref b ∧ H a = some (.dK ks) ∧ H b = some (.dK []) ∧ Q (.bl (!ks.isEmpty)) H
theorem op_ne_dict0 (hu : X.A.units < cLine) : OpR X (compareOp .NotEq) rNeD0 := by
  intro pins s σ H x y v u Q I rx ry h
  obtain ⟨a, b, ks, rfl, rfl, ea, eb, q⟩ := h
  obtain rfl : v = Value.ref a := rx
  obtain rfl : u = Value.ref b := ry
  obtain ⟨_, ya, va, ra, da⟩ := (show ObjOk X.prog X.w H s.heap a (.dK ks) from I.hok a _ ea)
  obtain ⟨_, yb, vb, rb, db⟩ := (show ObjOk X.prog X.w H s.heap b (.dK []) from I.hok b _ eb)
  have la : ks.length = va.length := ra.length
  have lb : 0 = vb.length := rb.length
  cases ks with
  | nil =>
    have hl : va.length = vb.length := by rw [← la, ← lb]; rfl
    exact PySem.W.keq_ne (knd := mixKind X.prog X.w) (r := true) ya yb da db hu (fun _ => hits_all rb ra (fun p hp => by cases hp)) (fin_bl I q (by simp [hl]))
  | cons k ks =>
    have hl : ¬ va.length = vb.length := by rw [← la, ← lb]; simp
    exact PySem.W.keq_ne (knd := mixKind X.prog X.w) (r := true) ya yb da db hu (fun e => absurd e hl) (fin_bl I q (by simp [hl]))
end
theorem Bag.lst {H : Hp} {p : Addr} (B : Bag H p) : ∃ xs, H p = some (.lst xs) := by
  obtain ⟨n, c, m, ns, hp, _⟩ := B
  exact ⟨_, hp⟩
theorem paired_rows {K : PySem.W.Frag} {H : Hp} : ∀ {ts : List (Addr × Pr)}, (∀ t ∈ ts, H t.1 = some (.tup [.str t.2.1, .str t.2.2])) → Paired (fun (p : Addr) (kv : Key × V) => SqT K H p [kV kv.1, kv.2]) (ts.map Prod.fst) (kvP (ts.map (·.2)))
  | [], _ => .nil
  | t :: ts, h => .cons (.of (h t List.mem_cons_self)) (paired_rows fun x hx => h x (List.mem_cons_of_mem _ hx))
theorem merge_from (qs : List Pr) : ∀ ps : List Pr, ((ps ++ qs).map Prod.fst).Nodup → mergeK (kvP ps) (kvP qs) = kvP (ps ++ qs) := by
  induction qs with
  | nil => intro ps _; rw [List.append_nil]; rfl
  | cons r qs ih =>
    intro ps h
    show mergeK (putK (kvP ps) (Sum.inr r.1) (V.str r.2)) (kvP qs) = _
    have hn : valV (kvP ps) (Sum.inr r.1) = none := by
      cases e : valV (kvP ps) (Sum.inr r.1) with
      | none => rfl
      | some v =>
        exfalso
        have m := (valV_kvP r.1 ps).mp (by rw [e]; rfl)
        rw [List.map_append, List.nodup_append] at h
        exact h.2.2 _ m _ (by simp) rfl
    have e : putK (kvP ps) (Sum.inr r.1) (V.str r.2) = kvP (ps ++ [r]) := by
      rw [putK_new _ hn]
      unfold kvP
      rw [List.map_append]
      rfl
    rw [e, ih (ps ++ [r]) (by rw [List.append_assoc]; exact h), List.append_assoc]
    rfl
theorem merge_kvP {ps : List Pr} (h : (ps.map Prod.fst).Nodup) : mergeK [] (kvP ps) = kvP ps := merge_from ps [] h

/-- a dict of good rows at d -/
structure Dc (H : Hp) (d : Addr) (own : List Pr) : Prop where
  d : H d = some (.dK (kvP own))
  g : Good own
theorem Dc.same {H H' : Hp} {d : Addr} {own : List Pr} (D : Dc H d own) (h : Same H H') : Dc H' d own := ⟨h _ _ D.d, D.g⟩
theorem Dc.but {H H' : Hp} {d p : Addr} {own : List Pr} (D : Dc H d own) (B : Bag H p) (h : But p H H') : Dc H' d own := by
  obtain ⟨xs, hp⟩ := B.lst
  exact ⟨h _ _ D.d (ne_of D.d hp (fun z => by cases z)), D.g⟩
def spSpares : Sp := fun vs H Q _ => ∃ (p d : Addr) (own : List Pr) (n : Int), vs = [.ref p, .ref d, .int n] ∧ Bag H p ∧ Dc H d own ∧ 0 ≤ n ∧ n ≤ 4 ∧ own.length ≤ 80 ∧ ∀ (e : Addr) (two : List Pr) (H' : Hp), Dc H' e two → two.length ≤ own.length + 4 → Bag H' p → But p H H' → Q (.ref e) H'
def spOneCh : Sp := fun vs H Q _ => ∃ (p d l : Addr) (own : List Pr) (ws : List Str), vs = [.ref p, .ref d, .ref l] ∧ Bag H p ∧ Dc H d own ∧ own.length ≤ 100 ∧ Ways H l ws ∧ ∀ (T : Addr) (z : Str) (o : Option Str) (H' : Hp), H' T = some (.tup [.str z, oStr o]) → isAddr z = true → (∀ w, o = some w → isLane w = true) → (o = none → z ∈ own.map Prod.fst) → Bag H' p → But p H H' → Q (.ref T) H'
def spSecond : Sp := fun vs H Q _ => ∃ (p d l : Addr) (own : List Pr) (ws : List Str), vs = [.ref p, .ref d, .ref l] ∧ Bag H p ∧ Dc H d own ∧ own.length ≤ 70 ∧ Ways H l ws ∧ ∀ (e : Addr) (two : List Pr) (H' : Hp), Dc H' e two → two.length ≤ 76 → Bag H' p → But p H H' → Q (.ref e) H'
theorem lane_is {own : List Pr} (g : Good own) {a : Str} {w : Str} (h : laneV (kvP own) a = .str w) : isLane w = true := by
  rcases laneV_kvP own a with e | ⟨z, e, q, hq, rfl⟩
  · rw [e] at h
    cases h
  · rw [e] at h
    cases h
    exact (g.1 q hq).2
section
variable {P : Program} {w : World} {K : PySem.W.Frag} {mg : Str → Option Value} {base : Heap}
abbrev CPrefix (P : Program) (w : World) (K : PySem.W.Frag) (mg : Str → Option Value) (base : Heap) (g : Addr) (gd : FuncData) := C1 P w K mg base "_law_prefix" sPrefix ["bag", "known"] 2 spPrefix g gd
abbrev CDraw (P : Program) (w : World) (K : PySem.W.Frag) (mg : Str → Option Value) (base : Heap) (g : Addr) (gd : FuncData) := C1 P w K mg base "_law_draw" sDraw ["bag", "size"] 1 spDraw g gd
abbrev CAfter (P : Program) (w : World) (K : PySem.W.Frag) (mg : Str → Option Value) (base : Heap) (g : Addr) (gd : FuncData) := C1 P w K mg base "_law_after" sLAfter ["own", "prefix", "way"] 1 spAfter g gd
abbrev CLRows (P : Program) (w : World) (K : PySem.W.Frag) (mg : Str → Option Value) (base : Heap) (g : Addr) (gd : FuncData) := C1 P w K mg base "_law_least_rows" sLRows ["own"] 2 spLRows g gd
abbrev CPairs (P : Program) (w : World) (K : PySem.W.Frag) (mg : Str → Option Value) (base : Heap) (g : Addr) (gd : FuncData) := C1 P w K mg base "_law_pairs" sPairs ["bag", "ways", "count"] 3 spPairs g gd
theorem ok_spares {f g1 g2 g3 : Addr} {fd gd1 gd2 gd3 : FuncData} (F : Fun K "_law_with_spares" "_law_with_spares" sSpares f fd) (B : Blt mg) (cPrefix : CPrefix P w K mg base g1 gd1) (cLLane : CLLane P w K mg base g2 gd2) (cAfter : CAfter P w K mg base g3 gd3) : FnOk P w K mg base CX0 3 f fd ["bag", "own", "count"] spSpares := by
  refine F.ok scSpares (fun vs H Q E h => ?_) (fun cdv A outer s H vs Q E hr h => ?_)
  · obtain ⟨p, d, own, n, rfl, _⟩ := h
    rfl
  · obtain ⟨p, d, own, n, rfl, hB, hD, n0, n4, ln, q⟩ := h
    refine ⟨_, (pss_cons (ps_for PassesOwn.never rfl (pi_range1 (by rfl) B.range (pa_cons (pv 2) pa_nil)) (pg_name (i := 3) scSpares.nd rfl (.inl rfl))
        (pss_cons (ps_set (i := 4) scSpares.nd rfl (.inl rfl) (pe_call cPrefix.G (hr.mono (by first | decide | omega)) (by rfl) cPrefix.D.g cPrefix.D.F.kp cPrefix.D.b .nil pass0 (pa_cons (pv 0) (pa_cons (pe_callTy (call_listD rfl) (by rfl) B.list PyProof.Rows.boot_list (pa_cons (pv 1) pa_nil)) pa_nil))))
        (pss_cons (ps_set (i := 5) scSpares.nd rfl (.inl rfl) (pe_call cLLane.G (hr.mono (by first | decide | omega)) (by rfl) cLLane.D.g cLLane.D.F.kp cLLane.D.b .nil pass0 (pa_cons (pv 1) (pa_cons (pv 4) pa_nil))))
        (pss_one (ps_if (pt_cmpR op_notN (pv 5) pe_non (nomark _))
          (pss_one (ps_set (i := 1) scSpares.nd rfl (.inl rfl) (pe_call cAfter.G (hr.mono (by first | decide | omega)) (by rfl) cAfter.D.g cAfter.D.F.kp cAfter.D.b .nil pass0 (pa_cons (pv 1) (pa_cons (pv 4) (pa_cons (pv 5) pa_nil))))))
          pss_nil)))))
      (pss_one (ps_ret (pv 1)))), ?_⟩
    refine ⟨.int n, rfl, n, rfl, by omega, by omega, ?_⟩
    refine for_it (walk_range (lo := 0) (n := n.toNat)) (fun i σ H' => ∃ (e : Addr) (two : List Pr) (y3 y4 y5 : Option V), σ = [some (.ref p), some (.ref e), some (.int n), y3, y4, y5] ∧ Dc H' e two ∧ two.length ≤ own.length + i ∧ Bag H' p ∧ But p H H')
      ⟨d, own, none, none, none, rfl, hD, Nat.le_refl _, hB, But.refl p H⟩ (fun _ _ _ _ _ => trivial) (fun i x σ H5 H6 hi hP hy => ?_) (fun σ H5 hP => ?_)
    · obtain ⟨e, two, y3, y4, y5, rfl, De, lt, B5, b5⟩ := hP
      obtain ⟨rfl, rfl⟩ := hy
      refine ⟨.ref p, rfl, .ref e, rfl, e, _, rfl, .of De.d, fun L nL => ?_⟩
      obtain ⟨T9, hA⟩ := keys_txs De.g (by omega) (H := L2.upd H6 L (.lst ((kvP two).map fun kv => kV kv.1))) (l := L) upd_same
      have De7 := De.same (same_upd (o := .lst ((kvP two).map fun kv => kV kv.1)) nL)
      have B7 := B5.same (same_upd (o := .lst ((kvP two).map fun kv => kV kv.1)) nL)
      have b7 := b5.trans (Same.but (same_upd (o := .lst ((kvP two).map fun kv => kV kv.1)) nL))
      refine ⟨p, L, _, rfl, B7, T9, hA, fun z H8 Az B8 b8 => ?_⟩
      have De8 := De7.but B7 b8
      have b8 := b7.trans b8
      have az := (isAddr_iff z).mpr Az
      have zl := addr_len az
      refine ⟨.ref e, rfl, .str z, rfl, e, _, z, rfl, De8.d, by omega, ?_⟩
      rcases laneV_kvP two z with ev | ⟨wv, ev, _⟩
      · show gName 5 _ _ _ _
        rw [ev]
        exact ⟨.non, rfl, rfl, _, rfl, e, two, _, _, _, rfl, De8, by omega, B8, b8⟩
      · have wl := lane_is De8.g ev
        show gName 5 _ _ _ _
        rw [ev]
        refine ⟨.str wv, rfl, rfl, _, rfl, .ref e, rfl, .str z, rfl, .str wv, rfl, e, two, z, some wv, rfl, De8.d, De8.g.2, by omega, fun e2 H9 S9 _ h9 => ?_⟩
        have := @aft_len two z (some wv)
        exact ⟨e2, _, _, _, _, rfl, ⟨h9, (aft_good De8.g az).mpr fun l el => by cases el; exact wl⟩, by omega, B8.same S9, b8.trans (Same.but S9)⟩
    · obtain ⟨e, two, y3, y4, y5, rfl, De, lt, B5, b5⟩ := hP
      exact ⟨.ref e, rfl, q e two H5 De (by omega) B5 b5⟩
theorem ok_onech {f g1 g2 : Addr} {fd gd1 gd2 : FuncData} (F : Fun K "_law_one_change" "_law_one_change" sOneCh f fd) (B : Blt mg) (cPrefix : CPrefix P w K mg base g1 gd1) (cDraw : CDraw P w K mg base g2 gd2) : FnOk P w K mg base CX0 3 f fd ["bag", "own", "ways"] spOneCh := by
  refine F.ok scOneCh (fun vs H Q E h => ?_) (fun cdv A outer s H vs Q E hr h => ?_)
  · obtain ⟨p, d, l, own, ws, rfl, _⟩ := h
    rfl
  · obtain ⟨p, d, l, own, ws, rfl, hB, hD, ln, hW, q⟩ := h
    have hu := hu_of hr
    have hz : sizeLine = 16777216 := rfl
    refine ⟨_, (pss_cons (ps_set (i := 3) scOneCh.nd rfl (.inl rfl) (pe_call cPrefix.G (hr.mono (by first | decide | omega)) (by rfl) cPrefix.D.g cPrefix.D.F.kp cPrefix.D.b .nil pass0 (pa_cons (pv 0) (pa_cons (pe_callTy (call_listD rfl) (by rfl) B.list PyProof.Rows.boot_list (pa_cons (pv 1) pa_nil)) pa_nil))))
      (pss_cons (ps_set (i := 4) scOneCh.nd rfl (.inl rfl) (pe_call cDraw.G (hr.mono (by first | decide | omega)) (by rfl) cDraw.D.g cDraw.D.F.kp cDraw.D.b .nil pass0 (pa_cons (pv 0) (pa_cons pe_int pa_nil))))
      (C8.pss_cut (ps_if (PW.pt (pw_and (pt_cmpR (op_ne_dict0 hr.units0) (pv 1) pe_dnewK (nomark _)) (pw_and1 (pt_cmpR op_gt (pv 4) pe_int (nomark _)))))
        (pss_one (ps_set (i := 3) scOneCh.nd rfl (.inl rfl) (pe_ix ix_list (pe_callTy (call_listD rfl) (by rfl) B.list PyProof.Rows.boot_list (pa_cons (pv 1) pa_nil)) (pe_call cDraw.G (hr.mono (by first | decide | omega)) (by rfl) cDraw.D.g cDraw.D.F.kp cDraw.D.b .nil pass0 (pa_cons (pv 0) (pa_cons (pe_callB call_lenD (by rfl) B.len PySem.boot_len (pa_cons (pv 1) pa_nil)) pa_nil))) (fun _ _ => rfl))))
        pss_nil)
      (pss_cons (ps_if (PW.pt (pw_and (pt_cmpR op_eq (pv 4) pe_int (nomark _)) (pw_and1 (pt_cmp (pc_din hu (pv 3) (pv 1))))))
        (pss_one (ps_ret (pe_tup (pa_cons (pv 3) (pa_cons pe_non pa_nil)))))
        pss_nil)
      (pss_one (ps_ret (pe_tup (pa_cons (pv 3) (pa_cons (pe_ix ix_list (pv 2) (pe_call cDraw.G (hr.mono (by first | decide | omega)) (by rfl) cDraw.D.g cDraw.D.F.kp cDraw.D.b .nil pass0 (pa_cons (pv 0) (pa_cons (pe_callB call_len_seq (by rfl) B.len PySem.boot_len (pa_cons (pv 2) pa_nil)) pa_nil))) (fun _ _ => rfl)) pa_nil))))))))), ?_⟩
    refine ⟨.ref p, rfl, .ref d, rfl, d, _, rfl, .of hD.d, fun L nL => ?_⟩
    obtain ⟨T9, hA⟩ := keys_txs hD.g (by omega) (H := L2.upd H L (.lst ((kvP own).map fun kv => kV kv.1))) (l := L) upd_same
    have S1 := same_upd (o := .lst ((kvP own).map fun kv => kV kv.1)) nL
    refine ⟨p, L, _, rfl, hB.same S1, T9, hA, fun z H2 Az B2 b2 => ?_⟩
    have D2 := (hD.same S1).but (hB.same S1) b2
    have b2 := (Same.but S1).trans b2
    have az := (isAddr_iff z).mpr Az
    refine ⟨.ref p, rfl, p, 4, rfl, B2, by decide, by decide, fun kd H3 k0 k1 B3 b3 => ?_⟩
    have D3 := D2.but B2 b3
    have b3 := b2.trans b3
    have W3 := hW.but hB b3
    clear T9 hA D2 B2
    refine ⟨fun σ' H' => ∃ z, σ' = [some (.ref p), some (.ref d), some (.ref l), some (.str z), some (.int kd)] ∧ isAddr z = true ∧ Dc H' d own ∧ Ways H' l ws ∧ Bag H' p ∧ But p H H', ?_, ?_⟩
    · refine ifS_via (fun c H' => (Dc H' d own ∧ Ways H' l ws ∧ Bag H' p ∧ But p H H') ∧ (c = true → own ≠ [])) (fun Q hQ => ?_) (fun c H5 hR => ?_)
      · refine ⟨.ref d, rfl, fun e ne => ⟨d, e, _, rfl, rfl, same_upd ne _ _ D3.d, upd_same, _, rfl, ?_⟩⟩
        have S4 := same_upd (o := HO.dK []) ne
        have all4 : Dc (L2.upd H3 e (.dK [])) d own ∧ Ways (L2.upd H3 e (.dK [])) l ws ∧ Bag (L2.upd H3 e (.dK [])) p ∧ But p H (L2.upd H3 e (.dK [])) := ⟨D3.same S4, W3.same S4, B3.same S4, b3.trans (Same.but S4)⟩
        cases own with
        | nil => exact hQ _ _ ⟨all4, fun z => by cases z⟩
        | cons o1 os => exact ⟨.int kd, rfl, kd, 0, rfl, rfl, _, rfl, hQ _ _ ⟨all4, fun _ => by simp⟩⟩
      · obtain ⟨⟨D5, W5, B5, b5⟩, hne⟩ := hR
        cases c with
        | false => exact ⟨z, rfl, az, D5, W5, B5, b5⟩
        | true =>
          have kpos : 0 < own.length := List.length_pos_iff.mpr (hne rfl)
          refine ⟨.ref d, rfl, d, _, rfl, .of D5.d, fun q nq => ?_⟩
          have S6 := same_upd (o := HO.lst ((kvP own).map fun kv => kV kv.1)) nq
          have h6 : (L2.upd H5 q (.lst ((kvP own).map fun kv => kV kv.1))) q = some (.lst ((own.map Prod.fst).map V.str)) := by rw [upd_same, kv_keys]
          have qp := bag_no B5 nq
          refine ⟨.ref p, rfl, .ref d, rfl, d, _, rfl, (D5.same S6).d, p, _, rfl, B5.same S6, by rw [kvP_len]; omega, by rw [kvP_len]; omega, fun j H7 j0 j1 B7 b7 => ?_⟩
          obtain ⟨x, hx, ex⟩ := pick (ks := own.map Prod.fst) (i := j) j0 (by rw [List.length_map, List.length_map]; rw [kvP_len] at j1; exact j1)
          obtain ⟨r, hr', rfl⟩ := List.mem_map.mp hx
          exact ⟨q, _, j, _, rfl, rfl, sqOf (b7 _ _ h6 qp), ex, r.1, rfl, (D5.g.1 r hr').1, (D5.same S6).but (B5.same S6) b7, (W5.same S6).but (B5.same S6) b7, B7, (b5.trans (Same.but S6)).trans b7⟩
    clear D3 W3 B3 b3 b2 az Az z
    rintro σ1 H4 ⟨z, rfl, az, D4, W4, B4, b4⟩
    refine seqIf_via (fun c H' => H' = H4 ∧ (c = true → z ∈ own.map Prod.fst)) (fun Q hQ => ?_) (fun c H5 hR => ?_)
    · refine ⟨.int kd, rfl, rfl, _, rfl, ite2 (fun c1 => ?_) (fun c1 => ?_)⟩
      · refine ⟨.str z, rfl, .ref d, rfl, d, _, rfl, DGet.k (k := Sum.inr z) D4.d, _, rfl, hQ _ _ ⟨rfl, fun e => (valV_kvP z own).mp e⟩⟩
      · exact hQ _ _ ⟨rfl, fun e => by cases e⟩
    · obtain ⟨rfl, hm⟩ := hR
      cases c with
      | true => exact ⟨.str z, rfl, by show 2 ≤ sizeLine; omega, fun T nT => q T z none _ upd_same az (fun w e => by cases e) (fun _ => hm rfl) (B4.same (same_upd nT)) (b4.trans (Same.but (same_upd nT)))⟩
      | false =>
        have wn := W4.n
        refine ⟨.str z, rfl, .ref l, rfl, .ref p, rfl, .ref l, rfl, l, _, rfl, .inl (sqOf W4.l), p, _, rfl, B4, by rw [List.length_map]; omega, by rw [List.length_map]; omega, fun j H6 j0 j1 B6 b6 => ?_⟩
        obtain ⟨x, hx, ex⟩ := pick j0 j1
        have W6 := W4.but B4 b6
        exact ⟨l, _, j, .str x, rfl, rfl, sqOf W6.l, ex, by show 2 ≤ sizeLine; omega, fun T nT => q T z (some x) _ upd_same az (fun w e => by cases e; exact W6.g x hx) (fun e => by cases e) (B6.same (same_upd nT)) ((b4.trans b6).trans (Same.but (same_upd nT)))⟩
theorem ok_second {f g1 g2 g3 g4 g5 g6 : Addr} {fd gd1 gd2 gd3 gd4 gd5 gd6 : FuncData} (F : Fun K "_law_second" "_law_second" sSecond f fd) (B : Blt mg) (cDraw : CDraw P w K mg base g1 gd1) (cPairs : CPairs P w K mg base g2 gd2)
    (cSpares : C1 P w K mg base "_law_with_spares" sSpares ["bag", "own", "count"] 3 spSpares g3 gd3) (cLRows : CLRows P w K mg base g4 gd4) (cOneCh : C1 P w K mg base "_law_one_change" sOneCh ["bag", "own", "ways"] 3 spOneCh g5 gd5) (cAfter : CAfter P w K mg base g6 gd6) : FnOk P w K mg base CX0 4 f fd ["bag", "own", "ways"] spSecond := by
  refine F.ok scSecond (fun vs H Q E h => ?_) (fun cdv A outer s H vs Q E hr h => ?_)
  · obtain ⟨p, d, l, own, ws, rfl, _⟩ := h
    rfl
  · obtain ⟨p, d, l, own, ws, rfl, hB, hD, ln, hW, q⟩ := h
    refine ⟨_, (C8.pss_cut (ps_if (pt_cmpR op_eq (pe_call cDraw.G (hr.mono (by first | decide | omega)) (by rfl) cDraw.D.g cDraw.D.F.kp cDraw.D.b .nil pass0 (pa_cons (pv 0) (pa_cons pe_int pa_nil))) pe_int (nomark _))
        (pss_one (ps_set (i := 1) scSecond.nd rfl (.inl rfl) (pe_callTy (call_dictP rfl) (by rfl) B.dict PyProof.Rows.boot_dict (pa_cons (pe_call cPairs.G (hr.mono (by first | decide | omega)) (by rfl) cPairs.D.g cPairs.D.F.kp cPairs.D.b .nil pass0 (pa_cons (pv 0) (pa_cons (pv 2) (pa_cons (pe_callB call_lenD (by rfl) B.len PySem.boot_len (pa_cons (pv 1) pa_nil)) pa_nil)))) pa_nil))))
        pss_nil)
      (pss_cons (ps_set (i := 1) scSecond.nd rfl (.inl rfl) (pe_call cSpares.G (hr.mono (by first | decide | omega)) (by rfl) cSpares.D.g cSpares.D.F.kp cSpares.D.b .nil pass0 (pa_cons (pv 0) (pa_cons (pv 1) (pa_cons (pe_call cDraw.G (hr.mono (by first | decide | omega)) (by rfl) cDraw.D.g cDraw.D.F.kp cDraw.D.b .nil pass0 (pa_cons (pv 0) (pa_cons pe_int pa_nil))) pa_nil)))))
      (C8.pss_cut (ps_if (pt_cmpR op_eq (pe_call cDraw.G (hr.mono (by first | decide | omega)) (by rfl) cDraw.D.g cDraw.D.F.kp cDraw.D.b .nil pass0 (pa_cons (pv 0) (pa_cons pe_int pa_nil))) pe_int (nomark _))
        (pss_one (ps_set (i := 1) scSecond.nd rfl (.inl rfl) (pe_callTy (call_dictP rfl) (by rfl) B.dict PyProof.Rows.boot_dict (pa_cons (pe_call cLRows.G (hr.mono (by first | decide | omega)) (by rfl) cLRows.D.g cLRows.D.F.kp cLRows.D.b .nil pass0 (pa_cons (pv 1) pa_nil)) pa_nil))))
        pss_nil)
      (pss_cons (ps_for PassesOwn.never rfl (pi_range1 (by rfl) B.range (pa_cons (pe_call cDraw.G (hr.mono (by first | decide | omega)) (by rfl) cDraw.D.g cDraw.D.F.kp cDraw.D.b .nil pass0 (pa_cons (pv 0) (pa_cons pe_int pa_nil))) pa_nil)) (pg_name (i := 3) scSecond.nd rfl (.inl rfl))
        (pss_cons (ps_set (i := 4) scSecond.nd rfl (.inl rfl) (pe_call cOneCh.G (hr.mono (by first | decide | omega)) (by rfl) cOneCh.D.g cOneCh.D.F.kp cOneCh.D.b .nil pass0 (pa_cons (pv 0) (pa_cons (pv 1) (pa_cons (pv 2) pa_nil)))))
        (pss_one (ps_set (i := 1) scSecond.nd rfl (.inl rfl) (pe_call cAfter.G (hr.mono (by first | decide | omega)) (by rfl) cAfter.D.g cAfter.D.F.kp cAfter.D.b .nil pass0 (pa_cons (pv 1) (pa_cons (pe_ix ix_tup (pv 4) pe_int (fun _ _ => rfl)) (pa_cons (pe_ix ix_tup (pv 4) pe_int (fun _ _ => rfl)) pa_nil))))))))
      (pss_one (ps_ret (pv 1))))))), ?_⟩
    -- pairs anew
    have dictOf : ∀ (R : Addr) (ts : List (Addr × Pr)) (H' : Hp), Prs H' R ts → Good (ts.map (·.2)) → ∃ (a : Addr) (ps : List Addr) (kvs : List (Key × V)), [V.ref R] = [V.ref a] ∧ SqL K H' a (ps.map V.ref) ∧ Paired (fun p kv => SqT K H' p [kV kv.1, kv.2]) ps kvs ∧ mergeK [] kvs = kvP (ts.map (·.2)) := fun R ts H' pr g => ⟨R, ts.map Prod.fst, kvP (ts.map (·.2)), rfl, sqOf (by rw [List.map_map]; exact pr.l), paired_rows pr.t, merge_kvP g.2⟩
    let M : Nat → L2.St → Hp → Prop := fun n σ' H' => ∃ (e : Addr) (two : List Pr), σ' = [some (.ref p), some (.ref e), some (.ref l), none, none] ∧ Dc H' e two ∧ two.length ≤ n ∧ Bag H' p ∧ But p H H'
    refine ⟨M 70, ?_, ?_⟩
    · refine ifS_via (fun c H' => Bag H' p ∧ But p H H') (fun Q hQ => ?_) (fun c H5 hR => ?_)
      · exact ⟨.ref p, rfl, p, 6, rfl, hB, by decide, by decide, fun j H1 j0 j1 B1 b1 => ⟨rfl, _, rfl, hQ _ _ ⟨B1, b1⟩⟩⟩
      · obtain ⟨B5, b5⟩ := hR
        have D5 := hD.but hB b5
        have W5 := hW.but hB b5
        cases c with
        | false => exact ⟨d, own, rfl, D5, ln, B5, b5⟩
        | true =>
          refine ⟨.ref p, rfl, .ref l, rfl, .ref d, rfl, d, _, rfl, D5.d, p, l, ws, _, rfl, B5, W5, by rw [kvP_len]; omega, by rw [kvP_len]; omega, fun R ts H6 pr g lt _ B6 b6 => ?_⟩
          obtain ⟨a, ps, kvs, e1, e2, e3, e4⟩ := dictOf R ts H6 pr g
          refine ⟨a, ps, kvs, e1, e2, e3, fun D nD => ?_⟩
          rw [e4]
          exact ⟨D, _, rfl, ⟨upd_same, g⟩, by rw [List.length_map]; omega, B6.same (same_upd nD), (b5.trans b6).trans (Same.but (same_upd nD))⟩
    rintro σ1 H1 ⟨e, two, rfl, D1, l1, B1, b1⟩
    refine ⟨.ref p, rfl, .ref e, rfl, .ref p, rfl, p, 5, rfl, B1, by decide, by decide, fun j H2 j0 j1 B2 b2 => ?_⟩
    refine ⟨p, e, two, j, rfl, B2, D1.but B1 b2, j0, by omega, by omega, fun e3 two3 H3 D3 l3 B3 b3 => ?_⟩
    have b3 := (b1.trans b2).trans b3
    refine ⟨M 74, ?_, ?_⟩
    · refine ifS_via (fun c H' => Bag H' p ∧ But p H3 H') (fun Q hQ => ?_) (fun c H5 hR => ?_)
      · exact ⟨.ref p, rfl, p, 4, rfl, B3, by decide, by decide, fun j H1 j0 j1 B1 b1 => ⟨rfl, _, rfl, hQ _ _ ⟨B1, b1⟩⟩⟩
      · obtain ⟨B5, b5⟩ := hR
        have D5 := D3.but B3 b5
        cases c with
        | false => exact ⟨e3, two3, rfl, D5, by omega, B5, b3.trans b5⟩
        | true =>
          refine ⟨.ref e3, rfl, e3, two3, rfl, D5.d, D5.g, by omega, fun R ts H6 S6 _ pr et => ?_⟩
          have gl := least_good D5.g
          obtain ⟨a, ps, kvs, e1, e2, e3', e4⟩ := dictOf R ts H6 pr (by rw [et]; exact gl)
          refine ⟨a, ps, kvs, e1, e2, e3', fun D nD => ?_⟩
          rw [e4, et]
          have := least_len two3
          exact ⟨D, _, rfl, ⟨upd_same, gl⟩, by omega, (B5.same S6).same (same_upd nD), ((b3.trans b5).trans (Same.but S6)).trans (Same.but (same_upd nD))⟩
    rintro σ1 H1 ⟨e, two, rfl, D1, l1, B1, b1⟩
    refine ⟨.ref p, rfl, p, 3, rfl, B1, by decide, by decide, fun n H2 n0 n1 B2 b2 => ⟨n, rfl, by omega, by omega, ?_⟩⟩
    refine for_it (walk_range (lo := 0) (n := n.toNat)) (fun i σ H' => ∃ (e : Addr) (two : List Pr) (y3 y4 : Option V), σ = [some (.ref p), some (.ref e), some (.ref l), y3, y4] ∧ Dc H' e two ∧ two.length ≤ 74 + i ∧ Bag H' p ∧ But p H H')
      ⟨e, two, none, none, rfl, D1.but B1 b2, l1, B2, b1.trans b2⟩ (fun _ _ _ _ _ => trivial) (fun i x σ H5 H6 hi hP hy => ?_) (fun σ H5 hP => ?_)
    · obtain ⟨e, two, y3, y4, rfl, De, lt, B5, b5⟩ := hP
      obtain ⟨rfl, rfl⟩ := hy
      refine ⟨.ref p, rfl, .ref e, rfl, .ref l, rfl, p, e, l, two, ws, rfl, B5, De, by omega, hW.but hB b5, fun T z o H7 hT az ow on B7 b7 => ?_⟩
      have D7 := De.but B5 b7
      refine ⟨.ref e, rfl, .ref T, rfl, T, _, 0, .str z, rfl, rfl, .of hT, atI_nat (j := 0) rfl, .ref T, rfl, T, _, 1, oStr o, rfl, rfl, .of hT, atI_nat (j := 1) rfl, e, two, z, o, rfl, D7.d, D7.g.2, by omega, fun e2 H9 S9 _ h9 => ?_⟩
      have := @aft_len two z o
      exact ⟨e2, _, _, _, rfl, ⟨h9, (aft_good D7.g az).mpr ow⟩, by omega, B7.same S9, (b5.trans b7).trans (Same.but S9)⟩
    · obtain ⟨e, two, y3, y4, rfl, De, lt, B5, b5⟩ := hP
      exact ⟨.ref e, rfl, q e two H5 De (by omega) B5 b5⟩
end
end Tb
namespace Tb
open PySem PySem.Spec PyProof.Rows L2
abbrev sParts : Stmt := topS 36
abbrev NParts : List Str := ["board", "other", "own", "two", "due", "told"]
theorem scParts : FnScope NParts ["board", "other", "own", "two"] (defScope sParts) := ⟨rfl, rfl, rfl, by decide +kernel, rfl, by decide +kernel, by decide +kernel⟩
abbrev sLHolds : Stmt := topS 37
abbrev NLHolds : List Str := ["bag", "board", "own", "due", "small", "k", "prefix", "less"]
theorem scLHolds : FnScope NLHolds ["bag", "board", "own"] (defScope sLHolds) := ⟨rfl, rfl, rfl, by decide +kernel, rfl, by decide +kernel, by decide +kernel⟩
def spLTable (C : Addr) : Sp := fun vs H Q _ => ∃ (d : Addr) (own : List Pr) (b : Bool), vs = [.ref d, .bl b] ∧ Dc H d own ∧ own.length ≤ 300 ∧ ∀ (x : Addr) (H' : Hp), Same H H' → H x = none → TabOf C H' x own → Q (.ref x) H'
def spParts (C : Addr) : Sp := fun vs H Q _ => ∃ (b c d e : Addr) (own two : List Pr), vs = [.ref b, .ref c, .ref d, .ref e] ∧ TabOf C H b own ∧ TabOf C H c two ∧ Dc H d own ∧ Dc H e two ∧ own.length + two.length ≤ 300 ∧ ∀ (H' : Hp), Same H H' → Q (.bl true) H'
def spLHolds (C : Addr) : Sp := fun vs H Q _ => ∃ (p b d : Addr) (own : List Pr), vs = [.ref p, .ref b, .ref d] ∧ Bag H p ∧ TabOf C H b own ∧ Dc H d own ∧ own.length ≤ 100 ∧ ∀ (H' : Hp), Bag H' p → But p H H' → Q (.bl true) H'
structure TabP (P : Program) (w : World) (K : PySem.W.Frag) (mg : Str → Option Value) (base : Heap) (C CI CU : Addr) : Prop where
  T : TabK P w K mg base C CI CU
  part : ∃ f fd, Meth K C "parting" f ∧ Binds K fd ["self", "other"] [] ∧ FnOk P w K mg base CX0 3 f fd ["self", "other"] (spParting C)
  least : ∃ f fd, Meth K C "least" f ∧ Binds K fd ["self"] [] ∧ FnOk P w K mg base CX0 6 f fd ["self"] (spLeast C)
  eq : ∃ f fd, PySem.W.findIn K (.ref C) "__eq__" = some (some (.ref f)) ∧ PySem.W.isFn K (.ref f) = true ∧ Binds K fd ["self", "other"] [] ∧ FnOk P w K mg base CX0 4 f fd ["self", "other"] (spTEq C)
  nl : PySem.W.notFirst K C (.type "list") = true
theorem TabOf.ins {C : Addr} {H : Hp} {b : Addr} {own : List Pr} (T : TabOf C H b own) : ∃ dx d, H b = some (.ins C dx [(wLanes, .ref d)]) := by
  obtain ⟨⟨dx, d, h, _⟩, _, _⟩ := T
  exact ⟨dx, d, h⟩
theorem lkN {f g : Str} {v : V} (h : (f == g) = false) : List.lookup f [(g, v)] = none := by
  rw [List.lookup_cons, h]
  rfl
section
variable {P : Program} {w : World} {K : PySem.W.Frag} {mg : Str → Option Value} {base : Heap}
theorem ok_ltable {f C CI CU : Addr} {fd : FuncData} (F : Fun K "_law_table" "_law_table" sLTable f fd) (B : Blt mg) (TK : TabK P w K mg base C CI CU) : FnOk P w K mg base CX0 6 f fd ["own", "turned"] (spLTable C) := by
  obtain ⟨fI, fdI, MK, bT, GT⟩ := TK.make
  refine F.ok scLTable (fun vs H Q E h => ?_) (fun cdv A outer s H vs Q E hr h => ?_)
  · obtain ⟨d, own, b, rfl, _⟩ := h
    rfl
  · obtain ⟨d, own, b, rfl, hD, ln, q⟩ := h
    have hu := hu_of hr
    have hz : sizeLine = 16777216 := rfl
    refine ⟨_, (pss_cons (ps_lock (ps_setLc (i := 2) (own := [("prefix", 3)]) (g := gName 3) (by rfl) scLTable.nd rfl rfl (sw_true rfl rfl rfl (by decide +kernel)) (pi_keys (pv 0)) (blkOk_by (N := NLTable) (sc := defScope sLTable) (by decide +kernel)) (fun _ _ _ _ _ => pg_name (i := 3) scLTable.nd rfl (Or.inl rfl)) (fun _ _ _ _ _ => pts_nil) (fun _ _ _ _ _ => pe_tup (pa_cons (pv 3) (pa_cons (pe_dget hu (pv 0) (pv 3) (fun _ _ => rfl)) pa_nil)))))
      (C8.pss_cut (ps_if (pt_val (pv 1))
        (pss_one (ps_expr (pe_bm0 PySem.F.plainAttrs_list PySem.F.slot_list_reverse PySem.F.type_list_reverse mt_reverse (pv 2))))
        pss_nil)
      (pss_one (ps_ret (pe_make MK GT (hr.mono (by first | decide | omega)) (by rfl) TK.g bT .nil passL (pa_cons (pv 2) pa_nil)))))), ?_⟩
    refine ⟨d, .dK (kvP own), hD.d, trivial, fun od => ?_⟩
    refine ⟨.ref d, rfl, d, od, rfl, .inl ⟨kvP own, upd_same, fun D nD => ?_⟩⟩
    have nD0 : H D = none := by
      by_cases e : D = d
      · rw [e, upd_same] at nD
        cases nD
      · rwa [upd_ne e] at nD
    have Dd0 : D ≠ d := fun e => by rw [e, upd_same] at nD; cases nD
    refine lc_it (walk_keys (d := d) (o := od) (kvs := kvP own)) (fun i H' => But d H H' ∧ H' d = some (.frz od (.dK (kvP own))) ∧ ∃ ts : List (Addr × Pr), Prs H' D ts ∧ ts.map (·.2) = own.take i)
      ⟨fun c o hc nc => by rw [upd_ne (ne_of_none hc nD0), upd_ne nc]; exact hc, by rw [upd_ne (Ne.symm Dd0)]; exact upd_same, [], ⟨upd_same, fun t h => by cases h⟩, rfl⟩ (fun i H' _ hP => hP.2.1) (fun i x H5 H6 hi hP hy => ?_) (fun H5 hP => ?_)
    · obtain ⟨b5, d5, ts, pr, et⟩ := hP
      obtain ⟨rfl, k, v, ek, rfl⟩ := hy
      rw [show (kvP own)[i]? = (own[i]?).map (fun p => (Sum.inr p.1, V.str p.2)) by unfold kvP; rw [List.getElem?_map]] at ek
      cases er : own[i]? with
      | none => rw [er] at ek; cases ek
      | some r =>
      rw [er] at ek
      cases (Option.some.inj ek)
      have m := List.mem_of_getElem? er
      have dg : DGet H6 d (.str r.1) (some (.str r.2)) := by
        rw [← valV_mem hD.g.2 m]
        exact .inl ⟨_, Sum.inr r.1, .inr ⟨od, d5⟩, rfl, rfl⟩
      have lt : ts.length ≤ 300 := by
        have := congrArg List.length et
        rw [List.length_map, List.length_take] at this
        omega
      refine ⟨rfl, .str r.1, rfl, .ref d, rfl, .str r.1, rfl, d, .str r.2, rfl, dg, by show 2 ≤ sizeLine; omega, fun T nT => ⟨_, by rw [upd_ne (ne_of_none pr.l nT)]; exact pr.l, by rw [List.length_map]; omega, fun c o hc nc => ?_, ?_, ts ++ [(T, r)], prs_snoc pr.l pr.t nT, ?_⟩⟩
      · have h6 := b5 c o hc nc
        rw [upd_ne (ne_of_none hc nD0), upd_ne (ne_of_none h6 nT)]
        exact h6
      · rw [upd_ne (Ne.symm Dd0), upd_ne (ne_of_none d5 nT)]
        exact d5
      · rw [List.map_append, et, List.take_add_one, er]
        rfl
    · obtain ⟨b5, d5, ts, pr, et⟩ := hP
      have et : ts.map (·.2) = own := by rw [et, kvP_len, List.take_length]
      refine ⟨d5, ?_⟩
      have S6 : Same H (L2.upd H5 d (.dK (kvP own))) := fun c o hc => by
        by_cases y : c = d
        · rw [y, upd_same]
          rw [y, hD.d] at hc
          exact hc
        · rw [upd_ne y]
          exact b5 c o hc y
      have pr6 : Prs (L2.upd H5 d (.dK (kvP own))) D ts := ⟨by rw [upd_ne Dd0]; exact pr.l, fun t ht => by rw [upd_ne (ne_of (pr.t t ht) d5 (fun z => by cases z))]; exact pr.t t ht⟩
      have lt : ts.length ≤ 300 := by
        have := congrArg List.length et
        rw [List.length_map] at this
        omega
      refine ⟨fun σ' H' => ∃ us : List (Addr × Pr), σ' = [some (.ref d), some (.bl b), some (.ref D), none] ∧ Same H H' ∧ Prs H' D us ∧ us.Perm ts, ?_, ?_⟩
      · refine ⟨.bl b, rfl, b, rfl, ?_⟩
        cases b with
        | false => exact ⟨ts, rfl, S6, pr6, .refl _⟩
        | true =>
          refine ⟨.ref D, rfl, .inl ⟨rfl, _, sqOf pr6.l⟩, D, _, rfl, rfl, pr6.l, ts.reverse, rfl, fun c o hc => ?_, ⟨?_, fun t ht => ?_⟩, List.reverse_perm ts⟩
          · rw [upd_ne (ne_of_none hc nD0)]
            exact S6 c o hc
          · rw [upd_same, List.map_reverse]
          · have h6 := pr6.t t (List.mem_reverse.mp ht)
            rw [upd_ne (ne_of h6 pr6.l (fun z => by cases z))]
            exact h6
      rintro σ1 H6 ⟨us, rfl, S7, pr7, pm⟩
      have g7 : Good (us.map (·.2)) := good_perm ((pm.map (·.2)).symm) (by rw [et]; exact hD.g)
      have lu := pm.length_eq
      refine ⟨.ref D, rfl, fun x dx nx ndx hne => ?_⟩
      refine tab_made2 (lst := true) (ts := us) ⟨pr7.l, pr7.t, by omega, fun t ht => rows_zl g7 (List.mem_map.mpr ⟨t, ht, rfl⟩)⟩ (by omega) nx ndx hne (fun _ H' S T => ⟨rfl, ?_⟩) (fun g => absurd g7 g)
      exact q x H' (S7.trans S) (S7.free nx) (T.perm (et ▸ pm.map (·.2)))
abbrev CLPart (P : Program) (w : World) (K : PySem.W.Frag) (mg : Str → Option Value) (base : Heap) (g : Addr) (gd : FuncData) := C1 P w K mg base "_law_least_parting" sLPart ["one", "two"] 2 spLPart g gd
theorem ok_parts {f g1 g2 C CI CU : Addr} {fd gd1 gd2 : FuncData} (F : Fun K "_law_parts" "_law_parts" sParts f fd) (B : Blt mg) (TP : TabP P w K mg base C CI CU) (cLPart : CLPart P w K mg base g1 gd1) (cLLane : CLLane P w K mg base g2 gd2) : FnOk P w K mg base CX0 5 f fd ["board", "other", "own", "two"] (spParts C) := by
  have TK := TP.T
  obtain ⟨fP, fdP, TPm, bP, FP⟩ := TP.part
  obtain ⟨fE, fdE, hE, nE, bE, FE⟩ := TP.eq
  obtain ⟨fC, fdC, hC, bC, FC⟩ := TK.call
  have FEr : FnR P w K mg base CX0 4 fE (spTEq C) := (FE.raw bE .nil).imp fun vs H Q E h => by rw [List.append_nil]; exact h
  have FCr : FnR P w K mg base CX0 3 fC (spTCall C) := (FC.raw bC .nil).imp fun vs H Q E h => by rw [List.append_nil]; exact h
  refine F.ok scParts (fun vs H Q E h => ?_) (fun cdv A outer s H vs Q E hr h => ?_)
  · obtain ⟨b, c, d, e, own, two, rfl, _⟩ := h
    rfl
  · obtain ⟨b, c, d, e, own, two, rfl, hT, hU, hD, hE2, hn, q⟩ := h
    obtain ⟨dx, d1, h1⟩ := hT.ins
    obtain ⟨dy, d2, h3⟩ := hU.ins
    have hn' : two.length + own.length ≤ 300 := by omega
    refine ⟨_, (pss_cons (ps_set (i := 4) scParts.nd rfl (.inl rfl) (pe_call cLPart.G (hr.mono (by first | decide | omega)) (by rfl) cLPart.D.g cLPart.D.F.kp cLPart.D.b .nil pass0 (pa_cons (pv 2) (pa_cons (pv 3) pa_nil))))
      (pss_cons (ps_set (i := 5) scParts.nd rfl (.inl rfl) (pe_meth (pv 0) TK.T.c TPm FP (hr.mono (by first | decide | omega)) bP .nil pass0 (pa_cons (pv 1) pa_nil)))
      (pss_cons (ps_if (pt_cmpR op_isN (pv 4) pe_non (nomark _))
        (pss_cons (ps_if (PW.pt (pw_or (pt_cmpR op_notN (pv 5) pe_non (nomark _)) (pw_or1 (pt_cmpR op_notN (pe_meth (pv 1) TK.T.c TPm FP (hr.mono (by first | decide | omega)) bP .nil pass0 (pa_cons (pv 0) pa_nil)) pe_non (nomark _)))))
          (pss_one (ps_ret pe_bl))
          pss_nil)
        (pss_one (ps_ret (pe_and (pe_cmpR op_isBl (pe_cmpR (op_eqO hE nE TP.nl FEr (hr.mono (by first | decide | omega))) (pv 0) (pv 1) (nomark _)) pe_bl (nomark _)) (pe_one (pe_cmpR op_isBl (pe_cmpR (op_eqO hE nE TP.nl FEr (hr.mono (by first | decide | omega))) (pv 1) (pv 0) (nomark _)) pe_bl (nomark _)))))))
        pss_nil)
      (pss_cons (ps_if (PW.pt (pw_or (pt_not (pt_val (pe_callB call_isi (by rfl) B.isi (by decide +kernel) (pa_cons (pv 5) (pa_cons (pe_bltn (by rfl) B.str PyProof.Rows.boot_str (v := .ty "str") (u := .type "str") rfl) pa_nil))))) (pw_or (pt_cmpR op_ne (pv 5) (pv 4) (nomark _)) (pw_or1 (pt_cmpR op_ne (pe_meth (pv 1) TK.T.c TPm FP (hr.mono (by first | decide | omega)) bP .nil pass0 (pa_cons (pv 0) pa_nil)) (pv 4) (nomark _))))))
        (pss_one (ps_ret pe_bl))
        pss_nil)
      (pss_cons (ps_if (PW.pt (pw_or (pt_cmpR op_ne (StX.pe_callO (pv 0) hC FCr (hr.mono (by first | decide | omega)) pass0 (pa_cons (pv 4) pa_nil)) (pe_call cLLane.G (hr.mono (by first | decide | omega)) (by rfl) cLLane.D.g cLLane.D.F.kp cLLane.D.b .nil pass0 (pa_cons (pv 2) (pa_cons (pv 4) pa_nil))) (nomark _)) (pw_or1 (pt_cmpR op_ne (StX.pe_callO (pv 1) hC FCr (hr.mono (by first | decide | omega)) pass0 (pa_cons (pv 4) pa_nil)) (pe_call cLLane.G (hr.mono (by first | decide | omega)) (by rfl) cLLane.D.g cLLane.D.F.kp cLLane.D.b .nil pass0 (pa_cons (pv 3) (pa_cons (pv 4) pa_nil))) (nomark _)))))
        (pss_one (ps_ret pe_bl))
        pss_nil)
      (pss_one (ps_ret (pe_and (pe_cmpR op_notBl (pe_cmpR (op_eqO hE nE TP.nl FEr (hr.mono (by first | decide | omega))) (pv 0) (pv 1) (nomark _)) pe_bl (nomark _)) (pe_one (pe_cmpR op_notBl (pe_cmpR (op_eqO hE nE TP.nl FEr (hr.mono (by first | decide | omega))) (pv 1) (pv 0) (nomark _)) pe_bl (nomark _))))))))))), ?_⟩
    refine ⟨.ref d, rfl, .ref e, rfl, d, e, own, two, rfl, hD.d, hE2.d, hD.g, hE2.g, hn, fun r H1 S1 P1 => ?_⟩
    refine ⟨.ref b, rfl, b, dx, _, rfl, S1 _ _ h1, rfl, .ref c, rfl, b, c, own, two, rfl, hT.same S1, hU.same S1, hn, fun r2 H2 S2 P2 => ?_⟩
    obtain rfl := P1.uniq P2
    have S2 := S1.trans S2
    have eqB : ∀ (H : Hp), Same H2 H → ∀ Q : VK, (∀ H', Same H2 H' → Q (.bl r.isNone) H') → rEqO C (spTEq C) (.ref b) (.ref c) H Q := fun H S Q k => ⟨b, dx, _, c, rfl, S _ _ (S2 _ _ h1), rfl, .inl ⟨dy, _, S _ _ (S2 _ _ h3)⟩, b, c, own, rfl, (hT.same S2).same S, .inl ⟨two, (hU.same S2).same S, hn, fun r4 H4 S4 P4 => ⟨⟨_, rfl⟩, by rw [P4.uniq P1]; exact k H4 (S.trans S4)⟩⟩⟩
    have eqC : ∀ (H : Hp), Same H2 H → ∀ Q : VK, (∀ H', Same H2 H' → Q (.bl r.isNone) H') → rEqO C (spTEq C) (.ref c) (.ref b) H Q := fun H S Q k => ⟨c, dy, _, b, rfl, S _ _ (S2 _ _ h3), rfl, .inl ⟨dx, _, S _ _ (S2 _ _ h1)⟩, c, b, two, rfl, (hU.same S2).same S, .inl ⟨own, (hT.same S2).same S, hn', fun r4 H4 S4 P4 => ⟨⟨_, rfl⟩, by rw [P4.uniq P1.symm]; exact k H4 (S.trans S4)⟩⟩⟩
    cases r with
    | none =>
      refine ⟨.non, rfl, rfl, true, rfl, ?_⟩
      refine ⟨.non, rfl, rfl, false, rfl, ?_⟩
      refine ⟨.ref c, rfl, c, dy, _, rfl, S2 _ _ h3, rfl, .ref b, rfl, c, b, two, own, rfl, hU.same S2, hT.same S2, hn', fun r3 H3 S3 P3 => ?_⟩
      obtain rfl := P1.symm.uniq P3
      refine ⟨rfl, false, rfl, ?_⟩
      refine ⟨.ref b, rfl, .ref c, rfl, eqB H3 S3 _ fun H4 S4 => ?_⟩
      refine ⟨_, _, rfl, rfl, _, rfl, ?_⟩
      refine ⟨.ref c, rfl, .ref b, rfl, eqC H4 S4 _ fun H5 S5 => ?_⟩
      exact ⟨_, _, rfl, rfl, q H5 (S2.trans S5)⟩
    | some z =>
      refine ⟨.str z, rfl, rfl, false, rfl, ?_⟩
      obtain ⟨zm, zu, _⟩ := P1.yes z rfl
      have zl : z.length ≤ 1000 := (List.mem_append.mp zm).elim (keys_len hD.g) (keys_len hE2.g)
      refine ⟨.str z, rfl, .str z, .ty "str", .type "str", .type "str", true, rfl, .ty _, .base (.str _), kit_ty (by decide +kernel), true, rfl, ?_⟩
      refine ⟨.str z, rfl, .str z, rfl, rfl, false, by show V.bl (!decide (V.str z = V.str z)) = _; rw [decide_eq_true rfl]; rfl, ?_⟩
      refine ⟨.ref c, rfl, c, dy, _, rfl, S2 _ _ h3, rfl, .ref b, rfl, c, b, two, own, rfl, hU.same S2, hT.same S2, hn', fun r3 H3 S3 P3 => ?_⟩
      obtain rfl := P1.symm.uniq P3
      refine ⟨.str z, rfl, rfl, false, by show V.bl (!decide (V.str z = V.str z)) = _; rw [decide_eq_true rfl]; rfl, ?_⟩
      have S3' := S2.trans S3
      have T3 := hT.same S3'
      have U3 := hU.same S3'
      have e1 : ∀ x y : V, x = y → scal x y = true → (!decide (x = y)) = false := fun x y e _ => by rw [decide_eq_true e]; rfl
      refine ⟨.ref b, rfl, b, rfl, .str z, rfl, .inr ⟨dx, _, S3' _ _ h1⟩, b, own, z, rfl, T3, zl, ?_⟩
      refine ⟨.ref d, rfl, .str z, rfl, d, _, z, rfl, S3' _ _ hD.d, zl, lane_scal _ _ _ _, false, by rw [decide_eq_true rfl]; rfl, ?_⟩
      refine ⟨.ref c, rfl, c, rfl, .str z, rfl, .inr ⟨dy, _, S3' _ _ h3⟩, c, two, z, rfl, U3, zl, ?_⟩
      refine ⟨.ref e, rfl, .str z, rfl, e, _, z, rfl, S3' _ _ hE2.d, zl, lane_scal _ _ _ _, false, by rw [decide_eq_true rfl]; rfl, ?_⟩
      refine ⟨.ref b, rfl, .ref c, rfl, eqB H3 S3 _ fun H4 S4 => ?_⟩
      refine ⟨_, _, rfl, rfl, _, rfl, ?_⟩
      refine ⟨.ref c, rfl, .ref b, rfl, eqC H4 S4 _ fun H5 S5 => ?_⟩
      exact ⟨_, _, rfl, rfl, q H5 (S2.trans S5)⟩
abbrev CRowsAre (P : Program) (w : World) (K : PySem.W.Frag) (mg : Str → Option Value) (base : Heap) (C : Addr) (g : Addr) (gd : FuncData) := C1 P w K mg base "_law_rows_are" sRowsAre ["board", "due"] 3 (spRowsAre C) g gd
theorem ok_lholds {f g1 g2 g3 C CI CU : Addr} {fd gd1 gd2 gd3 : FuncData} (F : Fun K "_law_least_holds" "_law_least_holds" sLHolds f fd) (B : Blt mg) (TP : TabP P w K mg base C CI CU) (tc : ClsV (.ref C) (.ref C)) (cLRows : CLRows P w K mg base g1 gd1) (cRowsAre : CRowsAre P w K mg base C g2 gd2) (cDraw : CDraw P w K mg base g3 gd3) : FnOk P w K mg base CX0 7 f fd ["bag", "board", "own"] (spLHolds C) := by
  have TK := TP.T
  obtain ⟨fP, fdP, TPm, bP, FP⟩ := TP.part
  obtain ⟨fL, fdL, TLm, bL, FL⟩ := TP.least
  obtain ⟨fE, fdE, hE, nE, bE, FE⟩ := TP.eq
  obtain ⟨fX, fdX, TXm, bX, FX⟩ := TK.chg
  have FEr : FnR P w K mg base CX0 4 fE (spTEq C) := (FE.raw bE .nil).imp fun vs H Q E h => by rw [List.append_nil]; exact h
  refine F.ok scLHolds (fun vs H Q E h => ?_) (fun cdv A outer s H vs Q E hr h => ?_)
  · obtain ⟨p, b, d, own, rfl, _⟩ := h
    rfl
  · obtain ⟨p, b, d, own, rfl, hB, hT, hD, ln, q⟩ := h
    have hz : sizeLine = 16777216 := rfl
    have g := hD.g
    have gl := least_good g
    have ll := least_len own
    refine ⟨_, (pss_cons (ps_set (i := 3) scLHolds.nd rfl (.inl rfl) (pe_call cLRows.G (hr.mono (by first | decide | omega)) (by rfl) cLRows.D.g cLRows.D.F.kp cLRows.D.b .nil pass0 (pa_cons (pv 2) pa_nil)))
      (pss_cons (ps_set (i := 4) scLHolds.nd rfl (.inl rfl) (pe_meth0 (pv 1) TK.T.c TLm FL (hr.mono (by first | decide | omega)) bL .nil pass0))
      (pss_cons (ps_if (PW.pt (pw_or (pt_not (pt_val (pe_callB call_isi (by rfl) B.isi (by decide +kernel) (pa_cons (pv 4) (pa_cons (pe_glob (by rfl) TK.g (v := .ref C) rfl) pa_nil))))) (pw_or1 (pt_not (pt_val (pe_call cRowsAre.G (hr.mono (by first | decide | omega)) (by rfl) cRowsAre.D.g cRowsAre.D.F.kp cRowsAre.D.b .nil pass0 (pa_cons (pv 4) (pa_cons (pv 3) pa_nil))))))))
        (pss_one (ps_ret pe_bl))
        pss_nil)
      (pss_cons (ps_if (PW.pt (pw_or (pt_cmpR op_notN (pe_meth (pv 4) TK.T.c TPm FP (hr.mono (by first | decide | omega)) bP .nil pass0 (pa_cons (pv 1) pa_nil)) pe_non (nomark _)) (pw_or (pt_cmpR op_notN (pe_meth (pv 1) TK.T.c TPm FP (hr.mono (by first | decide | omega)) bP .nil pass0 (pa_cons (pv 4) pa_nil)) pe_non (nomark _)) (pw_or1 (pt_cmpR op_notBl (pe_cmpR (op_eqO hE nE TP.nl FEr (hr.mono (by first | decide | omega))) (pv 4) (pv 1) (nomark _)) pe_bl (nomark _))))))
        (pss_one (ps_ret pe_bl))
        pss_nil)
      (pss_cons (ps_if (PW.pt (pw_or (pt_not (pt_val (pe_call cRowsAre.G (hr.mono (by first | decide | omega)) (by rfl) cRowsAre.D.g cRowsAre.D.F.kp cRowsAre.D.b .nil pass0 (pa_cons (pe_meth0 (pv 4) TK.T.c TLm FL (hr.mono (by first | decide | omega)) bL .nil pass0) (pa_cons (pv 3) pa_nil))))) (pw_or1 (pt_not (pt_val (pe_call cRowsAre.G (hr.mono (by first | decide | omega)) (by rfl) cRowsAre.D.g cRowsAre.D.F.kp cRowsAre.D.b .nil pass0 (pa_cons (pv 1) (pa_cons (pe_sortedItems rfl hr.units (pv 2) (by rfl) B.sorted) pa_nil))))))))
        (pss_one (ps_ret pe_bl))
        pss_nil)
      (pss_cons (ps_if (pt_cmpR (op_eqD hr.units) (pv 3) (pe_lst pa_nil) (nomark _))
        (pss_one (ps_ret pe_bl))
        pss_nil)
      (pss_cons (ps_for PassesOwn.never rfl (pi_range1 (by rfl) B.range (pa_cons pe_int pa_nil)) (pg_name (i := 5) scLHolds.nd rfl (.inl rfl))
        (pss_cons (ps_set (i := 6) scLHolds.nd rfl (.inl rfl) (pe_ix ix_tup (pe_ix ix_list (pv 3) (pe_call cDraw.G (hr.mono (by first | decide | omega)) (by rfl) cDraw.D.g cDraw.D.F.kp cDraw.D.b .nil pass0 (pa_cons (pv 0) (pa_cons (pe_callB call_len_seq (by rfl) B.len PySem.boot_len (pa_cons (pv 3) pa_nil)) pa_nil))) (fun _ _ => rfl)) pe_int (fun _ _ => rfl)))
        (pss_cons (ps_set (i := 7) scLHolds.nd rfl (.inl rfl) (pe_meth (pv 4) TK.T.c TXm FX (hr.mono (by first | decide | omega)) bX .nil passL (pa_cons (pv 6) (pa_cons pe_non pa_nil))))
        (pss_one (ps_if (PW.pt (pw_or (pt_cmpR op_ne (pe_meth (pv 7) TK.T.c TPm FP (hr.mono (by first | decide | omega)) bP .nil pass0 (pa_cons (pv 1) pa_nil)) (pv 6) (nomark _)) (pw_or (pt_cmpR op_ne (pe_meth (pv 1) TK.T.c TPm FP (hr.mono (by first | decide | omega)) bP .nil pass0 (pa_cons (pv 7) pa_nil)) (pv 6) (nomark _)) (pw_or1 (pt_cmpR op_isBl (pe_cmpR (op_eqO hE nE TP.nl FEr (hr.mono (by first | decide | omega))) (pv 7) (pv 1) (nomark _)) pe_bl (nomark _))))))
          (pss_one (ps_ret pe_bl))
          pss_nil)))))
      (pss_one (ps_ret (pe_call cRowsAre.G (hr.mono (by first | decide | omega)) (by rfl) cRowsAre.D.g cRowsAre.D.F.kp cRowsAre.D.b .nil pass0 (pa_cons (pv 4) (pa_cons (pv 3) pa_nil)))))))))))), ?_⟩
    refine ⟨.ref d, rfl, d, own, rfl, hD.d, g, by omega, fun R ts H1 S1 nR pr et => ?_⟩
    obtain ⟨dx, d1, h1⟩ := hT.ins
    refine ⟨.ref b, rfl, b, dx, _, rfl, S1 _ _ h1, rfl, b, own, rfl, hT.same S1, fun x H2 S2 nx T2 => ?_⟩
    obtain ⟨dx2, d2, h2⟩ := T2.ins
    have S02 := S1.trans S2
    have due : ts.map (·.2) = (leastR own).mergeSort le2 := by rw [et, least_sort]
    have lts : ts.length = (leastR own).length := by rw [← et, List.length_map]
    refine ⟨.ref x, rfl, .ref x, .ref C, .ref C, .ref C, true, rfl, tc, .base (.ins h2 TK.ins.cl TK.ins.ha TK.ins.hn TK.ins.htk TK.ins.hm), TK.ins.me, true, rfl, ?_⟩
    refine ⟨.ref x, rfl, .ref R, rfl, x, R, leastR own, ts, rfl, T2, pr.same S2, due, fun H3 S3 => ⟨true, rfl, ?_⟩⟩
    have S03 := S02.trans S3
    refine ⟨.ref x, rfl, x, dx2, _, rfl, S3 _ _ h2, rfl, .ref b, rfl, x, b, leastR own, own, rfl, T2.same S3, hT.same S03, by omega, fun r H4 S4 P4 => ?_⟩
    obtain rfl := P4.uniq (part_least g)
    have S24 := S3.trans S4
    have S04 := S03.trans S4
    refine ⟨rfl, false, rfl, ?_⟩
    refine ⟨.ref b, rfl, b, dx, _, rfl, S04 _ _ h1, rfl, .ref x, rfl, b, x, own, leastR own, rfl, hT.same S04, T2.same S24, by omega, fun r H5 S5 P5 => ?_⟩
    obtain rfl := P5.uniq (part_least g).symm
    have S25 := S24.trans S5
    have S05 := S04.trans S5
    refine ⟨rfl, false, rfl, ?_⟩
    refine ⟨.ref x, rfl, .ref b, rfl, x, dx2, _, b, rfl, S25 _ _ h2, rfl, .inl ⟨dx, _, S05 _ _ h1⟩, x, b, leastR own, rfl, T2.same S25, .inl ⟨own, hT.same S05, by omega, fun r H6 S6 P6 => ⟨⟨_, rfl⟩, ?_⟩⟩⟩
    obtain rfl := P6.uniq (part_least g)
    have S26 := S25.trans S6
    have S06 := S05.trans S6
    refine ⟨_, _, rfl, rfl, false, rfl, ?_⟩
    refine ⟨.ref x, rfl, x, dx2, _, rfl, S26 _ _ h2, rfl, x, leastR own, rfl, T2.same S26, fun x7 H7 S7 nx7 T7 => ?_⟩
    rw [least_least g] at T7
    have S27 := S26.trans S7
    have S07 := S06.trans S7
    refine ⟨.ref R, rfl, x7, R, leastR own, ts, rfl, T7, pr.same (S2.trans S27), due, fun H8 S8 => ⟨true, rfl, ?_⟩⟩
    have S28 := S27.trans S8
    have S08 := S07.trans S8
    refine ⟨.ref b, rfl, .ref d, rfl, d, own, rfl, S08 _ _ hD.d, by omega, fun H9 p9 us S9 np9 hp9 hus eus => ?_⟩
    refine ⟨b, p9, own, us, rfl, (hT.same S08).same S9, ⟨hp9, hus⟩, eus, fun H10 S10 => ⟨true, rfl, ?_⟩⟩
    have S2a := (S28.trans S9).trans S10
    have S0a := (S08.trans S9).trans S10
    have pra := pr.same (S2.trans S2a)
    have sg := good_sg gl
    refine ⟨.ref R, rfl, by show 0 ≤ sizeLine; omega, fun E1 nE1 => ?_⟩
    have Sb := same_upd (o := HO.lst []) nE1
    have S2b := S2a.trans Sb
    have S0b := S0a.trans Sb
    have prb := pra.same Sb
    refine ⟨_, _, .lst (sqOf prb.l) (dp_2s prb.t), .lst (sqOf upd_same) .nil, by rw [et]; exact shaped_2s sg, by decide +kernel, _, rfl, ite2 (fun c => ?_) (fun c => ?_)⟩
    · exact q _ (hB.same S0b) (Same.but S0b)
    have hpos : 0 < ts.length := by
      rw [eqv_nil, et] at c
      cases hl : leastR own with
      | nil => rw [hl] at c; exact absurd rfl c
      | cons r rs => rw [lts, hl]; exact Nat.succ_pos _
    have Bb := hB.same S0b
    have Tb' := hT.same S0b
    have T2b := T2.same S2b
    have h1b := S0b _ _ h1
    have h2b := S2b _ _ h2
    generalize L2.upd H10 E1 (.lst []) = Hb at S2b S0b prb Bb Tb' T2b h1b h2b
    have Rp : R ≠ p := fun e => by obtain ⟨_, hx⟩ := hB.lst; rw [e, hx] at nR; cases nR
    obtain ⟨lb, hlb⟩ := Bb.lst
    refine ⟨4, rfl, by omega, by omega, ?_⟩
    refine for_it (walk_range (lo := 0) (n := (4 : Int).toNat)) (fun i σ H' => (∃ y5 y6 y7, σ = [some (.ref p), some (.ref b), some (.ref d), some (.ref R), some (.ref x), y5, y6, y7]) ∧ Bag H' p ∧ But p Hb H')
      ⟨⟨none, none, none, rfl⟩, Bb, But.refl p Hb⟩ (fun _ _ _ _ _ => trivial) (fun i xi σ H5 H6 hi hP hy => ?_) (fun σ H5 hP => ?_)
    · obtain ⟨⟨y5, y6, y7, rfl⟩, B5, b5⟩ := hP
      obtain ⟨rfl, rfl⟩ := hy
      have RL := b5 _ _ prb.l Rp
      refine ⟨.ref R, rfl, .ref p, rfl, .ref R, rfl, R, _, rfl, .inl (sqOf RL), p, _, rfl, B5, by rw [List.length_map]; omega, by rw [List.length_map]; omega, fun j H7 j0 j1 B7 b7 => ?_⟩
      have b57 := b5.trans b7
      have RL7 := b57 _ _ prb.l Rp
      rw [List.length_map] at j1
      obtain ⟨a, r, e1, e2, e3⟩ := row_at et (i := j.toNat) (by rw [← lts]; omega) prb.t
      have m := List.mem_of_getElem? e2
      have e4 := b57 _ _ e3 (ne_of e3 hlb (fun z => by cases z))
      have zl := rows_zl gl m
      have T27 := T2b.but hlb b57
      have T7 := Tb'.but hlb b57
      have h27 := b57 _ _ h2b (ne_of h2b hlb (fun z => by cases z))
      have h17 := b57 _ _ h1b (ne_of h1b hlb (fun z => by cases z))
      refine ⟨R, _, j, .ref a, rfl, rfl, sqOf RL7, at_nat j0 e1, a, _, 0, .str r.1, rfl, rfl, .of e4, atI_nat (j := 0) rfl, ?_⟩
      refine ⟨.ref x, rfl, x, dx2, _, rfl, h27, rfl, .str r.1, rfl, x, leastR own, r.1, none, rfl, T27, by omega, zl.1, (fun l e => by cases e), (fun h => ?_), (fun _ _ h => absurd (List.mem_map.mpr ⟨r, m, rfl⟩) h), fun _ _ _ y H8 S8 T8 => ?_⟩
      · rcases h with h | ⟨l, e, _⟩
        · rw [(gl.1 r m).1] at h
          cases h
        · cases e
      have T8 : TabOf C H8 y (dropP (leastR own) r.1) := T8
      obtain ⟨dy, dd, h8⟩ := T8.ins
      have PD := part_drop g m
      have ld := drop_len (leastR own) r.1
      refine ⟨.ref y, rfl, y, dy, _, rfl, h8, rfl, .ref b, rfl, y, b, _, own, rfl, T8, T7.same S8, by omega, fun r3 H9 S9 P9 => ?_⟩
      obtain rfl := P9.uniq PD
      refine ⟨.str r.1, rfl, rfl, false, by show V.bl (!decide (V.str r.1 = V.str r.1)) = _; rw [decide_eq_true rfl]; rfl, ?_⟩
      have S89 := S8.trans S9
      refine ⟨.ref b, rfl, b, dx, _, rfl, S89 _ _ h17, rfl, .ref y, rfl, b, y, own, _, rfl, T7.same S89, T8.same S9, by omega, fun r3 Ha Sa Pa => ?_⟩
      obtain rfl := Pa.uniq PD.symm
      refine ⟨.str r.1, rfl, rfl, false, by show V.bl (!decide (V.str r.1 = V.str r.1)) = _; rw [decide_eq_true rfl]; rfl, ?_⟩
      have S8a := S89.trans Sa
      refine ⟨.ref y, rfl, .ref b, rfl, y, dy, _, b, rfl, (S9.trans Sa) _ _ h8, rfl, .inl ⟨dx, _, S8a _ _ h17⟩, y, b, _, rfl, T8.same (S9.trans Sa), .inl ⟨own, T7.same S8a, by omega, fun r Hc Sc Pc => ⟨⟨_, rfl⟩, ?_⟩⟩⟩
      obtain rfl := Pc.uniq PD
      exact ⟨_, _, rfl, rfl, false, rfl, ⟨_, _, _, rfl⟩, B7.same (S8a.trans Sc), b57.trans (Same.but (S8a.trans Sc))⟩
    · obtain ⟨⟨y5, y6, y7, rfl⟩, B5, b5⟩ := hP
      refine ⟨.ref x, rfl, .ref R, rfl, x, R, leastR own, ts, rfl, T2b.but hlb b5, ⟨b5 _ _ prb.l Rp, fun t ht => b5 _ _ (prb.t t ht) (ne_of (prb.t t ht) hlb (fun z => by cases z))⟩, due, fun H9 S9 => q H9 (B5.same S9) (((Same.but S0b).trans b5).trans (Same.but S9))⟩
end
end Tb
namespace Tb
open PySem PySem.Spec PyProof.Rows L2
abbrev sLaw : Stmt := topS 38
abbrev NLaw : List Str := ["script", "bag", "ways", "count", "own", "two", "board", "other", "alike", "k", "change", "fresh", "after"]
theorem scLaw : FnScope NLaw ["script"] (defScope sLaw) := ⟨rfl, rfl, rfl, by decide +kernel, rfl, by decide +kernel, by decide +kernel⟩
def spLaw (K : PySem.W.Frag) : Sp := fun vs H Q _ => ∃ (a : Addr) (ns : List Int), vs = [.ref a] ∧ SqL K H a (ns.map V.int) ∧ ∀ H', Q (.bl true) H'
/-- what stands while the law runs -/
structure LZ (C : Addr) (H : Hp) (p l d b : Addr) (ws : List Str) (own : List Pr) : Prop where
  bag : Bag H p
  ways : Ways H l ws
  dc : Dc H d own
  tab : TabOf C H b own
theorem LZ.same {C : Addr} {H H' : Hp} {p l d b : Addr} {ws : List Str} {own : List Pr} (Z : LZ C H p l d b ws own) (h : Same H H') : LZ C H' p l d b ws own := ⟨Z.bag.same h, Z.ways.same h, Z.dc.same h, Z.tab.same h⟩
theorem LZ.draw {C : Addr} {H H' : Hp} {p l d b : Addr} {ws : List Str} {own : List Pr} (Z : LZ C H p l d b ws own) (B : Bag H' p) (h : But p H H') : LZ C H' p l d b ws own := by
  obtain ⟨xs, hp⟩ := Z.bag.lst
  exact ⟨B, Z.ways.but Z.bag h, Z.dc.but Z.bag h, Z.tab.but hp h⟩
theorem eqv_rows : ∀ {A D : List Pr}, PyData.eqvAll (A.map enc2) (D.map enc2) = true → A = D := by
  intro A
  induction A with
  | nil =>
    intro D h
    cases D with
    | nil => rfl
    | cons y ys => simp [PyData.eqvAll] at h
  | cons x xs ih =>
    intro D h
    cases D with
    | nil => simp [PyData.eqvAll] at h
    | cons y ys =>
      simp [enc2, PyData.eqvAll, PyData.eqv] at h
      obtain ⟨⟨h1, h2⟩, h3⟩ := h
      have e : x = y := Prod.ext (by simpa using h1) (by simpa using h2)
      rw [e, ih (by simpa [enc2] using h3)]
theorem eqv_rows' {A D : List Pr} (sg : ∀ p ∈ A, SgP p) : PyData.eqv (.list (A.map enc2)) (.list (D.map enc2)) = decide (A = D) := by
  by_cases e : A = D
  · rw [decide_eq_true e, ← e]
    exact eqv_self (shaped_2s sg)
  · rw [decide_eq_false e]
    cases h : PyData.eqv (.list (A.map enc2)) (.list (D.map enc2)) with
    | false => rfl
    | true => exact absurd (eqv_rows (by rw [PyData.eqv] at h; exact h)) e
section
variable {P : Program} {w : World} {K : PySem.W.Frag} {mg : Str → Option Value} {base : Heap}
/-- the defs that the law calls -/
structure LaC (P : Program) (w : World) (K : PySem.W.Frag) (mg : Str → Option Value) (base : Heap) (C : Addr) : Prop where
  bag : ∃ g gd, C1 P w K mg base "_law_bag" sBag ["script"] 1 (spBag K) g gd
  ways : ∃ g gd, C1 P w K mg base "_law_ways" sWays ["bag"] 3 spWays g gd
  draw : ∃ g gd, CDraw P w K mg base g gd
  pairs : ∃ g gd, CPairs P w K mg base g gd
  second : ∃ g gd, C1 P w K mg base "_law_second" sSecond ["bag", "own", "ways"] 4 spSecond g gd
  table : ∃ g gd, C1 P w K mg base "_law_table" sLTable ["own", "turned"] 6 (spLTable C) g gd
  parts : ∃ g gd, C1 P w K mg base "_law_parts" sParts ["board", "other", "own", "two"] 5 (spParts C) g gd
  holds : ∃ g gd, C1 P w K mg base "_law_least_holds" sLHolds ["bag", "board", "own"] 7 (spLHolds C) g gd
  part : ∃ g gd, CLPart P w K mg base g gd
  one : ∃ g gd, C1 P w K mg base "_law_one_change" sOneCh ["bag", "own", "ways"] 3 spOneCh g gd
  after : ∃ g gd, CAfter P w K mg base g gd
  rows : ∃ g gd, CRowsAre P w K mg base C g gd
set_option maxHeartbeats 0 in
theorem ok_law {f C CI CU : Addr} {fd : FuncData} (F : Fun K "law" "law" sLaw f fd) (B : Blt mg) (TP : TabP P w K mg base C CI CU) (LC : LaC P w K mg base C) : FnOk P w K mg base CX0 8 f fd ["script"] (spLaw K) := by
  have TK := TP.T
  obtain ⟨_, _, cBag⟩ := LC.bag
  obtain ⟨_, _, cWays⟩ := LC.ways
  obtain ⟨_, _, cDraw⟩ := LC.draw
  obtain ⟨_, _, cPairs⟩ := LC.pairs
  obtain ⟨_, _, cSecond⟩ := LC.second
  obtain ⟨_, _, cLTable⟩ := LC.table
  obtain ⟨_, _, cParts⟩ := LC.parts
  obtain ⟨_, _, cLHolds⟩ := LC.holds
  obtain ⟨_, _, cLPart⟩ := LC.part
  obtain ⟨_, _, cOneCh⟩ := LC.one
  obtain ⟨_, _, cAfter⟩ := LC.after
  obtain ⟨_, _, cRowsAre⟩ := LC.rows
  obtain ⟨fL, fdL, TLm, bL, FL⟩ := TP.least
  obtain ⟨fE, fdE, hE, nE, bE, FE⟩ := TP.eq
  obtain ⟨fX, fdX, TXm, bX, FX⟩ := TK.chg
  obtain ⟨pR, fR, fdR, hpR, bR, FR⟩ := TK.rows
  have FEr : FnR P w K mg base CX0 4 fE (spTEq C) := (FE.raw bE .nil).imp fun vs H Q E h => by rw [List.append_nil]; exact h
  refine F.ok scLaw (fun vs H Q E h => ?_) (fun cdv A outer s H vs Q E hr h => ?_)
  · obtain ⟨a, ns, rfl, _⟩ := h
    rfl
  · obtain ⟨a, ns, rfl, hS, q⟩ := h
    have hz : sizeLine = 16777216 := rfl
    refine ⟨_, (pss_cons (ps_set (i := 1) scLaw.nd rfl (.inl rfl) (pe_call cBag.G (hr.mono (by first | decide | omega)) (by rfl) cBag.D.g cBag.D.F.kp cBag.D.b .nil pass0 (pa_cons (pv 0) pa_nil)))
      (pss_cons (ps_set (i := 2) scLaw.nd rfl (.inl rfl) (pe_call cWays.G (hr.mono (by first | decide | omega)) (by rfl) cWays.D.g cWays.D.F.kp cWays.D.b .nil pass0 (pa_cons (pv 1) pa_nil)))
      (pss_cons (ps_set (i := 3) scLaw.nd rfl (.inl rfl) (pe_call cDraw.G (hr.mono (by first | decide | omega)) (by rfl) cDraw.D.g cDraw.D.F.kp cDraw.D.b .nil pass0 (pa_cons (pv 1) (pa_cons pe_int pa_nil))))
      (C8.pss_cut (ps_if (pt_cmpR op_eq (pe_call cDraw.G (hr.mono (by first | decide | omega)) (by rfl) cDraw.D.g cDraw.D.F.kp cDraw.D.b .nil pass0 (pa_cons (pv 1) (pa_cons pe_int pa_nil))) pe_int (nomark _))
        (pss_one (ps_set (i := 3) scLaw.nd rfl (.inl rfl) (pe_op op_add pe_int (pe_call cDraw.G (hr.mono (by first | decide | omega)) (by rfl) cDraw.D.g cDraw.D.F.kp cDraw.D.b .nil pass0 (pa_cons (pv 1) (pa_cons pe_int pa_nil))))))
        pss_nil)
      (pss_cons (ps_set (i := 4) scLaw.nd rfl (.inl rfl) (pe_callTy (call_dictP rfl) (by rfl) B.dict PyProof.Rows.boot_dict (pa_cons (pe_call cPairs.G (hr.mono (by first | decide | omega)) (by rfl) cPairs.D.g cPairs.D.F.kp cPairs.D.b .nil pass0 (pa_cons (pv 1) (pa_cons (pv 2) (pa_cons (pv 3) pa_nil)))) pa_nil)))
      (pss_cons (ps_set (i := 5) scLaw.nd rfl (.inl rfl) (pe_call cSecond.G (hr.mono (by first | decide | omega)) (by rfl) cSecond.D.g cSecond.D.F.kp cSecond.D.b .nil pass0 (pa_cons (pv 1) (pa_cons (pv 4) (pa_cons (pv 2) pa_nil)))))
      (pss_cons (ps_set (i := 6) scLaw.nd rfl (.inl rfl) (pe_call cLTable.G (hr.mono (by first | decide | omega)) (by rfl) cLTable.D.g cLTable.D.F.kp cLTable.D.b .nil pass0 (pa_cons (pv 4) (pa_cons pe_bl pa_nil))))
      (pss_cons (ps_set (i := 7) scLaw.nd rfl (.inl rfl) (pe_call cLTable.G (hr.mono (by first | decide | omega)) (by rfl) cLTable.D.g cLTable.D.F.kp cLTable.D.b .nil pass0 (pa_cons (pv 5) (pa_cons (pe_cmpR op_eq (pe_call cDraw.G (hr.mono (by first | decide | omega)) (by rfl) cDraw.D.g cDraw.D.F.kp cDraw.D.b .nil pass0 (pa_cons (pv 1) (pa_cons pe_int pa_nil))) pe_int (nomark _)) pa_nil))))
      (pss_cons (ps_if (PW.pt (pw_or (pt_not (pt_val (pe_call cParts.G (hr.mono (by first | decide | omega)) (by rfl) cParts.D.g cParts.D.F.kp cParts.D.b .nil pass0 (pa_cons (pv 6) (pa_cons (pv 7) (pa_cons (pv 4) (pa_cons (pv 5) pa_nil))))))) (pw_or1 (pt_not (pt_val (pe_call cParts.G (hr.mono (by first | decide | omega)) (by rfl) cParts.D.g cParts.D.F.kp cParts.D.b .nil pass0 (pa_cons (pv 6) (pa_cons (pv 6) (pa_cons (pv 4) (pa_cons (pv 4) pa_nil))))))))))
        (pss_one (ps_ret pe_bl))
        pss_nil)
      (pss_cons (ps_if (pt_cmpR op_isBl (pe_cmpR (op_eqO hE nE TP.nl FEr (hr.mono (by first | decide | omega))) (pv 6) (pe_sortedItems rfl hr.units (pv 4) (by rfl) B.sorted) (nomark _)) pe_bl (nomark _))
        (pss_one (ps_ret pe_bl))
        pss_nil)
      (pss_cons (ps_if (PW.pt (pw_or (pt_not (pt_val (pe_call cLHolds.G (hr.mono (by first | decide | omega)) (by rfl) cLHolds.D.g cLHolds.D.F.kp cLHolds.D.b .nil pass0 (pa_cons (pv 1) (pa_cons (pv 6) (pa_cons (pv 4) pa_nil)))))) (pw_or1 (pt_not (pt_val (pe_call cLHolds.G (hr.mono (by first | decide | omega)) (by rfl) cLHolds.D.g cLHolds.D.F.kp cLHolds.D.b .nil pass0 (pa_cons (pv 1) (pa_cons (pv 7) (pa_cons (pv 5) pa_nil)))))))))
        (pss_one (ps_ret pe_bl))
        pss_nil)
      (pss_cons (ps_set (i := 8) scLaw.nd rfl (.inl rfl) (pe_cmpR op_isN (pe_call cLPart.G (hr.mono (by first | decide | omega)) (by rfl) cLPart.D.g cLPart.D.F.kp cLPart.D.b .nil pass0 (pa_cons (pv 4) (pa_cons (pv 5) pa_nil))) pe_non (nomark _)))
      (pss_cons (ps_if (pt_cmpR op_ne (pe_cmpR (op_eqD hr.units) (pe_prop (pe_meth0 (pv 6) TK.T.c TLm FL (hr.mono (by first | decide | omega)) bL .nil pass0) TK.T.c hpR FR (hr.mono (by first | decide | omega)) bR .nil pass0 (by rfl)) (pe_prop (pe_meth0 (pv 7) TK.T.c TLm FL (hr.mono (by first | decide | omega)) bL .nil pass0) TK.T.c hpR FR (hr.mono (by first | decide | omega)) bR .nil pass0 (by rfl)) (nomark _)) (pv 8) (nomark _))
        (pss_one (ps_ret pe_bl))
        pss_nil)
      (pss_cons (ps_for PassesOwn.never rfl (pi_range1 (by rfl) B.range (pa_cons (pe_call cDraw.G (hr.mono (by first | decide | omega)) (by rfl) cDraw.D.g cDraw.D.F.kp cDraw.D.b .nil pass0 (pa_cons (pv 1) (pa_cons pe_int pa_nil))) pa_nil)) (pg_name (i := 9) scLaw.nd rfl (.inl rfl))
        (pss_cons (ps_set (i := 10) scLaw.nd rfl (.inl rfl) (pe_call cOneCh.G (hr.mono (by first | decide | omega)) (by rfl) cOneCh.D.g cOneCh.D.F.kp cOneCh.D.b .nil pass0 (pa_cons (pv 1) (pa_cons (pv 5) (pa_cons (pv 2) pa_nil)))))
        (pss_cons (ps_set (i := 11) scLaw.nd rfl (.inl rfl) (pe_meth (pv 7) TK.T.c TXm FX (hr.mono (by first | decide | omega)) bX .nil passL (pa_cons (pe_ix ix_tup (pv 10) pe_int (fun _ _ => rfl)) (pa_cons (pe_ix ix_tup (pv 10) pe_int (fun _ _ => rfl)) pa_nil))))
        (pss_cons (ps_set (i := 12) scLaw.nd rfl (.inl rfl) (pe_call cAfter.G (hr.mono (by first | decide | omega)) (by rfl) cAfter.D.g cAfter.D.F.kp cAfter.D.b .nil pass0 (pa_cons (pv 5) (pa_cons (pe_ix ix_tup (pv 10) pe_int (fun _ _ => rfl)) (pa_cons (pe_ix ix_tup (pv 10) pe_int (fun _ _ => rfl)) pa_nil)))))
        (pss_cons (ps_if (PW.pt (pw_or (pt_not (pt_val (pe_call cParts.G (hr.mono (by first | decide | omega)) (by rfl) cParts.D.g cParts.D.F.kp cParts.D.b .nil pass0 (pa_cons (pv 7) (pa_cons (pv 11) (pa_cons (pv 5) (pa_cons (pv 12) pa_nil))))))) (pw_or1 (pt_not (pt_val (pe_call cParts.G (hr.mono (by first | decide | omega)) (by rfl) cParts.D.g cParts.D.F.kp cParts.D.b .nil pass0 (pa_cons (pv 6) (pa_cons (pv 11) (pa_cons (pv 4) (pa_cons (pv 12) pa_nil))))))))))
          (pss_one (ps_ret pe_bl))
          pss_nil)
        (pss_cons (ps_set (i := 7) scLaw.nd rfl (.inl rfl) (pv 11))
        (pss_one (ps_set (i := 5) scLaw.nd rfl (.inl rfl) (pv 12)))))))))
      (pss_cons (ps_if (PW.pt (pw_or (pt_not (pt_val (pe_call cParts.G (hr.mono (by first | decide | omega)) (by rfl) cParts.D.g cParts.D.F.kp cParts.D.b .nil pass0 (pa_cons (pv 6) (pa_cons (pv 7) (pa_cons (pv 4) (pa_cons (pv 5) pa_nil))))))) (pw_or1 (pt_not (pt_val (pe_call cLHolds.G (hr.mono (by first | decide | omega)) (by rfl) cLHolds.D.g cLHolds.D.F.kp cLHolds.D.b .nil pass0 (pa_cons (pv 1) (pa_cons (pv 7) (pa_cons (pv 5) pa_nil)))))))))
        (pss_one (ps_ret pe_bl))
        pss_nil)
      (pss_one (ps_ret (pe_and (pe_call cRowsAre.G (hr.mono (by first | decide | omega)) (by rfl) cRowsAre.D.g cRowsAre.D.F.kp cRowsAre.D.b .nil pass0 (pa_cons (pv 6) (pa_cons (pe_sortedItems rfl hr.units (pv 4) (by rfl) B.sorted) pa_nil))) (pe_one (pe_call cRowsAre.G (hr.mono (by first | decide | omega)) (by rfl) cRowsAre.D.g cRowsAre.D.F.kp cRowsAre.D.b .nil pass0 (pa_cons (pv 7) (pa_cons (pe_sortedItems rfl hr.units (pv 5) (by rfl) B.sorted) pa_nil)))))))))))))))))))))), ?_⟩
    refine ⟨.ref a, rfl, a, ns, rfl, hS, fun p H1 S1 np B1 => ?_⟩
    refine ⟨.ref p, rfl, p, rfl, B1, fun l ws H2 W2 nl B2 b2 => ?_⟩
    refine ⟨.ref p, rfl, p, 8, rfl, B2, by decide, by decide, fun n H3 n0 n1 B3 b3 => ?_⟩
    have W3 := W2.but B2 b3
    refine ⟨fun σ' H' => ∃ m : Int, σ' = [some (.ref a), some (.ref p), some (.ref l), some (.int m), none, none, none, none, none, none, none, none, none] ∧ 0 ≤ m ∧ m ≤ 40 ∧ Bag H' p ∧ Ways H' l ws, ?_, ?_⟩
    · refine ifS_via (fun c H' => Bag H' p ∧ Ways H' l ws) (fun Q hQ => ?_) (fun c H5 hR => ?_)
      · exact ⟨.ref p, rfl, p, 8, rfl, B3, by decide, by decide, fun j H1 j0 j1 B1 b1 => ⟨rfl, _, rfl, hQ _ _ ⟨B1, W3.but B3 b1⟩⟩⟩
      · obtain ⟨B5, W5⟩ := hR
        cases c with
        | false => exact ⟨n, rfl, n0, by omega, B5, W5⟩
        | true => exact ⟨.ref p, rfl, p, 29, rfl, B5, by decide, by decide, fun j H6 j0 j1 B6 b6 => ⟨12, j, rfl, rfl, 12 + j, rfl, by omega, by omega, B6, W5.but B5 b6⟩⟩
    rintro σ1 H4 ⟨m, rfl, m0, m1, B4, W4⟩
    refine ⟨.ref p, rfl, .ref l, rfl, .int m, rfl, p, l, ws, m, rfl, B4, W4, m0, by omega, fun R ts H5 pr g lt _ B5 b5 => ?_⟩
    have W5 := W4.but B4 b5
    refine ⟨R, ts.map Prod.fst, kvP (ts.map (·.2)), rfl, sqOf (by rw [List.map_map]; exact pr.l), paired_rows pr.t, fun d nd => ?_⟩
    rw [merge_kvP g.2]
    have lo : (ts.map (·.2)).length ≤ 70 := by rw [List.length_map]; exact lt
    generalize ts.map (·.2) = own at g lo
    have D6 : Dc (L2.upd H5 d (.dK (kvP own))) d own := ⟨upd_same, g⟩
    have B6 := B5.same (same_upd (o := .dK (kvP own)) nd)
    have W6 := W5.same (same_upd (o := .dK (kvP own)) nd)
    generalize L2.upd H5 d (.dK (kvP own)) = H6 at D6 B6 W6
    refine ⟨.ref p, rfl, .ref d, rfl, .ref l, rfl, p, d, l, own, ws, rfl, B6, D6, lo, W6, fun e two H7 E7 l2 B7 b7 => ?_⟩
    have D7 := D6.but B6 b7
    have W7 := W6.but B6 b7
    refine ⟨.ref d, rfl, d, own, false, rfl, D7, by omega, fun b H8 S8 nb T8 => ?_⟩
    have Z8 : LZ C H8 p l d b ws own := ⟨B7.same S8, W7.same S8, D7.same S8, T8⟩
    have E8 := E7.same S8
    refine ⟨.ref e, rfl, .ref p, rfl, p, 2, rfl, Z8.bag, by decide, by decide, fun j H9 j0 j1 B9 b9 => ⟨rfl, e, two, _, rfl, E8.but Z8.bag b9, by omega, fun c Ha Sa nc Ta => ?_⟩⟩
    have Za := (Z8.draw B9 b9).same Sa
    have Ea := (E8.but Z8.bag b9).same Sa
    clear T8 D7 W7 B7 E7 E8 Z8 W5 B5 W4 B4 W3 B3 W2 B2 B1 D6 B6 W6
    -- the first looks
    refine ⟨.ref b, rfl, .ref c, rfl, .ref d, rfl, .ref e, rfl, b, c, d, e, own, two, rfl, Za.tab, Ta, Za.dc, Ea, by omega, fun Hb Sb => ⟨true, rfl, ?_⟩⟩
    have Zb := Za.same Sb
    have Tb' := Ta.same Sb
    have Eb := Ea.same Sb
    refine ⟨.ref b, rfl, .ref b, rfl, .ref d, rfl, .ref d, rfl, b, b, d, d, own, own, rfl, Zb.tab, Zb.tab, Zb.dc, Zb.dc, by omega, fun Hc Sc => ⟨true, rfl, ?_⟩⟩
    have Zc := Zb.same Sc
    have Tc := Tb'.same Sc
    have Ec := Eb.same Sc
    clear Za Ta Ea Zb Tb' Eb
    refine ⟨.ref b, rfl, .ref d, rfl, d, own, rfl, Zc.dc.d, by omega, fun Hd pd us Sd npd hpd hus eus => ?_⟩
    have Zd := Zc.same Sd
    have Td := Tc.same Sd
    have Ed := Ec.same Sd
    obtain ⟨dx, d1, hb⟩ := Zd.tab.ins
    refine ⟨b, dx, _, pd, rfl, hb, rfl, .inr ⟨_, hpd⟩, b, pd, own, rfl, Zd.tab, .inr ⟨⟨_, hpd⟩, ⟨_, rfl⟩, ?_⟩⟩
    refine ⟨_, _, rfl, rfl, false, rfl, ?_⟩
    refine ⟨.ref p, rfl, .ref b, rfl, .ref d, rfl, p, b, d, own, rfl, Zd.bag, Zd.tab, Zd.dc, by omega, fun He Be be => ⟨true, rfl, ?_⟩⟩
    have Ze := Zd.draw Be be
    have Te : TabOf C He c two := by obtain ⟨xs, hp⟩ := Zd.bag.lst; exact Td.but hp be
    have Ee := Ed.but Zd.bag be
    refine ⟨.ref p, rfl, .ref c, rfl, .ref e, rfl, p, c, e, two, rfl, Ze.bag, Te, Ee, by omega, fun Hf Bf bf => ⟨true, rfl, ?_⟩⟩
    have Zf := Ze.draw Bf bf
    have Tf : TabOf C Hf c two := by obtain ⟨xs, hp⟩ := Ze.bag.lst; exact Te.but hp bf
    have Ef := Ee.but Ze.bag bf
    clear Zc Tc Ec Zd Td Ed Ze Te Ee hb
    refine ⟨.ref d, rfl, .ref e, rfl, d, e, own, two, rfl, Zf.dc.d, Ef.d, Zf.dc.g, Ef.g, by omega, fun r Hg Sg' Pg => ⟨rfl, ?_⟩⟩
    have Zg := Zf.same Sg'
    have Tg := Tf.same Sg'
    have Eg := Ef.same Sg'
    obtain ⟨dx, d1, hb⟩ := Zg.tab.ins
    obtain ⟨dy, d2, hc⟩ := Tg.ins
    refine ⟨.ref b, rfl, b, dx, _, rfl, hb, rfl, b, own, rfl, Zg.tab, fun x Hh Sh nx Tx => ?_⟩
    obtain ⟨dx3, d3, hx⟩ := Tx.ins
    refine ⟨x, dx3, _, rfl, hx, x, leastR own, rfl, Tx, fun p1 us1 Hi Si np1 hp1 hus1 eus1 => ?_⟩
    have Si' := Sh.trans Si
    refine ⟨.ref c, rfl, c, dy, _, rfl, Si' _ _ hc, rfl, c, two, rfl, Tg.same Si', fun y Hj Sj ny Ty => ?_⟩
    obtain ⟨dx4, d4, hy⟩ := Ty.ins
    refine ⟨y, dx4, _, rfl, hy, y, leastR two, rfl, Ty, fun p2 us2 Hk Sk np2 hp2 hus2 eus2 => ?_⟩
    have Sk' := Si'.trans (Sj.trans Sk)
    rw [least_sort] at eus1 eus2
    have sg1 := good_sg (least_good Zg.dc.g)
    have sg2 := good_sg (least_good Eg.g)
    refine ⟨_, _, .lst (sqOf ((Sj.trans Sk) _ _ hp1)) (dp_2s fun t ht => (Sj.trans Sk) _ _ (hus1 t ht)), .lst (sqOf hp2) (dp_2s hus2), by rw [eus1]; exact shaped_2s sg1, by rw [eus2]; exact shaped_2s sg2, ?_⟩
    rw [eus1, eus2, eqv_rows' sg1]
    have eA : decide (leastR own = leastR two) = decide (oStr r = V.non) := by
      refine decide_eq_decide.mpr ((least_iff Zg.dc.g Eg.g Pg).trans ?_)
      cases r with
      | none => exact ⟨fun _ => rfl, fun _ => rfl⟩
      | some z => exact ⟨(fun e => by cases e), (fun e => by cases e)⟩
    rw [eA]
    refine ⟨_, rfl, rfl, false, by rw [decide_eq_true rfl]; rfl, ?_⟩
    have Zk := Zg.same Sk'
    have Tk := Tg.same Sk'
    have Ek := Eg.same Sk'
    clear Zf Tf Ef Zg Tg Eg hb hc hx hy
    refine ⟨.ref p, rfl, p, 4, rfl, Zk.bag, by decide, by decide, fun n H3 n0 n1 B3 b3 => ⟨n, rfl, by omega, by omega, ?_⟩⟩
    have Z3 := Zk.draw B3 b3
    have T3 : TabOf C H3 c two := by obtain ⟨xs, hp⟩ := Zk.bag.lst; exact Tk.but hp b3
    have E3 := Ek.but Zk.bag b3
    let α := V.bl (decide (oStr r = V.non))
    refine for_it (walk_range (lo := 0) (n := n.toNat)) (fun i σ H' => ∃ (c e : Addr) (two : List Pr) (y3 y9 y10 y11 y12 : Option V), σ = [some (.ref a), some (.ref p), some (.ref l), y3, some (.ref d), some (.ref e), some (.ref b), some (.ref c), some α, y9, y10, y11, y12] ∧ LZ C H' p l d b ws own ∧ TabOf C H' c two ∧ Dc H' e two ∧ two.length ≤ 76 + i)
      ⟨c, e, two, _, _, _, _, _, rfl, Z3, T3, E3, by omega⟩ (fun _ _ _ _ _ => trivial) (fun i xi σ H5 H6 hi hP hy => ?_) (fun σ H5 hP => ?_)
    · clear Zk Tk Ek Z3 T3 E3 l2
      obtain ⟨c, e, two, y3, y9, y10, y11, y12, rfl, Z, T, E2, l2⟩ := hP
      obtain ⟨rfl, rfl⟩ := hy
      refine ⟨.ref p, rfl, .ref e, rfl, .ref l, rfl, p, e, l, two, ws, rfl, Z.bag, E2, by omega, Z.ways, fun U z o H7 hU az ow on B7 b7 => ?_⟩
      have Z7 := Z.draw B7 b7
      have T7 : TabOf C H7 c two := by obtain ⟨xs, hp⟩ := Z.bag.lst; exact T.but hp b7
      have E7 := E2.but Z.bag b7
      obtain ⟨dy, d2, hc⟩ := T7.ins
      refine ⟨.ref c, rfl, c, dy, _, rfl, hc, rfl, .ref U, rfl, U, _, 0, .str z, rfl, rfl, .of hU, atI_nat (j := 0) rfl, .ref U, rfl, U, _, 1, oStr o, rfl, rfl, .of hU, atI_nat (j := 1) rfl, c, two, z, o, rfl, T7, by omega, by have := addr_len az; omega, (fun w e => by have := lane_len (ow w e); omega), (fun h => ?_), (fun _ e h => absurd (on e) h), fun _ _ _ y H8 S8 T8 => ?_⟩
      · rcases h with h | ⟨w, e, h⟩
        · rw [az] at h
          cases h
        · rw [ow w e] at h
          cases h
      have U8 := S8 _ _ hU
      refine ⟨.ref e, rfl, .ref U, rfl, U, _, 0, .str z, rfl, rfl, .of U8, atI_nat (j := 0) rfl, .ref U, rfl, U, _, 1, oStr o, rfl, rfl, .of U8, atI_nat (j := 1) rfl, e, two, z, o, rfl, (E7.same S8).d, E7.g.2, by omega, fun e2 H9 S9 _ h9 => ?_⟩
      have la := @aft_len two z o
      have E9 : Dc H9 e2 (aft two z o) := ⟨h9, (aft_good E7.g az).mpr ow⟩
      have S79 := S8.trans S9
      refine ⟨.ref c, rfl, .ref y, rfl, .ref e, rfl, .ref e2, rfl, c, y, e, e2, two, _, rfl, T7.same S79, T8.same S9, E7.same S79, E9, by omega, fun Hm Sm => ⟨true, rfl, ?_⟩⟩
      refine ⟨.ref b, rfl, .ref y, rfl, .ref d, rfl, .ref e2, rfl, b, y, d, e2, own, _, rfl, Z7.tab.same (S79.trans Sm), T8.same (S9.trans Sm), Z7.dc.same (S79.trans Sm), E9.same Sm, by omega, fun Hn Sn => ⟨true, rfl, ?_⟩⟩
      exact ⟨.ref y, rfl, .ref e2, rfl, y, e2, _, _, _, _, _, _, rfl, Z7.same ((S79.trans Sm).trans Sn), T8.same ((S9.trans Sm).trans Sn), E9.same (Sm.trans Sn), by omega⟩
    · clear Zk Tk Ek Z3 T3 E3 l2
      obtain ⟨c, e, two, y3, y9, y10, y11, y12, rfl, Z, T, E2, l2⟩ := hP
      refine ⟨.ref b, rfl, .ref c, rfl, .ref d, rfl, .ref e, rfl, b, c, d, e, own, two, rfl, Z.tab, T, Z.dc, E2, by omega, fun Hm Sm => ⟨true, rfl, ?_⟩⟩
      have Zm := Z.same Sm
      refine ⟨.ref p, rfl, .ref c, rfl, .ref e, rfl, p, c, e, two, rfl, Zm.bag, T.same Sm, E2.same Sm, by omega, fun Hn Bn bn => ⟨true, rfl, ?_⟩⟩
      have Zn := Zm.draw Bn bn
      have Tn : TabOf C Hn c two := by obtain ⟨xs, hp⟩ := Zm.bag.lst; exact (T.same Sm).but hp bn
      have En := (E2.same Sm).but Zm.bag bn
      refine ⟨.ref b, rfl, .ref d, rfl, d, own, rfl, Zn.dc.d, by omega, fun Ho po uo So npo hpo huo euo => ⟨b, po, own, uo, rfl, Zn.tab.same So, ⟨hpo, huo⟩, euo, fun Hq Sq => ?_⟩⟩
      have Zq := (Zn.same So).same Sq
      refine ⟨_, rfl, ?_⟩
      refine ⟨.ref c, rfl, .ref e, rfl, e, two, rfl, ((En.same So).same Sq).d, by omega, fun Hr pr' ur Sr npr hpr hur eur => ⟨c, pr', two, ur, rfl, ((Tn.same So).same Sq).same Sr, ⟨hpr, hur⟩, eur, fun Hs Ss => q Hs⟩⟩
end
end Tb
set_option maxHeartbeats 0
namespace Tb
open PySem PySem.Spec PyProof.Rows L2
theorem cls_some {K : PySem.W.Frag} {C : Addr} (h : PySem.W.hasDictIn K C = true) : (PySem.W.clsIn K C).isSome = true := by
  obtain ⟨cd, hc, _⟩ := PySem.W.any_some h
  rw [hc]
  rfl
theorem kit_refC {K : PySem.W.Frag} {t : Value} {C : Addr} {b : Bool} (hd : PySem.W.hasDictIn K C = true) (ht : PySem.W.typeIn K (.ref C) = some (.type "type")) (hs : PySem.W.subIn K t (.ref C) = some b) : PySem.W.kitCls K t (.ref C) = some b := by
  have e2 : ((PySem.W.clsIn K C).isSome && PySem.W.typeIn K (.ref C) == some (.type "type")) = true := by rw [cls_some hd, ht]; rfl
  show (if ((PySem.W.clsIn K C).isSome && PySem.W.typeIn K (.ref C) == some (.type "type")) = true then PySem.W.subIn K t (.ref C) else none) = some b
  rw [if_pos e2]
  exact hs
theorem kit_tyC {K : PySem.W.Frag} {t : Value} {T : String} {b : Bool} (hT : PySem.W.kitMeta T = true) (hs : PySem.W.subIn K t (.type T) = some b) : PySem.W.kitCls K t (.type T) = some b := by
  show (if PySem.W.kitMeta T = true then PySem.W.subIn K t (.type T) else none) = some b
  rw [if_pos hT]
  exact hs
theorem kit_t {K : PySem.W.Frag} {t c : Value} (h : PySem.W.kitCls K t c = some true) : PySem.W.kitOne K t c = some true := by
  unfold PySem.W.kitOne
  by_cases e : (t == c) = true
  · rw [if_pos e]
  · rw [if_neg e]
    exact h
theorem kit_f {K : PySem.W.Frag} {t c : Value} (e : (t == c) = false) (h : PySem.W.kitCls K t c = some false) : PySem.W.kitOne K t c = some false := by
  unfold PySem.W.kitOne
  rw [if_neg (by rw [e]; exact Bool.false_ne_true)]
  exact h
theorem kit_nil {K : PySem.W.Frag} {t : Value} : PySem.W.kitAny K t [] = some false := rfl
theorem kit_no {K : PySem.W.Frag} {t c : Value} {r : List Value} (h : PySem.W.kitOne K t c = some false) (hr : PySem.W.kitAny K t r = some false) : PySem.W.kitAny K t (c :: r) = some false := by
  show (match PySem.W.kitOne K t c with | some true => some true | some false => PySem.W.kitAny K t r | none => none) = some false
  rw [h]
  exact hr
theorem all_mk {l : PySem.W.OpenLaw} {w : World} {K : PySem.W.Frag} {h : Heap} {mg : Str → Option Value} {fa f1 f2 f3 f4 f5 f6 f7 f8 f9 f10 f11 f12 f13 f14 f15 f16 f17 f18 f19 f20 f21 f22 f23 f24 f25 f26 CI mI CU mU C pR mI2 mC mE mL mP mS mX mR : Addr} (X : K.In h) (G : h.Ns mainGlobals mg) (hfa : mg "law" = some (.ref fa))
    {od1 an1 od2 an2 od3 an3 od4 an4 od5 an5 od6 an6 od7 an7 od8 an8 od9 an9 od10 an10 od11 an11 od12 an12 od13 an13 od14 an14 od15 an15 od16 an16 od17 an17 od18 an18 od19 an19 od20 an20 od21 an21 od22 an22 od23 an23 od24 an24 od25 an25 od26 an26 odmI anmI odmU anmU odmI2 anmI2 odmC anmC odmE anmE odmL anmL odmP anmP odmS anmS odmX anmX odmR anmR : Option Addr} {sl1 sl2 sl3 sl4 sl5 sl6 sl7 sl8 sl9 sl10 sl11 sl12 sl13 sl14 sl15 sl16 sl17 sl18 sl19 sl20 sl21 sl22 sl23 sl24 sl25 sl26 slmI slmU slmI2 slmC slmE slmL slmP slmS slmX slmR : Array (Option Value)} {oc1 kV1 dc1 pm1 cd1 ct1 oc2 kV2 dc2 pm2 cd2 ct2 oc3 kV3 dc3 pm3 cd3 ct3 oc4 kV4 dc4 pm4 cd4 ct4 oc5 kV5 dc5 pm5 cd5 ct5 oc6 kV6 dc6 pm6 cd6 ct6 oc7 kV7 dc7 pm7 cd7 ct7 oc8 kV8 dc8 pm8 cd8 ct8 oc9 kV9 dc9 pm9 cd9 ct9 oc10 kV10 dc10 pm10 cd10 ct10 oc11 kV11 dc11 pm11 cd11 ct11 oc12 kV12 dc12 pm12 cd12 ct12 oc13 kV13 dc13 pm13 cd13 ct13 oc14 kV14 dc14 pm14 cd14 ct14 oc15 kV15 dc15 pm15 cd15 ct15 oc16 kV16 dc16 pm16 cd16 ct16 oc17 kV17 dc17 pm17 cd17 ct17 oc18 kV18 dc18 pm18 cd18 ct18 oc19 kV19 dc19 pm19 cd19 ct19 oc20 kV20 dc20 pm20 cd20 ct20 oc21 kV21 dc21 pm21 cd21 ct21 oc22 kV22 dc22 pm22 cd22 ct22 oc23 kV23 dc23 pm23 cd23 ct23 oc24 kV24 dc24 pm24 cd24 ct24 oc25 kV25 dc25 pm25 cd25 ct25 oc26 kV26 dc26 pm26 cd26 ct26 ocmI kVmI dcmI pmmI cdmI ctmI ocmU kVmU dcmU pmmU cdmU ctmU ocmI2 kVmI2 dcmI2 pmmI2 cdmI2 ctmI2 ocmC kVmC dcmC pmmC cdmC ctmC ocmE kVmE dcmE pmmE cdmE ctmE ocmL kVmL dcmL pmmL cdmL ctmL ocmP kVmP dcmP pmmP cdmP ctmP ocmS kVmS dcmS pmmS cdmS ctmS ocmX kVmX dcmX pmmX cdmX ctmX ocmR kVmR dcmR pmmR cdmR ctmR : Value}
    {tDG tLT tHR : Tok}
    {nmI qI} {NI} {bsI} {bmI} {snI} {subI} {abI} {colI} {ddI} {k0I} {k1I} {k2I} {k3I} {k5I}
    {nmU qU} {NU} {bsU} {bmU} {snU} {subU} {abU} {colU} {ddU} {k0U} {k1U} {k2U} {k3U} {k5U}
    {restR : List Value}
    (a1 : PySem.W.nsIn K mainGlobals "made_of" = some (some (.ref f1)))
    (l1 : K.lookup f1 = some ⟨oc1, od1, .func (PySem.W.fnOf "made_of" "made_of" (defArgs sMade) (defBody sMade) (defScope sMade) .none kV1 dc1 pm1 an1 cd1 ct1), sl1⟩)
    (c1 : PySem.W.codeIn K cd1 "made_of" = true)
    (k1 : PySem.W.keepIn K (.ref f1) = true)
    (a2 : PySem.W.nsIn K mainGlobals "spells_address" = some (some (.ref f2)))
    (l2 : K.lookup f2 = some ⟨oc2, od2, .func (PySem.W.fnOf "spells_address" "spells_address" (defArgs sSpells) (defBody sSpells) (defScope sSpells) .none kV2 dc2 pm2 an2 cd2 ct2), sl2⟩)
    (c2 : PySem.W.codeIn K cd2 "spells_address" = true)
    (k2 : PySem.W.keepIn K (.ref f2) = true)
    (a3 : PySem.W.nsIn K mainGlobals "is_name" = some (some (.ref f3)))
    (l3 : K.lookup f3 = some ⟨oc3, od3, .func (PySem.W.fnOf "is_name" "is_name" (defArgs sIsName) (defBody sIsName) (defScope sIsName) .none kV3 dc3 pm3 an3 cd3 ct3), sl3⟩)
    (c3 : PySem.W.codeIn K cd3 "is_name" = true)
    (k3 : PySem.W.keepIn K (.ref f3) = true)
    (a4 : PySem.W.nsIn K mainGlobals "is_address" = some (some (.ref f4)))
    (l4 : K.lookup f4 = some ⟨oc4, od4, .func (PySem.W.fnOf "is_address" "is_address" (defArgs sIsAddr) (defBody sIsAddr) (defScope sIsAddr) .none kV4 dc4 pm4 an4 cd4 ct4), sl4⟩)
    (c4 : PySem.W.codeIn K cd4 "is_address" = true)
    (k4 : PySem.W.keepIn K (.ref f4) = true)
    (a5 : PySem.W.nsIn K mainGlobals "longest_prefix" = some (some (.ref f5)))
    (l5 : K.lookup f5 = some ⟨oc5, od5, .func (PySem.W.fnOf "longest_prefix" "longest_prefix" (defArgs sLong) (defBody sLong) (defScope sLong) .none kV5 dc5 pm5 an5 cd5 ct5), sl5⟩)
    (c5 : PySem.W.codeIn K cd5 "longest_prefix" = true)
    (k5 : PySem.W.keepIn K (.ref f5) = true)
    (a6 : PySem.W.nsIn K mainGlobals "by_length" = some (some (.ref f6)))
    (l6 : K.lookup f6 = some ⟨oc6, od6, .func (PySem.W.fnOf "by_length" "by_length" (defArgs sByLen) (defBody sByLen) (defScope sByLen) .none kV6 dc6 pm6 an6 cd6 ct6), sl6⟩)
    (c6 : PySem.W.codeIn K cd6 "by_length" = true)
    (k6 : PySem.W.keepIn K (.ref f6) = true)
    (a7 : PySem.W.nsIn K mainGlobals "_is_lane" = some (some (.ref f7)))
    (l7 : K.lookup f7 = some ⟨oc7, od7, .func (PySem.W.fnOf "_is_lane" "_is_lane" (defArgs sIsLane) (defBody sIsLane) (defScope sIsLane) .none kV7 dc7 pm7 an7 cd7 ct7), sl7⟩)
    (c7 : PySem.W.codeIn K cd7 "_is_lane" = true)
    (k7 : PySem.W.keepIn K (.ref f7) = true)
    (a8 : PySem.W.nsIn K mainGlobals "_lane" = some (some (.ref f8)))
    (l8 : K.lookup f8 = some ⟨oc8, od8, .func (PySem.W.fnOf "_lane" "_lane" (defArgs sLane) (defBody sLane) (defScope sLane) .none kV8 dc8 pm8 an8 cd8 ct8), sl8⟩)
    (c8 : PySem.W.codeIn K cd8 "_lane" = true)
    (k8 : PySem.W.keepIn K (.ref f8) = true)
    (a9 : PySem.W.nsIn K mainGlobals "_law_bag" = some (some (.ref f9)))
    (l9 : K.lookup f9 = some ⟨oc9, od9, .func (PySem.W.fnOf "_law_bag" "_law_bag" (defArgs sBag) (defBody sBag) (defScope sBag) .none kV9 dc9 pm9 an9 cd9 ct9), sl9⟩)
    (c9 : PySem.W.codeIn K cd9 "_law_bag" = true)
    (k9 : PySem.W.keepIn K (.ref f9) = true)
    (a10 : PySem.W.nsIn K mainGlobals "_law_draw" = some (some (.ref f10)))
    (l10 : K.lookup f10 = some ⟨oc10, od10, .func (PySem.W.fnOf "_law_draw" "_law_draw" (defArgs sDraw) (defBody sDraw) (defScope sDraw) .none kV10 dc10 pm10 an10 cd10 ct10), sl10⟩)
    (c10 : PySem.W.codeIn K cd10 "_law_draw" = true)
    (k10 : PySem.W.keepIn K (.ref f10) = true)
    (a11 : PySem.W.nsIn K mainGlobals "_law_fresh_name" = some (some (.ref f11)))
    (l11 : K.lookup f11 = some ⟨oc11, od11, .func (PySem.W.fnOf "_law_fresh_name" "_law_fresh_name" (defArgs sFresh) (defBody sFresh) (defScope sFresh) .none kV11 dc11 pm11 an11 cd11 ct11), sl11⟩)
    (c11 : PySem.W.codeIn K cd11 "_law_fresh_name" = true)
    (k11 : PySem.W.keepIn K (.ref f11) = true)
    (a12 : PySem.W.nsIn K mainGlobals "_law_prefix" = some (some (.ref f12)))
    (l12 : K.lookup f12 = some ⟨oc12, od12, .func (PySem.W.fnOf "_law_prefix" "_law_prefix" (defArgs sPrefix) (defBody sPrefix) (defScope sPrefix) .none kV12 dc12 pm12 an12 cd12 ct12), sl12⟩)
    (c12 : PySem.W.codeIn K cd12 "_law_prefix" = true)
    (k12 : PySem.W.keepIn K (.ref f12) = true)
    (a13 : PySem.W.nsIn K mainGlobals "_law_lane" = some (some (.ref f13)))
    (l13 : K.lookup f13 = some ⟨oc13, od13, .func (PySem.W.fnOf "_law_lane" "_law_lane" (defArgs sLLane) (defBody sLLane) (defScope sLLane) .none kV13 dc13 pm13 an13 cd13 ct13), sl13⟩)
    (c13 : PySem.W.codeIn K cd13 "_law_lane" = true)
    (k13 : PySem.W.keepIn K (.ref f13) = true)
    (a14 : PySem.W.nsIn K mainGlobals "_law_after" = some (some (.ref f14)))
    (l14 : K.lookup f14 = some ⟨oc14, od14, .func (PySem.W.fnOf "_law_after" "_law_after" (defArgs sLAfter) (defBody sLAfter) (defScope sLAfter) .none kV14 dc14 pm14 an14 cd14 ct14), sl14⟩)
    (c14 : PySem.W.codeIn K cd14 "_law_after" = true)
    (k14 : PySem.W.keepIn K (.ref f14) = true)
    (a15 : PySem.W.nsIn K mainGlobals "_law_rows_are" = some (some (.ref f15)))
    (l15 : K.lookup f15 = some ⟨oc15, od15, .func (PySem.W.fnOf "_law_rows_are" "_law_rows_are" (defArgs sRowsAre) (defBody sRowsAre) (defScope sRowsAre) .none kV15 dc15 pm15 an15 cd15 ct15), sl15⟩)
    (c15 : PySem.W.codeIn K cd15 "_law_rows_are" = true)
    (k15 : PySem.W.keepIn K (.ref f15) = true)
    (a16 : PySem.W.nsIn K mainGlobals "_law_ways" = some (some (.ref f16)))
    (l16 : K.lookup f16 = some ⟨oc16, od16, .func (PySem.W.fnOf "_law_ways" "_law_ways" (defArgs sWays) (defBody sWays) (defScope sWays) .none kV16 dc16 pm16 an16 cd16 ct16), sl16⟩)
    (c16 : PySem.W.codeIn K cd16 "_law_ways" = true)
    (k16 : PySem.W.keepIn K (.ref f16) = true)
    (a17 : PySem.W.nsIn K mainGlobals "_law_pairs" = some (some (.ref f17)))
    (l17 : K.lookup f17 = some ⟨oc17, od17, .func (PySem.W.fnOf "_law_pairs" "_law_pairs" (defArgs sPairs) (defBody sPairs) (defScope sPairs) .none kV17 dc17 pm17 an17 cd17 ct17), sl17⟩)
    (c17 : PySem.W.codeIn K cd17 "_law_pairs" = true)
    (k17 : PySem.W.keepIn K (.ref f17) = true)
    (a18 : PySem.W.nsIn K mainGlobals "_law_least_parting" = some (some (.ref f18)))
    (l18 : K.lookup f18 = some ⟨oc18, od18, .func (PySem.W.fnOf "_law_least_parting" "_law_least_parting" (defArgs sLPart) (defBody sLPart) (defScope sLPart) .none kV18 dc18 pm18 an18 cd18 ct18), sl18⟩)
    (c18 : PySem.W.codeIn K cd18 "_law_least_parting" = true)
    (k18 : PySem.W.keepIn K (.ref f18) = true)
    (a19 : PySem.W.nsIn K mainGlobals "_law_least_rows" = some (some (.ref f19)))
    (l19 : K.lookup f19 = some ⟨oc19, od19, .func (PySem.W.fnOf "_law_least_rows" "_law_least_rows" (defArgs sLRows) (defBody sLRows) (defScope sLRows) .none kV19 dc19 pm19 an19 cd19 ct19), sl19⟩)
    (c19 : PySem.W.codeIn K cd19 "_law_least_rows" = true)
    (k19 : PySem.W.keepIn K (.ref f19) = true)
    (a20 : PySem.W.nsIn K mainGlobals "_law_with_spares" = some (some (.ref f20)))
    (l20 : K.lookup f20 = some ⟨oc20, od20, .func (PySem.W.fnOf "_law_with_spares" "_law_with_spares" (defArgs sSpares) (defBody sSpares) (defScope sSpares) .none kV20 dc20 pm20 an20 cd20 ct20), sl20⟩)
    (c20 : PySem.W.codeIn K cd20 "_law_with_spares" = true)
    (k20 : PySem.W.keepIn K (.ref f20) = true)
    (a21 : PySem.W.nsIn K mainGlobals "_law_one_change" = some (some (.ref f21)))
    (l21 : K.lookup f21 = some ⟨oc21, od21, .func (PySem.W.fnOf "_law_one_change" "_law_one_change" (defArgs sOneCh) (defBody sOneCh) (defScope sOneCh) .none kV21 dc21 pm21 an21 cd21 ct21), sl21⟩)
    (c21 : PySem.W.codeIn K cd21 "_law_one_change" = true)
    (k21 : PySem.W.keepIn K (.ref f21) = true)
    (a22 : PySem.W.nsIn K mainGlobals "_law_second" = some (some (.ref f22)))
    (l22 : K.lookup f22 = some ⟨oc22, od22, .func (PySem.W.fnOf "_law_second" "_law_second" (defArgs sSecond) (defBody sSecond) (defScope sSecond) .none kV22 dc22 pm22 an22 cd22 ct22), sl22⟩)
    (c22 : PySem.W.codeIn K cd22 "_law_second" = true)
    (k22 : PySem.W.keepIn K (.ref f22) = true)
    (a23 : PySem.W.nsIn K mainGlobals "_law_table" = some (some (.ref f23)))
    (l23 : K.lookup f23 = some ⟨oc23, od23, .func (PySem.W.fnOf "_law_table" "_law_table" (defArgs sLTable) (defBody sLTable) (defScope sLTable) .none kV23 dc23 pm23 an23 cd23 ct23), sl23⟩)
    (c23 : PySem.W.codeIn K cd23 "_law_table" = true)
    (k23 : PySem.W.keepIn K (.ref f23) = true)
    (a24 : PySem.W.nsIn K mainGlobals "_law_parts" = some (some (.ref f24)))
    (l24 : K.lookup f24 = some ⟨oc24, od24, .func (PySem.W.fnOf "_law_parts" "_law_parts" (defArgs sParts) (defBody sParts) (defScope sParts) .none kV24 dc24 pm24 an24 cd24 ct24), sl24⟩)
    (c24 : PySem.W.codeIn K cd24 "_law_parts" = true)
    (k24 : PySem.W.keepIn K (.ref f24) = true)
    (a25 : PySem.W.nsIn K mainGlobals "_law_least_holds" = some (some (.ref f25)))
    (l25 : K.lookup f25 = some ⟨oc25, od25, .func (PySem.W.fnOf "_law_least_holds" "_law_least_holds" (defArgs sLHolds) (defBody sLHolds) (defScope sLHolds) .none kV25 dc25 pm25 an25 cd25 ct25), sl25⟩)
    (c25 : PySem.W.codeIn K cd25 "_law_least_holds" = true)
    (k25 : PySem.W.keepIn K (.ref f25) = true)
    (a26 : PySem.W.nsIn K mainGlobals "law" = some (some (.ref f26)))
    (l26 : K.lookup f26 = some ⟨oc26, od26, .func (PySem.W.fnOf "law" "law" (defArgs sLaw) (defBody sLaw) (defScope sLaw) .none kV26 dc26 pm26 an26 cd26 ct26), sl26⟩)
    (c26 : PySem.W.codeIn K cd26 "law" = true)
    (k26 : PySem.W.keepIn K (.ref f26) = true)
    (z_len : PySem.W.nsIn K mainGlobals "len" = some none)
    (z_int : PySem.W.nsIn K mainGlobals "int" = some none)
    (z_str : PySem.W.nsIn K mainGlobals "str" = some none)
    (z_list : PySem.W.nsIn K mainGlobals "list" = some none)
    (z_tuple : PySem.W.nsIn K mainGlobals "tuple" = some none)
    (z_dict : PySem.W.nsIn K mainGlobals "dict" = some none)
    (z_bool : PySem.W.nsIn K mainGlobals "bool" = some none)
    (z_range : PySem.W.nsIn K mainGlobals "range" = some none)
    (z_sorted : PySem.W.nsIn K mainGlobals "sorted" = some none)
    (z_all : PySem.W.nsIn K mainGlobals "all" = some none)
    (z_isinstance : PySem.W.nsIn K mainGlobals "isinstance" = some none)
    (z_set : PySem.W.nsIn K mainGlobals "set" = some none)
    (gDG : PySem.W.nsIn K mainGlobals "DIGITS" = some (some (.str ("0123456789" : String) tDG)))
    (gLT : PySem.W.nsIn K mainGlobals "LETTERS" = some (some (.str ("abcdefghijklmnopqrstuvwxyz" : String) tLT)))
    (gHR : PySem.W.nsIn K mainGlobals "HERE" = some (some (.str ("" : String) tHR)))
    (oHn : PySem.W.specialIn K (.builtin "object.__class__") "__get__" = some (some (.builtin "getset_descriptor.__get__")))
    (oTk : PySem.W.takesIn K (.builtin "object.__class__") = some true)
    (aIc : PySem.W.nsIn K mainGlobals "Invalid" = some (some (.ref CI)))
    (xIl : K.lookup CI = some (excClassObj nmI qI CI NI bsI bmI true snI subI abI colI ddI k0I k1I k2I k3I k5I "ValueError.__new__"))
    (xIv : PySem.HandSPX.refsVE bmI = true)
    (xIi : PySem.W.findIn K (.ref CI) "__init__" = some (some (.ref mI)))
    (xIs : PySem.W.findIn K (.ref CI) "__setattr__" = some (some (.builtin "object.__setattr__")))
    (xIe : PySem.W.subIn K (.ref CI) (.type "BaseException") = some true)
    (xIt : PySem.W.typeIn K (.ref CI) = some (.type "type"))
    (xIk : PySem.W.keepIn K (.ref CI) = true)
    (xIg : PySem.W.findIn K (.ref CI) "__getattribute__" = some (some (.builtin "BaseException.__getattribute__")))
    (xIa : PySem.W.findIn K (.ref CI) "__getattr__" = some none)
    (xIh : PySem.W.hasDictIn K CI = true)
    (xIn : PySem.W.findIn K (.ref CI) "what" = some none)
    (xIy : PySem.W.typeIn K (.ref mI) = some (.type "function"))
    (xIo : PySem.W.findIn K (.ref CI) "__class__" = some (some (.builtin "object.__class__")))
    (xIm : PySem.W.mroIn K CI (.type "object") = some true)
    (lmI : K.lookup mI = some ⟨ocmI, odmI, .func (PySem.W.fnOf "__init__" "Invalid.__init__" (defArgs sInv) (defBody sInv) (defScope sInv) .none kVmI dcmI pmmI anmI cdmI ctmI), slmI⟩)
    (cmI : PySem.W.codeIn K cdmI "Invalid.__init__" = true)
    (kmI : PySem.W.keepIn K (.ref mI) = true)
    (aUc : PySem.W.nsIn K mainGlobals "Unknown" = some (some (.ref CU)))
    (xUl : K.lookup CU = some (excClassObj nmU qU CU NU bsU bmU true snU subU abU colU ddU k0U k1U k2U k3U k5U "ValueError.__new__"))
    (xUv : PySem.HandSPX.refsVE bmU = true)
    (xUi : PySem.W.findIn K (.ref CU) "__init__" = some (some (.ref mU)))
    (xUs : PySem.W.findIn K (.ref CU) "__setattr__" = some (some (.builtin "object.__setattr__")))
    (xUe : PySem.W.subIn K (.ref CU) (.type "BaseException") = some true)
    (xUt : PySem.W.typeIn K (.ref CU) = some (.type "type"))
    (xUk : PySem.W.keepIn K (.ref CU) = true)
    (xUg : PySem.W.findIn K (.ref CU) "__getattribute__" = some (some (.builtin "BaseException.__getattribute__")))
    (xUa : PySem.W.findIn K (.ref CU) "__getattr__" = some none)
    (xUh : PySem.W.hasDictIn K CU = true)
    (xUn : PySem.W.findIn K (.ref CU) "name" = some none)
    (xUy : PySem.W.typeIn K (.ref mU) = some (.type "function"))
    (xUo : PySem.W.findIn K (.ref CU) "__class__" = some (some (.builtin "object.__class__")))
    (xUm : PySem.W.mroIn K CU (.type "object") = some true)
    (lmU : K.lookup mU = some ⟨ocmU, odmU, .func (PySem.W.fnOf "__init__" "Unknown.__init__" (defArgs sUnk) (defBody sUnk) (defScope sUnk) .none kVmU dcmU pmmU anmU cdmU ctmU), slmU⟩)
    (cmU : PySem.W.codeIn K cdmU "Unknown.__init__" = true)
    (kmU : PySem.W.keepIn K (.ref mU) = true)
    (aT : PySem.W.nsIn K mainGlobals "Table" = some (some (.ref C)))
    (tI2 : PySem.W.findIn K (.ref C) "__init__" = some (some (.ref mI2)))
    (lmI2 : K.lookup mI2 = some ⟨ocmI2, odmI2, .func (PySem.W.fnOf "__init__" "Table.__init__" (defArgs sTInit) (defBody sTInit) (defScope sTInit) .none kVmI2 dcmI2 pmmI2 anmI2 cdmI2 ctmI2), slmI2⟩)
    (cmI2 : PySem.W.codeIn K cdmI2 "Table.__init__" = true)
    (kmI2 : PySem.W.keepIn K (.ref mI2) = true)
    (nI2 : PySem.W.isFn K (.ref mI2) = true)
    (tC : PySem.W.findIn K (.ref C) "__call__" = some (some (.ref mC)))
    (lmC : K.lookup mC = some ⟨ocmC, odmC, .func (PySem.W.fnOf "__call__" "Table.__call__" (defArgs sTCall) (defBody sTCall) (defScope sTCall) .none kVmC dcmC pmmC anmC cdmC ctmC), slmC⟩)
    (cmC : PySem.W.codeIn K cdmC "Table.__call__" = true)
    (kmC : PySem.W.keepIn K (.ref mC) = true)
    (nC : PySem.W.isFn K (.ref mC) = true)
    (tE : PySem.W.findIn K (.ref C) "__eq__" = some (some (.ref mE)))
    (lmE : K.lookup mE = some ⟨ocmE, odmE, .func (PySem.W.fnOf "__eq__" "Table.__eq__" (defArgs sTEq) (defBody sTEq) (defScope sTEq) .none kVmE dcmE pmmE anmE cdmE ctmE), slmE⟩)
    (cmE : PySem.W.codeIn K cdmE "Table.__eq__" = true)
    (kmE : PySem.W.keepIn K (.ref mE) = true)
    (nE : PySem.W.isFn K (.ref mE) = true)
    (tL : PySem.W.findIn K (.ref C) "__len__" = some (some (.ref mL)))
    (lmL : K.lookup mL = some ⟨ocmL, odmL, .func (PySem.W.fnOf "__len__" "Table.__len__" (defArgs sTLen) (defBody sTLen) (defScope sTLen) .none kVmL dcmL pmmL anmL cdmL ctmL), slmL⟩)
    (cmL : PySem.W.codeIn K cdmL "Table.__len__" = true)
    (kmL : PySem.W.keepIn K (.ref mL) = true)
    (nL : PySem.W.isFn K (.ref mL) = true)
    (tP : PySem.W.findIn K (.ref C) "parting" = some (some (.ref mP)))
    (lmP : K.lookup mP = some ⟨ocmP, odmP, .func (PySem.W.fnOf "parting" "Table.parting" (defArgs sParting) (defBody sParting) (defScope sParting) .none kVmP dcmP pmmP anmP cdmP ctmP), slmP⟩)
    (cmP : PySem.W.codeIn K cdmP "Table.parting" = true)
    (kmP : PySem.W.keepIn K (.ref mP) = true)
    (nP : PySem.W.isFn K (.ref mP) = true)
    (tS : PySem.W.findIn K (.ref C) "least" = some (some (.ref mS)))
    (lmS : K.lookup mS = some ⟨ocmS, odmS, .func (PySem.W.fnOf "least" "Table.least" (defArgs sLeast) (defBody sLeast) (defScope sLeast) .none kVmS dcmS pmmS anmS cdmS ctmS), slmS⟩)
    (cmS : PySem.W.codeIn K cdmS "Table.least" = true)
    (kmS : PySem.W.keepIn K (.ref mS) = true)
    (nS : PySem.W.isFn K (.ref mS) = true)
    (tX : PySem.W.findIn K (.ref C) "changed" = some (some (.ref mX)))
    (lmX : K.lookup mX = some ⟨ocmX, odmX, .func (PySem.W.fnOf "changed" "Table.changed" (defArgs sTChanged) (defBody sTChanged) (defScope sTChanged) .none kVmX dcmX pmmX anmX cdmX ctmX), slmX⟩)
    (cmX : PySem.W.codeIn K cdmX "Table.changed" = true)
    (kmX : PySem.W.keepIn K (.ref mX) = true)
    (nX : PySem.W.isFn K (.ref mX) = true)
    (fnC : PySem.W.fnIn K mC = true)
    (tR : PySem.W.findIn K (.ref C) "rows" = some (some (.ref pR)))
    (tRg : PySem.W.specialIn K (.ref pR) "__get__" = some (some (.builtin "property.__get__")))
    (tRt : PySem.W.takesIn K (.ref pR) = some true)
    (tRr : PySem.W.recIn K pR "property" = some (.ref mR :: restR))
    (lmR : K.lookup mR = some ⟨ocmR, odmR, .func (PySem.W.fnOf "rows" "Table.rows" (defArgs sTRows) (defBody sTRows) (defScope sTRows) .none kVmR dcmR pmmR anmR cdmR ctmR), slmR⟩)
    (cmR : PySem.W.codeIn K cdmR "Table.rows" = true)
    (kmR : PySem.W.keepIn K (.ref mR) = true)
    (tTy : PySem.W.typeIn K (.ref C) = some (.type "type"))
    (tPg : PySem.W.plainGet K C Str.empty = true)
    (tHd : PySem.W.hasDictIn K C = true)
    (tPo : PySem.W.plainOver K C = true)
    (tSa : PySem.W.findIn K (.ref C) "__setattr__" = some (some (.builtin "object.__setattr__")))
    (tNo : PySem.W.findIn K (.ref C) "_lanes" = some none)
    (tMk : PySem.W.makesIn K C = true)
    (tKp : PySem.W.keepIn K (.ref C) = true)
    (tHa : PySem.W.findIn K (.ref C) "__class__" = some (some (.builtin "object.__class__")))
    (tMr : PySem.W.mroIn K C (.type "object") = some true)
    (sLC : PySem.W.subIn K (.type "list") (.ref C) = some false)
    : ∃ fd : FuncData, (∀ (s : Shared) (v : Value), BindsTo s fd ⟨[v], []⟩ [("script", v)]) ∧ ∀ base : Heap, K.In base → base.Ns mainGlobals mg → FnOk l.prog w K mg base CX0 8 fa fd ["script"] (spLaw K) := by
  have e := hfa.symm.trans (PySem.W.mg_of X G a26)
  cases e
  have F1 := fun_mk (st := sMade) l1 c1 k1
  have b1 := F1.binds (ps := ["text", "signs", "most"]) fun _ _ _ _ _ _ us hl => match us, hl with | [_, _, _], _ => rfl
  have D1 : Dd K mg "made_of" sMade ["text", "signs", "most"] f1 _ := ⟨F1, b1, PySem.W.mg_of X G a1⟩
  have F2 := fun_mk (st := sSpells) l2 c2 k2
  have b2 := F2.binds (ps := ["text"]) fun _ _ _ _ _ _ us hl => match us, hl with | [_], _ => rfl
  have D2 : Dd K mg "spells_address" sSpells ["text"] f2 _ := ⟨F2, b2, PySem.W.mg_of X G a2⟩
  have F3 := fun_mk (st := sIsName) l3 c3 k3
  have b3 := F3.binds (ps := ["text"]) fun _ _ _ _ _ _ us hl => match us, hl with | [_], _ => rfl
  have D3 : Dd K mg "is_name" sIsName ["text"] f3 _ := ⟨F3, b3, PySem.W.mg_of X G a3⟩
  have F4 := fun_mk (st := sIsAddr) l4 c4 k4
  have b4 := F4.binds (ps := ["text"]) fun _ _ _ _ _ _ us hl => match us, hl with | [_], _ => rfl
  have D4 : Dd K mg "is_address" sIsAddr ["text"] f4 _ := ⟨F4, b4, PySem.W.mg_of X G a4⟩
  have F5 := fun_mk (st := sLong) l5 c5 k5
  have b5 := F5.binds (ps := ["prefixes", "address"]) fun _ _ _ _ _ _ us hl => match us, hl with | [_, _], _ => rfl
  have D5 : Dd K mg "longest_prefix" sLong ["prefixes", "address"] f5 _ := ⟨F5, b5, PySem.W.mg_of X G a5⟩
  have F6 := fun_mk (st := sByLen) l6 c6 k6
  have b6 := F6.binds (ps := ["addresses"]) fun _ _ _ _ _ _ us hl => match us, hl with | [_], _ => rfl
  have D6 : Dd K mg "by_length" sByLen ["addresses"] f6 _ := ⟨F6, b6, PySem.W.mg_of X G a6⟩
  have F7 := fun_mk (st := sIsLane) l7 c7 k7
  have b7 := F7.binds (ps := ["text"]) fun _ _ _ _ _ _ us hl => match us, hl with | [_], _ => rfl
  have D7 : Dd K mg "_is_lane" sIsLane ["text"] f7 _ := ⟨F7, b7, PySem.W.mg_of X G a7⟩
  have F8 := fun_mk (st := sLane) l8 c8 k8
  have b8 := F8.binds (ps := ["lanes", "address"]) fun _ _ _ _ _ _ us hl => match us, hl with | [_, _], _ => rfl
  have D8 : Dd K mg "_lane" sLane ["lanes", "address"] f8 _ := ⟨F8, b8, PySem.W.mg_of X G a8⟩
  have F9 := fun_mk (st := sBag) l9 c9 k9
  have b9 := F9.binds (ps := ["script"]) fun _ _ _ _ _ _ us hl => match us, hl with | [_], _ => rfl
  have D9 : Dd K mg "_law_bag" sBag ["script"] f9 _ := ⟨F9, b9, PySem.W.mg_of X G a9⟩
  have F10 := fun_mk (st := sDraw) l10 c10 k10
  have b10 := F10.binds (ps := ["bag", "size"]) fun _ _ _ _ _ _ us hl => match us, hl with | [_, _], _ => rfl
  have D10 : Dd K mg "_law_draw" sDraw ["bag", "size"] f10 _ := ⟨F10, b10, PySem.W.mg_of X G a10⟩
  have F11 := fun_mk (st := sFresh) l11 c11 k11
  have b11 := F11.binds (ps := ["bag", "known"]) fun _ _ _ _ _ _ us hl => match us, hl with | [_, _], _ => rfl
  have D11 : Dd K mg "_law_fresh_name" sFresh ["bag", "known"] f11 _ := ⟨F11, b11, PySem.W.mg_of X G a11⟩
  have F12 := fun_mk (st := sPrefix) l12 c12 k12
  have b12 := F12.binds (ps := ["bag", "known"]) fun _ _ _ _ _ _ us hl => match us, hl with | [_, _], _ => rfl
  have D12 : Dd K mg "_law_prefix" sPrefix ["bag", "known"] f12 _ := ⟨F12, b12, PySem.W.mg_of X G a12⟩
  have F13 := fun_mk (st := sLLane) l13 c13 k13
  have b13 := F13.binds (ps := ["own", "address"]) fun _ _ _ _ _ _ us hl => match us, hl with | [_, _], _ => rfl
  have D13 : Dd K mg "_law_lane" sLLane ["own", "address"] f13 _ := ⟨F13, b13, PySem.W.mg_of X G a13⟩
  have F14 := fun_mk (st := sLAfter) l14 c14 k14
  have b14 := F14.binds (ps := ["own", "prefix", "way"]) fun _ _ _ _ _ _ us hl => match us, hl with | [_, _, _], _ => rfl
  have D14 : Dd K mg "_law_after" sLAfter ["own", "prefix", "way"] f14 _ := ⟨F14, b14, PySem.W.mg_of X G a14⟩
  have F15 := fun_mk (st := sRowsAre) l15 c15 k15
  have b15 := F15.binds (ps := ["board", "due"]) fun _ _ _ _ _ _ us hl => match us, hl with | [_, _], _ => rfl
  have D15 : Dd K mg "_law_rows_are" sRowsAre ["board", "due"] f15 _ := ⟨F15, b15, PySem.W.mg_of X G a15⟩
  have F16 := fun_mk (st := sWays) l16 c16 k16
  have b16 := F16.binds (ps := ["bag"]) fun _ _ _ _ _ _ us hl => match us, hl with | [_], _ => rfl
  have D16 : Dd K mg "_law_ways" sWays ["bag"] f16 _ := ⟨F16, b16, PySem.W.mg_of X G a16⟩
  have F17 := fun_mk (st := sPairs) l17 c17 k17
  have b17 := F17.binds (ps := ["bag", "ways", "count"]) fun _ _ _ _ _ _ us hl => match us, hl with | [_, _, _], _ => rfl
  have D17 : Dd K mg "_law_pairs" sPairs ["bag", "ways", "count"] f17 _ := ⟨F17, b17, PySem.W.mg_of X G a17⟩
  have F18 := fun_mk (st := sLPart) l18 c18 k18
  have b18 := F18.binds (ps := ["one", "two"]) fun _ _ _ _ _ _ us hl => match us, hl with | [_, _], _ => rfl
  have D18 : Dd K mg "_law_least_parting" sLPart ["one", "two"] f18 _ := ⟨F18, b18, PySem.W.mg_of X G a18⟩
  have F19 := fun_mk (st := sLRows) l19 c19 k19
  have b19 := F19.binds (ps := ["own"]) fun _ _ _ _ _ _ us hl => match us, hl with | [_], _ => rfl
  have D19 : Dd K mg "_law_least_rows" sLRows ["own"] f19 _ := ⟨F19, b19, PySem.W.mg_of X G a19⟩
  have F20 := fun_mk (st := sSpares) l20 c20 k20
  have b20 := F20.binds (ps := ["bag", "own", "count"]) fun _ _ _ _ _ _ us hl => match us, hl with | [_, _, _], _ => rfl
  have D20 : Dd K mg "_law_with_spares" sSpares ["bag", "own", "count"] f20 _ := ⟨F20, b20, PySem.W.mg_of X G a20⟩
  have F21 := fun_mk (st := sOneCh) l21 c21 k21
  have b21 := F21.binds (ps := ["bag", "own", "ways"]) fun _ _ _ _ _ _ us hl => match us, hl with | [_, _, _], _ => rfl
  have D21 : Dd K mg "_law_one_change" sOneCh ["bag", "own", "ways"] f21 _ := ⟨F21, b21, PySem.W.mg_of X G a21⟩
  have F22 := fun_mk (st := sSecond) l22 c22 k22
  have b22 := F22.binds (ps := ["bag", "own", "ways"]) fun _ _ _ _ _ _ us hl => match us, hl with | [_, _, _], _ => rfl
  have D22 : Dd K mg "_law_second" sSecond ["bag", "own", "ways"] f22 _ := ⟨F22, b22, PySem.W.mg_of X G a22⟩
  have F23 := fun_mk (st := sLTable) l23 c23 k23
  have b23 := F23.binds (ps := ["own", "turned"]) fun _ _ _ _ _ _ us hl => match us, hl with | [_, _], _ => rfl
  have D23 : Dd K mg "_law_table" sLTable ["own", "turned"] f23 _ := ⟨F23, b23, PySem.W.mg_of X G a23⟩
  have F24 := fun_mk (st := sParts) l24 c24 k24
  have b24 := F24.binds (ps := ["board", "other", "own", "two"]) fun _ _ _ _ _ _ us hl => match us, hl with | [_, _, _, _], _ => rfl
  have D24 : Dd K mg "_law_parts" sParts ["board", "other", "own", "two"] f24 _ := ⟨F24, b24, PySem.W.mg_of X G a24⟩
  have F25 := fun_mk (st := sLHolds) l25 c25 k25
  have b25 := F25.binds (ps := ["bag", "board", "own"]) fun _ _ _ _ _ _ us hl => match us, hl with | [_, _, _], _ => rfl
  have D25 : Dd K mg "_law_least_holds" sLHolds ["bag", "board", "own"] f25 _ := ⟨F25, b25, PySem.W.mg_of X G a25⟩
  have F26 := fun_mk (st := sLaw) l26 c26 k26
  have FmI := fun_mk (st := sInv) lmI cmI kmI
  have bmI := FmI.binds (ps := ["self", "what"]) fun _ _ _ _ _ _ us hl => match us, hl with | [_, _], _ => rfl
  have EI : ErrC K CI mI "what" := ⟨⟨⟨_, _, _, _, _, _, _, _, _, _, _, _, _, _, _, xIl, xIv⟩, xIs, xIe, xIt, xIk⟩, ⟨xIg, xIa, xIe, xIh⟩, xIn, xIi, xIy, cls_some xIh, xIo, xIm, oHn, oTk⟩
  have MI : Mm K "__init__" "Invalid.__init__" sInv ["self", "what"] mI _ := ⟨FmI, bmI⟩
  have FmU := fun_mk (st := sUnk) lmU cmU kmU
  have bmU := FmU.binds (ps := ["self", "name"]) fun _ _ _ _ _ _ us hl => match us, hl with | [_, _], _ => rfl
  have EU : ErrC K CU mU "name" := ⟨⟨⟨_, _, _, _, _, _, _, _, _, _, _, _, _, _, _, xUl, xUv⟩, xUs, xUe, xUt, xUk⟩, ⟨xUg, xUa, xUe, xUh⟩, xUn, xUi, xUy, cls_some xUh, xUo, xUm, oHn, oTk⟩
  have MU : Mm K "__init__" "Unknown.__init__" sUnk ["self", "name"] mU _ := ⟨FmU, bmU⟩
  have FmI2 := fun_mk (st := sTInit) lmI2 cmI2 kmI2
  have bmI2 := FmI2.binds (ps := ["self", "rows"]) fun _ _ _ _ _ _ us hl => match us, hl with | [_, _], _ => rfl
  have FmC := fun_mk (st := sTCall) lmC cmC kmC
  have bmC := FmC.binds (ps := ["self", "address"]) fun _ _ _ _ _ _ us hl => match us, hl with | [_, _], _ => rfl
  have FmE := fun_mk (st := sTEq) lmE cmE kmE
  have bmE := FmE.binds (ps := ["self", "other"]) fun _ _ _ _ _ _ us hl => match us, hl with | [_, _], _ => rfl
  have FmL := fun_mk (st := sTLen) lmL cmL kmL
  have bmL := FmL.binds (ps := ["self"]) fun _ _ _ _ _ _ us hl => match us, hl with | [_], _ => rfl
  have FmP := fun_mk (st := sParting) lmP cmP kmP
  have bmP := FmP.binds (ps := ["self", "other"]) fun _ _ _ _ _ _ us hl => match us, hl with | [_, _], _ => rfl
  have FmS := fun_mk (st := sLeast) lmS cmS kmS
  have bmS := FmS.binds (ps := ["self"]) fun _ _ _ _ _ _ us hl => match us, hl with | [_], _ => rfl
  have FmX := fun_mk (st := sTChanged) lmX cmX kmX
  have bmX := FmX.binds (ps := ["self", "prefix", "lane"]) fun _ _ _ _ _ _ us hl => match us, hl with | [_, _, _], _ => rfl
  have FmR := fun_mk (st := sTRows) lmR cmR kmR
  have bmR := FmR.binds (ps := ["self"]) fun _ _ _ _ _ _ us hl => match us, hl with | [_], _ => rfl
  refine ⟨PySem.W.fnOf "law" "law" (defArgs sLaw) (defBody sLaw) (defScope sLaw) .none kV26 dc26 pm26 an26 cd26 ct26, fun s v => .of_eq rfl, fun base _ _ => ?_⟩
  have B : Blt mg := ⟨PySem.W.mg_none_of X G z_len, PySem.W.mg_none_of X G z_int, PySem.W.mg_none_of X G z_str, PySem.W.mg_none_of X G z_list, PySem.W.mg_none_of X G z_tuple, PySem.W.mg_none_of X G z_dict, PySem.W.mg_none_of X G z_bool, PySem.W.mg_none_of X G z_range, PySem.W.mg_none_of X G z_sorted, PySem.W.mg_none_of X G z_all, PySem.W.mg_none_of X G z_isinstance, ⟨_, PySem.W.mg_of X G gDG⟩, ⟨_, PySem.W.mg_of X G gLT⟩, ⟨_, PySem.W.mg_of X G gHR⟩⟩
  have zset := PySem.W.mg_none_of X G z_set
  have RI : EInv K mg CI mI _ := ⟨EI, MI, PySem.W.mg_of X G aIc⟩
  have RU : EUnk K mg CU mU _ := ⟨EU, MU, PySem.W.mg_of X G aUc⟩
  have TC : TCls K C := ⟨⟨tPg, tHd, tPo, tSa⟩, tNo⟩
  have GIA : FnOk l.prog w K mg base CX0 3 _ _ ["text"] (spT isAddr) := ok_isAddr D4.F D2 D1 B
  have GIL : FnOk l.prog w K mg base CX0 3 _ _ ["text"] (spT isLane) := ok_isLane D7.F D3 D1 B
  have GLn : FnOk l.prog w K mg base CX0 2 _ _ ["lanes", "address"] (spDA laneV) := ok_lane D8.F D5 B
  have GMI : FnOk l.prog w K mg base (L2.CX l.prog w) 4 mI2 _ ["self", "rows"] (spInit C CI) := ok_init FmI2 B TC RI D4 GIA D7 GIL
  have MK : Mk K C mI2 := ⟨tMk, tI2, nI2, tKp⟩
  have TK : TabK l.prog w K mg base C CI CU := ⟨TC, PySem.W.mg_of X G aT, ⟨TC.c, tHa, oHn, oTk, tMr, if_pos (beq_self_eq_true _)⟩, ⟨_, _, MK, bmI2, GMI⟩, ⟨_, _, _, ⟨tR, tRg, tRt, ⟨_, tRr⟩⟩, bmR, ok_trows FmR B TC⟩, ⟨_, _, tL, nL, bmL, ok_tlen FmL B TC⟩, ⟨_, _, ⟨tC, nC, fnC⟩, bmC, ok_tcall FmC D8 GLn TC⟩, ⟨_, _, ⟨tX, nX, kmX⟩, bmX, ok_tchanged FmX B TC RI RU D4 GIA MK (PySem.W.mg_of X G aT) bmI2 GMI⟩⟩
  have cByLen : CByLen l.prog w K mg base _ _ := ⟨D6, ok_bylen D6.F B zset⟩
  have cLaneF : CLaneF l.prog w K mg base _ _ := ⟨D8, ok_laneR D8.F D5 B⟩
  have GP := ok_parting FmP B TC cByLen cLaneF
  have TPm : Meth K C "parting" mP := ⟨tP, nP, kmP⟩
  have tc : ClsV (.ref C) (.ref C) := .own C
  have kl : PySem.W.kitOne K (.type "list") (.ref C) = some false := kit_f rfl (kit_refC tHd tTy sLC)
  have TP : TabP l.prog w K mg base C CI CU := ⟨TK, ⟨_, _, TPm, bmP, GP⟩, ⟨_, _, ⟨tS, nS, kmS⟩, bmS, ok_least FmS B TK cLaneF⟩, ⟨_, _, tE, nE, bmE, ok_teq FmE B TK kl tc TPm bmP GP⟩, by show (_ || _) = true; rw [sLC]; rfl⟩
  have cDraw : CDraw l.prog w K mg base _ _ := ⟨D10, ok_draw D10.F B⟩
  have cPrefix : CPrefix l.prog w K mg base _ _ := ⟨D12, ok_prefix D12.F D10 B⟩
  have cLLane : CLLane l.prog w K mg base _ _ := ⟨D13, ok_llane D13.F B⟩
  have cAfter : CAfter l.prog w K mg base _ _ := ⟨D14, ok_lafter D14.F B⟩
  have cRowsAre : CRowsAre l.prog w K mg base C _ _ := ⟨D15, ok_rowsAre D15.F B TK⟩
  have cPairs : CPairs l.prog w K mg base _ _ := ⟨D17, ok_pairs D17.F D10 D12 B⟩
  have cLPart : CLPart l.prog w K mg base _ _ := ⟨D18, ok_lpart D18.F B cLLane⟩
  have cLRows : CLRows l.prog w K mg base _ _ := ⟨D19, ok_lrows D19.F B cLLane⟩
  have cSpares : C1 l.prog w K mg base "_law_with_spares" sSpares ["bag", "own", "count"] 3 spSpares _ _ := ⟨D20, ok_spares D20.F B cPrefix cLLane cAfter⟩
  have cOneCh : C1 l.prog w K mg base "_law_one_change" sOneCh ["bag", "own", "ways"] 3 spOneCh _ _ := ⟨D21, ok_onech D21.F B cPrefix cDraw⟩
  have cSecond : C1 l.prog w K mg base "_law_second" sSecond ["bag", "own", "ways"] 4 spSecond _ _ := ⟨D22, ok_second D22.F B cDraw cPairs cSpares cLRows cOneCh cAfter⟩
  have cLTable : C1 l.prog w K mg base "_law_table" sLTable ["own", "turned"] 6 (spLTable C) _ _ := ⟨D23, ok_ltable D23.F B TK⟩
  have cParts : C1 l.prog w K mg base "_law_parts" sParts ["board", "other", "own", "two"] 5 (spParts C) _ _ := ⟨D24, ok_parts D24.F B TP cLPart cLLane⟩
  have cLHolds : C1 l.prog w K mg base "_law_least_holds" sLHolds ["bag", "board", "own"] 7 (spLHolds C) _ _ := ⟨D25, ok_lholds D25.F B TP tc cLRows cRowsAre cDraw⟩
  exact ok_law F26 B TP ⟨⟨_, _, D9, ok_bag D9.F B⟩, ⟨_, _, D16, ok_ways D16.F D10 D11 B⟩, ⟨_, _, cDraw⟩, ⟨_, _, cPairs⟩, ⟨_, _, cSecond⟩, ⟨_, _, cLTable⟩, ⟨_, _, cParts⟩, ⟨_, _, cLHolds⟩, ⟨_, _, cLPart⟩, ⟨_, _, cOneCh⟩, ⟨_, _, cAfter⟩, ⟨_, _, cRowsAre⟩⟩
end Tb
open PySem PySem.W PyProof.Rows
set_option maxRecDepth 100000 in
set_option maxHeartbeats 0 in
theorem PySem.Challenge.cw_everyparcel_k05_least_address_that_parts_holds : PySem.Challenge.rw_everyparcel_k05_least_address_that_parts.Holds := by
  w_on; o_law; k_head; (case hw => w_witness2)
  k_fill
  refine L2.walk_of (l := PySem.Challenge.rw_everyparcel_k05_least_address_that_parts) (n := 63) (k := 8) (x := "script") (CX := fun _ => L2.CX0) (sp := fun w => Tb.spLaw _) rfl (by decide) rfl ⟨rfl, by decide, by decide⟩ (fun w h Y => PySem.W.kIn_of Y) ?F (fun _ _ a ns hl _ hS => ⟨a, ns, rfl, hS, fun _ => rfl⟩) (fun _ _ _ _ _ h => h)
  case F =>
    intro w mg fa h KX G hmg
    refine' Tb.all_mk KX G hmg ?a1 ?l1 ?c1 ?k1 ?a2 ?l2 ?c2 ?k2 ?a3 ?l3 ?c3 ?k3 ?a4 ?l4 ?c4 ?k4 ?a5 ?l5 ?c5 ?k5 ?a6 ?l6 ?c6 ?k6 ?a7 ?l7 ?c7 ?k7 ?a8 ?l8 ?c8 ?k8 ?a9 ?l9 ?c9 ?k9 ?a10 ?l10 ?c10 ?k10 ?a11 ?l11 ?c11 ?k11 ?a12 ?l12 ?c12 ?k12 ?a13 ?l13 ?c13 ?k13 ?a14 ?l14 ?c14 ?k14 ?a15 ?l15 ?c15 ?k15 ?a16 ?l16 ?c16 ?k16 ?a17 ?l17 ?c17 ?k17 ?a18 ?l18 ?c18 ?k18 ?a19 ?l19 ?c19 ?k19 ?a20 ?l20 ?c20 ?k20 ?a21 ?l21 ?c21 ?k21 ?a22 ?l22 ?c22 ?k22 ?a23 ?l23 ?c23 ?k23 ?a24 ?l24 ?c24 ?k24 ?a25 ?l25 ?c25 ?k25 ?a26 ?l26 ?c26 ?k26 ?z_len ?z_int ?z_str ?z_list ?z_tuple ?z_dict ?z_bool ?z_range ?z_sorted ?z_all ?z_isinstance ?z_set ?gDG ?gLT ?gHR ?oHn ?oTk ?aIc ?xIl ?xIv ?xIi ?xIs ?xIe ?xIt ?xIk ?xIg ?xIa ?xIh ?xIn ?xIy ?xIo ?xIm ?lmI ?cmI ?kmI ?aUc ?xUl ?xUv ?xUi ?xUs ?xUe ?xUt ?xUk ?xUg ?xUa ?xUh ?xUn ?xUy ?xUo ?xUm ?lmU ?cmU ?kmU ?aT ?tI2 ?lmI2 ?cmI2 ?kmI2 ?nI2 ?tC ?lmC ?cmC ?kmC ?nC ?tE ?lmE ?cmE ?kmE ?nE ?tL ?lmL ?cmL ?kmL ?nL ?tP ?lmP ?cmP ?kmP ?nP ?tS ?lmS ?cmS ?kmS ?nS ?tX ?lmX ?cmX ?kmX ?nX ?fnC ?tR ?tRg ?tRt ?tRr ?lmR ?cmR ?kmR ?tTy ?tPg ?tHd ?tPo ?tSa ?tNo ?tMk ?tKp ?tHa ?tMr ?sLC
    (case a1 => k_is); (case l1 => k_is); (case c1 => k_is); (case k1 => k_is); (case a2 => k_is); (case l2 => k_is); (case c2 => k_is); (case k2 => k_is)
    (case a3 => k_is); (case l3 => k_is); (case c3 => k_is); (case k3 => k_is); (case a4 => k_is); (case l4 => k_is); (case c4 => k_is); (case k4 => k_is)
    (case a5 => k_is); (case l5 => k_is); (case c5 => k_is); (case k5 => k_is); (case a6 => k_is); (case l6 => k_is); (case c6 => k_is); (case k6 => k_is)
    (case a7 => k_is); (case l7 => k_is); (case c7 => k_is); (case k7 => k_is); (case a8 => k_is); (case l8 => k_is); (case c8 => k_is); (case k8 => k_is)
    (case a9 => k_is); (case l9 => k_is); (case c9 => k_is); (case k9 => k_is); (case a10 => k_is); (case l10 => k_is); (case c10 => k_is); (case k10 => k_is)
    (case a11 => k_is); (case l11 => k_is); (case c11 => k_is); (case k11 => k_is); (case a12 => k_is); (case l12 => k_is); (case c12 => k_is); (case k12 => k_is)
    (case a13 => k_is); (case l13 => k_is); (case c13 => k_is); (case k13 => k_is); (case a14 => k_is); (case l14 => k_is); (case c14 => k_is); (case k14 => k_is)
    (case a15 => k_is); (case l15 => k_is); (case c15 => k_is); (case k15 => k_is); (case a16 => k_is); (case l16 => k_is); (case c16 => k_is); (case k16 => k_is)
    (case a17 => k_is); (case l17 => k_is); (case c17 => k_is); (case k17 => k_is); (case a18 => k_is); (case l18 => k_is); (case c18 => k_is); (case k18 => k_is)
    (case a19 => k_is); (case l19 => k_is); (case c19 => k_is); (case k19 => k_is); (case a20 => k_is); (case l20 => k_is); (case c20 => k_is); (case k20 => k_is)
    (case a21 => k_is); (case l21 => k_is); (case c21 => k_is); (case k21 => k_is); (case a22 => k_is); (case l22 => k_is); (case c22 => k_is); (case k22 => k_is)
    (case a23 => k_is); (case l23 => k_is); (case c23 => k_is); (case k23 => k_is); (case a24 => k_is); (case l24 => k_is); (case c24 => k_is); (case k24 => k_is)
    (case a25 => k_is); (case l25 => k_is); (case c25 => k_is); (case k25 => k_is); (case a26 => k_is); (case l26 => k_is); (case c26 => k_is); (case k26 => k_is)
    (case z_len => k_is); (case z_int => k_is); (case z_str => k_is); (case z_list => k_is); (case z_tuple => k_is); (case z_dict => k_is); (case z_bool => k_is); (case z_range => k_is)
    (case z_sorted => k_is); (case z_all => k_is); (case z_isinstance => k_is); (case z_set => k_is); (case gDG => k_is); (case gLT => k_is); (case gHR => k_is); (case oHn => k_is)
    (case oTk => k_is); (case aIc => k_is); (case xIl => k_is); (case xIv => first | rfl | decide +kernel); (case xIi => k_is); (case xIs => k_is); (case xIe => k_is); (case xIt => k_is)
    (case xIk => k_is); (case xIg => k_is); (case xIa => k_is); (case xIh => k_is); (case xIn => k_is); (case xIy => k_is); (case xIo => k_is); (case xIm => k_is)
    (case lmI => k_is); (case cmI => k_is); (case kmI => k_is); (case aUc => k_is); (case xUl => k_is); (case xUv => first | rfl | decide +kernel); (case xUi => k_is); (case xUs => k_is)
    (case xUe => k_is); (case xUt => k_is); (case xUk => k_is); (case xUg => k_is); (case xUa => k_is); (case xUh => k_is); (case xUn => k_is); (case xUy => k_is)
    (case xUo => k_is); (case xUm => k_is); (case lmU => k_is); (case cmU => k_is); (case kmU => k_is); (case aT => k_is); (case tI2 => k_is); (case lmI2 => k_is)
    (case cmI2 => k_is); (case kmI2 => k_is); (case nI2 => k_is); (case tC => k_is); (case lmC => k_is); (case cmC => k_is); (case kmC => k_is); (case nC => k_is)
    (case tE => k_is); (case lmE => k_is); (case cmE => k_is); (case kmE => k_is); (case nE => k_is); (case tL => k_is); (case lmL => k_is); (case cmL => k_is)
    (case kmL => k_is); (case nL => k_is); (case tP => k_is); (case lmP => k_is); (case cmP => k_is); (case kmP => k_is); (case nP => k_is); (case tS => k_is)
    (case lmS => k_is); (case cmS => k_is); (case kmS => k_is); (case nS => k_is); (case tX => k_is); (case lmX => k_is); (case cmX => k_is); (case kmX => k_is)
    (case nX => k_is); (case fnC => k_is); (case tR => k_is); (case tRg => k_is); (case tRt => k_is); (case tRr => k_is); (case lmR => k_is); (case cmR => k_is)
    (case kmR => k_is); (case tTy => k_is); (case tPg => k_is); (case tHd => k_is); (case tPo => k_is); (case tSa => k_is); (case tNo => k_is); (case tMk => k_is)
    (case tKp => k_is); (case tHa => k_is); (case tMr => k_is); (case sLC => k_is)
