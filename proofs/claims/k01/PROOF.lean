import PyProof.Rows.All
import Wide.All
import OpenK.AllK
import Wide.FinOn
import HandS.TupSets
import KE.SortData
import KE.KDictKeyed
import HandS.ForMost
import PyProof.Transfer
import PyProof.TupleOfSeq
import KE.KLam
import KE.KSortKey
import KE.SortKeyHeap
import HandS.Base
import HandS.Call
import HandS.List
import HandS.Words
import HandS.Codes
import HandS.Lambda
import HandS.Nested
import HandS.SortKw
import HandS.Wide
import HandS.StrMore
import HandS.IsInst
import HandS.Walk
import HandS.More
import HandS.Conv
import HandS.DictComp
import HandS.ListItems
import HandS.Property
import HandS.Star
import HandS.Exc
import HandS.TryOnly
import HandS.TryMany
import HandS.ExcOwn
import HandS.WordsExc
import HandS.ExcInit
import HandS.ExcField
import HandS.ExcIs
import HandS.RaiseMore
import KE.KItemsList
import KE.KExcIs
import HandS.Flt
import HandS.Defaults
import HandS.MakeKw
import HandS.MakeKwOnly
import HandS.TupAny
import HandS.HotCalls
import HandS.Style
import HandS.RevTup
import HandS.DictSub
import HandS.EndTab
import PySem.Challenge.RW_everyparcel_k01_whole_soonest_and_surely
set_option Elab.async false
set_option linter.all false
set_option maxRecDepth 100000
/-! sets of any heap keys: the table, up to 512 slots -/
namespace SH
open PySem PySem.Spec PyProof.Rows L2
/-- 1 + 5 + 25 + .. -/
def geo : Nat → Nat
  | 0 => 0
  | k + 1 => geo k * 5 + 1
theorem geo_pow : ∀ k, 5 ^ k = 4 * geo k + 1
  | 0 => rfl
  | k + 1 => by
    rw [Nat.pow_succ, geo_pow k]
    show (4 * geo k + 1) * 5 = 4 * (geo k * 5 + 1) + 1
    omega
theorem lcg_geo (m : Nat) : ∀ k, lcgN m k = geo k % (m + 1)
  | 0 => (Nat.zero_mod _).symm
  | k + 1 => by
    show (lcgN m k * 5 + 1) % (m + 1) = (geo k * 5 + 1) % (m + 1)
    rw [lcg_geo m k, Nat.add_mod, Nat.mod_mul_mod, ← Nat.add_mod]
theorem geo_eq (k : Nat) : geo k = (5 ^ k - 1) / 4 := by
  have := geo_pow k
  omega
/-- the step at which the slot j comes, bit by bit -/
def stepOf (j : Nat) : Nat := (List.range 9).foldl (fun b i => if 5 ^ b % 2 ^ (i + 3) = (4 * j + 1) % 2 ^ (i + 3) then b else b + 2 ^ i) 0
theorem steps512 : ((List.range 512).all fun j => decide (stepOf j ≤ 511 ∧ (5 ^ stepOf j - 1) / 4 % 512 = j)) = true := by decide +kernel
/-- soon enough each slot begins a run -/
def Meets (m : Nat) : Prop := ∀ (g : Int) (j : Nat), j ≤ m → ∃ n, n ≤ m + 12 ∧ runI m (SetTable.bits g) n = j
theorem meets_of {m : Nat} (all : ∀ j, j ≤ m → ∃ b, b ≤ m ∧ lcgN m b = j) (round : lcgN m (m + 1) = 0) : Meets m := by
  have per : ∀ k, lcgN m (m + 1 + k) = lcgN m k := by
    intro k
    induction k with
    | zero => exact round
    | succ k ih => exact congrArg (fun x => (x * 5 + 1) % (m + 1)) ih
  intro g j hj
  obtain ⟨a, ha, ea⟩ := all _ (runI_le m (SetTable.bits g) 12)
  obtain ⟨b, hb, eb⟩ := all j hj
  have key : ∀ k, lcgN m (a + k) = j → runI m (SetTable.bits g) (12 + k) = j := fun k e => by
    rw [runI_tail (bits_lt g), ← ea, lcgN_add, e]
  by_cases c : a ≤ b
  · exact ⟨12 + (b - a), by omega, key _ (by rw [show a + (b - a) = b by omega, eb])⟩
  · exact ⟨12 + (m + 1 + b - a), by omega, key _ (by rw [show a + (m + 1 + b - a) = m + 1 + b by omega, per, eb])⟩
theorem meets511 : Meets 511 := by
  refine meets_of (fun j hj => ?_) ?_
  · have h := List.all_eq_true.mp steps512 j (List.mem_range.mpr (by omega))
    rw [decide_eq_true_eq] at h
    exact ⟨stepOf j, h.1, by rw [lcg_geo, geo_eq]; exact h.2⟩
  · rw [lcg_geo, geo_eq]
    decide +kernel
/-- the masks that come with fewer than 300 members -/
def Mk (m : Nat) : Prop := MaskOk m ∨ m = 511
theorem Mk.meets {m : Nat} (h : Mk m) : Meets m := by
  rcases h with h | rfl
  · exact fun g j hj => run_meets h g hj
  · exact meets511
theorem Mk.odd {m : Nat} (h : Mk m) : m % 2 = 1 := by
  rcases h with h | rfl
  · exact mask_odd h
  · rfl
theorem Mk.cases {m : Nat} (h : Mk m) : m = 7 ∨ m = 31 ∨ m = 127 ∨ m = 511 := by
  rcases h with (h | h | h) | h
  · exact .inl h
  · exact .inr (.inl h)
  · exact .inr (.inr (.inl h))
  · exact .inr (.inr (.inr h))
theorem way_in (m : Nat) (g : Int) (k : Nat) : way m g k ≤ m := by
  have r := runEnd_bd (Nat.le_of_lt_succ (Nat.mod_lt (SetTable.bits g) (Nat.succ_pos m)))
  have q := nth_in (m := m) k (runAt m (SetTable.bits g % (m + 1)) (SetTable.bits g)) (by
    show SetTable.bits g % (m + 1) + (SetTable.runEnd m (SetTable.bits g % (m + 1)) - SetTable.bits g % (m + 1)) ≤ m
    rw [Nat.add_sub_cancel' r.2.1]
    exact r.1)
  exact Nat.le_trans (Nat.le_add_right _ _) q
theorem way_meets {m : Nat} (hm : Meets m) (g : Int) {j : Nat} (hj : j ≤ m) : ∃ k, k < 10 * SetTable.turns m ∧ way m g k = j := by
  obtain ⟨n, hn, e⟩ := hm g j hj
  obtain ⟨k, hk, e2⟩ := run_nth m (SetTable.bits g) n
  exact ⟨k, by unfold SetTable.turns; omega, (congrArg SetTable.Probe.j e2).trans e⟩
/-- each member is found again from its hash gs -/
structure TabM (t : SetTable) (gs : List Int) : Prop where
  up : Ris t.place.toList
  no : t.dummies = #[]
  n : t.place.size = gs.length
  msk : Mk t.mask
  le : ∀ x, x ∈ t.place.toList → x ≤ t.mask
  at' : ∀ (i : Nat) (g : Int) (j : Nat), gs[i]? = some g → t.place.toList[i]? = some j → ∃ k, way t.mask g k = j ∧ ∀ c, c < k → way t.mask g c ∈ t.place.toList
section
variable {t : SetTable} {gs : List Int}
theorem TabM.len (T : TabM t gs) : t.place.toList.length = gs.length := (Array.length_toList).trans T.n
theorem TabM.gap (T : TabM t gs) (hl : gs.length ≤ t.mask) (g : Int) : ∃ K, K < 10 * SetTable.turns t.mask ∧ way t.mask g K ∉ t.place.toList ∧ ∀ c, c < K → way t.mask g c ∈ t.place.toList := by
  obtain ⟨j, hj, hn⟩ := st_missing t.place.toList (t.mask + 1) (by rw [T.len]; omega)
  obtain ⟨k, hk, e⟩ := way_meets T.msk.meets g (Nat.le_of_lt_succ hj)
  obtain ⟨K, h1, h2, h3⟩ := st_least (p := fun c => way t.mask g c ∉ t.place.toList) k (fun z => hn (e ▸ z))
  exact ⟨K, Nat.lt_of_le_of_lt h1 hk, h2, fun c hc => Classical.not_not.mp (h3 c hc)⟩
theorem TabM.ahead (T : TabM t gs) {g : Int} {K i j : Nat} (hK : way t.mask g K ∉ t.place.toList) (hi : gs[i]? = some g) (hj : t.place.toList[i]? = some j) : ∃ k, k < K ∧ way t.mask g k = j := by
  obtain ⟨k, e, hb⟩ := T.at' i g j hi hj
  refine ⟨k, Nat.lt_of_not_le fun z => ?_, e⟩
  rcases Nat.lt_or_eq_of_le z with c | c
  · exact hK (hb K c)
  · exact hK (c ▸ e ▸ List.mem_of_getElem? hj)
theorem TabM.put (T : TabM t gs) {g : Int} {K : Nat} (hK : way t.mask g K ∉ t.place.toList) (hb : ∀ c, c < K → way t.mask g c ∈ t.place.toList) :
    SetTable.below t.place (way t.mask g K) ≤ gs.length ∧ TabM (t.put (way t.mask g K)).1 (gs.take (SetTable.below t.place (way t.mask g K)) ++ g :: gs.drop (SetTable.below t.place (way t.mask g K))) ∧ (t.put (way t.mask g K)).1.fill = gs.length + 1 := by
  have hin := way_in t.mask g K
  generalize hj : way t.mask g K = j at hK hin ⊢
  obtain ⟨c1, _, _⟩ := below_cut T.up j
  have b1 : SetTable.below t.place j ≤ t.place.toList.length := by rw [Array.length_toList]; exact c1
  have b2 : SetTable.below t.place j ≤ gs.length := T.len ▸ b1
  have pp := put_place t j
  have sz : (t.put j).1.place.size = gs.length + 1 := by rw [← Array.length_toList, pp, len_ins _ b1, T.len]
  have sub : ∀ x, x ∈ t.place.toList → x ∈ (t.put j).1.place.toList := fun x hx => by
    rw [pp]
    exact mem_ins.mpr (.inr hx)
  have pd := put_dm T.no j
  refine ⟨b2, ⟨ris_insert T.up fun e => hK (List.mem_of_getElem? (i := SetTable.below t.place j) (by rw [Array.getElem?_toList]; exact e)), pd, by rw [len_ins _ b2, sz], T.msk, fun x hx => ?_, fun i g' j' e1 e2 => ?_⟩, ?_⟩
  · rw [pp] at hx
    rcases mem_ins.mp hx with z | z
    · exact z ▸ hin
    · exact T.le x z
  · rw [tins_get gs b2] at e1
    rw [pp, tins_get _ b1] at e2
    have old : ∀ i', gs[i']? = some g' → t.place.toList[i']? = some j' → ∃ k, way t.mask g' k = j' ∧ ∀ c, c < k → way t.mask g' c ∈ (t.put j).1.place.toList := fun i' z1 z2 => by
      obtain ⟨k, e, z⟩ := T.at' i' g' j' z1 z2
      exact ⟨k, e, fun c hc => sub _ (z c hc)⟩
    by_cases lo : i < SetTable.below t.place j
    · rw [if_pos lo] at e1 e2
      exact old i e1 e2
    · rw [if_neg lo] at e1 e2
      by_cases eq : i = SetTable.below t.place j
      · rw [if_pos eq] at e1 e2
        cases e1
        cases e2
        exact ⟨K, hj, fun c hc => sub _ (hb c hc)⟩
      · rw [if_neg eq] at e1 e2
        exact old (i - 1) e1 e2
  · show (t.put j).1.place.size + (t.put j).1.dummies.size = _
    rw [sz, pd]
    rfl
end
/-! laying anew -/
theorem free_way {m : Nat} (hm : Meets m) (ow : Array (Option Nat)) (g : Int) {j : Nat} (hj : j ≤ m) (hf : oAt ow j = none) :
    ∃ K, SetTable.layClean.free m ow (SetTable.turns m) (SetTable.bits g % (m + 1)) (SetTable.bits g) = some (way m g K) ∧ oAt ow (way m g K) = none ∧ ∀ c, c < K → oAt ow (way m g c) ≠ none := by
  obtain ⟨n, hn, e⟩ := hm g j hj
  have hw : way m g (off m (SetTable.bits g % (m + 1)) (SetTable.bits g) n) = j := by
    show (nth m (runAt m _ _) _).j = j
    rw [nth_off, itL_run]
    exact e
  obtain ⟨K, k1, k2, k3⟩ := st_least (p := fun c => oAt ow (way m g c) = none) _ (show oAt ow (way m g (off m (SetTable.bits g % (m + 1)) (SetTable.bits g) n)) = none by rw [hw]; exact hf)
  refine ⟨K, free_spec m ow _ n _ _ K (by unfold SetTable.turns; omega) k1 (fun c hc => ?_) (by rw [show oAt ow (nth m _ K).j = none from k2]; rfl), k2, k3⟩
  cases z : oAt ow (nth m (runAt m (SetTable.bits g % (m + 1)) (SetTable.bits g)) c).j with
  | none => exact absurd z (k3 c hc)
  | some _ => rfl
theorem own_next {m : Nat} (hm : Meets m) {done : List Int} {ow : Array (Option Nat)} (W : Own m done ow) (hl : done.length ≤ m) (g : Int) :
    ∃ j, SetTable.layClean.free m ow (SetTable.turns m) (SetTable.bits g % (m + 1)) (SetTable.bits g) = some j ∧ Own m (done ++ [g]) (ow.setIfInBounds j (some done.length)) := by
  obtain ⟨ps, hps, hin⟩ := W.ps
  obtain ⟨j0, h0, hn0⟩ := st_missing ps (m + 1) (hps ▸ Nat.lt_succ_of_le hl)
  obtain ⟨K, e1, e2, e3⟩ := free_way hm ow g (Nat.le_of_lt_succ h0) (Classical.byContradiction fun z => hn0 (hin j0 (Nat.le_of_lt_succ h0) z))
  have hjm := way_in m g K
  generalize hj : way m g K = j at e1 e2 hjm
  have hjs : j < ow.size := by rw [W.sz]; omega
  have self := oAt_set_self (some done.length) hjs
  have up : ∀ i, oAt ow i ≠ none → oAt (ow.setIfInBounds j (some done.length)) i ≠ none := fun i hi => by
    by_cases c : i = j
    · rw [c, self]
      exact Option.some_ne_none _
    · rw [oAt_set_ne _ c]
      exact hi
  refine ⟨j, e1, by rw [Array.size_setIfInBounds]; exact W.sz, fun i k hi e => ?_, fun k hk => ?_, j :: ps, by simp [hps], fun i hi e => ?_⟩
  · by_cases c : i = j
    · rw [c, self] at e
      cases e
      exact ⟨g, K, by rw [List.getElem?_append_right (Nat.le_refl _), Nat.sub_self]; rfl, hj.trans c.symm, fun c' hc' => up _ (e3 c' hc')⟩
    · rw [oAt_set_ne _ c] at e
      obtain ⟨g', K', a1, a2, a3⟩ := W.at_ i k hi e
      exact ⟨g', K', by rw [List.getElem?_append_left (List.getElem?_eq_some_iff.mp a1).1]; exact a1, a2, fun c' hc' => up _ (a3 c' hc')⟩
  · by_cases c : k = done.length
    · exact ⟨j, hjm, c ▸ self⟩
    · rw [List.length_append] at hk
      obtain ⟨i, hi, e⟩ := W.all k (by simp at hk; omega)
      exact ⟨i, hi, by rw [oAt_set_ne _ (fun z => by rw [z, e2] at e; cases e)]; exact e⟩
  · by_cases c : i = j
    · exact c ▸ List.mem_cons_self
    · rw [oAt_set_ne _ c] at e
      exact List.mem_cons_of_mem _ (hin i hi e)
theorem lay_fold {m : Nat} (hm : Meets m) : ∀ (more done : List Int) (ow : Array (Option Nat)), Own m done ow → done.length + more.length ≤ m → ∃ ow', more.foldl (stepF m) (some (ow, done.length)) = some (ow', (done ++ more).length) ∧ Own m (done ++ more) ow'
  | [], done, ow, W, _ => by
    rw [List.append_nil]
    exact ⟨ow, rfl, W⟩
  | g :: more, done, ow, W, hl => by
    have hl2 : done.length + (more.length + 1) ≤ m := hl
    obtain ⟨j, e, W'⟩ := own_next hm W (by omega) g
    have q := lay_fold hm more (done ++ [g]) _ W' (by rw [List.length_append]; show done.length + 1 + more.length ≤ m; omega)
    rw [List.append_assoc, List.length_append] at q
    obtain ⟨ow', f, W2⟩ := q
    refine ⟨ow', ?_, W2⟩
    rw [List.foldl_cons, stepF_some (k := done.length) e]
    exact f
theorem lay_clean {m : Nat} (hm : Meets m) {hs : Array Int} (hn : hs.size ≤ m) : ∃ ow, SetTable.layClean m hs = some ow ∧ Own m hs.toList ow := by
  obtain ⟨ow, f, W⟩ := lay_fold hm hs.toList [] _ (Own.init m) (by show 0 + hs.toList.length ≤ m; rw [Array.length_toList]; omega)
  exact ⟨ow, by rw [layClean_eq, show hs.toList.foldl (stepF m) (some (Array.replicate (m + 1) none, 0)) = _ from f]; rfl, W⟩
theorem relaid_tab (t : SetTable) {hs : Array Int} {wanted M : Nat} (hw : SetTable.sizeAbove wanted - 1 = M) (hM : Mk M) (hn : hs.size ≤ M) :
    ∃ t' order, t.relaid hs wanted = some (t', order) ∧ order.toList.Perm (List.range hs.size) ∧ TabM t' (order.toList.map fun i => hs.getD i 0) ∧ t'.mask = M ∧ t'.led = t.led := by
  obtain ⟨ow, e, W⟩ := lay_clean hM.meets hn
  have er : t.relaid hs wanted = some (tabOf t M ow, ((liveOf M ow).map (·.2)).toArray) := by
    rw [relaid_eq, hw, e]
    rfl
  have rr := ris_live (fun j => ow.getD j none) (List.range (M + 1)) (by unfold Ris; exact List.pairwise_lt_range)
  have r1 : Ris ((liveOf M ow).map (·.1)) := rr.1
  have r2 : ∀ x ∈ (liveOf M ow).map (·.1), x ∈ List.range (M + 1) := rr.2
  have hz : hs.toList.length = hs.size := Array.length_toList
  have hlen : (liveOf M ow).length = hs.size := by
    obtain ⟨ps, p1, p2⟩ := W.ps
    have a : ((liveOf M ow).map (·.1)).length ≤ ps.length := nat_nodup_len _ ps (List.Pairwise.imp (fun h => Nat.ne_of_lt h) r1) fun x hx => by
      obtain ⟨⟨y, k⟩, hq, rfl⟩ := List.mem_map.mp hx
      have ⟨b1, b2⟩ := (mem_live W.sz).mp hq
      exact p2 y b1 (by rw [b2]; exact Option.some_ne_none _)
    have b : (List.range hs.size).length ≤ ((liveOf M ow).map (·.2)).length := nat_nodup_len _ _ List.nodup_range fun k hk => by
      obtain ⟨j, b1, b2⟩ := W.all k (by rw [hz]; exact List.mem_range.mp hk)
      exact List.mem_map.mpr ⟨_, (mem_live W.sz).mpr ⟨b1, b2⟩, rfl⟩
    rw [List.length_map] at a b
    rw [List.length_range] at b
    omega
  refine ⟨_, _, er, perm_range hs.size _ (by simpa using hlen) fun k hk => ?_, ⟨r1, rfl, by simp [tabOf], hM, fun x hx => Nat.le_of_lt_succ (List.mem_range.mp (r2 x hx)), fun i g j h1 h2 => ?_⟩, rfl, rfl⟩
  · obtain ⟨j, b1, b2⟩ := W.all k (by rw [hz]; exact hk)
    exact List.mem_map.mpr ⟨_, (mem_live W.sz).mpr ⟨b1, b2⟩, rfl⟩
  · have z1 : (((liveOf M ow).map (·.2)).map fun i => hs.getD i 0)[i]? = some g := h1
    have z2 : ((liveOf M ow).map (·.1))[i]? = some j := h2
    rw [List.getElem?_map, List.getElem?_map] at z1
    rw [List.getElem?_map] at z2
    cases hq : (liveOf M ow)[i]? with
    | none =>
      rw [hq] at z2
      cases z2
    | some q =>
      rw [hq] at z1 z2
      cases z2
      have ⟨b1, b2⟩ := (mem_live W.sz).mp (List.mem_of_getElem? hq)
      obtain ⟨g0, K, a1, a2, a3⟩ := W.at_ q.1 q.2 b1 b2
      have eg : g0 = g := by
        have u : hs.getD q.2 0 = g := Option.some.inj z1
        rw [Array.getD_eq_getD_getElem?, ← Array.getElem?_toList, a1] at u
        exact u
      subst eg
      refine ⟨K, a2, fun c hc => ?_⟩
      show way M g0 c ∈ (liveOf M ow).map (·.1)
      cases z : oAt ow (way M g0 c) with
      | none => exact absurd z (a3 c hc)
      | some k2 => exact List.mem_map.mpr ⟨(way M g0 c, k2), (mem_live W.sz).2 ⟨way_in M g0 c, z⟩, rfl⟩
theorem sizes : SetTable.sizeAbove (SetTable.grown 5) = 32 ∧ SetTable.sizeAbove (SetTable.grown 19) = 128 ∧ SetTable.sizeAbove (SetTable.grown 77) = 512 := by decide +kernel
end SH
/-! sets of any heap keys: the search, and adding -/
namespace SH
open PySem PySem.Spec PyProof.Rows L2
/-- the c-th probe for the hash g -/
def pb (m : Nat) (g : Int) (c : Nat) : SetTable.Probe := nth m (runAt m (SetTable.bits g % (m + 1)) (SetTable.bits g)) c
theorem pb_add (m : Nat) (g : Int) (c q : Nat) : nth m (pb m g c) q = pb m g (c + q) := (nth_add m c _ q).symm
theorem pb_dummy (m : Nat) (g : Int) : ∀ c, (pb m g c).dummy = none
  | 0 => rfl
  | c + 1 => by
    rw [← pb_add m g c 1]
    show (adv m (pb m g c)).dummy = none
    unfold adv
    split <;> exact pb_dummy m g c
section
variable {P : Program} {w : World} {κ : Type} [DecidableEq κ] {knd : HeapKind P w κ} {A : Around} {E : Value → Shared → Prop} {s : Shared}
/-- what a set asks of a member beside its hash -/
structure Calm (knd : HeapKind P w κ) : Prop where
  st : knd.Stays
  cl : ∀ {A : Around} {E : Value → Shared → Prop} {s : Shared} {k : κ} {b : Addr} {Q : Bool → Shared → Prop}, knd.is s.heap k b → Q false s → wpAny (model P w) A (ofAClassStatement 8 (.ref b)) Q E s
  hv : ∀ {A : Around} {E : Value → Shared → Prop} {s : Shared} {k : κ} {b : Addr} {Q : Bool → Shared → Prop}, knd.is s.heap k b → (∀ r, Q r s) → wpAny (model P w) A (hashByValue 8 (.ref b)) Q E s
theorem seen_no (C : Calm knd) {k : κ} {b : Addr} {Q : Bool → Shared → Prop} (hk : knd.is s.heap k b) {ys : List Value} (hy : ∀ y ∈ ys, ∃ k' c, y = Value.ref c ∧ knd.is s.heap k' c) (h : Q false s) :
    wpAny (model P w) A (searchCouldBeSeen (.ref b) ys) Q E s := by
  unfold searchCouldBeSeen
  refine wpAny_bind (wpAny_forIn_list _ (fun rest r z => z = s ∧ r.1 = none ∧ ∀ y ∈ rest, ∃ k' c, y = Value.ref c ∧ knd.is s.heap k' c) _ (fun v rest r z hz => ?_) (fun r z hz => ?_) _ _ ⟨rfl, rfl, hy⟩)
  · obtain ⟨rfl, hr, al⟩ := hz
    obtain ⟨k', c, rfl, hc⟩ := al v List.mem_cons_self
    have tl : ∀ y ∈ rest, ∃ k' c, y = Value.ref c ∧ knd.is z.heap k' c := fun y hy => al y (List.mem_cons_of_mem _ hy)
    dsimp only
    by_cases e : (b == c || (carriedByValue (.ref b) && carriedByValue (.ref c))) = true
    · exact wp_if_pos e (wpAny_pure ⟨rfl, rfl, tl⟩)
    · refine wp_if_neg e (wpAny_bind (knd.quiet hk ?_))
      rw [Bool.not_true, if_neg Bool.false_ne_true]
      refine wpAny_bind (knd.quiet hc ?_)
      rw [Bool.not_true, if_neg Bool.false_ne_true]
      refine wpAny_bind (C.cl hk ?_)
      rw [if_neg Bool.false_ne_true]
      refine wpAny_bind (C.cl hc ?_)
      rw [if_neg Bool.false_ne_true]
      exact wpAny_pure ⟨rfl, rfl, tl⟩
  · obtain ⟨r1, r2⟩ := r
    obtain ⟨rfl, hr, _⟩ := hz
    cases (show r1 = none from hr)
    exact wpAny_pure h
/-- the set at a, of the members L (their places, their keys) in the table's order -/
structure SetH (knd : HeapKind P w κ) (h : Heap) (a : Addr) (L : List (Addr × κ)) (es : Array (Int × Value)) (ep : Nat) (t : SetTable) : Prop where
  ob : ∃ o, h.get? a = some o ∧ o.ExactSet ∧ o.data = .set es ep t
  rows : es.toList = L.map fun p => (knd.hash p.2, Value.ref p.1)
  tab : TabM t (L.map fun p => knd.hash p.2)
  nd : (L.map (·.2)).Nodup
  el : ∀ p ∈ L, knd.is h p.2 p.1
  ld : w.params.followText "set-order" = true ∨ t.led = true
  gap : L.length * 5 < t.mask * 3
variable {a : Addr} {L : List (Addr × κ)} {es : Array (Int × Value)} {ep : Nat} {t : SetTable}
theorem rows_size (h : es.toList = L.map fun p => (knd.hash p.2, Value.ref p.1)) : es.size = L.length := by
  rw [← Array.length_toList, h, List.length_map]
theorem rows_at (h : es.toList = L.map fun p => (knd.hash p.2, Value.ref p.1)) {i : Nat} {p : Addr × κ} (e : L[i]? = some p) : es[i]? = some (knd.hash p.2, Value.ref p.1) := by
  rw [← Array.getElem?_toList, h, List.getElem?_map, e]
  rfl
theorem fits_of {gs : List Int} (T : TabM t gs) {n : Nat} (hn : gs.length = n) (hl : n ≤ t.mask) : t.fits n = true := by
  have := T.n
  unfold SetTable.fits SetTable.fill
  rw [T.no, Bool.and_eq_true, beq_iff_eq, decide_eq_true_eq]
  show t.place.size = n ∧ t.place.size + 0 ≤ t.mask
  omega
theorem SetH.fits (R : SetH knd s.heap a L es ep t) : t.fits es.size = true := by
  have h2 := R.gap
  have h3 := rows_size R.rows
  exact fits_of R.tab (by rw [List.length_map]; exact h3.symm) (by omega)
theorem SetH.small (R : SetH knd s.heap a L es ep t) : L.length ≤ 306 := by
  have h2 := R.gap
  rcases R.tab.msk.cases with e | e | e | e <;> omega
/-- the search from its c-th step on; K: the first gap on the way -/
theorem look (C : Calm knd) (R : SetH knd s.heap a L es ep t) {x : Addr} {k : κ} (hx : knd.is s.heap k x) (hr : knd.room A) {K : Nat} (hKf : K < 10 * SetTable.turns t.mask)
    (hK : way t.mask (knd.hash k) K ∉ t.place.toList) (hKb : ∀ c, c < K → way t.mask (knd.hash k) c ∈ t.place.toList) {Q : SetFound → Shared → Prop}
    (yes : k ∈ L.map (·.2) → Q (.there none) s) (no : k ∉ L.map (·.2) → Q (.free (way t.mask (knd.hash k) K) false) s) :
    ∀ (f c : Nat) (stand : Option SetTable.Probe), stand.getD (t.probeStart (knd.hash k)) = pb t.mask (knd.hash k) c → c ≤ K → K - c < f →
      (∀ (i : Nat) p, L[i]? = some p → p.2 = k → ∃ d, c ≤ d ∧ d < K ∧ t.place.toList[i]? = some (way t.mask (knd.hash k) d)) →
      wpAny (model P w) A (setSearchFrom a (.ref x) (knd.hash k) true f stand) Q E s
  | 0, c, stand, _, _, hf, _ => absurd hf (Nat.not_lt_zero _)
  | f + 1, c, stand, hst, hc, hf, hre => by
    obtain ⟨o, ho, hex, hd⟩ := R.ob
    have odd := R.tab.msk.odd
    rw [setSearchFrom_succ]
    refine wpAny_bind (wpAny_setState_of ho hd R.fits ?_)
    dsimp only
    refine wp_if_neg (by unfold SetTable.gaveWay; rw [odd]; decide) ?_
    try refine wpAny_bind (wpAny_pure ?_)
    have hz : c + (K - c) = K := by omega
    have hs : ∀ (i : Nat) p, L[i]? = some p → (fun i => (es[i]?.map (·.1)).getD 0) i = knd.hash p.2 := fun i p hp => by
      show (es[i]?.map (·.1)).getD 0 = _
      rw [rows_at R.rows hp]
      rfl
    have J : ∀ q, (nth t.mask (pb t.mask (knd.hash k) c) q).j = way t.mask (knd.hash k) (c + q) := fun q => congrArg SetTable.Probe.j (pb_add t.mask (knd.hash k) c q)
    rcases go_spec t R.tab.up R.tab.no (fun i => (es[i]?.map (·.1)).getD 0) (knd.hash k) (10 * SetTable.turns t.mask) (K - c) (pb t.mask (knd.hash k) c) (pb_dummy _ _ _) (by omega)
      (fun q hq => by rw [J]; exact hKb _ (by omega)) (by rw [J, hz]; exact hK) with ⟨q, i, hq, hi, _, first, pr⟩ | ⟨first, pr⟩
    · rw [J] at hi
      have pr2 : t.probe (fun i => (es[i]?.map (·.1)).getD 0) (knd.hash k) (stand.getD (t.probeStart (knd.hash k))) = some (.candidate (way t.mask (knd.hash k) (c + q)) i (pb t.mask (knd.hash k) (c + (q + 1)))) := by
        rw [hst, ← J, ← pb_add]
        exact pr
      rw [pr2]
      dsimp only
      have il : i < L.length := by
        have h1 := (List.getElem?_eq_some_iff.mp hi).1
        rw [R.tab.len, List.length_map] at h1
        exact h1
      obtain ⟨p, hp⟩ : ∃ p, L[i]? = some p := ⟨_, List.getElem?_eq_getElem il⟩
      have pm := List.mem_of_getElem? hp
      have rest : wpAny (model P w) A (searchRest a (.ref x) (knd.hash k) true f es t (way t.mask (knd.hash k) (c + q)) i (pb t.mask (knd.hash k) (c + (q + 1)))) Q E s := by
        unfold searchRest
        rw [rows_at R.rows hp]
        dsimp only
        refine wpAny_bind (wpAny_holding (knd.eqBool hr (R.el p pm) hx (wpAny_bind (wpAny_setState_of ho hd R.fits ?_))))
        dsimp only
        by_cases e : p.2 = k
        · exact wp_if_pos (by simp [e]) (wpAny_pure (yes (List.mem_map.mpr ⟨p, pm, e⟩)))
        · refine wp_if_neg (by simp [e]) ?_
          try refine wpAny_bind (wpAny_pure ?_)
          have live : t.slot (way t.mask (knd.hash k) (c + q)) = .live i := slot_live R.tab.up hi
          rw [sameMem]
          dsimp only
          simp only [if_true, live, rows_at R.rows hp]
          refine wpAny_bind (wpAny_isSame_ref_self (wpAny_bind (wpAny_pure ?_)))
          simp only [if_true]
          refine wp_if_neg (by simp [e]) ?_
          refine look C R hx hr hKf hK hKb yes no f (c + (q + 1)) _ rfl (by omega) (by omega) fun i0 p0 h0 k0 => ?_
          obtain ⟨d, d1, d2, d3⟩ := hre i0 p0 h0 k0
          refine ⟨d, Nat.lt_of_not_le fun z => ?_, d2, d3⟩
          rcases Nat.lt_or_eq_of_le z with z | z
          · exact first (d - c) i0 (Nat.sub_lt_left_of_lt_add d1 z) (by rw [J, Nat.add_sub_cancel' d1]; exact d3) ((hs i0 p0 h0).trans (congrArg knd.hash k0))
          · have z : d = c + q := z
            have s0 := slot_live R.tab.up d3
            rw [z, live] at s0
            cases s0
            rw [hp] at h0
            cases h0
            exact e k0
      by_cases hl : t.led = true
      · refine wp_if_neg (by simp [hl]) ?_
        try refine wpAny_bind (wpAny_pure ?_)
        exact rest
      · refine wp_if_pos (by simp [hl]) (wpAny_bind (seen_no C hx (fun y hy => ?_) ?_))
        · obtain ⟨u, hu, rfl⟩ := List.mem_map.mp hy
          have hu2 : u ∈ es.toList := by
            have h1 : u ∈ es ∧ u.1 = knd.hash k := by simpa using hu
            simpa using h1.1
          rw [R.rows] at hu2
          obtain ⟨p2, hp2, rfl⟩ := List.mem_map.mp hu2
          exact ⟨p2.2, p2.1, rfl, R.el p2 hp2⟩
        · refine wp_if_neg (by decide) ?_
          try refine wpAny_bind (wpAny_pure ?_)
          exact rest
    · have pr2 : t.probe (fun i => (es[i]?.map (·.1)).getD 0) (knd.hash k) (stand.getD (t.probeStart (knd.hash k))) = some (.empty (way t.mask (knd.hash k) K) none) := by
        have e2 := J (K - c)
        rw [hz] at e2
        rw [hst, ← e2]
        exact pr
      rw [pr2]
      dsimp only
      refine wpAny_pure (no fun hm => ?_)
      obtain ⟨p0, h0, k0⟩ := List.mem_map.mp hm
      obtain ⟨i0, hi0⟩ := List.mem_iff_getElem?.mp h0
      obtain ⟨d, d1, d2, d3⟩ := hre i0 p0 hi0 k0
      exact first (d - c) i0 (by omega) (by rw [J, Nat.add_sub_cancel' d1]; exact d3) ((hs i0 p0 hi0).trans (congrArg knd.hash k0))
/-- the search that adding makes -/
theorem look_at (C : Calm knd) (R : SetH knd s.heap a L es ep t) {x : Addr} {k : κ} (hx : knd.is s.heap k x) (hr : knd.room A) {Q : SetFound → Shared → Prop} (yes : k ∈ L.map (·.2) → Q (.there none) s)
    (no : ∀ K, k ∉ L.map (·.2) → way t.mask (knd.hash k) K ∉ t.place.toList → (∀ c, c < K → way t.mask (knd.hash k) c ∈ t.place.toList) → Q (.free (way t.mask (knd.hash k) K) false) s) :
    wpAny (model P w) A (setSearch a (.ref x) (knd.hash k) true) Q E s := by
  have g := R.gap
  obtain ⟨K, k1, k2, k3⟩ := R.tab.gap (by rw [List.length_map]; omega) (knd.hash k)
  have big : 10 * SetTable.turns t.mask ≤ 10000 := by
    unfold SetTable.turns
    rcases R.tab.msk.cases with e | e | e | e <;> omega
  unfold setSearch
  refine look C R hx hr k1 k2 k3 yes (fun n => no K n k2 k3) 100000 0 none rfl (Nat.zero_le _) (by omega) fun i p hp hk => ?_
  have hi : (L.map fun p => knd.hash p.2)[i]? = some (knd.hash k) := by
    rw [List.getElem?_map, hp, ← hk]
    rfl
  have hil : i < t.place.toList.length := by
    rw [R.tab.len]
    exact (List.getElem?_eq_some_iff.mp hi).1
  obtain ⟨c, hc, e⟩ := R.tab.ahead k2 hi (List.getElem?_eq_getElem hil)
  exact ⟨c, Nat.zero_le _, hc, by rw [List.getElem?_eq_getElem hil, e]⟩
/-- a member isn't the set -/
theorem el_same (C : Calm knd) {h h' : Heap} {k : κ} {b : Addr} {o : Obj} (hb : knd.is h k b) (ho : h.get? a = some o) (hd : o.data = .set es ep t) (hs : Heap.SameBut a h h') : knd.is h' k b := by
  refine C.st.stays (fun c u vs n hc hu => ?_) hb
  refine (hs.2 c fun e => ?_).trans hc
  rw [e, ho] at hc
  cases hc
  rw [hd] at hu
  cases hu
/-- the rows in the order of another table -/
theorem rows_order (h : es.toList = L.map fun p => (knd.hash p.2, Value.ref p.1)) (od : Array Nat) (hp : od.toList.Perm (List.range L.length)) :
    ∃ L2 : List (Addr × κ), (od.filterMap (es[·]?)).toList = (L2.map fun p => (knd.hash p.2, Value.ref p.1)) ∧ L2.Perm L ∧ (L2.map fun p => knd.hash p.2) = od.toList.map fun i => (es.map (·.1)).getD i 0 := by
  have all : (List.range L.length).filterMap (fun i => L[i]?) = L := by
    clear hp h
    have gen : ∀ (M : List (Addr × κ)), (List.range M.length).filterMap (fun i => M[i]?) = M := by
      intro M
      induction M with
      | nil => rfl
      | cons x M ih =>
        rw [List.length_cons, List.range_succ_eq_map, List.filterMap_cons_some (f := fun i => (x :: M)[i]?) (a := 0) (b := x) rfl, List.filterMap_map]
        exact congrArg (x :: ·) ih
    exact gen L
  have one : ∀ l : List Nat, (∀ i ∈ l, i < L.length) → l.filterMap (fun i => es[i]?) = ((l.filterMap fun i => L[i]?).map fun p => (knd.hash p.2, Value.ref p.1)) ∧ ((l.filterMap fun i => L[i]?).map fun p => knd.hash p.2) = l.map fun i => (es.map (·.1)).getD i 0 := by
    intro l
    induction l with
    | nil => exact fun _ => ⟨rfl, rfl⟩
    | cons i l ih =>
      intro hl
      have hi := List.getElem?_eq_getElem (hl i List.mem_cons_self)
      obtain ⟨e1, e2⟩ := ih fun j hj => hl j (List.mem_cons_of_mem _ hj)
      have e5 : (es.map (·.1))[i]? = some (knd.hash (L[i]'(hl i List.mem_cons_self)).2) := by
        rw [Array.getElem?_map, rows_at h hi]
        rfl
      rw [List.filterMap_cons_some (rows_at h hi), List.filterMap_cons_some hi, e1, List.map_cons, List.map_cons, List.map_cons, e2]
      exact ⟨rfl, by rw [Array.getD_eq_getD_getElem?, e5]; rfl⟩
  obtain ⟨e1, e2⟩ := one od.toList fun i hi => List.mem_range.mp (hp.mem_iff.mp hi)
  refine ⟨od.toList.filterMap fun i => L[i]?, by rw [Array.toList_filterMap]; exact e1, ?_, e2⟩
  have q := hp.filterMap fun i => L[i]?
  rw [all] at q
  exact q
/-- the members in a larger table -/
theorem relay (C : Calm knd) {o : Obj} (ho : s.heap.get? a = some o) (hex : o.ExactSet) (hd : o.data = .set es ep t) (rows : es.toList = L.map fun p => (knd.hash p.2, Value.ref p.1)) (hf : t.fits es.size = true)
    (nd : (L.map (·.2)).Nodup) (el : ∀ p ∈ L, knd.is s.heap p.2 p.1) (ld : w.params.followText "set-order" = true ∨ t.led = true) {wanted M : Nat}
    (hw : SetTable.sizeAbove wanted = M + 1) (hM : Mk M) (hn : L.length * 5 < M * 3) {Q : Unit → Shared → Prop}
    (hQ : ∀ h' L' es' ep' t', Heap.SameBut a s.heap h' → SetH knd h' a L' es' ep' t' → L'.Perm L → Q () { s with heap := h' }) : wpAny (model P w) A (setRelay a wanted) Q E s := by
  have hz := rows_size rows
  have hM5 : M ≤ 511 := by rcases hM.cases with e | e | e | e <;> omega
  obtain ⟨t', od, e, hp, T, em, el'⟩ := relaid_tab t (hs := es.map (·.1)) (wanted := wanted) (M := M) (by omega) hM (by rw [Array.size_map]; omega)
  rw [Array.size_map, hz] at hp
  obtain ⟨L2, r1, r2, r3⟩ := rows_order rows od hp
  rw [← r3] at T
  have z2 := (rows_size r1).trans (r2.length_eq.trans hz.symm)
  have line : sizeLine = 16777216 := rfl
  rw [setRelay_eq]
  refine wpAny_bind (wpAny_setState_of ho hd hf ?_)
  dsimp only
  refine wp_if_neg (by rw [hw]; omega) ?_
  try refine wpAny_bind (wpAny_pure ?_)
  rw [e]
  dsimp only
  refine wpAny_bind (wp_if_neg (by rw [z2]; simp) ?_)
  try refine wpAny_bind (wpAny_pure ?_)
  refine wpAny_pure ?_
  dsimp only
  refine wpAny_storeSet_of ho hd (hQ _ L2 (od.filterMap (es[·]?)) (ep + 1) t' (Heap.SameBut.update ..) ⟨⟨_, store_at ho hd, ⟨hex.1, hex.2.1, hex.2.2⟩, rfl⟩, r1, T, (r2.map (·.2)).nodup_iff.mpr nd, fun p hpm => el_same C (el p (r2.mem_iff.mp hpm)) ho hd (Heap.SameBut.update ..), by rw [el']; exact ld, by rw [r2.length_eq, em]; exact hn⟩ r2) (by rw [z2]; omega)
/-- one more member -/
theorem add (C : Calm knd) (R : SetH knd s.heap a L es ep t) {x : Addr} {k : κ} (hx : knd.is s.heap k x) (hr : knd.room A) (few : L.length + 1 ≤ 300) {Q : Bool → Shared → Prop}
    (hQ : ∀ b h' L' es' ep' t', Heap.SameBut a s.heap h' → SetH knd h' a L' es' ep' t' → (k ∈ L.map (·.2) → L' = L) → (k ∉ L.map (·.2) → L'.Perm ((x, k) :: L)) → Q b { s with heap := h' }) :
    wpAny (model P w) A (setAddHashed a (.ref x) (knd.hash k)) Q E s := by
  obtain ⟨o, ho, hex, hd⟩ := R.ob
  have line : sizeLine = 16777216 := rfl
  unfold setAddHashed
  rw [show (100000 : Nat) = 99999 + 1 from rfl, setAddHashedIn_succ]
  refine wpAny_holding (wpAny_bind (wpAny_setState_of ho hd R.fits ?_))
  dsimp only
  refine wp_if_neg (by simp [byScan, Value.scannable]) ?_
  try refine wpAny_bind (wpAny_pure ?_)
  refine wpAny_bind (look_at C R hx hr (fun hm => ?_) fun K hm hK hb => ?_)
  · exact wpAny_pure (hQ false s.heap L es ep t (Heap.SameBut.refl a s.heap) R (fun _ => rfl) fun z => absurd hm z)
  · dsimp only
    refine wpAny_bind (wpAny_setState_of ho hd R.fits ?_)
    dsimp only
    obtain ⟨q1, q2, q3⟩ := R.tab.put hK hb
    have zL := rows_size R.rows
    have gap := R.gap
    -- the table with the new slot
    have v1 : (t.put (way t.mask (knd.hash k) K)).2 = SetTable.below t.place (way t.mask (knd.hash k) K) := rfl
    have v2 : (t.put (way t.mask (knd.hash k) K)).1.mask = t.mask := rfl
    have v3 : (t.put (way t.mask (knd.hash k) K)).1.led = t.led := rfl
    generalize t.put (way t.mask (knd.hash k) K) = pt at q2 q3 v1 v2 v3 ⊢
    obtain ⟨t1, p⟩ := pt
    dsimp only at q2 q3 v1 v2 v3 ⊢
    rw [← v1] at q1 q2
    have rows1 : (SetTable.insertAt es p (knd.hash k, Value.ref x)).toList = (L.take p ++ (x, k) :: L.drop p).map fun p => (knd.hash p.2, Value.ref p.1) := by
      rw [SetTable.toList_insertAt, R.rows, List.map_append, List.map_cons, List.map_take, List.map_drop]
    have pm : (L.take p ++ (x, k) :: L.drop p).Perm ((x, k) :: L) := by
      have h := List.perm_middle (a := (x, k)) (l₁ := L.take p) (l₂ := L.drop p)
      rw [List.take_append_drop] at h
      exact h
    have hg : (L.map fun p => knd.hash p.2).take p ++ knd.hash k :: (L.map fun p => knd.hash p.2).drop p = (L.take p ++ (x, k) :: L.drop p).map fun p => knd.hash p.2 := by
      rw [List.map_append, List.map_cons, List.map_take, List.map_drop]
    rw [hg] at q2
    generalize L.take p ++ (x, k) :: L.drop p = L1 at rows1 pm q2
    have l1 := pm.length_eq
    rw [List.length_cons] at l1
    have nd1 : (L1.map (·.2)).Nodup := (pm.map (·.2)).nodup_iff.mpr (List.nodup_cons.mpr ⟨hm, R.nd⟩)
    have z1 := rows_size rows1
    generalize SetTable.insertAt es p (knd.hash k, Value.ref x) = es1 at rows1 z1
    rw [List.length_map] at q3
    -- whatever becomes of the mark «plain»
    have main : ∀ t2 : SetTable, TabM t2 (L1.map fun p => knd.hash p.2) → t2.mask = t.mask → t2.led = t.led → t2.fill = L.length + 1 →
        wpAny (model P w) A (storeSet a es1 t2 >>= fun _ => if (!false && t2.tooFull) = true then (setRelay a (SetTable.grown (es.size + 1)) >>= fun _ => pure true) else pure true) Q E s := fun t2 T2 m2 d2 f2 => by
      refine wpAny_bind (wpAny_storeSet_of ho hd ?_ (by rw [z1]; omega))
      have sb : Heap.SameBut a s.heap (s.heap.update a (Obj.putSet es1 t2)) := Heap.SameBut.update ..
      have ho1 := store_at (es' := es1) (t' := t2) ho hd
      generalize s.heap.update a (Obj.putSet es1 t2) = h1 at sb ho1 ⊢
      have el1 : ∀ p ∈ L1, knd.is h1 p.2 p.1 := fun p hp => by
        rcases List.mem_cons.mp (pm.mem_iff.mp hp) with e | hp
        · rw [e]
          exact el_same C hx ho hd sb
        · exact el_same C (R.el p hp) ho hd sb
      have ld1 : w.params.followText "set-order" = true ∨ t2.led = true := d2.symm ▸ R.ld
      by_cases hf : t2.tooFull = true
      · have full : (L.length + 1) * 5 ≥ t.mask * 3 := by
          have h := hf
          unfold SetTable.tooFull at h
          rw [decide_eq_true_eq, f2, m2] at h
          exact h
        have big : ∃ M, SetTable.sizeAbove (SetTable.grown (es.size + 1)) = M + 1 ∧ Mk M ∧ L1.length * 5 < M * 3 ∧ t.mask < M := by
          rcases R.tab.msk.cases with e | e | e | e
          · exact ⟨31, by rw [show es.size + 1 = 5 by omega]; exact sizes.1, .inl (.inr (.inl rfl)), by omega, by omega⟩
          · exact ⟨127, by rw [show es.size + 1 = 19 by omega]; exact sizes.2.1, .inl (.inr (.inr rfl)), by omega, by omega⟩
          · exact ⟨511, by rw [show es.size + 1 = 77 by omega]; exact sizes.2.2, .inr rfl, by omega, by omega⟩
          · omega
        obtain ⟨M, b1, b2, b3, b4⟩ := big
        have fin : wpAny (model P w) A (setRelay a (SetTable.grown (es.size + 1))) (fun _ s' => Q true s') E { s with heap := h1 } :=
          relay (s := { s with heap := h1 }) C ho1 ⟨hex.1, hex.2.1, hex.2.2⟩ rfl rows1 (fits_of T2 (by rw [List.length_map, z1]) (by omega)) nd1 el1 ld1 b1 b2 b3 fun h2 L2 es2 ep2 t3 sb2 R2 pm2 => hQ true h2 L2 es2 ep2 t3 (sb.trans sb2) R2 (fun z => absurd z hm) fun _ => pm2.trans pm
        exact wp_if_pos (by rw [hf]; rfl) (wpAny_bind (wpAny_mono fin (fun _ _ h => wpAny_pure h) fun _ _ h => h))
      · have fin : Q true { s with heap := h1 } := hQ true h1 L1 es1 (ep + 1) t2 sb ⟨⟨_, ho1, ⟨hex.1, hex.2.1, hex.2.2⟩, rfl⟩, rows1, T2, nd1, el1, ld1, by
          have h := hf
          unfold SetTable.tooFull at h
          rw [decide_eq_true_eq, f2, m2] at h
          omega⟩ (fun z => absurd z hm) fun _ => pm
        exact wp_if_neg (by rw [Bool.eq_false_iff.mpr hf]; decide) (wpAny_pure fin)
    have both : ∀ r : Bool, ∃ t2, (if r = true then t1 else { t1 with plain := false }) = t2 ∧ TabM t2 (L1.map fun p => knd.hash p.2) ∧ t2.mask = t.mask ∧ t2.led = t.led ∧ t2.fill = L.length + 1 := fun r => by
      cases r
      · exact ⟨{ t1 with plain := false }, rfl, ⟨q2.up, q2.no, q2.n, q2.msk, q2.le, q2.at'⟩, v2, v3, q3⟩
      · exact ⟨t1, rfl, q2, v2, v3, q3⟩
    by_cases pl : t1.plain = true
    · refine wp_if_pos pl (wpAny_bind (C.hv hx fun r => ?_))
      obtain ⟨t2, e2, f1, f2, f3, f4⟩ := both r
      rw [e2]
      exact main t2 f1 f2 f3 f4
    · refine wp_if_neg pl (wpAny_bind (wpAny_pure ?_))
      obtain ⟨t2, e2, f1, f2, f3, f4⟩ := both true
      rw [e2]
      exact main t2 f1 f2 f3 f4
end
end SH
/-! set(xs) of a list, whatever the members: by what holds of the set behind i items -/
namespace SH
open PySem PySem.Spec PyProof.Rows L2
/-- a set just made -/
abbrev fs (w : World) : Obj := { cls := .type "set", dict := none, data := .set #[] 0 (.fresh 0 0 (!w.params.followText "set-order")) }
section
variable {P : Program} {w : World} {A : Around} {E : Value → Shared → Prop} {s : Shared}
/-- what adding the item v to the set at S leaves -/
def Adds (P : Program) (w : World) (A : Around) (S : Addr) (v : Value) (J : Heap → Prop) (z : Shared) : Prop :=
  ∀ E' : Value → Shared → Prop, wpAny (model P w) A (setAdd S v) (fun _ y => ∃ h' tk, z.toks ≤ tk ∧ y = { z with heap := h', toks := tk } ∧ Heap.SameBut S z.heap h' ∧ J h') E' z
theorem set_loop {it : Addr} {fp wr : List Addr} {G : Array GenState → Array GenState → Prop} {n : Nat} {Pv : Nat → Value → Prop} {St : Nat → Shared → Prop} {R : Result → Shared → Prop} (W : WalksS P w A.in1 it fp wr G n Pv St)
    {S : Addr} (hSf : S ∉ fp) (J : Nat → Heap → Prop) (h0 : Heap) (hS0 : h0.get? S = none) (hw0 : ∀ b ∈ wr, h0.get? b = none)
    (fr : ∀ i h h', J i h → (∀ o, h.get? S = some o → h'.get? S = some o) → (∀ b o, h0.get? b = some o → h'.get? b = some o) → J i h')
    (step : ∀ i v (z : Shared), i < n → Pv i v → (∀ b o, h0.get? b = some o → z.heap.get? b = some o) → J i z.heap → Adds P w A.in1 S v (J (i + 1)) z) :
    ∀ (k i : Nat) (s : Shared), n - i = k → i ≤ n → St i s → (∀ b o, h0.get? b = some o → s.heap.get? b = some o) → J i s.heap →
      (∀ s', Moved (S :: wr) G s s' → J n s'.heap → (∀ b o, h0.get? b = some o → s'.heap.get? b = some o) → R (.ok (.ret .none)) s') →
      codeAny (model P w) A (.builtin "set.update.loop" ⟨[.ref S, .ref it], []⟩) R s := by
  have notin : S ∉ wr := fun h => hSf (W.sub _ h)
  have up : ∀ b ∈ wr, b ∈ S :: wr := fun b hb => List.mem_cons_of_mem _ hb
  have keep : ∀ {z z' : Shared}, Moved wr G z z' → (∀ b o, h0.get? b = some o → z.heap.get? b = some o) → ∀ b o, h0.get? b = some o → z'.heap.get? b = some o := fun m k b o e =>
    m.heap b o (fun hb => absurd e (by rw [hw0 b hb]; exact fun z => nomatch z)) (k b o e)
  intro k
  induction k with
  | zero =>
    intro i s hk hi hst old hJ hR
    obtain rfl : i = n := by omega
    refine codeAny_builtin F.entry_set_update_loop ?_
    rw [Around.under_plainId (id := "set.update.loop") F.plain_set_update_loop]
    show wpAny (model P w) A.in1 (pyNext (.ref it) >>= _) _ _ s
    refine wpAny_bind (W.done s _ _ hst fun z m => ?_)
    show wpAny _ A.in1 (ret .none) _ _ z
    exact wpAny_pure (hR z (m.mono up) (fr _ _ _ hJ (fun o e => m.heap S o notin e) (keep m old)) (keep m old))
  | succ k ih =>
    intro i s hk hi hst old hJ hR
    have lt : i < n := by omega
    refine codeAny_builtin F.entry_set_update_loop ?_
    rw [Around.under_plainId (id := "set.update.loop") F.plain_set_update_loop]
    show wpAny (model P w) A.in1 (pyNext (.ref it) >>= _) _ _ s
    refine wpAny_bind (W.item i s _ _ lt hst fun v z hv hz m => ?_)
    have old' := keep m old
    show wpAny _ A.in1 (holding [v] (setAdd S v) >>= _) _ _ z
    refine wpAny_bind (wpAny_holding (wpAny_mono (step i v z lt hv old' (fr _ _ _ hJ (fun o e => m.heap S o notin e) old') _) (fun _ y hy => ?_) fun _ _ h => h))
    obtain ⟨h', tk, htk, rfl, sb, hJ'⟩ := hy
    have old2 : ∀ b o, h0.get? b = some o → h'.get? b = some o := fun b o e => (sb.2 b (fun e2 => by rw [e2, hS0] at e; cases e)).trans (old' b o e)
    refine wpAny_pure ⟨plainId_quiet F.plain_set_update_loop _, ih (i + 1) _ (by omega) lt (W.frame _ z _ _ hz htk fun b hb o e => ?_) old2 hJ' fun y my hy oy => ?_⟩
    · rw [sb.2 b fun e2 => hSf (e2 ▸ hb)]
      exact e
    · refine hR y (Moved.trans W.gtrans ((m.mono up).then_heap htk fun b o hb e => ?_) my) hy oy
      rw [sb.2 b fun e2 => hb (e2 ▸ List.mem_cons_self)]
      exact e
set_option maxHeartbeats 3200000 in
/-- set(xs), xs a list: J i holds of the heap once i items are in -/
theorem call_set_of {l : Addr} {its : Array Value} {Q : Value → Shared → Prop} (hh : A.handled = none) (hl : s.heap.IsList l its) (J : Nat → Heap → Prop)
    (fr : ∀ i h h', J i h → (∀ o, h.get? s.heap.objs.size = some o → h'.get? s.heap.objs.size = some o) → (∀ b o, s.heap.get? b = some o → h'.get? b = some o) → J i h')
    (start : ∀ h, h.get? s.heap.objs.size = some (fs w) → (∀ b o, s.heap.get? b = some o → h.get? b = some o) → J 0 h)
    (step : ∀ i v (z : Shared), its[i]? = some v → (∀ b o, s.heap.get? b = some o → z.heap.get? b = some o) → J i z.heap → Adds P w A.in1.in1.in1 s.heap.objs.size v (J (i + 1)) z)
    (fin : ∀ (h' : Heap) (tk : Nat), J its.size h' → (∀ b o, s.heap.get? b = some o → h'.get? b = some o) → Q (.ref s.heap.objs.size) { s with heap := h', toks := tk }) :
    wpAny (model P w) A (call (.type "set") [.ref l]) Q E s := by
  generalize hS : s.heap.objs.size = S at fr start step fin
  obtain ⟨c, tl, hmro⟩ := F.called_set.mro
  have hmade := F.called_set.made
  have hsub := F.called_set.sub
  refine wpAny_call (codeAny_of_tree ?_)
  show wpAny _ _ (callAny (.type "set") _) _ _ _
  refine wpAny_pure ⟨Code.quiet_builtin _ (by decide +kernel), codeAny_builtin F.entry_type_call ?_⟩
  rw [Around.under_plain (weight_type_call_type "set" [.ref l] []) rfl]
  have h1 := F.called_set.notType
  have h2 := F.called_set.canCreate
  have hct := F.typeCall_set_1 (.ref l)
  repeat (any_goals (first | assumption | wp_step))
  refine codeAny_mono (code_set_led1 (.ref l) (E := E) (Q₁ := fun x z => x = .ref S ∧ z = { s with heap := s.heap.push (fs w) }) ⟨congrArg Value.ref hS, rfl⟩) fun r z hr => ?_
  cases r with
  | error e => exact hr
  | ok fl =>
    cases fl with
    | ret x =>
      obtain ⟨rfl, rfl⟩ := hr
      have atS : (s.heap.push (fs w)).get? S = some (fs w) := hS ▸ Heap.get?_push_size _ rfl
      have hT : Shared.TypeIs { s with heap := s.heap.push (fs w) } (.ref S) "set" := ⟨_, atS, rfl⟩
      have hli := F.called_set.init.lookup
      have hbi := F.called_set.init.bind (.ref S)
      repeat (any_goals (first | assumption | wp_step))
      refine codeAny_mono (codeAny_call_builtin (R := wants (fun r y => r = .none ∧ ∃ h' tk, y = { s with heap := h', toks := tk } ∧ J its.size h' ∧ ∀ b o, s.heap.get? b = some o → h'.get? b = some o) E) F.called_set.init.plain F.entry_set_init (check_set_init_1 hT ?_)) fun r y hr => ?_
      · obtain ⟨ol, hol, hcl, nl, hdl⟩ := hl
        obtain ⟨ocls, odict, odata, oslots⟩ := ol
        simp only at hcl hdl
        subst hcl
        subst hdl
        have hol' : (s.heap.push (fs w)).get? l = some { cls := .type "list", dict := odict, data := .seq its nl, slots := oslots } := Heap.get?_push_of_some _ hol
        have hl1 : (s.heap.push (fs w)).IsList l its := ⟨_, hol', rfl, nl, rfl⟩
        have hsls := F.sub_list_set
        have hslf := F.sub_list_frozenset
        have hne : (Value.type "list" == Value.type "dict") = false := by decide
        unfold Builtin.«set.__init__» noKeywords Builtin.Frozenset.updateFrom
        generalize hPI : pyIter = PI
        wp_walk
        subst hPI
        refine wpAny_pyIter_list hl1 (wpAny_bind (wpAny_runValue ?_))
        have lS : l < S := hS ▸ Heap.lt_size hol
        have z1 : (s.heap.push (fs w)).objs.size = S + 1 := by rw [Heap.size_push, hS]
        have none_of : ∀ b, S ≤ b → s.heap.get? b = none := fun b hb => by
          cases q : s.heap.get? b with
          | none => rfl
          | some o => exact absurd (Heap.lt_size q) (Nat.not_lt.mpr (hS.symm ▸ hb))
        have hh3 : A.in1.in1.in1.handled = none := by simp [hh]
        have push2 : ∀ b o, (s.heap.push (fs w)).get? b = some o → ((s.heap.push (fs w)).push { cls := .type "list_iterator", data := .fields #[.ref l, .int 0 0] }).get? b = some o := fun b o e => Heap.get?_push_of_some _ e
        refine set_loop (Walks.list hh3 (s.heap.push (fs w)).objs.size l (by rw [z1]; exact Nat.ne_of_lt (Nat.lt_succ_of_lt lS)) its).toS (S := S) (by rw [z1]; simp; exact fun e => Nat.lt_irrefl S (e.symm ▸ lS)) J s.heap (none_of S (Nat.le_refl _)) (fun b hb => none_of b (by rw [List.mem_singleton.mp hb, z1]; omega)) fr (fun i v z _ hv oz jz => step i v z hv oz jz)
          (its.size - 0) 0 _ rfl (Nat.zero_le _) ⟨⟨_, Heap.get?_push_size _ rfl, rfl, rfl⟩, hl1.push _⟩ (fun b o e => push2 b o (Heap.get?_push_of_some _ e)) (start _ (push2 S _ atS) fun b o e => push2 b o (Heap.get?_push_of_some _ e)) fun y m jy oy => ?_
        obtain ⟨h', g', d', tk', os'⟩ := y
        obtain rfl : g' = s.gens := m.gens
        obtain rfl : d' = s.drawn := m.drawn
        obtain rfl : os' = s.os := m.os
        show wpAny _ _ _ _ _ _
        refine wpAny_pure ?_
        show wpAny _ _ (ret .none) _ _ _
        exact wpAny_pure ⟨rfl, h', tk', rfl, jy, oy⟩
      · cases r with
        | error e => exact hr
        | ok fl =>
          cases fl with
          | ret r =>
            obtain ⟨rfl, h', tk, rfl, jy, oy⟩ := hr
            repeat (any_goals (first | assumption | wp_step))
            exact fin _ _ jy oy
          | _ => exact hr.elim
    | _ => exact hr.elim
end
end SH
/-! the layer's rules: set(xs) of tuples of keys, sorted of a set -/
namespace SH
open PySem PySem.Spec PyProof.Rows L2
open PySem.W (EachIs AllAlike Sortable dataLe)
/-! tuples of keys -/
abbrev TKK (P : Program) (w : World) : HeapKind P w (List Key) := tupleKind (mixKind P w)
section
variable {P : Program} {w : World} {A : Around} {E : Value → Shared → Prop} {s : Shared}
theorem items_keys {k : List Key} {vs : List Value} (h : ItemsAre (mixKind P w) k vs) : ∀ v ∈ vs, (∃ i t, v = Value.int i t) ∨ ∃ x t, v = Value.str x t := by
  induction h with
  | nil => exact fun v hv => nomatch hv
  | @cons k0 v' ks vs h1 _ ih =>
    intro v hv
    rcases List.mem_cons.mp hv with rfl | hv
    · rcases keyIs_shape h1 with ⟨i, t, _, e⟩ | ⟨x, t, _, e⟩
      · exact .inl ⟨i, t, e⟩
      · exact .inr ⟨x, t, e⟩
    · exact ih v hv
theorem cl_keys {k : List Key} {b : Addr} {Q : Bool → Shared → Prop} (hk : (TKK P w).is s.heap k b) (h : Q false s) : wpAny (model P w) A (ofAClassStatement 8 (.ref b)) Q E s := by
  have hT := IsTupleKey.typeIs hk
  obtain ⟨o, items, n, ho, _, hd, hi⟩ := hk
  unfold ofAClassStatement
  refine wpAny_bind (wpAny_typeOf hT ?_)
  dsimp only
  simp only [show (("tuple" : String) == "tuple") = true by decide, if_true, Bool.not_true, Bool.false_eq_true, if_false]
  try refine wpAny_bind (wpAny_pure ?_)
  try simp only [Bool.not_true, Bool.false_eq_true, if_false]
  show wpAny _ _ (seqItems? (.ref b) >>= _) _ _ s
  refine wpAny_bind (wpAny_seqItems ho hd ?_)
  dsimp only
  refine wpAny_bind ?_
  show wpAny _ _ (forIn items _ _) _ _ s
  rw [← Array.forIn_toList]
  refine wpAny_forIn_list _ (fun rest r z => z = s ∧ r.1 = none ∧ ∀ v ∈ rest, (∃ i t, v = Value.int i t) ∨ ∃ x t, v = Value.str x t) _ (fun v rest r z hz => ?_) (fun r z hz => ?_) _ _ ⟨rfl, rfl, items_keys hi⟩
  · obtain ⟨rfl, hr, al⟩ := hz
    have tl := fun u hu => al u (List.mem_cons_of_mem v hu)
    have e : ∀ n, ofAClassStatement n v = pure false := fun n => by
      rcases al v List.mem_cons_self with ⟨i, t, rfl⟩ | ⟨x, t, rfl⟩ <;> cases n <;> rfl
    rw [e]
    refine wpAny_bind (wpAny_pure ?_)
    rw [if_neg Bool.false_ne_true]
    exact wpAny_pure ⟨rfl, rfl, tl⟩
  · obtain ⟨r1, r2⟩ := r
    obtain ⟨rfl, hr, _⟩ := hz
    cases (show r1 = none from hr)
    exact wpAny_pure h
theorem hv_keys {k : List Key} {b : Addr} {Q : Bool → Shared → Prop} (hk : (TKK P w).is s.heap k b) (h : ∀ r, Q r s) : wpAny (model P w) A (hashByValue 8 (.ref b)) Q E s := by
  have hT := IsTupleKey.typeIs hk
  obtain ⟨o, items, n, ho, _, hd, hi⟩ := hk
  unfold hashByValue
  refine wpAny_bind (wpAny_specialOf hT F.slot_tuple_hash.lookup ?_)
  show wpAny _ _ (seqItems? (.ref b) >>= _) _ _ s
  refine wpAny_bind (wpAny_seqItems ho hd (wpAny_bind ?_))
  show wpAny _ _ (forIn items _ _) _ _ s
  rw [← Array.forIn_toList]
  refine wpAny_forIn_list _ (fun rest r z => z = s ∧ r.1 = none ∧ ∀ v ∈ rest, (∃ i t, v = Value.int i t) ∨ ∃ x t, v = Value.str x t) _ (fun v rest r z hz => ?_) (fun r z hz => ?_) _ _ ⟨rfl, rfl, items_keys hi⟩
  · obtain ⟨rfl, hr, al⟩ := hz
    have tl := fun u hu => al u (List.mem_cons_of_mem v hu)
    rcases al v List.mem_cons_self with ⟨i, t, rfl⟩ | ⟨x, t, rfl⟩
    · have e : ∀ n, hashByValue n (.int i t) = pure true := fun n => by cases n <;> rfl
      rw [e]
      refine wpAny_bind (wpAny_pure ?_)
      rw [Bool.not_true, if_neg Bool.false_ne_true]
      exact wpAny_pure ⟨rfl, rfl, tl⟩
    · have e : ∀ n, hashByValue n (.str x t) = pure false := fun n => by cases n <;> rfl
      rw [e]
      refine wpAny_bind (wpAny_pure ?_)
      rw [Bool.not_false, if_pos rfl]
      exact wpAny_pure (wpAny_pure (h false))
  · obtain ⟨r1, r2⟩ := r
    obtain ⟨rfl, hr, _⟩ := hz
    cases (show r1 = none from hr)
    exact wpAny_pure (h true)
theorem calm_keys : Calm (TKK P w) := ⟨tupleKind_stays, fun hk h => cl_keys hk h, fun hk h => hv_keys hk h⟩
end
/-! what the set has of the first i items -/
structure Has {κ : Type} (ks : List (Addr × κ)) (i : Nat) (L : List (Addr × κ)) : Prop where
  sub : ∀ p, p ∈ L → p ∈ ks.take i
  all : ∀ p, p ∈ ks.take i → p.2 ∈ L.map (·.2)
  len : L.length ≤ i
theorem Has.old {κ : Type} {ks L : List (Addr × κ)} {i : Nat} {x : Addr × κ} (g : Has ks i L) (h : ks[i]? = some x) (hm : x.2 ∈ L.map (·.2)) : Has ks (i + 1) L := by
  have e : ks.take (i + 1) = ks.take i ++ [x] := by rw [List.take_add_one, h]; rfl
  refine ⟨fun p hp => e ▸ List.mem_append_left _ (g.sub p hp), fun p hp => ?_, Nat.le_succ_of_le g.len⟩
  rw [e] at hp
  rcases List.mem_append.mp hp with z | z
  · exact g.all p z
  · exact List.mem_singleton.mp z ▸ hm
theorem Has.new {κ : Type} {ks L L' : List (Addr × κ)} {i : Nat} {x : Addr × κ} (g : Has ks i L) (h : ks[i]? = some x) (pm : L'.Perm (x :: L)) : Has ks (i + 1) L' := by
  have e : ks.take (i + 1) = ks.take i ++ [x] := by rw [List.take_add_one, h]; rfl
  refine ⟨fun p hp => ?_, fun p hp => ?_, ?_⟩
  · rw [e]
    rcases List.mem_cons.mp (pm.mem_iff.mp hp) with z | z
    · exact z ▸ List.mem_append_right _ List.mem_cons_self
    · exact List.mem_append_left _ (g.sub p z)
  · rw [(pm.map (·.2)).mem_iff, List.map_cons]
    rw [e] at hp
    rcases List.mem_append.mp hp with z | z
    · exact List.mem_cons_of_mem _ (g.all p z)
    · exact List.mem_singleton.mp z ▸ List.mem_cons_self
  · have := pm.length_eq
    have := g.len
    simp at *
    omega
/-! a set that can be walked: its members' values, in some order -/
def Walked (w : World) (h : Heap) (a : Addr) (xs : List V) : Prop := ∃ (es : Array (Int × Value)) (ep : Nat) (t : SetTable), SetAt h a es ep t ∧ t.fits es.size = true ∧ es.size < scanBound ∧ Ris t.place.toList ∧
  (w.params.followText "set-order" = true ∨ t.led = true) ∧ Vals xs (es.toList.map (·.2))
/-- the set at a of the tuples L -/
def SetP (P : Program) (w : World) (a : Addr) (L : List (Addr × List Key)) (h : Heap) : Prop := ∃ (es : Array (Int × Value)) (ep : Nat) (t : SetTable), (∃ o, h.get? a = some o ∧ o.ExactSet ∧ o.data = .set es ep t) ∧
  es.toList = (L.map fun p => ((TKK P w).hash p.2, Value.ref p.1)) ∧ TabM t (L.map fun p => (TKK P w).hash p.2) ∧ (L.map (·.2)).Nodup ∧ (w.params.followText "set-order" = true ∨ t.led = true) ∧ L.length * 5 < t.mask * 3
def SetT (P : Program) (w : World) (a : Addr) (L : List (Addr × List Key)) : HO := .ext (SetP P w a L)
theorem SetP.walked {P : Program} {w : World} {a : Addr} {L : List (Addr × List Key)} {h : Heap} (R : SetP P w a L h) : Walked w h a (L.map fun p => V.ref p.1) := by
  obtain ⟨es, ep, t, ⟨o, ho, hx, hd⟩, rows, T, _, ld, gap⟩ := R
  have z := rows_size rows
  have sm : L.length ≤ 306 := by rcases T.msk.cases with e | e | e | e <;> omega
  have sb : scanBound = 4096 := rfl
  refine ⟨es, ep, t, ⟨o, ho, hx.1, hd⟩, fits_of T (by rw [List.length_map, z]) (by omega), by omega, T.up, ld, ?_⟩
  rw [rows, List.map_map]
  have gen : ∀ M : List (Addr × List Key), Vals (M.map fun p => V.ref p.1) (M.map fun p => Value.ref p.1) := fun M => by
    induction M with
    | nil => exact .nil
    | cons p M ih => exact .cons rfl ih
  exact gen L
theorem setT_ok {P : Program} {w : World} {H : Hp} {h : Heap} {a : Addr} {L : List (Addr × List Key)} (R : SetP P w a L h) : ObjOk P w H h a (SetT P w a L) := by
  have ⟨es, ep, t, ⟨o, ho, r⟩, q⟩ := R
  refine ⟨R, ⟨o, ho⟩, fun h1 h2 p k => ?_⟩
  obtain ⟨es', ep', t', ⟨o', ho', r'⟩, q'⟩ := p
  exact ⟨es', ep', t', ⟨o', k o' ho', r'⟩, q'⟩
theorem items_vals {P : Program} {w : World} : ∀ {k : List Key} {us : List Value}, Vals (k.map kV) us → ItemsAre (mixKind P w) k us
  | [], _, .nil => .nil
  | n :: k, _, .cons r t => .cons (kV_is r) (items_vals t)
theorem refs_vals : ∀ {ks : List (Addr × List Key)} {us : List Value}, Vals (ks.map fun p => V.ref p.1) us → us = ks.map fun p => Value.ref p.1
  | [], _, .nil => rfl
  | p :: ks, _, .cons r t => by
    cases r
    rw [refs_vals t]
    rfl
section
variable {X : Cx}
theorem key_tup {pins : List (Addr × Obj)} {σ : L2.St} {H : Hp} {s : Shared} {b : Addr} {k : List Key} (I : Inv X pins σ H s) (h : SqT X.K H b (k.map kV)) : (TKK X.prog X.w).is s.heap k b := by
  obtain ⟨its, r, ⟨o, ho, hc, n, hd⟩, _⟩ := I.tuple h
  exact ⟨o, its.toArray, n, ho, hc, hd, items_vals r⟩
/-- set(xs), xs a list of tuples of keys -/
def rSetT (K : PySem.W.Frag) (P : Program) (w : World) : List V → Hp → VK → Prop := fun xs H Q => ∃ (l : Addr) (ks : List (Addr × List Key)), xs = [V.ref l] ∧ SqL K H l (ks.map fun p => V.ref p.1) ∧ (∀ p ∈ ks, SqT K H p.1 (p.2.map kV)) ∧ ks.length ≤ 300 ∧
  ∀ a L, H a = none → Has ks ks.length L → (L.map (·.2)).Nodup → Q (.ref a) (upd H a (SetT P w a L))
theorem cr_setT (hc : X.calm = true) (hu : X.A.units + 64 < cLine) : CallR X (.type "set") (rSetT X.K X.prog X.w) := by
  intro pins s σ H xs us Q I r h
  obtain ⟨l, ks, rfl, hl, hk, hf, q⟩ := h
  rw [Vals.ref1 r]
  obtain ⟨its, rv, pl, hz⟩ := I.list hl
  have hits : its = ks.map fun p => Value.ref p.1 := refs_vals rv
  have hn : H s.heap.objs.size = none := I.hok.fresh (Nat.le_refl _)
  have mem : ∀ p ∈ ks, (TKK X.prog X.w).is s.heap p.2 p.1 := fun p hp => key_tup I (hk p hp)
  have room : X.A.in1.in1.in1.units < cLine := by
    show X.A.units + 1 + 1 + 1 < cLine
    omega
  have none0 : s.heap.get? s.heap.objs.size = none := by
    cases e : s.heap.get? s.heap.objs.size with
    | none => rfl
    | some o => exact absurd (Heap.lt_size e) (Nat.lt_irrefl _)
  refine call_set_of (P := X.prog) (w := X.w) (I.ok.hd hc) pl.isList (fun i h => ∃ L es ep t, SetH (TKK X.prog X.w) h s.heap.objs.size L es ep t ∧ Has ks i L) (fun i h h' ⟨L, es, ep, t, R, g⟩ k1 k2 => ?_) (fun h e _ => ?_) (fun i v z hv old ⟨L, es, ep, t, R, g⟩ E' => ?_) fun h' tk ⟨L, es, ep, t, R, g⟩ old => ?_
  · obtain ⟨o, ho, rr⟩ := R.ob
    exact ⟨L, es, ep, t, ⟨⟨o, k1 o ho, rr⟩, R.rows, R.tab, R.nd, fun p hp => calm_keys.st.stays (fun b o vs n hb _ => k2 b o hb) (mem p (List.mem_of_mem_take (g.sub p hp))), R.ld, R.gap⟩, g⟩
  · refine ⟨[], #[], 0, _, ⟨⟨_, e, ⟨rfl, rfl, rfl⟩, rfl⟩, rfl, ⟨List.Pairwise.nil, rfl, rfl, .inl (.inl rfl), fun x hx => (by cases hx), fun i h j hi => (by simp at hi)⟩, List.nodup_nil, fun p hp => (by cases hp), ?_, by show 0 * 5 < 7 * 3; decide⟩, ⟨fun p h => (by cases h), fun p h => (by simp at h), Nat.le_refl _⟩⟩
    show _ ∨ (!X.w.params.followText "set-order") = true
    cases X.w.params.followText "set-order"
    · exact .inr rfl
    · exact .inl rfl
  · have hv2 : (ks.map fun p => Value.ref p.1)[i]? = some v := by
      rw [← hits, ← hv]
      simp
    rw [List.getElem?_map] at hv2
    cases hp : ks[i]? with
    | none =>
      rw [hp] at hv2
      cases hv2
    | some p =>
      rw [hp] at hv2
      cases hv2
      have hx : (TKK X.prog X.w).is z.heap p.2 p.1 := calm_keys.st.stays (fun b o vs n hb _ => old b o hb) (mem p (List.mem_of_getElem? hp))
      have il := (List.getElem?_eq_some_iff.mp hp).1
      unfold setAdd
      refine wpAny_holding (wpAny_bind ((TKK X.prog X.w).pyHash room hx ?_))
      refine add (s := { z with toks := z.toks + (TKK X.prog X.w).draws p.2 }) calm_keys R hx room (by have := g.len; omega) fun b h' L' es' ep' t' sb R' c1 c2 => ⟨h', _, Nat.le_add_right _ _, rfl, sb, L', es', ep', t', R', ?_⟩
      by_cases c : p.2 ∈ L.map (·.2)
      · rw [c1 c]
        exact g.old hp c
      · exact g.new hp (c2 c)
  · have e : its.toArray.size = ks.length := by
      rw [hits]
      simp
    rw [e] at g
    exact ⟨.ref s.heap.objs.size, upd H s.heap.objs.size (SetT X.prog X.w s.heap.objs.size L), I.laid (t' := tk) old (Nat.le_refl _) (setT_ok ⟨es, ep, t, R.ob, R.rows, R.tab, R.nd, R.ld, R.gap⟩), rfl, q _ L hn g R.nd⟩
/-! sorted(a set) -/
theorem each_perm {α β : Type} {R : α → β → Prop} {us vs : List α} (p : us.Perm vs) : ∀ {bs : List β}, EachIs R us bs → ∃ cs : List β, cs.Perm bs ∧ EachIs R vs cs := by
  induction p with
  | nil => exact fun {bs} h => ⟨bs, .refl _, h⟩
  | cons x _ ih =>
    intro bs h
    cases h with
    | cons h t =>
      obtain ⟨cs, c, e⟩ := ih t
      exact ⟨_ :: cs, c.cons _, .cons h e⟩
  | swap x y l =>
    intro bs h
    cases h with
    | cons h t =>
      cases t with
      | cons h2 t => exact ⟨_ :: _ :: _, .swap _ _ _, .cons h2 (.cons h t)⟩
  | trans _ _ ih1 ih2 =>
    intro bs h
    obtain ⟨cs, c, e⟩ := ih1 h
    obtain ⟨ds, d, f⟩ := ih2 e
    exact ⟨ds, d.trans c, f⟩
theorem each_of_vals : ∀ {bs : List (V × PyData)} {us : List Value}, Vals (bs.map Prod.fst) us → EachIs (fun (v : Value) (b : V × PyData) => RelV b.1 v) us bs
  | [], _, r => by cases r; exact .nil
  | b :: bs, _, r => by
    cases r with
    | cons r1 r2 => exact .cons r1 (each_of_vals r2)
theorem vals_of_each : ∀ {bs : List (V × PyData)} {us : List Value}, EachIs (fun (v : Value) (b : V × PyData) => RelV b.1 v) us bs → Vals (bs.map Prod.fst) us
  | [], _, r => by cases r; exact .nil
  | b :: bs, _, r => by
    cases r with
    | cons r1 r2 => exact .cons r1 (vals_of_each r2)
theorem each_and {α β : Type} {R S : α → β → Prop} : ∀ {as : List α} {bs : List β}, EachIs R as bs → (∀ a b, b ∈ bs → R a b → S a b) → EachIs S as bs
  | _, _, .nil, _ => .nil
  | _, _, .cons h t, k => .cons (k _ _ List.mem_cons_self h) (each_and t fun a b hb => k a b (List.mem_cons_of_mem _ hb))
def rSortSet (K : PySem.W.Frag) (w : World) : List V → Hp → VK → Prop := fun vs H Q => ∃ (a : Addr) (bs : List (V × PyData)) (U : Heap → Prop), vs = [V.ref a] ∧ H a = some (.ext U) ∧ (∀ h, U h → Walked w h a (bs.map Prod.fst)) ∧ (∀ b ∈ bs, Dp K H b.1 b.2) ∧
  AllAlike (bs.map Prod.snd) ∧ Sortable (bs.map Prod.snd) ∧ (∀ b ∈ bs, b.2.depth ≤ 10) ∧
  ∀ (cs : List (V × PyData)) (p : Addr), cs.Perm bs → cs.Pairwise (fun x y => dataLe false Prod.snd x y = true) → H p = none → Q (.ref p) (upd H p (.lst (cs.map Prod.fst)))
theorem cr_sortSet (hc : X.calm = true) (hu : X.A.units + 64 < cLine) : CallR X (.builtin "sorted") (rSortSet X.K X.w) := by
  intro pins s σ H vs us Q I r h
  obtain ⟨a, bs, U, rfl, ha, hw, hd, hal, hso, hdp, q⟩ := h
  rw [Vals.ref1 r]
  obtain ⟨es, ep, t, hat, hf, hsz, ris, ld, rv⟩ := hw _ (I.hok a _ ha).1
  have line : sizeLine = 16777216 := rfl
  have sbd : scanBound = 4096 := rfl
  refine Calls.call_function_entry kind_sorted plain_sorted entry_sorted (args_sorted1 _) ?_
  unfold Builtin.«sorted»
  refine wpAny_bind (m := checkCount "sorted" 1 1 _) (wpAny_pure ?_)
  refine wpAny_bind (collect_set (A := X.A.in1) (I.ok.hd hc) hat hf hsz ris ld fun s1 vs k1 hz g1 o1 pm => ?_)
  obtain ⟨cs, pc, ec⟩ := each_perm pm.symm (each_of_vals rv)
  have hl : vs.length = bs.length := ec.length.trans pc.length_eq
  have lb : bs.length = es.size := by
    have h1 := (each_of_vals rv).length
    simp at h1
    exact h1.symm
  refine wpAny_bind (wpAny_newList ?_ (by omega))
  have hoL : (s1.heap.push (seqObj "list" vs.toArray 0)).get? s1.heap.objs.size = some (seqObj "list" vs.toArray 0) := Heap.get?_push_size _ rfl
  show wpAny _ _ _ _ _ { s1 with heap := s1.heap.push (seqObj "list" vs.toArray 0) }
  have er : EachIs (fun (v : Value) (b : V × PyData) => ∃ as, Reads (s1.heap.push (seqObj "list" vs.toArray 0)) v b.2 as ∧ s1.heap.objs.size ∉ as) vs cs := each_and ec fun v b hb rb => by
    obtain ⟨as, hr⟩ := Dp.reads I b.2 b.1 v (hd b (pc.mem_iff.mp hb)) rb
    have hr1 : Reads s1.heap v b.2 as := Reads.keeps k1 hr
    refine ⟨as, Reads.keeps (fun b o e => Heap.get?_push_of_some _ e) hr1, fun hm => ?_⟩
    obtain ⟨o, ho⟩ := PyProof.On.reads_mem_get hr1 _ hm
    exact absurd (Heap.lt_size ho) (Nat.lt_irrefl _)
  have pd := pc.map Prod.snd
  have hal' : AllAlike (cs.map Prod.snd) := fun d h1 d' h2 => hal d (pd.mem_iff.mp h1) d' (pd.mem_iff.mp h2)
  have hso' : Sortable (cs.map Prod.snd) := by
    rcases hso with z | z
    · exact .inl fun d h1 => z d (pd.mem_iff.mp h1)
    · exact .inr fun d h1 => z d (pd.mem_iff.mp h1)
  refine wpAny_bind (wpAny_holding (PySem.W.list_sort_data (enc := Prod.snd) (s := { s1 with heap := s1.heap.push (seqObj "list" vs.toArray 0) }) hoL ec er hal' hso' (by have := pc.length_eq; omega) ?k4 fun out ho eo => ?_))
  case k4 =>
    intro b hb
    have h1 := hdp b (pc.mem_iff.mp hb)
    have h2 : X.A.in1.units = X.A.units + 1 := rfl
    omega
  obtain ⟨c, hcat⟩ := sortedHeap_at (vs := vs) (out := out.toArray) hoL
  have pw : (cs.mergeSort (dataLe false Prod.snd)).Pairwise (fun x y => dataLe false Prod.snd x y = true) := PySem.W.sort_pairwise (by unfold dataLe; exact PySem.W.sortLe_total _ _ _) cs
  have pm2 : (cs.mergeSort (dataLe false Prod.snd)).Perm bs := (List.mergeSort_perm cs _).trans pc
  generalize cs.mergeSort (dataLe false Prod.snd) = ds at eo pw pm2
  have ev := vals_of_each eo
  have hn : H s1.heap.objs.size = none := I.hok.fresh hz
  have hlen : (ds.map Prod.fst).length ≤ sizeLine := by
    rw [List.length_map, pm2.length_eq]
    omega
  have J : Inv X pins σ (upd H s1.heap.objs.size (.lst (ds.map Prod.fst))) { s with heap := sortedHeap (s1.heap.push (seqObj "list" vs.toArray 0)) s1.heap.objs.size vs out.toArray, gens := s1.gens, drawn := s1.drawn, toks := s1.toks } := by
    have old : ∀ b u, s.heap.get? b = some u → (sortedHeap (s1.heap.push (seqObj "list" vs.toArray 0)) s1.heap.objs.size vs out.toArray).get? b = some u := fun b u e => by
      have q2 := k1 b u e
      have hlt := Heap.lt_size q2
      rw [sortedHeap_old (Nat.ne_of_lt hlt) (by rw [size_push']; exact Nat.lt_succ_of_lt hlt)]
      exact Heap.get?_push_of_some _ q2
    exact I.call (ch := []) (Un.laid old hz hn) (I.hok.laid old hz ⟨hlen, out, c, ev, hcat⟩) (by rw [g1]; exact I.bare) (fun _ z => nomatch z)
  refine wpAny_pure ⟨_, rfl, ?_⟩
  have e : ({ s1 with heap := sortedHeap (s1.heap.push (seqObj "list" vs.toArray 0)) s1.heap.objs.size vs out.toArray } : Shared) = { s with heap := sortedHeap (s1.heap.push (seqObj "list" vs.toArray 0)) s1.heap.objs.size vs out.toArray, gens := s1.gens, drawn := s1.drawn, toks := s1.toks } := by
    cases s1
    cases s
    cases o1
    rfl
  rw [e]
  exact ⟨.ref s1.heap.objs.size, _, J, rfl, q ds _ pm2 pw hn⟩
end
end SH
/-! set(xs) of texts and ints: what it holds can be walked -/
namespace SH
open PySem PySem.Spec PyProof.Rows L2
open PySem.W (EachIs)
/-- the set at a of the keys L -/
def SetQ (P : Program) (w : World) (h : Heap) (a : Addr) (L : List Key) : Prop := ∃ (es : Array (Int × Value)) (ep : Nat) (t : SetTable), (∃ o, h.get? a = some o ∧ o.ExactSet ∧ o.data = .set es ep t) ∧ ElemsOf (mixKind P w) es.toList ∧
  EachIs (fun (e : Int × Value) (k : Key) => (mixKind P w).is k e.2 = true) es.toList L ∧ L.Nodup ∧ es.size < scanBound ∧ t.fits es.size = true ∧ Ris t.place.toList ∧ (w.params.followText "set-order" = true ∨ t.led = true)
theorem each_find {α β : Type} {R : α → β → Prop} : ∀ {as : List α} {bs : List β}, EachIs R as bs → ∀ a ∈ as, ∃ b ∈ bs, R a b
  | _, _, .nil, _, h => by cases h
  | _, _, .cons r t, a, h => by
    rcases List.mem_cons.mp h with rfl | h
    · exact ⟨_, List.mem_cons_self, r⟩
    · obtain ⟨b, hb, q⟩ := each_find t a h
      exact ⟨b, List.mem_cons_of_mem _ hb, q⟩
theorem each_back {α β : Type} {R : α → β → Prop} : ∀ {as : List α} {bs : List β}, EachIs R as bs → ∀ b ∈ bs, ∃ a ∈ as, R a b
  | _, _, .nil, _, h => by cases h
  | _, _, .cons r t, b, h => by
    rcases List.mem_cons.mp h with rfl | h
    · exact ⟨_, List.mem_cons_self, r⟩
    · obtain ⟨a, ha, q⟩ := each_back t b h
      exact ⟨a, List.mem_cons_of_mem _ ha, q⟩
section
variable {P : Program} {w : World} {A : Around} {E : Value → Shared → Prop} {s : Shared} {a : Addr} {L : List Key}
theorem key_scannable {k : Key} {v : Value} (h : (mixKind P w).is k v = true) : v.scannable = true := by
  rcases keyIs_shape h with ⟨i, t, _, rfl⟩ | ⟨x, t, _, rfl⟩ <;> rfl
/-- the last rows of adding by scan -/
theorem add_tail {g : Bool → Sem Unit} (hg : ∀ (b : Bool) (z : Shared) (Q' : Unit → Shared → Prop), Q' () z → wpAny (model P w) A (g b) Q' E z) {o : Obj} {es es1 : Array (Int × Value)} {ep : Nat} {t t2 : SetTable}
    (ho : s.heap.get? a = some o) (hex : o.ExactSet) (hd : o.data = .set es ep t) (el : ElemsOf (mixKind P w) es1.toList) (ei : EachIs (fun (e : Int × Value) (k : Key) => (mixKind P w).is k e.2 = true) es1.toList L) (nd : L.Nodup)
    (hb : es1.size < scanBound) (hf : t2.fits es1.size = true) (ris : Ris t2.place.toList) (ld : w.params.followText "set-order" = true ∨ t2.led = true) {dm : Bool} {R : Option Bool → Shared → Prop}
    (hR : ∀ h' L', Heap.SameBut a s.heap h' → SetQ P w h' a L' → L'.Perm L → R (some true) { s with heap := h' }) :
    wpAny (model P w) A (storeSet a es1 t2 >>= fun _ => if (!dm && t2.tooFull) = true then (g (relayAll t2 es1 (SetTable.grown es1.size)).2.2 >>= fun _ => storeSet a (relayAll t2 es1 (SetTable.grown es1.size)).1 (relayAll t2 es1 (SetTable.grown es1.size)).2.1 >>= fun _ => pure (some true)) else pure (some true)) R E s := by
  refine wpAny_bind (wpAny_storeSet_of ho hd ?_ (fits_of_scanBound hb))
  have ho1 := store_at (es' := es1) (t' := t2) ho hd
  have sb1 := Heap.SameBut.update s.heap a (Obj.putSet es1 t2)
  by_cases c : (!dm && t2.tooFull) = true
  · refine wp_if_pos c ?_
    have pm := relayAll_perm t2 es1 (SetTable.grown es1.size)
    have f3 := relayAll_fits t2 es1 (SetTable.grown es1.size)
    have r3 := relayAll_ris t2 es1 (SetTable.grown es1.size)
    have l3 := relayAll_led t2 es1 (SetTable.grown es1.size)
    generalize relayAll t2 es1 (SetTable.grown es1.size) = Z at pm f3 r3 l3 ⊢
    obtain ⟨es2, t3, gave⟩ := Z
    dsimp only at pm f3 r3 l3 ⊢
    have z2 : es2.size = es1.size := by rw [← Array.length_toList, pm.length_eq, Array.length_toList]
    obtain ⟨L2, p2, e2⟩ := each_perm pm.symm ei
    refine wpAny_bind (hg _ _ _ (wpAny_bind (wpAny_storeSet_of ho1 rfl (wpAny_pure (hR _ L2 (sb1.trans (Heap.SameBut.update _ a _)) ⟨es2, _, t3, ⟨_, store_at ho1 rfl, hex, rfl⟩, fun e he => el e (pm.mem_iff.mp he), e2, p2.nodup_iff.mpr nd, z2 ▸ hb, f3, r3, ld.imp id fun z => l3 ▸ z⟩ p2)) (fits_of_scanBound (z2 ▸ hb)))))
  · exact wp_if_neg c (wpAny_pure (hR _ L sb1 ⟨es1, _, t2, ⟨_, ho1, hex, rfl⟩, el, ei, nd, hb, hf, ris, ld⟩ (.refl _)))
theorem addQ (R : SetQ P w s.heap a L) {k : Key} {v : Value} (hk : (mixKind P w).is k v = true) (few : L.length + 1 < scanBound) {Q : Bool → Shared → Prop}
    (hQ : ∀ b h' L', Heap.SameBut a s.heap h' → SetQ P w h' a L' → (k ∈ L → L' = L) → (k ∉ L → L'.Perm (k :: L)) → Q b { s with heap := h' }) :
    wpAny (model P w) A (setAddHashed a v ((mixKind P w).hash k)) Q E s := by
  obtain ⟨es, ep, t, ⟨o, ho, hex, hd⟩, el, ei, nd, hb, hf, ris, ld⟩ := id R
  have sc := key_scannable hk
  have zL : es.size = L.length := by rw [← Array.length_toList]; exact ei.length
  unfold setAddHashed setAddHashedIn
  refine wpAny_holding (wpAny_bind (wpAny_setState_of ho hd hf ?_))
  dsimp only
  rw [byScan_of sc hb el, if_pos rfl]
  unfold setAddByScan
  refine wpAny_bind (wpAny_bind (wpAny_rule (wpAny_bind (wpAny_setScan_of hk ho hd hf el ?_))))
  cases hfi : List.findIdx? (fun e => (mixKind P w).is k e.2) es.toList with
  | some j =>
    dsimp only
    obtain ⟨hj, pj, _⟩ := List.findIdx?_eq_some_iff_getElem.mp hfi
    obtain ⟨k', hk', e'⟩ := each_find ei _ (List.getElem_mem hj)
    have ek : k' = k := (mixKind P w).inj _ _ _ e' pj
    exact wpAny_pure (wpAny_pure (hQ false s.heap L (Heap.SameBut.refl a s.heap) R (fun _ => rfl) fun z => absurd (ek ▸ hk') z))
  | none =>
    dsimp only
    have nk : k ∉ L := fun z => by
      obtain ⟨e, he, q⟩ := each_back ei k z
      have c := List.findIdx?_eq_none_iff.mp hfi e he
      rw [q] at c
      cases c
    have gw : ∀ (b : Bool) {z : Shared} {Q' : Unit → Shared → Prop}, Q' () z → wpAny (model P w) A (match b with | true => rule "set.scan.the-table-gave-way" | false => pure ()) Q' E z :=
      fun b z Q' q => by cases b <;> first | exact wpAny_pure q | exact wpAny_rule q
    have pm := layNew_perm t es ((mixKind P w).hash k) v
    have f1 := layNew_fits t es ((mixKind P w).hash k) v
    have r1 := layNew_ris t es ((mixKind P w).hash k) v ris
    have l1 := layNew_led t es ((mixKind P w).hash k) v
    generalize layNew t es ((mixKind P w).hash k) v = Z at pm f1 r1 l1 ⊢
    obtain ⟨es1, t1, dm, gave⟩ := Z
    dsimp only at pm f1 r1 l1 ⊢
    rw [Array.toList_push] at pm
    have pc : es1.toList.Perm (((mixKind P w).hash k, v) :: es.toList) := pm.trans (List.perm_append_singleton _ _)
    obtain ⟨L1, p1, e1⟩ := each_perm pc.symm (EachIs.cons (R := fun (e : Int × Value) (k : Key) => (mixKind P w).is k e.2 = true) (a := ((mixKind P w).hash k, v)) (b := k) hk ei)
    have el1 : ElemsOf (mixKind P w) es1.toList := fun e he => by
      rcases List.mem_cons.mp (pc.mem_iff.mp he) with z | z
      · exact z ▸ ⟨⟨k, hk, rfl⟩, sc⟩
      · exact el e z
    have nd1 : L1.Nodup := p1.nodup_iff.mpr (List.nodup_cons.mpr ⟨nk, nd⟩)
    have z1 : es1.size = L.length + 1 := by rw [← Array.length_toList, pc.length_eq, List.length_cons, Array.length_toList, zL]
    have ld1 : w.params.followText "set-order" = true ∨ t1.led = true := ld.imp id fun z => l1 ▸ z
    have fin : ∀ h' L', Heap.SameBut a s.heap h' → SetQ P w h' a L' → L'.Perm L1 → Q true { s with heap := h' } := fun h' L' sb r p => hQ true h' L' sb r (fun z => absurd z nk) fun _ => p.trans p1
    refine wpAny_bind (gw _ ?_)
    have hb1 : es1.size < scanBound := by rw [z1]; exact few
    split
    · refine wpAny_bind ?_
      rw [hashByValue_scannable 8 sc]
      refine wpAny_pure ?_
      refine add_tail (L := L1) (fun b z Q' q => by cases b <;> first | exact wpAny_pure q | exact wpAny_rule q) ho hex hd el1 e1 nd1 hb1 ?_ ?_ ?_ fun h' L' sb r p => ?_
      · first | (split <;> first | exact f1 | exact SetTable.fits_plain_off f1) | exact f1
      · first | (split <;> exact r1) | exact r1
      · first | (split <;> exact ld1) | exact ld1
      · exact wpAny_pure (fin h' L' sb r p)
    · refine wpAny_bind (wpAny_pure ?_)
      rw [if_pos rfl]
      exact add_tail (L := L1) (fun b z Q' q => by cases b <;> first | exact wpAny_pure q | exact wpAny_rule q) ho hex hd el1 e1 nd1 hb1 f1 r1 ld1 fun h' L' sb r p => wpAny_pure (fin h' L' sb r p)
end
def SetK2 (P : Program) (w : World) (a : Addr) (L : List Key) : HO := .ext fun h => SetQ P w h a L
theorem SetQ.kept {P : Program} {w : World} {h h' : Heap} {a : Addr} {L : List Key} (R : SetQ P w h a L) (k : ∀ o, h.get? a = some o → h'.get? a = some o) : SetQ P w h' a L := by
  obtain ⟨es, ep, t, ⟨o, ho, r⟩, q⟩ := R
  exact ⟨es, ep, t, ⟨o, k o ho, r⟩, q⟩
theorem setK2_ok {P : Program} {w : World} {H : Hp} {h : Heap} {a : Addr} {L : List Key} (R : SetQ P w h a L) : ObjOk P w H h a (SetK2 P w a L) := by
  have ⟨_, _, _, ⟨o, ho, _⟩, _⟩ := R
  exact ⟨R, ⟨o, ho⟩, fun h1 h2 p k => SetQ.kept p k⟩
theorem SetQ.walked {P : Program} {w : World} {a : Addr} {L : List Key} {h : Heap} (R : SetQ P w h a L) : Walked w h a (L.map kV) := by
  obtain ⟨es, ep, t, ⟨o, ho, hx, hd⟩, _, ei, _, hb, hf, ris, ld⟩ := R
  refine ⟨es, ep, t, ⟨o, ho, hx.1, hd⟩, hf, hb, ris, ld, ?_⟩
  have gen : ∀ {l : List (Int × Value)} {L : List Key}, EachIs (fun (e : Int × Value) (k : Key) => (mixKind P w).is k e.2 = true) l L → Vals (L.map kV) (l.map (·.2)) := fun h => by
    induction h with
    | nil => exact .nil
    | cons r t ih =>
      refine .cons ?_ ih
      rcases keyIs_shape r with ⟨i, t, rfl, e⟩ | ⟨x, t, rfl, e⟩
      · exact ⟨t, e⟩
      · exact ⟨t, e⟩
  exact gen ei
section
variable {X : Cx}
/-- set(xs), xs a list of texts or ints -/
def rSetQ (K : PySem.W.Frag) (P : Program) (w : World) : List V → Hp → VK → Prop := fun xs H Q => ∃ (l : Addr) (ks : List Key), xs = [V.ref l] ∧ SqL K H l (ks.map kV) ∧ ks.length ≤ 4000 ∧ ∀ a L, H a = none → L.Nodup → (∀ k, k ∈ L ↔ k ∈ ks) → L.length ≤ ks.length → Q (.ref a) (upd H a (SetK2 P w a L))
theorem cr_setQ (hc : X.calm = true) : CallR X (.type "set") (rSetQ X.K X.prog X.w) := by
  intro pins s σ H xs us Q I r h
  obtain ⟨l, ks, rfl, hl, hf, q⟩ := h
  rw [Vals.ref1 r]
  obtain ⟨its, rv, pl, hz⟩ := I.list hl
  have hn : H s.heap.objs.size = none := I.hok.fresh (Nat.le_refl _)
  have sbd : scanBound = 4096 := rfl
  refine call_set_of (P := X.prog) (w := X.w) (I.ok.hd hc) pl.isList (fun i h => ∃ L, SetQ X.prog X.w h s.heap.objs.size L ∧ L.Nodup ∧ (∀ k, k ∈ L ↔ k ∈ ks.take i) ∧ L.length ≤ i) (fun i h h' ⟨L, R, g⟩ k1 k2 => ⟨L, R.kept k1, g⟩) (fun h e _ => ?_) (fun i v z hv old ⟨L, R, g1, g2, g3⟩ E' => ?_) fun h' tk ⟨L, R, g1, g2, g3⟩ old => ?_
  · refine ⟨[], ⟨#[], 0, _, ⟨_, e, ⟨rfl, rfl, rfl⟩, rfl⟩, fun e he => (by simp at he), .nil, List.nodup_nil, by decide, by rfl, List.Pairwise.nil, ?_⟩, List.nodup_nil, fun k => by simp, Nat.le_refl _⟩
    show _ ∨ (!X.w.params.followText "set-order") = true
    cases X.w.params.followText "set-order"
    · exact .inr rfl
    · exact .inl rfl
  · have hv2 : its[i]? = some v := by simpa using hv
    have hil : i < ks.length := by
      have h1 := rv.length
      rw [List.length_map] at h1
      rw [h1]
      exact (List.getElem?_eq_some_iff.mp hv2).1
    obtain ⟨k, hk⟩ : ∃ k, ks[i]? = some k := ⟨_, List.getElem?_eq_getElem hil⟩
    obtain ⟨u, hu, ru⟩ := rv.get (i := i) (x := kV k) (by rw [List.getElem?_map, hk]; rfl)
    rw [hv2] at hu
    cases hu
    have ek : ks.take (i + 1) = ks.take i ++ [k] := by rw [List.take_add_one, hk]; rfl
    unfold setAdd
    refine wpAny_holding (wpAny_bind ((mixKind X.prog X.w).pyHash (kV_is ru) ?_))
    refine addQ (s := { z with toks := z.toks + 1 }) R (kV_is ru) (by have := (show ks.length ≤ 4000 from hf); omega) fun b h' L' sb R' c1 c2 => ⟨h', _, Nat.le_add_right _ _, rfl, sb, L', R', ?_⟩
    by_cases c : k ∈ L
    · rw [c1 c]
      refine ⟨g1, fun j => ?_, Nat.le_succ_of_le g3⟩
      rw [ek, List.mem_append, List.mem_singleton, g2]
      exact ⟨.inl, fun z => z.elim id fun e => e ▸ (g2 k).mp c⟩
    · have pm := c2 c
      refine ⟨pm.nodup_iff.mpr (List.nodup_cons.mpr ⟨c, g1⟩), fun j => ?_, by have := pm.length_eq; rw [List.length_cons] at this; omega⟩
      rw [pm.mem_iff, List.mem_cons, ek, List.mem_append, List.mem_singleton, g2]
      exact Or.comm
  · have e : its.toArray.size = ks.length := by
      have h1 := rv.length
      rw [List.length_map] at h1
      simp [h1]
    rw [e, List.take_length] at g2
    rw [e] at g3
    exact ⟨.ref s.heap.objs.size, upd H s.heap.objs.size (SetK2 X.prog X.w s.heap.objs.size L), I.laid (t' := tk) old (Nat.le_refl _) (setK2_ok R), rfl, q _ L hn g1 g2 g3⟩
end
end SH
namespace KL
open PySem PySem.Spec PyProof.Rows L2 LamX NdefX
open PySem.W (EachIs AllAlike Sortable dataLe KeyPure KeepsBut keyH_tree keyH_turns bound_map keyedOut_each)
/-! ### a def whose code object is known -/
structure FunC (K : PySem.W.Frag) (x qual : Str) (st : Stmt) (c : Addr) (f : Addr) (fd : FuncData) : Prop where
  ex : ∃ (oc : Value) (od : Option Addr) (kV doc pm : Value) (an : Option Addr) (ct : Value) (osl : Array (Option Value)),
    fd = PySem.W.fnOf x qual (defArgs st) (defBody st) (defScope st) .none kV doc pm an (.ref c) ct ∧ K.lookup f = some ⟨oc, od, .func fd, osl⟩ ∧ PySem.W.codeIn K (.ref c) qual = true
section
variable {P : Program} {w : World} {K : PySem.W.Frag} {mg : Str → Option Value} {base : Heap}
theorem FunC.ok {x qual : Str} {st : Stmt} {c f : Addr} {fd : FuncData} {N ps : List Str} {k : Nat} {sp : Sp} (F : FunC K x qual st c f fd) (S : FnScope N ps (defScope st)) (len : ∀ vs H Q E, sp vs H Q E → vs.length = ps.length)
    (hbody : ∀ (A : Around) (outer : List Env) (s : Shared) (H : Hp) (vs : List V) (Q : VK) (E : XK), Room k (A.deeper (envOfC qual (defScope st) s.heap.objs.size f (.ref c))) → sp vs H Q E →
      ∃ t, PSs (cxOf L2.CX0 P w K mg base N qual (defScope st) f (.ref c) A outer s H E).nox (defBody st) t ∧ t { nx := fun _ H' => Q .non H', rt := Q } (L2.start N vs) H) : FnOk P w K mg base L2.CX0 (k + 1) f fd ps sp := by
  obtain ⟨oc, od, kV, doc, pm, an, ct, osl, rfl, lk, hcd⟩ := F.ex
  refine fn_of lk hcd S len fun A outer s H vs Q E hr hsp => ?_
  obtain ⟨t, h, q⟩ := hbody A outer s H vs Q E hr hsp
  exact ⟨t, h.nox, q⟩
end
/-! ### a key read off its one parameter -/
abbrev lamF (q : Str) (params : Arguments) (scope : Scope) (c' : Addr) : NF := ⟨"<lambda>", q, params, [], scope, [], c'⟩
/-- body, evaluated where the parameter is x, keeps all that was there and gives the data d -/
def KeyBody (K : PySem.W.Frag) (N : List Str) (params : Arguments) (scope : Scope) (body : Expr) (kd : V → Hp → PyData → Prop) : Prop :=
  ∀ (P : Program) (w : World) (mg : Str → Option Value) (base : Heap) (q : Str) (c' f : Addr) (A : Around) (outer : List Env) (s s1 : Shared) (H : Hp) (E : XK) (x : V) (d : PyData) (EE : Value → Shared → Prop),
    Inv (ncx L2.CX0 P w K mg base N (lamF q params scope c') f A outer s H E) [] (startF N [x] []) H s1 → kd x H d →
    wpAny (model P w) (A.deeper (envF (lamF q params scope c') f s.heap.objs.size)) (eval body (envF (lamF q params scope c') f s.heap.objs.size)) (KeyPure d s1) EE s1
inductive EncV : V → PyData → Prop
  | int (i : Int) : EncV (.int i) (.int i)
  | str (z : Str) : EncV (.str z) (.str z)
theorem EncV.reads {v : V} {d : PyData} {u : Value} {h : Heap} (e : EncV v d) (r : RelV v u) : Reads h u d [] := by
  cases e with
  | int i =>
    obtain ⟨t, rfl⟩ := r
    exact .int i t
  | str z =>
    obtain ⟨t, rfl⟩ := r
    exact .str z t
def kdFld (K : PySem.W.Frag) (fld : Str) : V → Hp → PyData → Prop := fun x H d => ∃ a C dx fs v, x = .ref a ∧ H a = some (.ins C dx fs) ∧ Cls K C ∧ NoAttr K C fld ∧ fs.lookup fld = some v ∧ EncV v d
theorem key_fld {K : PySem.W.Frag} {a fld : Str} {N : List Str} {params : Arguments} {scope : Scope} {p1 p2 : Pos} (hN : N[0]? = some a) (hv : Vis scope a)
    (hb : ∀ (q : Str) (c' f L : Addr), attributeBase (.Name a p1) fld (envF (lamF q params scope c') f L) (eval (.Name a p1) (envF (lamF q params scope c') f L)) = eval (.Name a p1) (envF (lamF q params scope c') f L))
    (hd : (a == ("__debug__" : Str)) = false := by decide) (hcd : (a == ("__classdict__" : Str)) = false := by decide) : KeyBody K N params scope (.Attribute (.Name a p1) fld p2) (kdFld K fld) := by
  intro P w mg base q c' f A outer s s1 H E x d EE I ⟨b, C, dx, fs, v, ex, eb, c, n, l, en⟩
  subst ex
  obtain ⟨m, hn, hl⟩ := I.loc
  obtain ⟨u, r, l2⟩ := hl 0 a (.ref b) hN (by rfl) hv
  obtain rfl : u = Value.ref b := r
  obtain ⟨mA, O, rr, _, _, _⟩ := ins_get I.hok eb
  obtain ⟨u, hu, ru⟩ := RelO.some_of (v := v) (o := mA fld) (by rw [← l]; exact rr fld)
  have fin : wpAny (model P w) (A.deeper (envF (lamF q params scope c') f s.heap.objs.size)) (getAttr (.ref b) fld true) (KeyPure d s1) EE s1 :=
    get_map I.kIn O (c.get fld) c.hd n hu (handed_of ru) ⟨s1.heap, s1.toks + 1, rfl, fun _ _ e => e, en.reads ru⟩
  refine attr_of (hb q c' f s.heap.objs.size) ?_
  rcases l2 with ⟨hk, hm⟩ | ⟨hk, c2, hc, hcell⟩
  · exact wpAny_Name (wpAny_loadName_local I.ok.kind hk hn hm fin) hd
  · rcases hk with hk | hk
    · exact wpAny_Name (wpAny_loadName_cell I.ok.kind hk hc hcell fin) hd
    · exact wpAny_Name (wpAny_loadName_free I.ok.kind hk hc hcell fin hcd) hd
/-! ### the call of the lambda -/
section
variable {X : Cx} {pins : List (Addr × Obj)} {σ : L2.St} {H : Hp} {s : Shared}
theorem lam_key {N : List Str} {a : Str} {f c' : Addr} {pm ctv : Value} {params : Arguments} {body : Expr} {scope : Scope} {k : Nat} {kd : V → Hp → PyData → Prop} {x : V} {v : Value} {d : PyData} {A : Around} {h : Heap} {tk : Nat} {EE : Value → Shared → Prop} (I : Inv X pins σ H s)
    (hf : s.heap.get? f = some (PySem.W.kla_obj "<lambda>" (X.env.qual ++ "<lambda>") params body scope [] pm c' ctv)) (hc : H c' = some (CodeO c' (X.env.qual ++ "<lambda>")))
    (S : NScope N [a] [] scope) (hbind : ∀ (q : Str) (pm cv ctv : Value) (u : Value), bindArgs (PySem.W.kla_fn "<lambda>" q params body scope [] pm cv ctv) ⟨[u], []⟩ = pure [(a, u)])
    (hA : A.frames = X.A.frames) (hr : Room (k + 1) A) (B : KeyBody X.K N params scope body kd) (r : RelV x v) (hk : kd x H d) (kp : ∀ b o, s.heap.get? b = some o → h.get? b = some o) :
    wpAny (model X.prog X.w) A (call (.ref f) [v]) (KeyPure d { s with heap := h, toks := tk }) EE { s with heap := h, toks := tk } := by
  have I2 : Inv X pins σ H { s with heap := h, toks := tk } := I.kept kp
  have e1 := I2.env0
  have e0 : Env0 X.prog X.w X.K X.mg X.base A X.stack { s with heap := h, toks := tk } H := ⟨hA.trans e1.frames, e1.mod, e1.bs, e1.bsz, e1.funs, e1.frf, e1.hok, e1.bare⟩
  obtain ⟨⟨oc, vs, t, hoc, hdc, hvc⟩, _, _⟩ := I2.hok c' _ hc
  have lim : h.NoLimit := e0.mod.nolimit.keeps fun b o e => (e0.bs b o e).1
  refine wpAny_call (PySem.W.kla_callFunE hr.depth (kp _ _ hf) rfl S.co S.gen rfl ⟨c', oc, vs, t, rfl, hoc, hdc, hvc⟩ ?_)
  rw [hbind]
  refine wpAny_pure (wpAny_newFunctionEnv S.nocell (fun y hy => ?_) (fun h₁ hns hsb => ⟨lim.fresh _ hsb, ?_⟩) S.kind)
  · rw [List.mem_singleton.mp hy]
    exact S.par a (List.mem_singleton.mpr rfl)
  show codeAny _ _ (.expr body (envF (lamF (X.env.qual ++ "<lambda>") params scope c') f h.objs.size)) _ _
  have kp2 : ∀ b o, h.get? b = some o → h₁.get? b = some o := fun b o e => hsb.extBut b o (Nat.ne_of_lt (Heap.lt_size e)) (Heap.get?_push_of_some _ e)
  have C : CellsAt (lamF (X.env.qual ++ "<lambda>") params scope c').cl [] ([] : List (Option V)) h H := ⟨rfl, nofun, nofun, nofun⟩
  have J : Inv (ncx L2.CX0 X.prog X.w X.K X.mg X.base N (lamF (X.env.qual ++ "<lambda>") params scope c') f A X.stack { s with heap := h, toks := tk } H L2.E0) [] (startF N [x] []) H { s with heap := h₁, toks := tk + [(a, v)].length } :=
    inv_startN (ps := [a]) (us := [v]) (s := { s with heap := h, toks := tk }) (tk := tk + [(a, v)].length) S hr.hd e0 rfl (.cons r .nil) C hns kp2
  refine PySem.W.kla_codeExpr (wpAny_mono (B X.prog X.w X.mg X.base (X.env.qual ++ "<lambda>") c' f A X.stack { s with heap := h, toks := tk } _ H L2.E0 x d (fun _ _ => False) J hk) (fun u s' hq => ?_) fun e s' hq => hq.elim)
  obtain ⟨h2, tk2, rfl, k2, rd⟩ := hq
  exact ⟨h2, tk2, rfl, fun b o e => k2 b o (kp2 b o e), rd⟩
end
/-! ### sorted(xs, key=lambda a: body) -/
theorem sqL_ext {K : PySem.W.Frag} {H H' : Hp} {a : Addr} {xs : List V} (h : SqL K H a xs) (S : ExtN H H') : SqL K H' a xs := by
  rcases h with (h | ⟨o, h⟩) | h
  · exact .inl (.inl (S _ _ h fun _ e => by cases e))
  · exact .inl (.inr ⟨o, S _ _ h fun _ e => by cases e⟩)
  · exact .inr h
theorem sqT_ext {K : PySem.W.Frag} {H H' : Hp} {a : Addr} {xs : List V} (h : SqT K H a xs) (S : ExtN H H') : SqT K H' a xs := by
  rcases h with (h | ⟨o, h⟩) | h
  · exact .inl (.inl (S _ _ h fun _ e => by cases e))
  · exact .inl (.inr ⟨o, S _ _ h fun _ e => by cases e⟩)
  · exact .inr h
def tSortLam (K : PySem.W.Frag) (T : List (Addr × Str)) (kd : V → Hp → PyData → Prop) (te : TE) : TE := fun σ H Q => te σ H fun x H1 => Tabs T H1 ∧ ∃ (l : Addr) (bs : List (V × PyData)), x = .ref l ∧ (SqL K H1 l (bs.map Prod.fst) ∨ SqT K H1 l (bs.map Prod.fst)) ∧ bs.length ≤ 1000 ∧ AllAlike (bs.map Prod.snd) ∧ Sortable (bs.map Prod.snd) ∧ (∀ b ∈ bs, b.2.depth ≤ 10) ∧
  ∀ H2, ExtN H1 H2 → Tabs T H2 → (∀ b ∈ bs, kd b.1 H2 b.2) ∧ ∀ p, H2 p = none → Q (.ref p) (upd H2 p (.lst ((bs.mergeSort (dataLe false Prod.snd)).map Prod.fst)))
theorem each_vals : ∀ {bs : List (V × PyData)} {us : List Value}, Vals (bs.map Prod.fst) us → EachIs (fun (v : Value) (b : V × PyData) => RelV b.1 v) us bs
  | [], _, r => by cases r; exact .nil
  | _ :: _, _, r => by
    cases r with
    | cons r1 r2 => exact .cons r1 (each_vals r2)
theorem vals_each : ∀ {bs : List (V × PyData)} {us : List Value}, EachIs (fun (v : Value) (b : V × PyData) => RelV b.1 v) us bs → Vals (bs.map Prod.fst) us
  | _, _, .nil => .nil
  | _, _, .cons h t => .cons h (vals_each t)
section
variable {X : Cx}
theorem sorted_lam {pins : List (Addr × Obj)} {σ : L2.St} {H : Hp} {s : Shared} {l f : Addr} {bs : List (V × PyData)} {Q : VK} {k : Nat} (I : Inv X pins σ H s) (hs : SqL X.K H l (bs.map Prod.fst) ∨ SqT X.K H l (bs.map Prod.fst)) (hL : bs.length ≤ 1000) (hal : AllAlike (bs.map Prod.snd)) (hk : Sortable (bs.map Prod.snd)) (hd : ∀ b ∈ bs, b.2.depth ≤ 10)
    (hu : X.A.units + 64 < cLine)
    (turn : ∀ (v : Value) (b : V × PyData), RelV b.1 v → b ∈ bs → ∀ (h : Heap) (tk : Nat) (EE : Value → Shared → Prop), (∀ b o, s.heap.get? b = some o → h.get? b = some o) → wpAny (model X.prog X.w) X.A.in1.in1 (call (.ref f) [v]) (KeyPure b.2 { s with heap := h, toks := tk }) EE { s with heap := h, toks := tk })
    (q : ∀ p, H p = none → Q (.ref p) (upd H p (.lst ((bs.mergeSort (dataLe false Prod.snd)).map Prod.fst)))) :
    wpAny (model X.prog X.w) X.A (call (.builtin "sorted") [.ref l] [(Str.ofString "key", .ref f)]) (EP X pins σ Q) X.xe s := by
  have hz : sizeLine = 16777216 := rfl
  obtain ⟨its, T, o, n, hT, ho, hc, hdt, rv⟩ : ∃ (its : List Value) (T : String) (o : Obj) (n : Nat), (T = "list" ∨ T = "tuple") ∧ s.heap.get? l = some o ∧ o.cls = .type T ∧ o.data = .seq its.toArray n ∧ Vals (bs.map Prod.fst) its := by
    rcases hs with hs | hs
    · obtain ⟨its, r, pl, _⟩ := I.list hs
      obtain ⟨o, ho, hc, n, hd⟩ := pl.isList
      exact ⟨its, "list", o, n, .inl rfl, ho, hc, hd, r⟩
    · obtain ⟨its, r, pl, _⟩ := I.tuple hs
      obtain ⟨o, ho, hc, n, hd⟩ := pl
      exact ⟨its, "tuple", o, n, .inr rfl, ho, hc, hd, r⟩
  have each := each_vals rv
  have li : its.length = bs.length := each.length
  refine call_function_entry_kw PyProof.Rows.kind_sorted PyProof.Rows.plain_sorted PyProof.Rows.entry_sorted (PyProof.Rows.ksk_s1 _ _) ?_
  unfold Builtin.«sorted»
  refine wpAny_bind (m := checkCount "sorted" 1 1 _) (wpAny_pure ?_)
  refine wpAny_bind (wpAny_collect_seq l hT ho hc hdt (fun h' hk' => ?_) (by rw [List.size_toArray]; omega))
  rw [List.toList_toArray]
  refine wpAny_bind (wpAny_newList ?_ (by omega))
  have hoL : (h'.push (seqObj "list" its.toArray 0)).get? h'.objs.size = some (seqObj "list" its.toArray 0) := Heap.get?_push_size _ rfl
  have keep : ∀ b o, s.heap.get? b = some o → (h'.push (seqObj "list" its.toArray 0)).get? b = some o := fun b o e => Heap.get?_push_of_some _ (hk' b o e)
  show wpAny _ _ _ _ _ { s with heap := h'.push (seqObj "list" its.toArray 0) }
  refine wpAny_bind (wpAny_holding (wpAny_call_entry_kw slot_list_sort ⟨_, hoL, rfl⟩ entry_list_sort ?_ (PyProof.Rows.ksk_l1 _ _)))
  rw [PyProof.Rows.ksk_t1]
  have up : ∀ {g : Heap}, KeepsBut h'.objs.size (h'.push (seqObj "list" its.toArray 0)) g → ∀ b o, s.heap.get? b = some o → g.get? b = some o := fun {g} kp b o e =>
    kp b o (Nat.ne_of_lt (Heap.lt_size (hk' b o e))) (keep b o e)
  refine keyH_tree (kz := bs.map Prod.snd) (s := { s with heap := h'.push (seqObj "list" its.toArray 0) }) hoL (by rw [List.length_map]; exact li.symm) (by omega) hal hk (bound_map (A := X.A.in1.in1) fun b hb => ?_)
    (keyH_turns (s := { s with heap := h'.push (seqObj "list" its.toArray 0) }) each fun v x hR hx h tk kp => turn v x hR hx h tk _ (up kp)) fun h2 tk out c kp hD ko => ⟨_, rfl, ?_⟩
  · have h1 := hd b hb
    have h2 : X.A.in1.in1.units = X.A.units + 2 := rfl
    omega
  have lo : out.length = bs.length := (ko.length (by rw [List.length_map]; exact li.symm)).trans li
  have eo := keyedOut_each Prod.snd ko each
  have ev : Vals ((bs.mergeSort (dataLe false Prod.snd)).map Prod.fst) out := vals_each eo
  have hnew : H h'.objs.size = none := (I.kept (t' := s.toks) hk').hok.fresh (Nat.le_refl _)
  refine wpAny_pure ⟨_, rfl, .ref h'.objs.size, upd H h'.objs.size (.lst ((bs.mergeSort (dataLe false Prod.snd)).map Prod.fst)), (I.kept (t' := s.toks) hk').laid (t' := tk) (fun b o e => kp b o (Nat.ne_of_lt (Heap.lt_size e)) (Heap.get?_push_of_some _ e)) (Nat.le_refl _) ⟨by rw [List.length_map, List.length_mergeSort]; omega, out, c, ev, hD⟩, rfl, q _ hnew⟩
/-- sorted(xs, key=lambda a: body) -/
theorem pe_sortLam {T : List (Addr × Str)} {kd : V → Hp → PyData → Prop} {N : List Str} {a : Str} {c P : Addr} {k : Nat} {params : Arguments} {body : Expr} {scope : Scope} {e : Expr} {te : TE} {p lpos kpos pos : Pos} (ha : PA X [e] (tCons te tNil)) (hg : Gl X "sorted") (hm0 : X.mg "sorted" = none)
    (TB : TabB X.base X.mg c P) (hcode : X.env.code = .ref c) (hm : (P, X.env.qual ++ "<lambda>") ∈ T) (hu : ∀ p ∈ T, p.1 = P → p.2 = X.env.qual ++ "<lambda>") (hr : Room (k + 3) X.A) (S : NScope N [a] [] scope) (B : KeyBody X.K N params scope body kd)
    (hbind : ∀ (q : Str) (pm cv ctv : Value) (u : Value), bindArgs (PySem.W.kla_fn "<lambda>" q params body scope [] pm cv ctv) ⟨[u], []⟩ = pure [(a, u)])
    (hcl : cloFrom X.env.cells scope.names [] = [] := by rfl) (hdef : defaultsOf params X.env = ([], []) := by rfl) (hfree : ∀ y ∈ scope.names, y.2 = .free → ∃ c, X.env.cells.lookup y.1 = some c)
    (hstar : backTo pos (starEach [e] X.env) = (false, eval e X.env) :: backTo pos (starEach [] X.env) := by rfl) (hpl : (backTo pos (starEach [e] X.env)).any (·.1) = false := by rfl) :
    PE X (.Call (.Name "sorted" p) [e] [⟨some "key", .Lambda params body scope lpos, kpos⟩] pos) (tSortLam X.K T kd te) := by
  refine ⟨fun pins s σ H Q I h => ?_⟩
  refine wpAny_Call_Name_kw (ld_blt I hg hm0 PyProof.Rows.boot_sorted ?_)
  refine PyProof.Rows.callWith_kw (thn (ha.run pos pins s σ H (fun us H1 => match us with
    | [x] => Tabs T H1 ∧ ∃ (l : Addr) (bs : List (V × PyData)), x = .ref l ∧ (SqL X.K H1 l (bs.map Prod.fst) ∨ SqT X.K H1 l (bs.map Prod.fst)) ∧ bs.length ≤ 1000 ∧ AllAlike (bs.map Prod.snd) ∧ Sortable (bs.map Prod.snd) ∧ (∀ b ∈ bs, b.2.depth ≤ 10) ∧
      ∀ H2, ExtN H1 H2 → Tabs T H2 → (∀ b ∈ bs, kd b.1 H2 b.2) ∧ ∀ p, H2 p = none → Q (.ref p) (upd H2 p (.lst ((bs.mergeSort (dataLe false Prod.snd)).map Prod.fst)))
    | _ => False) I h) fun us s1 ⟨vs, H1, I1, r1, hq0⟩ => ?_) hstar hpl (by rfl) (by rfl)
  obtain ⟨x, rfl⟩ : ∃ x, vs = [x] := by
    match vs, hq0 with
    | [x], _ => exact ⟨x, rfl⟩
  obtain ⟨hT, l, bs, exl, hsq, hL, hal, hso, hd, hq⟩ := hq0
  subst exl
  obtain ⟨u, rfl, ru⟩ := vals1 r1
  obtain rfl : u = Value.ref l := ru
  refine wpAny_evalAll_cons (wpAny_bind (lam_make2 I1 TB hcode hm hu hT hdef hfree fun f c' pm' ctv H2 s2 I2 eN T2 hf hfn hfr hco => wpAny_bind (wpAny_standAt (wpAny_pure (wpAny_evalAll_nil ?_)))))
  obtain ⟨hkd, hq⟩ := hq H2 eN T2
  rw [hcl] at hf
  refine sorted_lam (k := k) I2 (hsq.imp (fun z => sqL_ext z eN) (fun z => sqT_ext z eN)) hL hal hso hd (by have := hr.un; omega) (fun v b rb mb h tk EE kp => ?_) hq
  exact lam_key (N := N) (k := k) I2 hf hco S hbind rfl hr.in1.in1 B rb (hkd b mb) kp
end
end KL
namespace Tb
open PySem PySem.Spec PyProof.Rows L2
def topS (i : Nat) : Stmt := PySem.Challenge.pw_everyparcel_k01_whole_soonest_and_surely.main.body.getD i (.Pass ⟨0, 0, 0, 0⟩)
abbrev sMade : Stmt := topS 21
abbrev sSpells : Stmt := topS 22
abbrev sIsName : Stmt := topS 24
/-- a def of the text: it stands, its arguments bind, its global is it -/
structure Dd (K : PySem.W.Frag) (mg : Str → Option Value) (x : Str) (st : Stmt) (ps : List Str) (f : Addr) (fd : FuncData) : Prop where
  F : Fun K x x st f fd
  b : Binds K fd ps []
  g : mg x = some (.ref f)
/-- the globals that are the built-ins, and the two texts -/
structure Blt (mg : Str → Option Value) : Prop where
  len : mg "len" = none
  int : mg "int" = none
  str : mg "str" = none
  list : mg "list" = none
  tuple : mg "tuple" = none
  dict : mg "dict" = none
  bool : mg "bool" = none
  range : mg "range" = none
  sorted : mg "sorted" = none
  all : mg "all" = none
  isi : mg "isinstance" = none
  dg : ∃ t, mg "DIGITS" = some (.str ("0123456789" : String) t)
  lt : ∃ t, mg "LETTERS" = some (.str ("abcdefghijklmnopqrstuvwxyz" : String) t)
  set : mg "set" = none
  rev : mg "reversed" = none
  max : mg "max" = none
  min : mg "min" = none
theorem sqOf {K : PySem.W.Frag} {H : Hp} {p : Addr} {xs : List V} (h : H p = some (.lst xs)) : SqL K H p xs := .inl (.inl h)
theorem same_upd {H : Hp} {p : Addr} {o : HO} (h : H p = none) : Same H (upd H p o) := fun b x e => by
  rw [upd_ne (ne_of_none e h)]
  exact e
def digits : Str := ("0123456789" : String)
def letters : Str := ("abcdefghijklmnopqrstuvwxyz" : String)
/-- a module's name that holds a text -/
theorem pe_txt {X : Cx} {x z : Str} {pos : Pos} (hg : Gl X x) (h : ∃ t, X.mg x = some (.str z t)) (hd : (x == ("__debug__" : Str)) = false := by decide) : PE X (.Name x pos) (tC (.str z)) := by
  obtain ⟨t, h⟩ := h
  exact pe_glob hg h (show RelV (.str z) (.str z t) from ⟨t, rfl⟩) hd
/-! ### the mirrors -/
def isIn (signs : Str) (c : Nat) : Bool := decide (c ∈ signs.cps.toList)
def made (t signs : Str) (most : Int) : Bool := decide (1 ≤ (t.length : Int)) && decide ((t.length : Int) ≤ most) && t.cps.toList.all (isIn signs)
def isAddr (t : Str) : Bool := made t digits 8
def isName (t : Str) : Bool := made t (letters ++ digits) 12 && (match t.cps[0]? with | some c => isIn letters c | none => false)
def isLane (t : Str) : Bool := decide (t = Str.ofString "") || isName t
section
variable {P : Program} {w : World} {K : PySem.W.Frag} {mg : Str → Option Value} {base : Heap}
theorem scMade : FnScope ["text", "signs", "most", "sign"] ["text", "signs", "most"] (defScope sMade) := ⟨rfl, rfl, rfl, by decide +kernel, rfl, by decide +kernel, by decide +kernel⟩
def spMade : Sp := fun vs H Q _ => ∃ (t signs : Str) (most : Int), vs = [.str t, .str signs, .int most] ∧ t.length ≤ 1000 ∧ ∀ H', Same H H' → Q (.bl (made t signs most)) H'
theorem ok_made {f : Addr} {fd : FuncData} {k : Nat} (F : Fun K "made_of" "made_of" sMade f fd) (B : Blt mg) : FnOk P w K mg base CX0 (k + 1) f fd ["text", "signs", "most"] spMade := by
  refine F.ok scMade (fun vs H Q E h => ?_) (fun cdv A outer s H vs Q E hr h => ?_)
  · obtain ⟨t, sg, m, rfl, _⟩ := h
    rfl
  · obtain ⟨t, sg, m, rfl, hl, q⟩ := h
    refine ⟨_, pss_one (ps_ret (pe_and (pe_chain op_le op_le pe_int (pe_callB call_len_str (by rfl) B.len PySem.boot_len (pa_cons (pv 0) pa_nil)) (pv 2))
      (pe_one (pe_callB (cr_all rfl) (by rfl) B.all (by decide +kernel) (pa_cons (pe_lc (own := [("sign", 3)]) (g := gName 3) (by rfl) scMade.nd (pi_str (pv 0)) (blkOk_by (N := ["text", "signs", "most", "sign"]) (sc := defScope sMade) (by decide +kernel)) (fun _ _ _ _ _ => pg_name (i := 3) scMade.nd rfl (Or.inl rfl)) (fun _ _ _ _ _ => pts_nil) (fun _ _ _ _ _ => pe_cmpR op_in_sign (pv 3) (pv 1) (by rfl))) pa_nil))))), ?_⟩
    refine ⟨.str t, rfl, t, rfl, Nat.le_trans hl (by decide), 1, (t.length : Int), rfl, rfl, _, rfl, ?_⟩
    have h0 : ∀ c : Bool, c = false → Q (.bl c) H → made t sg m = false → Q (.bl (made t sg m)) H := fun c e q e2 => by rw [e2, ← e]; exact q
    refine ite2 (fun e1 => ?_) (fun e1 => ?_)
    · refine ⟨.int m, rfl, (t.length : Int), m, rfl, rfl, _, rfl, ite2 (fun e2 => ?_) (fun e2 => ?_)⟩
      · refine ⟨.str t, rfl, t, rfl, fun D nD => lc_it (walk_str (z := t)) (fun i H' => Same H H' ∧ H' D = some (.lst (((t.cps.toList.take i).map (isIn sg)).map V.bl))) ⟨same_upd nD, upd_same⟩ (fun _ _ _ _ => trivial) (fun i x H1 H2 hi hP hy => ?_) (fun H1 hP => ?_)⟩
        · obtain ⟨hS, hD⟩ := hP
          obtain ⟨rfl, c, hc, rfl⟩ := hy
          refine ⟨rfl, ?_⟩
          have hi' : i < t.cps.toList.length := by rw [Array.length_toList]; exact hi
          have hc' : t.cps.toList[i]? = some c := by rw [Array.getElem?_toList]; exact hc
          refine ⟨_, rfl, .str sg, rfl, c, sg, rfl, rfl, _, hD, ?_, ?_, ?_⟩
          · rw [List.length_map, List.length_map, List.length_take, Array.length_toList]
            exact small1000 (Nat.le_trans (Nat.min_le_right _ _) hl)
          · intro b o hb
            rw [upd_ne (ne_of_none hb nD)]
            exact hS _ _ hb
          · rw [upd_same, List.take_add_one, hc', List.map_append, List.map_append]
            rfl
        · obtain ⟨hS, hD⟩ := hP
          refine ⟨D, (t.cps.toList.map (isIn sg)), rfl, sqOf (by rw [hD, ← Array.length_toList, List.take_length]), ?_⟩
          have e : (t.cps.toList.map (isIn sg)).all id = made t sg m := by
            unfold made
            rw [of_decide_eq_true e1 |> decide_eq_true, of_decide_eq_true e2 |> decide_eq_true, List.all_map]
            rfl
          rw [e]
          exact q _ hS
      · have e : made t sg m = false := by
          unfold made
          rw [Bool.eq_false_iff.mpr e2, Bool.and_false, Bool.false_and]
        have := q H (Same.refl _)
        rw [e] at this
        exact this
    · have e : made t sg m = false := by
        unfold made
        rw [Bool.eq_false_iff.mpr e1, Bool.false_and, Bool.false_and]
      have := q H (Same.refl _)
      rw [e] at this
      exact ⟨false, rfl, this⟩
theorem scSpells : FnScope ["text"] ["text"] (defScope sSpells) := ⟨rfl, rfl, rfl, by decide +kernel, rfl, by decide +kernel, by decide +kernel⟩
theorem scIsName : FnScope ["text"] ["text"] (defScope sIsName) := ⟨rfl, rfl, rfl, by decide +kernel, rfl, by decide +kernel, by decide +kernel⟩
/-- one text in, a bool out -/
def spT (g : Str → Bool) : Sp := fun vs H Q _ => ∃ (t : Str), vs = [.str t] ∧ t.length ≤ 1000 ∧ ∀ H', Same H H' → Q (.bl (g t)) H'
theorem ok_spells {f g : Addr} {fd gd : FuncData} (F : Fun K "spells_address" "spells_address" sSpells f fd) (D : Dd K mg "made_of" sMade ["text", "signs", "most"] g gd) (B : Blt mg) : FnOk P w K mg base CX0 2 f fd ["text"] (spT isAddr) := by
  have G : FnOk P w K mg base CX0 1 g gd ["text", "signs", "most"] spMade := ok_made D.F B
  refine F.ok scSpells (fun vs H Q E h => ?_) (fun cdv A outer s H vs Q E hr h => ?_)
  · obtain ⟨t, rfl, _⟩ := h
    rfl
  · obtain ⟨t, rfl, hl, q⟩ := h
    refine ⟨_, pss_one (ps_ret (pe_call G hr (by rfl) D.g D.F.kp D.b .nil pass0 (pa_cons (pv 0) (pa_cons (pe_txt (by rfl) B.dg) (pa_cons pe_int pa_nil))))), ?_⟩
    exact ⟨.str t, rfl, t, digits, 8, rfl, hl, q⟩
theorem ok_isName {f g : Addr} {fd gd : FuncData} (F : Fun K "is_name" "is_name" sIsName f fd) (D : Dd K mg "made_of" sMade ["text", "signs", "most"] g gd) (B : Blt mg) : FnOk P w K mg base CX0 2 f fd ["text"] (spT isName) := by
  have G : FnOk P w K mg base CX0 1 g gd ["text", "signs", "most"] spMade := ok_made D.F B
  refine F.ok scIsName (fun vs H Q E h => ?_) (fun cdv A outer s H vs Q E hr h => ?_)
  · obtain ⟨t, rfl, _⟩ := h
    rfl
  · obtain ⟨t, rfl, hl, q⟩ := h
    refine ⟨_, pss_one (ps_ret (pe_and (pe_call G hr (by rfl) D.g D.F.kp D.b .nil pass0 (pa_cons (pv 0) (pa_cons (pe_op op_add_str (pe_txt (by rfl) B.lt) (pe_txt (by rfl) B.dg)) (pa_cons pe_int pa_nil))))
      (pe_one (pe_cmpR op_in_sign (pe_item_str (pv 0) pe_int (fun _ _ => rfl)) (pe_txt (by rfl) B.lt) (by rfl))))), ?_⟩
    refine ⟨.str t, rfl, _, _, rfl, rfl, by decide +kernel, t, letters ++ digits, 12, rfl, hl, fun H1 S1 => ⟨_, rfl, ite2 (fun e => ?_) (fun e => ?_)⟩⟩
    · have e' : (decide (1 ≤ (t.length : Int)) && decide ((t.length : Int) ≤ 12) && t.cps.toList.all (isIn (letters ++ digits))) = true := e
      rw [Bool.and_eq_true, Bool.and_eq_true] at e'
      have h1 : 1 ≤ (t.length : Int) := of_decide_eq_true e'.1.1
      have h2 : 0 < t.cps.size := by
        show 0 < t.length
        omega
      have hc : t.cps[0]? = some t.cps[0] := Array.getElem?_eq_getElem h2
      refine ⟨.str t, rfl, t, 0, t.cps[0], rfl, rfl, by decide, by decide, by omega, hc, t.cps[0], letters, rfl, rfl, ?_⟩
      have en : isName t = decide (t.cps[0] ∈ letters.cps.toList) := by
        unfold isName
        rw [show made t (letters ++ digits) 12 = true from e, hc, Bool.true_and]
        rfl
      rw [← en]
      exact q _ S1
    · have en : isName t = false := by
        unfold isName
        rw [show made t (letters ++ digits) 12 = false from Bool.eq_false_iff.mpr e, Bool.false_and]
      have := q _ S1
      rw [en] at this
      exact this
end
end Tb
namespace Tb
open PySem PySem.Spec PyProof.Rows L2
/-! ### prefixes and lanes: the mirrors -/
/-- the first n signs -/
def pre (a : Str) (n : Nat) : Str := cutS a none (some (n : Int))
abbrev Kvs := List (Key × V)
/-- the longest of the first n beginnings that is a key -/
def lp (kvs : Kvs) (a : Str) : Nat → Option Str
  | 0 => none
  | n + 1 => if (valV kvs (Sum.inr (pre a (n + 1)))).isSome = true then some (pre a (n + 1)) else lp kvs a n
def long (kvs : Kvs) (a : Str) : Option Str := lp kvs a a.length
def oStr : Option Str → V
  | none => .non
  | some z => .str z
/-- the lane of an address -/
def laneV (kvs : Kvs) (a : Str) : V := match long kvs a with
  | none => .non
  | some p => (valV kvs (Sum.inr p)).getD .non
theorem lp_some {kvs : Kvs} {a : Str} : ∀ {n : Nat} {p : Str}, lp kvs a n = some p → ∃ v, valV kvs (Sum.inr p) = some v
  | 0, _, h => by cases h
  | n + 1, p, h => by
    unfold lp at h
    by_cases c : (valV kvs (Sum.inr (pre a (n + 1)))).isSome = true
    · rw [if_pos c] at h
      cases h
      exact Option.isSome_iff_exists.mp c
    · rw [if_neg c] at h
      exact lp_some h
theorem lp_len {kvs : Kvs} {a : Str} : ∀ {n : Nat} {p : Str}, lp kvs a n = some p → p.length ≤ a.length
  | 0, _, h => by cases h
  | n + 1, p, h => by
    unfold lp at h
    by_cases c : (valV kvs (Sum.inr (pre a (n + 1)))).isSome = true
    · rw [if_pos c] at h
      cases h
      exact cutS_length a _ _
    · rw [if_neg c] at h
      exact lp_len h
section
variable {P : Program} {w : World} {K : PySem.W.Frag} {mg : Str → Option Value} {base : Heap}
/-- a dict and an address in; what g says out, the heap as it was -/
def spDA (g : Kvs → Str → V) : Sp := fun vs H Q _ => ∃ (d : Addr) (kvs : Kvs) (a : Str), vs = [.ref d, .str a] ∧ H d = some (.dK kvs) ∧ a.length ≤ 1000 ∧ Q (g kvs a) H
end
end Tb
namespace Tb
open PySem PySem.Spec PyProof.Rows L2
open PySem.W (EachIs AllAlike Sortable dataLe)
/-! ### sorted, any number of items -/
theorem vals_each : ∀ {bs : List (V × PyData)} {us : List Value}, Vals (bs.map Prod.fst) us → EachIs (fun (v : Value) (b : V × PyData) => RelV b.1 v) us bs
  | [], _, r => by cases r; exact .nil
  | b :: bs, _, r => by
    cases r with
    | cons r1 r2 => exact .cons r1 (vals_each r2)
theorem each_vals : ∀ {bs : List (V × PyData)} {us : List Value}, EachIs (fun (v : Value) (b : V × PyData) => RelV b.1 v) us bs → Vals (bs.map Prod.fst) us
  | [], _, r => by cases r; exact .nil
  | b :: bs, _, r => by
    cases r with
    | cons r1 r2 => exact .cons r1 (each_vals r2)
theorem each_imp {α β : Type} {R S : α → β → Prop} : ∀ {as : List α} {bs : List β}, EachIs R as bs → (∀ a b, b ∈ bs → R a b → S a b) → EachIs S as bs
  | _, _, .nil, _ => .nil
  | _, _, .cons h t, k => .cons (k _ _ (List.mem_cons_self ..) h) (each_imp t fun a b hb => k a b (List.mem_cons_of_mem _ hb))
def rSortDt (K : PySem.W.Frag) : List V → Hp → VK → Prop := fun vs H Q => ∃ (a : Addr) (bs : List (V × PyData)), vs = [.ref a] ∧ SqL K H a (bs.map Prod.fst) ∧ (∀ b ∈ bs, Dp K H b.1 b.2) ∧ AllAlike (bs.map Prod.snd) ∧ Sortable (bs.map Prod.snd) ∧ (∀ b ∈ bs, b.2.depth ≤ 10) ∧
  ∀ p, H p = none → Q (.ref p) (upd H p (.lst ((bs.mergeSort (dataLe false Prod.snd)).map Prod.fst)))
section
variable {X : Cx}
theorem cr_sortedDt (hu : X.A.units + 64 < cLine) : CallR X (.builtin "sorted") (rSortDt X.K) := by
  intro pins s σ H vs us Q I r h
  obtain ⟨a, bs, rfl, hs, hd, hal, hso, hdp, q⟩ := h
  obtain ⟨its, rv, hl, hz⟩ := I.list hs
  rw [Vals.ref1 r]
  have e := vals_each rv
  rw [List.length_map] at hz
  refine PySem.W.sorted_data (enc := Prod.snd) hl.isList e (each_imp e fun v b hb rb => Dp.reads I b.2 b.1 v (hd b hb) rb) hal hso hz (fun b hb => by have := hdp b hb; omega) fun out ho eo => ?_
  obtain ⟨ep, he'⟩ := PyProof.Rows.sortedAll_at s.heap its out.toArray
  have hlen : ((bs.mergeSort (dataLe false Prod.snd)).map Prod.fst).length ≤ sizeLine := by
    rw [List.length_map, List.length_mergeSort]
    exact hz
  exact ⟨.ref _, upd H (s.heap.objs.size + 1) (.lst ((bs.mergeSort (dataLe false Prod.snd)).map Prod.fst)), I.laid (t' := s.toks) (fun _ _ => PyProof.Rows.sortedAll_old) (Nat.le_succ _) ⟨hlen, out, ep, each_vals eo, he'⟩, rfl, q _ (I.hok.fresh (Nat.le_succ _))⟩
/-- sorted(d), the keys texts, any number of them -/
theorem cr_sortedDk (hcalm : X.calm = true) (hu : X.A.units + 64 < cLine) : CallR X (.builtin "sorted") (fun xs H Q => ∃ (a : Addr) (kvs : List (Key × V)) (ks : List Str), xs = [.ref a] ∧ Rd H a (.dK kvs) ∧ kvs.map (·.1) = ks.map Sum.inr ∧ ks.length ≤ 1000 ∧
    ∀ p, H p = none → Q (.ref p) (upd H p (.lst ((ks.mergeSort (dataLe false PyData.str)).map V.str)))) := by
  intro pins s σ H xs us Q I r q
  obtain ⟨a, kvs, ks, rfl, hd, hks, hln, q⟩ := q
  obtain ⟨u, rfl, rx⟩ := vals1 r
  cases rx
  obtain ⟨z, lo, vs, rel, dd⟩ := dk_rd I.hok hd
  obtain ⟨ep, hat⟩ := dd.dictAt
  have hkeys : vs.map (·.1) = ks.map Sum.inr := rel.keys.symm.trans hks
  have hl : vs.length = ks.length := by
    have e := congrArg List.length hkeys
    rwa [List.length_map, List.length_map] at e
  have hline : sizeLine = 16777216 := rfl
  refine Calls.call_function_entry PyProof.Rows.kind_sorted PyProof.Rows.plain_sorted PyProof.Rows.entry_sorted (PyProof.Rows.args_sorted1 _) ?_
  unfold Builtin.«sorted»
  refine wpAny_bind (m := checkCount "sorted" 1 1 _) (wpAny_pure ?_)
  refine wpAny_bind (PySem.W.kdu_collect (A := X.A.in1) (PySem.W.kdl_dict (knd := mixKind X.prog X.w) (kvs := vs) (ep := ep) lo) (I.ok.hd hcalm) hat (by omega) fun h' tk acc hk hacc => ?_)
  have hal : acc.toList.length = ks.length := by rw [Array.length_toList, hacc.1, hl]
  -- the values are the texts
  have each : EachIs (fun (v : Value) (x : Str) => ∃ t, v = .str x t) acc.toList ks := by
    have gen : ∀ (n : Nat) (us : List Value) (xs : List Str), us.length = xs.length → (∀ (j : Nat) (v : Value), us[j]? = some v → ∃ (x : Str) (t : Tok), xs[j]? = some x ∧ v = Value.str x t) →
      EachIs (fun (v : Value) (x : Str) => ∃ t, v = .str x t) us xs := by
      intro _ us
      induction us with
      | nil =>
        intro xs e _
        cases xs with
        | nil => exact .nil
        | cons _ _ => cases e
      | cons u us ih =>
        intro xs e k
        cases xs with
        | nil => cases e
        | cons x xs =>
          obtain ⟨x', t, e1, e2⟩ := k 0 u rfl
          cases e1
          exact .cons ⟨t, e2⟩ (ih xs (Nat.succ.inj e) fun j v hv => k (j + 1) v hv)
    refine gen 0 _ _ hal fun j v e => ?_
    obtain ⟨k, x, e1, e2⟩ := hacc.2 j v (by rw [← Array.getElem?_toList]; exact e)
    have e3 : (vs.map (·.1))[j]? = some k := by rw [List.getElem?_map, e1]; rfl
    rw [hkeys, List.getElem?_map] at e3
    cases e4 : ks[j]? with
    | none => rw [e4] at e3; cases e3
    | some y =>
      rw [e4] at e3
      cases (Option.some.inj e3 : Sum.inr y = k)
      obtain ⟨t, ev⟩ := Value.isStrOf_shape (x := y) (v := v) e2
      exact ⟨y, t, rfl, ev⟩
  have I1 : Inv X pins σ H { s with heap := h', toks := tk } := I.kept hk
  refine wpAny_bind (wpAny_newList ?_ (by rw [hal]; omega))
  have hoL : (h'.push (seqObj "list" acc.toList.toArray 0)).get? h'.objs.size = some (seqObj "list" acc.toList.toArray 0) := Heap.get?_push_size _ rfl
  show wpAny _ _ _ _ _ { s with heap := h'.push (seqObj "list" acc.toList.toArray 0), toks := tk }
  have alike1 : AllAlike (ks.map PyData.str) := fun d hd d' hd' => by
    obtain ⟨x, _, rfl⟩ := List.mem_map.mp hd
    obtain ⟨y, _, rfl⟩ := List.mem_map.mp hd'
    simp [PySem.W.alike]
  have srt1 : Sortable (ks.map PyData.str) := .inr fun d hd => by
    obtain ⟨x, _, rfl⟩ := List.mem_map.mp hd
    exact ⟨PyData.noConfusion, fun _ => PyData.noConfusion⟩
  refine wpAny_bind (wpAny_holding (PySem.W.list_sort_data (enc := PyData.str) (s := { s with heap := h'.push (seqObj "list" acc.toList.toArray 0), toks := tk }) hoL each (each_imp each fun v x _ ⟨t, e⟩ => ⟨[], by rw [e]; exact Reads.str x t, List.not_mem_nil⟩) alike1 srt1 (by omega) ?k4 fun out ho eo => ?_))
  case k4 =>
    intro b _
    have h1 : (PyData.str b).depth ≤ 1 := by simp [PyData.depth]
    have h2 : X.A.in1.units = X.A.units + 1 := rfl
    omega
  obtain ⟨ep', he'⟩ := PyProof.Rows.sortedHeap_at (vs := acc.toList) (out := out.toArray) hoL
  have hlen : ((ks.mergeSort (dataLe false PyData.str)).map V.str).length ≤ sizeLine := by
    rw [List.length_map, List.length_mergeSort]
    omega
  have ev : Vals ((ks.mergeSort (dataLe false PyData.str)).map V.str) out := by
    generalize ks.mergeSort (dataLe false PyData.str) = zs at eo
    clear ho he' hlen
    induction eo with
    | nil => exact .nil
    | cons h _ ih => exact .cons h ih
  have hnew : H h'.objs.size = none := I1.hok.fresh (Nat.le_refl _)
  refine wpAny_pure ⟨_, rfl, .ref h'.objs.size, upd H h'.objs.size (.lst ((ks.mergeSort (dataLe false PyData.str)).map V.str)), I1.laid (t' := tk) (fun b o e => ?_) (Nat.le_refl _) ⟨hlen, out, ep', ev, he'⟩, rfl, q _ hnew⟩
  have hb : b < h'.objs.size := Heap.lt_size e
  rw [PyProof.Rows.sortedHeap_old (Nat.ne_of_lt hb) (by rw [size_push']; exact Nat.lt_succ_of_lt hb)]
  exact Heap.get?_push_of_some _ e
end
end Tb
namespace Tb
open PySem PySem.Spec PyProof.Rows L2
open PySem.W (EachIs AllAlike Sortable dataLe)
/-! ### sorted(d.items()) -/
abbrev Pr := Str × Str
def enc2 (p : Pr) : PyData := .tuple [.str p.1, .str p.2]
def kvP (ps : List Pr) : Kvs := ps.map fun p => (Sum.inr p.1, V.str p.2)
section
variable {prog : Program} {w : World} {κ : Type} [DecidableEq κ] {knd : KeyKind prog w κ} {A : Around} {E : Value → Shared → Prop} {s : Shared} {r d : Addr} {kvs : List (κ × Value)} {ep : Nat}
theorem collect_items {R : List Value → Shared → Prop} (hh : A.handled = none) (hv : s.heap.IsItemsView r d) (hm : s.heap.DictAt knd d kvs ep) (hn : kvs.length ≤ sizeLine)
    (h : ∀ (h' : Heap) (tk : Nat) (acc : Array Value) (c : Nat) (as : List Addr), (∀ b o, s.heap.get? b = some o → h'.get? b = some o) → h'.get? s.heap.objs.size = some { cls := .type "list", dict := none, data := .seq acc c, slots := #[] } → as.length = kvs.length → PySem.W.KdxG knd kvs s.heap.objs.size h' as →
      acc.toList = as.map Value.ref → R (as.map Value.ref) { s with heap := h', toks := tk }) :
    wpAny (model prog w) A (collect (.ref r)) R E s := by
  obtain ⟨ov, hov, hvr⟩ := id hv
  have hr : r < s.heap.objs.size := Heap.lt_size hov
  have hd : d < s.heap.objs.size := by
    obtain ⟨od, _, hod, _⟩ := id hm
    exact Heap.lt_size hod
  unfold collect
  refine wpAny_bind (wpAny_runValue (codeAny_builtin entry_proto_collect' ?_))
  rw [Around.under_plainId PySem.F.plain_proto_collect _]
  show wpAny _ A.in1 (newList [] >>= fun l => again (.builtin "list.__iadd__" ⟨[l, .ref r], []⟩)) _ _ s
  refine wpAny_bind (wpAny_newObj_type ?_)
  refine wpAny_pure ⟨plainId_quiet PySem.F.plain_list_iadd _, codeAny_builtin entry_list_iadd' ?_⟩
  rw [Around.under_plainId PySem.F.plain_list_iadd _]
  have up : ∀ b o, s.heap.get? b = some o → (s.heap.push { cls := .type "list", data := .seq ([] : List Value).toArray }).get? b = some o := fun b o e => Heap.get?_push_of_some _ e
  have key := PySem.W.kdx_extend (A := A) (knd := knd) (kvs := kvs) (ep := ep) (s := { s with heap := s.heap.push { cls := .type "list", data := .seq ([] : List Value).toArray } })
    (R := fun (q : Result) (s' : Shared) => ∃ (h' : Heap) (tk : Nat) (acc : Array Value) (c : Nat) (as : List Addr), q = .ok (.ret (.ref s.heap.objs.size)) ∧ s' = { s with heap := h', toks := tk } ∧ (∀ b o, s.heap.get? b = some o → h'.get? b = some o) ∧
      h'.get? s.heap.objs.size = some { cls := .type "list", dict := none, data := .seq acc c, slots := #[] } ∧ as.length = kvs.length ∧ PySem.W.KdxG knd kvs s.heap.objs.size h' as ∧ acc.toList = as.map Value.ref)
    hh ⟨ov, up _ _ hov, hvr⟩ (hm.at' fun o e => up _ _ e) s.heap.objs.size (Nat.ne_of_gt hr) (Nat.ne_of_lt hd) (.ref s.heap.objs.size) 0 (Heap.get?_push_size _ rfl)
    (fun h' tk acc c as hk hS hl hG hacc => ⟨h', tk, acc, c, as, rfl, rfl, fun b o e => hk b o (Nat.ne_of_lt (Heap.lt_size e)) (up _ _ e), hS, hl, hG.low (by show s.heap.objs.size ≤ (s.heap.push _).objs.size; rw [Heap.size_push]; exact Nat.le_succ _), hacc⟩) hn
  refine wpAny_mono key (fun fin s' x => ?_) fun e s' x => ?_
  · cases fin with
    | done f =>
      obtain ⟨h', tk, acc, c, as, e, rfl, hk, hS, hl, hG, hacc⟩ := x
      cases e
      show wpAny _ A (load s.heap.objs.size >>= _) _ _ _
      refine wpAny_bind (wpAny_load hS ?_)
      refine wpAny_pure ?_
      show R acc.toList _
      rw [hacc]
      exact h h' tk acc c as hk hS hl hG hacc
    | again c₁ =>
      refine ⟨x.1, codeAny_mono x.2 fun q s₂ y => ?_⟩
      obtain ⟨h', tk, acc, c, as, rfl, rfl, hk, hS, hl, hG, hacc⟩ := y
      show wpAny _ A (load s.heap.objs.size >>= _) _ _ _
      refine wpAny_bind (wpAny_load hS ?_)
      refine wpAny_pure ?_
      show R acc.toList _
      rw [hacc]
      exact h h' tk acc c as hk hS hl hG hacc
  · obtain ⟨_, _, _, _, _, e', _⟩ := x
    cases e'
end
/-- the order of the pairs, and of the texts -/
def le2 : Pr → Pr → Bool := dataLe false enc2
def le1 : Str → Str → Bool := dataLe false PyData.str
theorem alike2 (ps : List Pr) : AllAlike (ps.map enc2) := fun d hd d' hd' => by
  obtain ⟨x, _, rfl⟩ := List.mem_map.mp hd
  obtain ⟨y, _, rfl⟩ := List.mem_map.mp hd'
  simp [enc2, PySem.W.alike, PySem.W.alikeAll]
theorem sortable2 (ps : List Pr) : Sortable (ps.map enc2) := .inl fun d hd => by
  obtain ⟨x, _, rfl⟩ := List.mem_map.mp hd
  exact ⟨_, _, rfl⟩
theorem depth2 (p : Pr) : (enc2 p).depth ≤ 2 := by simp [enc2, PyData.depth, PyData.depthAll]
/-- a list of refs to pairs of texts -/
structure PrsAt (K : PySem.W.Frag) (H : Hp) (l : Addr) (ts : List (Addr × Pr)) : Prop where
  l : SqL K H l (ts.map fun t => V.ref t.1)
  t : ∀ t ∈ ts, SqT K H t.1 [.str t.2.1, .str t.2.2]
theorem kvP_keys (ps : List Pr) : (kvP ps).map (·.1) = (ps.map (·.1)).map Sum.inr := by
  unfold kvP
  rw [List.map_map, List.map_map]
  rfl
/-- sorted(e.items()) -/
def tSortItems (te : TE) : TE := fun σ H Q => te σ H fun x H1 => ∃ (d : Addr) (ps : List Pr), x = .ref d ∧ H1 d = some (.dK (kvP ps)) ∧ ps.length ≤ 1000 ∧
  ∀ (H' : Hp) (p : Addr) (ts : List (Addr × Pr)), Same H1 H' → H1 p = none → H' p = some (.lst (ts.map fun t => V.ref t.1)) → (∀ t ∈ ts, H' t.1 = some (.tup [.str t.2.1, .str t.2.2])) → ts.map (·.2) = ps.mergeSort le2 → Q (.ref p) H'
section
variable {X : Cx} {e : Expr} {te : TE} {p apos cpos pos : Pos}
theorem pe_sortedItems (hc : X.calm = true) (hu : X.A.units + 64 < cLine) (he : PE X e te) (hg : Gl X "sorted") (hm : X.mg "sorted" = none) (hbase : attributeBase e "items" X.env (eval e X.env) = eval e X.env := by rfl) (hline : (apos.endLine == cpos.line) = true := by rfl)
    (hs : starEach [.Call (.Attribute e "items" apos) [] [] cpos] X.env = (false, eval (.Call (.Attribute e "items" apos) [] [] cpos) X.env) :: starEach [] X.env := by rfl) :
    PE X (.Call (.Name "sorted" p) [.Call (.Attribute e "items" apos) [] [] cpos] [] pos) (tSortItems te) := by
  refine ⟨fun pins s σ H Q I hq => ?_⟩
  refine wpAny_Call_Name_kw (ld_blt I hg hm PyProof.Rows.boot_sorted ?_)
  refine PyProof.Rows.callWith_builtin1 ?_ hs rfl
  rw [hs]
  show wpAny _ _ (spliced ((false, eval (.Call (.Attribute e "items" apos) [] [] cpos) X.env) :: backTo pos (starEach [] X.env))) _ _ s
  refine Calls.spliced_cons ?_
  refine wpAny_Call_method (T := "dict") (id := "dict.items") hbase rfl hline PySem.F.plainAttrs_dict PySem.F.slot_dict_items PySem.F.type_dict_items (thn (he.run pins s σ H _ I hq) fun u s1 ⟨x, H1, I1, rx, d, ps, ex, hd, hln, q⟩ => ?_)
  subst ex
  obtain rfl : u = Value.ref d := rx
  obtain ⟨hz, hs0, vs, kv, hdo⟩ := I1.hok d _ hd
  obtain ⟨ep, hat⟩ := hdo.dictAt
  have lk : (kvP ps).length = vs.length := Paired.length kv
  have lps : (kvP ps).length = ps.length := by unfold kvP; rw [List.length_map]
  have hline' : sizeLine = 16777216 := rfl
  have I2 : Inv X pins σ H1 { s1 with heap := s1.heap.push { cls := .type "dict_items", data := .fields #[.ref d] } } := I1.kept (t' := s1.toks) fun b ob q => Heap.get?_push_of_some _ q
  refine ⟨hdo.typeIs, hdo.mapOf.noDict, ?_⟩
  show wpAny _ _ (callWith cpos (.builtin "dict.items") [.ref d] [] []) _ X.xe s1
  refine method_meetsIn PySem.F.slot_dict_items PySem.F.entry_dict_items rfl (PySem.evalArgs_none ⟨rfl, hdo.typeIs, PySem.F.args_dict_items_1 _, _, meets_dict_items (mixKind X.prog X.w) d hs0, ⟨vs, hdo⟩, ?_⟩)
  refine Calls.spliced_nil ?_
  refine Calls.call_function_entry PyProof.Rows.kind_sorted PyProof.Rows.plain_sorted PyProof.Rows.entry_sorted (PyProof.Rows.args_sorted1 _) ?_
  unfold Builtin.«sorted»
  refine wpAny_bind (m := checkCount "sorted" 1 1 _) (wpAny_pure ?_)
  refine wpAny_bind (collect_items (A := X.A.in1) (knd := mixKind X.prog X.w) (kvs := vs) (ep := ep) (I1.ok.hd hc) ⟨_, Heap.get?_push_size _ rfl, rfl, rfl⟩ (hat.push _) (by omega) fun h' tk acc c as hk hS hl hG hacc => ?_)
  obtain ⟨H', k1, k2, k3, k4, k5, k6, J⟩ := LiI.items_laid (tk := tk) I2 hz kv hk hS hl hG hacc
  have las : as.length = ps.length := by omega
  -- the pairs with their places
  have pr : ∀ t ∈ as.zip ps, H' t.1 = some (.tup [.str t.2.1, .str t.2.2]) := by
    intro t ht
    obtain ⟨j, hj⟩ := List.mem_iff_getElem?.mp ht
    rw [List.getElem?_zip_eq_some] at hj
    obtain ⟨y, hy, hy2⟩ := LiI.paired_get k6 hj.1
    unfold kvP at hy
    rw [List.getElem?_map, hj.2] at hy
    cases (Option.some.inj hy)
    exact hy2
  have z1 : (as.zip ps).map Prod.fst = as := List.map_fst_zip (by omega)
  have z2 : (as.zip ps).map Prod.snd = ps := List.map_snd_zip (by omega)
  generalize as.zip ps = bs at pr z1 z2
  have lbs : bs.length = as.length := by rw [← z1, List.length_map]
  refine wpAny_bind (wpAny_newList ?_ (by rw [List.length_map]; omega))
  have hoL : (h'.push (seqObj "list" (as.map Value.ref).toArray 0)).get? h'.objs.size = some (seqObj "list" (as.map Value.ref).toArray 0) := Heap.get?_push_size _ rfl
  show wpAny _ _ _ _ _ { s1 with heap := h'.push (seqObj "list" (as.map Value.ref).toArray 0), toks := tk }
  have e2 : bs.map (fun t : Addr × Pr => enc2 t.2) = ps.map enc2 := by rw [← z2, List.map_map]; rfl
  have each : EachIs (fun (v : Value) (t : Addr × Pr) => v = .ref t.1) (as.map Value.ref) bs := by
    rw [← z1, List.map_map]
    clear pr z1 z2 lbs e2
    induction bs with
    | nil => exact .nil
    | cons b bs ih => exact .cons rfl ih
  have Jn := J
  have old : ∀ b o, h'.get? b = some o → (h'.push (seqObj "list" (as.map Value.ref).toArray 0)).get? b = some o := fun b o e => Heap.get?_push_of_some _ e
  have rd : EachIs (fun (v : Value) (t : Addr × Pr) => ∃ as', Reads (h'.push (seqObj "list" (as.map Value.ref).toArray 0)) v (enc2 t.2) as' ∧ h'.objs.size ∉ as') (as.map Value.ref) bs := by
    refine each_imp each fun v t ht hv => ?_
    subst hv
    obtain ⟨_, its, rv, o, h1, h2, n, h3⟩ := (show ObjOk X.prog X.w H' h' t.1 (.tup [.str t.2.1, .str t.2.2]) from J.hok t.1 _ (pr t ht))
    obtain ⟨u1, u2, rfl, r1, r2⟩ := vals2 rv
    obtain ⟨t1, rfl⟩ := r1
    obtain ⟨t2, rfl⟩ := r2
    exact ⟨[], Reads.tuple (old _ _ h1) h2 h3 (ReadsAll.cons (Reads.str _ _) (ReadsAll.cons (Reads.str _ _) ReadsAll.nil)), List.not_mem_nil⟩
  refine wpAny_bind (wpAny_holding (PySem.W.list_sort_data (enc := fun t : Addr × Pr => enc2 t.2) (s := { s1 with heap := h'.push (seqObj "list" (as.map Value.ref).toArray 0), toks := tk }) hoL each rd (by rw [e2]; exact alike2 ps) (by rw [e2]; exact sortable2 ps) (by omega) ?k4 fun out ho eo => ?_))
  case k4 =>
    intro b _
    have h1 := depth2 b.2
    have h2 : X.A.in1.units = X.A.units + 1 := rfl
    omega
  obtain ⟨ep', he'⟩ := PyProof.Rows.sortedHeap_at (vs := as.map Value.ref) (out := out.toArray) hoL
  have hsm : (bs.mergeSort (dataLe false fun t : Addr × Pr => enc2 t.2)).map (·.2) = ps.mergeSort le2 := by
    have h := PySem.W.sort_maps (r := dataLe false fun t : Addr × Pr => enc2 t.2) (s := le2) (l := bs) (fun t : Addr × Pr => t.2) (fun _ _ _ _ => rfl)
    rw [z2] at h
    exact h
  have hmem : ∀ t ∈ bs.mergeSort (dataLe false fun t : Addr × Pr => enc2 t.2), H' t.1 = some (.tup [.str t.2.1, .str t.2.2]) := fun t ht => pr t (List.mem_mergeSort.mp ht)
  have hlen : ((bs.mergeSort (dataLe false fun t : Addr × Pr => enc2 t.2)).map fun t => V.ref t.1).length ≤ sizeLine := by
    rw [List.length_map, List.length_mergeSort]
    omega
  generalize bs.mergeSort (dataLe false fun t : Addr × Pr => enc2 t.2) = ts at eo hsm hmem hlen
  have ev : Vals (ts.map fun t => V.ref t.1) out := by
    clear ho he' hlen hsm hmem
    induction eo with
    | nil => exact .nil
    | cons h _ ih => exact .cons h ih
  have hnew : H' h'.objs.size = none := J.hok.fresh (Nat.le_refl _)
  refine wpAny_pure ⟨_, rfl, .ref h'.objs.size, upd H' h'.objs.size (.lst (ts.map fun t => V.ref t.1)), J.laid (t' := tk) (fun b o e => ?_) (Nat.le_refl _) ⟨hlen, out, ep', ev, he'⟩, rfl, q _ _ ts ((show Same H1 H' from k1).trans (same_upd hnew)) ((show Same H1 H' from k1).free hnew) upd_same (fun t ht => by rw [upd_ne (ne_of_none (hmem t ht) hnew)]; exact hmem t ht) hsm⟩
  have hb : b < h'.objs.size := Heap.lt_size e
  rw [PyProof.Rows.sortedHeap_old (Nat.ne_of_lt hb) (by rw [size_push']; exact Nat.lt_succ_of_lt hb)]
  exact old b o e
end
end Tb
namespace Tb
open PySem PySem.Spec PyProof.Rows L2
/-! ### errors with one field (as in wip/k17 X17A, over this text) -/
structure ErrC (K : PySem.W.Frag) (C fI : Addr) (n : Str) : Prop where
  ox : OexC K C
  xf : XfC K C
  no : PySem.W.findIn K (.ref C) n = some none
  iC : PySem.W.findIn K (.ref C) "__init__" = some (some (.ref fI))
  tI : PySem.W.typeIn K (.ref fI) = some (.type "function")
  cl : (PySem.W.clsIn K C).isSome = true
  ha : PySem.W.findIn K (.ref C) "__class__" = some (some (.builtin "object.__class__"))
  hm : PySem.W.mroIn K C (.type "object") = some true
  hn : PySem.W.specialIn K (.builtin "object.__class__") "__get__" = some (some (.builtin "getset_descriptor.__get__"))
  tk : PySem.W.takesIn K (.builtin "object.__class__") = some true
def spErr (K : PySem.W.Frag) (n : Str) : Sp := fun vs H Q _ => ∃ (a C : Addr) (v : V), vs = [.ref a, v] ∧ OexC K C ∧ PySem.W.findIn K (.ref C) n = some none ∧ H a = some (exo a C none) ∧ ∀ dx, H dx = none → dx ≠ a → Q .non (upd (upd H dx (exd dx [(n, v)])) a (exo a C (some dx)))
theorem err_made {K : PySem.W.Frag} {C fI : Addr} {n : Str} (T : ErrC K C fI n) {v : V} {H : Hp} {Q : XK} (q : ∀ d H', Same H H' → H' d = some (.xd [(n, v)]) → Q (.ref C) (some d) H') :
    ∀ a, H a = none → spErr K n [.ref a, v] (upd H a (exo a C none)) (fun u H2 => u = .non ∧ ∃ (d : Addr) (fs : List (Str × V)), H2 a = some (exo a C (some d)) ∧ H2 d = some (exd d fs) ∧ H d = none ∧ Q (.ref C) (some d) (upd (del H2 a) d (.xd fs))) (fun _ _ _ => False) := by
  intro a na
  refine ⟨a, C, v, rfl, T.ox, T.no, upd_same, fun d nd da => ⟨rfl, d, [(n, v)], upd_same, ?_, ?_, ?_⟩⟩
  · rw [upd_ne da]
    exact upd_same
  · rw [upd_ne da] at nd
    exact nd
  · rw [upd_ne da] at nd
    refine q d _ (fun b o hb => ?_) upd_same
    have hba : b ≠ a := ne_of_none hb na
    have hbd : b ≠ d := ne_of_none hb nd
    rw [upd_ne hbd, del_ne hba, upd_ne hba, upd_ne hbd, upd_ne hba]
    exact hb
section
variable {X : Cx} {a D : Addr} {oe : Obj} {pn : List (Addr × Obj)} {d : Option Addr} {cls : Value}
def rIsX (K : PySem.W.Frag) (D a : Addr) (cls : Value) (d : Option Addr) : List V → Hp → VK → Prop := fun xs H Q => cls = .ref D ∧ ∃ (c : V) (cv : Value) (b : Bool) (dd : Addr) (fs : List (Str × V)), xs = [.ref a, c] ∧ ClsV c cv ∧ d = some dd ∧ H dd = some (.xd fs) ∧ PySem.W.kitOne K (.ref D) cv = some b ∧ Q (.bl b) H
theorem inst_at {pins : List (Addr × Obj)} {σ : L2.St} {H : Hp} {s : Shared} {dd : Addr} {fs : List (Str × V)} (hz : Zc (.ref D) (some dd) oe) (hf : ∃ vs, oe.data = .fields vs) (I : Inv (X.suite a ((a, oe) :: pn)) pins σ H s) (hd : H dd = some (.xd fs)) : ∃ od, PySem.W.InstAt s.heap a oe D (some od) := by
  obtain ⟨ha, _⟩ := I.pin (a, oe) (List.mem_append_left _ List.mem_cons_self)
  obtain ⟨vs, hv⟩ := hf
  have hx : ObjOk X.prog X.w H s.heap dd (.xd fs) := I.hok dd _ hd
  obtain ⟨mA, hns, _⟩ := hx
  obtain ⟨od, ho, _⟩ := lookIn_ns hns
  refine ⟨od, ha, hz.1, ?_, ?_⟩
  · unfold PySem.W.notCls
    rw [hv]
  · rw [hz.2]
    exact ho
theorem call_isX {fI : Addr} {n : Str} (T : ErrC X.K D fI n) (hz : Zc cls d oe) (hf : ∃ vs, oe.data = .fields vs) : CallR (X.suite a ((a, oe) :: pn)) (.builtin "isinstance") (rIsX X.K D a cls d) := by
  intro pins s σ H xs us Q I r h
  obtain ⟨rfl, c, cv, b, dd, fs, rfl, hc, rfl, hdd, e, q⟩ := h
  obtain ⟨u1, u2, rfl, r1, r2⟩ := vals2 r
  cases (show u1 = Value.ref a from r1)
  obtain rfl := hc.eq r2
  obtain ⟨od, J⟩ := inst_at hz hf I hdd
  exact PySem.W.kia_one (PySem.W.kitx_exc T.cl T.xf.ga T.xf.gg T.xf.exC T.ha T.hn T.tk T.hm) I.kIn J e (fun z => nomatch z) fun tk => ⟨.bl b, H, I.tok tk, rfl, q⟩
end
abbrev sInv : Stmt := inClass (topS 3) 0
theorem scInv : FnScope ["self", "what"] ["self", "what"] (defScope sInv) := ⟨rfl, rfl, rfl, by decide +kernel, rfl, by decide +kernel, by decide +kernel⟩
abbrev wWhat : Str := ("what" : String)
abbrev wName : Str := ("name" : String)
abbrev wTable : Str := ("table" : String)
abbrev wLanes : Str := ("_lanes" : String)
/-- a method of the text -/
structure Mm (K : PySem.W.Frag) (x qual : Str) (st : Stmt) (ps : List Str) (f : Addr) (fd : FuncData) : Prop where
  F : Fun K x qual st f fd
  b : Binds K fd ps []
section
variable {P : Program} {w : World} {K : PySem.W.Frag} {mg : Str → Option Value} {base : Heap}
theorem ok_inv {f : Addr} {fd : FuncData} {k : Nat} (F : Fun K "__init__" "Invalid.__init__" sInv f fd) : FnOk P w K mg base CX0 (k + 1) f fd ["self", "what"] (spErr K wWhat) := by
  refine F.ok scInv (fun vs H Q E h => ?_) (fun cdv A outer s H vs Q E hr h => ?_)
  · obtain ⟨a, C, v, rfl, _⟩ := h
    rfl
  · obtain ⟨a, C, v, rfl, ox, no, ha, q⟩ := h
    refine ⟨_, pss_one (ps_ost (pv 0) (pv 1)), ?_⟩
    exact ⟨v, rfl, .ref a, rfl, a, C, rfl, ox, no, .inl ⟨ha, fun dx nd da => q dx nd da⟩⟩
/-- the class Invalid and its __init__ -/
structure EInv (K : PySem.W.Frag) (mg : Str → Option Value) (C fI : Addr) (fdI : FuncData) : Prop where
  T : ErrC K C fI wWhat
  M : Mm K "__init__" "Invalid.__init__" sInv ["self", "what"] fI fdI
  g : mg "Invalid" = some (.ref C)
end
/-! ### heaps -/
def But (p : Addr) (H H' : Hp) : Prop := ∀ b o, H b = some o → b ≠ p → H' b = some o
theorem But.refl (p : Addr) (H : Hp) : But p H H := fun _ _ h _ => h
theorem But.trans {p : Addr} {H H1 H2 : Hp} (a : But p H H1) (b : But p H1 H2) : But p H H2 := fun c o h n => b c o (a c o h n) n
theorem But.upd {p : Addr} {H : Hp} {o : HO} : But p H (upd H p o) := fun b x e n => by rw [upd_ne n]; exact e
theorem Same.but {p : Addr} {H H' : Hp} (h : Same H H') : But p H H' := fun b o e _ => h b o e
/-! ### rows -/
def Good (ps : List Pr) : Prop := (∀ p ∈ ps, isAddr p.1 = true ∧ isLane p.2 = true) ∧ (ps.map Prod.fst).Nodup
def ok1 (kvs : Kvs) (p : Pr) : Bool := isAddr p.1 && isLane p.2 && (valV kvs (Sum.inr p.1)).isNone
theorem valV_kvP (k : Str) : ∀ ps : List Pr, (valV (kvP ps) (Sum.inr k)).isSome = true ↔ k ∈ ps.map Prod.fst
  | [] => by simp [kvP, valV]
  | p :: ps => by
    have ih := valV_kvP k ps
    by_cases c : p.1 = k
    · rw [show kvP (p :: ps) = (Sum.inr p.1, V.str p.2) :: kvP ps from rfl, valV_pos (by rw [c])]
      simp [c]
    · rw [show kvP (p :: ps) = (Sum.inr p.1, V.str p.2) :: kvP ps from rfl, valV_neg (by simpa using c), ih]
      simp [c, Ne.symm c, eq_comm]
theorem good_snoc {ps : List Pr} {p : Pr} (h : Good ps) (c : ok1 (kvP ps) p = true) : Good (ps ++ [p]) := by
  unfold ok1 at c
  rw [Bool.and_eq_true, Bool.and_eq_true] at c
  obtain ⟨⟨c1, c2⟩, c3⟩ := c
  refine ⟨fun q hq => ?_, ?_⟩
  · rcases List.mem_append.mp hq with hq | hq
    · exact h.1 q hq
    · cases List.mem_singleton.mp hq
      exact ⟨c1, c2⟩
  · rw [List.map_append, List.nodup_append]
    refine ⟨h.2, by simp, fun x hx y hy e => ?_⟩
    subst e
    rw [List.map_singleton, List.mem_singleton] at hy
    subst hy
    have := (valV_kvP p.1 ps).mpr hx
    rw [Option.isNone_iff_eq_none] at c3
    rw [c3] at this
    cases this
theorem good_ok {ps qs : List Pr} {p : Pr} (h : Good (ps ++ p :: qs)) : ok1 (kvP ps) p = true := by
  obtain ⟨h1, h2⟩ := h
  have a := h1 p (List.mem_append_right _ List.mem_cons_self)
  unfold ok1
  rw [a.1, a.2, Bool.true_and, Bool.true_and, Option.isNone_iff_eq_none]
  cases e : valV (kvP ps) (Sum.inr p.1) with
  | none => rfl
  | some v =>
    exfalso
    have m := (valV_kvP p.1 ps).mp (by rw [e]; rfl)
    rw [List.map_append, List.nodup_append] at h2
    exact h2.2.2 _ m _ (by simp) rfl
theorem put_snoc {ps : List Pr} {p : Pr} (c : ok1 (kvP ps) p = true) : putK (kvP ps) (Sum.inr p.1) (V.str p.2) = kvP (ps ++ [p]) := by
  unfold ok1 at c
  rw [Bool.and_eq_true] at c
  rw [putK_new _ (Option.isNone_iff_eq_none.mp c.2)]
  unfold kvP
  rw [List.map_append]
  rfl
end Tb
namespace Tb
open PySem PySem.Spec PyProof.Rows L2
open PySem.W (TotalLe dataLe)
/-! ### the order of the rows -/
def sLt (a b : Str) : Bool := decide (a.cps.toList < b.cps.toList)
theorem sLt_tri {a b : Str} (h1 : sLt a b = false) (h2 : sLt b a = false) : a = b := by
  have h1 : ¬ a.cps.toList < b.cps.toList := of_decide_eq_false h1
  have h2 : ¬ b.cps.toList < a.cps.toList := of_decide_eq_false h2
  have e : a.cps.toList = b.cps.toList := List.le_antisymm (List.not_lt.mp h2) (List.not_lt.mp h1)
  cases a; cases b
  simp only at e
  congr 1
  exact Array.ext' e
theorem lt2 (a b : Pr) : PySem.W.dataLt (enc2 a) (enc2 b) = if a.1 = b.1 then sLt a.2 b.2 else sLt a.1 b.1 := by
  have q : ∀ x y : Str, PyData.eqv (.str x) (.str y) = decide (x = y) := fun x y => by rw [PyData.eqv]; exact Bool.beq_eq_decide_eq x y
  unfold enc2
  rw [PySem.W.dataLt_pair (by simp [PySem.W.alike]) (by simp [PySem.W.alike]), q, q, PySem.W.dataLt_str, PySem.W.dataLt_str]
  by_cases c : a.1 = b.1
  · rw [if_pos (decide_eq_true c), if_pos c]
    by_cases c2 : a.2 = b.2
    · rw [if_pos (decide_eq_true c2), c2]
      exact (decide_eq_false (List.lt_irrefl _)).symm
    · rw [if_neg (by simpa using c2)]
      rfl
  · rw [if_neg (by simpa using c), if_neg c]
    rfl
theorem le2_eq (a b : Pr) : le2 a b = !(if b.1 = a.1 then sLt b.2 a.2 else sLt b.1 a.1) := by
  unfold le2
  rw [PySem.W.dataLe_eq]
  show (!PySem.W.dataLt (enc2 b) (enc2 a)) = _
  rw [lt2]
theorem le1_eq (a b : Str) : le1 a b = !sLt b a := by
  unfold le1
  rw [PySem.W.dataLe_eq]
  show (!PySem.W.dataLt (.str b) (.str a)) = _
  rw [PySem.W.dataLt_str]
  rfl
theorem le2_total : TotalLe le2 := by
  unfold le2 dataLe
  exact PySem.W.sortLe_total _ _ _
theorem le2_anti {a b : Pr} (h1 : le2 a b = true) (h2 : le2 b a = true) : a = b := by
  rw [le2_eq, Bool.not_eq_true'] at h1 h2
  by_cases c : a.1 = b.1
  · rw [if_pos c.symm] at h1
    rw [if_pos c] at h2
    exact Prod.ext c (sLt_tri h2 h1)
  · rw [if_neg (Ne.symm c)] at h1
    rw [if_neg c] at h2
    exact absurd (sLt_tri h2 h1) c
/-- the sorted list is one -/
theorem sort_perm {ps qs : List Pr} (h : ps.Perm qs) : ps.mergeSort le2 = qs.mergeSort le2 := by
  refine List.Perm.eq_of_pairwise (le := fun a b => le2 a b = true) (fun a b _ _ h1 h2 => le2_anti h1 h2) (PySem.W.sort_pairwise le2_total ps) (PySem.W.sort_pairwise le2_total qs) ?_
  exact ((List.mergeSort_perm ps le2).trans h).trans (List.mergeSort_perm qs le2).symm
/-- the first parts of the sorted rows are the sorted first parts -/
theorem sort_keys {ps : List Pr} (h : (ps.map Prod.fst).Nodup) : (ps.mergeSort le2).map Prod.fst = (ps.map Prod.fst).mergeSort le1 := by
  refine PySem.W.sort_maps (r := le2) (s := le1) Prod.fst fun a ha b hb => ?_
  rw [le2_eq, le1_eq]
  by_cases c : b.1 = a.1
  · have e : a = b := by
      have := List.pairwise_map.mp h
      exact Classical.byContradiction fun n => by
        have : ∀ (l : List Pr), l.Pairwise (fun x y => x.1 ≠ y.1) → ∀ x ∈ l, ∀ y ∈ l, x.1 = y.1 → x = y := by
          intro l hl
          induction hl with
          | nil => intro x hx; cases hx
          | cons h1 _ ih =>
            intro x hx y hy e
            rcases List.mem_cons.mp hx with rfl | hx
            · rcases List.mem_cons.mp hy with rfl | hy
              · rfl
              · exact absurd e (h1 y hy)
            · rcases List.mem_cons.mp hy with e2 | hy
              · rw [e2] at e; exact absurd e.symm (h1 x hx)
              · exact ih x hx y hy e
        exact n (this ps (List.pairwise_map.mp h) a ha b hb c.symm)
    rw [if_pos c, e]
    unfold sLt
    rw [decide_eq_false (List.lt_irrefl _), decide_eq_false (List.lt_irrefl _)]
  · rw [if_neg c]
theorem valV_mem {ps : List Pr} (h : (ps.map Prod.fst).Nodup) {p : Pr} (hp : p ∈ ps) : valV (kvP ps) (Sum.inr p.1) = some (.str p.2) := by
  induction ps with
  | nil => cases hp
  | cons q ps ih =>
    rw [List.map_cons, List.nodup_cons] at h
    show valV ((Sum.inr q.1, V.str q.2) :: kvP ps) _ = _
    rcases List.mem_cons.mp hp with rfl | hp
    · rw [valV_pos rfl]
    · rw [valV_neg, ih h.2 hp]
      intro e
      have e2 : q.1 = p.1 := Sum.inr.inj e
      exact h.1 (List.mem_map.mpr ⟨p, hp, e2.symm⟩)
theorem nodup_sort {ps : List Pr} (h : (ps.map Prod.fst).Nodup) : ((ps.mergeSort le2).map Prod.fst).Nodup := ((List.mergeSort_perm ps le2).map Prod.fst).nodup_iff.mpr h
theorem mem_sort {ps : List Pr} {p : Pr} : p ∈ ps.mergeSort le2 ↔ p ∈ ps := List.mem_mergeSort
theorem len_sort {ps : List Pr} : (ps.mergeSort le2).length = ps.length := List.length_mergeSort _
end Tb
namespace Tb
open PySem PySem.Spec PyProof.Rows L2
/-! ### texts by their signs -/
abbrev tl (z : Str) : List Nat := z.cps.toList
theorem len_tl (z : Str) : z.length = (tl z).length := (Array.length_toList).symm
theorem tl_one (c : Nat) : tl ⟨#[c]⟩ = [c] := rfl
theorem tl_app (a b : Str) : tl (a ++ b) = tl a ++ tl b := by
  show (a.cps ++ b.cps).toList = _
  rw [Array.toList_append]
theorem tl_hi (z : Str) (k : Nat) : tl (cutS z none (some (k : Int))) = (tl z).take k := by
  show ((z.cps.toList.drop (HT.sIx z.length 0 none)).take (HT.sIx z.length z.length (some (k : Int)) - HT.sIx z.length 0 none)).toArray.toList = _
  rw [List.toList_toArray, HT.sIx_nat, HT.sIx_none, List.drop_zero, Nat.sub_zero]
  by_cases h : k ≤ z.length
  · rw [Nat.min_eq_left h]
  · have : z.cps.toList.length = z.length := Array.length_toList
    rw [Nat.min_eq_right (by omega), ← this, List.take_length, List.take_of_length_le (by show z.cps.toList.length ≤ k; omega)]
theorem tl_lo (z : Str) (k : Nat) : tl (cutS z (some (k : Int)) none) = (tl z).drop k := by
  show ((z.cps.toList.drop (HT.sIx z.length 0 (some (k : Int)))).take (HT.sIx z.length z.length none - HT.sIx z.length 0 (some (k : Int)))).toArray.toList = _
  have e0 : z.cps.toList.length = z.length := Array.length_toList
  have e1 : HT.sIx z.length 0 (some (k : Int)) = min k z.length := HT.sIx_nat _ _ _
  rw [List.toList_toArray, e1, HT.sIx_none]
  have e2 : z.cps.toList.drop (min k z.length) = z.cps.toList.drop k := by
    by_cases h : k ≤ z.length
    · rw [Nat.min_eq_left h]
    · rw [Nat.min_eq_right (by omega), List.drop_eq_nil_of_le (by omega), List.drop_eq_nil_of_le (by omega)]
  rw [e2, List.take_of_length_le (by rw [List.length_drop]; omega)]
theorem tl_inj {a b : Str} (h : tl a = tl b) : a = b := by
  cases a; cases b
  congr 1
  exact Array.ext' h
def Sg (z : Str) : Prop := ∀ c ∈ tl z, c < 1114112
structure Tx (z : Str) : Prop where
  len : z.length ≤ 100
  sg : Sg z
def Nm (l : List Nat) : Prop := l.length ≤ 12 ∧ (∀ d ∈ l, isIn (letters ++ digits) d = true) ∧ ∃ c, l[0]? = some c ∧ isIn letters c = true
def Ad (l : List Nat) : Prop := 1 ≤ l.length ∧ l.length ≤ 8 ∧ ∀ d ∈ l, isIn digits d = true
theorem isName_iff (t : Str) : isName t = true ↔ Nm (tl t) := by
  have e0 : t.cps.toList.length = t.length := Array.length_toList
  unfold isName made Nm
  rw [Bool.and_eq_true, Bool.and_eq_true, Bool.and_eq_true, List.all_eq_true, decide_eq_true_eq, decide_eq_true_eq, ← Array.getElem?_toList]
  constructor
  · rintro ⟨⟨⟨h1, h2⟩, h3⟩, h4⟩
    refine ⟨by show t.cps.toList.length ≤ 12; omega, h3, ?_⟩
    cases e : t.cps.toList[0]? with
    | none => rw [e] at h4; cases h4
    | some c => rw [e] at h4; exact ⟨c, rfl, h4⟩
  · rintro ⟨h1, h2, c, h3, h4⟩
    have h1 : t.cps.toList.length ≤ 12 := h1
    have h3 : t.cps.toList[0]? = some c := h3
    have := (List.getElem?_eq_some_iff.mp h3).1
    rw [h3]
    exact ⟨⟨⟨by omega, by omega⟩, h2⟩, h4⟩
theorem isAddr_iff (t : Str) : isAddr t = true ↔ Ad (tl t) := by
  have e0 : t.cps.toList.length = t.length := Array.length_toList
  unfold isAddr made Ad
  rw [Bool.and_eq_true, Bool.and_eq_true, List.all_eq_true, decide_eq_true_eq, decide_eq_true_eq]
  constructor
  · rintro ⟨⟨h1, h2⟩, h3⟩
    exact ⟨by show 1 ≤ t.cps.toList.length; omega, by show t.cps.toList.length ≤ 8; omega, h3⟩
  · rintro ⟨h1, h2, h3⟩
    have h1 : 1 ≤ t.cps.toList.length := h1
    have h2 : t.cps.toList.length ≤ 8 := h2
    exact ⟨⟨by omega, by omega⟩, h3⟩
theorem in_lt {s : Str} (hs : (tl s).all (fun c => decide (c < 1114112)) = true) {c : Nat} (h : isIn s c = true) : c < 1114112 :=
  of_decide_eq_true (List.all_eq_true.mp hs c (of_decide_eq_true h))
theorem nm_tx {t : Str} (h : Nm (tl t)) : Tx t :=
  ⟨by rw [len_tl]; have := h.1; omega, fun c hc => in_lt (by decide +kernel) (h.2.1 c hc)⟩
theorem ad_tx {t : Str} (h : Ad (tl t)) : Tx t :=
  ⟨by rw [len_tl]; have := h.2.1; omega, fun c hc => in_lt (by decide +kernel) (h.2.2 c hc)⟩
/-- a sign put in the place -/
def rep (l : List Nat) (s d : Nat) : List Nat := l.take s ++ [d] ++ l.drop (s + 1)
theorem rep_len {l : List Nat} {s d : Nat} (h : s < l.length) : (rep l s d).length = l.length := by
  unfold rep
  rw [List.length_append, List.length_append, List.length_take, List.length_drop, List.length_singleton]
  omega
theorem rep_mem {l : List Nat} {s d e : Nat} (h : e ∈ rep l s d) : e ∈ l ∨ e = d := by
  unfold rep at h
  rcases List.mem_append.mp h with h | h
  · rcases List.mem_append.mp h with h | h
    · exact .inl (List.mem_of_mem_take h)
    · exact .inr (List.mem_singleton.mp h)
  · exact .inl (List.mem_of_mem_drop h)
theorem rep_head {l : List Nat} {s d : Nat} (h : s < l.length) : (rep l s d)[0]? = if s = 0 then some d else l[0]? := by
  unfold rep
  cases s with
  | zero => rfl
  | succ s =>
    cases l with
    | nil => cases h
    | cons a l => rfl
theorem rep_tl (t : Str) (s d : Nat) : tl ((cutS t none (some (s : Int)) ++ ⟨#[d]⟩) ++ cutS t (some ((s : Int) + 1)) none) = rep (tl t) s d := by
  rw [tl_app, tl_app, tl_hi, show ((s : Int) + 1) = ((s + 1 : Nat) : Int) from rfl, tl_lo]
  rfl
theorem nm_rep {l : List Nat} {s d : Nat} (h : Nm l) (hs : s < l.length) (hd : isIn (letters ++ digits) d = true) (h0 : s = 0 → isIn letters d = true) : Nm (rep l s d) := by
  obtain ⟨h1, h2, c, h3, h4⟩ := h
  refine ⟨by rw [rep_len hs]; exact h1, fun e he => ?_, ?_⟩
  · rcases rep_mem he with he | rfl
    · exact h2 e he
    · exact hd
  · rw [rep_head hs]
    by_cases e : s = 0
    · exact ⟨d, by rw [if_pos e], h0 e⟩
    · exact ⟨c, by rw [if_neg e]; exact h3, h4⟩
theorem ad_rep {l : List Nat} {s d : Nat} (h : Ad l) (hs : s < l.length) (hd : isIn digits d = true) : Ad (rep l s d) := by
  obtain ⟨h1, h2, h3⟩ := h
  refine ⟨by rw [rep_len hs]; exact h1, by rw [rep_len hs]; exact h2, fun e he => ?_⟩
  rcases rep_mem he with he | rfl
  · exact h3 e he
  · exact hd
abbrev LD : Str := (("abcdefghijklmnopqrstuvwxyz0123456789" : String) : Str)
theorem ld_len : (LD.length : Int) = 36 := by decide +kernel
theorem ld_any {n c : Nat} (h : LD.cps[n]? = some c) : isIn (letters ++ digits) c = true := by
  have k : ∀ m : Fin 36, isIn (letters ++ digits) (LD.cps[m.val]?.getD 0) = true := by decide +kernel
  have hl : n < 36 := by
    have := (Array.getElem?_eq_some_iff.mp h).1
    have e : LD.cps.size = 36 := by decide +kernel
    omega
  have := k ⟨n, hl⟩
  rw [h] at this
  exact this
theorem ld_lo {n c : Nat} (h : LD.cps[n]? = some c) (hn : n < 26) : isIn letters c = true := by
  have k : ∀ m : Fin 26, isIn letters (LD.cps[m.val]?.getD 0) = true := by decide +kernel
  have := k ⟨n, hn⟩
  rw [h] at this
  exact this
theorem dg_any {n c : Nat} (h : digits.cps[n]? = some c) : isIn digits c = true := decide_eq_true (by
  rw [Array.mem_toList_iff]
  exact Array.mem_of_getElem? h)
theorem dg_len : (digits.length : Int) = 10 := by decide +kernel
theorem at_sign {z : Str} {i : Int} (h : i < z.length) (h0 : 0 ≤ i) : ∃ c, z.cps[i.toNat]? = some c := by
  have : i.toNat < z.cps.size := by
    show i.toNat < z.length
    omega
  exact ⟨_, Array.getElem?_eq_getElem this⟩
theorem nm_app {l m : List Nat} (h : Nm l) (hm : ∀ d ∈ m, isIn (letters ++ digits) d = true) (hl : l.length + m.length ≤ 12) : Nm (l ++ m) := by
  obtain ⟨h1, h2, c, h3, h4⟩ := h
  refine ⟨by rw [List.length_append]; exact hl, fun e he => ?_, c, ?_, h4⟩
  · rcases List.mem_append.mp he with he | he
    · exact h2 e he
    · exact hm e he
  · rw [List.getElem?_append_left (List.getElem?_eq_some_iff.mp h3).1]
    exact h3
theorem nm_take {l : List Nat} (h : Nm l) {k : Nat} (hk : 0 < k) : Nm (l.take k) := by
  obtain ⟨h1, h2, c, h3, h4⟩ := h
  refine ⟨by rw [List.length_take]; omega, fun e he => h2 e (List.mem_of_mem_take he), c, ?_, h4⟩
  rw [List.getElem?_take, if_pos hk]
  exact h3
theorem nm_pos {l : List Nat} (h : Nm l) : 0 < l.length := by
  obtain ⟨_, _, c, h3, _⟩ := h
  exact (List.getElem?_eq_some_iff.mp h3).1
theorem num100 {k : Nat} (h : k < 100) : (tl (Str.ofString (toString (k : Int)))).length ≤ 2 ∧ ∀ d ∈ tl (Str.ofString (toString (k : Int))), isIn (letters ++ digits) d = true := by
  have k1 : ∀ m : Fin 100, (decide ((tl (Str.ofString (toString (m.val : Int)))).length ≤ 2) && (tl (Str.ofString (toString (m.val : Int)))).all (isIn (letters ++ digits))) = true := by decide +kernel
  have := k1 ⟨k, h⟩
  rw [Bool.and_eq_true, List.all_eq_true] at this
  exact ⟨of_decide_eq_true this.1, this.2⟩
end Tb
namespace Tb
open PySem PySem.Spec PyProof.Rows L2
abbrev NF8 : List Str := ["bag", "known", "letters", "text", "spot", "sign", "size", "k", "base"]
theorem dp_strs {K : PySem.W.Frag} {H : Hp} : ∀ ks : List Str, DpAll K H (ks.map V.str) (ks.map PyData.str)
  | [] => .nil
  | k :: ks => .cons (.str k) (dp_strs ks)
theorem strOk_sg {z : Str} (h : Sg z) : PySem.PyData.strOk z = true := by
  unfold PySem.PyData.strOk
  rw [Array.all_eq_true']
  intro c hc
  exact decide_eq_true (h c (Array.mem_toList_iff.mpr hc))
theorem lay_strs : ∀ {ks : List Str}, (∀ x ∈ ks, Tx x) → PyData.canLayAll0 (ks.map PyData.str) = true ∧ PyData.depthAll (ks.map PyData.str) ≤ 1
  | [], _ => by simp [PyData.canLayAll0, PyData.depthAll]
  | k :: ks, h => by
    obtain ⟨b1, b2⟩ := lay_strs (ks := ks) fun q hq => h q (List.mem_cons_of_mem _ hq)
    have a1 := strOk_sg (h k List.mem_cons_self).sg
    refine ⟨?_, ?_⟩
    · simp only [List.map_cons, PyData.canLayAll0, PyData.canLay0, a1, b1, Bool.and_true]
    · simp only [List.map_cons, PyData.depthAll, PyData.depth]
      omega
theorem shaped_strs {ks : List Str} (h : ∀ x ∈ ks, Tx x) : SeqAt.shaped (.list (ks.map PyData.str)) = true := by
  obtain ⟨h1, h2⟩ := lay_strs h
  show (PyData.canLay0 (.list (ks.map PyData.str)) && decide (PyData.depth (.list (ks.map PyData.str)) ≤ 64)) = true
  rw [Bool.and_eq_true]
  refine ⟨by simp only [PyData.canLay0]; exact h1, decide_eq_true ?_⟩
  simp only [PyData.depth]
  omega
theorem eqv_nil {ds : List PyData} : PyData.eqv (.list ds) (.list []) = ds.isEmpty := by
  cases ds <;> simp [PyData.eqv, PyData.eqvAll]
theorem flat_strs (ks : List Str) : (ks.map V.str).all flatV = true := by
  rw [List.all_map, List.all_eq_true]
  exact fun _ _ => rfl
theorem ifS_via {tc : TT} {t u : TS} {D : Ends} {σ : L2.St} {H : Hp} (R : Bool → Hp → Prop) (h : ∀ Q : Bool → Hp → Prop, (∀ b H1, R b H1 → Q b H1) → tc σ H Q) (k : ∀ b H1, R b H1 → (if b = true then t D σ H1 else u D σ H1)) : tIfS tc t u D σ H := h _ k
theorem at_nat {α : Type} {xs : List α} {i : Int} {v : α} (h0 : 0 ≤ i) (h : xs[i.toNat]? = some v) : atI xs i = some v := by
  have e : i = (i.toNat : Int) := by omega
  rw [e]
  exact atI_nat h
theorem pick {ks : List Str} {i : Int} (h0 : 0 ≤ i) (h1 : i < ((ks.map V.str).length : Int)) : ∃ x ∈ ks, atI (ks.map V.str) i = some (V.str x) := by
  rw [List.length_map] at h1
  have hl : i.toNat < ks.length := by omega
  refine ⟨ks[i.toNat], List.getElem_mem hl, at_nat h0 ?_⟩
  rw [List.getElem?_map, List.getElem?_eq_getElem hl]
  rfl
theorem app_len (a b : Str) : (a ++ b).length = a.length + b.length := by
  rw [len_tl, tl_app, List.length_append, ← len_tl, ← len_tl]
theorem one_len (c : Nat) : (⟨#[c]⟩ : Str).length = 1 := rfl
theorem cut_le (z : Str) (lo hi : Option Int) : (cutS z lo hi).length ≤ z.length := cutS_length z lo hi
def numT (k : Nat) : Str := Str.ofString (toString (k : Int))
theorem num_inj : ((List.range 99).map numT).Nodup := by decide +kernel
theorem sub_len {α : Type} [DecidableEq α] : ∀ (l D : List α), l.Nodup → (∀ x ∈ l, x ∈ D) → l.length ≤ D.length
  | [], _, _, _ => Nat.zero_le _
  | x :: l, D, hn, hs => by
    obtain ⟨h1, h2⟩ := List.nodup_cons.mp hn
    have hx := hs x List.mem_cons_self
    have ih := sub_len l (D.erase x) h2 fun y hy => (List.mem_erase_of_ne fun e => h1 (by rw [← e]; exact hy)).mpr (hs y (List.mem_cons_of_mem _ hy))
    have e := List.length_erase_of_mem hx
    have hp := List.length_pos_of_mem hx
    simp only [List.length_cons]
    omega
theorem app_inj {a b c : Str} (h : a ++ b = a ++ c) : b = c := by
  have e : tl (a ++ b) = tl (a ++ c) := by rw [h]
  rw [tl_app, tl_app] at e
  exact tl_inj (List.append_cancel_left e)
/-- ninety-nine texts on one base -/
theorem pigeon (bs : Str) (ks : List Str) (h : ∀ j, j < 99 → bs ++ numT j ∈ ks) : 99 ≤ ks.length := by
  have nd : (((List.range 99).map numT).map fun x => bs ++ x).Nodup := List.pairwise_map.mpr (List.Pairwise.imp (fun hne e => hne (app_inj e)) num_inj)
  have q := sub_len _ ks nd fun x hx => by
    rw [List.map_map] at hx
    obtain ⟨j, hj, rfl⟩ := List.mem_map.mp hx
    exact h j (List.mem_range.mp hj)
  rw [List.length_map, List.length_map, List.length_range] at q
  exact q
theorem inV_str {z : Str} {ks : List Str} (h : z ∈ ks) : inV (.str z) (ks.map V.str) = true := by
  unfold inV
  rw [List.any_map, List.any_eq_true]
  exact ⟨z, h, by show (z == z) = true; exact beq_self_eq_true z⟩
theorem str_inV {z : Str} {ks : List Str} (h : inV (.str z) (ks.map V.str) = true) : z ∈ ks := by
  unfold inV at h
  rw [List.any_map, List.any_eq_true] at h
  obtain ⟨x, hx, e⟩ := h
  have e2 : (z == x) = true ∨ (x == z) = true := by first | exact .inl e | exact .inr e
  rcases e2 with e2 | e2
  · rw [eq_of_beq e2]; exact hx
  · rw [← eq_of_beq e2]; exact hx
section
variable {P : Program} {w : World} {K : PySem.W.Frag} {mg : Str → Option Value} {base : Heap}
end
end Tb
namespace Tb
open PySem PySem.Spec PyProof.Rows L2
/-! ### where the script's box stands, and what stays -/
structure Bw where
  p : Addr
  a : Addr
  b : Addr
  c : Addr
def Off (β : Bw) (x : Addr) : Prop := x ≠ β.p ∧ x ≠ β.a ∧ x ≠ β.b ∧ x ≠ β.c
structure BoxAt (H : Hp) (β : Bw) : Prop where
  hp : H β.p = some (.lst [.ref β.a, .ref β.b, .ref β.c])
  ex : ∃ (cs rs : List Int) (t : Int), H β.a = some (.lst (cs.map V.int)) ∧ H β.b = some (.lst (rs.map V.int)) ∧ H β.c = some (.lst [.int t]) ∧ cs.length = rs.length ∧ 0 < cs.length ∧ cs.length ≤ 1000
  ab : β.a ≠ β.b
  ac : β.a ≠ β.c
  bc : β.b ≠ β.c
def Bq (β : Bw) (H H' : Hp) : Prop := ∀ x o, H x = some o → x ≠ β.b → x ≠ β.c → H' x = some o
/-- no list of whole numbers, or an empty one -/
def NI (o : HO) : Prop := ∀ ns : List Int, ns ≠ [] → o ≠ .lst (ns.map V.int)
theorem NI.strs (ks : List Str) : NI (.lst (ks.map V.str)) := fun ns h e => by
  cases ns with
  | nil => exact h rfl
  | cons n ns =>
    cases ks with
    | nil => cases e
    | cons k ks => cases e
theorem NI.refs {α : Type} (f : α → Addr) (ks : List α) : NI (.lst (ks.map fun k => V.ref (f k))) := fun ns h e => by
  cases ns with
  | nil => exact h rfl
  | cons n ns =>
    cases ks with
    | nil => cases e
    | cons k ks => cases e
theorem NI.tup (xs : List V) : NI (.tup xs) := fun ns h e => by cases e
theorem NI.ins (C dx : Addr) (fs : List (Str × V)) : NI (.ins C dx fs) := fun ns h e => by cases e
theorem NI.dK (kvs : Kvs) : NI (.dK kvs) := fun ns h e => by cases e
theorem Bq.refl (β : Bw) (H : Hp) : Bq β H H := fun _ _ h _ _ => h
theorem Bq.trans {β : Bw} {H H1 H2 : Hp} (a : Bq β H H1) (b : Bq β H1 H2) : Bq β H H2 := fun x o h n m => b x o (a x o h n m) n m
theorem Same.bq {β : Bw} {H H' : Hp} (h : Same H H') : Bq β H H' := fun x o e _ _ => h x o e
theorem Bq.put {β : Bw} {H H1 : Hp} {x : Addr} {o : HO} (b : Bq β H H1) (n : H x = none) : Bq β H (upd H1 x o) := fun y u e h1 h2 => by
  rw [upd_ne (ne_of_none e n)]
  exact b y u e h1 h2
theorem BoxAt.offN {H : Hp} {β : Bw} {x : Addr} (B : BoxAt H β) (n : H x = none) : Off β x := by
  obtain ⟨cs, rs, t, h1, h2, h3, _⟩ := B.ex
  exact ⟨fun e => (by rw [e, B.hp] at n; cases n), fun e => (by rw [e, h1] at n; cases n), fun e => (by rw [e, h2] at n; cases n), fun e => (by rw [e, h3] at n; cases n)⟩
theorem BoxAt.ne {H : Hp} {β : Bw} {x : Addr} {o : HO} (B : BoxAt H β) (e : H x = some o) (n : NI o) : x ≠ β.b ∧ x ≠ β.c := by
  obtain ⟨cs, rs, t, h1, h2, h3, h4, h5, _⟩ := B.ex
  refine ⟨fun z => ?_, fun z => ?_⟩
  · rw [z, h2] at e
    refine n rs (fun y => ?_) (Option.some.inj e).symm
    rw [y, List.length_nil] at h4
    omega
  · rw [z, h3] at e
    exact n [t] (by simp) (Option.some.inj e).symm
theorem BoxAt.same {H H' : Hp} {β : Bw} (B : BoxAt H β) (h : Same H H') : BoxAt H' β := by
  obtain ⟨hp, ⟨cs, rs, t, h1, h2, h3, r⟩, x, y, z⟩ := B
  exact ⟨h _ _ hp, ⟨cs, rs, t, h _ _ h1, h _ _ h2, h _ _ h3, r⟩, x, y, z⟩
theorem BoxAt.put {H : Hp} {β : Bw} {x : Addr} {o : HO} (B : BoxAt H β) (h : Off β x) : BoxAt (upd H x o) β := by
  obtain ⟨hp, ⟨cs, rs, t, h1, h2, h3, r⟩, a, b, c⟩ := B
  obtain ⟨n1, n2, n3, n4⟩ := h
  refine ⟨by rw [upd_ne (Ne.symm n1)]; exact hp, ⟨cs, rs, t, by rw [upd_ne (Ne.symm n2)]; exact h1, by rw [upd_ne (Ne.symm n3)]; exact h2, by rw [upd_ne (Ne.symm n4)]; exact h3, r⟩, a, b, c⟩
theorem BoxAt.new {H : Hp} {β : Bw} {x : Addr} {o : HO} (B : BoxAt H β) (n : H x = none) : BoxAt (upd H x o) β := B.put (B.offN n)
theorem BoxAt.keep {H H' : Hp} {β : Bw} {x : Addr} {o : HO} (B : BoxAt H β) (b : Bq β H H') (e : H x = some o) (n : NI o) : H' x = some o := b x o e (B.ne e n).1 (B.ne e n).2
theorem Bq.off {H H' : Hp} {β : Bw} {x : Addr} {o : HO} (b : Bq β H H') (h : Off β x) (e : H x = some o) : H' x = some o := b x o e h.2.2.1 h.2.2.2
theorem Bq.free {β : Bw} {H H2 : Hp} {x : Addr} (B : BoxAt H β) (b : Bq β H H2) (B2 : BoxAt H2 β) (n : H2 x = none) : H x = none := by
  cases e : H x with
  | none => rfl
  | some o =>
    have f := B2.offN n
    rw [b.off f e] at n
    cases n
/-- a def, and what it promises -/
structure C1 (P : Program) (w : World) (K : PySem.W.Frag) (mg : Str → Option Value) (base : Heap) (x : Str) (st : Stmt) (ps : List Str) (l : Nat) (sp : Sp) (g : Addr) (gd : FuncData) : Prop where
  D : Dd K mg x st ps g gd
  G : FnOk P w K mg base CX0 l g gd ps sp
/-- .. that may raise -/
structure C1X (P : Program) (w : World) (K : PySem.W.Frag) (mg : Str → Option Value) (base : Heap) (x : Str) (st : Stmt) (ps : List Str) (l : Nat) (sp : Sp) (g : Addr) (gd : FuncData) : Prop where
  D : Dd K mg x st ps g gd
  G : FnOk P w K mg base (L2.CX P w) l g gd ps sp
theorem cut_hi (xs : List V) (k : Nat) : cutV xs none (some (k : Int)) = xs.take k := by
  unfold cutV
  rw [HT.sIx_nat, HT.sIx_none, List.drop_zero, Nat.sub_zero]
  by_cases h : k ≤ xs.length
  · rw [Nat.min_eq_left h]
  · rw [Nat.min_eq_right (by omega), List.take_length, List.take_of_length_le (by omega)]
theorem cut_lo (xs : List V) (k : Nat) : cutV xs (some (k : Int)) none = xs.drop k := by
  unfold cutV
  rw [HT.sIx_none, HT.sIx_nat]
  by_cases h : k ≤ xs.length
  · rw [Nat.min_eq_left h]
    exact List.take_of_length_le (by rw [List.length_drop]; omega)
  · rw [Nat.min_eq_right (by omega), List.drop_length, List.drop_eq_nil_of_le (by omega), List.take_nil]
theorem small1000' {n : Nat} (h : n ≤ 1000) : n < sizeLine := by
  have hz : sizeLine = 16777216 := rfl
  omega
theorem take_snoc {α : Type} {L : List α} {i : Nat} {x : α} (h : L[i]? = some x) : L.take (i + 1) = L.take i ++ [x] := by
  rw [List.take_add_one, h]; rfl
theorem filter_take {α : Type} (p : α → Bool) (xs : List α) {i : Nat} {x : α} (h : xs[i]? = some x) : (xs.take (i + 1)).filter p = (xs.take i).filter p ++ (if p x = true then [x] else []) := by
  rw [List.take_add_one, h, List.filter_append]
  by_cases c : p x = true
  · rw [if_pos c]
    show _ ++ [x].filter p = _
    rw [List.filter_cons_of_pos c, List.filter_nil]
  · rw [if_neg c]
    show _ ++ [x].filter p = _
    rw [List.filter_cons_of_neg c, List.filter_nil]
theorem filt_true {α : Type} (xs : List α) : (xs.filter fun _ => true) = xs := List.filter_eq_self.mpr fun _ _ => rfl
theorem sqL_same {K : PySem.W.Frag} {H H' : Hp} {a : Addr} {xs : List V} (h : SqL K H a xs) (S : Same H H') : SqL K H' a xs := by
  rcases h with (h | ⟨o, h⟩) | h
  · exact .inl (.inl (S _ _ h))
  · exact .inl (.inr ⟨o, S _ _ h⟩)
  · exact .inr h
theorem strs_at {ks : List Str} {i : Nat} (h : i < ks.length) : (ks.map V.str)[i]? = some (.str ks[i]) := by
  rw [List.getElem?_map, List.getElem?_eq_getElem h]
  rfl
theorem tor_at {t u : TT} {σ : L2.St} {H : Hp} {Q : Bool → Hp → Prop} (c d : Bool) (h1 : ∀ Q' : Bool → Hp → Prop, Q' c H → t σ H Q') (h2 : c = false → ∀ Q' : Bool → Hp → Prop, Q' d H → u σ H Q') (q : Q (c || d) H) : tOr t u σ H Q := by
  refine h1 _ ?_
  cases c with
  | true => exact q
  | false => exact h2 rfl _ q
theorem tand_at {t u : TT} {σ : L2.St} {H : Hp} {Q : Bool → Hp → Prop} (c d : Bool) (h1 : ∀ Q' : Bool → Hp → Prop, Q' c H → t σ H Q') (h2 : c = true → ∀ Q' : Bool → Hp → Prop, Q' d H → u σ H Q') (q : Q (c && d) H) : tAnd t u σ H Q := by
  refine h1 _ ?_
  cases c with
  | true => exact h2 rfl _ q
  | false => exact q
theorem split_at {α : Type} {L : List α} {i : Nat} {x : α} (h : L[i]? = some x) : L = L.take i ++ x :: L.drop (i + 1) := by
  have li := (List.getElem?_eq_some_iff.mp h).1
  have e := (List.getElem?_eq_some_iff.mp h).2
  rw [← e, ← List.drop_eq_getElem_cons li, List.take_append_drop]
theorem inV_iff {x : Str} {ks : List Str} : inV (.str x) (ks.map V.str) = decide (x ∈ ks) := by
  by_cases h : x ∈ ks
  · rw [decide_eq_true h]; exact inV_str h
  · rw [decide_eq_false h]; exact Bool.eq_false_iff.mpr fun e => h (str_inV e)
/-- a comprehension over known items, each of which tells what it tells -/
theorem lc_w {α : Type} {J : It} {G : Hp → Prop} {Y : Nat → Hp → V → Hp → Prop} {D : Addr} {i : Nat} {cs : List α} {e : α → V} {H1 : Hp} {Qd : Hp → Prop} {σ : L2.St} {tt : TT} {te : TE} (p : α → Bool) (f : α → V) (wk : Walk J cs.length G Y) (hG : ∀ H, Same H1 H → G H) (hY : ∀ i H x H', Y i H x H' → H' = H ∧ (cs.map e)[i]? = some x) (nD : H1 D = none) (hlen : cs.length ≤ 1000)
    (hw : ∀ x, wipe ((wipe σ [i]).set i (some x)) [i] = wipe σ [i])
    (ht : ∀ z ∈ cs, ∀ H2, Same H1 H2 → ∀ R : Bool → Hp → Prop, (∀ H3, Same H2 H3 → R (p z) H3) → tt ((wipe σ [i]).set i (some (e z))) H2 R)
    (he : ∀ z ∈ cs, ∀ H2, Same H1 H2 → ∀ R : V → Hp → Prop, (∀ H3, Same H2 H3 → R (f z) H3) → te ((wipe σ [i]).set i (some (e z))) H2 R)
    (hd : ∀ H3, Same H1 H3 → H3 D = some (.lst ((cs.filter p).map f)) → Qd H3) :
    ∃ W : Nat → Nat → Hp → Prop, (∃ m, W 0 m (upd H1 D (.lst []))) ∧ ∀ n m H, W n m H →
      (J.stop n H ∧ Qd H) ∨ (J.go n H ∧ ∃ Nx : Hp → Prop, (∀ H', Nx H' → ∃ m', m' < m ∧ W (n + 1) m' H') ∧ ∀ x H', J.yld n H x H' → gName i x (wipe σ [i]) H' fun σ2 H2 => wipe σ2 [i] = wipe σ [i] ∧ tt σ2 H2 fun b H3 =>
        if b = true then te σ2 H3 fun y H4 => ∃ acc, H4 D = some (.lst acc) ∧ acc.length < sizeLine ∧ Nx (upd H4 D (.lst (acc ++ [y]))) else Nx H3) := by
  refine lc_it wk (fun n H3 => Same H1 H3 ∧ H3 D = some (.lst (((cs.take n).filter p).map f))) ⟨same_upd nD, upd_same⟩ (fun n H3 _ hP => hG H3 hP.1) (fun n v H3 H4 hn hP hy => ?_) (fun H3 hP => hd H3 hP.1 ?_)
  · obtain ⟨S3, hD⟩ := hP
    obtain ⟨rfl, ev⟩ := hY _ _ _ _ hy
    rw [List.getElem?_map] at ev
    cases ez : cs[n]? with
    | none => rw [ez] at ev; cases ev
    | some z =>
    rw [ez] at ev
    cases ev
    have mz : z ∈ cs := List.mem_of_getElem? ez
    refine ⟨hw _, ht z mz _ S3 _ fun H5 S5 => ?_⟩
    have ft := filter_take p cs ez
    have hD5 := S5 _ _ hD
    have S35 := S3.trans S5
    by_cases c : p z = true
    · rw [if_pos c] at ft
      rw [if_pos c]
      refine he z mz _ S35 _ fun H6 S6 => ⟨_, S6 _ _ hD5, ?_, ?_, ?_⟩
      · rw [List.length_map]
        exact small1000 (Nat.le_trans (List.length_filter_le _ _) (by rw [List.length_take]; omega))
      · intro b o hb
        rw [upd_ne (ne_of_none hb nD)]
        exact S6 _ _ (S35 _ _ hb)
      · rw [upd_same, ft, List.map_append]
        rfl
    · rw [if_neg c] at ft
      rw [if_neg c]
      refine ⟨S35, ?_⟩
      rw [hD5, ft, List.append_nil]
  · rw [hP.2, List.take_length]
/-- over a list -/
theorem lc_l {α : Type} {K : PySem.W.Frag} {a D : Addr} {i : Nat} {cs : List α} {e : α → V} {H1 : Hp} {Qd : Hp → Prop} {σ : L2.St} {tt : TT} {te : TE} (p : α → Bool) (f : α → V) (ha : H1 a = some (.lst (cs.map e))) (nD : H1 D = none) (hlen : cs.length ≤ 1000)
    (hw : ∀ x, wipe ((wipe σ [i]).set i (some x)) [i] = wipe σ [i])
    (ht : ∀ z ∈ cs, ∀ H2, Same H1 H2 → ∀ R : Bool → Hp → Prop, (∀ H3, Same H2 H3 → R (p z) H3) → tt ((wipe σ [i]).set i (some (e z))) H2 R)
    (he : ∀ z ∈ cs, ∀ H2, Same H1 H2 → ∀ R : V → Hp → Prop, (∀ H3, Same H2 H3 → R (f z) H3) → te ((wipe σ [i]).set i (some (e z))) H2 R)
    (hd : ∀ H3, Same H1 H3 → H3 D = some (.lst ((cs.filter p).map f)) → Qd H3) :
    ∃ W : Nat → Nat → Hp → Prop, (∃ m, W 0 m (upd H1 D (.lst []))) ∧ ∀ n m H, W n m H →
      ((Itl K a).stop n H ∧ Qd H) ∨ ((Itl K a).go n H ∧ ∃ Nx : Hp → Prop, (∀ H', Nx H' → ∃ m', m' < m ∧ W (n + 1) m' H') ∧ ∀ x H', (Itl K a).yld n H x H' → gName i x (wipe σ [i]) H' fun σ2 H2 => wipe σ2 [i] = wipe σ [i] ∧ tt σ2 H2 fun b H3 =>
        if b = true then te σ2 H3 fun y H4 => ∃ acc, H4 D = some (.lst acc) ∧ acc.length < sizeLine ∧ Nx (upd H4 D (.lst (acc ++ [y]))) else Nx H3) := by
  have wk := walk_list (K := K) (a := a) (xs := cs.map e)
  rw [List.length_map] at wk
  exact lc_w p f wk (fun H S => sqOf (S _ _ ha)) (fun i H x H' h => h) nD hlen hw ht he hd
end Tb
namespace Tb
open PySem PySem.Spec PyProof.Rows L2
abbrev sMixed : Stmt := topS 33
abbrev NMixed : List Str := ["cell", "turn", "one", "two"]
theorem scMixed : FnScope NMixed ["cell", "turn"] (defScope sMixed) := ⟨rfl, rfl, rfl, by decide +kernel, rfl, by decide +kernel, by decide +kernel⟩
abbrev sBox : Stmt := topS 34
abbrev NBox : List Str := ["script", "cells", "rests", "cell"]
theorem scBox : FnScope NBox ["script"] (defScope sBox) := ⟨rfl, rfl, rfl, by decide +kernel, rfl, by decide +kernel, by decide +kernel⟩
abbrev sDraw : Stmt := topS 35
abbrev NDraw : List Str := ["box", "many", "turn", "at", "rest"]
theorem scDraw : FnScope NDraw ["box", "many"] (defScope sDraw) := ⟨rfl, rfl, rfl, by decide +kernel, rfl, by decide +kernel, by decide +kernel⟩
section
variable {P : Program} {w : World} {K : PySem.W.Frag} {mg : Str → Option Value} {base : Heap}
theorem mod_in (x : Int) : -(2 ^ 64) < x % 2147483647 ∧ x % 2147483647 < 2 ^ 64 := by
  have h0 := Int.emod_nonneg x (show (2147483647 : Int) ≠ 0 by decide)
  have h1 := Int.emod_lt_of_pos x (show (0 : Int) < 2147483647 by decide)
  constructor <;> omega
theorem at_n {xs : List V} {i : Int} {j : Nat} {v : V} (e : i = (j : Int)) (h : xs[j]? = some v) : atI xs i = some v := by rw [e]; exact atI_nat h
theorem ix_n {n j : Nat} {i : Int} (e : i = (j : Int)) (h : j < n) : ixN n i = some j := by
  unfold ixN
  rw [if_pos (by omega), if_pos (by omega), e]
  rfl
def spMixed : Sp := fun vs H Q _ => ∃ (c t : Int), vs = [.int c, .int t] ∧ ∀ z, Q (.int z) H
theorem ok_mixed {f : Addr} {fd : FuncData} {k : Nat} (F : Fun K "_law_mixed" "_law_mixed" sMixed f fd) (B : Blt mg) : FnOk P w K mg base CX0 (k + 1) f fd ["cell", "turn"] spMixed := by
  refine F.ok scMixed (fun vs H Q E h => ?_) (fun cdv A outer s H vs Q E hr h => ?_)
  · obtain ⟨c, t, rfl, _⟩ := h
    rfl
  · obtain ⟨c, t, rfl, q⟩ := h
    refine ⟨_, (pss_cons (ps_set (i := 2) scMixed.nd rfl (.inl rfl) (pe_op op_mod (pe_callTy call_int1 (by rfl) B.int PyProof.Rows.boot_int (pa_cons (pe_op op_add (pe_op op_add (pe_op op_mul (pv 0) pe_int) (pe_op op_mul (pv 1) pe_int)) pe_int) pa_nil)) pe_int))
      (pss_cons (ps_set (i := 3) scMixed.nd rfl (.inl rfl) (pe_op op_mod (pe_callTy call_int1 (by rfl) B.int PyProof.Rows.boot_int (pa_cons (pe_op op_add (pe_op op_add (pe_op op_add (pe_op op_mul (pv 2) (pv 2)) (pe_op op_mul (pv 2) pe_int)) (pe_op op_mul (pv 1) pe_int)) pe_int) pa_nil)) pe_int))
      (pss_one (ps_ret (pe_op op_fdiv (pv 3) pe_int))))), ?_⟩
    refine ⟨.int c, rfl, _, _, rfl, rfl, .inr ⟨by decide, by decide⟩, .int t, rfl, _, _, rfl, rfl, .inr ⟨by decide, by decide⟩, _, _, rfl, rfl, _, _, rfl, rfl, .inl ⟨_, rfl, _, 2147483647, rfl, rfl, (by show (0 : Int) < 2147483647; decide), ?_⟩⟩
    refine ⟨.int _, rfl, .int _, rfl, _, _, rfl, rfl, .inl (mod_in _), .int _, rfl, _, _, rfl, rfl, .inr ⟨by decide, by decide⟩, _, _, rfl, rfl, .int t, rfl, _, _, rfl, rfl, .inr ⟨by decide, by decide⟩, _, _, rfl, rfl, _, _, rfl, rfl, .inl ⟨_, rfl, _, 2147483629, rfl, rfl, (by show (0 : Int) < 2147483629; decide), ?_⟩⟩
    exact ⟨_, rfl, _, 64, rfl, rfl, ⟨by decide, by decide⟩, q _⟩
def big (c : Int) : Int := c * (if decide (10 ^ Int.toNat 18 ≤ c) = true then 1 else 0)
def spBox (K : PySem.W.Frag) : Sp := fun vs H Q _ => ∃ (a : Addr) (ns : List Int), vs = [.ref a] ∧ SqL K H a (ns.map V.int) ∧ ns.length ≤ 1000 ∧ ∀ (β : Bw) (H' : Hp), Same H H' → BoxAt H' β → Q (.ref β.p) H'
theorem ok_box {f : Addr} {fd : FuncData} {k : Nat} (F : Fun K "_law_box" "_law_box" sBox f fd) (B : Blt mg) : FnOk P w K mg base CX0 (k + 1) f fd ["script"] (spBox K) := by
  refine F.ok scBox (fun vs H Q E h => ?_) (fun cdv A outer s H vs Q E hr h => ?_)
  · obtain ⟨a, ns, rfl, _⟩ := h
    rfl
  · obtain ⟨a, ns, rfl, hS, hn, q⟩ := h
    refine ⟨_, (pss_cons (ps_setLc (i := 1) (own := [("cell", 3)]) (g := gName 3) (by rfl) scBox.nd rfl rfl (sw_true rfl rfl rfl (by decide +kernel)) (pi_list (pe_slice sl_list (pv 0) po_none (po_some pe_int))) (blkOk_by (N := NBox) (sc := defScope sBox) (by decide +kernel)) (fun _ _ _ _ _ => pg_name (i := 3) scBox.nd rfl (Or.inl rfl)) (fun _ _ _ _ _ => pts_nil) (fun _ _ _ _ _ => pe_callTy call_int1 (by rfl) B.int PyProof.Rows.boot_int (pa_cons (pv 3) pa_nil)))
      (C8.pss_cut (ps_if (pt_cmpR op_eq (pe_callB call_len_seq (by rfl) B.len PySem.boot_len (pa_cons (pv 1) pa_nil)) pe_int (nomark _))
        (pss_one (ps_set (i := 1) scBox.nd rfl (.inl rfl) (pe_lst (pa_cons pe_int pa_nil))))
        pss_nil)
      (pss_cons (ps_setLc (i := 2) (own := [("cell", 3)]) (g := gName 3) (by rfl) scBox.nd rfl rfl (sw_true rfl rfl rfl (by decide +kernel)) (pi_list (pv 1)) (blkOk_by (N := NBox) (sc := defScope sBox) (by decide +kernel)) (fun _ _ _ _ _ => pg_name (i := 3) scBox.nd rfl (Or.inl rfl)) (fun _ _ _ _ _ => pts_nil) (fun _ _ _ _ _ => pe_op op_mul (pv 3) (pe_callTy call_int1 (by rfl) B.int PyProof.Rows.boot_int (pa_cons (pe_cmpR op_ge (pv 3) (pe_op op_pow pe_int pe_int) (nomark _)) pa_nil))))
      (pss_one (ps_ret (pe_lst (pa_cons (pv 1) (pa_cons (pv 2) (pa_cons (pe_lst (pa_cons pe_int pa_nil)) pa_nil))))))))), ?_⟩
    have hz : sizeLine = 16777216 := rfl
    refine ⟨.ref a, rfl, 63, rfl, a, _, rfl, hS, fun p np => ?_⟩
    rw [show cutV (ns.map V.int) none (some (63 : Int)) = (ns.take 63).map V.int from (cut_hi _ 63).trans (List.map_take ..).symm]
    have S1 := same_upd (o := .lst ((ns.take 63).map V.int)) np
    have hp : upd H p (.lst ((ns.take 63).map V.int)) p = some (.lst ((ns.take 63).map V.int)) := upd_same
    have l63 : (ns.take 63).length ≤ 63 := by rw [List.length_take]; omega
    generalize ns.take 63 = ms at S1 hp l63
    generalize upd H p _ = H1 at S1 hp
    refine ⟨p, rfl, ⟨_, sqOf hp⟩, fun D nD => lc_l (fun _ => true) (fun c => V.int c) hp nD (by omega) (fun _ => rfl) (fun c hc H2 S2 R hR => hR H2 (Same.refl _)) (fun c hc H2 S2 R hR => ⟨.int c, rfl, .inl ⟨c, rfl, hR H2 (Same.refl _)⟩⟩) (fun H2 S2 hD => ?_)⟩
    rw [filt_true] at hD
    have S12 := S1.trans S2
    clear hp S1 S2
    refine ⟨fun σ' H' => ∃ (C : Addr) (cs : List Int), σ' = [some (.ref a), some (.ref C), none, none] ∧ Same H H' ∧ H' C = some (.lst (cs.map V.int)) ∧ 0 < cs.length ∧ cs.length ≤ 1000, ?_, ?_⟩
    · refine ⟨.ref D, rfl, D, _, rfl, .inl (sqOf hD), rfl, _, rfl, ite2 (fun e => ?_) (fun e => ?_)⟩
      · refine ⟨by show 1 ≤ sizeLine; decide, fun C nC => ?_⟩
        exact ⟨C, [0], rfl, S12.trans (same_upd nC), upd_same, by decide, by decide⟩
      · refine ⟨D, ms, rfl, S12, hD, ?_, by omega⟩
        rcases Nat.eq_zero_or_pos ms.length with z | z
        · exact absurd (decide_eq_true (by rw [List.length_map, z]; rfl)) e
        · exact z
    · rintro σ' H3 ⟨C, cs, rfl, S3, hC, l0, l1⟩
      refine ⟨.ref C, rfl, C, rfl, ⟨_, sqOf hC⟩, fun R nR => lc_l (fun _ => true) (fun c => V.int (big c)) hC nR l1 (fun _ => rfl) (fun c hc H4 S4 R hR => hR H4 (Same.refl _)) (fun c hc H4 S4 R hR => ?_) (fun H4 S4 hR => ?_)⟩
      · refine ⟨.int c, rfl, .int c, rfl, 10, 18, rfl, rfl, ⟨by decide, by decide, by decide⟩, c, _, rfl, rfl, .inr ⟨_, rfl, c, _, rfl, rfl, .inr ?_, ?_⟩⟩
        · split <;> decide
        · exact hR H4 (Same.refl _)
      rw [filt_true] at hR
      have hC4 := S4 _ _ hC
      have hR : H4 R = some (.lst ((cs.map big).map V.int)) := by rw [hR, List.map_map]; rfl
      refine ⟨_, rfl, .ref R, rfl, by show 1 ≤ sizeLine; decide, fun T nT => ⟨by show 3 ≤ sizeLine; decide, fun p np => ?_⟩⟩
      have S5 := same_upd (o := .lst [.int 0]) nT
      have S6 := same_upd (o := .lst [.ref C, .ref R, .ref T]) np
      have nRC : C ≠ R := fun z => by rw [z] at hC; rw [nR] at hC; cases hC
      have hR5 := S5 _ _ hR
      have hC5 := S5 _ _ hC4
      have hT : upd H4 T (.lst [.int 0]) T = some (.lst [.int 0]) := upd_same
      refine q ⟨p, C, R, T⟩ _ ((S3.trans S4).trans (S5.trans S6)) ⟨upd_same, ⟨cs, cs.map big, 0, S6 _ _ hC5, S6 _ _ hR5, S6 _ _ hT, (List.length_map _).symm, l0, l1⟩, nRC, fun z => ?_, fun z => ?_⟩
      · rw [← show C = T from z, hC4] at nT; cases nT
      · rw [← show R = T from z, hR] at nT; cases nT
def spDraw : Sp := fun vs H Q _ => ∃ (β : Bw) (n : Int), vs = [.ref β.p, .int n] ∧ BoxAt H β ∧ 0 < n ∧ n < 2 ^ 60 ∧ ∀ (z : Int) (H' : Hp), 0 ≤ z → z < n → BoxAt H' β → Bq β H H' → Q (.int z) H'
theorem ok_draw {f g1 : Addr} {fd gd1 : FuncData} (F : Fun K "_law_draw" "_law_draw" sDraw f fd) (cMixed : C1 P w K mg base "_law_mixed" sMixed ["cell", "turn"] 1 spMixed g1 gd1) (B : Blt mg) : FnOk P w K mg base CX0 2 f fd ["box", "many"] spDraw := by
  refine F.ok scDraw (fun vs H Q E h => ?_) (fun cdv A outer s H vs Q E hr h => ?_)
  · obtain ⟨β, n, rfl, _⟩ := h
    rfl
  · obtain ⟨β, n, rfl, hB, n0, n1, q⟩ := h
    refine ⟨_, (pss_cons (ps_set (i := 2) scDraw.nd rfl (.inl rfl) (pe_ix ix_list (pe_ix ix_list (pv 0) pe_int (fun _ _ => rfl)) pe_int (fun _ _ => rfl)))
      (pss_cons (ps_asg (pe_op op_add (pv 2) pe_int) (pg_sub (pe_ix ix_list (pv 0) pe_int (fun _ _ => rfl)) pe_int set_list))
      (pss_cons (ps_set (i := 3) scDraw.nd rfl (.inl rfl) (pe_op op_mod (pe_callTy call_int1 (by rfl) B.int PyProof.Rows.boot_int (pa_cons (pv 2) pa_nil)) (pe_callB call_len_seq (by rfl) B.len PySem.boot_len (pa_cons (pe_ix ix_list (pv 0) pe_int (fun _ _ => rfl)) pa_nil))))
      (pss_cons (ps_set (i := 4) scDraw.nd rfl (.inl rfl) (pe_ix ix_list (pe_ix ix_list (pv 0) pe_int (fun _ _ => rfl)) (pv 3) (fun _ _ => rfl)))
      (pss_cons (ps_if (pt_cmpR op_gt (pv 4) pe_int (nomark _))
        (pss_cons (ps_asg (pe_op op_fdivW (pv 4) (pv 1)) (pg_sub (pe_ix ix_list (pv 0) pe_int (fun _ _ => rfl)) (pv 3) set_list))
        (pss_one (ps_ret (pe_op op_mod (pe_callTy call_int1 (by rfl) B.int PyProof.Rows.boot_int (pa_cons (pv 4) pa_nil)) (pv 1)))))
        pss_nil)
      (pss_one (ps_ret (pe_op op_mod (pe_callTy call_int1 (by rfl) B.int PyProof.Rows.boot_int (pa_cons (pe_call cMixed.G (hr.mono (by first | decide | omega)) (by rfl) cMixed.D.g cMixed.D.F.kp cMixed.D.b .nil pass0 (pa_cons (pe_ix ix_list (pe_ix ix_list (pv 0) pe_int (fun _ _ => rfl)) (pv 3) (fun _ _ => rfl)) (pa_cons (pv 2) pa_nil))) pa_nil)) (pv 1))))))))), ?_⟩
    obtain ⟨hp, ⟨cs, rs, t, h1, h2, h3, h4, h5, h6⟩, ab, ac, bc⟩ := id hB
    have pa : β.p ≠ β.a := fun z => by
      rw [z, h1] at hp
      cases cs with
      | nil => cases h5
      | cons c cs => cases hp
    have pb : β.p ≠ β.b := fun z => by
      rw [z, h2] at hp
      cases rs with
      | nil => cases hp
      | cons c cs => cases hp
    have pc : β.p ≠ β.c := fun z => by rw [z, h3] at hp; cases hp
    have hn9 : n.natAbs < 2 ^ 61 := by omega
    refine ⟨.ref β.p, rfl, β.p, _, 2, .ref β.c, rfl, rfl, sqOf hp, atI_nat (j := 2) rfl, β.c, _, 0, .int t, rfl, rfl, sqOf h3, atI_nat (j := 0) rfl, ?_⟩
    refine ⟨.int t, rfl, t, 1, rfl, rfl, .ref β.p, rfl, β.p, _, 2, .ref β.c, rfl, rfl, sqOf hp, atI_nat (j := 2) rfl, β.c, _, 0, 0, rfl, rfl, h3, rfl, ?_⟩
    have hB1 : BoxAt (upd H β.c (.lst [.int (t + 1)])) β := ⟨by rw [upd_ne pc]; exact hp, ⟨cs, rs, t + 1, by rw [upd_ne ac]; exact h1, by rw [upd_ne bc]; exact h2, upd_same, h4, h5, h6⟩, ab, ac, bc⟩
    have b1 : Bq β H (upd H β.c (.lst [.int (t + 1)])) := fun x o e _ n => by rw [upd_ne n]; exact e
    have e1 : upd H β.c (.lst ([V.int t].set 0 (.int (t + 1)))) = upd H β.c (.lst [.int (t + 1)]) := rfl
    rw [e1]
    have hpB := hB1.hp
    have h1B : upd H β.c (.lst [.int (t + 1)]) β.a = some (.lst (cs.map V.int)) := by rw [upd_ne ac]; exact h1
    have h2B : upd H β.c (.lst [.int (t + 1)]) β.b = some (.lst (rs.map V.int)) := by rw [upd_ne bc]; exact h2
    have h3B : upd H β.c (.lst [.int (t + 1)]) β.c = some (.lst [.int (t + 1)]) := upd_same
    generalize upd H β.c (.lst [.int (t + 1)]) = H1 at hB1 b1 hpB h1B h2B h3B
    refine ⟨.int t, rfl, .inl ⟨t, rfl, ?_⟩⟩
    refine ⟨.ref β.p, rfl, β.p, _, 0, .ref β.a, rfl, rfl, sqOf hpB, atI_nat (j := 0) rfl, β.a, _, rfl, .inl (sqOf h1B), t, _, rfl, rfl, ?_, ?_⟩
    · show (0 : Int) < ((cs.map V.int).length : Nat)
      rw [List.length_map]; omega
    rw [List.length_map]
    have a0 := Int.emod_nonneg t (show ((cs.length : Nat) : Int) ≠ 0 by omega)
    have a1 := Int.emod_lt_of_pos t (show (0 : Int) < ((cs.length : Nat) : Int) by omega)
    obtain ⟨j, hj⟩ : ∃ j : Nat, t % ((cs.length : Nat) : Int) = (j : Int) := ⟨(t % ((cs.length : Nat) : Int)).toNat, by omega⟩
    have jr : j < rs.length := by omega
    have jc : j < cs.length := by omega
    have er : (rs.map V.int)[j]? = some (.int rs[j]) := by rw [List.getElem?_map, List.getElem?_eq_getElem jr]; rfl
    have ec : (cs.map V.int)[j]? = some (.int cs[j]) := by rw [List.getElem?_map, List.getElem?_eq_getElem jc]; rfl
    refine ⟨.ref β.p, rfl, β.p, _, 1, .ref β.b, rfl, rfl, sqOf hpB, atI_nat (j := 1) rfl, .int _, rfl, β.b, _, _, .int rs[j], rfl, rfl, sqOf h2B, at_n hj er, ?_⟩
    refine ⟨.int rs[j], rfl, rs[j], 0, rfl, rfl, _, rfl, ite2 (fun e => ?_) (fun e => ?_)⟩
    · refine ⟨.int rs[j], rfl, .int n, rfl, rs[j], n, rfl, rfl, wide_div n0 hn9 (by decide) (by decide), .ref β.p, rfl, β.p, _, 1, .ref β.b, rfl, rfl, sqOf hpB, atI_nat (j := 1) rfl, .int _, rfl, β.b, _, _, j, rfl, rfl, h2B, ix_n hj (by rw [List.length_map]; exact jr), ?_⟩
      refine ⟨.int rs[j], rfl, .inl ⟨_, rfl, .int n, rfl, _, _, rfl, rfl, n0, ?_⟩⟩
      refine q _ _ (Int.emod_nonneg _ (by omega)) (Int.emod_lt_of_pos _ n0) ⟨by rw [upd_ne pb]; exact hpB, ⟨cs, rs.set j (rs[j] / n), t + 1, by rw [upd_ne ab]; exact h1B, ?_, by rw [upd_ne (Ne.symm bc)]; exact h3B, by rw [List.length_set]; exact h4, h5, h6⟩, ab, ac, bc⟩ (b1.trans fun x o e n _ => by rw [upd_ne n]; exact e)
      rw [upd_same, List.map_set]
    · refine ⟨.ref β.p, rfl, β.p, _, 0, .ref β.a, rfl, rfl, sqOf hpB, atI_nat (j := 0) rfl, .int _, rfl, β.a, _, _, .int cs[j], rfl, rfl, sqOf h1B, at_n hj ec, .int t, rfl, cs[j], t, rfl, fun z => ?_⟩
      exact .inl ⟨z, rfl, .int n, rfl, _, _, rfl, rfl, n0, q _ _ (Int.emod_nonneg _ (by omega)) (Int.emod_lt_of_pos _ n0) hB1 b1⟩
end
end Tb
namespace Tb
open PySem PySem.Spec PyProof.Rows L2
abbrev sLetter : Stmt := topS 36
abbrev NLetter : List Str := ["box", "first"]
theorem scLetter : FnScope NLetter ["box", "first"] (defScope sLetter) := ⟨rfl, rfl, rfl, by decide +kernel, rfl, by decide +kernel, by decide +kernel⟩
abbrev sWord : Stmt := topS 37
abbrev NWord : List Str := ["box", "count", "k"]
theorem scWord : FnScope NWord ["box"] (defScope sWord) := ⟨rfl, rfl, rfl, by decide +kernel, rfl, by decide +kernel, by decide +kernel⟩
abbrev sFresh : Stmt := topS 38
abbrev NFresh : List Str := ["box", "used", "stem", "way", "word", "at", "k"]
theorem scFresh : FnScope NFresh ["box", "used", "stem"] (defScope sFresh) := ⟨rfl, rfl, rfl, by decide +kernel, rfl, by decide +kernel, by decide +kernel⟩
theorem join_nil (ys : List Str) : tl (Txt.join (Str.ofString "") ys) = (ys.map tl).flatten := by
  show tl (Builtin.Str.glued _ _) = _
  rw [PySem.StrLaws.glued_eq_join]
  have he : tl (Str.ofString "") = [] := by decide +kernel
  induction ys with
  | nil => rfl
  | cons x r ih =>
    cases r with
    | nil =>
      show tl x = tl x ++ []
      rw [List.append_nil]
    | cons y r =>
      show tl (x ++ Str.ofString "" ++ Str.join (Str.ofString "") (y :: r)) = tl x ++ ((y :: r).map tl).flatten
      rw [tl_app, tl_app, he, List.append_nil]
      exact congrArg (tl x ++ ·) ih
abbrev CDraw (P : Program) (w : World) (K : PySem.W.Frag) (mg : Str → Option Value) (base : Heap) (g : Addr) (gd : FuncData) := C1 P w K mg base "_law_draw" sDraw ["box", "many"] 2 spDraw g gd
abbrev AB : Str := (("abcdefghijklmnopqrstuvwxyz" : String) : Str)
theorem ab_len : (AB.length : Int) = 26 := by decide +kernel
theorem ab_any {n c : Nat} (h : AB.cps[n]? = some c) : isIn letters c = true := by
  have k : ∀ m : Fin 26, isIn letters (AB.cps[m.val]?.getD 0) = true := by decide +kernel
  have hl : n < 26 := by
    have := (Array.getElem?_eq_some_iff.mp h).1
    have e : AB.cps.size = 26 := by decide +kernel
    omega
  have := k ⟨n, hl⟩
  rw [h] at this
  exact this
theorem lo_any {c : Nat} (h : isIn letters c = true) : isIn (letters ++ digits) c = true := by
  unfold isIn at *
  have := of_decide_eq_true h
  exact decide_eq_true (by
    show c ∈ (letters.cps ++ digits.cps).toList
    rw [Array.toList_append]
    exact List.mem_append_left _ this)
section
variable {P : Program} {w : World} {K : PySem.W.Frag} {mg : Str → Option Value} {base : Heap}
def spLetter : Sp := fun vs H Q _ => ∃ (β : Bw) (b : Bool), vs = [.ref β.p, .bl b] ∧ BoxAt H β ∧ ∀ (c : Nat) (H' : Hp), isIn (letters ++ digits) c = true → (b = true → isIn letters c = true) → BoxAt H' β → Bq β H H' → Q (.str ⟨#[c]⟩) H'
theorem ok_letter {f g1 : Addr} {fd gd1 : FuncData} (F : Fun K "_law_letter" "_law_letter" sLetter f fd) (cDraw : CDraw P w K mg base g1 gd1) (B : Blt mg) : FnOk P w K mg base CX0 3 f fd ["box", "first"] spLetter := by
  refine F.ok scLetter (fun vs H Q E h => ?_) (fun cdv A outer s H vs Q E hr h => ?_)
  · obtain ⟨β, b, rfl, _⟩ := h
    rfl
  · obtain ⟨β, b, rfl, hB, q⟩ := h
    refine ⟨_, (pss_cons (ps_if (pt_val (pv 1))
        (pss_one (ps_ret (pe_item_str pe_str (pe_call cDraw.G (hr.mono (by first | decide | omega)) (by rfl) cDraw.D.g cDraw.D.F.kp cDraw.D.b .nil pass0 (pa_cons (pv 0) (pa_cons pe_int pa_nil))) (fun _ _ => rfl))))
        pss_nil)
      (pss_one (ps_ret (pe_item_str pe_str (pe_call cDraw.G (hr.mono (by first | decide | omega)) (by rfl) cDraw.D.g cDraw.D.F.kp cDraw.D.b .nil pass0 (pa_cons (pv 0) (pa_cons pe_int pa_nil))) (fun _ _ => rfl))))), ?_⟩
    have h26 := ab_len
    have h36 := ld_len
    refine ⟨.bl b, rfl, b, rfl, ite2 (fun e => ?_) (fun e => ?_)⟩
    · refine ⟨.ref β.p, rfl, β, 26, rfl, hB, by decide, by decide, fun z H1 z0 z1 B1 b1 => ?_⟩
      obtain ⟨c, ec⟩ := at_sign (z := AB) (i := z) (by omega) z0
      exact ⟨AB, z, c, rfl, rfl, z0, by omega, by omega, ec, q c H1 (lo_any (ab_any ec)) (fun _ => ab_any ec) B1 b1⟩
    · refine ⟨.ref β.p, rfl, β, 36, rfl, hB, by decide, by decide, fun z H1 z0 z1 B1 b1 => ?_⟩
      obtain ⟨c, ec⟩ := at_sign (z := LD) (i := z) (by omega) z0
      exact ⟨LD, z, c, rfl, rfl, z0, by omega, by omega, ec, q c H1 (ld_any ec) (fun z => absurd z e) B1 b1⟩
abbrev CLetter (P : Program) (w : World) (K : PySem.W.Frag) (mg : Str → Option Value) (base : Heap) (g : Addr) (gd : FuncData) := C1 P w K mg base "_law_letter" sLetter ["box", "first"] 3 spLetter g gd
def spWord : Sp := fun vs H Q _ => ∃ (β : Bw), vs = [.ref β.p] ∧ BoxAt H β ∧ ∀ (z : Str) (H' : Hp), Nm (tl z) → BoxAt H' β → Bq β H H' → Q (.str z) H'
abbrev one (c : Nat) : Str := ⟨#[c]⟩
theorem sum_one : ∀ cs : List Nat, (List.map (fun x => x.length) (List.map one cs)).sum = cs.length
  | [] => rfl
  | c :: cs => by
    show 1 + (List.map (fun x : Str => x.length) (List.map one cs)).sum = cs.length + 1
    rw [sum_one cs]; omega
theorem ok_word {f g1 g2 : Addr} {fd gd1 gd2 : FuncData} (F : Fun K "_law_word" "_law_word" sWord f fd) (cDraw : CDraw P w K mg base g1 gd1) (cLetter : CLetter P w K mg base g2 gd2) (B : Blt mg) : FnOk P w K mg base CX0 4 f fd ["box"] spWord := by
  refine F.ok scWord (fun vs H Q E h => ?_) (fun cdv A outer s H vs Q E hr h => ?_)
  · obtain ⟨β, rfl, _⟩ := h
    rfl
  · obtain ⟨β, rfl, hB, q⟩ := h
    refine ⟨_, (pss_cons (ps_set (i := 1) scWord.nd rfl (.inl rfl) (pe_ix ix_list (pe_lst (pa_cons pe_int (pa_cons pe_int (pa_cons pe_int (pa_cons pe_int (pa_cons (pe_op op_add pe_int (pe_call cDraw.G (hr.mono (by first | decide | omega)) (by rfl) cDraw.D.g cDraw.D.F.kp cDraw.D.b .nil pass0 (pa_cons (pv 0) (pa_cons pe_int pa_nil)))) pa_nil)))))) (pe_call cDraw.G (hr.mono (by first | decide | omega)) (by rfl) cDraw.D.g cDraw.D.F.kp cDraw.D.b .nil pass0 (pa_cons (pv 0) (pa_cons pe_int pa_nil))) (fun _ _ => rfl)))
      (pss_one (ps_ret (pe_join pe_str (pe_lc (own := [("k", 2)]) (g := gName 2) (by rfl) scWord.nd (pi_range1 (by rfl) B.range (pa_cons (pv 1) pa_nil)) (blkOk_by (N := NWord) (sc := defScope sWord) (by decide +kernel)) (fun _ _ _ _ _ => pg_name (i := 2) scWord.nd rfl (Or.inl rfl)) (fun _ _ _ _ _ => pts_nil) (fun _ _ _ _ _ => pe_call cLetter.G (hr.mono (by first | decide | omega)) (by rfl) cLetter.D.g cLetter.D.F.kp cLetter.D.b .nil pass0 (pa_cons (pv 0) (pa_cons (pe_cmpR op_eq (pv 2) pe_int (nomark _)) pa_nil)))))))), ?_⟩
    have hz : sizeLine = 16777216 := rfl
    refine ⟨.ref β.p, rfl, β, 12, rfl, hB, by decide, by decide, fun z H1 z0 z1 B1 b1 => ⟨1, z, rfl, rfl, by show 5 ≤ sizeLine; omega, fun L nL => ?_⟩⟩
    have B2 := B1.new (o := .lst [.int 1, .int 2, .int 3, .int 12, .int (1 + z)]) nL
    have oL := B1.offN nL
    have hL : upd H1 L (.lst [.int 1, .int 2, .int 3, .int 12, .int (1 + z)]) L = _ := upd_same
    have S2 := same_upd (o := .lst [.int 1, .int 2, .int 3, .int 12, .int (1 + z)]) nL
    refine ⟨.ref β.p, rfl, β, 5, rfl, B2, by decide, by decide, fun u H3 u0 u1 B3 b3 => ?_⟩
    have hL3 := b3.off oL hL
    obtain ⟨n, hn, n0, n1⟩ : ∃ n : Int, atI [V.int 1, V.int 2, V.int 3, V.int 12, V.int (1 + z)] u = some (.int n) ∧ 1 ≤ n ∧ n ≤ 12 := by
      obtain ⟨j, rfl⟩ : ∃ j : Nat, u = (j : Int) := ⟨u.toNat, by omega⟩
      match j, u1 with
      | 0, _ => exact ⟨1, atI_nat rfl, by omega, by omega⟩
      | 1, _ => exact ⟨2, atI_nat rfl, by omega, by omega⟩
      | 2, _ => exact ⟨3, atI_nat rfl, by omega, by omega⟩
      | 3, _ => exact ⟨12, atI_nat rfl, by omega, by omega⟩
      | 4, _ => exact ⟨1 + z, atI_nat rfl, by omega, by omega⟩
    have b13 := (b1.trans (Same.bq S2)).trans b3
    refine ⟨L, _, u, .int n, rfl, rfl, sqOf hL3, hn, ?_⟩
    refine ⟨⟨_, rfl⟩, .int n, rfl, n, rfl, by omega, by omega, fun D nD => ?_⟩
    have oD := B3.offN nD
    have D0 := b13.free hB B3 nD
    refine lc_range (lo := 0) (n := n.toNat) (fun i H4 => BoxAt H4 β ∧ Bq β H H4 ∧ ∃ cs : List Nat, H4 D = some (.lst ((cs.map one).map V.str)) ∧ cs.length = i ∧ (∀ c ∈ cs, isIn (letters ++ digits) c = true) ∧ ∀ c, cs[0]? = some c → isIn letters c = true) ⟨B3.new nD, b13.put D0, [], upd_same, rfl, nofun, nofun⟩ (fun i H4 hi hP => ?_) (fun H4 hP => ?_)
    · obtain ⟨B4, b4, cs, hD, lc, hc, h0⟩ := hP
      refine ⟨rfl, .ref β.p, rfl, .int (0 + (i : Int)), rfl, rfl, β, _, rfl, B4, fun c H5 c1 c2 B5 b5 => ?_⟩
      refine ⟨_, b5.off oD hD, by rw [List.length_map, List.length_map]; exact small1000' (by omega), B5.put oD, (b4.trans b5).put D0, cs ++ [c], ?_, by rw [List.length_append, lc]; rfl, fun d hd => ?_, fun d hd => ?_⟩
      · rw [upd_same, List.map_append, List.map_append]; rfl
      · rcases List.mem_append.mp hd with hd | hd
        · exact hc d hd
        · rw [List.mem_singleton.mp hd]; exact c1
      · cases cs with
        | nil =>
          have : i = 0 := lc.symm
          subst this
          cases hd
          exact c2 (by decide)
        | cons e es => exact h0 d hd
    · obtain ⟨B4, b4, cs, hD, lc, hc, h0⟩ := hP
      have ec : tl (Txt.join (Str.ofString "") (cs.map one)) = cs := by
        rw [join_nil, List.map_map]
        clear lc hc h0 hD
        induction cs with
        | nil => rfl
        | cons c cs ih => exact congrArg (c :: ·) ih
      refine ⟨Str.ofString "", D, cs.map one, rfl, rfl, .inl (sqOf hD), ?_, q _ H4 ?_ B4 b4⟩
      · rw [sum_one, show (Str.ofString "").length = 0 by decide +kernel]; omega
      · rw [ec]
        cases cs with
        | nil => simp at lc; omega
        | cons c cs => exact ⟨by omega, hc, c, rfl, h0 c rfl⟩
abbrev CWord (P : Program) (w : World) (K : PySem.W.Frag) (mg : Str → Option Value) (base : Heap) (g : Addr) (gd : FuncData) := C1 P w K mg base "_law_word" sWord ["box"] 4 spWord g gd
def zed (k : Nat) : Str := Str.ofString "z" ++ numT k
theorem zed_nm {k : Nat} (h : k < 100) : Nm (tl (zed k)) := by
  obtain ⟨h1, h2⟩ := num100 h
  have e : tl (zed k) = tl (Str.ofString "z") ++ tl (numT k) := tl_app _ _
  rw [e]
  have z : Nm (tl (Str.ofString "z")) := (isName_iff _).mp (by decide +kernel)
  exact nm_app z h2 (by have : (tl (Str.ofString "z")).length = 1 := by decide +kernel
                        have h1 : (tl (numT k)).length ≤ 2 := h1
                        omega)
theorem zed_out {n : Nat} {ks : List Str} (hn : ks.length = n) (h : n < 98) (hz : ∀ j, j < n + 1 → zed j ∈ ks) : False := by
  have nd : ((List.range (n + 1)).map zed).Nodup := by
    have h0 : ((List.range (n + 1)).map numT).Nodup := by
      have := num_inj
      have e : List.range 99 = List.range (n + 1) ++ (List.range 99).drop (n + 1) := by
        rw [← List.take_append_drop (n + 1) (List.range 99), List.take_range, Nat.min_eq_left (by omega), List.drop_append, List.length_range]
        simp
      rw [e, List.map_append] at this
      exact (List.nodup_append.mp this).1
    have e2 : (List.range (n + 1)).map zed = ((List.range (n + 1)).map numT).map (Str.ofString "z" ++ ·) := by rw [List.map_map]; rfl
    rw [e2]
    exact List.pairwise_map.mpr (h0.imp fun {a b} hab e => hab (app_inj e))
  have := sub_len _ ks nd fun x hx => by
    obtain ⟨j, hj, rfl⟩ := List.mem_map.mp hx
    exact hz j (List.mem_range.mp hj)
  rw [List.length_map, List.length_range] at this
  omega
/-- a list of names -/
structure NmL (H : Hp) (l : Addr) (ks : List Str) : Prop where
  l : H l = some (.lst (ks.map V.str))
  n : ∀ x ∈ ks, Nm (tl x)
theorem NmL.bq {H H' : Hp} {β : Bw} {l : Addr} {ks : List Str} (h : NmL H l ks) (B : BoxAt H β) (b : Bq β H H') : NmL H' l ks := ⟨B.keep b h.l (NI.strs _), h.n⟩
def spFresh : Sp := fun vs H Q _ => ∃ (β : Bw) (l : Addr) (ks : List Str) (st : Str), vs = [.ref β.p, .ref l, .str st] ∧ BoxAt H β ∧ NmL H l ks ∧ Nm (tl st) ∧ ks.length < 98 ∧ ∀ (z : Str) (H' : Hp), Nm (tl z) → z ∉ ks → BoxAt H' β → Bq β H H' → Q (.str z) H'
theorem ok_fresh {f g1 g2 g3 : Addr} {fd gd1 gd2 gd3 : FuncData} (F : Fun K "_law_fresh" "_law_fresh" sFresh f fd) (cDraw : CDraw P w K mg base g1 gd1) (cLetter : CLetter P w K mg base g2 gd2) (cWord : CWord P w K mg base g3 gd3) (B : Blt mg) : FnOk P w K mg base CX0 5 f fd ["box", "used", "stem"] spFresh := by
  refine F.ok scFresh (fun vs H Q E h => ?_) (fun cdv A outer s H vs Q E hr h => ?_)
  · obtain ⟨β, l, ks, st, rfl, _⟩ := h
    rfl
  · obtain ⟨β, l, ks, st, rfl, hB, hL, hs, hn, q⟩ := h
    refine ⟨_, (pss_cons (ps_set (i := 3) scFresh.nd rfl (.inl rfl) (pe_call cDraw.G (hr.mono (by first | decide | omega)) (by rfl) cDraw.D.g cDraw.D.F.kp cDraw.D.b .nil pass0 (pa_cons (pv 0) (pa_cons pe_int pa_nil))))
      (pss_cons (ps_set (i := 4) scFresh.nd rfl (.inl rfl) (pe_call cWord.G (hr.mono (by first | decide | omega)) (by rfl) cWord.D.g cWord.D.F.kp cWord.D.b .nil pass0 (pa_cons (pv 0) pa_nil)))
      (C8.pss_cut (ps_if (pt_cmpR op_eq (pv 3) pe_int (nomark _))
        (pss_cons (ps_set (i := 5) scFresh.nd rfl (.inl rfl) (pe_call cDraw.G (hr.mono (by first | decide | omega)) (by rfl) cDraw.D.g cDraw.D.F.kp cDraw.D.b .nil pass0 (pa_cons (pv 0) (pa_cons (pe_callB call_len_str (by rfl) B.len PySem.boot_len (pa_cons (pv 2) pa_nil)) pa_nil))))
        (pss_one (ps_set (i := 4) scFresh.nd rfl (.inl rfl) (pe_op op_add_str (pe_op op_add_str (pe_slice sl_str (pv 2) po_none (po_some (pv 5))) (pe_call cLetter.G (hr.mono (by first | decide | omega)) (by rfl) cLetter.D.g cLetter.D.F.kp cLetter.D.b .nil pass0 (pa_cons (pv 0) (pa_cons (pe_cmpR op_eq (pv 5) pe_int (nomark _)) pa_nil)))) (pe_slice sl_str (pv 2) (po_some (pe_op op_add (pv 5) pe_int)) po_none)))))
        pss_nil)
      (C8.pss_cut (ps_if (pt_cmpR op_eq (pv 3) pe_int (nomark _))
        (pss_one (ps_set (i := 4) scFresh.nd rfl (.inl rfl) (pe_slice sl_str (pv 4) po_none (po_some pe_int))))
        pss_nil)
      (pss_cons (ps_for PassesOwn.never rfl (pi_range1 (by rfl) B.range (pa_cons (pe_op op_add (pe_callB call_len_seq (by rfl) B.len PySem.boot_len (pa_cons (pv 1) pa_nil)) pe_int) pa_nil)) (pg_name (i := 6) scFresh.nd rfl (.inl rfl))
        (pss_one (ps_if (pt_cmpR op_in_seq (pv 4) (pv 1) (by rfl))
          (pss_one (ps_set (i := 4) scFresh.nd rfl (.inl rfl) (pe_op op_add_str pe_str (pe_callTy call_str_int (by rfl) B.str PyProof.Rows.boot_str (pa_cons (pv 6) pa_nil)))))
          pss_nil)))
      (pss_one (ps_ret (pv 4)))))))), ?_⟩
    have hz : sizeLine = 16777216 := rfl
    have tpos := nm_pos hs
    have tmax := hs.1
    have el : st.length = (tl st).length := len_tl st
    refine ⟨.ref β.p, rfl, β, 3, rfl, hB, by decide, by decide, fun v H1 v0 v1 B1 b1 => ?_⟩
    refine ⟨.ref β.p, rfl, β, rfl, B1, fun wd H2 nw B2 b2 => ?_⟩
    have b02 := b1.trans b2
    refine ⟨fun σ' H' => ∃ (t : Str) (y5 : Option V), σ' = [some (.ref β.p), some (.ref l), some (.str st), some (.int v), some (.str t), y5, none] ∧ Nm (tl t) ∧ BoxAt H' β ∧ Bq β H H', ?_, ?_⟩
    · refine ⟨.int v, rfl, rfl, _, rfl, ite2 (fun e => ?_) (fun e => ?_)⟩
      · refine ⟨.ref β.p, rfl, .str st, rfl, st, rfl, by omega, β, _, rfl, B2, by omega, by omega, fun s H3 s0 s1 B3 b3 => ?_⟩
        obtain ⟨s, rfl⟩ : ∃ k : Nat, s = (k : Int) := ⟨s.toNat, by omega⟩
        refine ⟨.str st, rfl, .int (s : Int), rfl, (s : Int), rfl, st, rfl, by omega, .ref β.p, rfl, .int (s : Int), rfl, rfl, β, _, rfl, B3, fun c H4 c1 c2 B4 b4 => ?_⟩
        have l1 := cut_le st none (some (s : Int))
        have l2 := cut_le st (some ((s : Int) + 1)) none
        refine ⟨_, _, rfl, rfl, by rw [one_len]; omega, .str st, rfl, .int (s : Int), rfl, (s : Int), 1, rfl, rfl, (s : Int) + 1, rfl, st, rfl, by omega, _, _, rfl, rfl, by rw [app_len, one_len]; omega, ?_⟩
        refine ⟨_, _, rfl, ?_, B4, (b02.trans b3).trans b4⟩
        rw [rep_tl]
        exact nm_rep hs (by omega) c1 (fun z => c2 (by rw [z]; decide))
      · exact ⟨wd, none, rfl, nw, B2, b02⟩
    rintro σ' H3 ⟨t, y5, rfl, nt, B3, b3⟩
    refine ⟨fun σ' H' => ∃ (t : Str), σ' = [some (.ref β.p), some (.ref l), some (.str st), some (.int v), some (.str t), y5, none] ∧ Nm (tl t) ∧ H' = H3, ?_, ?_⟩
    · refine ⟨.int v, rfl, rfl, _, rfl, ite2 (fun e => ?_) (fun e => ?_)⟩
      · refine ⟨.str t, rfl, 1, rfl, t, rfl, by have := nt.1; rw [len_tl]; omega, ?_⟩
        refine ⟨_, rfl, ?_, rfl⟩
        rw [show (1 : Int) = ((1 : Nat) : Int) from rfl, tl_hi]
        exact nm_take nt (by decide)
      · exact ⟨t, rfl, nt, rfl⟩
    rintro σ' H' ⟨t, rfl, nt, rfl⟩
    have hL3 := hL.bq hB b3
    refine ⟨.ref l, rfl, l, _, rfl, .inl (sqOf hL3.l), _, 1, rfl, rfl, _, rfl, ?_, ?_, ?_⟩
    · rw [List.length_map]; omega
    · rw [List.length_map]; omega
    rw [List.length_map]
    refine for_range (lo := 0) (n := ((ks.length : Nat) + 1 : Int).toNat) (fun i σ H4 => H4 = H' ∧ ∃ (t : Str) (y6 : Option V), σ = [some (.ref β.p), some (.ref l), some (.str st), some (.int v), some (.str t), y5, y6] ∧ Nm (tl t) ∧ (t ∉ ks ∨ ∀ j, j < i → (zed j ∈ ks ∨ (j + 1 = i ∧ t = zed j)))) ⟨rfl, t, none, rfl, nt, .inr fun j hj => absurd hj (Nat.not_lt_zero _)⟩ ?_ ?_
    · rintro i σ H4 hi ⟨rfl, t, y6, rfl, nt, ht⟩
      have hi : i < ks.length + 1 := by omega
      refine ⟨.str t, rfl, .ref l, rfl, l, _, rfl, .inl (sqOf hL3.l), rfl, flat_strs _, ?_⟩
      rw [inV_iff]
      refine ⟨_, rfl, ite2 (fun e => ?_) (fun e => ?_)⟩
      · have mt := of_decide_eq_true e
        have all : ∀ j, j < i → zed j ∈ ks := fun j hj => by
          rcases ht with ht | ht
          · exact absurd mt ht
          · rcases ht j hj with h | ⟨_, h⟩
            · exact h
            · rw [← h]; exact mt
        have e0 : (0 : Int) + (i : Int) = (i : Int) := by omega
        have nz := zed_nm (k := i) (by omega)
        have lz : (zed i).length ≤ 12 := by rw [len_tl]; exact nz.1
        rw [e0]
        refine ⟨.int (i : Int), rfl, _, rfl, Nat.lt_of_le_of_lt (Nat.log2_le_self _) (by show i < 1920; omega), _, _, rfl, rfl, ?_, ?_⟩
        · have e1 : (zed i).length = (Str.ofString "z").length + (Str.ofString (toString (i : Int))).length := app_len _ _
          omega
        exact ⟨rfl, zed i, _, rfl, nz, .inr fun j hj => (Nat.lt_succ_iff_lt_or_eq.mp hj).elim (fun h => .inl (all j h)) fun h => .inr ⟨by omega, by rw [h]⟩⟩
      · exact ⟨rfl, t, _, rfl, nt, .inl fun z => e (decide_eq_true z)⟩
    · rintro σ H4 ⟨rfl, t, y6, rfl, nt, ht⟩
      refine ⟨.str t, rfl, q t H4 nt (fun mt => ?_) B3 b3⟩
      rcases ht with ht | ht
      · exact ht mt
      · refine zed_out rfl hn fun j hj => ?_
        rcases ht j (by omega) with h | ⟨_, h⟩
        · exact h
        · rw [← h]; exact mt
end
end Tb
namespace Tb
open PySem PySem.Spec PyProof.Rows L2
abbrev sKnown : Stmt := topS 40
abbrev NKnown : List Str := ["box", "many", "stem", "known", "k"]
theorem scKnown : FnScope NKnown ["box", "many", "stem"] (defScope sKnown) := ⟨rfl, rfl, rfl, by decide +kernel, rfl, by decide +kernel, by decide +kernel⟩
abbrev sOrder : Stmt := topS 42
abbrev NOrder : List Str := ["box", "rows", "out", "row"]
theorem scOrder : FnScope NOrder ["box", "rows"] (defScope sOrder) := ⟨rfl, rfl, rfl, by decide +kernel, rfl, by decide +kernel, by decide +kernel⟩
abbrev CFresh (P : Program) (w : World) (K : PySem.W.Frag) (mg : Str → Option Value) (base : Heap) (g : Addr) (gd : FuncData) := C1 P w K mg base "_law_fresh" sFresh ["box", "used", "stem"] 5 spFresh g gd
theorem ins_perm {α : Type} (xs : List α) (n : Nat) (y : α) : (xs.take n ++ [y] ++ xs.drop n).Perm (xs ++ [y]) := by
  have h1 : (xs.take n ++ [y] ++ xs.drop n).Perm (y :: (xs.take n ++ xs.drop n)) := by
    rw [List.append_assoc]
    exact List.perm_middle
  rw [List.take_append_drop] at h1
  exact h1.trans (List.perm_append_singleton y xs).symm
section
variable {P : Program} {w : World} {K : PySem.W.Frag} {mg : Str → Option Value} {base : Heap}
def spKnown : Sp := fun vs H Q _ => ∃ (β : Bw) (n : Int) (st : Str), vs = [.ref β.p, .int n, .str st] ∧ BoxAt H β ∧ Nm (tl st) ∧ 0 ≤ n ∧ n ≤ 90 ∧ ∀ (l : Addr) (ks : List Str) (H' : Hp), H l = none → NmL H' l ks → ks.Nodup → (ks.length : Int) = n → BoxAt H' β → Bq β H H' → Q (.ref l) H'
theorem ok_known {f g1 : Addr} {fd gd1 : FuncData} (F : Fun K "_law_known" "_law_known" sKnown f fd) (cFresh : CFresh P w K mg base g1 gd1) (B : Blt mg) : FnOk P w K mg base CX0 6 f fd ["box", "many", "stem"] spKnown := by
  refine F.ok scKnown (fun vs H Q E h => ?_) (fun cdv A outer s H vs Q E hr h => ?_)
  · obtain ⟨β, n, st, rfl, _⟩ := h
    rfl
  · obtain ⟨β, n, st, rfl, hB, hs, n0, n1, q⟩ := h
    refine ⟨_, (pss_cons (ps_set (i := 3) scKnown.nd rfl (.inl rfl) (pe_lst pa_nil))
      (pss_cons (ps_for PassesOwn.never rfl (pi_range1 (by rfl) B.range (pa_cons (pv 1) pa_nil)) (pg_name (i := 4) scKnown.nd rfl (.inl rfl))
        (pss_one (ps_expr (pe_bm PySem.F.plainAttrs_list PySem.F.slot_list_append PySem.F.type_list_append mt_append (pv 3) (pa_cons (pe_call cFresh.G (hr.mono (by first | decide | omega)) (by rfl) cFresh.D.g cFresh.D.F.kp cFresh.D.b .nil pass0 (pa_cons (pv 0) (pa_cons (pv 3) (pa_cons (pv 2) pa_nil)))) pa_nil)))))
      (pss_one (ps_ret (pv 3))))), ?_⟩
    refine ⟨by decide, fun L nL => ?_⟩
    have oL := hB.offN nL
    refine ⟨.int n, rfl, n, rfl, by omega, by omega, ?_⟩
    refine for_range (lo := 0) (n := n.toNat) (fun i σ H1 => ∃ (ks : List Str) (y : Option V), σ = [some (.ref β.p), some (.int n), some (.str st), some (.ref L), y] ∧ BoxAt H1 β ∧ Bq β H H1 ∧ NmL H1 L ks ∧ ks.Nodup ∧ ks.length = i) ⟨[], none, rfl, hB.new nL, (Bq.refl _ _).put nL, ⟨upd_same, nofun⟩, List.nodup_nil, rfl⟩ ?_ ?_
    · rintro i σ H1 hi ⟨ks, y, rfl, B1, b1, hL, nd, lk⟩
      refine ⟨.ref L, rfl, .inl ⟨rfl, _, sqOf hL.l⟩, ?_⟩
      refine ⟨.ref β.p, rfl, .ref L, rfl, .str st, rfl, β, L, ks, st, rfl, B1, hL, hs, by omega, fun z H2 nz mz B2 b2 => ?_⟩
      have hL2 := hL.bq B1 b2
      refine ⟨L, _, .str z, rfl, rfl, hL2.l, by rw [List.length_map]; exact small1000' (by omega), ?_⟩
      refine ⟨ks ++ [z], _, rfl, B2.put oL, (b1.trans b2).put nL, ⟨by rw [upd_same, List.map_append]; rfl, fun x hx => ?_⟩, ?_, by rw [List.length_append, lk]; rfl⟩
      · rcases List.mem_append.mp hx with hx | hx
        · exact hL.n x hx
        · rw [List.mem_singleton.mp hx]; exact nz
      · refine List.nodup_append.mpr ⟨nd, by simp, fun a ha b hb e => ?_⟩
        rw [List.mem_singleton.mp hb] at e
        exact mz (e ▸ ha)
    · rintro σ H1 ⟨ks, y, rfl, B1, b1, hL, nd, lk⟩
      exact ⟨.ref L, rfl, q L ks H1 nL hL nd (by omega) B1 b1⟩
theorem at_strs {ks : List Str} {u : Int} (h0 : 0 ≤ u) (h1 : u < (ks.length : Int)) : ∃ x ∈ ks, atI (ks.map V.str) u = some (.str x) := by
  obtain ⟨j, rfl⟩ : ∃ j : Nat, u = (j : Int) := ⟨u.toNat, by omega⟩
  have hj : j < ks.length := by omega
  exact ⟨ks[j], List.getElem_mem hj, atI_nat (strs_at hj)⟩
def spOrder : Sp := fun vs H Q _ => ∃ (β : Bw) (l : Addr) (xs : List V), vs = [.ref β.p, .ref l] ∧ BoxAt H β ∧ H l = some (.lst xs) ∧ NI (.lst xs) ∧ xs.length ≤ 900 ∧ ∀ (p : Addr) (ys : List V) (H' : Hp), H p = none → H' p = some (.lst ys) → ys.Perm xs → BoxAt H' β → Bq β H H' → Q (.ref p) H'
theorem ok_order {f g1 : Addr} {fd gd1 : FuncData} (F : Fun K "_law_order" "_law_order" sOrder f fd) (cDraw : CDraw P w K mg base g1 gd1) (B : Blt mg) : FnOk P w K mg base CX0 3 f fd ["box", "rows"] spOrder := by
  refine F.ok scOrder (fun vs H Q E h => ?_) (fun cdv A outer s H vs Q E hr h => ?_)
  · obtain ⟨β, l, xs, rfl, _⟩ := h
    rfl
  · obtain ⟨β, l, xs, rfl, hB, hl, ni, ln, q⟩ := h
    refine ⟨_, (pss_cons (ps_set (i := 2) scOrder.nd rfl (.inl rfl) (pe_lst pa_nil))
      (pss_cons (ps_for PassesOwn.never rfl (pi_list (pv 1)) (pg_name (i := 3) scOrder.nd rfl (.inl rfl))
        (pss_one (ps_expr (pe_bm PySem.F.plainAttrs_list PySem.F.slot_list_insert PySem.F.type_list_insert mt_insert (pv 2) (pa_cons (pe_call cDraw.G (hr.mono (by first | decide | omega)) (by rfl) cDraw.D.g cDraw.D.F.kp cDraw.D.b .nil pass0 (pa_cons (pv 0) (pa_cons (pe_op op_add (pe_callB call_len_seq (by rfl) B.len PySem.boot_len (pa_cons (pv 2) pa_nil)) pe_int) pa_nil))) (pa_cons (pv 3) pa_nil))))))
      (pss_one (ps_ret (pv 2))))), ?_⟩
    refine ⟨by decide, fun L nL => ?_⟩
    have oL := hB.offN nL
    have S0 := same_upd (o := .lst []) nL
    refine ⟨.ref l, rfl, l, rfl, ⟨_, sqOf (S0 _ _ hl)⟩, ?_⟩
    refine for_it (walk_list (a := l) (xs := xs)) (fun i σ H1 => ∃ (ys : List V) (y : Option V), σ = [some (.ref β.p), some (.ref l), some (.ref L), y] ∧ BoxAt H1 β ∧ Bq β H H1 ∧ H1 L = some (.lst ys) ∧ ys.Perm (xs.take i)) ⟨[], none, rfl, hB.new nL, (Bq.refl _ _).put nL, upd_same, .nil⟩ (fun i σ H1 _ ⟨ys, y, e, B1, b1, _⟩ => sqOf (hB.keep b1 hl ni)) (fun i v σ H1 H2 hi hP hy => ?_) (fun σ H1 hP => ?_)
    · obtain ⟨ys, y, rfl, B1, b1, hL, pm⟩ := hP
      obtain ⟨rfl, ev⟩ := hy
      have ly : ys.length ≤ 900 := by rw [pm.length_eq, List.length_take]; omega
      refine ⟨.ref L, rfl, .inl ⟨rfl, _, sqOf hL⟩, .ref β.p, rfl, .ref L, rfl, L, _, rfl, .inl (sqOf hL), _, 1, rfl, rfl, β, _, rfl, B1, by omega, by omega, fun u H3 u0 u1 B3 b3 => ?_⟩
      have hL3 := b3.off oL hL
      refine ⟨v, rfl, L, ys, u, v, rfl, rfl, hL3, small1000' (by omega), u0, by omega, ?_⟩
      refine ⟨_, _, rfl, B3.put oL, (b1.trans b3).put nL, upd_same, ?_⟩
      rw [take_snoc ev]
      exact (ins_perm ys u.toNat v).trans (pm.append_right [v])
    · obtain ⟨ys, y, rfl, B1, b1, hL, pm⟩ := hP
      rw [List.take_length] at pm
      exact ⟨.ref L, rfl, q L ys H1 nL hL pm B1 b1⟩
end
end Tb
namespace Tb
open PySem PySem.Spec PyProof.Rows L2
open PySem.W (AllAlike Sortable dataLe dataLt)
/-- a trip's parts -/
structure Tr where
  name : Str
  start : Str
  goal : Str
  leaves : Int
  lands : Int
  late : Int
  room : Int
  toll : Int
def rwT (t : Tr) : List V := [.int t.leaves, .str t.name, .str t.start, .str t.goal, .int t.lands, .int t.late, .int t.room, .int t.toll]
/-- the rows in a list -/
structure RowsAt (H : Hp) (r : Addr) (bs : List (Addr × Tr)) : Prop where
  l : H r = some (.lst (bs.map fun b => V.ref b.1))
  t : ∀ b ∈ bs, H b.1 = some (.tup (rwT b.2))
theorem RowsAt.bq {H H' : Hp} {β : Bw} {r : Addr} {bs : List (Addr × Tr)} (h : RowsAt H r bs) (B : BoxAt H β) (b : Bq β H H') : RowsAt H' r bs := ⟨B.keep b h.l (NI.refs _ _), fun c hc => B.keep b (h.t c hc) (NI.tup _)⟩
theorem RowsAt.same {H H' : Hp} {r : Addr} {bs : List (Addr × Tr)} (h : RowsAt H r bs) (S : Same H H') : RowsAt H' r bs := ⟨S _ _ h.l, fun c hc => S _ _ (h.t c hc)⟩
structure TrOk (kn : List Str) (t : Tr) : Prop where
  name : Nm (tl t.name)
  start : t.start ∈ kn
  goal : t.goal ∈ kn
  ne : t.start ≠ t.goal
  l0 : 0 ≤ t.leaves
  l1 : t.leaves ≤ 2 ^ 40
  l2 : t.leaves < t.lands
  l3 : t.lands ≤ t.leaves + 300
  late0 : 0 ≤ t.late
  late1 : t.late ≤ 200
  room0 : 0 ≤ t.room
  room1 : t.room ≤ 100
  toll0 : 0 ≤ t.toll
  toll1 : t.toll ≤ 100
theorem disp {β : Bw} {H : Hp} {L : Addr} (ns : List Int) (B : BoxAt H β) (nL : H L = none) : BoxAt (upd H L (.lst (ns.map V.int))) β ∧ ∀ H3, Bq β (upd H L (.lst (ns.map V.int))) H3 → H3 L = some (.lst (ns.map V.int)) ∧ Bq β H H3 := by
  have o := B.offN nL
  exact ⟨B.put o, fun H3 b => ⟨b.off o upd_same, (Same.bq (same_upd nL)).trans b⟩⟩
theorem pickI (ns : List Int) {u : Int} (h0 : 0 ≤ u) (h1 : u < (ns.length : Int)) : ∃ z ∈ ns, atI (ns.map V.int) u = some (.int z) := by
  obtain ⟨j, rfl⟩ : ∃ j : Nat, u = (j : Int) := ⟨u.toNat, by omega⟩
  have hj : j < ns.length := by omega
  exact ⟨ns[j], List.getElem_mem hj, atI_nat (by rw [List.getElem?_map, List.getElem?_eq_getElem hj]; rfl)⟩
theorem names_l {K : PySem.W.Frag} {bs : List (Addr × Tr)} : (bs.map fun b => V.str b.2.name) = (bs.map fun b => b.2.name).map V.str := by rw [List.map_map]; rfl
end Tb
namespace Tb
open PySem PySem.Spec PyProof.Rows L2
open PySem.W (AllAlike Sortable dataLe dataLt TotalLe)
/-! ### the order of the trips -/
def ltT (a b : Tr) : Prop := a.leaves < b.leaves ∨ (a.leaves = b.leaves ∧ sLt a.name b.name = true)
abbrev Srt (ts : List Tr) : Prop := ts.Pairwise ltT
def encR (t : Tr) : PyData := .tuple [.int t.leaves, .str t.name, .str t.start, .str t.goal, .int t.lands, .int t.late, .int t.room, .int t.toll]
/-- the key of the network's order -/
def enc1 (t : Tr) : PyData := .tuple [.int t.leaves, .str t.name]
theorem eqv_int (x y : Int) : PyData.eqv (.int x) (.int y) = decide (x = y) := by rw [PyData.eqv]; exact Bool.beq_eq_decide_eq x y
theorem eqv_str (x y : Str) : PyData.eqv (.str x) (.str y) = decide (x = y) := by rw [PyData.eqv]; exact Bool.beq_eq_decide_eq x y
theorem lt_head {x y : Int} {a b : Str} {xs ys : List PyData} (n : a ≠ b) : dataLt (.tuple (.int x :: .str a :: xs)) (.tuple (.int y :: .str b :: ys)) = if x = y then sLt a b else decide (x < y) := by
  rw [PySem.W.dataLt_tuple, PySem.W.dataLt_cons (by simp [PySem.W.alike]), PySem.W.dataLt_cons (by simp [PySem.W.alike]), eqv_int, eqv_str, PySem.W.dataLt_str, PySem.W.dataLt_int]
  by_cases c : x = y
  · rw [if_pos (decide_eq_true c), if_pos c, if_neg (by simpa using n)]
    rfl
  · rw [if_neg (by simpa using c), if_neg c]
theorem srt_of {α : Type} {f : α → Tr} {enc : α → PyData} (he : ∀ a b, (f a).name ≠ (f b).name → dataLt (enc a) (enc b) = if (f a).leaves = (f b).leaves then sLt (f a).name (f b).name else decide ((f a).leaves < (f b).leaves)) {l : List α} (nd : (l.map fun a => (f a).name).Nodup) :
    Srt ((l.mergeSort (dataLe false enc)).map f) := by
  have p : (l.mergeSort (dataLe false enc)).Pairwise fun a b => dataLe false enc a b = true := PySem.W.sort_pairwise (by unfold dataLe; exact PySem.W.sortLe_total _ _ _) l
  have nd2 : ((l.mergeSort (dataLe false enc)).map fun a => (f a).name).Nodup := ((List.mergeSort_perm l _).map fun a => (f a).name).nodup_iff.mpr nd
  refine List.pairwise_map.mpr ?_
  refine (p.and (List.pairwise_map.mp nd2)).imp fun {a b} h => ?_
  obtain ⟨h1, h2⟩ := h
  rw [PySem.W.dataLe_eq] at h1
  have h1 : (!dataLt (enc b) (enc a)) = true := h1
  rw [he b a (Ne.symm h2), Bool.not_eq_true'] at h1
  unfold ltT
  by_cases c : (f b).leaves = (f a).leaves
  · rw [if_pos c] at h1
    refine .inr ⟨c.symm, ?_⟩
    cases e : sLt (f a).name (f b).name with
    | true => rfl
    | false => exact absurd (sLt_tri e h1) h2
  · rw [if_neg c] at h1
    have := of_decide_eq_false h1
    exact .inl (by omega)
theorem sLt_irr (a : Str) : sLt a a = false := decide_eq_false (List.lt_irrefl _)
theorem srt_uniq {a b : List Tr} (p : a.Perm b) (ha : Srt a) (hb : Srt b) : a = b := by
  refine List.Perm.eq_of_pairwise (le := ltT) (fun x y _ _ h1 h2 => ?_) ha hb p
  exfalso
  rcases h1 with h1 | ⟨h1, h1'⟩
  · rcases h2 with h2 | ⟨h2, _⟩ <;> omega
  · rcases h2 with h2 | ⟨h2, h2'⟩
    · omega
    · have h1' := of_decide_eq_true h1'
      have h2' := of_decide_eq_true h2'
      exact List.lt_irrefl _ (List.lt_trans h1' h2')
theorem alike_R (ts : List Tr) : AllAlike (ts.map encR) := fun d hd d' hd' => by
  obtain ⟨x, _, rfl⟩ := List.mem_map.mp hd
  obtain ⟨y, _, rfl⟩ := List.mem_map.mp hd'
  simp [encR, PySem.W.alike, PySem.W.alikeAll]
theorem sortable_R (ts : List Tr) : Sortable (ts.map encR) := .inl fun d hd => by
  obtain ⟨x, _, rfl⟩ := List.mem_map.mp hd
  exact ⟨_, _, rfl⟩
theorem depth_R (t : Tr) : (encR t).depth ≤ 2 := by simp [encR, PyData.depth, PyData.depthAll]
def leB (a b : Addr × Tr) : Bool := dataLe false (fun b : Addr × Tr => encR b.2) a b
theorem srt_rows {bs : List (Addr × Tr)} (nd : (bs.map fun b => b.2.name).Nodup) : Srt ((bs.mergeSort (dataLe false fun b : Addr × Tr => encR b.2)).map (·.2)) := srt_of (f := fun b : Addr × Tr => b.2) (fun a b n => lt_head n) nd
theorem rows_sorted {K : PySem.W.Frag} {H : Hp} {r : Addr} {bs : List (Addr × Tr)} {Q : VK} (h : RowsAt H r bs) (nd : (bs.map fun b => b.2.name).Nodup) (q : ∀ p (cs : List (Addr × Tr)), H p = none → cs.Perm bs → Srt (cs.map (·.2)) → RowsAt (upd H p (.lst (cs.map fun b => V.ref b.1))) p cs → Q (.ref p) (upd H p (.lst (cs.map fun b => V.ref b.1)))) : rSortDt K [.ref r] H Q := by
  have e1 : (bs.map fun b => V.ref b.1) = (bs.map fun b => (V.ref b.1, encR b.2)).map Prod.fst := by rw [List.map_map]; rfl
  have e2 : (bs.map fun b => (V.ref b.1, encR b.2)).map Prod.snd = (bs.map (·.2)).map encR := by rw [List.map_map, List.map_map]; rfl
  have e3 : ((bs.map fun b => (V.ref b.1, encR b.2)).mergeSort (dataLe false Prod.snd)).map Prod.fst = (bs.mergeSort (dataLe false fun b : Addr × Tr => encR b.2)).map fun b => V.ref b.1 := by
    rw [← PySem.W.sort_maps (r := dataLe false fun b : Addr × Tr => encR b.2) (s := dataLe false Prod.snd) (fun b : Addr × Tr => (V.ref b.1, encR b.2)) fun a _ b _ => rfl, List.map_map]
    rfl
  refine ⟨r, bs.map fun b => (V.ref b.1, encR b.2), rfl, sqOf (by rw [← e1]; exact h.l), fun b hb => ?_, by rw [e2]; exact alike_R _, by rw [e2]; exact sortable_R _, fun b hb => ?_, fun p np => ?_⟩
  · obtain ⟨c, hc, rfl⟩ := List.mem_map.mp hb
    exact .tup (.of (h.t c hc)) (.cons (.int _) (.cons (.str _) (.cons (.str _) (.cons (.str _) (.cons (.int _) (.cons (.int _) (.cons (.int _) (.cons (.int _) .nil))))))))
  · obtain ⟨c, hc, rfl⟩ := List.mem_map.mp hb
    exact Nat.le_trans (depth_R c.2) (by decide)
  · rw [e3]
    have pm := List.mergeSort_perm bs (dataLe false fun b : Addr × Tr => encR b.2)
    exact q p _ np pm (srt_rows nd) ⟨upd_same, fun b hb => by
      rw [upd_ne (ne_of_none (h.t b (pm.mem_iff.mp hb)) np)]
      exact h.t b (pm.mem_iff.mp hb)⟩
section
variable {P : Program} {w : World} {K : PySem.W.Frag} {mg : Str → Option Value} {base : Heap}
/-- the rows so far -/
structure RowsOk (H0 H : Hp) (β : Bw) (R : Addr) (ks : List Str) (bs : List (Addr × Tr)) : Prop where
  box : BoxAt H β
  bq : Bq β H0 H
  rows : RowsAt H R bs
  ok : ∀ b ∈ bs, TrOk ks b.2
  nd : (bs.map fun b => b.2.name).Nodup
theorem RowsOk.put {H0 H H1 : Hp} {β : Bw} {R T : Addr} {ks : List Str} {bs : List (Addr × Tr)} {t : Tr} (r : RowsOk H0 H β R ks bs) (oR : Off β R) (R0 : H0 R = none) (hT : H1 T = some (.tup (rwT t))) (ok : TrOk ks t) (n : t.name ∉ bs.map fun b => b.2.name) (B : BoxAt H1 β) (b : Bq β H H1) :
    H1 R = some (.lst (bs.map fun b => V.ref b.1)) ∧ RowsOk H0 (upd H1 R (.lst ((bs.map fun b => V.ref b.1) ++ [.ref T]))) β R ks (bs ++ [(T, t)]) := by
  have h1 := r.rows.bq r.box b
  have TR : T ≠ R := fun z => by rw [z, h1.l] at hT; cases hT
  refine ⟨h1.l, B.put oR, (r.bq.trans b).put R0, ⟨by rw [upd_same, List.map_append]; rfl, fun c hc => ?_⟩, fun c hc => ?_, ?_⟩
  · rcases List.mem_append.mp hc with hc | hc
    · have := h1.t c hc
      rw [upd_ne fun z => by rw [z, h1.l] at this; cases this]
      exact this
    · rw [List.mem_singleton.mp hc, upd_ne TR]; exact hT
  · rcases List.mem_append.mp hc with hc | hc
    · exact r.ok c hc
    · rw [List.mem_singleton.mp hc]; exact ok
  · rw [List.map_append]
    refine List.nodup_append.mpr ⟨r.nd, by simp, fun a ha b hb e => ?_⟩
    have : b = t.name := by simpa using hb
    rw [this] at e
    exact n (e ▸ ha)
theorem RowsOk.set {H0 H : Hp} {β : Bw} {R x : Addr} {o : HO} {ks : List Str} {bs : List (Addr × Tr)} (r : RowsOk H0 H β R ks bs) (n0 : H0 x = none) (ox : Off β x) (xR : x ≠ R) (nx : ∀ ys, H x ≠ some (.tup ys)) : RowsOk H0 (upd H x o) β R ks bs :=
  ⟨r.box.put ox, r.bq.put n0, ⟨by rw [upd_ne (Ne.symm xR)]; exact r.rows.l, fun c hc => by
    rw [upd_ne fun z => nx _ (by rw [← z]; exact r.rows.t c hc)]
    exact r.rows.t c hc⟩, r.ok, r.nd⟩
theorem RowsOk.go {H0 H H1 : Hp} {β : Bw} {R : Addr} {ks : List Str} {bs : List (Addr × Tr)} (r : RowsOk H0 H β R ks bs) (B : BoxAt H1 β) (b : Bq β H H1) : RowsOk H0 H1 β R ks bs := ⟨B, r.bq.trans b, r.rows.bq r.box b, r.ok, r.nd⟩
end
end Tb
namespace Tb
open PySem PySem.Spec PyProof.Rows L2
abbrev sAreN : Stmt := topS 25
abbrev NAreN : List Str := ["texts", "text"]
theorem scAreN : FnScope NAreN ["texts"] (defScope sAreN) := ⟨rfl, rfl, rfl, by decide +kernel, rfl, by decide +kernel, by decide +kernel⟩
abbrev sAscends : Stmt := topS 26
abbrev NAscends : List Str := ["ticks", "before", "tick"]
theorem scAscends : FnScope NAscends ["ticks"] (defScope sAscends) := ⟨rfl, rfl, rfl, by decide +kernel, rfl, by decide +kernel, by decide +kernel⟩
abbrev sSInit : Stmt := inClass (topS 27) 0
abbrev NSInit : List Str := ["self", "name", "house", "land", "code", "rounds", "sittings", "searches", "lag"]
theorem scSInit : FnScope NSInit ["self", "name", "house", "land", "code", "rounds", "sittings", "searches", "lag"] (defScope sSInit) := ⟨rfl, rfl, rfl, by decide +kernel, rfl, by decide +kernel, by decide +kernel⟩
abbrev sTInit : Stmt := inClass (topS 28) 0
abbrev NTInit : List Str := ["self", "name", "start", "goal", "leaves", "lands", "late", "room", "toll"]
theorem scTInit : FnScope NTInit ["self", "name", "start", "goal", "leaves", "lands", "late", "room", "toll"] (defScope sTInit) := ⟨rfl, rfl, rfl, by decide +kernel, rfl, by decide +kernel, by decide +kernel⟩
theorem sqT_but {K : PySem.W.Frag} {H H' : Hp} {x a C dx : Addr} {fs : List (Str × V)} {xs : List V} (hx : H x = some (.ins C dx fs)) (b : But x H H') (h : SqT K H a xs) : SqT K H' a xs := by
  rcases h with (h | ⟨o, h⟩) | h
  · exact .inl (.inl (b _ _ h fun e => by rw [e, hx] at h; cases h))
  · exact .inl (.inr ⟨o, b _ _ h fun e => by rw [e, hx] at h; cases h⟩)
  · exact .inr h
theorem min3 (a b c : Int) : nuMin3 (.int a) (.int b) (.int c) = some (.int (if c < (if b < a then b else a) then c else (if b < a then b else a))) := by
  by_cases h1 : b < a
  · have e : nuMin2 (.int a) (.int b) = some (.int b) := by
      show some (if decide (b < a) = true then V.int b else V.int a) = _
      rw [if_pos (decide_eq_true h1)]
    show (nuMin2 (.int a) (.int b)).bind _ = _
    rw [e, if_pos h1]
    show some (if decide (c < b) = true then V.int c else V.int b) = _
    by_cases h2 : c < b
    · rw [if_pos (decide_eq_true h2), if_pos h2]
    · rw [if_neg (by simpa using h2), if_neg h2]
  · have e : nuMin2 (.int a) (.int b) = some (.int a) := by
      show some (if decide (b < a) = true then V.int b else V.int a) = _
      rw [if_neg (by simpa using h1)]
    show (nuMin2 (.int a) (.int b)).bind _ = _
    rw [e, if_neg h1]
    show some (if decide (c < a) = true then V.int c else V.int a) = _
    by_cases h2 : c < a
    · rw [if_pos (decide_eq_true h2), if_pos h2]
    · rw [if_neg (by simpa using h2), if_neg h2]
structure SCls (K : PySem.W.Frag) (C : Addr) : Prop where
  c : Cls K C
  name : NoAttr K C "name"
  house : NoAttr K C "house"
  land : NoAttr K C "land"
  code : NoAttr K C "code"
  rounds : NoAttr K C "rounds"
  sittings : NoAttr K C "sittings"
  searches : NoAttr K C "searches"
  lag : NoAttr K C "lag"
structure TCls (K : PySem.W.Frag) (C : Addr) : Prop where
  c : Cls K C
  name : NoAttr K C "name"
  start : NoAttr K C "start"
  goal : NoAttr K C "goal"
  leaves : NoAttr K C "leaves"
  lands : NoAttr K C "lands"
  late : NoAttr K C "late"
  room : NoAttr K C "room"
  toll : NoAttr K C "toll"
/-- a site's parts -/
structure Si where
  name : Str
  house : Str
  land : Str
  code : Str
def siF (s : Si) (r1 r2 r3 : Addr) : List (Str × V) := [("name", .str s.name), ("house", .str s.house), ("land", .str s.land), ("code", .str s.code), ("rounds", .ref r1), ("sittings", .ref r2), ("searches", .ref r3), ("lag", .non)]
def trF (t : Tr) : List (Str × V) := [("name", .str t.name), ("start", .str t.start), ("goal", .str t.goal), ("leaves", .int t.leaves), ("lands", .int t.lands), ("late", .int t.late), ("room", .int t.room), ("toll", .int t.toll)]
def SiAt (C : Addr) (H : Hp) (a : Addr) (s : Si) : Prop := ∃ dx r1 r2 r3, H a = some (.ins C dx (siF s r1 r2 r3))
def TrAt (C : Addr) (H : Hp) (a : Addr) (t : Tr) : Prop := ∃ dx, H a = some (.ins C dx (trF t))
abbrev psS : List Str := ["self", "name", "house", "land", "code", "rounds", "sittings", "searches", "lag"]
abbrev psT : List Str := ["self", "name", "start", "goal", "leaves", "lands", "late", "room", "toll"]
abbrev FunS (K : PySem.W.Frag) (t1 t2 t3 : Addr) (f : Addr) (fd : FuncData) : Prop := FunD K "__init__" "Site.__init__" (defArgs sSInit) (defBody sSInit) (defScope sSInit) [] [("rounds", .ref t1), ("sittings", .ref t2), ("searches", .ref t3), ("lag", .non)] f fd
abbrev FunT (K : PySem.W.Frag) (f : Addr) (fd : FuncData) : Prop := FunD K "__init__" "Trip.__init__" (defArgs sTInit) (defBody sTInit) (defScope sTInit) [] [("late", .int 0), ("room", .int 9), ("toll", .int 0)] f fd
section
variable {P : Program} {w : World} {K : PySem.W.Frag} {mg : Str → Option Value} {base : Heap}
abbrev CIsName (P : Program) (w : World) (K : PySem.W.Frag) (mg : Str → Option Value) (base : Heap) (g : Addr) (gd : FuncData) := C1 P w K mg base "is_name" sIsName ["text"] 2 (spT isName) g gd
abbrev CSpells (P : Program) (w : World) (K : PySem.W.Frag) (mg : Str → Option Value) (base : Heap) (g : Addr) (gd : FuncData) := C1 P w K mg base "spells_address" sSpells ["text"] 2 (spT isAddr) g gd
def spAreN : Sp := fun vs H Q _ => ∃ (l : Addr) (ks : List Str), vs = [.ref l] ∧ H l = some (.lst (ks.map V.str)) ∧ (∀ x ∈ ks, x.length ≤ 1000) ∧ ks.length ≤ 100 ∧ ∀ H', Same H H' → Q (.bl (ks.all isName)) H'
theorem ok_aren {f g1 : Addr} {fd gd1 : FuncData} (F : Fun K "_are_names" "_are_names" sAreN f fd) (cIsName : CIsName P w K mg base g1 gd1) (B : Blt mg) : FnOk P w K mg base CX0 3 f fd ["texts"] spAreN := by
  refine F.ok scAreN (fun vs H Q E h => ?_) (fun cdv A outer s H vs Q E hr h => ?_)
  · obtain ⟨l, ks, rfl, _⟩ := h
    rfl
  · obtain ⟨l, ks, rfl, hl, hlen, hn, q⟩ := h
    refine ⟨_, (pss_one (ps_ret (pe_callB (cr_all rfl) (by rfl) B.all (by decide +kernel) (pa_cons (pe_lc (own := [("text", 1)]) (g := gName 1) (by rfl) scAreN.nd (pi_list (pv 0)) (blkOk_by (N := NAreN) (sc := defScope sAreN) (by decide +kernel)) (fun _ _ _ _ _ => pg_name (i := 1) scAreN.nd rfl (Or.inl rfl)) (fun _ _ _ _ _ => pts_nil) (fun _ _ _ _ _ => pe_call cIsName.G (hr.mono (by first | decide | omega)) (by rfl) cIsName.D.g cIsName.D.F.kp cIsName.D.b .nil pass0 (pa_cons (pv 1) pa_nil))) pa_nil)))), ?_⟩
    refine ⟨.ref l, rfl, l, rfl, ⟨_, sqOf hl⟩, fun D nD => lc_l (fun _ => true) (fun x => V.bl (isName x)) hl nD (by omega) (fun _ => rfl) (fun c hc H2 S2 R hR => hR H2 (Same.refl _)) (fun c hc H2 S2 R hR => ⟨.str c, rfl, c, rfl, hlen c hc, fun H3 S3 => hR H3 S3⟩) (fun H1 S1 hD => ?_)⟩
    rw [filt_true] at hD
    refine ⟨D, ks.map isName, rfl, sqOf (by rw [hD, List.map_map]; rfl), ?_⟩
    rw [List.all_map]
    exact q H1 S1
def spAscends (K : PySem.W.Frag) : Sp := fun vs H Q _ => ∃ (a : Addr), vs = [.ref a] ∧ SqT K H a [] ∧ Q (.bl true) H
theorem ok_ascends {f : Addr} {fd : FuncData} {k : Nat} (F : Fun K "_ascends" "_ascends" sAscends f fd) : FnOk P w K mg base CX0 (k + 1) f fd ["ticks"] (spAscends K) := by
  refine F.ok scAscends (fun vs H Q E h => ?_) (fun cdv A outer s H vs Q E hr h => ?_)
  · obtain ⟨a, rfl, _⟩ := h
    rfl
  · obtain ⟨a, rfl, ha, q⟩ := h
    refine ⟨_, (pss_cons (ps_set (i := 1) scAscends.nd rfl (.inl rfl) (pe_un un_neg pe_int))
      (pss_cons (ps_for PassesOwn.never rfl (pi_tup (pv 0)) (pg_name (i := 2) scAscends.nd rfl (.inl rfl))
        (pss_cons (ps_if (pt_cmpR op_le (pv 2) (pv 1) (nomark _))
          (pss_one (ps_ret pe_bl))
          pss_nil)
        (pss_one (ps_set (i := 1) scAscends.nd rfl (.inl rfl) (pv 2)))))
      (pss_one (ps_ret pe_bl)))), ?_⟩
    refine ⟨1, rfl, .ref a, rfl, a, rfl, ⟨_, ha⟩, ?_⟩
    refine for_it (walk_tup (K := K) (a := a) (xs := [])) (fun i σ H1 => H1 = H) rfl (fun i σ H1 _ hP => by rw [hP]; exact ha) (fun i v σ H1 H2 hi hP hy => absurd hi (Nat.not_lt_zero _)) (fun σ H1 hP => ?_)
    cases hP
    exact q
abbrev CAreN (P : Program) (w : World) (K : PySem.W.Frag) (mg : Str → Option Value) (base : Heap) (g : Addr) (gd : FuncData) := C1 P w K mg base "_are_names" sAreN ["texts"] 3 spAreN g gd
abbrev CAscends (P : Program) (w : World) (K : PySem.W.Frag) (mg : Str → Option Value) (base : Heap) (g : Addr) (gd : FuncData) := C1 P w K mg base "_ascends" sAscends ["ticks"] 1 (spAscends K) g gd
def spSInit (K : PySem.W.Frag) (C : Addr) : Sp := fun vs H Q _ => ∃ (x dx r1 r2 r3 : Addr) (s : Si), vs = [.ref x, .str s.name, .str s.house, .str s.land, .str s.code, .ref r1, .ref r2, .ref r3, .non] ∧ H x = some (.ins C dx []) ∧ SqT K H r1 [] ∧ SqT K H r2 [] ∧ SqT K H r3 [] ∧ isName s.name = true ∧ isName s.house = true ∧ isName s.land = true ∧ isAddr s.code = true ∧ (s.name.length ≤ 1000 ∧ s.house.length ≤ 1000 ∧ s.land.length ≤ 1000 ∧ s.code.length ≤ 1000) ∧
  ∀ H', But x H H' → SiAt C H' x s → Q .non H'
theorem ok_sinit {f g1 g2 g3 C t1 t2 t3 : Addr} {fd gd1 gd2 gd3 : FuncData} (F : FunS K t1 t2 t3 f fd) (T : SCls K C) (cAreN : CAreN P w K mg base g1 gd1) (cSpells : CSpells P w K mg base g2 gd2) (cAscends : CAscends P w K mg base g3 gd3) (B : Blt mg) : FnOk P w K mg base (L2.CX P w) 4 f fd psS (spSInit K C) := by
  refine F.ok scSInit (fun vs H Q E h => ?_) (fun cdv A outer s H vs Q E hr h => ?_)
  · obtain ⟨x, dx, r1, r2, r3, s, rfl, _⟩ := h
    rfl
  · obtain ⟨x, dx, r1, r2, r3, ⟨nm, ho, la, co⟩, rfl, hx, h1, h2, h3, n1, n2, n3, n4, ⟨l1, l2, l3, l4⟩, q⟩ := h
    refine ⟨_, (pss_cons (ps_fld (pv 0) (pv 1) rfl)
      (pss_cons (ps_fld (pv 0) (pv 2) rfl)
      (pss_cons (ps_fld (pv 0) (pv 3) rfl)
      (pss_cons (ps_fld (pv 0) (pv 4) rfl)
      (pss_cons (ps_fld (pv 0) (pe_callTy call_tuple_of (by rfl) B.tuple PyProof.Rows.boot_tuple (pa_cons (pv 5) pa_nil)) rfl)
      (pss_cons (ps_fld (pv 0) (pe_callTy call_tuple_of (by rfl) B.tuple PyProof.Rows.boot_tuple (pa_cons (pv 6) pa_nil)) rfl)
      (pss_cons (ps_fld (pv 0) (pe_callTy call_tuple_of (by rfl) B.tuple PyProof.Rows.boot_tuple (pa_cons (pv 7) pa_nil)) rfl)
      (pss_cons (ps_fld (pv 0) (pv 8) rfl)
      (pss_cons (ps_if (PW.pt (pw_or (pt_not (pt_val (pe_call cAreN.G (hr.mono (by first | decide | omega)) (by rfl) cAreN.D.g cAreN.D.F.kp cAreN.D.b .nil pass0 (pa_cons (pe_lst (pa_cons (pv 1) (pa_cons (pv 2) (pa_cons (pv 3) pa_nil)))) pa_nil)))) (pw_or1 (pt_not (pt_val (pe_call cSpells.G (hr.mono (by first | decide | omega)) (by rfl) cSpells.D.g cSpells.D.F.kp cSpells.D.b .nil pass0 (pa_cons (pv 4) pa_nil)))))))
        (pss_one ps_never)
        pss_nil)
      (pss_cons (ps_if (PW.pt (pw_or (pt_not (pt_val (pe_call cAscends.G (hr.mono (by first | decide | omega)) (by rfl) cAscends.D.g cAscends.D.F.kp cAscends.D.b .nil pass0 (pa_cons (pe_fld (pv 0) rfl) pa_nil)))) (pw_or (pt_not (pt_val (pe_call cAscends.G (hr.mono (by first | decide | omega)) (by rfl) cAscends.D.g cAscends.D.F.kp cAscends.D.b .nil pass0 (pa_cons (pe_fld (pv 0) rfl) pa_nil)))) (pw_or1 (pt_not (pt_val (pe_call cAscends.G (hr.mono (by first | decide | omega)) (by rfl) cAscends.D.g cAscends.D.F.kp cAscends.D.b .nil pass0 (pa_cons (pe_fld (pv 0) rfl) pa_nil))))))))
        (pss_one ps_never)
        pss_nil)
      (pss_one (ps_if (PW.pt (pw_and (pt_cmpR op_notN (pv 8) pe_non (nomark _)) (pw_and1 (pt_cmpR op_lt (pv 8) pe_int (nomark _)))))
        (pss_one ps_never)
        pss_nil)))))))))))), ?_⟩
    refine ⟨.str nm, rfl, .ref x, rfl, x, C, dx, _, rfl, hx, T.c, T.name, by decide, ?_⟩
    refine ⟨.str ho, rfl, .ref x, rfl, x, C, dx, _, rfl, upd_same, T.c, T.house, (by decide : (1 : Nat) < 1000), ?_⟩
    refine ⟨.str la, rfl, .ref x, rfl, x, C, dx, _, rfl, upd_same, T.c, T.land, (by decide : (2 : Nat) < 1000), ?_⟩
    refine ⟨.str co, rfl, .ref x, rfl, x, C, dx, _, rfl, upd_same, T.c, T.code, (by decide : (3 : Nat) < 1000), ?_⟩
    generalize hH2 : upd (upd (upd (upd H x _) x _) x _) x _ = H2
    have b2 : But x H H2 := by
      rw [← hH2]
      exact ((But.upd.trans But.upd).trans But.upd).trans But.upd
    have hx2 : H2 x = some (.ins C dx [("name", .str nm), ("house", .str ho), ("land", .str la), ("code", .str co)]) := by
      rw [← hH2]
      exact upd_same
    clear hH2
    have h12 := sqT_but hx b2 h1
    have h22 := sqT_but hx b2 h2
    have h32 := sqT_but hx b2 h3
    refine ⟨.ref r1, rfl, r1, [], rfl, .inr ⟨h12, .ref x, rfl, x, C, dx, _, rfl, hx2, T.c, T.rounds, (by decide : (4 : Nat) < 1000), ?_⟩⟩
    refine ⟨.ref r2, rfl, r2, [], rfl, .inr ⟨sqT_but hx2 But.upd h22, .ref x, rfl, x, C, dx, _, rfl, upd_same, T.c, T.sittings, (by decide : (5 : Nat) < 1000), ?_⟩⟩
    refine ⟨.ref r3, rfl, r3, [], rfl, .inr ⟨sqT_but hx2 (But.upd.trans But.upd) h32, .ref x, rfl, x, C, dx, _, rfl, upd_same, T.c, T.searches, (by decide : (6 : Nat) < 1000), ?_⟩⟩
    refine ⟨.non, rfl, .ref x, rfl, x, C, dx, _, rfl, upd_same, T.c, T.lag, (by decide : (7 : Nat) < 1000), ?_⟩
    generalize hH3 : upd (upd (upd (upd H2 x _) x _) x _) x _ = H3
    have b3 : But x H2 H3 := by
      rw [← hH3]
      exact ((But.upd.trans But.upd).trans But.upd).trans But.upd
    have hx3 : H3 x = some (.ins C dx (siF ⟨nm, ho, la, co⟩ r1 r2 r3)) := by
      rw [← hH3]
      exact upd_same
    clear hH3
    have h13 := sqT_but hx2 b3 h12
    have h23 := sqT_but hx2 b3 h22
    have h33 := sqT_but hx2 b3 h32
    refine ⟨.str nm, rfl, .str ho, rfl, .str la, rfl, by show 3 ≤ sizeLine; decide, fun D nD => ?_⟩
    have S4 := same_upd (o := .lst [.str nm, .str ho, .str la]) nD
    refine ⟨D, [nm, ho, la], rfl, upd_same, fun z hz => ?_, (by decide : 3 ≤ 100), fun H5 S5 => ⟨_, rfl, ?_⟩⟩
    · simp only [List.mem_cons, List.not_mem_nil, or_false] at hz
      rcases hz with rfl | rfl | rfl <;> assumption
    have S35 : Same H3 H5 := S4.trans S5
    rw [show [nm, ho, la].all isName = true by simp [n1, n2, n3]]
    refine ite2 (fun z => by cases z) (fun _ => ?_)
    refine ⟨.str co, rfl, co, rfl, l4, fun H6 S6 => ⟨_, rfl, ?_⟩⟩
    rw [show isAddr co = true from n4]
    refine ite2 (fun z => by cases z) (fun _ => ?_)
    have S36 : Same H3 H6 := S35.trans S6
    have hx6 := S36 _ _ hx3
    have sT : ∀ {r : Addr}, SqT K H3 r [] → SqT K H6 r [] := fun h => by
      rcases h with (h | ⟨o, h⟩) | h
      · exact .inl (.inl (S36 _ _ h))
      · exact .inl (.inr ⟨o, S36 _ _ h⟩)
      · exact .inr h
    refine ⟨.ref x, rfl, x, C, dx, _, .ref r1, rfl, hx6, T.c, T.rounds, rfl, r1, rfl, sT h13, true, rfl, ite2 (fun z => by cases z) (fun _ => ?_)⟩
    refine ⟨.ref x, rfl, x, C, dx, _, .ref r2, rfl, hx6, T.c, T.sittings, rfl, r2, rfl, sT h23, true, rfl, ite2 (fun z => by cases z) (fun _ => ?_)⟩
    refine ⟨.ref x, rfl, x, C, dx, _, .ref r3, rfl, hx6, T.c, T.searches, rfl, r3, rfl, sT h33, true, rfl, ite2 (fun z => by cases z) (fun _ => ?_)⟩
    refine ⟨.non, rfl, rfl, _, rfl, ite2 (fun z => by cases z) (fun _ => ?_)⟩
    exact q H6 ((b2.trans b3).trans (Same.but S36)) ⟨dx, r1, r2, r3, hx6⟩
def spTInit (K : PySem.W.Frag) (C : Addr) : Sp := fun vs H Q _ => ∃ (x dx : Addr) (t : Tr), vs = .ref x :: [.str t.name, .str t.start, .str t.goal, .int t.leaves, .int t.lands, .int t.late, .int t.room, .int t.toll] ∧ H x = some (.ins C dx []) ∧ isName t.name = true ∧ isName t.start = true ∧ isName t.goal = true ∧ t.start ≠ t.goal ∧ 0 ≤ t.leaves ∧ t.leaves < t.lands ∧ 0 ≤ t.late ∧ 0 ≤ t.room ∧ 0 ≤ t.toll ∧ (t.name.length ≤ 1000 ∧ t.start.length ≤ 1000 ∧ t.goal.length ≤ 1000) ∧
  ∀ H', But x H H' → TrAt C H' x t → Q .non H'
theorem ok_tinit {f g1 C : Addr} {fd gd1 : FuncData} (F : FunT K f fd) (T : TCls K C) (cAreN : CAreN P w K mg base g1 gd1) (B : Blt mg) : FnOk P w K mg base (L2.CX P w) 4 f fd psT (spTInit K C) := by
  refine F.ok scTInit (fun vs H Q E h => ?_) (fun cdv A outer s H vs Q E hr h => ?_)
  · obtain ⟨x, dx, t, rfl, _⟩ := h
    rfl
  · obtain ⟨x, dx, ⟨nm, sa, go, lv, ld, lt, ro, to⟩, rfl, hx, n1, n2, n3, ne, c1, c2, c3, c4, c5, ⟨l1, l2, l3⟩, q⟩ := h
    have c1 : 0 ≤ lv := c1
    have c2 : lv < ld := c2
    refine ⟨_, (pss_cons (ps_fld (pv 0) (pv 1) rfl)
      (pss_cons (ps_fld (pv 0) (pv 2) rfl)
      (pss_cons (ps_fld (pv 0) (pv 3) rfl)
      (pss_cons (ps_fld (pv 0) (pv 4) rfl)
      (pss_cons (ps_fld (pv 0) (pv 5) rfl)
      (pss_cons (ps_fld (pv 0) (pv 6) rfl)
      (pss_cons (ps_fld (pv 0) (pv 7) rfl)
      (pss_cons (ps_fld (pv 0) (pv 8) rfl)
      (pss_cons (ps_if (PW.pt (pw_or (pt_not (pt_val (pe_call cAreN.G (hr.mono (by first | decide | omega)) (by rfl) cAreN.D.g cAreN.D.F.kp cAreN.D.b .nil pass0 (pa_cons (pe_lst (pa_cons (pv 1) (pa_cons (pv 2) (pa_cons (pv 3) pa_nil)))) pa_nil)))) (pw_or1 (pt_cmpR op_eq (pv 2) (pv 3) (nomark _)))))
        (pss_one ps_never)
        pss_nil)
      (pss_one (ps_if (PW.pt (pw_or (pt_cmpR op_lt (pv 4) pe_int (nomark _)) (pw_or (pt_cmpR op_le (pv 5) (pv 4) (nomark _)) (pw_or1 (pt_cmpR op_lt (pe_callB (call_min3Nu rfl) (by rfl) B.min (by decide +kernel) (pa_cons (pv 6) (pa_cons (pv 7) (pa_cons (pv 8) pa_nil)))) pe_int (nomark _))))))
        (pss_one ps_never)
        pss_nil))))))))))), ?_⟩
    refine ⟨.str nm, rfl, .ref x, rfl, x, C, dx, _, rfl, hx, T.c, T.name, by decide, ?_⟩
    refine ⟨.str sa, rfl, .ref x, rfl, x, C, dx, _, rfl, upd_same, T.c, T.start, (by decide : (1 : Nat) < 1000), ?_⟩
    refine ⟨.str go, rfl, .ref x, rfl, x, C, dx, _, rfl, upd_same, T.c, T.goal, (by decide : (2 : Nat) < 1000), ?_⟩
    refine ⟨.int lv, rfl, .ref x, rfl, x, C, dx, _, rfl, upd_same, T.c, T.leaves, (by decide : (3 : Nat) < 1000), ?_⟩
    refine ⟨.int ld, rfl, .ref x, rfl, x, C, dx, _, rfl, upd_same, T.c, T.lands, (by decide : (4 : Nat) < 1000), ?_⟩
    refine ⟨.int lt, rfl, .ref x, rfl, x, C, dx, _, rfl, upd_same, T.c, T.late, (by decide : (5 : Nat) < 1000), ?_⟩
    refine ⟨.int ro, rfl, .ref x, rfl, x, C, dx, _, rfl, upd_same, T.c, T.room, (by decide : (6 : Nat) < 1000), ?_⟩
    refine ⟨.int to, rfl, .ref x, rfl, x, C, dx, _, rfl, upd_same, T.c, T.toll, (by decide : (7 : Nat) < 1000), ?_⟩
    generalize hH3 : upd (upd (upd (upd (upd (upd (upd (upd H x _) x _) x _) x _) x _) x _) x _) x _ = H3
    have b3 : But x H H3 := by
      rw [← hH3]
      exact ((((((But.upd.trans But.upd).trans But.upd).trans But.upd).trans But.upd).trans But.upd).trans But.upd).trans But.upd
    have hx3 : H3 x = some (.ins C dx (trF ⟨nm, sa, go, lv, ld, lt, ro, to⟩)) := by
      rw [← hH3]
      exact upd_same
    clear hH3
    refine ⟨.str nm, rfl, .str sa, rfl, .str go, rfl, by show 3 ≤ sizeLine; decide, fun D nD => ?_⟩
    have S4 := same_upd (o := .lst [.str nm, .str sa, .str go]) nD
    refine ⟨D, [nm, sa, go], rfl, upd_same, fun z hz => ?_, (by decide : 3 ≤ 100), fun H5 S5 => ⟨_, rfl, ?_⟩⟩
    · simp only [List.mem_cons, List.not_mem_nil, or_false] at hz
      rcases hz with rfl | rfl | rfl <;> assumption
    have S35 : Same H3 H5 := S4.trans S5
    rw [show [nm, sa, go].all isName = true by simp [n1, n2, n3]]
    refine ite2 (fun z => by cases z) (fun _ => ?_)
    refine ⟨.str sa, rfl, .str go, rfl, rfl, _, rfl, ite2 (fun z => absurd (V.str.inj (of_decide_eq_true z)) ne) (fun _ => ?_)⟩
    refine ⟨.int lv, rfl, lv, 0, rfl, rfl, _, rfl, ite2 (fun z => absurd (of_decide_eq_true z) (by omega)) (fun _ => ?_)⟩
    refine ⟨.int ld, rfl, .int lv, rfl, ld, lv, rfl, rfl, _, rfl, ite2 (fun z => absurd (of_decide_eq_true z) (by omega)) (fun _ => ?_)⟩
    refine ⟨.int lt, rfl, .int ro, rfl, .int to, rfl, .int lt, .int ro, .int to, _, rfl, min3 lt ro to, _, 0, rfl, rfl, _, rfl, ite2 (fun z => absurd (of_decide_eq_true z) ?_) (fun _ => ?_)⟩
    · have c3 : 0 ≤ lt := c3
      have c4 : 0 ≤ ro := c4
      have c5 : 0 ≤ to := c5
      by_cases h1 : ro < lt
      · rw [if_pos h1]
        by_cases h2 : to < ro
        · rw [if_pos h2]; omega
        · rw [if_neg h2]; omega
      · rw [if_neg h1]
        by_cases h2 : to < lt
        · rw [if_pos h2]; omega
        · rw [if_neg h2]; omega
    · exact q H5 (b3.trans (Same.but S35)) ⟨dx, S35 _ _ hx3⟩
end
end Tb
namespace L2
open PySem PySem.Spec PyProof.Rows
section
variable {X : Cx}
/-- name = {k: v for ..} on one line, the name a local -/
theorem ps_setDc {i : Nat} {y : Str} {py : Pos} {kx vx tg iter : Expr} {ifs : List Expr} {scope : Scope} {own : List (Str × Nat)} {pos spos : Pos} {wi : TI} {g : TG} {tt : TT} {tk tv : TE} (calm : X.calm = true) (nd : X.N.Nodup) (at_ : X.N[i]? = some y) (loc : X.env.scope.names.lookup y = some .local)
    (sw : swapsWith (.DictComp kx vx [⟨tg, iter, ifs, 0⟩] scope pos) (some (.Name y py)) spos.line X.env = pure true) (src : PI X tg iter wi) (blk : BlkOk X.N X.env.scope scope own)
    (pg : ∀ (s : Shared) (H : Hp) (C : Addr) (cl : List (Str × Addr)) (fp : List Addr), PG (X.blk s H scope (compEnvC scope cl C X.env) fp) tg g) (pt : ∀ (s : Shared) (H : Hp) (C : Addr) (cl : List (Str × Addr)) (fp : List Addr), PTs (X.blk s H scope (compEnvC scope cl C X.env) fp) ifs tt)
    (pk : ∀ (s : Shared) (H : Hp) (C : Addr) (cl : List (Str × Addr)) (fp : List Addr), PE (X.blk s H scope (compEnvC scope cl C X.env) fp) kx tk) (pe : ∀ (s : Shared) (H : Hp) (C : Addr) (cl : List (Str × Addr)) (fp : List Addr), PE (X.blk s H scope (compEnvC scope cl C X.env) fp) vx tv) (fold : ∀ x, foldedSetIterable iter X.env x = pure x := by intro _; rfl) :
    PS X (.Assign [.Name y py] (.DictComp kx vx [⟨tg, iter, ifs, 0⟩] scope pos) spos) (tAsg (tDc wi g tt tk tv (own.map (·.2))) (gName i)) := by
  refine ⟨fun pins s0 σ H En I0 wt => ?_⟩
  rw [exec_Assign_Name_used _ _ _ _ sw]
  refine wpAny_bind (wpAny_standAt (wpAny_bind (show wpAny _ X.A (do let _ ← comprehension (.DictComp kx vx [⟨tg, iter, ifs, 0⟩] scope pos) scope X.env (firstIterPos [⟨tg, iter, ifs, 0⟩] pos) newDict false (eval iter X.env) (some (assign (.Name y py) X.env))) _ _ s0 from ?_)))
  have wt : tDc wi g tt tk tv (own.map (·.2)) σ H (fun x H1 => gName i x σ H1 En.nx) := wt
  refine wpAny_bind (thn (dc_core (Qf := fun _ t => SP X pins En .next t) calm nd I0 src blk pg pt pk pe fold wt fun M C t m H9 I9 q ns fpC => ?_) fun _ t hq => wpAny_pure (wpAny_pure hq))
  show wpAny _ _ (assign (.Name y py) X.env (.ref M)) _ _ _
  obtain ⟨c0, c1, c2, c3, c4, c5⟩ := fpC
  refine wpAny_assign_Name (store_ok2 (v := V.ref M) I9 nd at_ (.inl loc) rfl (fun t2 J ⟨a, same, where_⟩ => ?_) (.inr loc))
  have other : C ≠ a := where_.elim (fun z => by rw [z]; exact c1) fun z e => c4 y a z e.symm
  refine ⟨m, ns.sameBut same other, fun t3 same3 => ⟨_, H9, J.turned (t' := t2.toks) (fun b o nb e => (same3.2 b nb).trans e) c0 c1 c3 c4 c5, q⟩⟩
theorem sw_trueD {kx vx : Expr} {gs : List Comprehension} {scope : Scope} {pos py : Pos} {y : Str} {l : Nat} {env : Env} (fn : env.scope.kind = .function) (loc : env.scope.names.lookup y = some .local) (line : (py.line == pos.line) = true)
    (no : (scope.names.any fun (n, k) => n == y && (k == .local || k == .cell)) = false) : swapsWith (.DictComp kx vx gs scope pos) (some (.Name y py)) l env = pure true := by
  have k1 : env.blockKind = .function := by
    unfold Env.blockKind
    rw [fn]; rfl
  have k2 : env.kindOf y = some .local := loc
  unfold swapsWith
  simp only [k1, k2, no, Expr.pos, line]; rfl
end
end L2
namespace Tb
open PySem PySem.Spec PyProof.Rows L2
abbrev sByName : Stmt := topS 29
abbrev NByName : List Str := ["things", "named", "thing"]
theorem scByName : FnScope NByName ["things"] (defScope sByName) := ⟨rfl, rfl, rfl, by decide +kernel, rfl, by decide +kernel, by decide +kernel⟩
abbrev sFound : Stmt := topS 30
abbrev NFound : List Str := ["named", "name"]
theorem scFound : FnScope NFound ["named", "name"] (defScope sFound) := ⟨rfl, rfl, rfl, by decide +kernel, rfl, by decide +kernel, by decide +kernel⟩
theorem pe_fldK {X : Cx} {K : PySem.W.Frag} {e : Expr} {f : Str} {pos : Pos} {ta : TE} (hK : X.K = K) (he : PE X e ta) (hb : attributeBase e f X.env (eval e X.env) = eval e X.env) : PE X (.Attribute e f pos) (tFld K ta f) := by
  subst hK
  exact pe_fld he hb
abbrev sUnk : Stmt := inClass (topS 4) 0
theorem scUnk : FnScope ["self", "name"] ["self", "name"] (defScope sUnk) := ⟨rfl, rfl, rfl, by decide +kernel, rfl, by decide +kernel, by decide +kernel⟩
/-- things with a name, by their names -/
def nmD (xs : List (Addr × Str)) : Kvs := xs.map fun x => (Sum.inr x.2, V.ref x.1)
theorem nmD_none {z : Str} : ∀ {xs : List (Addr × Str)}, z ∉ xs.map (·.2) → valV (nmD xs) (Sum.inr z) = none
  | [], _ => rfl
  | x :: xs, h => by
    rw [List.map_cons, List.mem_cons] at h
    exact (valV_neg (p := (Sum.inr x.2, V.ref x.1)) fun e => h (.inl (Sum.inr.inj e).symm)).trans (nmD_none fun m => h (.inr m))
theorem nmD_some {a : Addr} {z : Str} : ∀ {xs : List (Addr × Str)}, (xs.map (·.2)).Nodup → (a, z) ∈ xs → valV (nmD xs) (Sum.inr z) = some (.ref a)
  | x :: xs, nd, h => by
    rw [List.map_cons, List.nodup_cons] at nd
    rcases List.mem_cons.mp h with rfl | h
    · exact valV_pos (p := (Sum.inr z, V.ref a)) rfl
    · refine (valV_neg (p := (Sum.inr x.2, V.ref x.1)) fun e => nd.1 ?_).trans (nmD_some nd.2 h)
      rw [Sum.inr.inj e]
      exact List.mem_map.mpr ⟨_, h, rfl⟩
theorem nmD_isSome {z : Str} {xs : List (Addr × Str)} (nd : (xs.map (·.2)).Nodup) : (valV (nmD xs) (Sum.inr z)).isSome = decide (z ∈ xs.map (·.2)) := by
  by_cases h : z ∈ xs.map (·.2)
  · obtain ⟨x, hx, rfl⟩ := List.mem_map.mp h
    rw [nmD_some nd (a := x.1) hx, decide_eq_true h]; rfl
  · rw [nmD_none h, decide_eq_false h]; rfl
def Named (K : PySem.W.Frag) (H : Hp) (x : Addr × Str) : Prop := ∃ C dx fs, H x.1 = some (.ins C dx fs) ∧ Cls K C ∧ NoAttr K C "name" ∧ fs.lookup wName = some (.str x.2)
section
variable {P : Program} {w : World} {K : PySem.W.Frag} {mg : Str → Option Value} {base : Heap}
theorem ok_unk {f : Addr} {fd : FuncData} {k : Nat} (F : Fun K "__init__" "Unknown.__init__" sUnk f fd) : FnOk P w K mg base CX0 (k + 1) f fd ["self", "name"] (spErr K wName) := by
  refine F.ok scUnk (fun vs H Q E h => ?_) (fun cdv A outer s H vs Q E hr h => ?_)
  · obtain ⟨a, C, v, rfl, _⟩ := h
    rfl
  · obtain ⟨a, C, v, rfl, ox, no, ha, q⟩ := h
    refine ⟨_, pss_one (ps_ost (pv 0) (pv 1)), ?_⟩
    exact ⟨v, rfl, .ref a, rfl, a, C, rfl, ox, no, .inl ⟨ha, fun dx nd da => q dx nd da⟩⟩
/-- the class Unknown and its __init__ -/
structure EUnk (K : PySem.W.Frag) (mg : Str → Option Value) (C fI : Addr) (fdI : FuncData) : Prop where
  T : ErrC K C fI wName
  M : Mm K "__init__" "Unknown.__init__" sUnk ["self", "name"] fI fdI
  g : mg "Unknown" = some (.ref C)
def spByName (K : PySem.W.Frag) : Sp := fun vs H Q _ => ∃ (a : Addr) (xs : List (Addr × Str)), vs = [.ref a] ∧ SqT K H a (xs.map fun x => V.ref x.1) ∧ (∀ x ∈ xs, Named K H x) ∧ (xs.map (·.2)).Nodup ∧ xs.length ≤ 1000 ∧ ∀ (d : Addr) (H' : Hp), Same H H' → H' d = some (.dK (nmD xs)) → Q (.ref d) H'
theorem ok_byname {f : Addr} {fd : FuncData} {k : Nat} (F : Fun K "_by_name" "_by_name" sByName f fd) (B : Blt mg) : FnOk P w K mg base CX0 (k + 1) f fd ["things"] (spByName K) := by
  refine F.ok scByName (fun vs H Q E h => ?_) (fun cdv A outer s H vs Q E hr h => ?_)
  · obtain ⟨a, xs, rfl, _⟩ := h
    rfl
  · obtain ⟨a, xs, rfl, ha, hn, nd, ln, q⟩ := h
    refine ⟨_, (pss_cons (ps_setDc (i := 1) (own := [("thing", 2)]) (g := gName 2) (by rfl) scByName.nd rfl rfl (sw_trueD rfl rfl rfl (by decide +kernel)) (pi_tup (pv 0)) (blkOk_by (N := NByName) (sc := defScope sByName) (by decide +kernel)) (fun _ _ _ _ _ => pg_name (i := 2) scByName.nd rfl (Or.inl rfl)) (fun _ _ _ _ _ => pts_nil) (fun _ _ _ _ _ => pe_fldK (K := K) rfl (pv 2) rfl) (fun _ _ _ _ _ => pv 2))
      (pss_cons (ps_if (pt_cmpR op_lt (pe_callB call_lenD (by rfl) B.len PySem.boot_len (pa_cons (pv 1) pa_nil)) (pe_callB call_len_seq (by rfl) B.len PySem.boot_len (pa_cons (pv 0) pa_nil)) (nomark _))
        (pss_one ps_never)
        pss_nil)
      (pss_one (ps_ret (pv 1))))), ?_⟩
    have st : ∀ {H1}, Same H H1 → SqT K H1 a (xs.map fun x => V.ref x.1) := fun S => by
      rcases ha with (h | ⟨o, h⟩) | h
      · exact .inl (.inl (S _ _ h))
      · exact .inl (.inr ⟨o, S _ _ h⟩)
      · exact .inr h
    refine ⟨.ref a, rfl, a, rfl, ⟨_, ha⟩, fun D nD => dc_tup (K := K) (a := a) (xs := xs.map fun x => V.ref x.1) (fun i H1 => Same H H1 ∧ H1 D = some (.dK (nmD (xs.take i)))) ⟨same_upd nD, upd_same⟩ (fun i H1 _ hP => st hP.1) (fun i v H1 ev hP => ?_) (fun H1 hP => ?_)⟩
    · obtain ⟨S1, hD⟩ := hP
      rw [List.getElem?_map] at ev
      obtain ⟨x, ex, rfl⟩ := Option.map_eq_some_iff.mp ev
      obtain ⟨C, dx, fs, hx, c, na, lk⟩ := hn x (List.mem_of_getElem? ex)
      refine ⟨rfl, .ref x.1, rfl, x.1, C, dx, fs, _, rfl, S1 _ _ hx, c, na, lk, .ref x.1, rfl, nmD (xs.take i), Sum.inr x.2, rfl, hD, ?_, fun b o hb => ?_, ?_⟩
      · unfold nmD
        rw [List.length_map, List.length_take]
        exact small1000' (by omega)
      · rw [upd_ne (ne_of_none hb nD)]
        exact S1 _ _ hb
      · have new : x.2 ∉ (xs.take i).map (·.2) := fun m => by
          rw [split_at ex, List.map_append, List.map_cons, List.nodup_append] at nd
          exact nd.2.2 _ m _ List.mem_cons_self rfl
        rw [upd_same, putK_new _ (nmD_none new), take_snoc ex]
        unfold nmD
        rw [List.map_append]; rfl
    · obtain ⟨S1, hD⟩ := hP
      rw [List.length_map, List.take_length] at hD
      have lD : (nmD xs).length = xs.length := List.length_map _
      refine ⟨.ref D, rfl, D, _, rfl, hD, .ref a, rfl, a, _, rfl, .inr (st S1), _, _, rfl, rfl, _, rfl, ite2 (fun e => ?_) (fun _ => ?_)⟩
      · have := of_decide_eq_true e
        rw [lD, List.length_map] at this
        omega
      · exact ⟨.ref D, rfl, q D H1 S1 hD⟩
variable {CU fU : Addr} {gdU : FuncData}
def spFound (CU : Addr) : Sp := fun vs H Q E => ∃ (d : Addr) (z : Str) (xs : List (Addr × Str)), vs = [.ref d, .str z] ∧ H d = some (.dK (nmD xs)) ∧ (xs.map (·.2)).Nodup ∧ (∀ a, (a, z) ∈ xs → Q (.ref a) H) ∧ (z ∉ xs.map (·.2) → ∀ e H', Same H H' → H' e = some (.xd [(wName, .str z)]) → E (.ref CU) (some e) H')
theorem ok_found {f : Addr} {fd : FuncData} (F : Fun K "_found" "_found" sFound f fd) (R : EUnk K mg CU fU gdU) (B : Blt mg) : FnOk P w K mg base (L2.CX P w) 3 f fd ["named", "name"] (spFound CU) := by
  have GU : FnOk P w K mg base CX0 1 fU gdU ["self", "name"] (spErr K wName) := ok_unk R.M.F
  refine F.okX scFound (fun vs H Q E h => ?_) (fun cdv A outer s H vs Q E hr h => ?_)
  · obtain ⟨d, z, xs, rfl, _⟩ := h
    rfl
  · obtain ⟨d, z, xs, rfl, hd, nd, q, qE⟩ := h
    have hu := hu_of hr
    have hr2 : Room 2 _ := hr
    refine ⟨_, (pss_cons (ps_if (pt_cmp (pc_dnotin hu (pv 1) (pv 0)))
        (pss_one (ps_raise rfl (takes_of rfl rfl rfl rfl) (pmk_oex R.T.ox R.T.iC R.T.tI GU hr2 R.M.b .nil pass0 (by rfl) R.g (pa_cons (pv 1) pa_nil))))
        pss_nil)
      (pss_one (ps_ret (pe_dget hu (pv 0) (pv 1) (fun _ _ => rfl))))), ?_⟩
    have ks := nmD_isSome (z := z) nd
    refine ⟨.str z, rfl, .ref d, rfl, d, _, rfl, DGet.k (k := Sum.inr z) hd, _, rfl, ?_⟩
    by_cases m : z ∈ xs.map (·.2)
    · obtain ⟨x, hx, rfl⟩ := List.mem_map.mp m
      have e := nmD_some nd (a := x.1) hx
      rw [e]
      refine ite2 (fun z => by cases z) (fun _ => ?_)
      exact ⟨.ref d, rfl, .str x.2, rfl, d, _, rfl, by rw [← e]; exact DGet.k (k := Sum.inr x.2) hd, q x.1 hx⟩
    · rw [nmD_none m]
      refine ite2 (fun _ => ?_) (fun z => absurd rfl z)
      exact ⟨.str z, rfl, (by decide : (1 : Nat) ≤ 1000), err_made R.T (Q := E) fun e2 H9 S9 hd9 => qE m e2 H9 S9 hd9⟩
end
end Tb
namespace KL
open PySem PySem.Spec PyProof.Rows L2 LamX NdefX
open PySem.W (EachIs AllAlike Sortable dataLe KeyPure)
theorem fld_at {K : PySem.W.Frag} {a fld : Str} {N : List Str} {params : Arguments} {scope : Scope} {p1 p2 : Pos} (hN : N[0]? = some a) (hv : Vis scope a)
    (hb : ∀ (q : Str) (c' f L : Addr), attributeBase (.Name a p1) fld (envF (lamF q params scope c') f L) (eval (.Name a p1) (envF (lamF q params scope c') f L)) = eval (.Name a p1) (envF (lamF q params scope c') f L))
    {P : Program} {w : World} {mg : Str → Option Value} {base : Heap} {q : Str} {c' f L : Addr} {A : Around} {outer : List Env} {s s1 : Shared} {H : Hp} {E : XK} {b C dx : Addr} {fs : List (Str × V)} {v : V} {EE : Value → Shared → Prop} (hL : L = s.heap.objs.size)
    (I : Inv (ncx L2.CX0 P w K mg base N (lamF q params scope c') f A outer s H E) [] (startF N [.ref b] []) H s1) (eb : H b = some (.ins C dx fs)) (c : Cls K C) (n : NoAttr K C fld) (l : fs.lookup fld = some v)
    (hd : (a == ("__debug__" : Str)) = false := by decide) (hcd : (a == ("__classdict__" : Str)) = false := by decide) :
    wpAny (model P w) (A.deeper (envF (lamF q params scope c') f L)) (eval (.Attribute (.Name a p1) fld p2) (envF (lamF q params scope c') f L)) (fun u s2 => (∃ tk, s2 = { s1 with toks := tk }) ∧ RelV v u) EE s1 := by
  subst hL
  obtain ⟨m, hn, hl⟩ := I.loc
  obtain ⟨u, r, l2⟩ := hl 0 a (.ref b) hN (by rfl) hv
  obtain rfl : u = Value.ref b := r
  obtain ⟨mA, O, rr, _, _, _⟩ := ins_get I.hok eb
  obtain ⟨u, hu, ru⟩ := RelO.some_of (v := v) (o := mA fld) (by rw [← l]; exact rr fld)
  have fin : wpAny (model P w) (A.deeper (envF (lamF q params scope c') f s.heap.objs.size)) (getAttr (.ref b) fld true) (fun u s2 => (∃ tk, s2 = { s1 with toks := tk }) ∧ RelV v u) EE s1 :=
    get_map I.kIn O (c.get fld) c.hd n hu (handed_of ru) ⟨⟨_, rfl⟩, ru⟩
  refine attr_of (hb q c' f s.heap.objs.size) ?_
  rcases l2 with ⟨hk, hm⟩ | ⟨hk, c2, hc, hcell⟩
  · exact wpAny_Name (wpAny_loadName_local I.ok.kind hk hn hm fin) hd
  · rcases hk with hk | hk
    · exact wpAny_Name (wpAny_loadName_cell I.ok.kind hk hc hcell fin) hd
    · exact wpAny_Name (wpAny_loadName_free I.ok.kind hk hc hcell fin hcd) hd
def kdPair (K : PySem.W.Frag) (f1 f2 : Str) : V → Hp → PyData → Prop := fun x H d => ∃ a C dx fs v1 v2 d1 d2, x = .ref a ∧ H a = some (.ins C dx fs) ∧ Cls K C ∧ NoAttr K C f1 ∧ NoAttr K C f2 ∧ fs.lookup f1 = some v1 ∧ fs.lookup f2 = some v2 ∧ EncV v1 d1 ∧ EncV v2 d2 ∧ d = .tuple [d1, d2]
theorem key_pair {K : PySem.W.Frag} {a f1 f2 : Str} {N : List Str} {params : Arguments} {scope : Scope} {p1 p2 p3 p4 p5 : Pos} {n : Nat} (hN : N[0]? = some a) (hv : Vis scope a)
    (hb : ∀ (fld : Str) (p : Pos) (q : Str) (c' f L : Addr), attributeBase (.Name a p) fld (envF (lamF q params scope c') f L) (eval (.Name a p) (envF (lamF q params scope c') f L)) = eval (.Name a p) (envF (lamF q params scope c') f L))
    (hd : (a == ("__debug__" : Str)) = false := by decide) (hcd : (a == ("__classdict__" : Str)) = false := by decide) : KeyBody K N params scope (.Tuple [.Attribute (.Name a p1) f1 p2, .Attribute (.Name a p3) f2 p4] n p5) (kdPair K f1 f2) := by
  intro P w mg base q c' f A outer s s1 H E x d EE I ⟨b, C, dx, fs, v1, v2, d1, d2, ex, eb, c, n1, n2, l1, l2, e1, e2, ed⟩
  subst ex ed
  have hz : sizeLine = 16777216 := rfl
  refine wpAny_Tuple (wpAny_items_cons (wpAny_mono (fld_at hN hv (hb f1 p1) rfl I eb c n1 l1 hd hcd) (fun u1 s2 h1 => ?_) fun _ _ h => h))
  obtain ⟨⟨tk, rfl⟩, r1⟩ := h1
  refine wpAny_items_cons (wpAny_mono (fld_at hN hv (hb f2 p3) rfl (I.tok tk) eb c n2 l2 hd hcd) (fun u2 s3 h2 => ?_) fun _ _ h => h)
  obtain ⟨⟨tk2, rfl⟩, r2⟩ := h2
  refine wpAny_items_nil ⟨by show 2 ≤ sizeLine; omega, _, tk2, rfl, fun b o e => Heap.get?_push_of_some _ e, ?_⟩
  have hT : (s1.heap.push { cls := .type "tuple", data := .seq #[u1, u2] }).get? s1.heap.objs.size = some { cls := .type "tuple", data := .seq #[u1, u2] } := Heap.get?_push_size _ rfl
  exact .tuple hT rfl rfl (.cons (e1.reads r1) (.cons (e2.reads r2) .nil))
end KL
namespace Tb
open PySem PySem.Spec PyProof.Rows L2
open PySem.W (AllAlike Sortable dataLe dataLt TotalLe)
open LamX (Tabs TabS ExtN TabB CodeO)
abbrev sNInit : Stmt := inClass (topS 31) 0
abbrev NNInit : List Str := ["self", "sites", "trips", "closings", "codes", "ride", "site"]
theorem scNInit : FnScope NNInit ["self", "sites", "trips", "closings"] (defScope sNInit) := ⟨rfl, rfl, rfl, by decide +kernel, rfl, by decide +kernel, by decide +kernel⟩
abbrev sNSite : Stmt := inClass (topS 31) 2
abbrev NNSite : List Str := ["self", "name"]
theorem scNSite : FnScope NNSite ["self", "name"] (defScope sNSite) := ⟨rfl, rfl, rfl, by decide +kernel, rfl, by decide +kernel, by decide +kernel⟩
abbrev sNTrip : Stmt := inClass (topS 31) 3
abbrev NNTrip : List Str := ["self", "name"]
theorem scNTrip : FnScope NNTrip ["self", "name"] (defScope sNTrip) := ⟨rfl, rfl, rfl, by decide +kernel, rfl, by decide +kernel, by decide +kernel⟩
abbrev sNWithout : Stmt := inClass (topS 31) 1
abbrev NNWithout : List Str := ["self", "name", "lost", "trip"]
theorem scNWithout : FnScope NNWithout ["self", "name"] (defScope sNWithout) := ⟨rfl, rfl, rfl, by decide +kernel, rfl, by decide +kernel, by decide +kernel⟩
/-! ### the tables of the lambdas -/
def qN : Str := (envOfC "Network.__init__" (defScope sNInit) 0 0 .none).qual ++ "<lambda>"
abbrev TT (P1 : Addr) : List (Addr × Str) := [(P1, qN)]
theorem ext_same {H H' : Hp} (S : Same H H') : ExtN H H' := fun b o e _ => S b o e
theorem tabs_upd {T : List (Addr × Str)} {H : Hp} {a : Addr} {o o0 : HO} (h : Tabs T H) (ha : H a = some o0) (n1 : ∀ ps, o0 ≠ .tbl ps) (n2 : ∀ U, o0 ≠ .ext U) : Tabs T (upd H a o) := fun p hp => by
  obtain ⟨ps, h1, h2, h3⟩ := h p hp
  refine ⟨ps, by rw [upd_ne (fun z => by rw [z, ha] at h1; exact n1 ps (Option.some.inj h1))]; exact h1, h2, fun pos cv hc => ?_⟩
  obtain ⟨c, e1, e2⟩ := h3 pos cv hc
  exact ⟨c, e1, by rw [upd_ne (fun z => by rw [z, ha] at e2; exact n2 _ (Option.some.inj e2))]; exact e2⟩
theorem tabs_same {T : List (Addr × Str)} {H H' : Hp} (h : Tabs T H) (S : Same H H') : Tabs T H' := h.ext fun b u e => S b u e
/-- all but x and the tables stays -/
def BX (x : Addr) (H H' : Hp) : Prop := ∀ b o, H b = some o → (∀ ps, o ≠ .tbl ps) → b ≠ x → H' b = some o
theorem BX.refl (x : Addr) (H : Hp) : BX x H H := fun _ _ e _ _ => e
theorem BX.ext {x : Addr} {H H1 H2 : Hp} (h : BX x H H1) (S : ExtN H1 H2) : BX x H H2 := fun b o e t n => S b o (h b o e t n) t
theorem BX.same {x : Addr} {H H1 H2 : Hp} (h : BX x H H1) (S : Same H1 H2) : BX x H H2 := h.ext (ext_same S)
theorem BX.upd {x : Addr} {H H1 : Hp} {o : HO} (h : BX x H H1) : BX x H (L2.upd H1 x o) := fun b u e t n => by
  rw [upd_ne n]
  exact h b u e t n
theorem BX.ins {x y : Addr} {H H1 : Hp} {C dx C2 dy : Addr} {fs fs2 : List (Str × V)} (h : BX x H H1) (hx : H x = some (.ins C dx fs)) (e : H y = some (.ins C2 dy fs2)) (n : y ≠ x) : H1 y = some (.ins C2 dy fs2) := h _ _ e (fun _ z => by cases z) n
/-! ### a network -/
structure NCls (K : PySem.W.Frag) (C : Addr) : Prop where
  c : Cls K C
  sites : NoAttr K C "sites"
  trips : NoAttr K C "trips"
  closings : NoAttr K C "closings"
  dsites : NoAttr K C "_sites"
  dtrips : NoAttr K C "_trips"
  dclosings : NoAttr K C "_closings"
abbrev nmS (x : Addr × Si) : Addr × Str := (x.1, x.2.name)
abbrev nmT (x : Addr × Tr) : Addr × Str := (x.1, x.2.name)
def nwF (S T L dS dT dC : Addr) : List (Str × V) := [("sites", .ref S), ("trips", .ref T), ("closings", .ref L), ("_sites", .ref dS), ("_trips", .ref dT), ("_closings", .ref dC)]
structure NwAt (C CS CT : Addr) (H : Hp) (n : Addr) (ss : List (Addr × Si)) (ts : List (Addr × Tr)) : Prop where
  ex : ∃ dx S T L dS dT dC, H n = some (.ins C dx (nwF S T L dS dT dC)) ∧ H S = some (.tup (ss.map fun x => V.ref x.1)) ∧ H T = some (.tup (ts.map fun x => V.ref x.1)) ∧ H L = some (.tup []) ∧ H dS = some (.dK (nmD (ss.map nmS))) ∧ H dT = some (.dK (nmD (ts.map nmT)))
  s : ∀ x ∈ ss, SiAt CS H x.1 x.2
  t : ∀ x ∈ ts, TrAt CT H x.1 x.2
  ns : (ss.map fun x => x.2.name).Nodup
  nt : (ts.map fun x => x.2.name).Nodup
  nc : (ss.map fun x => x.2.code).Nodup
  srt : Srt (ts.map (·.2))
  ends : ∀ x ∈ ts, x.2.start ∈ ss.map (fun y => y.2.name) ∧ x.2.goal ∈ ss.map (fun y => y.2.name)
  ls : ss.length ≤ 200
  lt : ts.length ≤ 200
theorem SiAt.ext {C : Addr} {H H' : Hp} {a : Addr} {s : Si} (h : SiAt C H a s) (S : ExtN H H') : SiAt C H' a s := by
  obtain ⟨dx, r1, r2, r3, e⟩ := h
  exact ⟨dx, r1, r2, r3, S _ _ e fun _ z => by cases z⟩
theorem TrAt.ext {C : Addr} {H H' : Hp} {a : Addr} {t : Tr} (h : TrAt C H a t) (S : ExtN H H') : TrAt C H' a t := by
  obtain ⟨dx, e⟩ := h
  exact ⟨dx, S _ _ e fun _ z => by cases z⟩
theorem NwAt.ext {C CS CT : Addr} {H H' : Hp} {n : Addr} {ss : List (Addr × Si)} {ts : List (Addr × Tr)} (h : NwAt C CS CT H n ss ts) (E : ExtN H H') : NwAt C CS CT H' n ss ts := by
  obtain ⟨⟨dx, S, T, L, dS, dT, dC, h1, h2, h3, h4, h5, h6⟩, hs, ht, r1, r2, r3, r4, r5, r6, r7⟩ := h
  exact ⟨⟨dx, S, T, L, dS, dT, dC, E _ _ h1 fun _ z => (by cases z), E _ _ h2 fun _ z => (by cases z), E _ _ h3 fun _ z => (by cases z), E _ _ h4 fun _ z => (by cases z), E _ _ h5 fun _ z => (by cases z), E _ _ h6 fun _ z => (by cases z)⟩, fun x hx => (hs x hx).ext E, fun x hx => (ht x hx).ext E, r1, r2, r3, r4, r5, r6, r7⟩
theorem SiAt.named {K : PySem.W.Frag} {C : Addr} {H : Hp} {a : Addr} {s : Si} (T : SCls K C) (h : SiAt C H a s) : Named K H (a, s.name) := by
  obtain ⟨dx, r1, r2, r3, e⟩ := h
  exact ⟨C, dx, _, e, T.c, T.name, rfl⟩
theorem TrAt.named {K : PySem.W.Frag} {C : Addr} {H : Hp} {a : Addr} {t : Tr} (T : TCls K C) (h : TrAt C H a t) : Named K H (a, t.name) := by
  obtain ⟨dx, e⟩ := h
  exact ⟨C, dx, _, e, T.c, T.name, rfl⟩
theorem cr_lenK2 {X : Cx} : CallR X (.builtin "len") (fun xs H Q => ∃ (a : Addr) (L : List Key), xs = [.ref a] ∧ H a = some (SH.SetK2 X.prog X.w a L) ∧ Q (.int (L.length : Nat)) H) := by
  intro pins s σ H xs us Q I r h
  obtain ⟨a, L, rfl, ha, q⟩ := h
  rw [Vals.ref1 r]
  obtain ⟨es, ep, t, ⟨o, ho, hx, hd⟩, _, ei, _, hb, hf, _⟩ : SH.SetQ X.prog X.w s.heap a L := (I.hok a _ ha).1
  have hl : es.size = L.length := by rw [← Array.length_toList]; exact ei.length
  have sb : scanBound = 4096 := rfl
  exact call_len_set ho hx hd hf (by omega) ⟨.int (L.length : Nat), H, I.tok _, ⟨_, by rw [hl]⟩, q⟩
/-- what sorted(xs, key=..) asks, of items with an address and a key -/
theorem sort_parts {K : PySem.W.Frag} {α : Type} (kd : V → Hp → PyData → Prop) (f : α → Addr) (enc : α → PyData) {H1 : Hp} {l : Addr} {xs : List α} (hs : SqL K H1 l (xs.map fun x => V.ref (f x)) ∨ SqT K H1 l (xs.map fun x => V.ref (f x))) (ln : xs.length ≤ 1000) (al : AllAlike (xs.map enc)) (so : Sortable (xs.map enc)) (dp : ∀ x ∈ xs, (enc x).depth ≤ 10) :
    ∃ bs : List (V × PyData), (SqL K H1 l (bs.map Prod.fst) ∨ SqT K H1 l (bs.map Prod.fst)) ∧ bs.length ≤ 1000 ∧ AllAlike (bs.map Prod.snd) ∧ Sortable (bs.map Prod.snd) ∧ (∀ b ∈ bs, b.2.depth ≤ 10) ∧ (∀ H2, (∀ x ∈ xs, kd (.ref (f x)) H2 (enc x)) → ∀ b ∈ bs, kd b.1 H2 b.2) ∧
      (bs.mergeSort (dataLe false Prod.snd)).map Prod.fst = (xs.mergeSort (dataLe false enc)).map fun x => V.ref (f x) := by
  have e1 : (xs.map fun x => (V.ref (f x), enc x)).map Prod.fst = xs.map fun x => V.ref (f x) := by rw [List.map_map]; rfl
  have e2 : (xs.map fun x => (V.ref (f x), enc x)).map Prod.snd = xs.map enc := by rw [List.map_map]; rfl
  have es : ((xs.map fun x => (V.ref (f x), enc x)).mergeSort (dataLe false Prod.snd)).map Prod.fst = (xs.mergeSort (dataLe false enc)).map fun x => V.ref (f x) := by
    rw [← PySem.W.sort_maps (r := dataLe false enc) (s := dataLe false Prod.snd) (fun x => (V.ref (f x), enc x)) fun a _ b _ => rfl, List.map_map]
    rfl
  refine ⟨xs.map fun x => (V.ref (f x), enc x), by rw [e1]; exact hs, by rw [List.length_map]; exact ln, by rw [e2]; exact al, by rw [e2]; exact so, fun b hb => ?_, fun H2 h1 b hb => ?_, es⟩
  · obtain ⟨x, hx, rfl⟩ := List.mem_map.mp hb
    exact dp x hx
  · obtain ⟨x, hx, rfl⟩ := List.mem_map.mp hb
    exact h1 x hx
theorem al_int {α : Type} (g : α → Int) (xs : List α) : AllAlike (xs.map fun x => PyData.int (g x)) := fun d hd d' hd' => by
  obtain ⟨x, _, rfl⟩ := List.mem_map.mp hd
  obtain ⟨y, _, rfl⟩ := List.mem_map.mp hd'
  simp [PySem.W.alike]
theorem al_str {α : Type} (g : α → Str) (xs : List α) : AllAlike (xs.map fun x => PyData.str (g x)) := fun d hd d' hd' => by
  obtain ⟨x, _, rfl⟩ := List.mem_map.mp hd
  obtain ⟨y, _, rfl⟩ := List.mem_map.mp hd'
  simp [PySem.W.alike]
theorem al_pair {α : Type} (g : α → Tr) (xs : List α) : AllAlike (xs.map fun x => enc1 (g x)) := fun d hd d' hd' => by
  obtain ⟨x, _, rfl⟩ := List.mem_map.mp hd
  obtain ⟨y, _, rfl⟩ := List.mem_map.mp hd'
  simp [enc1, PySem.W.alike, PySem.W.alikeAll]
theorem so_int {α : Type} (g : α → Int) (xs : List α) : Sortable (xs.map fun x => PyData.int (g x)) := .inr fun d hd => by
  obtain ⟨x, _, rfl⟩ := List.mem_map.mp hd
  exact ⟨nofun, fun _ => nofun⟩
theorem so_str {α : Type} (g : α → Str) (xs : List α) : Sortable (xs.map fun x => PyData.str (g x)) := .inr fun d hd => by
  obtain ⟨x, _, rfl⟩ := List.mem_map.mp hd
  exact ⟨nofun, fun _ => nofun⟩
theorem so_pair {α : Type} (g : α → Tr) (xs : List α) : Sortable (xs.map fun x => enc1 (g x)) := .inl fun d hd => by
  obtain ⟨x, _, rfl⟩ := List.mem_map.mp hd
  exact ⟨_, _, rfl⟩
theorem tt_one {P1 : Addr} : ∀ p ∈ TT P1, p.1 = P1 → p.2 = qN := fun p hp _ => by
  rw [List.mem_singleton.mp hp]
section
variable {P : Program} {w : World} {K : PySem.W.Frag} {mg : Str → Option Value} {base : Heap} {C CS CT P1 cc : Addr}
abbrev CByName (P : Program) (w : World) (K : PySem.W.Frag) (mg : Str → Option Value) (base : Heap) (g : Addr) (gd : FuncData) := C1 P w K mg base "_by_name" sByName ["things"] 1 (spByName K) g gd
def SqAny (K : PySem.W.Frag) (H : Hp) (a : Addr) (xs : List V) : Prop := SqL K H a xs ∨ SqT K H a xs
theorem SqAny.bx {K : PySem.W.Frag} {H H' : Hp} {x a C dx : Addr} {fs : List (Str × V)} {xs : List V} (hx : H x = some (.ins C dx fs)) (b : BX x H H') (h : SqAny K H a xs) : SqAny K H' a xs := by
  have ne : ∀ {o}, H a = some o → (∀ C dx fs, o ≠ .ins C dx fs) → a ≠ x := fun {o} h n e => by
    rw [e, hx] at h
    exact n _ _ _ (Option.some.inj h).symm
  rcases h with ((h | ⟨o, h⟩) | h) | ((h | ⟨o, h⟩) | h)
  · exact .inl (.inl (.inl (b _ _ h nofun (ne h nofun))))
  · exact .inl (.inl (.inr ⟨o, b _ _ h nofun (ne h nofun)⟩))
  · exact .inl (.inr h)
  · exact .inr (.inl (.inl (b _ _ h nofun (ne h nofun))))
  · exact .inr (.inl (.inr ⟨o, b _ _ h nofun (ne h nofun)⟩))
  · exact .inr (.inr h)
theorem SiAt.bx {C CS : Addr} {H H' : Hp} {x a dx : Addr} {fs : List (Str × V)} {s : Si} (hx : H x = some (.ins C dx fs)) (n : CS ≠ C) (b : BX x H H') (h : SiAt CS H a s) : SiAt CS H' a s := by
  obtain ⟨dy, r1, r2, r3, e⟩ := h
  exact ⟨dy, r1, r2, r3, b _ _ e nofun fun z => by rw [z, hx] at e; cases e; exact n rfl⟩
theorem TrAt.bx {C CS : Addr} {H H' : Hp} {x a dx : Addr} {fs : List (Str × V)} {s : Tr} (hx : H x = some (.ins C dx fs)) (n : CS ≠ C) (b : BX x H H') (h : TrAt CS H a s) : TrAt CS H' a s := by
  obtain ⟨dy, e⟩ := h
  exact ⟨dy, b _ _ e nofun fun z => by rw [z, hx] at e; cases e; exact n rfl⟩
theorem BX.trans {x : Addr} {H H1 H2 : Hp} (a : BX x H H1) (b : BX x H1 H2) : BX x H H2 := fun c o e t n => b c o (a c o e t n) t n
theorem nstep {T : List (Addr × Str)} {x C dx p S : Addr} {fs fs2 : List (Str × V)} {xs : List V} {H0 H1 : Hp} (E : ExtN H0 H1) (hT : Tabs T H1) (hx : H1 x = some (.ins C dx fs)) (np : H1 p = none) (nS : upd H1 p (.lst xs) S = none) :
    BX x H0 (upd (upd (upd H1 p (.lst xs)) S (.tup xs)) x (.ins C dx fs2)) ∧ Tabs T (upd (upd (upd H1 p (.lst xs)) S (.tup xs)) x (.ins C dx fs2)) ∧ upd (upd (upd H1 p (.lst xs)) S (.tup xs)) x (.ins C dx fs2) S = some (.tup xs) := by
  have S1 := same_upd (o := .lst xs) np
  have S2 := same_upd (o := .tup xs) nS
  have hx2 := S2 _ _ (S1 _ _ hx)
  have nSx : S ≠ x := fun z => by rw [z, S1 _ _ hx] at nS; cases nS
  refine ⟨((((BX.refl x H0).ext E).same S1).same S2).upd, tabs_upd (tabs_same (tabs_same hT S1) S2) hx2 nofun nofun, ?_⟩
  rw [upd_ne nSx]
  exact upd_same
theorem dstep {T : List (Addr × Str)} {x C dx : Addr} {fs fs2 : List (Str × V)} {H0 H1 : Hp} (S : Same H0 H1) (hT : Tabs T H0) (hx : H0 x = some (.ins C dx fs)) : BX x H0 (upd H1 x (.ins C dx fs2)) ∧ Tabs T (upd H1 x (.ins C dx fs2)) :=
  ⟨((BX.refl x H0).same S).upd, tabs_upd (tabs_same hT S) (S _ _ hx) nofun nofun⟩
theorem BX.tup {x : Addr} {H H' : Hp} {C dx a : Addr} {fs : List (Str × V)} {xs : List V} (b : BX x H H') (hx : H x = some (.ins C dx fs)) (h : H a = some (.tup xs)) : H' a = some (.tup xs) := b _ _ h nofun fun z => by rw [z, hx] at h; cases h
theorem BX.dK {x : Addr} {H H' : Hp} {C dx a : Addr} {fs : List (Str × V)} {xs : Kvs} (b : BX x H H') (hx : H x = some (.ins C dx fs)) (h : H a = some (.dK xs)) : H' a = some (.dK xs) := b _ _ h nofun fun z => by rw [z, hx] at h; cases h
theorem nm_perm {ss ss' : List (Addr × Si)} (p : ss'.Perm ss) (n : (ss.map fun x => x.2.name).Nodup) : ((ss'.map nmS).map (·.2)).Nodup := by
  rw [List.map_map]
  exact (p.map fun x => x.2.name).nodup_iff.mpr n
theorem nmt_perm {ss ss' : List (Addr × Tr)} (p : ss'.Perm ss) (n : (ss.map fun x => x.2.name).Nodup) : ((ss'.map nmT).map (·.2)).Nodup := by
  rw [List.map_map]
  exact (p.map fun x => x.2.name).nodup_iff.mpr n
def spNInit (K : PySem.W.Frag) (C CS CT P1 : Addr) : Sp := fun vs H Q _ => ∃ (x dx s t l : Addr) (ss : List (Addr × Si)) (ts : List (Addr × Tr)), vs = [.ref x, .ref s, .ref t, .ref l] ∧ H x = some (.ins C dx []) ∧ Tabs (TT P1) H ∧ SqAny K H s (ss.map fun x => V.ref x.1) ∧ SqAny K H t (ts.map fun x => V.ref x.1) ∧ SqAny K H l [] ∧ (∀ y ∈ ss, SiAt CS H y.1 y.2) ∧ (∀ y ∈ ts, TrAt CT H y.1 y.2) ∧
  (ss.map fun x => x.2.name).Nodup ∧ (ts.map fun x => x.2.name).Nodup ∧ (ss.map fun x => x.2.code).Nodup ∧ (∀ y ∈ ts, y.2.start ∈ ss.map (fun y => y.2.name) ∧ y.2.goal ∈ ss.map (fun y => y.2.name)) ∧ ss.length ≤ 200 ∧ ts.length ≤ 200 ∧ CS ≠ C ∧ CT ≠ C ∧
  ∀ (ss' : List (Addr × Si)) (ts' : List (Addr × Tr)) (H' : Hp), ss'.Perm ss → ts'.Perm ts → BX x H H' → Tabs (TT P1) H' → NwAt C CS CT H' x ss' ts' → Q .non H'
set_option maxHeartbeats 0 in
theorem ok_ninit {f g1 : Addr} {fd gd1 : FuncData} (F : KL.FunC K "__init__" "Network.__init__" sNInit cc f fd) (TB : TabB base mg cc P1) (NC : NCls K C) (SC : SCls K CS) (TC : TCls K CT) (cByName : CByName P w K mg base g1 gd1) (B : Blt mg) : FnOk P w K mg base CX0 7 f fd ["self", "sites", "trips", "closings"] (spNInit K C CS CT P1) := by
  refine F.ok scNInit (fun vs H Q E h => ?_) (fun A outer s H vs Q E hr h => ?_)
  · obtain ⟨x, dx, s, t, l, ss, ts, rfl, _⟩ := h
    rfl
  · obtain ⟨x, dx, s, t, l, ss, ts, rfl, hx, hT, hs, ht, hl, hS, hTr, nS, nT, nC, en, lS, lT, cs1, ct1, q⟩ := h
    have hu := hu_of hr
    refine ⟨_, (pss_cons (ps_fld (pv 0) (pe_callTy call_tuple_of (by rfl) B.tuple PyProof.Rows.boot_tuple (pa_cons (KL.pe_sortLam (T := TT P1) (kd := KL.kdFld K "name") (N := ["site"]) (a := "site") (k := 0) (pa_cons (pv 1) pa_nil) (by rfl) B.sorted TB rfl List.mem_cons_self tt_one (hr.mono (by decide)) (NdefX.nscope_by (by decide +kernel)) (KL.key_fld rfl (.inl rfl) (fun _ _ _ _ => rfl)) (fun _ _ _ _ _ => rfl) rfl rfl (fun y hy e => by rw [List.mem_singleton.mp hy] at e; cases e)) pa_nil)) rfl)
      (pss_cons (ps_fld (pv 0) (pe_callTy call_tuple_of (by rfl) B.tuple PyProof.Rows.boot_tuple (pa_cons (KL.pe_sortLam (T := TT P1) (kd := KL.kdPair K "leaves" "name") (N := ["trip"]) (a := "trip") (k := 0) (pa_cons (pv 2) pa_nil) (by rfl) B.sorted TB rfl List.mem_cons_self tt_one (hr.mono (by decide)) (NdefX.nscope_by (by decide +kernel)) (KL.key_pair rfl (.inl rfl) (fun _ _ _ _ _ _ => rfl)) (fun _ _ _ _ _ => rfl) rfl rfl (fun y hy e => by rw [List.mem_singleton.mp hy] at e; cases e)) pa_nil)) rfl)
      (pss_cons (ps_fld (pv 0) (pe_callTy call_tuple_of (by rfl) B.tuple PyProof.Rows.boot_tuple (pa_cons (KL.pe_sortLam (T := TT P1) (kd := KL.kdPair K "tick" "name") (N := ["closing"]) (a := "closing") (k := 0) (pa_cons (pv 3) pa_nil) (by rfl) B.sorted TB rfl List.mem_cons_self tt_one (hr.mono (by decide)) (NdefX.nscope_by (by decide +kernel)) (KL.key_pair rfl (.inl rfl) (fun _ _ _ _ _ _ => rfl)) (fun _ _ _ _ _ => rfl) rfl rfl (fun y hy e => by rw [List.mem_singleton.mp hy] at e; cases e)) pa_nil)) rfl)
      (pss_cons (ps_fld (pv 0) (pe_call cByName.G (hr.mono (by first | decide | omega)) (by rfl) cByName.D.g cByName.D.F.kp cByName.D.b .nil pass0 (pa_cons (pe_fld (pv 0) rfl) pa_nil)) rfl)
      (pss_cons (ps_fld (pv 0) (pe_call cByName.G (hr.mono (by first | decide | omega)) (by rfl) cByName.D.g cByName.D.F.kp cByName.D.b .nil pass0 (pa_cons (pe_fld (pv 0) rfl) pa_nil)) rfl)
      (pss_cons (ps_fld (pv 0) (pe_call cByName.G (hr.mono (by first | decide | omega)) (by rfl) cByName.D.g cByName.D.F.kp cByName.D.b .nil pass0 (pa_cons (pe_fld (pv 0) rfl) pa_nil)) rfl)
      (pss_cons (ps_setLc (i := 4) (own := [("site", 6)]) (g := gName 6) (by rfl) scNInit.nd rfl rfl (sw_true rfl rfl rfl (by decide +kernel)) (pi_tup (pe_fld (pv 0) rfl)) (blkOk_by (N := NNInit) (sc := defScope sNInit) (by decide +kernel)) (fun _ _ _ _ _ => pg_name (i := 6) scNInit.nd rfl (Or.inl rfl)) (fun _ _ _ _ _ => pts_nil) (fun _ _ _ _ _ => pe_fldK (K := K) rfl (pv 6) rfl))
      (pss_cons (ps_if (pt_cmpR op_lt (pe_callB cr_lenK2 (by rfl) B.len PySem.boot_len (pa_cons (pe_callTy (r := SH.rSetQ K P w) (SH.cr_setQ rfl) (by rfl) B.set PyProof.Rows.boot_set (pa_cons (pv 4) pa_nil)) pa_nil)) (pe_callB call_len_seq (by rfl) B.len PySem.boot_len (pa_cons (pv 4) pa_nil)) (nomark _))
        (pss_one ps_never)
        pss_nil)
      (pss_one (ps_for PassesOwn.never rfl (pi_tup (pe_op op_catA (pe_fld (pv 0) rfl) (pe_fld (pv 0) rfl))) (pg_name (i := 5) scNInit.nd rfl (.inl rfl))
        (pss_one (ps_if (PW.pt (pw_or (pt_cmp (pc_dnotin hu (pe_fld (pv 5) rfl) (pe_fld (pv 0) rfl))) (pw_or1 (pt_cmp (pc_dnotin hu (pe_fld (pv 5) rfl) (pe_fld (pv 0) rfl))))))
          (pss_one ps_never)
          pss_nil)))))))))))), ?_⟩
    obtain ⟨bs, s1, s2, s3, s4, s5, s6, s7⟩ := sort_parts (K := K) (KL.kdFld K "name") (fun x : Addr × Si => x.1) (fun x => PyData.str x.2.name) hs (by omega) (al_str _ _) (so_str _ _) (fun y hy => by simp [PyData.depth])
    refine ⟨.ref s, rfl, hT, s, bs, rfl, s1, s2, s3, s4, s5, fun H1 E1 T1 => ⟨s6 H1 fun y hy => ?_, fun p np => ?_⟩⟩
    · obtain ⟨dy, r1, r2, r3, e⟩ := (hS y hy).ext E1
      exact ⟨y.1, CS, dy, _, _, rfl, e, SC.c, SC.name, rfl, .str _⟩
    rw [s7]
    clear s1 s2 s3 s4 s5 s6 s7
    have pS : (ss.mergeSort (dataLe false fun x : Addr × Si => PyData.str x.2.name)).Perm ss := List.mergeSort_perm _ _
    generalize ss.mergeSort (dataLe false fun x : Addr × Si => PyData.str x.2.name) = ss' at pS
    refine ⟨p, _, rfl, .inl ⟨sqOf upd_same, fun S nSx => ?_⟩⟩
    have hx1 := E1 _ _ hx (fun _ z => by cases z)
    refine ⟨.ref x, rfl, x, C, dx, _, rfl, same_upd nSx _ _ (same_upd np _ _ hx1), NC.c, NC.sites, by decide, ?_⟩
    obtain ⟨b2, T2, hS2⟩ := nstep (fs2 := [("sites", .ref S)]) E1 T1 hx1 np nSx
    have hx2 : (upd (upd (upd H1 p (.lst (ss'.map fun x : Addr × Si => V.ref x.1))) S (.tup (ss'.map fun x : Addr × Si => V.ref x.1))) x (.ins C dx [("sites", .ref S)])) x = some (.ins C dx [("sites", .ref S)]) := upd_same
    show tSeq _ _ _ _ (upd (upd (upd H1 p (.lst (ss'.map fun x : Addr × Si => V.ref x.1))) S (.tup (ss'.map fun x : Addr × Si => V.ref x.1))) x (.ins C dx [("sites", .ref S)]))
    generalize (upd (upd (upd H1 p (.lst (ss'.map fun x : Addr × Si => V.ref x.1))) S (.tup (ss'.map fun x : Addr × Si => V.ref x.1))) x (.ins C dx [("sites", .ref S)])) = H2 at b2 T2 hS2 hx2
    clear np nSx E1 T1 hx1 hT
    have hTr2 : ∀ y ∈ ts, TrAt CT H2 y.1 y.2 := fun y hy => (hTr y hy).bx hx ct1 b2
    obtain ⟨bs, s1, s2, s3, s4, s5, s6, s7⟩ := sort_parts (K := K) (KL.kdPair K "leaves" "name") (fun x : Addr × Tr => x.1) (fun x => enc1 x.2) (ht.bx hx b2) (by omega) (al_pair (fun x : Addr × Tr => x.2) _) (so_pair (fun x : Addr × Tr => x.2) _) (fun y hy => by simp [enc1, PyData.depth, PyData.depthAll])
    refine ⟨.ref t, rfl, T2, t, bs, rfl, s1, s2, s3, s4, s5, fun H3 E3 T3 => ⟨s6 H3 fun y hy => ?_, fun p np => ?_⟩⟩
    · obtain ⟨dy, e⟩ := (hTr2 y hy).ext E3
      exact ⟨y.1, CT, dy, _, _, _, _, _, rfl, e, TC.c, TC.leaves, TC.name, rfl, rfl, .int _, .str _, rfl⟩
    rw [s7]
    clear s1 s2 s3 s4 s5 s6 s7
    have pT : (ts.mergeSort (dataLe false fun x : Addr × Tr => enc1 x.2)).Perm ts := List.mergeSort_perm _ _
    have sT : Srt ((ts.mergeSort (dataLe false fun x : Addr × Tr => enc1 x.2)).map (·.2)) := srt_of (f := fun b : Addr × Tr => b.2) (fun a b n => lt_head n) nT
    generalize ts.mergeSort (dataLe false fun x : Addr × Tr => enc1 x.2) = ts' at pT sT
    refine ⟨p, _, rfl, .inl ⟨sqOf upd_same, fun Tp nTx => ?_⟩⟩
    have hx3 := E3 _ _ hx2 (fun _ z => by cases z)
    refine ⟨.ref x, rfl, x, C, dx, _, rfl, same_upd nTx _ _ (same_upd np _ _ hx3), NC.c, NC.trips, (by decide : (1 : Nat) < 1000), ?_⟩
    obtain ⟨b4, T4, hT4⟩ := nstep (fs2 := [("sites", .ref S), ("trips", .ref Tp)]) E3 T3 hx3 np nTx
    have hx4 : (upd (upd (upd H3 p (.lst (ts'.map fun x : Addr × Tr => V.ref x.1))) Tp (.tup (ts'.map fun x : Addr × Tr => V.ref x.1))) x (.ins C dx [("sites", .ref S), ("trips", .ref Tp)])) x = some (.ins C dx [("sites", .ref S), ("trips", .ref Tp)]) := upd_same
    show tSeq _ _ _ _ (upd (upd (upd H3 p (.lst (ts'.map fun x : Addr × Tr => V.ref x.1))) Tp (.tup (ts'.map fun x : Addr × Tr => V.ref x.1))) x (.ins C dx [("sites", .ref S), ("trips", .ref Tp)]))
    generalize (upd (upd (upd H3 p (.lst (ts'.map fun x : Addr × Tr => V.ref x.1))) Tp (.tup (ts'.map fun x : Addr × Tr => V.ref x.1))) x (.ins C dx [("sites", .ref S), ("trips", .ref Tp)])) = H4 at b4 T4 hT4 hx4
    clear np nTx E3 T3 hx3 T2
    have hS4 := b4.tup hx2 hS2
    have b04 := b2.trans b4
    refine ⟨.ref l, rfl, T4, l, [], rfl, hl.bx hx b04, by decide, fun _ h => (by cases h), .inl fun _ h => (by cases h), fun _ h => (by cases h), fun H5 E5 T5 => ⟨fun _ h => (by cases h), fun p np => ?_⟩⟩
    rw [show (([] : List (V × PyData)).mergeSort (dataLe false Prod.snd)).map Prod.fst = ([] : List V) by simp]
    refine ⟨p, _, rfl, .inl ⟨sqOf upd_same, fun Lp nLx => ?_⟩⟩
    have hx5 := E5 _ _ hx4 (fun _ z => by cases z)
    refine ⟨.ref x, rfl, x, C, dx, _, rfl, same_upd nLx _ _ (same_upd np _ _ hx5), NC.c, NC.closings, (by decide : (2 : Nat) < 1000), ?_⟩
    obtain ⟨b6, T6, hL6⟩ := nstep (fs2 := [("sites", .ref S), ("trips", .ref Tp), ("closings", .ref Lp)]) E5 T5 hx5 np nLx
    have hx6 : (upd (upd (upd H5 p (.lst [])) Lp (.tup [])) x (.ins C dx [("sites", .ref S), ("trips", .ref Tp), ("closings", .ref Lp)])) x = some (.ins C dx [("sites", .ref S), ("trips", .ref Tp), ("closings", .ref Lp)]) := upd_same
    show tSeq _ _ _ _ (upd (upd (upd H5 p (.lst [])) Lp (.tup [])) x (.ins C dx [("sites", .ref S), ("trips", .ref Tp), ("closings", .ref Lp)]))
    generalize (upd (upd (upd H5 p (.lst [])) Lp (.tup [])) x (.ins C dx [("sites", .ref S), ("trips", .ref Tp), ("closings", .ref Lp)])) = H6 at b6 T6 hL6 hx6
    clear np nLx E5 T5 hx5 T4
    have hS6 := b6.tup hx4 hS4
    have hT6 := b6.tup hx4 hT4
    have b06 := b04.trans b6
    have eS : (ss'.map nmS).map (fun x => V.ref x.1) = ss'.map fun x => V.ref x.1 := by rw [List.map_map]; rfl
    have eT : (ts'.map nmT).map (fun x => V.ref x.1) = ts'.map fun x => V.ref x.1 := by rw [List.map_map]; rfl
    have lS' : ss'.length ≤ 200 := by rw [pS.length_eq]; exact lS
    have lT' : ts'.length ≤ 200 := by rw [pT.length_eq]; exact lT
    have ndS := nm_perm pS nS
    have ndT := nmt_perm pT nT
    -- _sites
    refine ⟨.ref x, rfl, x, C, dx, _, .ref S, rfl, hx6, NC.c, NC.sites, rfl, S, ss'.map nmS, rfl, by rw [eS]; exact .of hS6, fun y hy => ?_, ndS, by rw [List.length_map]; omega, fun dS H7 S7 hdS => ?_⟩
    · obtain ⟨z, hz, rfl⟩ := List.mem_map.mp hy
      exact SiAt.named SC ((hS z (pS.mem_iff.mp hz)).bx hx cs1 b06)
    refine ⟨.ref x, rfl, x, C, dx, _, rfl, S7 _ _ hx6, NC.c, NC.dsites, (by decide : (3 : Nat) < 1000), ?_⟩
    obtain ⟨b8, T8⟩ := dstep (fs2 := [("sites", .ref S), ("trips", .ref Tp), ("closings", .ref Lp), ("_sites", .ref dS)]) S7 T6 hx6
    have hd8 : (upd H7 x (.ins C dx [("sites", .ref S), ("trips", .ref Tp), ("closings", .ref Lp), ("_sites", .ref dS)])) dS = some (.dK (nmD (ss'.map nmS))) := by
      rw [upd_ne fun z => by rw [z, S7 _ _ hx6] at hdS; cases hdS]
      exact hdS
    have hx8 : (upd H7 x (.ins C dx [("sites", .ref S), ("trips", .ref Tp), ("closings", .ref Lp), ("_sites", .ref dS)])) x = some (.ins C dx [("sites", .ref S), ("trips", .ref Tp), ("closings", .ref Lp), ("_sites", .ref dS)]) := upd_same
    show tSeq _ _ _ _ (upd H7 x (.ins C dx [("sites", .ref S), ("trips", .ref Tp), ("closings", .ref Lp), ("_sites", .ref dS)]))
    generalize upd H7 x (.ins C dx [("sites", .ref S), ("trips", .ref Tp), ("closings", .ref Lp), ("_sites", .ref dS)]) = H8 at b8 T8 hd8 hx8
    have hS8 := b8.tup hx6 hS6
    have hT8 := b8.tup hx6 hT6
    have hL8 := b8.tup hx6 hL6
    have b08 := b06.trans b8
    -- _trips
    refine ⟨.ref x, rfl, x, C, dx, _, .ref Tp, rfl, hx8, NC.c, NC.trips, rfl, Tp, ts'.map nmT, rfl, by rw [eT]; exact .of hT8, fun y hy => ?_, ndT, by rw [List.length_map]; omega, fun dT H9 S9 hdT => ?_⟩
    · obtain ⟨z, hz, rfl⟩ := List.mem_map.mp hy
      exact TrAt.named TC ((hTr z (pT.mem_iff.mp hz)).bx hx ct1 b08)
    refine ⟨.ref x, rfl, x, C, dx, _, rfl, S9 _ _ hx8, NC.c, NC.dtrips, (by decide : (4 : Nat) < 1000), ?_⟩
    obtain ⟨b10, T10⟩ := dstep (fs2 := [("sites", .ref S), ("trips", .ref Tp), ("closings", .ref Lp), ("_sites", .ref dS), ("_trips", .ref dT)]) S9 T8 hx8
    have hdt10 : (upd H9 x (.ins C dx [("sites", .ref S), ("trips", .ref Tp), ("closings", .ref Lp), ("_sites", .ref dS), ("_trips", .ref dT)])) dT = some (.dK (nmD (ts'.map nmT))) := by
      rw [upd_ne fun z => by rw [z, S9 _ _ hx8] at hdT; cases hdT]
      exact hdT
    have hx10 : (upd H9 x (.ins C dx [("sites", .ref S), ("trips", .ref Tp), ("closings", .ref Lp), ("_sites", .ref dS), ("_trips", .ref dT)])) x = some (.ins C dx [("sites", .ref S), ("trips", .ref Tp), ("closings", .ref Lp), ("_sites", .ref dS), ("_trips", .ref dT)]) := upd_same
    show tSeq _ _ _ _ (upd H9 x (.ins C dx [("sites", .ref S), ("trips", .ref Tp), ("closings", .ref Lp), ("_sites", .ref dS), ("_trips", .ref dT)]))
    generalize upd H9 x (.ins C dx [("sites", .ref S), ("trips", .ref Tp), ("closings", .ref Lp), ("_sites", .ref dS), ("_trips", .ref dT)]) = H10 at b10 T10 hdt10 hx10
    have hS10 := b10.tup hx8 hS8
    have hT10 := b10.tup hx8 hT8
    have hL10 := b10.tup hx8 hL8
    have hd10 := b10.dK hx8 hd8
    have b010 := b08.trans b10
    -- _closings
    refine ⟨.ref x, rfl, x, C, dx, _, .ref Lp, rfl, hx10, NC.c, NC.closings, rfl, Lp, [], rfl, .of hL10, fun y hy => (by cases hy), List.nodup_nil, by decide, fun dC H11 S11 hdC => ?_⟩
    refine ⟨.ref x, rfl, x, C, dx, _, rfl, S11 _ _ hx10, NC.c, NC.dclosings, (by decide : (5 : Nat) < 1000), ?_⟩
    obtain ⟨b12, T12⟩ := dstep (fs2 := nwF S Tp Lp dS dT dC) S11 T10 hx10
    have hx12 : (upd H11 x (.ins C dx (nwF S Tp Lp dS dT dC))) x = some (.ins C dx (nwF S Tp Lp dS dT dC)) := upd_same
    show tSeq _ _ _ _ (upd H11 x (.ins C dx (nwF S Tp Lp dS dT dC)))
    generalize upd H11 x (.ins C dx (nwF S Tp Lp dS dT dC)) = H12 at b12 T12 hx12
    have hS12 := b12.tup hx10 hS10
    have hT12 := b12.tup hx10 hT10
    have hL12 := b12.tup hx10 hL10
    have hd12 := b12.dK hx10 hd10
    have hdt12 := b12.dK hx10 hdt10
    have b012 := b010.trans b12
    have sS : ∀ y ∈ ss', SiAt CS H12 y.1 y.2 := fun y hy => (hS y (pS.mem_iff.mp hy)).bx hx cs1 b012
    have sT' : ∀ y ∈ ts', TrAt CT H12 y.1 y.2 := fun y hy => (hTr y (pT.mem_iff.mp hy)).bx hx ct1 b012
    clear b2 b4 b6 b8 b10 b12 b04 b06 b08 b010 hS2 hS4 hS6 hS8 hS10 hT4 hT6 hT8 hT10 hL6 hL8 hL10 hd8 hd10 hdt10 hx2 hx4 hx6 hx8 hx10 T6 T8 T10 S7 S9 S11 hdS hdT hdC hTr2 hs ht hl
    have wk := walk_tup (K := K) (a := S) (xs := ss'.map fun y => V.ref y.1)
    rw [List.length_map] at wk
    refine ⟨.ref x, rfl, x, C, dx, _, .ref S, rfl, hx12, NC.c, NC.sites, rfl, S, rfl, ⟨_, .of hS12⟩, fun D nD => lc_w (fun _ => true) (fun y : Addr × Si => V.str y.2.code) wk (fun H' S' => .of (S' _ _ hS12)) (fun i H' v H'' h => h) nD (by omega) (fun _ => rfl) (fun c hc H3 S3 R hR => hR H3 (Same.refl _)) (fun c hc H3 S3 R hR => ?_) (fun H13 S13 hD => ?_)⟩
    · obtain ⟨dy, r1, r2, r3, e⟩ := (sS c hc).ext (ext_same S3)
      exact ⟨.ref c.1, rfl, c.1, CS, dy, _, .str c.2.code, rfl, e, SC.c, SC.code, rfl, hR H3 (Same.refl _)⟩
    rw [filt_true] at hD
    have cN : (ss'.map fun y => (Sum.inr y.2.code : Key)).Nodup := by
      have := (pS.map fun y => y.2.code).nodup_iff.mpr nC
      have e : (ss'.map fun y => (Sum.inr y.2.code : Key)) = (ss'.map fun y => y.2.code).map Sum.inr := by rw [List.map_map]; rfl
      rw [e]
      exact List.pairwise_map.mpr (this.imp fun {a b} h z => h (Sum.inr.inj z))
    have hD : H13 D = some (.lst ((ss'.map fun y => (Sum.inr y.2.code : Key)).map kV)) := by rw [hD, List.map_map]; rfl
    refine ⟨.ref D, rfl, D, _, rfl, sqOf hD, by rw [List.length_map]; omega, fun A2 L nA ndL mL leL => ?_⟩
    have SA := same_upd (o := SH.SetK2 P w A2 L) nA
    refine ⟨A2, L, rfl, upd_same, .ref D, rfl, D, _, rfl, .inl (sqOf (SA _ _ hD)), _, _, rfl, rfl, _, rfl, ite2 (fun z => ?_) (fun _ => ?_)⟩
    · have z := of_decide_eq_true z
      have := sub_len _ L cN fun k hk => (mL k).mpr hk
      rw [List.length_map] at z
      omega
    have S14 : Same H12 _ := S13.trans SA
    generalize upd H13 A2 (SH.SetK2 P w A2 L) = H14 at S14
    have hx14 := S14 _ _ hx12
    have T14 := tabs_same T12 S14
    have b14 := b012.same S14
    have fin : Q .non H14 := q ss' ts' H14 pS pT b14 T14 ⟨⟨dx, S, Tp, Lp, dS, dT, dC, hx14, S14 _ _ hS12, S14 _ _ hT12, S14 _ _ hL12, S14 _ _ hd12, S14 _ _ hdt12⟩, fun y hy => (sS y hy).ext (ext_same S14), fun y hy => (sT' y hy).ext (ext_same S14), (pS.map fun y => y.2.name).nodup_iff.mpr nS, (pT.map fun y => y.2.name).nodup_iff.mpr nT, (pS.map fun y => y.2.code).nodup_iff.mpr nC, sT, fun y hy => ?_, lS', lT'⟩
    rotate_left
    · have := en y (pT.mem_iff.mp hy)
      exact ⟨(pS.map fun y => y.2.name).mem_iff.mpr this.1, (pS.map fun y => y.2.name).mem_iff.mpr this.2⟩
    refine ⟨.ref x, rfl, x, C, dx, _, .ref Tp, rfl, hx14, NC.c, NC.trips, rfl, .ref x, rfl, x, C, dx, _, .ref Lp, rfl, hx14, NC.c, NC.closings, rfl, Tp, Lp, _, _, rfl, rfl, .of (S14 _ _ hT12), .of (S14 _ _ hL12), ?_, fun e => ?_, fun e _ => ?_, fun _ e => absurd rfl e⟩
    · rw [List.length_map]
      exact Nat.le_of_lt (small1000' (by show ts'.length + 0 ≤ 1000; omega))
    · refine ⟨Lp, rfl, ⟨_, .of (S14 _ _ hL12)⟩, ?_⟩
      refine for_it (walk_tup (K := K) (a := Lp) (xs := [])) (fun i σ H1 => H1 = H14) rfl (fun i σ H1 _ hP => by rw [hP]; exact .of (S14 _ _ hL12)) (fun i v σ H1 H2 hi hP hy => absurd hi (Nat.not_lt_zero _)) (fun σ H1 hP => ?_)
      cases hP
      exact fin
    · refine ⟨Tp, rfl, ⟨_, .of (S14 _ _ hT12)⟩, ?_⟩
      refine for_it (walk_tup (K := K) (a := Tp) (xs := ts'.map fun y => V.ref y.1)) (fun i σ H1 => H1 = H14 ∧ ∃ y, σ = [some (.ref x), some (.ref s), some (.ref t), some (.ref l), some (.ref D), y, none]) ⟨rfl, none, rfl⟩ (fun i σ H1 _ hP => by rw [hP.1]; exact .of (S14 _ _ hT12)) (fun i v σ H1 H2 hi hP hy => ?_) (fun σ H1 hP => ?_)
      · obtain ⟨rfl, y, rfl⟩ := hP
        obtain ⟨rfl, ev⟩ := hy
        rw [List.getElem?_map] at ev
        obtain ⟨r, er, rfl⟩ := Option.map_eq_some_iff.mp ev
        have mr := List.mem_of_getElem? er
        obtain ⟨dy, e⟩ := (sT' r mr).ext (ext_same S14)
        have mem : ∀ {z : Str}, z ∈ ss.map (fun y => y.2.name) → valV (nmD (ss'.map nmS)) (Sum.inr z) ≠ none := fun {z} hz w => by
          have := nmD_isSome (z := z) ndS
          rw [w, List.map_map] at this
          have h2 : z ∈ ss'.map (fun y => y.2.name) := (pS.map fun y => y.2.name).mem_iff.mpr hz
          rw [show (ss'.map ((fun x => x.2) ∘ nmS)) = ss'.map (fun y => y.2.name) from rfl, decide_eq_true h2] at this
          cases this
        have en' := en r (pT.mem_iff.mp mr)
        refine ⟨.ref r.1, rfl, r.1, CT, dy, _, .str r.2.start, rfl, e, TC.c, TC.start, rfl, .ref x, rfl, x, C, dx, _, .ref dS, rfl, hx14, NC.c, NC.dsites, rfl, dS, _, rfl, DGet.k (k := Sum.inr r.2.start) (S14 _ _ hd12), _, rfl, ?_⟩
        cases v1 : valV (nmD (ss'.map nmS)) (Sum.inr r.2.start) with
        | none => exact absurd v1 (mem en'.1)
        | some u1 =>
        refine ite2 (fun z => by cases z) (fun _ => ?_)
        refine ⟨.ref r.1, rfl, r.1, CT, dy, _, .str r.2.goal, rfl, e, TC.c, TC.goal, rfl, .ref x, rfl, x, C, dx, _, .ref dS, rfl, hx14, NC.c, NC.dsites, rfl, dS, _, rfl, DGet.k (k := Sum.inr r.2.goal) (S14 _ _ hd12), _, rfl, ?_⟩
        cases v2 : valV (nmD (ss'.map nmS)) (Sum.inr r.2.goal) with
        | none => exact absurd v2 (mem en'.2)
        | some u2 => exact ite2 (fun z => by cases z) (fun _ => ⟨rfl, _, rfl⟩)
      · obtain ⟨rfl, y, rfl⟩ := hP
        exact fin
end
end Tb
namespace Tb
open PySem PySem.Spec PyProof.Rows L2
/-- .. of a tuple of classes -/
def rIsXT (K : PySem.W.Frag) (D a : Addr) (cls : Value) (d : Option Addr) : List V → Hp → VK → Prop := fun xs H Q => cls = .ref D ∧ ∃ (tp : Addr) (cs : List V) (us : List Value) (b : Bool) (dd : Addr) (fs : List (Str × V)), xs = [.ref a, .ref tp] ∧ H tp = some (.tup cs) ∧ Paired ClsV cs us ∧ d = some dd ∧ H dd = some (.xd fs) ∧ PySem.W.kitAny K (.ref D) us = some b ∧ Q (.bl b) H
/-! ### making and calling where the errors that may come depend on the slots (in a try) -/
section
variable {X : Cx} {CX : CXT} {k : Nat} {f C : Addr} {fd : FuncData} {ps : List Str} {sp : Sp} {E : L2.St → XK} {x m : Str} {p pos apos : Pos} {e o : Expr} {es : List Expr} {ta : TE} {t : TA}
theorem run_makeS {pins : List (Addr × Obj)} {σ : L2.St} {H : Hp} {s : Shared} {Q : VK} {us : List Value} {vs : List V} (M : Mk X.K C f) (F : FnR X.prog X.w X.K X.mg X.base CX k f sp) (hr : Room (k + 1) X.A) (hx : PassesAt CX X σ (E σ)) (I : Inv X pins σ H s) (r : Vals vs us)
    (h : ∀ x dx, H x = Option.none → H dx = Option.none → dx ≠ x → sp (V.ref x :: vs) (L2.upd (L2.upd H dx (.own x)) x (.ins C dx [])) (fun v H2 => v = .non ∧ Q (.ref x) H2) (E σ)) :
    wpAny (model X.prog X.w) X.A (call (.ref C) us) (EP X pins σ Q) X.xe s := by
  have hq := h (s.heap.objs.size + 1) s.heap.objs.size (I.hok.fresh (Nat.le_succ _)) (I.hok.fresh (Nat.le_refl _)) (Nat.ne_of_lt (Nat.lt_succ_self _))
  have I2 := Inv.made (C := C) I
  have r2 : Vals (V.ref (s.heap.objs.size + 1) :: vs) (Value.ref (s.heap.objs.size + 1) :: us) := .cons rfl r
  refine wpAny_call (make_map (f := f) I.kIn M.makes M.init (beq_iff_eq.mp M.fn) (codeAny_mono (F _ X.stack _ _ (Value.ref (s.heap.objs.size + 1) :: us) _ _ (E σ) (hr.make C us []) (I2.env0.make C us []) r2 hq) fun r s' hq' => ?_))
  cases r with
  | error e => exact hx pins _ _ e s' I2 hq'
  | ok fl =>
    cases fl with
    | ret u =>
      obtain ⟨v, H', I3, rv, ev, q3⟩ := I2.after hq'
      subst ev
      exact ⟨rv, ⟨V.ref (s.heap.objs.size + 1), H', I3, rfl, q3⟩⟩
    | next => exact False.elim hq'
    | brk => exact False.elim hq'
    | cont => exact False.elim hq'
def tMakeS (C : Addr) (sp : Sp) (E : L2.St → XK) (t : TA) : TE := fun σ H Q => t σ H fun vs H1 => ∀ x dx, H1 x = Option.none → H1 dx = Option.none → dx ≠ x →
  sp (V.ref x :: vs) (L2.upd (L2.upd H1 dx (.own x)) x (.ins C dx [])) (fun v H2 => v = .non ∧ Q (.ref x) H2) (E σ)
theorem pe_makeS (M : Mk X.K C f) (F : FnR X.prog X.w X.K X.mg X.base CX k f sp) (hr : Room (k + 1) X.A) (hg : Gl X x) (hm : X.mg x = some (.ref C)) (hx : ∀ σ, PassesAt CX X σ (E σ)) (ha : PA X (e :: es) t) (hdb : (x == ("__debug__" : Str)) = false := by decide)
    (he : starEach (e :: es) X.env = (false, eval e X.env) :: starEach es X.env := by rfl) (hpl : (backTo pos (starEach es X.env)).any (·.1) = false := by rfl) : PE X (.Call (.Name x p) (e :: es) [] pos) (tMakeS C sp E t) := by
  refine ⟨fun pins s σ H Q I h => ?_⟩
  refine wpAny_Call_Name_kw (ld_glob I hg hm ?_ hdb)
  refine PySem.W.callWith_K (h₀ := X.base) I.ok.mod.kin M.kp (thn (ha.run pos pins s σ H _ I h) fun us s1 ⟨vs, H1, I1, r, q⟩ => ⟨I1.kIn, ?_⟩) he hpl
  exact run_makeS M F hr (hx σ) I1 r q
/-- the same with keywords -/
def tMakeKS (C : Addr) (n m : Nat) (sp : Sp) (gV : List V → List V → List V) (E : L2.St → XK) (t tk : TA) : TE := fun σ H Q => t σ H fun vs H1 => tk σ H1 fun zs H2 => vs.length = n ∧ zs.length = m ∧ ∀ x dx, H2 x = Option.none → H2 dx = Option.none → dx ≠ x →
  sp (gV (.ref x :: vs) zs) (L2.upd (L2.upd H2 dx (.own x)) x (.ins C dx [])) (fun v H3 => v = .non ∧ Q (.ref x) H3) (E σ)
theorem run_makeKS {n : Nat} {ks : List Str} {g : List Value → List Value → List Value} {gV : List V → List V → List V} {pins : List (Addr × Obj)} {σ : L2.St} {H : Hp} {s : Shared} {Q : VK} {us ws : List Value} {vs zs : List V} (M : Mk X.K C f) (F : FnOk X.prog X.w X.K X.mg X.base CX k f fd ps sp) (hr : Room (k + 1) X.A) (hb : KBn X.K fd ps (n + 1) ks g gV) (hx : PassesAt CX X σ (E σ))
    (I : Inv X pins σ H s) (r : Vals vs us) (rz : Vals zs ws) (l1 : vs.length = n) (l2 : zs.length = ks.length)
    (h : ∀ x dx, H x = Option.none → H dx = Option.none → dx ≠ x → sp (gV (V.ref x :: vs) zs) (L2.upd (L2.upd H dx (.own x)) x (.ins C dx [])) (fun v H2 => v = .non ∧ Q (.ref x) H2) (E σ)) :
    wpAny (model X.prog X.w) X.A (call (.ref C) us (ks.zip ws)) (EP X pins σ Q) X.xe s := by
  have hq := h (s.heap.objs.size + 1) s.heap.objs.size (I.hok.fresh (Nat.le_succ _)) (I.hok.fresh (Nat.le_refl _)) (Nat.ne_of_lt (Nat.lt_succ_self _))
  have I2 := Inv.made (C := C) I
  have r1 : Vals (V.ref (s.heap.objs.size + 1) :: vs) (Value.ref (s.heap.objs.size + 1) :: us) := .cons rfl r
  have n1 : (Value.ref (s.heap.objs.size + 1) :: us).length = n + 1 := by rw [List.length_cons, ← r.length, l1]
  refine wpAny_call (make_map (f := f) I.kIn M.makes M.init (beq_iff_eq.mp M.fn) (codeAny_mono (F.run _ X.stack _ _ ⟨Value.ref (s.heap.objs.size + 1) :: us, ks.zip ws⟩ (g (Value.ref (s.heap.objs.size + 1) :: us) ws) _ _ (E σ) (hr.make C us (ks.zip ws))
    (I2.env0.make C us (ks.zip ws)) (hb.to _ (Value.ref (s.heap.objs.size + 1) :: us) ws I2.kIn n1 (rz.length.symm.trans l2)) (hb.rel r1 rz) hq) fun r s' hq' => ?_))
  cases r with
  | error e => exact hx pins _ _ e s' I2 hq'
  | ok fl =>
    cases fl with
    | ret u =>
      obtain ⟨v, H', I3, rv, ev, q3⟩ := I2.after hq'
      subst ev
      exact ⟨rv, ⟨V.ref (s.heap.objs.size + 1), H', I3, rfl, q3⟩⟩
    | next => exact False.elim hq'
    | brk => exact False.elim hq'
    | cont => exact False.elim hq'
theorem pe_makeKS {n : Nat} {ks : List Str} {kws : List Keyword} {tk : TA} {g : List Value → List Value → List Value} {gV : List V → List V → List V} (M : Mk X.K C f) (F : FnOk X.prog X.w X.K X.mg X.base CX k f fd ps sp) (hr : Room (k + 1) X.A) (hg : Gl X x) (hm : X.mg x = some (.ref C)) (hb : KBn X.K fd ps (n + 1) ks g gV) (hx : ∀ σ, PassesAt CX X σ (E σ)) (ha : PA X (e :: es) t) (hkw : PK X kws tk)
    (hall : (backToKw pos (keywordEach kws X.env)).all (·.1.isSome) = true := by rfl) (hks : (backToKw pos (keywordEach kws X.env)).filterMap (·.1) = ks := by rfl) (hdb : (x == ("__debug__" : Str)) = false := by decide)
    (he : starEach (e :: es) X.env = (false, eval e X.env) :: starEach es X.env := by rfl) (hpl : ((backTo pos (starEach (e :: es) X.env)).any (·.1) || (backToKw pos (keywordEach kws X.env)).any (·.1.isNone)) = false := by rfl) :
    PE X (.Call (.Name x p) (e :: es) kws pos) (tMakeKS C n ks.length sp gV E t tk) := by
  refine ⟨fun pins s σ H Q I h => ?_⟩
  refine wpAny_Call_Name_kw (ld_glob I hg hm ?_ hdb)
  refine PySem.W.callWith_KW (h₀ := X.base) I.ok.mod.kin M.kp hall (thn (ha.run pos pins s σ H _ I h) fun us s1 ⟨vs, H1, I1, r, q⟩ => ?_) hpl he
  refine thn (hkw.run pos pins s1 σ H1 _ I1 q) fun ws s2 ⟨zs, H2, I2, rz, l1, l2, q2⟩ => ⟨I2.kIn, ?_⟩
  rw [hks]
  exact run_makeKS M F hr hb (hx σ) I2 r rz l1 l2 q2
end
section
variable {X : Cx} {a D : Addr} {oe : Obj} {pn : List (Addr × Obj)} {d : Option Addr} {cls : Value}
theorem call_isXT {fI : Addr} {n : Str} (T : ErrC X.K D fI n) (hz : Zc cls d oe) (hf : ∃ vs, oe.data = .fields vs) : CallR (X.suite a ((a, oe) :: pn)) (.builtin "isinstance") (rIsXT X.K D a cls d) := by
  intro pins s σ H xs us Q I r h
  obtain ⟨rfl, tp, cs, ws, b, dd, fs, rfl, hT, hk, rfl, hdd, e, q⟩ := h
  obtain ⟨u1, u2, rfl, r1, r2⟩ := vals2 r
  cases (show u1 = Value.ref a from r1)
  cases (show u2 = Value.ref tp from r2)
  obtain ⟨od, J⟩ := inst_at hz hf I hdd
  obtain ⟨_, its, rv, o, h1, h2, n', h3⟩ := (show ObjOk X.prog X.w H s.heap tp (.tup cs) from I.hok tp _ hT)
  have e3 := ClsV.all hk rv
  subst e3
  obtain ⟨oc, od', dt, sl⟩ := o
  simp only at h2 h3
  subst h2 h3
  exact PySem.W.kia_tup (PySem.W.kitx_exc T.cl T.xf.ga T.xf.gg T.xf.exC T.ha T.hn T.tk T.hm) I.kIn J h1 e (fun z => nomatch z) fun tk => ⟨.bl b, H, I.tok tk, rfl, q⟩
end
theorem passE0 {X : Cx} {σ : L2.St} : PassesAt (L2.CX X.prog X.w) X σ E0 := fun _ _ _ _ _ _ c => by
  obtain ⟨_, _, _, _, _, _, _, _, _, _, _, _, h⟩ := c
  exact h.elim
section
variable {X : Cx} {CX : CXT} {k : Nat} {f C : Addr} {fd : FuncData} {ps : List Str} {sp : Sp} {E : L2.St → XK} {x m : Str} {p pos apos : Pos} {e o : Expr} {es : List Expr} {ta : TE} {t : TA}
def tMethS (C : Addr) (m : Str) (sp : Sp) (E : L2.St → XK) (ta : TE) (t : TA) : TE := fun σ H Q => ta σ H fun x H1 => ∃ a dx fs, x = .ref a ∧ H1 a = some (.ins C dx fs) ∧ fs.lookup m = none ∧
  t σ H1 fun vs H2 => sp (x :: vs) H2 Q (E σ)
theorem pe_methS {pl : Sem Bool} (he : PE X o ta) (c : Cls X.K C) (hm : Meth X.K C m f) (F : FnOk X.prog X.w X.K X.mg X.base CX k f fd ps sp) (hr : Room k X.A) (hb : Binds X.K fd ps []) (hx : ∀ σ, PassesAt CX X σ (E σ)) (ha : PA X (e :: es) t)
    (hst : starEach (e :: es) X.env = (false, eval e X.env) :: starEach es X.env := by rfl) (hpl : (backTo pos (starEach es X.env)).any (·.1) = false := by rfl)
    (ht : eval (.Call (.Attribute o m apos) (e :: es) [] pos) X.env = (do
      let ov ← eval o X.env
      standAt apos.atName
      let (f, first) ← holding [ov] (getMethod ov m pl)
      callWith pos f first (backTo pos (starEach (e :: es) X.env)) (backToKw pos (keywordEach [] X.env))) := by rfl) :
    PE X (.Call (.Attribute o m apos) (e :: es) [] pos) (tMethS C m sp E ta t) := by
  refine ⟨fun pins s σ H Q I h => ?_⟩
  refine PySem.W.methodCall_KW (pl := pl) (thn (he.run pins s σ H _ I h) fun u s1 ⟨x, H1, I1, rx, a, dx, fs, ex, ea, l, q⟩ => ?_) ht
  subst ex
  obtain rfl : u = Value.ref a := rx
  refine getmeth_ok I1 ea c hm l ?_
  refine PySem.W.callWith_K (first := [.ref a]) (h₀ := X.base) I.ok.mod.kin hm.kp (thn (ha.run pos pins s1 σ H1 _ I1 q) fun us s2 ⟨vs, H2, I2, r, q2⟩ => ⟨I2.kIn, ?_⟩) hst hpl
  exact run_fnS (us := .ref a :: us) (vs := .ref a :: vs) F hr hb (hx σ) I2 (.cons rfl r) q2
end
theorem str_dec {a b : Str} : decide (V.str a = V.str b) = decide (a = b) := by
  by_cases h : a = b
  · rw [decide_eq_true h, decide_eq_true (congrArg V.str h)]
  · rw [decide_eq_false h, decide_eq_false fun z => h (V.str.inj z)]
theorem made_ext {C x dx : Addr} {H H' : Hp} (nx : H x = none) (ndx : H dx = none) (b : BX x (upd (upd H dx (.own x)) x (.ins C dx [])) H') : LamX.ExtN H H' := fun c o h t => b c o (by rw [upd_ne (ne_of_none h nx), upd_ne (ne_of_none h ndx)]; exact h) t (ne_of_none h nx)
theorem made_same {C : Addr} {H : Hp} {x dx : Addr} (nx : H x = none) (ndx : H dx = none) (ne : dx ≠ x) : Same H (upd (upd H dx (.own x)) x (.ins C dx [])) :=
  (Same.trans (same_upd ndx) (same_upd (by rw [upd_ne (Ne.symm ne)]; exact nx)))
theorem made_but {C x dx : Addr} {H H' : Hp} (nx : H x = none) (ndx : H dx = none) (b : But x (upd (upd H dx (.own x)) x (.ins C dx [])) H') : Same H H' := fun c o h => b c o (by rw [upd_ne (ne_of_none h nx), upd_ne (ne_of_none h ndx)]; exact h) (ne_of_none h nx)
end Tb
namespace Tb
open PySem PySem.Spec PyProof.Rows L2
open PySem.W (AllAlike Sortable dataLe dataLt TotalLe)
open LamX (Tabs TabS ExtN TabB CodeO)
theorem key_one {α β : Type} {f : α → β} : ∀ {l : List α}, (l.map f).Nodup → ∀ a ∈ l, ∀ b ∈ l, f a = f b → a = b
  | [], _, _, h, _, _, _ => by cases h
  | x :: l, nd, a, ha, b, hb, e => by
    obtain ⟨n1, n2⟩ := List.nodup_cons.mp nd
    rcases List.mem_cons.mp ha with ha' | ha'
    · rcases List.mem_cons.mp hb with hb' | hb'
      · rw [ha', hb']
      · exact (n1 (List.mem_map.mpr ⟨b, hb', by rw [← e, ha']⟩)).elim
    · rcases List.mem_cons.mp hb with hb' | hb'
      · exact (n1 (List.mem_map.mpr ⟨a, ha', by rw [e, hb']⟩)).elim
      · exact key_one n2 a ha' b hb' e
section
variable {P : Program} {w : World} {K : PySem.W.Frag} {mg : Str → Option Value} {base : Heap} {C CS CT P1 CU fU : Addr} {gdU : FuncData}
abbrev CFound (P : Program) (w : World) (K : PySem.W.Frag) (mg : Str → Option Value) (base : Heap) (CU : Addr) (g : Addr) (gd : FuncData) := C1X P w K mg base "_found" sFound ["named", "name"] 3 (spFound CU) g gd
def spNSite (C CS CT CU : Addr) : Sp := fun vs H Q E => ∃ (n : Addr) (z : Str) (ss : List (Addr × Si)) (ts : List (Addr × Tr)), vs = [.ref n, .str z] ∧ NwAt C CS CT H n ss ts ∧ (∀ y ∈ ss, y.2.name = z → Q (.ref y.1) H) ∧ (z ∉ ss.map (fun y => y.2.name) → ∀ e H', Same H H' → H' e = some (.xd [(wName, .str z)]) → E (.ref CU) (some e) H')
theorem ok_nsite {f g1 : Addr} {fd gd1 : FuncData} (F : Fun K "site" "Network.site" sNSite f fd) (NC : NCls K C) (cFound : CFound P w K mg base CU g1 gd1) : FnOk P w K mg base (L2.CX P w) 4 f fd ["self", "name"] (spNSite C CS CT CU) := by
  refine F.okX scNSite (fun vs H Q E h => ?_) (fun cdv A outer s H vs Q E hr h => ?_)
  · obtain ⟨n, z, ss, ts, rfl, _⟩ := h
    rfl
  · obtain ⟨n, z, ss, ts, rfl, hN, q, qE⟩ := h
    refine ⟨_, (pss_one (ps_ret (pe_call cFound.G (hr.mono (by first | decide | omega)) (by rfl) cFound.D.g cFound.D.F.kp cFound.D.b .nil (passes_call (takes_of rfl rfl rfl rfl) fun _ _ _ _ h => h) (pa_cons (pe_fld (pv 0) rfl) (pa_cons (pv 1) pa_nil))))), ?_⟩
    obtain ⟨dx, S, T, L, dS, dT, dC, h1, h2, h3, h4, h5, h6⟩ := hN.ex
    have en : (ss.map nmS).map (·.2) = ss.map fun y => y.2.name := by rw [List.map_map]; rfl
    refine ⟨.ref n, rfl, n, C, dx, _, .ref dS, rfl, h1, NC.c, NC.dsites, rfl, .str z, rfl, dS, z, ss.map nmS, rfl, h5, by rw [en]; exact hN.ns, fun a ha => ?_, by rw [en]; exact qE⟩
    obtain ⟨y, hy, e⟩ := List.mem_map.mp ha
    have e1 : y.1 = a := congrArg Prod.fst e
    have e2 : y.2.name = z := congrArg Prod.snd e
    rw [← e1]
    exact q y hy e2
def spNTrip (C CS CT : Addr) : Sp := fun vs H Q _ => ∃ (n : Addr) (ss : List (Addr × Si)) (ts : List (Addr × Tr)) (y : Addr × Tr), vs = [.ref n, .str y.2.name] ∧ NwAt C CS CT H n ss ts ∧ y ∈ ts ∧ Q (.ref y.1) H
theorem ok_ntrip {f g1 : Addr} {fd gd1 : FuncData} (F : Fun K "trip" "Network.trip" sNTrip f fd) (NC : NCls K C) (cFound : CFound P w K mg base CU g1 gd1) : FnOk P w K mg base (L2.CX P w) 4 f fd ["self", "name"] (spNTrip C CS CT) := by
  refine F.okX scNTrip (fun vs H Q E h => ?_) (fun cdv A outer s H vs Q E hr h => ?_)
  · obtain ⟨n, ss, ts, y, rfl, _⟩ := h
    rfl
  · obtain ⟨n, ss, ts, y, rfl, hN, my, q⟩ := h
    refine ⟨_, (pss_one (ps_ret (pe_call cFound.G (hr.mono (by first | decide | omega)) (by rfl) cFound.D.g cFound.D.F.kp cFound.D.b .nil (passes_call (takes_of rfl rfl rfl rfl) fun _ _ _ _ h => h) (pa_cons (pe_fld (pv 0) rfl) (pa_cons (pv 1) pa_nil))))), ?_⟩
    obtain ⟨dx, S, T, L, dS, dT, dC, h1, h2, h3, h4, h5, h6⟩ := hN.ex
    have en : (ts.map nmT).map (·.2) = ts.map fun y => y.2.name := by rw [List.map_map]; rfl
    refine ⟨.ref n, rfl, n, C, dx, _, .ref dT, rfl, h1, NC.c, NC.dtrips, rfl, .str y.2.name, rfl, dT, y.2.name, ts.map nmT, rfl, h6, by rw [en]; exact hN.nt, fun a ha => ?_, fun m => absurd ?_ m⟩
    · obtain ⟨z, hz, e⟩ := List.mem_map.mp ha
      have e1 : z.1 = a := congrArg Prod.fst e
      have e2 : z.2.name = y.2.name := congrArg Prod.snd e
      have : z = y := key_one hN.nt z hz y my e2
      rw [← e1, this]
      exact q
    · exact List.mem_map.mpr ⟨nmT y, List.mem_map.mpr ⟨y, my, rfl⟩, rfl⟩
/-- the class Network, to be made -/
structure NetC (P : Program) (w : World) (K : PySem.W.Frag) (mg : Str → Option Value) (base : Heap) (C CS CT P1 fN : Addr) (fdN : FuncData) : Prop where
  MK : Mk K C fN
  G : FnOk P w K mg base CX0 7 fN fdN ["self", "sites", "trips", "closings"] (spNInit K C CS CT P1)
  g : mg "Network" = some (.ref C)
  b : Binds K fdN ["self", "sites", "trips", "closings"] []
  n1 : CS ≠ C
  n2 : CT ≠ C
variable {fN fT : Addr} {fdN fdT : FuncData}
abbrev gone (ts : List (Addr × Tr)) (z : Str) : List (Addr × Tr) := ts.filter fun t => !decide (t.2.name = z)
def spNWithout (C CS CT P1 : Addr) : Sp := fun vs H Q _ => ∃ (n : Addr) (ss : List (Addr × Si)) (ts : List (Addr × Tr)) (y : Addr × Tr), vs = [.ref n, .str y.2.name] ∧ Tabs (TT P1) H ∧ NwAt C CS CT H n ss ts ∧ y ∈ ts ∧ ∀ (a : Addr) (ss' : List (Addr × Si)) (ts' : List (Addr × Tr)) (H' : Hp), ExtN H H' → Tabs (TT P1) H' → NwAt C CS CT H' a ss' ts' → ss'.Perm ss → ts'.map (·.2) = (gone ts y.2.name).map (·.2) → Q (.ref a) H'
theorem ok_nwithout {f : Addr} {fd : FuncData} (F : Fun K "without_trip" "Network.without_trip" sNWithout f fd) (NC : NCls K C) (TC : TCls K CT) (NT : NetC P w K mg base C CS CT P1 fN fdN) (hT : Meth K C "trip" fT) (FT : FnOk P w K mg base (L2.CX P w) 4 fT fdT ["self", "name"] (spNTrip C CS CT)) (bT : Binds K fdT ["self", "name"] []) : FnOk P w K mg base CX0 9 f fd ["self", "name"] (spNWithout C CS CT P1) := by
  refine F.ok scNWithout (fun vs H Q E h => ?_) (fun cdv A outer s H vs Q E hr h => ?_)
  · obtain ⟨n, ss, ts, y, rfl, _⟩ := h
    rfl
  · obtain ⟨n, ss, ts, y, rfl, hTb, hN, my, q⟩ := h
    refine ⟨_, (pss_cons (ps_set (i := 2) scNWithout.nd rfl (.inr rfl) (pe_methS (pv 0) NC.c hT FT (hr.mono (by first | decide | omega)) bT (fun _ => passE0) (pa_cons (pv 1) pa_nil)))
      (pss_one (ps_ret (pe_make NT.MK NT.G (hr.mono (by first | decide | omega)) (by rfl) NT.g NT.b .nil pass0 (pa_cons (pe_fld (pv 0) rfl) (pa_cons (pe_lc (own := [("trip", 3)]) (g := gName 3) (by rfl) scNWithout.nd (pi_tup (pe_fld (pv 0) rfl)) (blkOk_by (N := NNWithout) (sc := defScope sNWithout) (by decide +kernel)) (fun _ _ _ _ _ => pg_name (i := 3) scNWithout.nd rfl (Or.inl rfl)) (fun _ _ _ _ _ => pts_one (pt_cmpR op_ne (pe_fldK (K := K) rfl (pv 3) rfl) (pe_fldK (K := K) rfl (pv 2) rfl) (nomark _))) (fun _ _ _ _ _ => pv 3)) (pa_cons (pe_fld (pv 0) rfl) pa_nil))))))), ?_⟩
    obtain ⟨dx, S, T, L, dS, dT, dC, h1, h2, h3, h4, h5, h6⟩ := hN.ex
    refine ⟨.ref n, rfl, n, dx, _, rfl, h1, rfl, .str y.2.name, rfl, n, ss, ts, y, rfl, hN, my, ?_⟩
    obtain ⟨dy, ey⟩ := hN.t y my
    have wk := walk_tup (K := K) (a := T) (xs := ts.map fun y => V.ref y.1)
    rw [List.length_map] at wk
    have lt := hN.lt
    refine ⟨.ref n, rfl, n, C, dx, _, .ref S, rfl, h1, NC.c, NC.sites, rfl, .ref n, rfl, n, C, dx, _, .ref T, rfl, h1, NC.c, NC.trips, rfl, T, rfl, ⟨_, .of h3⟩, fun D nD => lc_w (fun t : Addr × Tr => !decide (t.2.name = y.2.name)) (fun t : Addr × Tr => V.ref t.1) wk (fun H' S' => .of (S' _ _ h3)) (fun i H' v H'' h => h) nD (by omega) (fun _ => rfl) (fun c hc H3 S3 R hR => ?_) (fun c hc H3 S3 R hR => ⟨.ref c.1, rfl, hR H3 (Same.refl _)⟩) (fun H1 S1 hD => ?_)⟩
    · obtain ⟨dc, ec⟩ := hN.t c hc
      refine ⟨.ref c.1, rfl, c.1, CT, dc, _, .str c.2.name, rfl, S3 _ _ ec, TC.c, TC.name, rfl, .ref y.1, rfl, y.1, CT, dy, _, .str y.2.name, rfl, S3 _ _ ey, TC.c, TC.name, rfl, rfl, _, rfl, ?_⟩
      rw [str_dec]
      exact hR H3 (Same.refl _)
    have hN1 := hN.ext (ext_same S1)
    have T1 := tabs_same hTb S1
    refine ⟨.ref n, rfl, n, C, dx, _, .ref L, rfl, S1 _ _ h1, NC.c, NC.closings, rfl, fun x dx2 nx ndx ne => ?_⟩
    have S2 := made_same (C := C) nx ndx ne
    have mg : ∀ t ∈ gone ts y.2.name, t ∈ ts := fun t h => (List.mem_filter.mp h).1
    have nd : ∀ (g : Addr × Tr → Str), (ts.map g).Nodup → ((gone ts y.2.name).map g).Nodup := fun g h => (List.filter_sublist.map g).nodup h
    refine ⟨x, dx2, S, D, L, ss, gone ts y.2.name, rfl, upd_same, tabs_same T1 S2, .inr (.of (S2 _ _ (S1 _ _ h2))), .inl (sqOf (S2 _ _ hD)), .inr (.of (S2 _ _ (S1 _ _ h4))), fun z hz => (hN1.s z hz).ext (ext_same S2), fun z hz => (hN1.t z (mg z hz)).ext (ext_same S2), hN.ns, nd _ hN.nt, hN.nc, fun z hz => hN.ends z (mg z hz), hN.ls, Nat.le_trans (List.length_filter_le _ _) hN.lt, NT.n1, NT.n2, fun ss' ts' H' pS pT b T' hN' => ⟨rfl, ?_⟩⟩
    refine q x ss' ts' H' ((ext_same S1).trans (made_ext nx ndx b)) T' hN' pS ?_
    refine srt_uniq (pT.map (·.2)) hN'.srt ?_
    exact List.Pairwise.sublist (List.filter_sublist.map _) hN.srt
end
end Tb
namespace Tb
open PySem PySem.Spec PyProof.Rows L2
open PySem.W (AllAlike Sortable dataLe dataLt TotalLe)
open LamX (Tabs TabS ExtN TabB CodeO)
abbrev sLatest : Stmt := topS 12
abbrev NLatest : List Str := ["trip"]
theorem scLatest : FnScope NLatest ["trip"] (defScope sLatest) := ⟨rfl, rfl, rfl, by decide +kernel, rfl, by decide +kernel, by decide +kernel⟩
section
variable {P : Program} {w : World} {K : PySem.W.Frag} {mg : Str → Option Value} {base : Heap} {C CS CT P1 ce : Addr}
def spLatest (CT : Addr) : Sp := fun vs H Q _ => ∃ (a : Addr) (t : Tr), vs = [.ref a] ∧ TrAt CT H a t ∧ Q (.int (t.lands + t.late)) H
theorem ok_latest {f : Addr} {fd : FuncData} {k : Nat} (F : Fun K "_latest" "_latest" sLatest f fd) (TC : TCls K CT) : FnOk P w K mg base CX0 (k + 1) f fd ["trip"] (spLatest CT) := by
  refine F.ok scLatest (fun vs H Q E h => ?_) (fun cdv A outer s H vs Q E hr h => ?_)
  · obtain ⟨a, t, rfl, _⟩ := h
    rfl
  · obtain ⟨a, t, rfl, ⟨dx, e⟩, q⟩ := h
    refine ⟨_, (pss_one (ps_ret (pe_op op_add (pe_fld (pv 0) rfl) (pe_fld (pv 0) rfl)))), ?_⟩
    exact ⟨.ref a, rfl, a, CT, dx, _, .int t.lands, rfl, e, TC.c, TC.lands, rfl, .ref a, rfl, a, CT, dx, _, .int t.late, rfl, e, TC.c, TC.late, rfl, _, _, rfl, rfl, q⟩
abbrev CLatest (P : Program) (w : World) (K : PySem.W.Frag) (mg : Str → Option Value) (base : Heap) (CT : Addr) (g : Addr) (gd : FuncData) := C1 P w K mg base "_latest" sLatest ["trip"] 1 (spLatest CT) g gd
end
end Tb
namespace Tb
open PySem PySem.Spec PyProof.Rows L2
abbrev sLSame : Stmt := topS 39
abbrev NLSame : List Str := ["actual", "due", "k"]
theorem scLSame : FnScope NLSame ["actual", "due"] (defScope sLSame) := ⟨rfl, rfl, rfl, by decide +kernel, rfl, by decide +kernel, by decide +kernel⟩
theorem sqT_ty {K : PySem.W.Frag} {H : Hp} {a : Addr} {xs : List V} (h : SqT K H a xs) : TyX K H (.ref a) (.type "tuple") := by
  rcases h with (h | ⟨o, h⟩) | ⟨o, its, n, h, c, _⟩
  · exact .base (.tup h)
  · exact .fTuple h
  · exact .kTuple h c
def Smp (v : V) : Prop := v = .non ∨ (∃ z, v = .str z) ∨ ∃ i, v = .int i
theorem sqT_same {K : PySem.W.Frag} {H H' : Hp} {a : Addr} {xs : List V} (h : SqT K H a xs) (S : Same H H') : SqT K H' a xs := KL.sqT_ext h (ext_same S)
theorem all_true (n : Nat) : ((List.replicate n true).all id) = true := by
  induction n with
  | zero => rfl
  | succ n ih => rw [List.replicate_succ, List.all_cons, ih]; rfl
section
variable {P : Program} {w : World} {K : PySem.W.Frag} {mg : Str → Option Value} {base : Heap}
def spSame0 : Sp := fun vs H Q _ => ∃ v, vs = [v, v] ∧ Smp v ∧ Q (.bl true) H
theorem ok_same0 {f : Addr} {fd : FuncData} (D0 : Dd K mg "_law_same" sLSame ["actual", "due"] f fd) (B : Blt mg) : FnOk P w K mg base CX0 2 f fd ["actual", "due"] spSame0 := by
  have cLSame : C1 P w K mg base "_law_same" sLSame ["actual", "due"] 1 (fun _ _ _ _ => False) f fd := ⟨D0, D0.F.ok scLSame (fun vs H Q E h => h.elim) (fun cdv A outer s H vs Q E hr h => h.elim)⟩
  refine D0.F.ok scLSame (fun vs H Q E h => ?_) (fun cdv A outer s H vs Q E hr h => ?_)
  · obtain ⟨v, rfl, _⟩ := h
    rfl
  · obtain ⟨v, rfl, hv, q⟩ := h
    refine ⟨_, (pss_cons (ps_if (pt_cmpR op_isN (pv 1) pe_non (nomark _))
        (pss_one (ps_ret (pe_cmpR op_isN (pv 0) pe_non (nomark _))))
        pss_nil)
      (pss_cons (ps_if (pt_val (pe_callB call_isi (by rfl) B.isi (by decide +kernel) (pa_cons (pv 1) (pa_cons (pe_bltn (by rfl) B.str PyProof.Rows.boot_str (v := .ty "str") (u := .type "str") rfl) pa_nil))))
        (pss_one (ps_ret (pe_and (pe_callB call_isi (by rfl) B.isi (by decide +kernel) (pa_cons (pv 0) (pa_cons (pe_bltn (by rfl) B.str PyProof.Rows.boot_str (v := .ty "str") (u := .type "str") rfl) pa_nil))) (pe_one (pe_cmpR op_eq (pv 0) (pv 1) (nomark _))))))
        pss_nil)
      (pss_cons (ps_if (pt_val (pe_callB call_isi (by rfl) B.isi (by decide +kernel) (pa_cons (pv 1) (pa_cons (pe_bltn (by rfl) B.tuple (by decide +kernel) (v := .ty "tuple") (u := .type "tuple") rfl) pa_nil))))
        (pss_cons (ps_if (PW.pt (pw_or (pt_not (pt_val (pe_callB call_isi (by rfl) B.isi (by decide +kernel) (pa_cons (pv 0) (pa_cons (pe_bltn (by rfl) B.tuple (by decide +kernel) (v := .ty "tuple") (u := .type "tuple") rfl) pa_nil))))) (pw_or1 (pt_cmpR op_ne (pe_callB call_len_seq (by rfl) B.len PySem.boot_len (pa_cons (pv 0) pa_nil)) (pe_callB call_len_seq (by rfl) B.len PySem.boot_len (pa_cons (pv 1) pa_nil)) (nomark _)))))
          (pss_one (ps_ret pe_bl))
          pss_nil)
        (pss_one (ps_ret (pe_callB (cr_all rfl) (by rfl) B.all (by decide +kernel) (pa_cons (pe_lc (own := [("k", 2)]) (g := gName 2) (by rfl) scLSame.nd (pi_range1 (by rfl) B.range (pa_cons (pe_callB call_len_seq (by rfl) B.len PySem.boot_len (pa_cons (pv 1) pa_nil)) pa_nil)) (blkOk_by (N := NLSame) (sc := defScope sLSame) (by decide +kernel)) (fun _ _ _ _ _ => pg_name (i := 2) scLSame.nd rfl (Or.inl rfl)) (fun _ _ _ _ _ => pts_nil) (fun _ _ _ _ _ => pe_call cLSame.G (hr.mono (by first | decide | omega)) (by rfl) cLSame.D.g cLSame.D.F.kp cLSame.D.b .nil pass0 (pa_cons (pe_ix (r := rIxT K) ix_tup (pv 0) (pv 2) (fun _ _ => rfl)) (pa_cons (pe_ix (r := rIxT K) ix_tup (pv 1) (pv 2) (fun _ _ => rfl)) pa_nil)))) pa_nil)))))
        pss_nil)
      (pss_one (ps_ret (pe_and (pe_callB call_isi (by rfl) B.isi (by decide +kernel) (pa_cons (pv 0) (pa_cons (pe_bltn (by rfl) B.int PyProof.Rows.boot_int (v := .ty "int") (u := .type "int") rfl) pa_nil))) (pe_and (pe_not (pe_callB call_isi (by rfl) B.isi (by decide +kernel) (pa_cons (pv 0) (pa_cons (pe_bltn (by rfl) B.bool (by decide +kernel) (v := .ty "bool") (u := .type "bool") rfl) pa_nil)))) (pe_one (pe_cmpR op_eq (pv 0) (pv 1) (nomark _)))))))))), ?_⟩
    rcases hv with rfl | ⟨z, rfl⟩ | ⟨i, rfl⟩
    · exact ⟨.non, rfl, rfl, _, rfl, ite2 (fun _ => ⟨.non, rfl, rfl, q⟩) (fun e => absurd rfl e)⟩
    · refine ⟨.str z, rfl, rfl, _, rfl, ite2 (fun e => by cases e) (fun _ => ?_)⟩
      refine ⟨.str z, rfl, .str z, .ty "str", .type "str", .type "str", true, rfl, .ty _, .base (.str _), kit_ty (by decide +kernel), true, rfl, ite2 (fun _ => ?_) (fun e => absurd rfl e)⟩
      refine ⟨.str z, rfl, .str z, .ty "str", .type "str", .type "str", true, rfl, .ty _, .base (.str _), kit_ty (by decide +kernel), true, rfl, ?_⟩
      refine ⟨.str z, rfl, .str z, rfl, rfl, ?_⟩
      rw [decide_eq_true rfl]
      exact q
    · refine ⟨.int i, rfl, rfl, _, rfl, ite2 (fun e => by cases e) (fun _ => ?_)⟩
      refine ⟨.int i, rfl, .int i, .ty "str", .type "int", .type "str", false, rfl, .ty _, .base (.int _), kit_ty (by decide +kernel), false, rfl, ite2 (fun e => by cases e) (fun _ => ?_)⟩
      refine ⟨.int i, rfl, .int i, .ty "tuple", .type "int", .type "tuple", false, rfl, .ty _, .base (.int _), kit_ty (by decide +kernel), false, rfl, ite2 (fun e => by cases e) (fun _ => ?_)⟩
      refine ⟨.int i, rfl, .int i, .ty "int", .type "int", .type "int", true, rfl, .ty _, .base (.int _), kit_ty (by decide +kernel), true, rfl, ?_⟩
      refine ⟨.int i, rfl, .int i, .ty "bool", .type "int", .type "bool", false, rfl, .ty _, .base (.int _), kit_ty (by decide +kernel), false, rfl, ?_⟩
      refine ⟨_, rfl, ?_⟩
      refine ⟨.int i, rfl, .int i, rfl, rfl, ?_⟩
      rw [decide_eq_true rfl]
      exact q
/-- two simple values alike, or two tuples of such -/
def spSame (K : PySem.W.Frag) : Sp := fun vs H Q _ => (∃ v, vs = [v, v] ∧ Smp v ∧ Q (.bl true) H) ∨ ∃ (a c : Addr) (xs : List V), vs = [.ref a, .ref c] ∧ SqT K H a xs ∧ SqT K H c xs ∧ (∀ x ∈ xs, Smp x) ∧ xs.length ≤ 1000000 ∧ ∀ H', Same H H' → Q (.bl true) H'
theorem ok_same {f : Addr} {fd : FuncData} (D0 : Dd K mg "_law_same" sLSame ["actual", "due"] f fd) (B : Blt mg) : FnOk P w K mg base CX0 3 f fd ["actual", "due"] (spSame K) := by
  have cLSame : C1 P w K mg base "_law_same" sLSame ["actual", "due"] 2 spSame0 f fd := ⟨D0, ok_same0 D0 B⟩
  refine D0.F.ok scLSame (fun vs H Q E h => ?_) (fun cdv A outer s H vs Q E hr h => ?_)
  · rcases h with ⟨v, rfl, _⟩ | ⟨a, c, xs, rfl, _⟩ <;> rfl
  · have hz : sizeLine = 16777216 := rfl
    refine ⟨_, (pss_cons (ps_if (pt_cmpR op_isN (pv 1) pe_non (nomark _))
        (pss_one (ps_ret (pe_cmpR op_isN (pv 0) pe_non (nomark _))))
        pss_nil)
      (pss_cons (ps_if (pt_val (pe_callB call_isi (by rfl) B.isi (by decide +kernel) (pa_cons (pv 1) (pa_cons (pe_bltn (by rfl) B.str PyProof.Rows.boot_str (v := .ty "str") (u := .type "str") rfl) pa_nil))))
        (pss_one (ps_ret (pe_and (pe_callB call_isi (by rfl) B.isi (by decide +kernel) (pa_cons (pv 0) (pa_cons (pe_bltn (by rfl) B.str PyProof.Rows.boot_str (v := .ty "str") (u := .type "str") rfl) pa_nil))) (pe_one (pe_cmpR op_eq (pv 0) (pv 1) (nomark _))))))
        pss_nil)
      (pss_cons (ps_if (pt_val (pe_callB call_isi (by rfl) B.isi (by decide +kernel) (pa_cons (pv 1) (pa_cons (pe_bltn (by rfl) B.tuple (by decide +kernel) (v := .ty "tuple") (u := .type "tuple") rfl) pa_nil))))
        (pss_cons (ps_if (PW.pt (pw_or (pt_not (pt_val (pe_callB call_isi (by rfl) B.isi (by decide +kernel) (pa_cons (pv 0) (pa_cons (pe_bltn (by rfl) B.tuple (by decide +kernel) (v := .ty "tuple") (u := .type "tuple") rfl) pa_nil))))) (pw_or1 (pt_cmpR op_ne (pe_callB call_len_seq (by rfl) B.len PySem.boot_len (pa_cons (pv 0) pa_nil)) (pe_callB call_len_seq (by rfl) B.len PySem.boot_len (pa_cons (pv 1) pa_nil)) (nomark _)))))
          (pss_one (ps_ret pe_bl))
          pss_nil)
        (pss_one (ps_ret (pe_callB (cr_all rfl) (by rfl) B.all (by decide +kernel) (pa_cons (pe_lc (own := [("k", 2)]) (g := gName 2) (by rfl) scLSame.nd (pi_range1 (by rfl) B.range (pa_cons (pe_callB call_len_seq (by rfl) B.len PySem.boot_len (pa_cons (pv 1) pa_nil)) pa_nil)) (blkOk_by (N := NLSame) (sc := defScope sLSame) (by decide +kernel)) (fun _ _ _ _ _ => pg_name (i := 2) scLSame.nd rfl (Or.inl rfl)) (fun _ _ _ _ _ => pts_nil) (fun _ _ _ _ _ => pe_call cLSame.G (hr.mono (by first | decide | omega)) (by rfl) cLSame.D.g cLSame.D.F.kp cLSame.D.b .nil pass0 (pa_cons (pe_ix (r := rIxT K) ix_tup (pv 0) (pv 2) (fun _ _ => rfl)) (pa_cons (pe_ix (r := rIxT K) ix_tup (pv 1) (pv 2) (fun _ _ => rfl)) pa_nil)))) pa_nil)))))
        pss_nil)
      (pss_one (ps_ret (pe_and (pe_callB call_isi (by rfl) B.isi (by decide +kernel) (pa_cons (pv 0) (pa_cons (pe_bltn (by rfl) B.int PyProof.Rows.boot_int (v := .ty "int") (u := .type "int") rfl) pa_nil))) (pe_and (pe_not (pe_callB call_isi (by rfl) B.isi (by decide +kernel) (pa_cons (pv 0) (pa_cons (pe_bltn (by rfl) B.bool (by decide +kernel) (v := .ty "bool") (u := .type "bool") rfl) pa_nil)))) (pe_one (pe_cmpR op_eq (pv 0) (pv 1) (nomark _)))))))))), ?_⟩
    rcases h with ⟨v, rfl, hv, q⟩ | ⟨a, c, xs, rfl, ha, hc, hx, ln, q⟩
    · rcases hv with rfl | ⟨z, rfl⟩ | ⟨i, rfl⟩
      · exact ⟨.non, rfl, rfl, _, rfl, ite2 (fun _ => ⟨.non, rfl, rfl, q⟩) (fun e => absurd rfl e)⟩
      · refine ⟨.str z, rfl, rfl, _, rfl, ite2 (fun e => by cases e) (fun _ => ?_)⟩
        refine ⟨.str z, rfl, .str z, .ty "str", .type "str", .type "str", true, rfl, .ty _, .base (.str _), kit_ty (by decide +kernel), true, rfl, ite2 (fun _ => ?_) (fun e => absurd rfl e)⟩
        refine ⟨.str z, rfl, .str z, .ty "str", .type "str", .type "str", true, rfl, .ty _, .base (.str _), kit_ty (by decide +kernel), true, rfl, ?_⟩
        refine ⟨.str z, rfl, .str z, rfl, rfl, ?_⟩
        rw [decide_eq_true rfl]
        exact q
      · refine ⟨.int i, rfl, rfl, _, rfl, ite2 (fun e => by cases e) (fun _ => ?_)⟩
        refine ⟨.int i, rfl, .int i, .ty "str", .type "int", .type "str", false, rfl, .ty _, .base (.int _), kit_ty (by decide +kernel), false, rfl, ite2 (fun e => by cases e) (fun _ => ?_)⟩
        refine ⟨.int i, rfl, .int i, .ty "tuple", .type "int", .type "tuple", false, rfl, .ty _, .base (.int _), kit_ty (by decide +kernel), false, rfl, ite2 (fun e => by cases e) (fun _ => ?_)⟩
        refine ⟨.int i, rfl, .int i, .ty "int", .type "int", .type "int", true, rfl, .ty _, .base (.int _), kit_ty (by decide +kernel), true, rfl, ?_⟩
        refine ⟨.int i, rfl, .int i, .ty "bool", .type "int", .type "bool", false, rfl, .ty _, .base (.int _), kit_ty (by decide +kernel), false, rfl, ?_⟩
        refine ⟨_, rfl, ?_⟩
        refine ⟨.int i, rfl, .int i, rfl, rfl, ?_⟩
        rw [decide_eq_true rfl]
        exact q
    · refine ⟨.ref c, rfl, rfl, _, rfl, ite2 (fun e => by cases e) (fun _ => ?_)⟩
      refine ⟨.ref c, rfl, .ref c, .ty "str", .type "tuple", .type "str", false, rfl, .ty _, sqT_ty hc, kit_ty (by decide +kernel), false, rfl, ite2 (fun e => by cases e) (fun _ => ?_)⟩
      refine ⟨.ref c, rfl, .ref c, .ty "tuple", .type "tuple", .type "tuple", true, rfl, .ty _, sqT_ty hc, kit_ty (by decide +kernel), true, rfl, ite2 (fun _ => ?_) (fun e => absurd rfl e)⟩
      refine ⟨.ref a, rfl, .ref a, .ty "tuple", .type "tuple", .type "tuple", true, rfl, .ty _, sqT_ty ha, kit_ty (by decide +kernel), true, rfl, ite2 (fun e => by cases e) (fun _ => ?_)⟩
      refine ⟨.ref a, rfl, a, xs, rfl, .inr ha, .ref c, rfl, c, xs, rfl, .inr hc, rfl, _, rfl, ite2 (fun e => by simp at e) (fun _ => ?_)⟩
      refine ⟨.ref c, rfl, c, xs, rfl, .inr hc, _, rfl, by omega, by omega, fun D nD => ?_⟩
      refine lc_range (lo := 0) (n := ((xs.length : Nat) : Int).toNat) (fun i H1 => Same H H1 ∧ H1 D = some (.lst ((List.replicate i true).map V.bl))) ⟨same_upd nD, upd_same⟩ (fun i H1 hi hP => ?_) (fun H1 hP => ?_)
      · obtain ⟨S1, hD⟩ := hP
        have hi : i < xs.length := by omega
        have ex := List.getElem?_eq_getElem hi
        have ev : atI xs (0 + (i : Int)) = some xs[i] := at_n (by omega) ex
        refine ⟨rfl, .ref a, rfl, .int (0 + (i : Int)), rfl, a, xs, _, xs[i], rfl, rfl, sqT_same ha S1, ev, .ref c, rfl, .int (0 + (i : Int)), rfl, c, xs, _, xs[i], rfl, rfl, sqT_same hc S1, ev, xs[i], rfl, hx _ (List.getElem_mem hi), _, hD, ?_, fun b o hb => ?_, ?_⟩
        · rw [List.length_map, List.length_replicate]; omega
        · rw [upd_ne (ne_of_none hb nD)]; exact S1 _ _ hb
        · rw [upd_same, List.replicate_succ', List.map_append]; rfl
      · obtain ⟨S1, hD⟩ := hP
        refine ⟨D, _, rfl, sqOf hD, ?_⟩
        rw [all_true]
        exact q H1 S1
end
end Tb
namespace Tb
open PySem PySem.Spec PyProof.Rows L2
open PySem.W (AllAlike Sortable dataLe dataLt TotalLe)
open LamX (Tabs TabS ExtN TabB CodeO)
abbrev sTripsAre : Stmt := topS 44
abbrev NTripsAre : List Str := ["network", "rides", "told", "k", "row", "trip"]
theorem scTripsAre : FnScope NTripsAre ["network", "rides"] (defScope sTripsAre) := ⟨rfl, rfl, rfl, by decide +kernel, rfl, by decide +kernel, by decide +kernel⟩
section
variable {P : Program} {w : World} {K : PySem.W.Frag} {mg : Str → Option Value} {base : Heap} {C CS CT P1 CI CU : Addr}
abbrev CLSame (P : Program) (w : World) (K : PySem.W.Frag) (mg : Str → Option Value) (base : Heap) (g : Addr) (gd : FuncData) := C1 P w K mg base "_law_same" sLSame ["actual", "due"] 3 (spSame K) g gd
def spTripsAre (C CS CT : Addr) : Sp := fun vs H Q _ => ∃ (n r : Addr) (ss : List (Addr × Si)) (ts bs : List (Addr × Tr)), vs = [.ref n, .ref r] ∧ NwAt C CS CT H n ss ts ∧ RowsAt H r bs ∧ ts.map (·.2) = bs.map (·.2) ∧ ∀ H', Same H H' → Q (.bl true) H'
theorem ok_tripsare {f g1 : Addr} {fd gd1 : FuncData} (F : Fun K "_law_trips_are" "_law_trips_are" sTripsAre f fd) (NC : NCls K C) (TC : TCls K CT) (cLSame : CLSame P w K mg base g1 gd1) (B : Blt mg) : FnOk P w K mg base CX0 4 f fd ["network", "rides"] (spTripsAre C CS CT) := by
  refine F.ok scTripsAre (fun vs H Q E h => ?_) (fun cdv A outer s H vs Q E hr h => ?_)
  · obtain ⟨n, r, ss, ts, bs, rfl, _⟩ := h
    rfl
  · obtain ⟨n, r, ss, ts, bs, rfl, hN, hR, e, q⟩ := h
    refine ⟨_, (pss_cons (ps_set (i := 2) scTripsAre.nd rfl (.inl rfl) (pe_fld (pv 0) rfl))
      (pss_cons (ps_if (PW.pt (pw_or (pt_not (pt_val (pe_callB call_isi (by rfl) B.isi (by decide +kernel) (pa_cons (pv 2) (pa_cons (pe_bltn (by rfl) B.tuple (by decide +kernel) (v := .ty "tuple") (u := .type "tuple") rfl) pa_nil))))) (pw_or1 (pt_cmpR op_ne (pe_callB call_len_seq (by rfl) B.len PySem.boot_len (pa_cons (pv 2) pa_nil)) (pe_callB call_len_seq (by rfl) B.len PySem.boot_len (pa_cons (pv 1) pa_nil)) (nomark _)))))
        (pss_one (ps_ret pe_bl))
        pss_nil)
      (pss_cons (ps_for PassesOwn.never rfl (pi_range1 (by rfl) B.range (pa_cons (pe_callB call_len_seq (by rfl) B.len PySem.boot_len (pa_cons (pv 1) pa_nil)) pa_nil)) (pg_name (i := 3) scTripsAre.nd rfl (.inl rfl))
        (pss_cons (ps_set (i := 4) scTripsAre.nd rfl (.inl rfl) (pe_ix ix_list (pv 1) (pv 3) (fun _ _ => rfl)))
        (pss_cons (ps_set (i := 5) scTripsAre.nd rfl (.inl rfl) (pe_ix ix_tup (pv 2) (pv 3) (fun _ _ => rfl)))
        (pss_cons (ps_if (pt_not (pt_val (pe_call cLSame.G (hr.mono (by first | decide | omega)) (by rfl) cLSame.D.g cLSame.D.F.kp cLSame.D.b .nil pass0 (pa_cons (pe_tup (pa_cons (pe_fld (pv 5) rfl) (pa_cons (pe_fld (pv 5) rfl) (pa_cons (pe_fld (pv 5) rfl) (pa_cons (pe_fld (pv 5) rfl) pa_nil))))) (pa_cons (pe_slice sl_tup (pv 4) po_none (po_some pe_int)) pa_nil)))))
          (pss_one (ps_ret pe_bl))
          pss_nil)
        (pss_one (ps_if (pt_not (pt_val (pe_call cLSame.G (hr.mono (by first | decide | omega)) (by rfl) cLSame.D.g cLSame.D.F.kp cLSame.D.b .nil pass0 (pa_cons (pe_tup (pa_cons (pe_fld (pv 5) rfl) (pa_cons (pe_fld (pv 5) rfl) (pa_cons (pe_fld (pv 5) rfl) (pa_cons (pe_fld (pv 5) rfl) pa_nil))))) (pa_cons (pe_slice sl_tup (pv 4) (po_some pe_int) po_none) pa_nil)))))
          (pss_one (ps_ret pe_bl))
          pss_nil))))))
      (pss_one (ps_ret pe_bl))))), ?_⟩
    have hz : sizeLine = 16777216 := rfl
    obtain ⟨dx, S, T, L, dS, dT, dC, h1, h2, h3, h4, h5, h6⟩ := hN.ex
    have le : ts.length = bs.length := by
      have := congrArg List.length e
      rwa [List.length_map, List.length_map] at this
    have lt := hN.lt
    refine ⟨.ref n, rfl, n, C, dx, _, .ref T, rfl, h1, NC.c, NC.trips, rfl, ?_⟩
    refine ⟨.ref T, rfl, .ref T, .ty "tuple", .type "tuple", .type "tuple", true, rfl, .ty _, .base (.tup h3), kit_ty (by decide +kernel), true, rfl, ite2 (fun z => by cases z) (fun _ => ?_)⟩
    refine ⟨.ref T, rfl, T, _, rfl, .inr (.of h3), .ref r, rfl, r, _, rfl, .inl (sqOf hR.l), rfl, _, rfl, ite2 (fun z => by simp [le] at z) (fun _ => ?_)⟩
    refine ⟨.ref r, rfl, r, _, rfl, .inl (sqOf hR.l), _, rfl, by rw [List.length_map]; omega, by rw [List.length_map]; omega, ?_⟩
    refine for_range (lo := 0) (n := (((bs.map fun b => V.ref b.1).length : Nat) : Int).toNat) (fun i σ H1 => Same H H1 ∧ ∃ y3 y4 y5, σ = [some (.ref n), some (.ref r), some (.ref T), y3, y4, y5]) ⟨.refl _, none, none, none, rfl⟩ ?_ ?_
    · rintro i σ H1 hi ⟨S1, y3, y4, y5, rfl⟩
      have hi : i < bs.length := by rw [List.length_map] at hi; omega
      have eb := List.getElem?_eq_getElem hi
      have et := List.getElem?_eq_getElem (show i < ts.length by omega)
      have eq : ts[i].2 = bs[i].2 := by
        have h1 : (ts.map (·.2))[i]? = some ts[i].2 := by rw [List.getElem?_map, et]; rfl
        rw [e, List.getElem?_map, eb] at h1
        exact (Option.some.inj h1).symm
      have ab : atI (bs.map fun b => V.ref b.1) (0 + (i : Int)) = some (.ref bs[i].1) := at_n (j := i) (by omega) (by rw [List.getElem?_map, eb]; rfl)
      have at' : atI (ts.map fun b => V.ref b.1) (0 + (i : Int)) = some (.ref ts[i].1) := at_n (j := i) (by omega) (by rw [List.getElem?_map, et]; rfl)
      obtain ⟨dy, hy⟩ := hN.t ts[i] (List.getElem_mem _)
      have hb := hR.t bs[i] (List.getElem_mem _)
      rw [eq] at hy
      refine ⟨.ref r, rfl, .int (0 + (i : Int)), rfl, r, _, _, .ref bs[i].1, rfl, rfl, sqOf (S1 _ _ hR.l), ab, ?_⟩
      refine ⟨.ref T, rfl, .int (0 + (i : Int)), rfl, T, _, _, .ref ts[i].1, rfl, rfl, .of (S1 _ _ h3), at', ?_⟩
      have y1 := S1 _ _ hy
      generalize bs[i].2 = t at hb y1 hy eq
      refine ⟨.ref ts[i].1, rfl, ts[i].1, CT, dy, _, .int t.leaves, rfl, y1, TC.c, TC.leaves, rfl, .ref ts[i].1, rfl, ts[i].1, CT, dy, _, .str t.name, rfl, y1, TC.c, TC.name, rfl, .ref ts[i].1, rfl, ts[i].1, CT, dy, _, .str t.start, rfl, y1, TC.c, TC.start, rfl, .ref ts[i].1, rfl, ts[i].1, CT, dy, _, .str t.goal, rfl, y1, TC.c, TC.goal, rfl, by show 4 ≤ sizeLine; omega, fun U nU => ?_⟩
      have S2 := same_upd (o := .tup [V.int t.leaves, .str t.name, .str t.start, .str t.goal]) nU
      have hU : upd H1 U (.tup [V.int t.leaves, .str t.name, .str t.start, .str t.goal]) U = some (.tup [V.int t.leaves, .str t.name, .str t.start, .str t.goal]) := upd_same
      have S02 := S1.trans S2
      generalize upd H1 U (.tup [V.int t.leaves, .str t.name, .str t.start, .str t.goal]) = H2 at S2 hU S02
      refine ⟨.ref bs[i].1, rfl, 4, rfl, bs[i].1, _, rfl, .of (S02 _ _ hb), (by decide : ¬ (HT.sIx 8 0 none = 0 ∧ HT.sIx 8 8 (some (4 : Int)) = 8)), fun W nW => ?_⟩
      have S3 := same_upd (o := .tup [V.int t.leaves, .str t.name, .str t.start, .str t.goal]) nW
      have e4 : cutV (rwT t) none (some (4 : Int)) = [V.int t.leaves, .str t.name, .str t.start, .str t.goal] := cut_hi (rwT t) 4
      rw [e4]
      refine .inr ⟨U, W, _, rfl, .of (S3 _ _ hU), .of upd_same, fun x hx => ?_, (by decide : (4 : Nat) ≤ 1000000), fun H4 S4 => ⟨_, rfl, ite2 (fun z => by cases z) (fun _ => ?_)⟩⟩
      · simp only [List.mem_cons, List.not_mem_nil, or_false] at hx
        rcases hx with rfl | rfl | rfl | rfl
        · exact .inr (.inr ⟨_, rfl⟩)
        · exact .inr (.inl ⟨_, rfl⟩)
        · exact .inr (.inl ⟨_, rfl⟩)
        · exact .inr (.inl ⟨_, rfl⟩)
      have S05 : Same H H4 := (S02.trans S3).trans S4
      clear S3 nW S4 hU S2 nU
      have y5' := S05 _ _ hy
      refine ⟨.ref ts[i].1, rfl, ts[i].1, CT, dy, _, .int t.lands, rfl, y5', TC.c, TC.lands, rfl, .ref ts[i].1, rfl, ts[i].1, CT, dy, _, .int t.late, rfl, y5', TC.c, TC.late, rfl, .ref ts[i].1, rfl, ts[i].1, CT, dy, _, .int t.room, rfl, y5', TC.c, TC.room, rfl, .ref ts[i].1, rfl, ts[i].1, CT, dy, _, .int t.toll, rfl, y5', TC.c, TC.toll, rfl, by show 4 ≤ sizeLine; omega, fun U nU => ?_⟩
      have S2 := same_upd (o := .tup [V.int t.lands, .int t.late, .int t.room, .int t.toll]) nU
      have hU : upd H4 U (.tup [V.int t.lands, .int t.late, .int t.room, .int t.toll]) U = some (.tup [V.int t.lands, .int t.late, .int t.room, .int t.toll]) := upd_same
      have S06 := S05.trans S2
      generalize upd H4 U (.tup [V.int t.lands, .int t.late, .int t.room, .int t.toll]) = H5 at S2 hU S06
      refine ⟨.ref bs[i].1, rfl, 4, rfl, bs[i].1, _, rfl, .of (S06 _ _ hb), (by decide : ¬ (HT.sIx 8 0 (some (4 : Int)) = 0 ∧ HT.sIx 8 8 none = 8)), fun W nW => ?_⟩
      have S3 := same_upd (o := .tup [V.int t.lands, .int t.late, .int t.room, .int t.toll]) nW
      have e4 : cutV (rwT t) (some (4 : Int)) none = [V.int t.lands, .int t.late, .int t.room, .int t.toll] := cut_lo (rwT t) 4
      rw [e4]
      refine .inr ⟨U, W, _, rfl, .of (S3 _ _ hU), .of upd_same, fun x hx => ?_, (by decide : (4 : Nat) ≤ 1000000), fun H7 S7 => ⟨_, rfl, ite2 (fun z => by cases z) (fun _ => ?_)⟩⟩
      · simp only [List.mem_cons, List.not_mem_nil, or_false] at hx
        rcases hx with rfl | rfl | rfl | rfl <;> exact .inr (.inr ⟨_, rfl⟩)
      exact ⟨(S06.trans S3).trans S7, _, _, _, rfl⟩
    · rintro σ H1 ⟨S1, y3, y4, y5, rfl⟩
      exact q H1 S1
end
end Tb
set_option maxHeartbeats 2000000
namespace Tb
open PySem PySem.Spec PyProof.Rows L2
open L2H (RoomH PinOk cxH inv_startH roomH_of)
/-! ### a def that is handed the caught error -/
/-- what such a def promises: q is the error's object, which stands -/
structure FnP (P : Program) (w : World) (K : PySem.W.Frag) (mg : Str → Option Value) (base : Heap) (k : Nat) (f : Addr) (fd : FuncData) (ps : List Str) (sp : Addr × Obj → Sp) : Prop where
  many : ∀ q vs H Q E, sp q vs H Q E → vs.length = ps.length
  goes : ∀ (A : Around) (up : List Env) (s : Shared) (H : Hp) (g : Args) (us : List Value) (vs : List V) (Q : VK) (E : XK) (q : Addr × Obj), RoomH k A → PinOk up H s q → Env0 P w K mg base A up s H →
    BindsTo s fd g (ps.zip us) → Vals vs us → sp q vs H Q E → codeAny (model P w) A (.call (.ref f) g) (CR CX0 up P w H s Q E) s
section
variable {P : Program} {w : World} {K : PySem.W.Frag} {mg : Str → Option Value} {base : Heap}
theorem okP {x qual : Str} {st : Stmt} {f : Addr} {fd : FuncData} {N ps : List Str} {k : Nat} {sp : Addr × Obj → Sp} (F : Fun K x qual st f fd) (S : FnScope N ps (defScope st)) (many : ∀ q vs H Q E, sp q vs H Q E → vs.length = ps.length)
    (text : ∀ (cd : Value) (A : Around) (up : List Env) (s : Shared) (H : Hp) (vs : List V) (Q : VK) (E : XK) (q : Addr × Obj), RoomH k (A.deeper (envOfC qual (defScope st) s.heap.objs.size f cd)) → sp q vs H Q E →
      ∃ t, PSs (cxH CX0 P w K mg base N qual (defScope st) f cd A up s H E q) (defBody st) t ∧ t { nx := fun _ H' => Q .non H', rt := Q } (L2.start N vs) H) : FnP P w K mg base (k + 1) f fd ps sp := by
  obtain ⟨oc, od, kV, doc, pm, an, cd, ct, osl, rfl, lk, hcd⟩ := F.ex
  refine ⟨many, fun A up s H g us vs Q E q room pin env0 bind vals want => ?_⟩
  have len := many _ _ _ _ _ want
  have KX : K.In s.heap := env0.mod.kin.keeps fun b o e => (env0.bs b o e).1
  have lim : s.heap.NoLimit := env0.mod.nolimit.keeps fun b o e => (env0.bs b o e).1
  have kinds : ∀ z ∈ ps.zip us, (defScope st).names.lookup z.1 = some .local ∨ ((defScope st).names.lookup z.1 = some .cell ∧ ((cellsFrom (s.heap.objs.size + 1) (defScope st).names []).lookup z.1).isSome = true) := by
    rintro ⟨n, v⟩ hz
    rcases S.par n (List.of_mem_zip hz).1 with c | c
    · exact .inl c
    · exact .inr ⟨c, PySem.W.cellsFrom_some _ _ _ (.inl c)⟩
  have kept : K.In s.heap := KX
  refine codeAny_call_function room.depth (kept _ _ lk) rfl S.co S.gen rfl (PySem.W.codeRec_of kept hcd) (bind _ _ _ _ (wpAny_newFunctionEnv_cells S.kind kinds fun env ee s1 inside => ?_))
  subst ee
  refine ⟨lim.keeps inside.toInCall.keep, codeAny_func ?_⟩
  obtain ⟨t, ht, hq⟩ := text cd A up s H vs Q E q (room.deeper _) want
  have J : Inv (cxH CX0 P w K mg base N qual (defScope st) f cd A up s H E q) [] (L2.start N vs) H s1 := inv_startH S pin env0 len vals inside
  refine wpAny_mono (ht.run [] s1 (L2.start N vs) H _ J hq) (fun flow s' end_ => ?_) fun e s' end_ => end_
  cases flow with
  | ret u => exact let ⟨v, σ', H', J', rv, z⟩ := end_; ⟨v, H', J'.os, J'.bare, J'.base, J'.hok, rv, z⟩
  | next => exact let ⟨σ', H', J', z⟩ := end_; ⟨.non, H', J'.os, J'.bare, J'.base, J'.hok, rfl, z⟩
  | brk => exact let ⟨_, _, _, z⟩ := end_; z.elim
  | cont => exact let ⟨_, _, _, z⟩ := end_; z.elim
end
section
variable {X : Cx} {k : Nat} {f a : Addr} {oe : Obj} {pn : List (Addr × Obj)} {fd : FuncData} {ps : List Str} {sp : Addr × Obj → Sp} {x : Str} {p pos : PySem.Pos} {e : Expr} {es : List Expr} {t : TA}
def tCallP (sp : Addr × Obj → Sp) (a : Addr) (cls : Value) (d : Option Addr) (t : TA) : TE := fun σ H Q => t σ H fun vs H1 => ∀ oe, Zc cls d oe → (∃ ws, oe.data = .fields ws) → sp (a, oe) vs H1 Q E0
theorem pe_callP {cls : Value} {d : Option Addr} (hz : Zc cls d oe) (hf : ∃ ws, oe.data = .fields ws) (F : FnP X.prog X.w X.K X.mg X.base k f fd ps sp) (room : Room k X.A) (hg : Gl X x) (hm : X.mg x = some (.ref f)) (kp : PySem.W.keepIn X.K (.ref f) = true) (bind : Binds X.K fd ps [])
    (pa : PA (X.suite a ((a, oe) :: pn)) (e :: es) t) (nd : (x == ("__debug__" : Str)) = false := by decide) (se : starEach (e :: es) X.env = (false, eval e X.env) :: starEach es X.env := by rfl) (pl : (backTo pos (starEach es X.env)).any (·.1) = false := by rfl) :
    PE (X.suite a ((a, oe) :: pn)) (.Call (.Name x p) (e :: es) [] pos) (tCallP sp a cls d t) := by
  refine ⟨fun pins s σ H Q I h => ?_⟩
  refine wpAny_Call_Name_kw (ld_glob (X := X.suite a ((a, oe) :: pn)) I hg hm ?_ nd)
  refine PySem.W.callWith_K (h₀ := X.base) I.ok.mod.kin kp (thn (pa.run pos pins s σ H _ I h) fun us s1 ⟨vs, H1, I1, r, q⟩ => ⟨I1.kIn, ?_⟩) se pl
  have q := q oe hz hf
  have len : us.length = ps.length := by rw [← r.length]; exact F.many _ _ _ _ _ q
  have b := bind s1 us I1.kIn (by rw [List.append_nil]; exact len)
  rw [List.append_nil] at b
  have at_ := I1.pin (a, oe) (List.mem_append_left _ List.mem_cons_self)
  have pin : PinOk X.stack H1 s1 (a, oe) := ⟨at_.1, at_.2.1, fun m => (List.mem_cons.mp (I1.stkSub a m)).elim at_.2.2.1 at_.2.2.2.1, at_.2.2.2.2⟩
  refine wpAny_call (codeAny_mono (F.goes (X.A.mark (some (.ref a))) X.stack s1 H1 ⟨us, []⟩ us vs Q E0 (a, oe) ⟨room.dp, room.un⟩ pin I1.env0 b r q) fun res s' hq => ?_)
  cases res with
  | error er => exact hq.elim
  | ok flow =>
    cases flow with
    | ret u => exact I1.after hq
    | next => exact hq.elim
    | brk => exact hq.elim
    | cont => exact hq.elim
end
open LamX (Tabs TabS ExtN TabB CodeO)
def spSameH : Addr × Obj → Sp := fun _ vs H Q _ => ∃ z, vs = [.str z, .str z] ∧ Q (.bl true) H
/-- the errors' classes, as the module has them -/
structure Errs (mg : Str → Option Value) (CP c1 c2 c3 c4 c5 c6 : Addr) : Prop where
  gP : mg "ParcelError" = some (.ref CP)
  ve : mg "ValueError" = none
  g1 : mg "TooMany" = some (.ref c1)
  g2 : mg "Contradiction" = some (.ref c2)
  g3 : mg "BadManifest" = some (.ref c3)
  g4 : mg "BadLine" = some (.ref c4)
  g5 : mg "Late" = some (.ref c5)
  g6 : mg "Refused" = some (.ref c6)
/-- of which of them an error of the class D is -/
structure OfCls (K : PySem.W.Frag) (D O CP c1 c2 c3 c4 c5 c6 : Addr) : Prop where
  kS : PySem.W.kitOne K (.ref D) (.ref D) = some true
  kV : PySem.W.kitOne K (.ref D) (.type "ValueError") = some true
  kO : PySem.W.kitAny K (.ref D) [.ref O, .ref c1, .ref c2, .ref c3, .ref c4, .ref c5, .ref c6] = some false
  ex : PySem.W.exmOne K (.ref D) (.ref CP) = some true
section
variable {P : Program} {w : World} {K : PySem.W.Frag} {mg : Str → Option Value} {base : Heap} {C CS CT P1 CI CU gI gU CP c1 c2 c3 c4 c5 c6 : Addr} {gdI gdU : FuncData}
theorem ok_sameH {f : Addr} {fd : FuncData} (F : Fun K "_law_same" "_law_same" sLSame f fd) (B : Blt mg) : FnP P w K mg base 1 f fd ["actual", "due"] spSameH := by
  refine okP F scLSame (fun q vs H Q E h => ?_) (fun cdv A outer s H vs Q E q hr h => ?_)
  · obtain ⟨z, rfl, _⟩ := h
    rfl
  · obtain ⟨z, rfl, q⟩ := h
    refine ⟨_, pss_cons (ps_if (pt_cmpR op_isN (pv 1) pe_non (nomark _)) (pss_one (ps_ret (pe_cmpR op_isN (pv 0) pe_non (nomark _)))) pss_nil)
      (pss_cons (ps_if (pt_val (pe_callB (id := "isinstance") (r := rIsi K) call_isi (by rfl) B.isi (by decide +kernel) (pa_cons (pv 1) (pa_cons (pe_bltn (by rfl) B.str PyProof.Rows.boot_str (v := .ty "str") (u := .type "str") rfl) pa_nil))))
        (pss_one (ps_ret (pe_and (pe_callB (id := "isinstance") (r := rIsi K) call_isi (by rfl) B.isi (by decide +kernel) (pa_cons (pv 0) (pa_cons (pe_bltn (by rfl) B.str PyProof.Rows.boot_str (v := .ty "str") (u := .type "str") rfl) pa_nil))) (pe_one (pe_cmpR op_eq (pv 0) (pv 1) (nomark _))))))
        pss_nil)
      (pss_cons ps_never (pss_one ps_never))), ?_⟩
    refine ⟨.str z, rfl, rfl, _, rfl, ite2 (fun e => by cases e) (fun _ => ?_)⟩
    refine ⟨.str z, rfl, .str z, .ty "str", .type "str", .type "str", true, rfl, .ty _, .base (.str _), kit_ty (by decide +kernel), true, rfl, ite2 (fun _ => ?_) (fun e => absurd rfl e)⟩
    refine ⟨.str z, rfl, .str z, .ty "str", .type "str", .type "str", true, rfl, .ty _, .base (.str _), kit_ty (by decide +kernel), true, rfl, ?_⟩
    refine ⟨.str z, rfl, .str z, rfl, rfl, ?_⟩
    rw [decide_eq_true rfl]
    exact q
end
end Tb
namespace Tb
open PySem PySem.Spec PyProof.Rows L2
open PySem.W (EachIs AllAlike Sortable dataLe)
open LamX (Tabs TabS ExtN TabB CodeO)
abbrev sLNet : Stmt := topS 43
abbrev NLNet : List Str := ["box", "known", "rides", "sites", "trips", "row", "k"]
theorem scLNet : FnScope NLNet ["box", "known", "rides"] (defScope sLNet) := ⟨rfl, rfl, rfl, by decide +kernel, rfl, by decide +kernel, by decide +kernel⟩
theorem tabs_bq {T : List (Addr × Str)} {H H' : Hp} {β : Bw} (h : Tabs T H) (B : BoxAt H β) (b : Bq β H H') : Tabs T H' := fun q hq => by
  obtain ⟨ps, h1, h2, h3⟩ := h q hq
  refine ⟨ps, B.keep b h1 (fun _ _ z => by cases z), h2, fun pos cv hc => ?_⟩
  obtain ⟨c, e1, e2⟩ := h3 pos cv hc
  exact ⟨c, e1, B.keep b e2 (fun _ _ z => by cases z)⟩
theorem tabs_butL {T : List (Addr × Str)} {H H' : Hp} {L : Addr} {xs : List V} (h : Tabs T H) (hL : H L = some (.lst xs)) (b : But L H H') : Tabs T H' := fun q hq => by
  obtain ⟨ps, h1, h2, h3⟩ := h q hq
  have ne : ∀ {x : Addr} {o : HO}, H x = some o → (∀ xs, o ≠ .lst xs) → x ≠ L := fun {x o} hx n e => by
    rw [e, hL] at hx
    exact n _ (Option.some.inj hx).symm
  refine ⟨ps, b _ _ h1 (ne h1 nofun), h2, fun pos cv hc => ?_⟩
  obtain ⟨c, e1, e2⟩ := h3 pos cv hc
  exact ⟨c, e1, b _ _ e2 (ne e2 nofun)⟩
theorem NwAt.bq {C CS CT : Addr} {H H' : Hp} {β : Bw} {n : Addr} {ss : List (Addr × Si)} {ts : List (Addr × Tr)} (h : NwAt C CS CT H n ss ts) (B : BoxAt H β) (b : Bq β H H') : NwAt C CS CT H' n ss ts := by
  obtain ⟨⟨dx, S, T, L, dS, dT, dC, h1, h2, h3, h4, h5, h6⟩, hs, ht, r1, r2, r3, r4, r5, r6, r7⟩ := h
  refine ⟨⟨dx, S, T, L, dS, dT, dC, B.keep b h1 (NI.ins _ _ _), B.keep b h2 (NI.tup _), B.keep b h3 (NI.tup _), B.keep b h4 (NI.tup _), B.keep b h5 (NI.dK _), B.keep b h6 (NI.dK _)⟩, fun x hx => ?_, fun x hx => ?_, r1, r2, r3, r4, r5, r6, r7⟩
  · obtain ⟨dx, a1, a2, a3, e⟩ := hs x hx
    exact ⟨dx, a1, a2, a3, B.keep b e (NI.ins _ _ _)⟩
  · obtain ⟨dx, e⟩ := ht x hx
    exact ⟨dx, B.keep b e (NI.ins _ _ _)⟩
theorem each_map_eq {α β : Type} {g : α → β} : ∀ {bs : List β} {M : List α}, EachIs (fun b u => b = g u) bs M → bs = M.map g
  | _, _, .nil => rfl
  | _, _, .cons h t => by rw [h, each_map_eq t]; rfl
theorem each_map_of {α β : Type} (g : α → β) : ∀ M : List α, EachIs (fun b u => b = g u) (M.map g) M
  | [] => .nil
  | _ :: M => .cons rfl (each_map_of g M)
theorem perm_map {α β : Type} {g : α → β} {cs : List β} {M : List α} (p : cs.Perm (M.map g)) : ∃ N : List α, N.Perm M ∧ cs = N.map g := by
  obtain ⟨N, h1, h2⟩ := SH.each_perm p.symm (each_map_of g M)
  exact ⟨N, h1, each_map_eq h2⟩
/-- all but the box and the tables -/
def Kq (β : Bw) (H H' : Hp) : Prop := ∀ x o, H x = some o → (∀ ps, o ≠ .tbl ps) → x ≠ β.b → x ≠ β.c → H' x = some o
theorem Bq.kq {β : Bw} {H H' : Hp} (h : Bq β H H') : Kq β H H' := fun x o e _ n m => h x o e n m
theorem Kq.ext {β : Bw} {H H1 H2 : Hp} (h : Kq β H H1) (S : ExtN H1 H2) : Kq β H H2 := fun x o e t n m => S x o (h x o e t n m) t
theorem Kq.trans {β : Bw} {H H1 H2 : Hp} (h : Kq β H H1) (k : Kq β H1 H2) : Kq β H H2 := fun x o e t n m => k x o (h x o e t n m) t n m
theorem BoxAt.ext {H H' : Hp} {β : Bw} (B : BoxAt H β) (S : ExtN H H') : BoxAt H' β := by
  obtain ⟨hp, ⟨cs, rs, t, h1, h2, h3, r⟩, x, y, z⟩ := B
  exact ⟨S _ _ hp nofun, ⟨cs, rs, t, S _ _ h1 nofun, S _ _ h2 nofun, S _ _ h3 nofun, r⟩, x, y, z⟩
theorem BoxAt.butL {H H' : Hp} {β : Bw} {L : Addr} (B : BoxAt H β) (o : Off β L) (b : But L H H') : BoxAt H' β := by
  obtain ⟨hp, ⟨cs, rs, t, h1, h2, h3, r⟩, x, y, z⟩ := B
  obtain ⟨o1, o2, o3, o4⟩ := o
  exact ⟨b _ _ hp (Ne.symm o1), ⟨cs, rs, t, b _ _ h1 (Ne.symm o2), b _ _ h2 (Ne.symm o3), b _ _ h3 (Ne.symm o4), r⟩, x, y, z⟩
theorem pre_nm (c : Str) (hc : Nm (tl c)) (h1 : (tl c).length = 1) {k : Nat} (h : k < 100) : isName (c ++ Str.ofString (toString (k : Int))) = true := by
  obtain ⟨h2, h3⟩ := num100 h
  refine (isName_iff _).mpr ?_
  rw [tl_app]
  exact nm_app hc h3 (by omega)
theorem num_addr {k : Nat} (h : k < 100) : isAddr (Str.ofString (toString (k : Int))) = true := by
  have k1 : ∀ m : Fin 100, isAddr (Str.ofString (toString (m.val : Int))) = true := by decide +kernel
  exact k1 ⟨k, h⟩
theorem num_nd {n : Nat} (h : n ≤ 99) : ((List.range n).map fun k => Str.ofString (toString ((k : Nat) : Int))).Nodup := by
  have := num_inj
  have e : List.range 99 = List.range n ++ (List.range 99).drop n := by
    rw [← List.take_append_drop n (List.range 99), List.take_range, Nat.min_eq_left h, List.drop_append, List.length_range]
    simp
  rw [e, List.map_append] at this
  exact (List.nodup_append.mp this).1
abbrev wH : Str := Str.ofString "h"
abbrev wL : Str := Str.ofString "l"
section
variable {P : Program} {w : World} {K : PySem.W.Frag} {mg : Str → Option Value} {base : Heap} {C CS CT P1 t1 t2 t3 fS fT fN : Addr} {fdS fdT fdN : FuncData}
theorem kb_three {f : Addr} {fd : FuncData} (F : FunT K f fd) : ∃ g, KBn K fd psT 6 ["late", "room", "toll"] g (fun vs zs => vs ++ zs) := by
  obtain ⟨mv, h⟩ := F.kbinds0 (ps := psT) 6 ["late", "room", "toll"] [] (fun us _ ws => us ++ ws) (List.cons_ne_nil _ _) nofun (fun r1 _ r3 => r1.append r3) fun D doc pm an cdv ct us mv ws l1 l2 l3 => match us, ws, l1, l3 with
    | [_, _, _, _, _, _], [_, _, _], _, _ => rfl
  exact ⟨_, h⟩
def dvS (t1 t2 t3 : Addr) : List V := [.ref t1, .ref t2, .ref t3, .non]
theorem bindsS {f : Addr} {fd : FuncData} (F : FunS K t1 t2 t3 f fd) : ∃ ds, Vals (dvS t1 t2 t3) ds ∧ Binds K fd psS ds :=
  F.binds0 (ps := psS) 5 (List.cons_ne_nil _ _) rfl fun D doc pm an cdv ct us ks l1 l2 => match us, ks, l1, l2 with
    | [_, _, _, _, _], [_, _, _, _], _, _ => ⟨_, _, _, _, _, _, rfl, rfl, ⟨_, _, _, _, _, _, rfl, rfl, ⟨_, _, _, _, _, _, rfl, rfl, ⟨_, _, _, _, _, _, rfl, rfl, rfl⟩⟩⟩⟩
/-- the class Site, to be called -/
structure SiC (P : Program) (w : World) (K : PySem.W.Frag) (mg : Str → Option Value) (base : Heap) (CS t1 t2 t3 fS : Addr) (fdS : FuncData) : Prop where
  MK : Mk K CS fS
  F : FunS K t1 t2 t3 fS fdS
  G : FnOk P w K mg base (L2.CX P w) 4 fS fdS psS (spSInit K CS)
  g : mg "Site" = some (.ref CS)
  e1 : ∀ H, SqT K H t1 []
  e2 : ∀ H, SqT K H t2 []
  e3 : ∀ H, SqT K H t3 []
theorem SiC.R4 (T : SiC P w K mg base CS t1 t2 t3 fS fdS) : FnR P w K mg base (L2.CX P w) 4 fS (fun vs H Q E => spSInit K CS (vs ++ dvS t1 t2 t3) H Q E) := by
  obtain ⟨ds, v, b⟩ := bindsS T.F
  exact (T.G.raw b v).imp fun vs H Q E h => h
/-- the class Trip, to be called -/
structure TrC (P : Program) (w : World) (K : PySem.W.Frag) (mg : Str → Option Value) (base : Heap) (CT fT : Addr) (fdT : FuncData) : Prop where
  MK : Mk K CT fT
  F : FunT K fT fdT
  G : FnOk P w K mg base (L2.CX P w) 4 fT fdT psT (spTInit K CT)
  g : mg "Trip" = some (.ref CT)
abbrev COrder (P : Program) (w : World) (K : PySem.W.Frag) (mg : Str → Option Value) (base : Heap) (g : Addr) (gd : FuncData) := C1 P w K mg base "_law_order" sOrder ["box", "rows"] 3 spOrder g gd
def siK (ks : List Str) (i : Nat) (h : i < ks.length) : Si := ⟨ks[i], wH ++ Str.ofString (toString ((i : Int) / 2)), wL ++ Str.ofString (toString ((i : Int) / 3)), Str.ofString (toString (i : Int))⟩
def spLNet (C CS CT P1 : Addr) : Sp := fun vs H Q _ => ∃ (β : Bw) (l r : Addr) (ks : List Str) (bs : List (Addr × Tr)), vs = [.ref β.p, .ref l, .ref r] ∧ BoxAt H β ∧ Tabs (TT P1) H ∧ NmL H l ks ∧ ks.Nodup ∧ ks.length ≤ 90 ∧ RowsAt H r bs ∧ (∀ b ∈ bs, TrOk ks b.2) ∧ (bs.map fun b => b.2.name).Nodup ∧ bs.length ≤ 150 ∧ Srt (bs.map (·.2)) ∧
  ∀ (n : Addr) (ss : List (Addr × Si)) (ts : List (Addr × Tr)) (H' : Hp), BoxAt H' β → Kq β H H' → Tabs (TT P1) H' → NwAt C CS CT H' n ss ts → ts.map (·.2) = bs.map (·.2) → (∀ z, z ∈ ks ↔ z ∈ ss.map (fun y => y.2.name)) → Q (.ref n) H'
theorem ok_lnet {f g1 : Addr} {fd gd1 : FuncData} (F : Fun K "_law_network" "_law_network" sLNet f fd) (cOrder : COrder P w K mg base g1 gd1) (ST : SiC P w K mg base CS t1 t2 t3 fS fdS) (TT' : TrC P w K mg base CT fT fdT) (NT : NetC P w K mg base C CS CT P1 fN fdN) (B : Blt mg) : FnOk P w K mg base CX0 9 f fd ["box", "known", "rides"] (spLNet C CS CT P1) := by
  obtain ⟨gk, kbT⟩ := kb_three TT'.F
  refine F.ok scLNet (fun vs H Q E h => ?_) (fun cdv A outer s H vs Q E hr h => ?_)
  · obtain ⟨β, l, r, ks, bs, rfl, _⟩ := h
    rfl
  · obtain ⟨β, l, r, ks, bs, rfl, hB, hT, hK, nd, lk, hR, hok, nb, lb, so, q⟩ := h
    refine ⟨_, (pss_cons (ps_setLc (i := 3) (own := [("k", 6)]) (g := gName 6) (by rfl) scLNet.nd rfl rfl (sw_true rfl rfl rfl (by decide +kernel)) (pi_range1 (by rfl) B.range (pa_cons (pe_callB call_len_seq (by rfl) B.len PySem.boot_len (pa_cons (pv 1) pa_nil)) pa_nil)) (blkOk_by (N := NLNet) (sc := defScope sLNet) (by decide +kernel)) (fun _ _ _ _ _ => pg_name (i := 6) scLNet.nd rfl (Or.inl rfl)) (fun _ _ _ _ _ => pts_nil) (fun _ _ _ _ _ => pe_makeS ST.MK ST.R4 (hr.mono (by first | decide | omega)) (by rfl) ST.g (fun _ => passE0) (pa_cons (pe_ix (r := rIxL K) ix_list (pv 1) (pv 6) (fun _ _ => rfl)) (pa_cons (pe_op op_add_str pe_str (pe_callTy call_str_int (by rfl) B.str PyProof.Rows.boot_str (pa_cons (pe_op op_fdiv (pv 6) pe_int) pa_nil))) (pa_cons (pe_op op_add_str pe_str (pe_callTy call_str_int (by rfl) B.str PyProof.Rows.boot_str (pa_cons (pe_op op_fdiv (pv 6) pe_int) pa_nil))) (pa_cons (pe_callTy call_str_int (by rfl) B.str PyProof.Rows.boot_str (pa_cons (pv 6) pa_nil)) pa_nil))))))
      (pss_cons (ps_set (i := 4) scLNet.nd rfl (.inl rfl) (pe_lst pa_nil))
      (pss_cons (ps_for PassesOwn.never rfl (pi_list (pe_call cOrder.G (hr.mono (by first | decide | omega)) (by rfl) cOrder.D.g cOrder.D.F.kp cOrder.D.b .nil pass0 (pa_cons (pv 0) (pa_cons (pv 2) pa_nil)))) (pg_name (i := 5) scLNet.nd rfl (.inl rfl))
        (pss_one (ps_expr (pe_bm PySem.F.plainAttrs_list PySem.F.slot_list_append PySem.F.type_list_append mt_append (pv 4) (pa_cons (pe_makeKS TT'.MK TT'.G (hr.mono (by first | decide | omega)) (by rfl) TT'.g kbT (fun _ => passE0) (pa_cons (pe_ix ix_tup (pv 5) pe_int (fun _ _ => rfl)) (pa_cons (pe_ix ix_tup (pv 5) pe_int (fun _ _ => rfl)) (pa_cons (pe_ix ix_tup (pv 5) pe_int (fun _ _ => rfl)) (pa_cons (pe_ix ix_tup (pv 5) pe_int (fun _ _ => rfl)) (pa_cons (pe_ix ix_tup (pv 5) pe_int (fun _ _ => rfl)) pa_nil))))) (pk_cons (pe_ix ix_tup (pv 5) pe_int (fun _ _ => rfl)) (pk_cons (pe_ix ix_tup (pv 5) pe_int (fun _ _ => rfl)) (pk_cons (pe_ix ix_tup (pv 5) pe_int (fun _ _ => rfl)) pk_nil)))) pa_nil)))))
      (pss_one (ps_ret (pe_make NT.MK NT.G (hr.mono (by first | decide | omega)) (by rfl) NT.g NT.b .nil pass0 (pa_cons (pe_call cOrder.G (hr.mono (by first | decide | omega)) (by rfl) cOrder.D.g cOrder.D.F.kp cOrder.D.b .nil pass0 (pa_cons (pv 0) (pa_cons (pv 3) pa_nil))) (pa_cons (pv 4) (pa_cons (pe_lst pa_nil) pa_nil))))))))), ?_⟩
    have hz : sizeLine = 16777216 := rfl
    have lenk : ((ks.map V.str).length : Int) = (ks.length : Int) := by rw [List.length_map]
    have ln12 : ∀ {z : Str}, Nm (tl z) → z.length ≤ 1000 := fun {z} h => by rw [len_tl]; have := h.1; omega
    refine ⟨.ref l, rfl, l, _, rfl, .inl (sqOf hK.l), _, rfl, by omega, by omega, fun D nD => ?_⟩
    refine lc_range (lo := 0) (n := (((ks.map V.str).length : Nat) : Int).toNat) (fun i H1 => Same H H1 ∧ ∃ ss : List (Addr × Si), H1 D = some (.lst (ss.map fun y => V.ref y.1)) ∧ ss.length = i ∧ (∀ y ∈ ss, SiAt CS H1 y.1 y.2) ∧ ss.map (fun y => y.2.name) = ks.take i ∧ ss.map (fun y => y.2.code) = (List.range i).map fun k => Str.ofString (toString ((k : Nat) : Int))) ⟨same_upd nD, [], upd_same, rfl, nofun, rfl, rfl⟩ (fun i H1 hi hP => ?_) (fun H1 hP => ?_)
    · obtain ⟨S1, ss, hD, ls, hss, en, ec⟩ := hP
      have hi : i < ks.length := by rw [List.length_map] at hi; omega
      have ek := List.getElem?_eq_getElem hi
      have nk := hK.n _ (List.getElem_mem hi)
      have ea : atI (ks.map V.str) ((i : Int)) = some (.str ks[i]) := atI_nat (strs_at hi)
      have d2 : (i : Int) / 2 = ((i / 2 : Nat) : Int) := (Int.natCast_ediv i 2).symm
      have d3 : (i : Int) / 3 = ((i / 3 : Nat) : Int) := (Int.natCast_ediv i 3).symm
      have i2 : i / 2 < 100 := by omega
      have i3 : i / 3 < 100 := by omega
      have nH : isName (wH ++ Str.ofString (toString ((i : Int) / 2))) = true := by rw [d2]; exact pre_nm wH ((isName_iff _).mp (by decide +kernel)) (by decide +kernel) i2
      have nL : isName (wL ++ Str.ofString (toString ((i : Int) / 3))) = true := by rw [d3]; exact pre_nm wL ((isName_iff _).mp (by decide +kernel)) (by decide +kernel) i3
      have aC : isAddr (Str.ofString (toString (i : Int))) = true := num_addr (by omega)
      have lH := ln12 ((isName_iff _).mp nH)
      have lL := ln12 ((isName_iff _).mp nL)
      have lC : (Str.ofString (toString (i : Int))).length ≤ 1000 := by rw [len_tl]; have := ((isAddr_iff _).mp aC).2.1; omega
      have lHp : (wH).length + (Str.ofString (toString ((i : Int) / 2))).length ≤ sizeLine := by rw [← app_len]; omega
      have lLp : (wL).length + (Str.ofString (toString ((i : Int) / 3))).length ≤ sizeLine := by rw [← app_len]; omega
      have g2 : ((i : Int) / 2).natAbs.log2 < 1920 := by rw [d2]; exact Nat.lt_of_le_of_lt (Nat.log2_le_self _) (by show i / 2 < 1920; omega)
      have g3 : ((i : Int) / 3).natAbs.log2 < 1920 := by rw [d3]; exact Nat.lt_of_le_of_lt (Nat.log2_le_self _) (by show i / 3 < 1920; omega)
      have g1 : ((i : Int)).natAbs.log2 < 1920 := Nat.lt_of_le_of_lt (Nat.log2_le_self _) (by show i < 1920; omega)
      rw [show (0 : Int) + (i : Int) = (i : Int) by omega]
      refine ⟨rfl, .ref l, rfl, .int (i : Int), rfl, l, _, _, .str ks[i], rfl, rfl, sqOf (S1 _ _ hK.l), ea, .int (i : Int), rfl, (i : Int), 2, rfl, rfl, ⟨by decide, by decide⟩, _, rfl, g2, _, _, rfl, rfl, lHp, .int (i : Int), rfl, (i : Int), 3, rfl, rfl, ⟨by decide, by decide⟩, _, rfl, g3, _, _, rfl, rfl, lLp, .int (i : Int), rfl, _, rfl, g1, fun x dx nx ndx ne => ?_⟩
      have S2 := made_same (C := CS) nx ndx ne
      refine ⟨x, dx, t1, t2, t3, siK ks i hi, rfl, upd_same, ST.e1 _, ST.e2 _, ST.e3 _, (isName_iff _).mpr nk, nH, nL, aC, ⟨ln12 nk, lH, lL, lC⟩, fun H2 b2 hs => ⟨rfl, ?_⟩⟩
      have S3 : Same H1 H2 := made_but nx ndx b2
      have xD : x ≠ D := fun z => by rw [z, hD] at nx; cases nx
      have up : ∀ {a s}, SiAt CS H2 a s → a ≠ D → ∀ o, SiAt CS (upd H2 D o) a s := fun {a s} h n o => by
        obtain ⟨dy, r1, r2, r3, e⟩ := h
        exact ⟨dy, r1, r2, r3, by rw [upd_ne n]; exact e⟩
      refine ⟨_, S3 _ _ hD, by rw [List.length_map]; exact small1000' (by omega), fun c o hc => ?_, ss ++ [(x, siK ks i hi)], by rw [upd_same, List.map_append]; rfl, by rw [List.length_append, ls]; rfl, fun y hy => ?_, ?_, ?_⟩
      · rw [upd_ne (ne_of_none hc nD)]; exact S3 _ _ (S1 _ _ hc)
      · rcases List.mem_append.mp hy with hy | hy
        · have h := (hss y hy).ext (ext_same S3)
          exact up h (fun z => by obtain ⟨_, _, _, _, e⟩ := hss y hy; rw [z, hD] at e; cases e) _
        · rw [List.mem_singleton.mp hy]
          exact up hs xD _
      · rw [List.map_append, en, take_snoc ek]; rfl
      · rw [List.map_append, ec, List.range_succ, List.map_append]; rfl
    obtain ⟨S1, ss, hD, ls, hss, en, ec⟩ := hP
    have ls : ss.length = ks.length := by rw [ls, List.length_map]; omega
    rw [List.length_map, Int.toNat_natCast, List.take_length] at en
    rw [List.length_map, Int.toNat_natCast] at ec
    have B1 := hB.same S1
    refine ⟨by decide, fun L nL => ?_⟩
    have S2 := same_upd (o := .lst []) nL
    have hL2 : upd H1 L (.lst []) L = some (.lst (([] : List (Addr × Tr)).map fun y => V.ref y.1)) := upd_same
    have L0 : H L = none := S1.free nL
    have B2 := B1.new (o := .lst []) nL
    have oL := B1.offN nL
    have S02 := S1.trans S2
    have hD2 := S2 _ _ hD
    have ss2 : ∀ y ∈ ss, SiAt CS _ y.1 y.2 := fun y hy => (hss y hy).ext (ext_same S2)
    generalize upd H1 L (.lst []) = H2 at S2 hL2 B2 S02 hD2 ss2
    have R2 := hR.same S02
    have T2 := tabs_same hT S02
    refine ⟨.ref β.p, rfl, .ref r, rfl, β, r, _, rfl, B2, R2.l, NI.refs _ _, by rw [List.length_map]; omega, fun p ys H3 np hp pm B3 b3 => ?_⟩
    obtain ⟨cs, pc, ey⟩ := perm_map pm
    subst ey
    have R3 := R2.bq B2 b3
    have hL3 : H3 L = some (.lst (([] : List (Addr × Tr)).map fun y => V.ref y.1)) := b3.off oL hL2
    have hD3 : H3 D = some (.lst (ss.map fun y => V.ref y.1)) := B2.keep b3 hD2 (NI.refs _ _)
    have ss3 : ∀ y ∈ ss, SiAt CS H3 y.1 y.2 := fun y hy => by
      obtain ⟨dy, r1, r2, r3, e⟩ := ss2 y hy
      exact ⟨dy, r1, r2, r3, B2.keep b3 e (NI.ins _ _ _)⟩
    have T3 := tabs_bq T2 B2 b3
    have pL : p ≠ L := fun z => by rw [z, hL2] at np; cases np
    have DL : D ≠ L := fun z => by rw [z, nL] at hD; cases hD
    have lc : cs.length ≤ 150 := by rw [pc.length_eq]; exact lb
    have hcs : ∀ c ∈ cs, H3 c.1 = some (.tup (rwT c.2)) := fun c hc => R3.t c (pc.mem_iff.mp hc)
    refine ⟨p, rfl, ⟨_, sqOf hp⟩, ?_⟩
    refine for_it (walk_list (a := p) (xs := cs.map fun b => V.ref b.1)) (fun j σ H4 => ∃ (tx : List (Addr × Tr)) (y5 : Option V), σ = [some (.ref β.p), some (.ref l), some (.ref r), some (.ref D), some (.ref L), y5, none] ∧ But L H3 H4 ∧ H4 L = some (.lst (tx.map fun y => V.ref y.1)) ∧ (∀ y ∈ tx, TrAt CT H4 y.1 y.2) ∧ tx.map (·.2) = (cs.take j).map (·.2)) ⟨[], none, rfl, But.refl _ _, hL3, nofun, rfl⟩ (fun j σ H4 _ ⟨_, _, _, b, _⟩ => sqOf (b _ _ hp pL)) (fun j v σ H4 H5 hj hP hy => ?_) (fun σ H4 hP => ?_)
    · obtain ⟨tx, y5, rfl, b4, hL4, htx, etx⟩ := hP
      obtain ⟨rfl, ev⟩ := hy
      rw [List.getElem?_map] at ev
      obtain ⟨c, ec2, rfl⟩ := Option.map_eq_some_iff.mp ev
      have mc := List.mem_of_getElem? ec2
      have ok := hok c (pc.mem_iff.mp mc)
      have hc := b4 _ _ (hcs c mc) fun z => by have := hcs c mc; rw [z, hL3] at this; cases this
      have lx : tx.length ≤ 150 := by
        have := congrArg List.length etx
        rw [List.length_map, List.length_map, List.length_take] at this
        omega
      obtain ⟨a, t⟩ := c
      refine ⟨.ref L, rfl, .inl ⟨rfl, _, sqOf hL4⟩, .ref a, rfl, a, _, 1, .str t.name, rfl, rfl, .of hc, rfl, .ref a, rfl, a, _, 2, .str t.start, rfl, rfl, .of hc, rfl, .ref a, rfl, a, _, 3, .str t.goal, rfl, rfl, .of hc, rfl, .ref a, rfl, a, _, 0, .int t.leaves, rfl, rfl, .of hc, rfl, .ref a, rfl, a, _, 4, .int t.lands, rfl, rfl, .of hc, rfl, .ref a, rfl, a, _, 5, .int t.late, rfl, rfl, .of hc, rfl, .ref a, rfl, a, _, 6, .int t.room, rfl, rfl, .of hc, rfl, .ref a, rfl, a, _, 7, .int t.toll, rfl, rfl, .of hc, rfl, rfl, rfl, fun x dx nx ndx ne => ?_⟩
      have ok : TrOk ks t := ok
      have ns := hK.n _ ok.start
      have ng := hK.n _ ok.goal
      refine ⟨x, dx, t, rfl, upd_same, (isName_iff _).mpr ok.name, (isName_iff _).mpr ns, (isName_iff _).mpr ng, ok.ne, ok.l0, ok.l2, ok.late0, ok.room0, ok.toll0, ⟨ln12 ok.name, ln12 ns, ln12 ng⟩, fun H6 b6 ht => ⟨rfl, ?_⟩⟩
      have S6 : Same H5 H6 := made_but nx ndx b6
      have xL : x ≠ L := fun z => by rw [z, hL4] at nx; cases nx
      have up : ∀ {a t}, TrAt CT H6 a t → a ≠ L → ∀ o, TrAt CT (upd H6 L o) a t := fun {a t} h n o => by
        obtain ⟨dy, e⟩ := h
        exact ⟨dy, by rw [upd_ne n]; exact e⟩
      refine ⟨L, _, .ref x, rfl, rfl, S6 _ _ hL4, by rw [List.length_map]; exact small1000' (by omega), ?_⟩
      refine ⟨tx ++ [(x, t)], _, rfl, fun c o e n => by rw [upd_ne n]; exact S6 _ _ (b4 _ _ e n), by rw [upd_same, List.map_append]; rfl, fun y hy => ?_, by rw [List.map_append, etx, take_snoc ec2, List.map_append]; rfl⟩
      rcases List.mem_append.mp hy with hy | hy
      · exact up ((htx y hy).ext (ext_same S6)) (fun z => by obtain ⟨_, e⟩ := htx y hy; rw [z, hL4] at e; cases e) _
      · rw [List.mem_singleton.mp hy]
        exact up ht xL _
    obtain ⟨tx, y5, rfl, b4, hL4, htx, etx⟩ := hP
    rw [List.length_map, List.take_length] at etx
    have B4 := B3.butL oL b4
    have hD4 := b4 _ _ hD3 DL
    have ss4 : ∀ y ∈ ss, SiAt CS H4 y.1 y.2 := fun y hy => by
      obtain ⟨dy, r1, r2, r3, e⟩ := ss3 y hy
      exact ⟨dy, r1, r2, r3, b4 _ _ e fun z => by rw [z, hL3] at e; cases e⟩
    have T4 := tabs_butL T3 hL3 b4
    have k04 : Kq β H H4 := fun x o e _ n m => b4 _ _ (b3 _ _ (S02 _ _ e) n m) (ne_of_none e L0)
    refine ⟨.ref β.p, rfl, .ref D, rfl, β, D, _, rfl, B4, hD4, NI.refs _ _, by rw [List.length_map]; omega, fun p5 ys H5 np5 hp5 pm5 B5 b5 => ?_⟩
    obtain ⟨sp, psp, ey⟩ := perm_map pm5
    subst ey
    have hL5 : H5 L = some (.lst (tx.map fun y => V.ref y.1)) := b5.off oL hL4
    have T5 := tabs_bq T4 B4 b5
    have ss5 : ∀ y ∈ sp, SiAt CS H5 y.1 y.2 := fun y hy => by
      obtain ⟨dy, r1, r2, r3, e⟩ := ss4 y (psp.mem_iff.mp hy)
      exact ⟨dy, r1, r2, r3, B4.keep b5 e (NI.ins _ _ _)⟩
    have tx5 : ∀ y ∈ tx, TrAt CT H5 y.1 y.2 := fun y hy => by
      obtain ⟨dy, e⟩ := htx y hy
      exact ⟨dy, B4.keep b5 e (NI.ins _ _ _)⟩
    refine ⟨.ref L, rfl, by decide, fun E1 nE => fun x dx nx ndx ne => ?_⟩
    have SE := same_upd (o := .lst []) nE
    have S7 := made_same (C := C) nx ndx ne
    have S57 : Same H5 _ := SE.trans S7
    have etx2 : (tx.map (·.2)).Perm (bs.map (·.2)) := by rw [etx]; exact pc.map (·.2)
    have nmT' : (tx.map fun y => y.2.name).Perm (bs.map fun y => y.2.name) := by
      have := etx2.map Tr.name
      rw [List.map_map, List.map_map] at this
      exact this
    have nmS' : (sp.map fun y => y.2.name).Perm ks := by rw [← en]; exact psp.map fun y => y.2.name
    have mS : ∀ z, z ∈ ks ↔ z ∈ sp.map fun y => y.2.name := fun z => nmS'.mem_iff.symm
    refine ⟨x, dx, p5, L, E1, sp, tx, rfl, upd_same, tabs_same T5 S57, .inl (sqOf (S57 _ _ hp5)), .inl (sqOf (S57 _ _ hL5)), .inl (sqOf (S7 _ _ upd_same)), fun y hy => (ss5 y hy).ext (ext_same S57), fun y hy => (tx5 y hy).ext (ext_same S57), nmS'.nodup_iff.mpr nd, nmT'.nodup_iff.mpr nb, ?_, fun y hy => ?_, by rw [psp.length_eq]; omega, ?_, NT.n1, NT.n2, fun ss' ts' H' pS pT b T' hN' => ⟨rfl, ?_⟩⟩
    · exact (psp.map fun y => y.2.code).nodup_iff.mpr (by rw [ec]; exact num_nd (by omega))
    · have : y.2 ∈ bs.map (·.2) := etx2.mem_iff.mp (List.mem_map.mpr ⟨y, hy, rfl⟩)
      obtain ⟨c, hc, e⟩ := List.mem_map.mp this
      have ok := hok c hc
      rw [← e]
      exact ⟨(mS _).mp ok.start, (mS _).mp ok.goal⟩
    · have := etx2.length_eq
      rw [List.length_map, List.length_map] at this
      omega
    · have E5 : ExtN H5 H' := (ext_same SE).trans (made_ext nx ndx b)
      refine q x ss' ts' H' (B5.ext E5) ((k04.trans b5.kq).ext E5) T' hN' (srt_uniq ((pT.map (·.2)).trans etx2) hN'.srt so) fun z => ?_
      rw [mS]
      exact (pS.map fun y => y.2.name).mem_iff.symm
end
end Tb
namespace HT
open PySem PySem.Spec PyProof.Rows
theorem fm_all {α β : Type} {f : α → Option β} {g : α → β} : ∀ {l : List α}, (∀ k ∈ l, f k = some (g k)) → l.filterMap f = l.map g
  | [], _ => rfl
  | x :: l, h => by rw [List.filterMap_cons, h x List.mem_cons_self, List.map_cons, fm_all fun k hk => h k (List.mem_cons_of_mem _ hk)]
theorem rev_pick (xs : Array Value) : ((List.range xs.size).filterMap fun (k : Nat) => xs[(((xs.size : Int) - 1) + (k : Int) * (-1)).toNat]?).toArray = xs.toList.reverse.toArray := by
  congr 1
  apply List.ext_getElem?
  intro i
  have all : ∀ k ∈ List.range xs.size, (xs[(((xs.size : Int) - 1) + (k : Int) * (-1)).toNat]?) = some (xs.toList.reverse[k]?.getD .none) := fun k hk => by
    have hk := List.mem_range.mp hk
    have e : (((xs.size : Int) - 1) + (k : Int) * (-1)).toNat = xs.size - 1 - k := by omega
    rw [e, List.getElem?_reverse (by rw [Array.length_toList]; exact hk), Array.length_toList, ← Array.getElem?_toList, List.getElem?_eq_getElem (by rw [Array.length_toList]; omega)]
    rfl
  rw [fm_all all, List.getElem?_map]
  by_cases h : i < xs.size
  · rw [List.getElem?_range h]
    show some (xs.toList.reverse[i]?.getD .none) = _
    rw [List.getElem?_eq_getElem (by rw [List.length_reverse, Array.length_toList]; exact h)]
    rfl
  · rw [List.getElem?_eq_none (by rw [List.length_range]; omega), List.getElem?_eq_none (by rw [List.length_reverse, Array.length_toList]; omega)]
    rfl
theorem rev_places (n : Nat) : Builtin.Slice.slicePlaces ((n : Int) - 1) (-1) (-1) = n := by
  unfold Builtin.Slice.slicePlaces
  have h1 : ¬ ((-1 : Int) > 0) := by decide
  by_cases h : (n : Int) - 1 > -1
  · have e : ((n : Int) - 1 - -1 - 1) / (- -1) + 1 = (n : Int) := by
      rw [show (- -1 : Int) = 1 by decide, Int.ediv_one]
      omega
    simp only [h1, if_false, h, if_true, e, Int.toNat_natCast]
  · have e : n = 0 := by omega
    subst e
    simp
section
variable {prog : Program} {w : World} {A : Around} {E : Value → Shared → Prop} {s : Shared}
theorem sliceApplied_rev {sl : Addr} {vs : Value} {n : Nat} {Q : Int × Int × Nat → Shared → Prop} (hs : s.heap.IsSliceOf sl .none .none vs) (ps : IsPart vs (some (-1)))
    (h : Q ((n : Int) - 1, -1, n) s) : wpAny (model prog w) A (Builtin.Slice.sliceApplied (.ref sl) (pure (n : Int))) Q E s := by
  obtain ⟨os, hos, hcs, hds⟩ := id hs
  unfold Builtin.Slice.sliceApplied Builtin.Slice.sliceFields
  refine wpAny_bind (wpAny_bind (wpAny_field hos hds (x := .none) rfl (wpAny_bind (wpAny_field hos hds (x := .none) rfl (wpAny_bind (wpAny_field hos hds (x := vs) rfl (wpAny_pure ?_)))))))
  refine wpAny_bind (slicePart_ ps ?_)
  show wpAny _ _ (if ((-1 : Int) == 0) = true then _ else _) _ _ s
  rw [if_neg (by decide)]
  refine wpAny_bind (slicePart_ .none (wpAny_bind (slicePart_ .none (wpAny_bind (wpAny_pure ?_)))))
  show wpAny _ _ (pure ((n : Int) - 1, (-1 : Int), Builtin.Slice.slicePlaces ((n : Int) - 1) (-1) (-1))) _ _ s
  rw [rev_places]
  exact wpAny_pure h
theorem getItem_tuple_rev {t sl : Addr} {items : Array Value} {vs : Value} {Q : Value → Shared → Prop} (ht : IsTup s.heap t items) (hs : s.heap.IsSliceOf sl .none .none vs) (ps : IsPart vs (some (-1)))
    (h : Q (.ref s.heap.objs.size) { s with heap := s.heap.push { cls := .type "tuple", data := .seq items.toList.reverse.toArray } })
    (hsz : items.size ≤ sizeLine) : wpAny (model prog w) A (getItem (.ref t) (.ref sl)) Q E s := by
  have htake : sizeOk (.seq items.toList.reverse.toArray) := by
    show items.toList.reverse.toArray.size ≤ sizeLine
    rw [List.size_toArray, List.length_reverse, Array.length_toList]
    exact hsz
  obtain ⟨os, hos, hcs, hds⟩ := id hs
  have hTs : s.TypeIs (.ref sl) "slice" := ⟨os, hos, hcs⟩
  unfold getItem
  try with_reducible refine wpAny_holding ?_
  first | refine wpAny_bind (wpAny_pure ?_) | skip
  refine wpAny_bind (wpAny_sequenceKey ht.typeIs (by decide) ?_)
  refine wpAny_bind (wpAny_callSpecial?_slot (name := Str.ofString "__getitem__") ht.typeIs PyProof.Rows.slot_tuple_getitem
    (wpAny_call_entry PyProof.Rows.slot_tuple_getitem ht.typeIs entry_tuple_getitem ?_ (args_tuple_getitem _ _)))
  show wpAny _ _ (Builtin.Tuple.tupleItemsOf (.ref t) >>= _) _ _ s
  refine wpAny_bind (tupleItemsOf_ ht ?_)
  refine wpAny_bind (wpAny_typeOf hTs ?_)
  rw [if_pos (by decide)]
  refine wpAny_bind (sliceApplied_rev hs ps ?_)
  have hno : ¬ ((((items.size : Int) - 1) == 0 && (-1 : Int) == 1 && items.size == items.size) = true) := by
    rw [show ((-1 : Int) == 1) = false from rfl, Bool.and_false, Bool.false_and]
    exact Bool.false_ne_true
  show wpAny _ _ (if (((items.size : Int) - 1) == 0 && (-1 : Int) == 1 && items.size == items.size) = true then _ else _) _ _ s
  rw [if_neg hno, rev_pick]
  first
    | exact wpAny_bind (m := Builtin.Tuple.tupleExact _) (wpAny_newObj_type (wpAny_pure ⟨_, rfl, wpAny_pure h⟩) htake)
    | exact wpAny_bind (m := Builtin.Tuple.tupleExact _) (wpAny_newObj_type (wpAny_bind (wpAny_pure (wpAny_pure ⟨_, rfl, wpAny_pure h⟩))) htake)
    | exact wpAny_bind (wpAny_bind (m := Builtin.Tuple.tupleExact _) (wpAny_newObj_type (wpAny_pure (wpAny_pure ⟨_, rfl, wpAny_pure h⟩)) htake))
    | exact wpAny_bind (wpAny_bind (m := Builtin.Tuple.tupleExact _) (wpAny_newObj_type (wpAny_pure ⟨_, rfl, wpAny_pure h⟩) htake))
end
end HT
namespace L2
open PySem PySem.Spec PyProof.Rows
section
variable {X : Cx} {e : Expr} {te : TE}
/-! ### t[::-1], t a tuple -/
def tRevT (K : PySem.W.Frag) (te : TE) : TE := fun σ H Q => te σ H fun x H1 => ∃ a xs, x = .ref a ∧ SqT K H1 a xs ∧ ∀ p, H1 p = none → Q (.ref p) (upd H1 p (.tup xs.reverse))
theorem pe_revT {k : Nat} {p1 p2 p3 pos : Pos} (he : PE X e te) : PE X (.Subscript e (.Slice none none (some (.UnaryOp .USub (.Constant (.int 1) k p1) p2)) p3) pos) (tRevT X.K te) := by
  refine ⟨fun pins s σ H Q I h => ?_⟩
  refine Subscript_ (thn (he.run pins s σ H _ I h) fun v s1 ⟨x, H1, I1, r1, q1⟩ => ?_)
  obtain ⟨a, xs, ex, hx, q⟩ := q1
  subst ex
  cases r1
  have hst : PO X (some (.UnaryOp .USub (.Constant (.int 1) k p1) p2)) (tPart (tUn (rU fun i => .int (-i)) (tC (.int 1)))) := po_some (pe_un un_neg pe_int)
  refine wpAny_Slice (thn (po_none.run pins s1 σ H1 (fun o H2 => o = none ∧ H2 = H1) I1 ⟨rfl, rfl⟩) fun vl s2 ⟨l, H2, I2, pl, el, e2⟩ => ?_)
  subst el e2
  refine thn (po_none.run pins s2 σ H2 (fun o H3 => o = none ∧ H3 = H2) I2 ⟨rfl, rfl⟩) fun vu s3 ⟨u, H3, I3, pu, eu, e3⟩ => ?_
  subst eu e3
  refine thn (hst.run pins s3 σ H3 (fun o H4 => o = some (-1) ∧ H4 = H3) I3 ⟨1, rfl, -1, rfl, rfl, rfl⟩) fun vs s4 ⟨o, H4, I4, ps, eo, e4⟩ => ?_
  subst eo e4
  cases pl
  cases pu
  have I5 : Inv X pins σ H4 { s4 with heap := s4.heap.push { cls := .type "slice", data := .fields #[.none, .none, vs] } } := I4.kept (t' := s4.toks) fun b ob q => Heap.get?_push_of_some _ q
  obtain ⟨its, r, ht, hz⟩ := I5.tuple hx
  show wpAny (model X.prog X.w) X.A (subscriptTail e (.Slice none none (some (.UnaryOp .USub (.Constant (.int 1) k p1) p2)) p3) (.ref a) (.ref s4.heap.objs.size)) (EP X pins σ Q) X.xe { s4 with heap := s4.heap.push { cls := .type "slice", data := .fields #[.none, .none, vs] } }
  refine tail_any (ops := [.ref a, .ref s4.heap.objs.size]) ht.typeIs PyProof.Rows.slot_tuple_getitem.lookup ?_ (by with_unfolding_all rfl)
  have hlen : its.toArray.size = xs.length := by rw [List.size_toArray]; exact r.length.symm
  refine HT.getItem_tuple_rev ht (Heap.IsSliceOf.new _ .none .none vs) ps ?_ (by rw [hlen]; exact hz)
  refine ⟨.ref _, _, I5.laid (t' := s4.toks) (o := .tup xs.reverse) (fun b ob q => Heap.get?_push_of_some _ q) (Nat.le_refl _) ?_, rfl, q _ (I5.hok.fresh (Nat.le_refl _))⟩
  exact ⟨by rw [List.length_reverse]; exact hz, _, r.reverse, IsTup.new _ _⟩
end
end L2
namespace Tb
open PySem PySem.Spec PyProof.Rows L2
/-! ### ticks that may be none, told by what they are not above -/
abbrev OI := Option Int
def ole (a : OI) (c : Int) : Prop := ∃ v, a = some v ∧ v ≤ c
theorem ole_ext {a b : OI} (h : ∀ c, ole a c ↔ ole b c) : a = b := by
  cases a with
  | none =>
    cases b with
    | none => rfl
    | some y =>
      obtain ⟨v, e, _⟩ := (h y).mpr ⟨y, rfl, Int.le_refl _⟩
      cases e
  | some x =>
    cases b with
    | none =>
      obtain ⟨v, e, _⟩ := (h x).mp ⟨x, rfl, Int.le_refl _⟩
      cases e
    | some y =>
      obtain ⟨v, e, h1⟩ := (h x).mp ⟨x, rfl, Int.le_refl _⟩
      obtain ⟨u, e2, h2⟩ := (h y).mpr ⟨y, rfl, Int.le_refl _⟩
      cases e; cases e2
      rw [show x = y by omega]
theorem ole_some {x c : Int} : ole (some x) c ↔ x ≤ c := ⟨fun ⟨v, e, h⟩ => by cases e; exact h, fun h => ⟨x, rfl, h⟩⟩
theorem ole_none {c : Int} : ¬ ole none c := fun ⟨v, e, _⟩ => by cases e
/-- the less of what was best and what is told -/
def omin : OI → OI → OI
  | b, none => b
  | none, some r => some r
  | some b, some r => if r < b then some r else some b
theorem ole_omin {a b : OI} {c : Int} : ole (omin a b) c ↔ ole a c ∨ ole b c := by
  cases b with
  | none => exact ⟨.inl, fun h => h.elim id fun h => absurd h ole_none⟩
  | some r =>
    cases a with
    | none => exact ⟨.inr, fun h => h.elim (fun h => absurd h ole_none) id⟩
    | some b =>
      show ole (if r < b then some r else some b) c ↔ _
      rw [ole_some, ole_some]
      split <;> rw [ole_some] <;> omega
/-! ### places and their ticks -/
abbrev Mp := Str → OI
def putM (m : Mp) (k : Str) (v : Int) : Mp := fun x => if x = k then some v else m x
theorem putM_eq {m : Mp} {k : Str} {v : Int} : putM m k v k = some v := if_pos rfl
theorem putM_ne {m : Mp} {k x : Str} {v : Int} (h : x ≠ k) : putM m k v x = m x := if_neg h
def one1 (s : Str) (tk : Int) : Mp := putM (fun _ => none) s tk
def goes (m : Mp) (t : Tr) : Bool := match m t.start with
  | some v => decide (v ≤ t.leaves)
  | none => false
def fw (f : Tr → Int) (m : Mp) (t : Tr) : Mp := if goes m t = true then putM m t.goal (if (m t.goal).getD (f t) < f t then (m t.goal).getD (f t) else f t) else m
def arr (f : Tr → Int) (ts : List Tr) (s g : Str) (tk : Int) : OI := (ts.foldl (fw f) (one1 s tk)) g
abbrev land1 (t : Tr) : Int := t.lands
abbrev land2 (t : Tr) : Int := t.lands + t.late
theorem goes_iff {m : Mp} {t : Tr} : goes m t = true ↔ ole (m t.start) t.leaves := by
  unfold goes
  cases e : m t.start with
  | none => exact ⟨fun h => (by cases h), fun h => absurd h ole_none⟩
  | some v => rw [ole_some]; exact decide_eq_true_iff
theorem ole_fw {f : Tr → Int} {m : Mp} {t : Tr} {x : Str} {c : Int} : ole (fw f m t x) c ↔ ole (m x) c ∨ (x = t.goal ∧ ole (m t.start) t.leaves ∧ f t ≤ c) := by
  unfold fw
  by_cases g : goes m t = true
  · rw [if_pos g]
    have g' := goes_iff.mp g
    by_cases e : x = t.goal
    · subst e
      rw [putM_eq, ole_some]
      cases e2 : m t.goal with
      | none =>
        show (if f t < f t then f t else f t) ≤ c ↔ _
        rw [if_neg (Int.lt_irrefl _)]
        exact ⟨fun h => .inr ⟨rfl, g', h⟩, fun h => h.elim (fun h => absurd h ole_none) fun h => h.2.2⟩
      | some u =>
        show (if u < f t then u else f t) ≤ c ↔ _
        rw [ole_some]
        constructor
        · intro h
          by_cases c2 : u < f t
          · rw [if_pos c2] at h; exact .inl h
          · rw [if_neg c2] at h; exact .inr ⟨rfl, g', h⟩
        · rintro (h | ⟨_, _, h⟩) <;> split <;> omega
    · rw [putM_ne e]
      exact ⟨.inl, fun h => h.elim id fun h => absurd h.1 e⟩
  · rw [if_neg g]
    exact ⟨.inl, fun h => h.elim id fun h => absurd (goes_iff.mpr h.2.1) g⟩
theorem ole_one {s x : Str} {tk c : Int} : ole (one1 s tk x) c ↔ x = s ∧ tk ≤ c := by
  unfold one1
  by_cases e : x = s
  · subst e
    rw [putM_eq, ole_some]
    exact ⟨fun h => ⟨rfl, h⟩, fun h => h.2⟩
  · rw [putM_ne e]
    exact ⟨fun h => absurd h ole_none, fun h => absurd h.1 e⟩
/-! ### what a place is worth -/
abbrev Wr := Int × Str × OI
def bst (h : Str) (tk : Int) (b : OI) (r : Wr) : OI := if r.2.1 = h ∧ tk ≤ r.1 then omin b r.2.2 else b
def val (w : List Wr) (h g : Str) (tk : Int) : OI := if h = g then some tk else w.foldl (bst h tk) none
theorem ole_bst {h : Str} {tk c : Int} : ∀ {w : List Wr} {b : OI}, ole (w.foldl (bst h tk) b) c ↔ ole b c ∨ ∃ r ∈ w, r.2.1 = h ∧ tk ≤ r.1 ∧ ole r.2.2 c
  | [], b => ⟨.inl, fun h => h.elim id fun ⟨_, h, _⟩ => by cases h⟩
  | r :: w, b => by
    rw [List.foldl_cons, ole_bst (w := w)]
    unfold bst
    by_cases c1 : r.2.1 = h ∧ tk ≤ r.1
    · rw [if_pos c1, ole_omin]
      constructor
      · rintro ((h | h) | ⟨x, hx, h⟩)
        · exact .inl h
        · exact .inr ⟨r, List.mem_cons_self, c1.1, c1.2, h⟩
        · exact .inr ⟨x, List.mem_cons_of_mem _ hx, h⟩
      · rintro (h | ⟨x, hx, h1, h2, h3⟩)
        · exact .inl (.inl h)
        · rcases List.mem_cons.mp hx with rfl | hx
          · exact .inl (.inr h3)
          · exact .inr ⟨x, hx, h1, h2, h3⟩
    · rw [if_neg c1]
      constructor
      · rintro (h | ⟨x, hx, h⟩)
        · exact .inl h
        · exact .inr ⟨x, List.mem_cons_of_mem _ hx, h⟩
      · rintro (h | ⟨x, hx, h1, h2, h3⟩)
        · exact .inl h
        · rcases List.mem_cons.mp hx with rfl | hx
          · exact absurd ⟨h1, h2⟩ c1
          · exact .inr ⟨x, hx, h1, h2, h3⟩
theorem ole_val {w : List Wr} {h g : Str} {tk c : Int} : ole (val w h g tk) c ↔ (h = g ∧ tk ≤ c) ∨ (h ≠ g ∧ ∃ r ∈ w, r.2.1 = h ∧ tk ≤ r.1 ∧ ole r.2.2 c) := by
  unfold val
  by_cases e : h = g
  · rw [if_pos e, ole_some]
    exact ⟨fun h => .inl ⟨e, h⟩, fun h => h.elim (·.2) fun h => absurd e h.1⟩
  · rw [if_neg e, ole_bst]
    exact ⟨fun h => .inr ⟨e, h.elim (fun h => absurd h ole_none) id⟩, fun h => h.elim (fun h => absurd h.1 e) fun h => .inr h.2⟩
theorem val_mono {w : List Wr} {h g : Str} {a b c : Int} (le : a ≤ b) (H : ole (val w h g b) c) : ole (val w h g a) c := by
  rw [ole_val] at H ⊢
  rcases H with ⟨e, h1⟩ | ⟨e, r, hr, h1, h2, h3⟩
  · exact .inl ⟨e, by omega⟩
  · exact .inr ⟨e, r, hr, h1, by omega, h3⟩
/-- the most of the first k -/
def mo (f : Nat → OI) : Nat → OI
  | 0 => some 0
  | k + 1 => match mo f k, f k with
    | some m, some x => some (if x > m then x else m)
    | _, _ => none
theorem ole_mo {f : Nat → OI} {c : Int} : ∀ {n : Nat}, ole (mo f n) c ↔ 0 ≤ c ∧ ∀ k, k < n → ole (f k) c
  | 0 => by
    show ole (some 0) c ↔ _
    rw [ole_some]
    exact ⟨fun h => ⟨h, fun k hk => absurd hk (Nat.not_lt_zero _)⟩, (·.1)⟩
  | n + 1 => by
    have ih := ole_mo (f := f) (c := c) (n := n)
    have cut : (∀ k, k < n + 1 → ole (f k) c) ↔ (∀ k, k < n → ole (f k) c) ∧ ole (f n) c := ⟨fun h => ⟨fun k hk => h k (by omega), h n (by omega)⟩, fun h k hk => by
      by_cases e : k = n
      · rw [e]; exact h.2
      · exact h.1 k (by omega)⟩
    rw [cut, ← and_assoc, ← ih]
    show ole (match mo f n, f n with
      | some m, some x => some (if x > m then x else m)
      | _, _ => none) c ↔ _
    cases e1 : mo f n with
    | none => exact ⟨fun h => absurd h ole_none, fun h => absurd h.1 ole_none⟩
    | some m =>
      cases e2 : f n with
      | none => exact ⟨fun h => absurd h ole_none, fun h => absurd h.2 ole_none⟩
      | some x =>
        show ole (some (if x > m then x else m)) c ↔ _
        rw [ole_some, ole_some, ole_some]
        split <;> omega
theorem mo_none {f : Nat → OI} {n : Nat} : ∀ {k : Nat}, n < k → f n = none → mo f k = none
  | 0, h, _ => absurd h (Nat.not_lt_zero _)
  | k + 1, h, e => by
    unfold mo
    by_cases c : n = k
    · subst c; rw [e]; cases mo f n <;> rfl
    · rw [mo_none (k := k) (by omega) e]
def most (w : List Wr) (g : Str) (t : Tr) : OI := mo (fun k => val w t.goal g (t.lands + k)) (t.late + 1).toNat
def wor (g : Str) : List Tr → List Wr
  | [] => []
  | t :: ts => wor g ts ++ [(t.leaves, t.start, most (wor g ts) g t)]
/-- trips as they may be -/
structure Tk (t : Tr) : Prop where
  a : 0 ≤ t.leaves
  b : t.leaves < t.lands
  c : 0 ≤ t.late
theorem most_le {w : List Wr} {g : Str} {t : Tr} {c : Int} (T : Tk t) (hw : ole (val w t.goal g (t.lands + t.late)) c → 0 ≤ c) : ole (most w g t) c ↔ ole (val w t.goal g (land2 t)) c := by
  have a := T.a; have b := T.b; have c0 := T.c
  unfold most
  rw [ole_mo]
  constructor
  · rintro ⟨_, h⟩
    have := h t.late.toNat (by omega)
    rw [show t.lands + ((t.late.toNat : Nat) : Int) = land2 t by show _ = t.lands + t.late; omega] at this
    exact this
  · intro h
    exact ⟨hw h, fun k hk => val_mono (by show t.lands + (k : Int) ≤ t.lands + t.late; omega) h⟩
theorem wor_ge {g : Str} : ∀ {ts : List Tr}, (∀ t ∈ ts, Tk t) → ∀ r ∈ wor g ts, ∀ c, ole r.2.2 c → r.1 < c
  | [], _, r, hr, _, _ => by cases hr
  | t :: ts, hT, r, hr, c, h => by
    have ih := wor_ge (g := g) (ts := ts) fun t ht => hT t (List.mem_cons_of_mem _ ht)
    rcases List.mem_append.mp hr with hr | hr
    · exact ih r hr c h
    · rw [List.mem_singleton.mp hr] at h ⊢
      have T := hT t List.mem_cons_self
      have a := T.a; have b := T.b; have c0 := T.c
      have h2 := (ole_mo.mp (show ole (mo _ _) c from h)).2 0 (by omega)
      rw [ole_val] at h2
      show t.leaves < c
      rcases h2 with ⟨_, h2⟩ | ⟨_, x, hx, _, h2, h3⟩
      · have h2 : t.lands + ((0 : Nat) : Int) ≤ c := h2
        omega
      · have := ih x hx c h3
        have h2 : t.lands + ((0 : Nat) : Int) ≤ x.1 := h2
        omega
theorem val_ge {g h : Str} {ts : List Tr} {tk c : Int} (hT : ∀ t ∈ ts, Tk t) (H : ole (val (wor g ts) h g tk) c) : tk ≤ c := by
  rw [ole_val] at H
  rcases H with ⟨_, h1⟩ | ⟨_, r, hr, _, h2, h3⟩
  · exact h1
  · have := wor_ge hT r hr c h3
    omega
theorem val_cons {g h : Str} {t : Tr} {ts : List Tr} {tk c : Int} (hT : ∀ x ∈ t :: ts, Tk x) : ole (val (wor g (t :: ts)) h g tk) c ↔ ole (val (wor g ts) h g tk) c ∨ (h ≠ g ∧ t.start = h ∧ tk ≤ t.leaves ∧ ole (val (wor g ts) t.goal g (land2 t)) c) := by
  have T := hT t List.mem_cons_self
  have hT' : ∀ x ∈ ts, Tk x := fun x hx => hT x (List.mem_cons_of_mem _ hx)
  have a := T.a; have b := T.b; have c0 := T.c
  have ml : ole (most (wor g ts) g t) c ↔ ole (val (wor g ts) t.goal g (land2 t)) c := most_le T fun h => by
    have := val_ge hT' h
    omega
  rw [ole_val, ole_val]
  show _ ∨ (_ ∧ ∃ r ∈ wor g ts ++ [(t.leaves, t.start, most (wor g ts) g t)], _) ↔ _
  constructor
  · rintro (h1 | ⟨h1, r, hr, h2, h3, h4⟩)
    · exact .inl (.inl h1)
    · rcases List.mem_append.mp hr with hr | hr
      · exact .inl (.inr ⟨h1, r, hr, h2, h3, h4⟩)
      · rw [List.mem_singleton.mp hr] at h2 h3 h4
        exact .inr ⟨h1, h2, h3, ml.mp h4⟩
  · rintro ((h1 | ⟨h1, r, hr, h2⟩) | ⟨h1, h2, h3, h4⟩)
    · exact .inl h1
    · exact .inr ⟨h1, r, List.mem_append_left _ hr, h2⟩
    · exact .inr ⟨h1, _, List.mem_append_right _ (List.mem_singleton.mpr rfl), h2, h3, ml.mpr h4⟩
theorem fw_val {g : Str} {c : Int} : ∀ {ts : List Tr}, (∀ t ∈ ts, Tk t) → ∀ (m : Mp), ole ((ts.foldl (fw land2) m) g) c ↔ ∃ s v, m s = some v ∧ ole (val (wor g ts) s g v) c
  | [], _, m => by
    show ole (m g) c ↔ _
    constructor
    · rintro ⟨v, e, h⟩
      exact ⟨g, v, e, ole_val.mpr (.inl ⟨rfl, h⟩)⟩
    · rintro ⟨s, v, e, h⟩
      rcases ole_val.mp h with ⟨e2, h⟩ | ⟨_, r, hr, _⟩
      · rw [← e2]; exact ⟨v, e, h⟩
      · cases hr
  | t :: ts, hT, m => by
    have hT' : ∀ x ∈ ts, Tk x := fun x hx => hT x (List.mem_cons_of_mem _ hx)
    have T := hT t List.mem_cons_self
    have a := T.a; have b := T.b; have c0 := T.c
    rw [List.foldl_cons, fw_val hT']
    have of : ∀ x v, ole (m x) v → ole (fw land2 m t x) v := fun x v h => ole_fw.mpr (.inl h)
    constructor
    · rintro ⟨s, v, e, h⟩
      rcases ole_fw.mp ⟨v, e, Int.le_refl _⟩ with ⟨u, e1, h1⟩ | ⟨e1, ⟨u, e2, h2⟩, h3⟩
      · exact ⟨s, u, e1, (val_cons hT).mpr (.inl (val_mono h1 h))⟩
      · rw [e1] at h
        have h := val_mono (show land2 t ≤ v from h3) h
        by_cases eg : t.start = g
        · refine ⟨t.start, u, e2, ole_val.mpr (.inl ⟨eg, ?_⟩)⟩
          have := val_ge hT' h
          have : t.lands + t.late ≤ c := this
          omega
        · exact ⟨t.start, u, e2, (val_cons hT).mpr (.inr ⟨eg, rfl, h2, h⟩)⟩
    · rintro ⟨s, v, e, h⟩
      rcases (val_cons hT).mp h with h | ⟨_, h2, h3, h4⟩
      · obtain ⟨u, e1, h1⟩ := of s v ⟨v, e, Int.le_refl _⟩
        exact ⟨s, u, e1, val_mono h1 h⟩
      · obtain ⟨u, e1, h1⟩ := (ole_fw (f := land2) (m := m) (t := t) (x := t.goal) (c := land2 t)).mpr (.inr ⟨rfl, ⟨v, by rw [h2]; exact e, h3⟩, Int.le_refl _⟩)
        exact ⟨t.goal, u, e1, val_mono h1 h4⟩
theorem arr_val {ts : List Tr} (hT : ∀ t ∈ ts, Tk t) (s g : Str) (tk : Int) : arr land2 ts s g tk = val (wor g ts) s g tk := ole_ext fun c => by
  unfold arr
  rw [fw_val hT]
  constructor
  · rintro ⟨x, v, e, h⟩
    obtain ⟨e1, h1⟩ := ole_one.mp (⟨v, e, Int.le_refl _⟩ : ole (one1 s tk x) v)
    rw [e1] at h
    exact val_mono h1 h
  · intro h
    exact ⟨s, tk, putM_eq, h⟩
/-! ### the soonest, by the trips that can be taken -/
abbrev Tkn := Str × Int
def way (s : Str) (tk : Int) (tn : List Tkn) (t : Tr) : Bool := (decide (t.start = s) && decide (tk ≤ t.leaves)) || tn.any fun o => decide (o.1 = t.start) && decide (o.2 ≤ t.leaves)
def snS (s g : Str) (tk : Int) (z : OI × List Tkn) (t : Tr) : OI × List Tkn := if way s tk z.2 t = true then (if t.goal = g then omin z.1 (some t.lands) else z.1, z.2 ++ [(t.goal, t.lands)]) else z
def lsoon (ts : List Tr) (s g : Str) (tk : Int) : OI := if s = g then some tk else (ts.foldl (snS s g tk) (none, [])).1
theorem way_iff {s : Str} {tk : Int} {tn : List Tkn} {t : Tr} : way s tk tn t = true ↔ (t.start = s ∧ tk ≤ t.leaves) ∨ ∃ o ∈ tn, o.1 = t.start ∧ o.2 ≤ t.leaves := by
  unfold way
  rw [Bool.or_eq_true, Bool.and_eq_true, decide_eq_true_eq, decide_eq_true_eq, List.any_eq_true]
  constructor
  · rintro (h | ⟨o, ho, h⟩)
    · exact .inl h
    · rw [Bool.and_eq_true, decide_eq_true_eq, decide_eq_true_eq] at h
      exact .inr ⟨o, ho, h⟩
  · rintro (h | ⟨o, ho, h⟩)
    · exact .inl h
    · exact .inr ⟨o, ho, by rw [Bool.and_eq_true, decide_eq_true_eq, decide_eq_true_eq]; exact h⟩
structure Jn (s g : Str) (tk : Int) (m : Mp) (z : OI × List Tkn) : Prop where
  m : ∀ x c, ole (m x) c ↔ (x = s ∧ tk ≤ c) ∨ ∃ o ∈ z.2, o.1 = x ∧ o.2 ≤ c
  b : ∀ c, ole z.1 c ↔ ∃ o ∈ z.2, o.1 = g ∧ o.2 ≤ c
  ge : ∀ o ∈ z.2, tk ≤ o.2
theorem Jn.step {s g : Str} {tk : Int} {m : Mp} {z : OI × List Tkn} {t : Tr} (T : Tk t) (J : Jn s g tk m z) : Jn s g tk (fw land1 m t) (snS s g tk z t) := by
  have wi : way s tk z.2 t = true ↔ ole (m t.start) t.leaves := by rw [way_iff, J.m]
  have a := T.a; have b := T.b; have c0 := T.c
  unfold snS
  by_cases w : way s tk z.2 t = true
  · rw [if_pos w]
    have w' := wi.mp w
    refine ⟨fun x c => ?_, fun c => ?_, fun o ho => ?_⟩
    · rw [ole_fw, J.m]
      constructor
      · rintro ((h | ⟨o, ho, h⟩) | ⟨h1, _, h2⟩)
        · exact .inl h
        · exact .inr ⟨o, List.mem_append_left _ ho, h⟩
        · exact .inr ⟨_, List.mem_append_right _ (List.mem_singleton.mpr rfl), h1.symm, h2⟩
      · rintro (h | ⟨o, ho, h⟩)
        · exact .inl (.inl h)
        · rcases List.mem_append.mp ho with ho | ho
          · exact .inl (.inr ⟨o, ho, h⟩)
          · rw [List.mem_singleton.mp ho] at h
            exact .inr ⟨h.1.symm, w', h.2⟩
    · show ole (if t.goal = g then omin z.1 (some t.lands) else z.1) c ↔ _
      have e : (∃ o ∈ z.2 ++ [(t.goal, t.lands)], o.1 = g ∧ o.2 ≤ c) ↔ (∃ o ∈ z.2, o.1 = g ∧ o.2 ≤ c) ∨ (t.goal = g ∧ t.lands ≤ c) := by
        constructor
        · rintro ⟨o, ho, h⟩
          rcases List.mem_append.mp ho with ho | ho
          · exact .inl ⟨o, ho, h⟩
          · rw [List.mem_singleton.mp ho] at h
            exact .inr h
        · rintro (⟨o, ho, h⟩ | h)
          · exact ⟨o, List.mem_append_left _ ho, h⟩
          · exact ⟨_, List.mem_append_right _ (List.mem_singleton.mpr rfl), h⟩
      show _ ↔ ∃ o ∈ z.2 ++ [(t.goal, t.lands)], _
      rw [e, ← J.b]
      by_cases c1 : t.goal = g
      · rw [if_pos c1, ole_omin, ole_some]
        exact ⟨fun h => h.imp id fun h => ⟨c1, h⟩, fun h => h.imp id fun h => h.2⟩
      · rw [if_neg c1]
        exact ⟨.inl, fun h => h.elim id fun h => absurd h.1 c1⟩
    · rcases List.mem_append.mp ho with ho | ho
      · exact J.ge o ho
      · rw [List.mem_singleton.mp ho]
        show tk ≤ t.lands
        rcases way_iff.mp w with ⟨_, h⟩ | ⟨o, ho, _, h⟩
        · omega
        · have := J.ge o ho; omega
  · rw [if_neg w]
    have w' : ¬ ole (m t.start) t.leaves := fun h => w (wi.mpr h)
    refine ⟨fun x c => ?_, J.b, J.ge⟩
    rw [ole_fw, J.m]
    exact ⟨fun h => h.elim id fun h => absurd h.2.1 w', .inl⟩
theorem Jn.all {s g : Str} {tk : Int} : ∀ {ts : List Tr}, (∀ t ∈ ts, Tk t) → ∀ {m : Mp} {z : OI × List Tkn}, Jn s g tk m z → Jn s g tk (ts.foldl (fw land1) m) (ts.foldl (snS s g tk) z)
  | [], _, _, _, J => J
  | t :: ts, hT, _, _, J => Jn.all (fun x hx => hT x (List.mem_cons_of_mem _ hx)) (J.step (hT t List.mem_cons_self))
theorem arr_soon {ts : List Tr} (hT : ∀ t ∈ ts, Tk t) (s g : Str) (tk : Int) : arr land1 ts s g tk = lsoon ts s g tk := ole_ext fun c => by
  have J : Jn s g tk (one1 s tk) (none, []) := ⟨fun x c => by rw [ole_one]; exact ⟨.inl, fun h => h.elim id fun ⟨_, h, _⟩ => by cases h⟩, fun c => ⟨fun h => absurd h ole_none, fun ⟨_, h, _⟩ => by cases h⟩, nofun⟩
  have J := J.all hT
  unfold arr lsoon
  rw [J.m]
  by_cases e : s = g
  · rw [if_pos e, ole_some]
    constructor
    · rintro (h | ⟨o, ho, _, h⟩)
      · exact h.2
      · have := J.ge o ho; omega
    · intro h; exact .inl ⟨e.symm, h⟩
  · rw [if_neg e, J.b]
    exact ⟨fun h => h.elim (fun h => absurd h.1.symm e) id, .inr⟩
/-! ### the last chance -/
def bk (m : Mp) (t : Tr) : Mp := match m t.goal with
  | some u => if land2 t ≤ u then putM m t.start (if (m t.start).getD 0 > t.leaves then (m t.start).getD 0 else t.leaves) else m
  | none => m
def lc (g : Str) (bd : Int) : List Tr → Mp
  | [] => one1 g bd
  | t :: ts => bk (lc g bd ts) t
theorem bk_cases (m : Mp) (t : Tr) : ((∃ u, m t.goal = some u ∧ land2 t ≤ u) ∧ bk m t = putM m t.start (if (m t.start).getD 0 > t.leaves then (m t.start).getD 0 else t.leaves)) ∨ ((¬ ∃ u, m t.goal = some u ∧ land2 t ≤ u) ∧ bk m t = m) := by
  unfold bk
  cases e : m t.goal with
  | none => exact .inr ⟨fun ⟨_, h, _⟩ => (by cases h), rfl⟩
  | some u =>
    by_cases c : land2 t ≤ u
    · exact .inl ⟨⟨u, rfl, c⟩, if_pos c⟩
    · exact .inr ⟨fun ⟨_, h, h2⟩ => (by cases h; exact c h2), if_neg c⟩
theorem lc_top {g : Str} {bd : Int} : ∀ {ts : List Tr}, (∀ t ∈ ts, Tk t) → lc g bd ts g = some bd ∧ ∀ x u, lc g bd ts x = some u → u ≤ bd ∧ (u = bd ∨ u ∈ ts.map (·.leaves))
  | [], _ => ⟨by unfold lc; exact putM_eq, fun x u e => by
    unfold lc one1 putM at e
    by_cases c : x = g
    · rw [if_pos c] at e
      cases e
      exact ⟨Int.le_refl _, .inl rfl⟩
    · rw [if_neg c] at e; cases e⟩
  | t :: ts, hT => by
    obtain ⟨i1, i2⟩ := lc_top (g := g) (bd := bd) (ts := ts) fun x hx => hT x (List.mem_cons_of_mem _ hx)
    have T := hT t List.mem_cons_self
    have a := T.a; have b := T.b; have c0 := T.c
    have keep : ∀ x u, lc g bd ts x = some u → u ≤ bd ∧ (u = bd ∨ u ∈ (t :: ts).map (·.leaves)) := fun x u e => ⟨(i2 x u e).1, (i2 x u e).2.imp id fun h => List.mem_cons_of_mem _ h⟩
    show bk (lc g bd ts) t g = some bd ∧ ∀ x u, bk (lc g bd ts) t x = some u → _
    rcases bk_cases (lc g bd ts) t with ⟨⟨u, e1, h1⟩, e⟩ | ⟨_, e⟩
    · rw [e]
      have h1 : t.lands + t.late ≤ u := h1
      have ub := (i2 _ u e1).1
      constructor
      · by_cases c : g = t.start
        · rw [← c, putM_eq, i1]
          show some (if bd > t.leaves then bd else t.leaves) = _
          rw [if_pos (by omega)]
        · rw [putM_ne c]; exact i1
      · intro x v ev
        by_cases c : x = t.start
        · rw [c, putM_eq] at ev
          have ev := Option.some.inj ev
          cases e2 : lc g bd ts t.start with
          | none =>
            rw [e2] at ev
            have ev : (if (0 : Int) > t.leaves then 0 else t.leaves) = v := ev
            rw [if_neg (by omega)] at ev
            rw [← ev]
            exact ⟨by omega, .inr List.mem_cons_self⟩
          | some y =>
            rw [e2] at ev
            have ev : (if y > t.leaves then y else t.leaves) = v := ev
            by_cases c2 : y > t.leaves
            · rw [if_pos c2] at ev
              rw [← ev]
              exact keep _ _ e2
            · rw [if_neg c2] at ev
              rw [← ev]
              exact ⟨by omega, .inr List.mem_cons_self⟩
        · rw [putM_ne c] at ev
          exact keep x v ev
    · rw [e]
      exact ⟨i1, keep⟩
theorem lc_iff {g : Str} {bd : Int} : ∀ {ts : List Tr}, (∀ t ∈ ts, Tk t) → ∀ (s : Str) (v : Int), ole (val (wor g ts) s g v) bd ↔ ∃ u, lc g bd ts s = some u ∧ v ≤ u
  | [], _, s, v => by
    rw [ole_val]
    unfold lc one1 putM
    by_cases c : s = g
    · rw [if_pos c]
      exact ⟨fun h => ⟨bd, rfl, h.elim (·.2) fun h => absurd c h.1⟩, fun ⟨u, e, h⟩ => by cases e; exact .inl ⟨c, h⟩⟩
    · rw [if_neg c]
      exact ⟨fun h => h.elim (fun h => absurd h.1 c) fun ⟨_, r, hr, _⟩ => (by cases hr), fun ⟨u, e, h⟩ => by cases e⟩
  | t :: ts, hT, s, v => by
    have hT' : ∀ x ∈ ts, Tk x := fun x hx => hT x (List.mem_cons_of_mem _ hx)
    have ih := lc_iff (g := g) (bd := bd) hT'
    obtain ⟨i1, i2⟩ := lc_top (g := g) (bd := bd) hT'
    have T := hT t List.mem_cons_self
    have a := T.a; have b := T.b; have c0 := T.c
    rw [val_cons hT, ih, ih]
    show _ ↔ ∃ u, bk (lc g bd ts) t s = some u ∧ v ≤ u
    rcases bk_cases (lc g bd ts) t with ⟨⟨w, e1, h1⟩, e⟩ | ⟨no, e⟩
    · rw [e]
      have h1' : t.lands + t.late ≤ w := h1
      have ub := (i2 _ w e1).1
      by_cases c : s = t.start
      · rw [c, putM_eq]
        cases e2 : lc g bd ts t.start with
        | none =>
          have ne : t.start ≠ g := fun z => by rw [z, i1] at e2; cases e2
          constructor
          · rintro (⟨u, z, _⟩ | ⟨_, _, h, _⟩)
            · cases z
            · exact ⟨_, rfl, by show v ≤ (if (0 : Int) > t.leaves then 0 else t.leaves); rw [if_neg (by omega)]; exact h⟩
          · rintro ⟨u, z, h⟩
            have z : (if (0 : Int) > t.leaves then 0 else t.leaves) = u := Option.some.inj z
            rw [if_neg (by omega)] at z
            exact .inr ⟨ne, rfl, by omega, w, e1, h1⟩
        | some y =>
          constructor
          · rintro (⟨u, z, h⟩ | ⟨_, _, h, _⟩)
            · cases z
              exact ⟨_, rfl, by show v ≤ (if y > t.leaves then y else t.leaves); split <;> omega⟩
            · exact ⟨_, rfl, by show v ≤ (if y > t.leaves then y else t.leaves); split <;> omega⟩
          · rintro ⟨u, z, h⟩
            have z : (if y > t.leaves then y else t.leaves) = u := Option.some.inj z
            by_cases c2 : v ≤ y
            · exact .inl ⟨y, rfl, c2⟩
            · have lv : v ≤ t.leaves := by
                rw [← z] at h
                by_cases c3 : y > t.leaves
                · rw [if_pos c3] at h; omega
                · rw [if_neg c3] at h; exact h
              by_cases eg : t.start = g
              · rw [eg, i1] at e2
                cases e2
                omega
              · exact .inr ⟨eg, rfl, lv, w, e1, h1⟩
      · rw [putM_ne c]
        exact ⟨fun h => h.elim id fun h => absurd h.2.1.symm c, .inl⟩
    · rw [e]
      exact ⟨fun h => h.elim id fun h => absurd h.2.2.2 no, .inl⟩
/-- the most of those that p tells yes of -/
def lmx (p : Int → Bool) (b : OI) (x : Int) : OI := if p x = true ∧ (∀ y, b = some y → x > y) then some x else b
theorem lmx_get {p : Int → Bool} : ∀ (cs : List Int) (b : OI), (∀ x, cs.foldl (lmx p) b = some x → b = some x ∨ (x ∈ cs ∧ p x = true)) ∧ (∀ y, b = some y → ∃ x, cs.foldl (lmx p) b = some x ∧ y ≤ x) ∧ ∀ c ∈ cs, p c = true → ∃ x, cs.foldl (lmx p) b = some x ∧ c ≤ x
  | [], b => ⟨fun x e => .inl e, fun y e => ⟨y, e, Int.le_refl _⟩, fun c h => by cases h⟩
  | c :: cs, b => by
    obtain ⟨h1, h2, h3⟩ := lmx_get (p := p) cs (lmx p b c)
    have up : ∀ y, b = some y → ∃ z, lmx p b c = some z ∧ y ≤ z := fun y e => by
      unfold lmx
      by_cases k : p c = true ∧ ∀ y, b = some y → c > y
      · rw [if_pos k]
        exact ⟨c, rfl, by have := k.2 y e; omega⟩
      · rw [if_neg k]; exact ⟨y, e, Int.le_refl _⟩
    have at_ : p c = true → ∃ z, lmx p b c = some z ∧ c ≤ z := fun pc => by
      unfold lmx
      by_cases k : p c = true ∧ ∀ y, b = some y → c > y
      · rw [if_pos k]; exact ⟨c, rfl, Int.le_refl _⟩
      · rw [if_neg k]
        cases eb : b with
        | none => exact absurd ⟨pc, fun y e => by rw [eb] at e; cases e⟩ k
        | some y =>
          refine ⟨y, rfl, Int.not_lt.mp fun h => k ⟨pc, fun y' e => ?_⟩⟩
          rw [eb] at e
          cases e
          exact h
    refine ⟨fun x e => ?_, fun y e => ?_, fun d hd pd => ?_⟩
    · rcases h1 x e with h | ⟨h, px⟩
      · unfold lmx at h
        by_cases k : p c = true ∧ ∀ y, b = some y → c > y
        · rw [if_pos k] at h
          cases h
          exact .inr ⟨List.mem_cons_self, k.1⟩
        · rw [if_neg k] at h
          exact .inl h
      · exact .inr ⟨List.mem_cons_of_mem _ h, px⟩
    · obtain ⟨z, ez, hz⟩ := up y e
      obtain ⟨x, ex, hx⟩ := h2 z ez
      exact ⟨x, ex, by omega⟩
    · rcases List.mem_cons.mp hd with rfl | hd
      · obtain ⟨z, ez, hz⟩ := at_ pd
        obtain ⟨x, ex, hx⟩ := h2 z ez
        exact ⟨x, ex, by omega⟩
      · exact h3 d hd pd
def isB (w : List Wr) (s g : Str) (bd x : Int) : Bool := decide (x ≤ bd) && (match val w s g x with | some v => decide (v ≤ bd) | none => false)
def llast (w : List Wr) (ts : List Tr) (s g : Str) (bd : Int) : OI := ([0, bd] ++ ts.map (·.leaves)).foldl (lmx (isB w s g bd)) none
theorem isB_iff {w : List Wr} {s g : Str} {bd x : Int} : isB w s g bd x = true ↔ x ≤ bd ∧ ole (val w s g x) bd := by
  unfold isB
  rw [Bool.and_eq_true, decide_eq_true_eq]
  cases e : val w s g x with
  | none => exact ⟨fun h => (by cases h.2), fun h => absurd h.2 ole_none⟩
  | some v => rw [ole_some]; exact ⟨fun h => ⟨h.1, of_decide_eq_true h.2⟩, fun h => ⟨h.1, decide_eq_true h.2⟩⟩
theorem lc_last {ts : List Tr} (hT : ∀ t ∈ ts, Tk t) (s g : Str) (bd : Int) : lc g bd ts s = llast (wor g ts) ts s g bd := by
  obtain ⟨h1, _, h3⟩ := lmx_get (p := isB (wor g ts) s g bd) ([0, bd] ++ ts.map (·.leaves)) none
  have pi : ∀ x, isB (wor g ts) s g bd x = true ↔ x ≤ bd ∧ ∃ u, lc g bd ts s = some u ∧ x ≤ u := fun x => by rw [isB_iff, lc_iff hT]
  obtain ⟨_, i2⟩ := lc_top (g := g) (bd := bd) hT
  show _ = ([0, bd] ++ ts.map (·.leaves)).foldl (lmx (isB (wor g ts) s g bd)) none
  cases e : lc g bd ts s with
  | none =>
    cases e2 : ([0, bd] ++ ts.map (·.leaves)).foldl (lmx (isB (wor g ts) s g bd)) none with
    | none => rfl
    | some x =>
      rcases h1 x e2 with z | ⟨_, px⟩
      · cases z
      · obtain ⟨_, u, z, _⟩ := (pi x).mp px
        rw [e] at z; cases z
  | some u =>
    have hu := i2 s u e
    obtain ⟨x, ex, hx⟩ := h3 u (by
      rcases hu.2 with h | h
      · rw [h]; simp
      · exact List.mem_append_right _ h) ((pi u).mpr ⟨hu.1, u, e, Int.le_refl _⟩)
    rcases h1 x ex with z | ⟨_, px⟩
    · cases z
    · obtain ⟨_, u', z, hz⟩ := (pi x).mp px
      rw [e] at z
      cases z
      rw [ex, show x = u by omega]
/-! ### the trips made slow or fast -/
abbrev slowT (t : Tr) : Tr := { t with lands := t.lands + t.late, late := 0 }
abbrev fastT (t : Tr) : Tr := { t with late := 0 }
theorem arr_map {f g : Tr → Int} {h : Tr → Tr} (e : ∀ t, f (h t) = g t) (e1 : ∀ t, (h t).start = t.start) (e2 : ∀ t, (h t).goal = t.goal) (e3 : ∀ t, (h t).leaves = t.leaves) : ∀ (ts : List Tr) (m : Mp), (ts.map h).foldl (fw f) m = ts.foldl (fw g) m
  | [], _ => rfl
  | t :: ts, m => by
    have : fw f m (h t) = fw g m t := by
      unfold fw goes
      rw [e1, e2, e3, e]
    rw [List.map_cons, List.foldl_cons, List.foldl_cons, this]
    exact arr_map e e1 e2 e3 ts _
end Tb
namespace Tb
open PySem PySem.Spec PyProof.Rows L2
open PySem.W (AllAlike Sortable dataLe dataLt TotalLe)
open LamX (Tabs TabS ExtN TabB CodeO)
abbrev sEnds : Stmt := topS 13
abbrev NEnds : List Str := ["network", "start", "goal"]
theorem scEnds : FnScope NEnds ["network", "start", "goal"] (defScope sEnds) := ⟨rfl, rfl, rfl, by decide +kernel, rfl, by decide +kernel, by decide +kernel⟩
abbrev sArr : Stmt := topS 14
abbrev NArr : List Str := ["rides", "start", "goal", "tick", "ticks", "trip", "landing"]
theorem scArr : FnScope NArr ["rides", "start", "goal", "tick"] (defScope sArr) := ⟨rfl, rfl, rfl, by decide +kernel, rfl, by decide +kernel, by decide +kernel⟩
abbrev sSoonest : Stmt := topS 15
abbrev NSoonest : List Str := ["network", "start", "goal", "tick", "trip"]
theorem scSoonest : FnScope NSoonest ["network", "start", "goal", "tick"] (defScope sSoonest) := ⟨rfl, rfl, rfl, by decide +kernel, rfl, by decide +kernel, by decide +kernel⟩
abbrev sSurely : Stmt := topS 16
abbrev NSurely : List Str := ["network", "start", "goal", "tick", "trip"]
theorem scSurely : FnScope NSurely ["network", "start", "goal", "tick"] (defScope sSurely) := ⟨rfl, rfl, rfl, by decide +kernel, rfl, by decide +kernel, by decide +kernel⟩
def oV : OI → V
  | none => .non
  | some x => .int x
theorem oV_get (o : OI) : (match o.map V.int with | some v => v | none => V.non) = oV o := by cases o <;> rfl
section
variable {P : Program} {w : World} {K : PySem.W.Frag} {mg : Str → Option Value} {base : Heap} {C CS CT P1 CI CU fN : Addr} {fdN : FuncData}
/-- the first that is unknown -/
def bad (nm : List Str) (s g z : Str) : Prop := (z = s ∧ s ∉ nm) ∨ (s ∈ nm ∧ z = g ∧ g ∉ nm)
abbrev nmsS (ss : List (Addr × Si)) : List Str := ss.map fun y => y.2.name
def spEnds (C CS CT CU : Addr) : Sp := fun vs H Q E => ∃ (n : Addr) (ss : List (Addr × Si)) (ts : List (Addr × Tr)) (s g : Str), vs = [.ref n, .str s, .str g] ∧ NwAt C CS CT H n ss ts ∧ (s ∈ nmsS ss → g ∈ nmsS ss → Q .non H) ∧ (∀ z, bad (nmsS ss) s g z → ∀ e H', Same H H' → H' e = some (.xd [(wName, .str z)]) → E (.ref CU) (some e) H')
theorem ok_ends {f : Addr} {fd : FuncData} (F : Fun K "_check_ends" "_check_ends" sEnds f fd) (NC : NCls K C) (hS : Meth K C "site" fN) (FS : FnOk P w K mg base (L2.CX P w) 4 fN fdN ["self", "name"] (spNSite C CS CT CU)) (bS : Binds K fdN ["self", "name"] []) :
    FnOk P w K mg base (L2.CX P w) 5 f fd ["network", "start", "goal"] (spEnds C CS CT CU) := by
  refine F.okX scEnds (fun vs H Q E h => ?_) (fun cdv A outer s H vs Q E hr h => ?_)
  · obtain ⟨n, ss, ts, s, g, rfl, _⟩ := h
    rfl
  · obtain ⟨n, ss, ts, s, g, rfl, hN, q, qU⟩ := h
    refine ⟨_, (pss_cons (ps_expr (pe_meth (pv 0) NC.c hS FS (hr.mono (by first | decide | omega)) bS .nil (passes_call (takes_of rfl rfl rfl rfl) fun _ _ _ _ h => h) (pa_cons (pv 1) pa_nil)))
      (pss_one (ps_expr (pe_meth (pv 0) NC.c hS FS (hr.mono (by first | decide | omega)) bS .nil (passes_call (takes_of rfl rfl rfl rfl) fun _ _ _ _ h => h) (pa_cons (pv 2) pa_nil))))), ?_⟩
    obtain ⟨dx, S, T, L, dS, dT, dC, h1, h2, h3, h4, h5, h6⟩ := hN.ex
    refine ⟨.ref n, rfl, n, dx, _, rfl, h1, rfl, .str s, rfl, n, s, ss, ts, rfl, hN, fun y hy ey => ?_, fun nz e H' S' hd' => qU s (.inl ⟨rfl, nz⟩) e H' S' hd'⟩
    have ms : s ∈ nmsS ss := List.mem_map.mpr ⟨y, hy, ey⟩
    refine ⟨.ref n, rfl, n, dx, _, rfl, h1, rfl, .str g, rfl, n, g, ss, ts, rfl, hN, fun y2 hy2 ey2 => ?_, fun nz e H' S' hd' => qU g (.inr ⟨ms, rfl, nz⟩) e H' S' hd'⟩
    exact q ms (List.mem_map.mpr ⟨y2, hy2, ey2⟩)
/-- rides: the trips with a landing each -/
structure RdAt (CT : Addr) (f : Tr → Int) (H : Hp) (l : Addr) (cs : List (Addr × Addr × Tr)) : Prop where
  l : H l = some (.lst (cs.map fun c => V.ref c.1))
  t : ∀ c ∈ cs, H c.1 = some (.tup [.ref c.2.1, .int (f c.2.2)])
  r : ∀ c ∈ cs, TrAt CT H c.2.1 c.2.2
def spArr (CT : Addr) : Sp := fun vs H Q _ => ∃ (l : Addr) (f : Tr → Int) (cs : List (Addr × Addr × Tr)) (s g : Str) (tk : Int), vs = [.ref l, .str s, .str g, .int tk] ∧ RdAt CT f H l cs ∧ cs.length ≤ 200 ∧ ∀ H', Same H H' → Q (oV (arr f (cs.map (·.2.2)) s g tk)) H'
/-- a dict of ticks -/
structure DcAt (H : Hp) (D : Addr) (m : Mp) (n : Nat) : Prop where
  ex : ∃ kvs : Kvs, H D = some (.dK kvs) ∧ (∀ x : Str, valV kvs (Sum.inr x) = (m x).map V.int) ∧ kvs.length ≤ n
theorem DcAt.get {H : Hp} {D : Addr} {m : Mp} {n : Nat} (h : DcAt H D m n) (x : Str) : DGet H D (.str x) ((m x).map V.int) := by
  obtain ⟨kvs, e, hv, _⟩ := h.ex
  rw [← hv]
  exact DGet.k (k := Sum.inr x) e
theorem DcAt.put {H : Hp} {D : Addr} {m : Mp} {n : Nat} {x : Str} {v : Int} (h : DcAt H D m n) (ln : n < 1000) : ∃ H', DPut H D (.str x) (.int v) H' ∧ But D H H' ∧ DcAt H' D (putM m x v) (n + 1) := by
  obtain ⟨kvs, e, hv, hl⟩ := h.ex
  have hz : sizeLine = 16777216 := rfl
  refine ⟨_, DPut.k (k := Sum.inr x) e (by omega), But.upd, ⟨_, upd_same, fun y => ?_, Nat.le_trans (DSub.putK_len _ _ _) (by omega)⟩⟩
  rw [valV_put, hv]
  unfold putM
  by_cases c : y = x
  · rw [if_pos c, if_pos (by rw [c])]; rfl
  · rw [if_neg c, if_neg fun z => c (Sum.inr.inj z)]
theorem DcAt.one {H : Hp} {D : Addr} {s : Str} {tk : Int} : DcAt (upd H D (.dK (mergeK [] [(Sum.inr s, V.int tk)]))) D (one1 s tk) 1 := by
  refine ⟨_, upd_same, fun x => ?_, ?_⟩
  · show valV [(Sum.inr s, V.int tk)] (Sum.inr x) = _
    unfold one1 putM
    by_cases c : x = s
    · rw [if_pos c, c]
      exact valV_pos (p := (Sum.inr s, V.int tk)) rfl
    · rw [if_neg c]
      exact valV_neg (p := (Sum.inr s, V.int tk)) fun z => c (Sum.inr.inj z).symm
  · exact Nat.le_refl 1
theorem getD_mapI (o : OI) (d : Int) : (o.map V.int).getD (.int d) = .int (o.getD d) := by cases o <;> rfl
theorem oV_getD (o : OI) : (o.map V.int).getD .non = oV o := by cases o <;> rfl
theorem DcAt.isD {H : Hp} {D : Addr} {m : Mp} {n : Nat} (h : DcAt H D m n) : IsD H D := by
  obtain ⟨kvs, e, _⟩ := h.ex
  exact .inl ⟨_, .of e⟩
theorem trSame {C : Addr} {H H' : Hp} {a : Addr} {t : Tr} (h : TrAt C H a t) (S : Same H H') : TrAt C H' a t := by
  obtain ⟨dx, e⟩ := h
  exact ⟨dx, S _ _ e⟩
theorem TrAt.but {C : Addr} {H H' : Hp} {a D : Addr} {t : Tr} (h : TrAt C H a t) (S : But D H H') (n : a ≠ D) : TrAt C H' a t := by
  obtain ⟨dx, e⟩ := h
  exact ⟨dx, S _ _ e n⟩
theorem ok_arr {f : Addr} {fd : FuncData} {k : Nat} (F : Fun K "_arrival" "_arrival" sArr f fd) (TC : TCls K CT) (B : Blt mg) : FnOk P w K mg base CX0 (k + 1) f fd ["rides", "start", "goal", "tick"] (spArr CT) := by
  refine F.ok scArr (fun vs H Q E h => ?_) (fun cdv A outer s H vs Q E hr h => ?_)
  · obtain ⟨l, fl, cs, s, g, tk, rfl, _⟩ := h
    rfl
  · obtain ⟨l, fl, cs, s, g, tk, rfl, hR, lc, q⟩ := h
    have hu := Nat.lt_of_le_of_lt (Nat.add_le_add_left (show 1 ≤ 64 by decide) _) hr.units
    refine ⟨_, (pss_cons (ps_set (i := 4) scArr.nd rfl (.inl rfl) (pe_disp (pps_cons (pv 1) (pv 3) pps_nil) (by rfl) (by rfl) (fun z => by cases z) (by decide)))
      (pss_cons (ps_for PassesOwn.never rfl (pi_list (pv 0)) (pg_tup (by rfl) (pgs_cons (pg_name (i := 5) scArr.nd rfl (.inl rfl)) (pgs_cons (pg_name (i := 6) scArr.nd rfl (.inl rfl)) pgs_nil)))
        (pss_one (ps_if (PW.pt (pw_and (pt_cmp (pc_din hu (pe_fld (pv 5) rfl) (pv 4))) (pw_and1 (pt_cmpR op_le (pe_dget hu (pv 4) (pe_fld (pv 5) rfl) (fun _ _ => rfl)) (pe_fld (pv 5) rfl) (nomark _)))))
          (pss_one (ps_dput hu (pv 4) (pe_fld (pv 5) rfl) (pe_callB (call_min2 rfl) (by rfl) B.min (by decide +kernel) (pa_cons (pv 6) (pa_cons (pe_dget2 hu (pv 4) (pe_fld (pv 5) rfl) (pv 6) ⟨rfl, by rfl, rfl, rfl⟩) pa_nil))) (by rfl)))
          pss_nil)))
      (pss_one (ps_ret (pe_dget1 hu (pv 4) (pv 2) ⟨rfl, by rfl, rfl, rfl⟩))))), ?_⟩
    intro D nD
    refine ⟨.str s, rfl, .int tk, rfl, upd_same, [(Sum.inr s, V.int tk)], rfl, by show 1 ≤ 15; decide, ?_⟩
    have d0 : DcAt _ D (one1 s tk) 1 := DcAt.one (H := L2.upd H D (.dK []))
    have S0 : Same H (L2.upd (L2.upd H D (.dK [])) D (.dK (mergeK [] [(Sum.inr s, V.int tk)]))) := fun a o e => by
      rw [upd_ne (ne_of_none e nD), upd_ne (ne_of_none e nD)]; exact e
    generalize L2.upd (L2.upd H D (.dK [])) D (.dK (mergeK [] [(Sum.inr s, V.int tk)])) = H0 at d0 S0
    have key : ∀ H1, Same H H1 → RdAt CT fl H1 l cs := fun H1 S => ⟨S _ _ hR.l, fun c hc => S _ _ (hR.t c hc), fun c hc => trSame (hR.r c hc) S⟩
    refine ⟨.ref l, rfl, l, rfl, ⟨_, sqOf (S0 _ _ hR.l)⟩, ?_⟩
    refine for_list (a := l) (xs := cs.map fun c => V.ref c.1) (fun i σ H1 => ∃ y5 y6, σ = [some (.ref l), some (.str s), some (.str g), some (.int tk), some (.ref D), y5, y6] ∧ Same H H1 ∧ DcAt H1 D (((cs.take i).map (·.2.2)).foldl (fw fl) (one1 s tk)) (i + 1)) ⟨none, none, rfl, S0, d0⟩ (fun i σ H1 _ ⟨_, _, _, S1, _⟩ => sqOf (S1 _ _ hR.l)) (fun i v σ H1 ev hP => ?_) (fun σ H1 hP => ?_)
    · obtain ⟨y5, y6, rfl, S1, dc⟩ := hP
      rw [List.getElem?_map] at ev
      obtain ⟨c, ec, rfl⟩ := Option.map_eq_some_iff.mp ev
      have mc := List.mem_of_getElem? ec
      obtain ⟨r, a, t⟩ := c
      have hc : H1 r = some (.tup [.ref a, .int (fl t)]) := S1 _ _ (hR.t _ mc)
      obtain ⟨dx, ht⟩ : TrAt CT H1 a t := trSame (hR.r _ mc) S1
      have ts : (((cs.take (i + 1)).map (·.2.2)).foldl (fw fl) (one1 s tk)) = fw fl (((cs.take i).map (·.2.2)).foldl (fw fl) (one1 s tk)) t := by
        rw [take_snoc ec, List.map_append, List.foldl_append]; rfl
      rw [ts]
      have hi : i < 200 := by have := (List.getElem?_eq_some_iff.mp ec).1; omega
      generalize ((cs.take i).map (·.2.2)).foldl (fw fl) (one1 s tk) = m at dc
      have hD : a ≠ D := fun z => by
        obtain ⟨kvs, e, _⟩ := dc.ex
        rw [← z, ht] at e
        cases e
      have g1 := dc.get t.start
      have g2 := dc.get t.goal
      refine ⟨r, _, rfl, .of hc, rfl, _, _, rfl, _, _, rfl, rfl, ?_⟩
      refine ⟨.ref a, rfl, a, CT, dx, _, .str t.start, rfl, ht, TC.c, TC.start, rfl, .ref D, rfl, D, _, rfl, g1, _, rfl, ?_⟩
      cases e1 : m t.start with
      | none =>
        have ng : fw fl m t = m := by unfold fw goes; rw [e1]; rfl
        rw [ng]
        exact ⟨_, _, rfl, S1, by obtain ⟨kvs, x, y, z⟩ := dc.ex; exact ⟨kvs, x, y, by omega⟩⟩
      | some u =>
        rw [e1] at g1
        refine ⟨.ref D, rfl, .ref a, rfl, a, CT, dx, _, .str t.start, rfl, ht, TC.c, TC.start, rfl, D, .int u, rfl, g1, .ref a, rfl, a, CT, dx, _, .int t.leaves, rfl, ht, TC.c, TC.leaves, rfl, u, t.leaves, rfl, rfl, _, rfl, ite2 (fun e => ?_) (fun e => ?_)⟩
        · have le : u ≤ t.leaves := of_decide_eq_true e
          have yg : fw fl m t = putM m t.goal (if (m t.goal).getD (fl t) < fl t then (m t.goal).getD (fl t) else fl t) := by
            unfold fw goes; rw [e1]; exact if_pos e
          rw [yg]
          refine ⟨.int (fl t), rfl, .ref D, rfl, D, rfl, dc.isD, .ref a, rfl, a, CT, dx, _, .str t.goal, rfl, ht, TC.c, TC.goal, rfl, .int (fl t), rfl, _, g2, fl t, (m t.goal).getD (fl t), by rw [getD_mapI], ?_⟩
          obtain ⟨H2, p2, b2, d2⟩ := dc.put (x := t.goal) (v := if (m t.goal).getD (fl t) < fl t then (m t.goal).getD (fl t) else fl t) (by omega)
          refine ⟨.ref D, rfl, .ref a, rfl, a, CT, dx, _, .str t.goal, rfl, ht, TC.c, TC.goal, rfl, D, H2, rfl, p2, ?_⟩
          exact ⟨_, _, rfl, fun x o e => b2 x o (S1 x o e) (ne_of_none e nD), d2⟩
        · have ng : fw fl m t = m := by unfold fw goes; rw [e1]; exact if_neg e
          rw [ng]
          exact ⟨_, _, rfl, S1, by obtain ⟨kvs, x, y, z⟩ := dc.ex; exact ⟨kvs, x, y, by omega⟩⟩
    · obtain ⟨y5, y6, rfl, S1, dc⟩ := hP
      rw [List.length_map, List.take_length] at dc
      refine ⟨.ref D, rfl, D, rfl, dc.isD, .str g, rfl, _, dc.get g, ?_⟩
      rw [oV_getD]
      exact q H1 S1
end
end Tb
namespace Tb
open PySem PySem.Spec PyProof.Rows L2
open PySem.W (AllAlike Sortable dataLe dataLt TotalLe)
open LamX (Tabs TabS ExtN TabB CodeO)

/-- a comprehension whose items are fresh tuples -/
theorem lc_new {α : Type} {J : It} {G : Hp → Prop} {Y : Nat → Hp → V → Hp → Prop} {D : Addr} {i : Nat} {cs : List α} {e : α → V} {H1 : Hp} {Qd : Hp → Prop} {σ : L2.St} {te : TE} (g : α → List V) (wk : Walk J cs.length G Y) (hG : ∀ H, Same H1 H → G H) (hY : ∀ i H x H', Y i H x H' → H' = H ∧ (cs.map e)[i]? = some x) (nD : H1 D = none) (hlen : cs.length ≤ 1000)
    (hw : ∀ x, wipe ((wipe σ [i]).set i (some x)) [i] = wipe σ [i])
    (he : ∀ z ∈ cs, ∀ H2, Same H1 H2 → ∀ R : V → Hp → Prop, (∀ T H3, Same H2 H3 → H3 T = some (.tup (g z)) → R (.ref T) H3) → te ((wipe σ [i]).set i (some (e z))) H2 R)
    (hd : ∀ H3 (ps : List (Addr × α)), ps.map (·.2) = cs → Same H1 H3 → H3 D = some (.lst (ps.map fun p => V.ref p.1)) → (∀ p ∈ ps, H3 p.1 = some (.tup (g p.2))) → Qd H3) :
    ∃ W : Nat → Nat → Hp → Prop, (∃ m, W 0 m (upd H1 D (.lst []))) ∧ ∀ n m H, W n m H →
      (J.stop n H ∧ Qd H) ∨ (J.go n H ∧ ∃ Nx : Hp → Prop, (∀ H', Nx H' → ∃ m', m' < m ∧ W (n + 1) m' H') ∧ ∀ x H', J.yld n H x H' → gName i x (wipe σ [i]) H' fun σ2 H2 => wipe σ2 [i] = wipe σ [i] ∧ tYes σ2 H2 fun b H3 =>
        if b = true then te σ2 H3 fun y H4 => ∃ acc, H4 D = some (.lst acc) ∧ acc.length < sizeLine ∧ Nx (upd H4 D (.lst (acc ++ [y]))) else Nx H3) := by
  refine lc_it wk (fun n H3 => Same H1 H3 ∧ ∃ ps : List (Addr × α), ps.map (·.2) = cs.take n ∧ H3 D = some (.lst (ps.map fun p => V.ref p.1)) ∧ ∀ p ∈ ps, H3 p.1 = some (.tup (g p.2))) ⟨same_upd nD, [], rfl, upd_same, nofun⟩ (fun n H3 _ hP => hG H3 hP.1) (fun n v H3 H4 hn hP hy => ?_) (fun H3 hP => ?_)
  · obtain ⟨S3, ps, ep, hD, hps⟩ := hP
    obtain ⟨rfl, ev⟩ := hY _ _ _ _ hy
    rw [List.getElem?_map] at ev
    obtain ⟨z, ez, rfl⟩ := Option.map_eq_some_iff.mp ev
    have mz : z ∈ cs := List.mem_of_getElem? ez
    have lp : ps.length ≤ 1000 := by
      have := congrArg List.length ep
      rw [List.length_map, List.length_take] at this
      omega
    refine ⟨hw _, he z mz _ S3 _ fun T H5 S5 hT => ⟨_, S5 _ _ hD, by rw [List.length_map]; exact small1000 lp, fun b o hb => ?_, ps ++ [(T, z)], ?_, ?_, fun p hp => ?_⟩⟩
    · rw [upd_ne (ne_of_none hb nD)]
      exact S5 _ _ (S3 _ _ hb)
    · rw [List.map_append, ep, take_snoc ez]; rfl
    · rw [upd_same, List.map_append]; rfl
    · have tD : ∀ {x : Addr} {xs : List V}, H5 x = some (.tup xs) → x ≠ D := fun {x xs} h e => by
        rw [e, S5 _ _ hD] at h
        cases h
      rcases List.mem_append.mp hp with hp | hp
      · have := S5 _ _ (hps p hp)
        rw [upd_ne (tD this)]; exact this
      · rw [List.mem_singleton.mp hp, upd_ne (tD hT)]; exact hT
  · obtain ⟨S3, ps, ep, hD, hps⟩ := hP
    rw [List.take_length] at ep
    exact hd H3 ps ep S3 hD hps
section
variable {P : Program} {w : World} {K : PySem.W.Frag} {mg : Str → Option Value} {base : Heap} {C CS CT P1 CI CU fN : Addr} {fdN : FuncData}
abbrev CEnds (P : Program) (w : World) (K : PySem.W.Frag) (mg : Str → Option Value) (base : Heap) (C CS CT CU : Addr) (g : Addr) (gd : FuncData) := C1X P w K mg base "_check_ends" sEnds ["network", "start", "goal"] 5 (spEnds C CS CT CU) g gd
abbrev CArr (P : Program) (w : World) (K : PySem.W.Frag) (mg : Str → Option Value) (base : Heap) (CT : Addr) (g : Addr) (gd : FuncData) := C1 P w K mg base "_arrival" sArr ["rides", "start", "goal", "tick"] 1 (spArr CT) g gd
/-- an answer of a network, or the first unknown place -/
def spAns (C CS CT CU : Addr) (A : List Tr → Str → Str → Int → OI) : Sp := fun vs H Q E => ∃ (n : Addr) (ss : List (Addr × Si)) (ts : List (Addr × Tr)) (s g : Str) (tk : Int), vs = [.ref n, .str s, .str g, .int tk] ∧ NwAt C CS CT H n ss ts ∧ 0 ≤ tk ∧ (∀ t ∈ ts.map (·.2), Tk t) ∧ (s ∈ nmsS ss → g ∈ nmsS ss → ∀ H', Same H H' → Q (oV (A (ts.map (·.2)) s g tk)) H') ∧ (∀ z, bad (nmsS ss) s g z → ∀ e H', Same H H' → H' e = some (.xd [(wName, .str z)]) → E (.ref CU) (some e) H')
theorem ok_soonest {f g1 g2 : Addr} {fd gd1 gd2 : FuncData} (F : Fun K "soonest" "soonest" sSoonest f fd) (NC : NCls K C) (TC : TCls K CT) (cEnds : CEnds P w K mg base C CS CT CU g1 gd1) (cArr : CArr P w K mg base CT g2 gd2) (B : Blt mg) :
    FnOk P w K mg base (L2.CX P w) 6 f fd ["network", "start", "goal", "tick"] (spAns C CS CT CU (arr land1)) := by
  refine F.okX scSoonest (fun vs H Q E h => ?_) (fun cdv A outer s H vs Q E hr h => ?_)
  · obtain ⟨n, ss, ts, s, g, tk, rfl, _⟩ := h
    rfl
  · obtain ⟨n, ss, ts, s, g, tk, rfl, hN, t0, hT, q, qU⟩ := h
    refine ⟨_, (pss_cons (ps_expr (pe_call cEnds.G (hr.mono (by first | decide | omega)) (by rfl) cEnds.D.g cEnds.D.F.kp cEnds.D.b .nil (passes_call (takes_of rfl rfl rfl rfl) fun _ _ _ _ h => h) (pa_cons (pv 0) (pa_cons (pv 1) (pa_cons (pv 2) pa_nil)))))
      (pss_one (ps_ret (pe_call cArr.G (hr.mono (by first | decide | omega)) (by rfl) cArr.D.g cArr.D.F.kp cArr.D.b .nil pass0 (pa_cons (pe_lc (own := [("trip", 4)]) (g := gName 4) (by rfl) scSoonest.nd (pi_tup (pe_fld (pv 0) rfl)) (blkOk_by (N := NSoonest) (sc := defScope sSoonest) (by decide +kernel)) (fun _ _ _ _ _ => pg_name (i := 4) scSoonest.nd rfl (Or.inl rfl)) (fun _ _ _ _ _ => pts_nil) (fun _ _ _ _ _ => pe_tup (pa_cons (pv 4) (pa_cons (pe_fldK (K := K) rfl (pv 4) rfl) pa_nil)))) (pa_cons (pv 1) (pa_cons (pv 2) (pa_cons (pv 3) pa_nil)))))))), ?_⟩
    refine ⟨.ref n, rfl, .str s, rfl, .str g, rfl, n, ss, ts, s, g, rfl, hN, fun m1 m2 => ?_, qU⟩
    obtain ⟨dx, S, T, L, dS, dT, dC, h1, h2, h3, h4, h5, h6⟩ := hN.ex
    have wk := walk_tup (K := K) (a := T) (xs := ts.map fun y => V.ref y.1)
    rw [List.length_map] at wk
    have lt := hN.lt
    refine ⟨.ref n, rfl, n, C, dx, _, .ref T, rfl, h1, NC.c, NC.trips, rfl, T, rfl, ⟨_, .of h3⟩, fun D nD => lc_new (fun y : Addr × Tr => [V.ref y.1, V.int (land1 y.2)]) wk (fun H' S' => .of (S' _ _ h3)) (fun i H' v H'' h => h) nD (by omega) (fun _ => rfl) (fun c hc H3 S3 R hR => ?_) (fun H1 ps ep S1 hD hps => ?_)⟩
    · obtain ⟨dc, ec⟩ := hN.t c hc
      refine ⟨.ref c.1, rfl, .ref c.1, rfl, c.1, CT, dc, _, .int c.2.lands, rfl, S3 _ _ ec, TC.c, TC.lands, rfl, by show 2 ≤ sizeLine; decide, fun U nU => hR U _ (same_upd nU) upd_same⟩
    · have lp : ps.length ≤ 200 := by
        have := congrArg List.length ep
        rw [List.length_map] at this
        omega
      have et : ps.map (·.2.2) = ts.map (·.2) := by rw [← ep, List.map_map]; rfl
      refine ⟨.str s, rfl, .str g, rfl, .int tk, rfl, D, land1, ps, s, g, tk, rfl, ⟨hD, hps, fun c hc => trSame (hN.t c.2 (by rw [← ep]; exact List.mem_map.mpr ⟨c, hc, rfl⟩)) S1⟩, lp, fun H2 S2 => ?_⟩
      rw [et]
      exact q m1 m2 H2 (S1.trans S2)
end
end Tb
namespace Tb
open PySem PySem.Spec PyProof.Rows L2
open PySem.W (AllAlike Sortable dataLe dataLt TotalLe)
open LamX (Tabs TabS ExtN TabB CodeO)
abbrev sLastC : Stmt := topS 17
abbrev NLastC : List Str := ["network", "start", "goal", "by", "ticks", "trip"]
theorem scLastC : FnScope NLastC ["network", "start", "goal", "by"] (defScope sLastC) := ⟨rfl, rfl, rfl, by decide +kernel, rfl, by decide +kernel, by decide +kernel⟩
section
variable {P : Program} {w : World} {K : PySem.W.Frag} {mg : Str → Option Value} {base : Heap} {C CS CT P1 CI CU fN : Addr} {fdN : FuncData}
theorem ok_surely {f g1 g2 g3 : Addr} {fd gd1 gd2 gd3 : FuncData} (F : Fun K "surely" "surely" sSurely f fd) (NC : NCls K C) (TC : TCls K CT) (cEnds : CEnds P w K mg base C CS CT CU g1 gd1) (cArr : CArr P w K mg base CT g2 gd2) (cLatest : CLatest P w K mg base CT g3 gd3) (B : Blt mg) :
    FnOk P w K mg base (L2.CX P w) 6 f fd ["network", "start", "goal", "tick"] (spAns C CS CT CU (arr land2)) := by
  refine F.okX scSurely (fun vs H Q E h => ?_) (fun cdv A outer s H vs Q E hr h => ?_)
  · obtain ⟨n, ss, ts, s, g, tk, rfl, _⟩ := h
    rfl
  · obtain ⟨n, ss, ts, s, g, tk, rfl, hN, t0, hT, q, qU⟩ := h
    refine ⟨_, (pss_cons (ps_expr (pe_call cEnds.G (hr.mono (by first | decide | omega)) (by rfl) cEnds.D.g cEnds.D.F.kp cEnds.D.b .nil (passes_call (takes_of rfl rfl rfl rfl) fun _ _ _ _ h => h) (pa_cons (pv 0) (pa_cons (pv 1) (pa_cons (pv 2) pa_nil)))))
      (pss_one (ps_ret (pe_call cArr.G (hr.mono (by first | decide | omega)) (by rfl) cArr.D.g cArr.D.F.kp cArr.D.b .nil pass0 (pa_cons (pe_lc (own := [("trip", 4)]) (g := gName 4) (by rfl) scSurely.nd (pi_tup (pe_fld (pv 0) rfl)) (blkOk_by (N := NSurely) (sc := defScope sSurely) (by decide +kernel)) (fun _ _ _ _ _ => pg_name (i := 4) scSurely.nd rfl (Or.inl rfl)) (fun _ _ _ _ _ => pts_nil) (fun _ _ _ _ _ => pe_tup (pa_cons (pv 4) (pa_cons (pe_call cLatest.G (hr.mono (by first | decide | omega)) (by rfl) cLatest.D.g cLatest.D.F.kp cLatest.D.b .nil pass0 (pa_cons (pv 4) pa_nil)) pa_nil)))) (pa_cons (pv 1) (pa_cons (pv 2) (pa_cons (pv 3) pa_nil)))))))), ?_⟩
    refine ⟨.ref n, rfl, .str s, rfl, .str g, rfl, n, ss, ts, s, g, rfl, hN, fun m1 m2 => ?_, qU⟩
    obtain ⟨dx, S, T, L, dS, dT, dC, h1, h2, h3, h4, h5, h6⟩ := hN.ex
    have wk := walk_tup (K := K) (a := T) (xs := ts.map fun y => V.ref y.1)
    rw [List.length_map] at wk
    have lt := hN.lt
    refine ⟨.ref n, rfl, n, C, dx, _, .ref T, rfl, h1, NC.c, NC.trips, rfl, T, rfl, ⟨_, .of h3⟩, fun D nD => lc_new (fun y : Addr × Tr => [V.ref y.1, V.int (land2 y.2)]) wk (fun H' S' => .of (S' _ _ h3)) (fun i H' v H'' h => h) nD (by omega) (fun _ => rfl) (fun c hc H3 S3 R hR => ?_) (fun H1 ps ep S1 hD hps => ?_)⟩
    · refine ⟨.ref c.1, rfl, .ref c.1, rfl, c.1, c.2, rfl, trSame (hN.t c hc) S3, by show 2 ≤ sizeLine; decide, fun U nU => hR U _ (same_upd nU) upd_same⟩
    · have lp : ps.length ≤ 200 := by
        have := congrArg List.length ep
        rw [List.length_map] at this
        omega
      have et : ps.map (·.2.2) = ts.map (·.2) := by rw [← ep, List.map_map]; rfl
      refine ⟨.str s, rfl, .str g, rfl, .int tk, rfl, D, land2, ps, s, g, tk, rfl, ⟨hD, hps, fun c hc => trSame (hN.t c.2 (by rw [← ep]; exact List.mem_map.mpr ⟨c, hc, rfl⟩)) S1⟩, lp, fun H2 S2 => ?_⟩
      rw [et]
      exact q m1 m2 H2 (S1.trans S2)
theorem lc_fold {g : Str} {bd : Int} : ∀ ts : List Tr, lc g bd ts = ts.reverse.foldl bk (one1 g bd)
  | [] => rfl
  | t :: ts => by
    rw [List.reverse_cons, List.foldl_append, ← lc_fold ts]; rfl
theorem ok_lastc {f g1 g3 : Addr} {fd gd1 gd3 : FuncData} (F : Fun K "last_chance" "last_chance" sLastC f fd) (NC : NCls K C) (TC : TCls K CT) (cEnds : CEnds P w K mg base C CS CT CU g1 gd1) (cLatest : CLatest P w K mg base CT g3 gd3) (B : Blt mg) :
    FnOk P w K mg base (L2.CX P w) 6 f fd ["network", "start", "goal", "by"] (spAns C CS CT CU (fun ts s g bd => lc g bd ts s)) := by
  refine F.okX scLastC (fun vs H Q E h => ?_) (fun cdv A outer s H vs Q E hr h => ?_)
  · obtain ⟨n, ss, ts, s, g, tk, rfl, _⟩ := h
    rfl
  · obtain ⟨n, ss, ts, s, g, tk, rfl, hN, t0, hT, q, qU⟩ := h
    have hu := Nat.lt_of_le_of_lt (Nat.add_le_add_left (show 1 ≤ 64 by decide) _) hr.units
    refine ⟨_, (pss_cons (ps_expr (pe_call cEnds.G (hr.mono (by first | decide | omega)) (by rfl) cEnds.D.g cEnds.D.F.kp cEnds.D.b .nil (passes_call (takes_of rfl rfl rfl rfl) fun _ _ _ _ h => h) (pa_cons (pv 0) (pa_cons (pv 1) (pa_cons (pv 2) pa_nil)))))
      (pss_cons (ps_if (pt_cmpR op_lt (pv 3) pe_int (nomark _))
        (pss_one (ps_ret pe_non))
        pss_nil)
      (pss_cons (ps_set (i := 4) scLastC.nd rfl (.inl rfl) (pe_disp (pps_cons (pv 2) (pv 3) pps_nil) (by rfl) (by rfl) (fun z => by cases z) (by decide)))
      (pss_cons (ps_for (passes_of rfl) rfl (pi_tup (pe_revT (pe_fld (pv 0) rfl))) (pg_name (i := 5) scLastC.nd rfl (.inl rfl))
        (pss_one (ps_if (PW.pt (pw_and (pt_cmp (pc_din hu (pe_fld (pv 5) rfl) (pv 4))) (pw_and1 (pt_cmpR op_le (pe_call cLatest.G (hr.mono (by first | decide | omega)) (by rfl) cLatest.D.g cLatest.D.F.kp cLatest.D.b .nil pass0 (pa_cons (pv 5) pa_nil)) (pe_dget hu (pv 4) (pe_fld (pv 5) rfl) (fun _ _ => rfl)) (nomark _)))))
          (pss_one (ps_dput hu (pv 4) (pe_fld (pv 5) rfl) (pe_callB (call_max2 rfl) (by rfl) B.max (by decide +kernel) (pa_cons (pe_fld (pv 5) rfl) (pa_cons (pe_dget2 hu (pv 4) (pe_fld (pv 5) rfl) pe_int ⟨rfl, by rfl, rfl, rfl⟩) pa_nil))) (by rfl)))
          pss_nil)))
      (pss_one (ps_ret (pe_dget1 hu (pv 4) (pv 1) ⟨rfl, by rfl, rfl, rfl⟩))))))), ?_⟩
    refine ⟨.ref n, rfl, .str s, rfl, .str g, rfl, n, ss, ts, s, g, rfl, hN, fun m1 m2 => ?_, qU⟩
    refine ⟨.int tk, rfl, _, _, rfl, rfl, _, rfl, ite2 (fun z => absurd (of_decide_eq_true z) (by omega)) (fun _ => ?_)⟩
    intro D nD
    refine ⟨.str g, rfl, .int tk, rfl, upd_same, [(Sum.inr g, V.int tk)], rfl, by show 1 ≤ 15; decide, ?_⟩
    have d0 : DcAt _ D (one1 g tk) 1 := DcAt.one (H := L2.upd H D (.dK []))
    have S0 : Same H (L2.upd (L2.upd H D (.dK [])) D (.dK (mergeK [] [(Sum.inr g, V.int tk)]))) := fun a o e => by
      rw [upd_ne (ne_of_none e nD), upd_ne (ne_of_none e nD)]; exact e
    generalize L2.upd (L2.upd H D (.dK [])) D (.dK (mergeK [] [(Sum.inr g, V.int tk)])) = H0 at d0 S0
    obtain ⟨dx, S, T, L, dS, dT, dC, h1, h2, h3, h4, h5, h6⟩ := hN.ex
    have lt := hN.lt
    refine ⟨.ref n, rfl, n, C, dx, _, .ref T, rfl, S0 _ _ h1, NC.c, NC.trips, rfl, T, _, rfl, .of (S0 _ _ h3), fun R nR => ?_⟩
    have S1 := S0.trans (same_upd (o := .tup (ts.map fun y => V.ref y.1).reverse) nR)
    have hR : L2.upd H0 R (.tup (ts.map fun y => V.ref y.1).reverse) R = some (.tup (ts.reverse.map fun y => V.ref y.1)) := by rw [upd_same, List.map_reverse]
    have RD : R ≠ D := fun z => by obtain ⟨kvs, e, _⟩ := d0.ex; rw [z, e] at nR; cases nR
    have d1 : DcAt (L2.upd H0 R (.tup (ts.map fun y => V.ref y.1).reverse)) D (one1 g tk) 1 := by
      obtain ⟨kvs, x, y, z⟩ := d0.ex
      exact ⟨kvs, by rw [upd_ne (Ne.symm RD)]; exact x, y, z⟩
    generalize L2.upd H0 R (.tup (ts.map fun y => V.ref y.1).reverse) = H1 at S1 hR d1
    refine ⟨R, rfl, ⟨_, .of hR⟩, ?_⟩
    refine for_tup (a := R) (xs := ts.reverse.map fun y => V.ref y.1) (fun i σ H2 => ∃ y5, σ = [some (.ref n), some (.str s), some (.str g), some (.int tk), some (.ref D), y5] ∧ Same H H2 ∧ H2 R = some (.tup (ts.reverse.map fun y => V.ref y.1)) ∧ DcAt H2 D (((ts.reverse.take i).map (·.2)).foldl bk (one1 g tk)) (i + 1)) ⟨none, rfl, S1, hR, d1⟩ (fun i σ H2 _ ⟨_, _, _, hR, _⟩ => .of hR) (fun i v σ H2 ev hP => ?_) (fun σ H2 hP => ?_)
    · obtain ⟨y5, rfl, S2, hR, dc⟩ := hP
      rw [List.getElem?_map] at ev
      obtain ⟨⟨a, t⟩, ec, rfl⟩ := Option.map_eq_some_iff.mp ev
      have mc : (a, t) ∈ ts := List.mem_reverse.mp (List.mem_of_getElem? ec)
      have hi : i < 200 := by have := (List.getElem?_eq_some_iff.mp ec).1; rw [List.length_reverse] at this; omega
      obtain ⟨dy, ht⟩ : TrAt CT H2 a t := trSame (hN.t _ mc) S2
      have tsn : (((ts.reverse.take (i + 1)).map (·.2)).foldl bk (one1 g tk)) = bk (((ts.reverse.take i).map (·.2)).foldl bk (one1 g tk)) t := by
        rw [take_snoc ec, List.map_append, List.foldl_append]; rfl
      rw [tsn]
      generalize ((ts.reverse.take i).map (·.2)).foldl bk (one1 g tk) = m at dc
      have g1 := dc.get t.goal
      have g2 := dc.get t.start
      have stay : DcAt H2 D m (i + 1 + 1) := by obtain ⟨kvs, x, y, z⟩ := dc.ex; exact ⟨kvs, x, y, by omega⟩
      refine ⟨.ref a, rfl, a, CT, dy, _, .str t.goal, rfl, ht, TC.c, TC.goal, rfl, .ref D, rfl, D, _, rfl, g1, _, rfl, ?_⟩
      cases e1 : m t.goal with
      | none =>
        have ng : bk m t = m := by unfold bk; rw [e1]
        rw [ng]
        exact ⟨_, rfl, S2, hR, stay⟩
      | some u =>
        rw [e1] at g1
        refine ⟨.ref a, rfl, a, t, rfl, ⟨dy, ht⟩, .ref D, rfl, .ref a, rfl, a, CT, dy, _, .str t.goal, rfl, ht, TC.c, TC.goal, rfl, D, .int u, rfl, g1, land2 t, u, rfl, rfl, _, rfl, ite2 (fun e => ?_) (fun e => ?_)⟩
        · have yg : bk m t = putM m t.start (if (m t.start).getD 0 > t.leaves then (m t.start).getD 0 else t.leaves) := by
            unfold bk; rw [e1]; exact if_pos (of_decide_eq_true e)
          rw [yg]
          refine ⟨.ref a, rfl, a, CT, dy, _, .int t.leaves, rfl, ht, TC.c, TC.leaves, rfl, .ref D, rfl, D, rfl, dc.isD, .ref a, rfl, a, CT, dy, _, .str t.start, rfl, ht, TC.c, TC.start, rfl, _, g2, t.leaves, (m t.start).getD 0, by rw [getD_mapI], ?_⟩
          obtain ⟨H3, p2, b2, d2⟩ := dc.put (x := t.start) (v := if (m t.start).getD 0 > t.leaves then (m t.start).getD 0 else t.leaves) (by omega)
          refine ⟨.ref D, rfl, .ref a, rfl, a, CT, dy, _, .str t.start, rfl, ht, TC.c, TC.start, rfl, D, H3, rfl, p2, ?_⟩
          exact ⟨_, rfl, fun x o e => b2 x o (S2 x o e) (ne_of_none e nD), b2 _ _ hR RD, d2⟩
        · have ng : bk m t = m := by unfold bk; rw [e1]; exact if_neg fun z => e (decide_eq_true z)
          rw [ng]
          exact ⟨_, rfl, S2, hR, stay⟩
    · obtain ⟨y5, rfl, S2, hR, dc⟩ := hP
      rw [List.length_map, List.take_length, List.map_reverse, ← lc_fold] at dc
      refine ⟨.ref D, rfl, D, rfl, dc.isD, .str s, rfl, _, dc.get s, ?_⟩
      rw [oV_getD]
      exact q m1 m2 H2 S2
end
end Tb
namespace Tb
open PySem PySem.Spec PyProof.Rows L2
open PySem.W (AllAlike Sortable dataLe dataLt TotalLe)
open LamX (Tabs TabS ExtN TabB CodeO)
abbrev sValue : Stmt := topS 45
abbrev NValue : List Str := ["worth", "here", "goal", "tick", "best", "row"]
theorem scValue : FnScope NValue ["worth", "here", "goal", "tick"] (defScope sValue) := ⟨rfl, rfl, rfl, by decide +kernel, rfl, by decide +kernel, by decide +kernel⟩

/-- the rows of what a place is worth -/
abbrev wrV (r : Wr) : List V := [.int r.1, .str r.2.1, oV r.2.2]
structure WrAt (H : Hp) (l : Addr) (cs : List (Addr × Wr)) : Prop where
  l : H l = some (.lst (cs.map fun c => V.ref c.1))
  t : ∀ c ∈ cs, H c.1 = some (.tup (wrV c.2))
theorem WrAt.same {H H' : Hp} {l : Addr} {cs : List (Addr × Wr)} (h : WrAt H l cs) (S : Same H H') : WrAt H' l cs := ⟨S _ _ h.l, fun c hc => S _ _ (h.t c hc)⟩
section
variable {P : Program} {w : World} {K : PySem.W.Frag} {mg : Str → Option Value} {base : Heap} {C CS CT P1 CI CU fN : Addr} {fdN : FuncData}
def spValue : Sp := fun vs H Q _ => ∃ (l : Addr) (cs : List (Addr × Wr)) (h g : Str) (tk : Int), vs = [.ref l, .str h, .str g, .int tk] ∧ WrAt H l cs ∧ Q (oV (val (cs.map (·.2)) h g tk)) H
theorem ok_value {f : Addr} {fd : FuncData} {k : Nat} (F : Fun K "_law_value" "_law_value" sValue f fd) (B : Blt mg) : FnOk P w K mg base CX0 (k + 1) f fd ["worth", "here", "goal", "tick"] spValue := by
  refine F.ok scValue (fun vs H Q E h => ?_) (fun cdv A outer s H vs Q E hr h => ?_)
  · obtain ⟨l, cs, h, g, tk, rfl, _⟩ := h
    rfl
  · obtain ⟨l, cs, h, g, tk, rfl, hW, q⟩ := h
    refine ⟨_, (pss_cons (ps_if (pt_cmpR op_eq (pv 1) (pv 2) (nomark _))
        (pss_one (ps_ret (pv 3)))
        pss_nil)
      (pss_cons (ps_set (i := 4) scValue.nd rfl (.inl rfl) pe_non)
      (pss_cons (ps_for PassesOwn.never rfl (pi_list (pv 0)) (pg_name (i := 5) scValue.nd rfl (.inl rfl))
        (pss_one (ps_if (PW.pt (pw_and (pt_cmpR op_eq (pe_ix ix_tup (pv 5) pe_int (fun _ _ => rfl)) (pv 1) (nomark _)) (pw_and (pt_cmpR op_ge (pe_ix ix_tup (pv 5) pe_int (fun _ _ => rfl)) (pv 3) (nomark _)) (pw_and (pt_cmpR op_notN (pe_ix ix_tup (pv 5) pe_int (fun _ _ => rfl)) pe_non (nomark _)) (pw_and1 (PW.pt (pw_or (pt_cmpR op_isN (pv 4) pe_non (nomark _)) (pw_or1 (pt_cmpR op_lt (pe_ix ix_tup (pv 5) pe_int (fun _ _ => rfl)) (pv 4) (nomark _))))))))))
          (pss_one (ps_set (i := 4) scValue.nd rfl (.inl rfl) (pe_ix ix_tup (pv 5) pe_int (fun _ _ => rfl))))
          pss_nil)))
      (pss_one (ps_ret (pv 4)))))), ?_⟩
    unfold val at q
    refine ⟨.str h, rfl, .str g, rfl, rfl, _, rfl, ?_⟩
    rw [str_dec]
    refine ite2 (fun e => ?_) (fun e => ?_)
    · rw [if_pos (of_decide_eq_true e)] at q
      exact ⟨.int tk, rfl, q⟩
    rw [if_neg fun z => e (decide_eq_true z)] at q
    refine ⟨.ref l, rfl, l, rfl, ⟨_, sqOf hW.l⟩, ?_⟩
    refine for_list (a := l) (xs := cs.map fun c => V.ref c.1) (fun i σ H1 => H1 = H ∧ ∃ y5, σ = [some (.ref l), some (.str h), some (.str g), some (.int tk), some (oV (((cs.take i).map (·.2)).foldl (bst h tk) none)), y5]) ⟨rfl, none, rfl⟩ (fun i σ H1 _ hP => by rw [hP.1]; exact sqOf hW.l) (fun i v σ H1 ev hP => ?_) (fun σ H1 hP => ?_)
    · obtain ⟨rfl, y5, rfl⟩ := hP
      rw [List.getElem?_map] at ev
      obtain ⟨⟨a, lv, st, mo⟩, ec, rfl⟩ := Option.map_eq_some_iff.mp ev
      have hc : H1 a = some (.tup [.int lv, .str st, oV mo]) := hW.t _ (List.mem_of_getElem? ec)
      have tsn : ((cs.take (i + 1)).map (·.2)).foldl (bst h tk) none = bst h tk (((cs.take i).map (·.2)).foldl (bst h tk) none) (lv, st, mo) := by
        rw [take_snoc ec, List.map_append, List.foldl_append]; rfl
      rw [tsn]
      generalize ((cs.take i).map (·.2)).foldl (bst h tk) none = b
      have stay : ∀ {z : Prop}, (¬ z → b = bst h tk b (lv, st, mo)) → ¬ z → ∃ y5, [some (V.ref l), some (.str h), some (.str g), some (.int tk), some (oV b), some (.ref a)] = [some (V.ref l), some (.str h), some (.str g), some (.int tk), some (oV (bst h tk b (lv, st, mo))), y5] := fun {z} hz nz => ⟨_, by rw [← hz nz]⟩
      refine ⟨.ref a, rfl, a, _, 1, .str st, rfl, rfl, .of hc, rfl, .str h, rfl, rfl, _, rfl, ?_⟩
      rw [str_dec]
      refine ite2 (fun e1 => ?_) (fun e1 => ⟨rfl, stay (z := st = h) (fun n => by unfold bst; rw [if_neg fun z => n z.1]) fun z => e1 (decide_eq_true z)⟩)
      refine ⟨.ref a, rfl, a, _, 0, .int lv, rfl, rfl, .of hc, rfl, .int tk, rfl, _, _, rfl, rfl, _, rfl, ite2 (fun e2 => ?_) (fun e2 => ⟨rfl, stay (z := tk ≤ lv) (fun n => by unfold bst; rw [if_neg fun z => n z.2]) fun z => e2 (decide_eq_true z)⟩)⟩
      have bp : bst h tk b (lv, st, mo) = omin b mo := if_pos ⟨of_decide_eq_true e1, of_decide_eq_true e2⟩
      rw [bp]
      refine ⟨.ref a, rfl, a, _, 2, oV mo, rfl, rfl, .of hc, rfl, rfl, _, rfl, ?_⟩
      cases mo with
      | none => exact ⟨rfl, _, rfl⟩
      | some r =>
        have rd : ∃ z, [V.int lv, .str st, oV (some r)][2]? = some z := ⟨_, rfl⟩
        cases b with
        | none =>
          exact ⟨.non, rfl, rfl, _, rfl, .ref a, rfl, a, _, 2, .int r, rfl, rfl, .of hc, rfl, rfl, _, rfl⟩
        | some b =>
          refine ⟨.int b, rfl, rfl, _, rfl, .ref a, rfl, a, _, 2, .int r, rfl, rfl, .of hc, rfl, .int b, rfl, _, _, rfl, rfl, _, rfl, ite2 (fun e3 => ?_) (fun e3 => ?_)⟩
          · have : omin (some b) (some r) = some r := if_pos (of_decide_eq_true e3)
            rw [this]
            exact ⟨.ref a, rfl, a, _, 2, .int r, rfl, rfl, .of hc, rfl, rfl, _, rfl⟩
          · have : omin (some b) (some r) = some b := if_neg fun z => e3 (decide_eq_true z)
            rw [this]
            exact ⟨rfl, _, rfl⟩
    · obtain ⟨rfl, y5, rfl⟩ := hP
      rw [List.length_map, List.take_length]
      exact ⟨_, rfl, q⟩
end
end Tb
namespace Tb
open PySem PySem.Spec PyProof.Rows L2
open PySem.W (AllAlike Sortable dataLe dataLt TotalLe)
open LamX (Tabs TabS ExtN TabB CodeO)
abbrev sWorth : Stmt := topS 46
abbrev NWorth : List Str := ["rides", "goal", "worth", "ride", "most", "extra", "there"]
theorem scWorth : FnScope NWorth ["rides", "goal"] (defScope sWorth) := ⟨rfl, rfl, rfl, by decide +kernel, rfl, by decide +kernel, by decide +kernel⟩
theorem drop_at {α : Type} {xs : List α} {i : Nat} {z : α} (h : xs[i]? = some z) : xs.drop i = z :: xs.drop (i + 1) := by
  obtain ⟨hi, e⟩ := List.getElem?_eq_some_iff.mp h
  rw [← e]
  exact List.drop_eq_getElem_cons hi
section
variable {P : Program} {w : World} {K : PySem.W.Frag} {mg : Str → Option Value} {base : Heap} {C CS CT P1 CI CU fN : Addr} {fdN : FuncData}
abbrev CValue (P : Program) (w : World) (K : PySem.W.Frag) (mg : Str → Option Value) (base : Heap) (g : Addr) (gd : FuncData) := C1 P w K mg base "_law_value" sValue ["worth", "here", "goal", "tick"] 1 spValue g gd
def spWorth : Sp := fun vs H Q _ => ∃ (r : Addr) (bs : List (Addr × Tr)) (g : Str), vs = [.ref r, .str g] ∧ RowsAt H r bs ∧ bs.length ≤ 90 ∧ (∀ b ∈ bs, 0 ≤ b.2.late ∧ b.2.late ≤ 200) ∧ ∀ (d : Addr) (cs : List (Addr × Wr)) (H' : Hp), Same H H' → H d = none → WrAt H' d cs → cs.map (·.2) = wor g (bs.map (·.2)) → Q (.ref d) H'
theorem ok_worth {f g1 : Addr} {fd gd1 : FuncData} (F : Fun K "_law_worth" "_law_worth" sWorth f fd) (cValue : CValue P w K mg base g1 gd1) (B : Blt mg) : FnOk P w K mg base CX0 2 f fd ["rides", "goal"] spWorth := by
  refine F.ok scWorth (fun vs H Q E h => ?_) (fun cdv A outer s H vs Q E hr h => ?_)
  · obtain ⟨r, bs, g, rfl, _⟩ := h
    rfl
  · obtain ⟨r, bs, g, rfl, hR, lb, hla, q⟩ := h
    refine ⟨_, (pss_cons (ps_set (i := 2) scWorth.nd rfl (.inl rfl) (pe_lst pa_nil))
      (pss_cons (ps_for PassesOwn.never rfl (pi_reversed (by rfl) B.rev (pa_cons (pv 0) pa_nil)) (pg_name (i := 3) scWorth.nd rfl (.inl rfl))
        (pss_cons (ps_set (i := 4) scWorth.nd rfl (.inl rfl) pe_int)
        (C8.pss_cut (ps_for PassesOwn.never rfl (pi_range1 (by rfl) B.range (pa_cons (pe_op op_add (pe_ix ix_tup (pv 3) pe_int (fun _ _ => rfl)) pe_int) pa_nil)) (pg_name (i := 5) scWorth.nd rfl (.inl rfl))
          (pss_cons (ps_set (i := 6) scWorth.nd rfl (.inl rfl) (pe_call cValue.G (hr.mono (by first | decide | omega)) (by rfl) cValue.D.g cValue.D.F.kp cValue.D.b .nil pass0 (pa_cons (pv 2) (pa_cons (pe_ix ix_tup (pv 3) pe_int (fun _ _ => rfl)) (pa_cons (pv 1) (pa_cons (pe_op op_add (pe_ix ix_tup (pv 3) pe_int (fun _ _ => rfl)) (pv 5)) pa_nil))))))
          (pss_cons (ps_if (pt_cmpR op_isN (pv 6) pe_non (nomark _))
            (pss_cons (ps_set (i := 4) scWorth.nd rfl (.inl rfl) pe_non)
            (pss_one ps_break))
            pss_nil)
          (pss_one (ps_set (i := 4) scWorth.nd rfl (.inl rfl) (pe_callB (call_max2 rfl) (by rfl) B.max (by decide +kernel) (pa_cons (pv 4) (pa_cons (pv 6) pa_nil))))))))
        (pss_one (ps_expr (pe_bm PySem.F.plainAttrs_list PySem.F.slot_list_append PySem.F.type_list_append mt_append (pv 2) (pa_cons (pe_tup (pa_cons (pe_ix ix_tup (pv 3) pe_int (fun _ _ => rfl)) (pa_cons (pe_ix ix_tup (pv 3) pe_int (fun _ _ => rfl)) (pa_cons (pv 4) pa_nil)))) pa_nil)))))))
      (pss_one (ps_ret (pv 2))))), ?_⟩
    have hz : sizeLine = 16777216 := rfl
    refine ⟨by decide, fun D nD => ?_⟩
    have S0 := same_upd (o := .lst []) nD
    refine ⟨.ref r, rfl, r, _, rfl, sqOf (S0 _ _ hR.l), ?_⟩
    refine for_it (walk_rev (a := r) (xs := bs.map fun b => V.ref b.1)) (fun i σ H1 => ∃ (cs : List (Addr × Wr)) (y3 y4 y5 y6 : Option V), σ = [some (.ref r), some (.str g), some (.ref D), y3, y4, y5, y6] ∧ i ≤ bs.length ∧ Same H H1 ∧ WrAt H1 D cs ∧ cs.map (·.2) = wor g ((bs.drop (bs.length - i)).map (·.2))) ⟨[], none, none, none, none, rfl, Nat.zero_le _, S0, ⟨upd_same, nofun⟩, by rw [Nat.sub_zero, List.drop_length]; rfl⟩ (fun i σ H1 _ ⟨_, _, _, _, _, _, _, S1, _⟩ => sqOf (S1 _ _ hR.l)) (fun i v σ H1 H2 hi hP hy => ?_) (fun σ H1 hP => ?_)
    · obtain ⟨cs, y3, y4, y5, y6, rfl, li, S1, hW, ec⟩ := hP
      obtain ⟨rfl, ev⟩ := hy
      rw [List.length_map] at hi ev
      rw [List.getElem?_map] at ev
      obtain ⟨⟨a, t⟩, eb, rfl⟩ := Option.map_eq_some_iff.mp ev
      have mb : (a, t) ∈ bs := List.mem_of_getElem? eb
      have ha : H2 a = some (.tup (rwT t)) := S1 _ _ (hR.t _ mb)
      obtain ⟨la0, la⟩ : 0 ≤ t.late ∧ t.late ≤ 200 := hla _ mb
      have ed : bs.drop (bs.length - (i + 1)) = (a, t) :: bs.drop (bs.length - i) := by
        rw [show bs.length - (i + 1) = bs.length - 1 - i by omega, drop_at eb, show bs.length - 1 - i + 1 = bs.length - i by omega]
      have tsn : wor g ((bs.drop (bs.length - (i + 1))).map (·.2)) = cs.map (·.2) ++ [(t.leaves, t.start, most (cs.map (·.2)) g t)] := by
        rw [ed, ec]; rfl
      rw [tsn]
      refine ⟨fun σ' H' => ∃ y5 y6, σ' = [some (.ref r), some (.str g), some (.ref D), some (.ref a), some (oV (most (cs.map (·.2)) g t)), y5, y6] ∧ H' = H2, ?_, ?_⟩
      · refine ⟨.ref a, rfl, a, _, 5, .int t.late, rfl, rfl, .of ha, rfl, _, 1, rfl, rfl, _, rfl, by omega, by omega, ?_⟩
        refine for_range (lo := 0) (n := (t.late + 1).toNat) (fun j σ H3 => H3 = H2 ∧ ∃ (m : Int) (y5 y6 : Option V), σ = [some (.ref r), some (.str g), some (.ref D), some (.ref a), some (.int m), y5, y6] ∧ mo (fun k => val (cs.map (·.2)) t.goal g (t.lands + k)) j = some m) ⟨rfl, 0, _, _, rfl, rfl⟩ ?_ ?_
        · rintro j σ H3 hj ⟨rfl, m, y5, y6, rfl, em⟩
          refine ⟨.ref D, rfl, .ref a, rfl, a, _, 3, .str t.goal, rfl, rfl, .of ha, rfl, .str g, rfl, .ref a, rfl, a, _, 4, .int t.lands, rfl, rfl, .of ha, rfl, .int (0 + (j : Int)), rfl, _, _, rfl, rfl, D, cs, t.goal, g, t.lands + (0 + (j : Int)), rfl, hW, ?_⟩
          have ej : t.lands + (0 + (j : Int)) = t.lands + (j : Int) := by omega
          rw [ej]
          cases ev2 : val (cs.map (·.2)) t.goal g (t.lands + (j : Int)) with
          | none =>
            refine ⟨.non, rfl, rfl, _, rfl, ite2 (fun _ => ?_) (fun z => absurd rfl z)⟩
            have : most (cs.map (·.2)) g t = none := mo_none (n := j) hj ev2
            rw [this]
            exact ⟨_, _, rfl, rfl⟩
          | some x =>
            refine ⟨.int x, rfl, rfl, _, rfl, ite2 (fun z => by cases z) (fun _ => ?_)⟩
            refine ⟨.int m, rfl, .int x, rfl, m, x, rfl, ?_⟩
            refine ⟨rfl, _, _, _, rfl, ?_⟩
            show (match mo _ j, val (cs.map (·.2)) t.goal g (t.lands + (j : Int)) with
              | some m, some x => some (if x > m then x else m)
              | _, _ => none) = _
            rw [em, ev2]
        · rintro σ H3 ⟨rfl, m, y5, y6, rfl, em⟩
          have : most (cs.map (·.2)) g t = some m := em
          rw [this]
          exact ⟨_, _, rfl, rfl⟩
      · rintro σ' H' ⟨y5, y6, rfl, rfl⟩
        refine ⟨.ref D, rfl, .inl ⟨rfl, _, sqOf hW.l⟩, .ref a, rfl, a, _, 0, .int t.leaves, rfl, rfl, .of ha, rfl, .ref a, rfl, a, _, 2, .str t.start, rfl, rfl, .of ha, rfl, _, rfl, by show 3 ≤ sizeLine; decide, fun T nT => ?_⟩
        have S2 := same_upd (o := .tup [V.int t.leaves, .str t.start, oV (most (cs.map (·.2)) g t)]) nT
        have hW2 := hW.same S2
        have hT : L2.upd H' T (.tup [V.int t.leaves, .str t.start, oV (most (cs.map (·.2)) g t)]) T = some (.tup [V.int t.leaves, .str t.start, oV (most (cs.map (·.2)) g t)]) := upd_same
        generalize L2.upd H' T (.tup [V.int t.leaves, .str t.start, oV (most (cs.map (·.2)) g t)]) = H4 at S2 hW2 hT
        have lcs : cs.length ≤ 90 := by
          have l1 : ∀ ts : List Tr, (wor g ts).length = ts.length := fun ts => by
            induction ts with
            | nil => rfl
            | cons x xs ih => show (wor g xs ++ _).length = _; rw [List.length_append, ih]; rfl
          have := congrArg List.length ec
          rw [List.length_map, l1, List.length_map, List.length_drop] at this
          omega
        refine ⟨D, _, .ref T, rfl, rfl, hW2.l, by rw [List.length_map]; exact small1000' (by omega), ?_⟩
        have tD : ∀ {x : Addr} {xs : List V}, H4 x = some (.tup xs) → x ≠ D := fun {x xs} h e => by
          rw [e, hW2.l] at h
          cases h
        refine ⟨cs ++ [(T, t.leaves, t.start, most (cs.map (·.2)) g t)], _, _, _, _, rfl, by omega, fun x o e => ?_, ⟨by rw [upd_same, List.map_append]; rfl, fun c hc => ?_⟩, by rw [List.map_append]; rfl⟩
        · rw [upd_ne (ne_of_none e nD)]; exact S2 _ _ (S1 _ _ e)
        · rcases List.mem_append.mp hc with hc | hc
          · have := hW2.t c hc
            rw [upd_ne (tD this)]; exact this
          · rw [List.mem_singleton.mp hc, upd_ne (tD hT)]; exact hT
    · obtain ⟨cs, y3, y4, y5, y6, rfl, li, S1, hW, ec⟩ := hP
      rw [List.length_map, Nat.sub_self, List.drop_zero] at ec
      exact ⟨.ref D, rfl, q D cs H1 S1 nD hW ec⟩
end
end Tb
namespace Tb
open PySem PySem.Spec PyProof.Rows L2
open PySem.W (AllAlike Sortable dataLe dataLt TotalLe)
open LamX (Tabs TabS ExtN TabB CodeO)
abbrev sLSoon : Stmt := topS 47
abbrev NLSoon : List Str := ["rides", "start", "goal", "tick", "best", "taken", "ride", "way", "other"]
theorem scLSoon : FnScope NLSoon ["rides", "start", "goal", "tick"] (defScope sLSoon) := ⟨rfl, rfl, rfl, by decide +kernel, rfl, by decide +kernel, by decide +kernel⟩
structure TkAt (H : Hp) (D : Addr) (ks : List (Addr × Tkn)) : Prop where
  l : H D = some (.lst (ks.map fun c => V.ref c.1))
  t : ∀ c ∈ ks, H c.1 = some (.tup [.str c.2.1, .int c.2.2])
def ow (t : Tr) (o : Tkn) : Bool := decide (o.1 = t.start) && decide (o.2 ≤ t.leaves)
theorem snS_len {s g : Str} {tk : Int} : ∀ (ts : List Tr) (z : OI × List Tkn), (ts.foldl (snS s g tk) z).2.length ≤ z.2.length + ts.length
  | [], _ => Nat.le_refl _
  | t :: ts, z => by
    refine Nat.le_trans (snS_len ts _) ?_
    have : (snS s g tk z t).2.length ≤ z.2.length + 1 := by
      unfold snS
      split
      · show (z.2 ++ _).length ≤ _; rw [List.length_append]; exact Nat.le_refl _
      · omega
    rw [List.length_cons]; omega
section
variable {P : Program} {w : World} {K : PySem.W.Frag} {mg : Str → Option Value} {base : Heap} {C CS CT P1 CI CU fN : Addr} {fdN : FuncData}
def spLSoon : Sp := fun vs H Q _ => ∃ (r : Addr) (bs : List (Addr × Tr)) (s g : Str) (tk : Int), vs = [.ref r, .str s, .str g, .int tk] ∧ RowsAt H r bs ∧ bs.length ≤ 90 ∧ ∀ (H' : Hp), Same H H' → Q (oV (lsoon (bs.map (·.2)) s g tk)) H'
theorem ok_lsoon {f : Addr} {fd : FuncData} {k : Nat} (F : Fun K "_law_soonest" "_law_soonest" sLSoon f fd) (B : Blt mg) : FnOk P w K mg base CX0 (k + 1) f fd ["rides", "start", "goal", "tick"] spLSoon := by
  refine F.ok scLSoon (fun vs H Q E h => ?_) (fun cdv A outer s H vs Q E hr h => ?_)
  · obtain ⟨r, bs, s, g, tk, rfl, _⟩ := h
    rfl
  · obtain ⟨r, bs, s, g, tk, rfl, hR, lb, q⟩ := h
    refine ⟨_, (pss_cons (ps_if (pt_cmpR op_eq (pv 1) (pv 2) (nomark _))
        (pss_one (ps_ret (pv 3)))
        pss_nil)
      (pss_cons (ps_set (i := 4) scLSoon.nd rfl (.inl rfl) pe_non)
      (pss_cons (ps_set (i := 5) scLSoon.nd rfl (.inl rfl) (pe_lst pa_nil))
      (pss_cons (ps_for PassesOwn.never rfl (pi_list (pv 0)) (pg_name (i := 6) scLSoon.nd rfl (.inl rfl))
        (C8.pss_cut (ps_set (i := 7) scLSoon.nd rfl (.inl rfl) (pe_and (pe_cmpR op_eq (pe_ix ix_tup (pv 6) pe_int (fun _ _ => rfl)) (pv 1) (nomark _)) (pe_one (pe_cmpR op_ge (pe_ix ix_tup (pv 6) pe_int (fun _ _ => rfl)) (pv 3) (nomark _)))))
        (C8.pss_cut (ps_for PassesOwn.never rfl (pi_list (pv 5)) (pg_name (i := 8) scLSoon.nd rfl (.inl rfl))
          (pss_one (ps_if (PW.pt (pw_and (pt_cmpR op_eq (pe_ix ix_tup (pv 8) pe_int (fun _ _ => rfl)) (pe_ix ix_tup (pv 6) pe_int (fun _ _ => rfl)) (nomark _)) (pw_and1 (pt_cmpR op_le (pe_ix ix_tup (pv 8) pe_int (fun _ _ => rfl)) (pe_ix ix_tup (pv 6) pe_int (fun _ _ => rfl)) (nomark _)))))
            (pss_one (ps_set (i := 7) scLSoon.nd rfl (.inl rfl) pe_bl))
            pss_nil)))
        (pss_one (ps_if (pt_val (pv 7))
          (pss_cons (ps_expr (pe_bm PySem.F.plainAttrs_list PySem.F.slot_list_append PySem.F.type_list_append mt_append (pv 5) (pa_cons (pe_tup (pa_cons (pe_ix ix_tup (pv 6) pe_int (fun _ _ => rfl)) (pa_cons (pe_ix ix_tup (pv 6) pe_int (fun _ _ => rfl)) pa_nil))) pa_nil)))
          (pss_one (ps_if (PW.pt (pw_and (pt_cmpR op_eq (pe_ix ix_tup (pv 6) pe_int (fun _ _ => rfl)) (pv 2) (nomark _)) (pw_and1 (PW.pt (pw_or (pt_cmpR op_isN (pv 4) pe_non (nomark _)) (pw_or1 (pt_cmpR op_lt (pe_ix ix_tup (pv 6) pe_int (fun _ _ => rfl)) (pv 4) (nomark _))))))))
            (pss_one (ps_set (i := 4) scLSoon.nd rfl (.inl rfl) (pe_ix ix_tup (pv 6) pe_int (fun _ _ => rfl))))
            pss_nil)))
          pss_nil)))))
      (pss_one (ps_ret (pv 4))))))), ?_⟩
    have hz : sizeLine = 16777216 := rfl
    unfold lsoon at q
    refine ⟨.str s, rfl, .str g, rfl, rfl, _, rfl, ?_⟩
    rw [str_dec]
    refine ite2 (fun e => ?_) (fun e => ?_)
    · rw [if_pos (of_decide_eq_true e)] at q
      exact ⟨.int tk, rfl, q H (Same.refl _)⟩
    rw [if_neg fun z => e (decide_eq_true z)] at q
    refine ⟨by decide, fun D nD => ?_⟩
    have S0 := same_upd (o := .lst []) nD
    refine ⟨.ref r, rfl, r, rfl, ⟨_, sqOf (S0 _ _ hR.l)⟩, ?_⟩
    refine for_list (a := r) (xs := bs.map fun b => V.ref b.1) (fun i σ H1 => ∃ (ks : List (Addr × Tkn)) (y6 y7 y8 : Option V), σ = [some (.ref r), some (.str s), some (.str g), some (.int tk), some (oV (((bs.take i).map (·.2)).foldl (snS s g tk) (none, [])).1), some (.ref D), y6, y7, y8] ∧ Same H H1 ∧ TkAt H1 D ks ∧ ks.map (·.2) = (((bs.take i).map (·.2)).foldl (snS s g tk) (none, [])).2) ⟨[], none, none, none, rfl, S0, ⟨upd_same, nofun⟩, rfl⟩ (fun i σ H1 _ ⟨_, _, _, _, _, S1, _⟩ => sqOf (S1 _ _ hR.l)) (fun i v σ H1 ev hP => ?_) (fun σ H1 hP => ?_)
    · obtain ⟨ks, y6, y7, y8, rfl, S1, hK, ek⟩ := hP
      rw [List.getElem?_map] at ev
      obtain ⟨⟨a, t⟩, eb, rfl⟩ := Option.map_eq_some_iff.mp ev
      have mb : (a, t) ∈ bs := List.mem_of_getElem? eb
      have ha : H1 a = some (.tup (rwT t)) := S1 _ _ (hR.t _ mb)
      have tsn : ((bs.take (i + 1)).map (·.2)).foldl (snS s g tk) (none, []) = snS s g tk (((bs.take i).map (·.2)).foldl (snS s g tk) (none, [])) t := by
        rw [take_snoc eb, List.map_append, List.foldl_append]; rfl
      have lz := snS_len (s := s) (g := g) (tk := tk) ((bs.take i).map (·.2)) (none, [])
      rw [tsn]
      generalize ((bs.take i).map (·.2)).foldl (snS s g tk) (none, []) = z at ek lz
      have lk : ks.length ≤ 90 := by
        have := congrArg List.length ek
        rw [List.length_map] at this
        rw [List.length_map, List.length_take, List.length_nil] at lz
        omega
      obtain ⟨bz, tn⟩ := z
      obtain rfl : ks.map (·.2) = tn := ek
      refine ⟨fun σ' H' => σ' = [some (.ref r), some (.str s), some (.str g), some (.int tk), some (oV bz), some (.ref D), some (.ref a), some (.bl (decide (t.start = s) && decide (tk ≤ t.leaves))), y8] ∧ H' = H1, ?_, ?_⟩
      · refine ⟨.ref a, rfl, a, _, 2, .str t.start, rfl, rfl, .of ha, rfl, .str s, rfl, rfl, _, rfl, ?_⟩
        rw [str_dec]
        refine ite2 (fun e => ?_) (fun e => ?_)
        · rw [e, Bool.true_and]
          exact ⟨.ref a, rfl, a, _, 0, .int t.leaves, rfl, rfl, .of ha, rfl, .int tk, rfl, _, _, rfl, rfl, rfl, rfl⟩
        · rw [Bool.eq_false_iff.mpr e, Bool.false_and]
          exact ⟨rfl, rfl⟩
      rintro σ' H' ⟨rfl, rfl⟩
      refine ⟨fun σ' H2 => (∃ y8, σ' = [some (.ref r), some (.str s), some (.str g), some (.int tk), some (oV bz), some (.ref D), some (.ref a), some (.bl (way s tk (ks.map (·.2)) t)), y8]) ∧ H2 = H', ?_, ?_⟩
      · refine ⟨.ref D, rfl, D, rfl, ⟨_, sqOf hK.l⟩, ?_⟩
        refine for_list (a := D) (xs := ks.map fun c => V.ref c.1) (fun j σ H2 => (∃ y8, σ = [some (.ref r), some (.str s), some (.str g), some (.int tk), some (oV bz), some (.ref D), some (.ref a), some (.bl ((decide (t.start = s) && decide (tk ≤ t.leaves)) || ((ks.take j).map (·.2)).any (ow t))), y8]) ∧ H2 = H') ⟨⟨y8, by rw [List.take_zero]; show _ = [_, _, _, _, _, _, _, some (V.bl (_ || false)), _]; rw [Bool.or_false]⟩, rfl⟩ (fun j σ H2 _ hP => by rw [hP.2]; exact sqOf hK.l) (fun j v σ H2 ev hP => ?_) (fun σ H2 hP => ?_)
        · obtain ⟨⟨y8, rfl⟩, rfl⟩ := hP
          rw [List.getElem?_map] at ev
          obtain ⟨⟨b, op, ol⟩, eo, rfl⟩ := Option.map_eq_some_iff.mp ev
          have hb : H2 b = some (.tup [.str op, .int ol]) := hK.t _ (List.mem_of_getElem? eo)
          have tan : ((ks.take (j + 1)).map (·.2)).any (ow t) = (((ks.take j).map (·.2)).any (ow t) || ow t (op, ol)) := by
            rw [take_snoc eo, List.map_append, List.any_append]
            show (_ || (ow t (op, ol) || false)) = _
            rw [Bool.or_false]
          rw [tan, ← Bool.or_assoc]
          generalize ((decide (t.start = s) && decide (tk ≤ t.leaves)) || ((ks.take j).map (·.2)).any (ow t)) = w0
          have hno : ow t (op, ol) = false → ∃ y8, [some (V.ref r), some (.str s), some (.str g), some (.int tk), some (oV bz), some (.ref D), some (.ref a), some (.bl w0), some (.ref b)] = [some (V.ref r), some (.str s), some (.str g), some (.int tk), some (oV bz), some (.ref D), some (.ref a), some (.bl (w0 || ow t (op, ol))), y8] := fun e => ⟨_, by rw [e, Bool.or_false]⟩
          refine ⟨.ref b, rfl, b, _, 0, .str op, rfl, rfl, .of hb, rfl, .ref a, rfl, a, _, 2, .str t.start, rfl, rfl, .of ha, rfl, rfl, _, rfl, ?_⟩
          rw [str_dec]
          refine ite2 (fun e1 => ?_) (fun e1 => ⟨hno (by unfold ow; rw [Bool.eq_false_iff.mpr e1, Bool.false_and]), rfl⟩)
          refine ⟨.ref b, rfl, b, _, 1, .int ol, rfl, rfl, .of hb, rfl, .ref a, rfl, a, _, 0, .int t.leaves, rfl, rfl, .of ha, rfl, _, _, rfl, rfl, _, rfl, ite2 (fun e2 => ?_) (fun e2 => ⟨hno (by unfold ow; rw [Bool.eq_false_iff.mpr e2, Bool.and_false]), rfl⟩)⟩
          have yes : ow t (op, ol) = true := by unfold ow; rw [e1, e2]; rfl
          rw [yes, Bool.or_true]
          exact ⟨⟨_, rfl⟩, rfl⟩
        · obtain ⟨⟨y8, rfl⟩, rfl⟩ := hP
          rw [List.length_map, List.take_length]
          exact ⟨⟨_, rfl⟩, rfl⟩
      rintro σ' H2 ⟨⟨y8, rfl⟩, rfl⟩
      refine ⟨_, rfl, _, rfl, ?_⟩
      by_cases w : way s tk (ks.map (·.2)) t = true
      · rw [w]
        have sn : snS s g tk (bz, ks.map (·.2)) t = (if t.goal = g then omin bz (some t.lands) else bz, ks.map (·.2) ++ [(t.goal, t.lands)]) := if_pos w
        rw [sn]
        refine ite2 (fun _ => ?_) (fun z => absurd rfl z)
        refine ⟨.ref D, rfl, .inl ⟨rfl, _, sqOf hK.l⟩, .ref a, rfl, a, _, 3, .str t.goal, rfl, rfl, .of ha, rfl, .ref a, rfl, a, _, 4, .int t.lands, rfl, rfl, .of ha, rfl, by show 2 ≤ sizeLine; decide, fun T nT => ?_⟩
        have S2 := same_upd (o := .tup [V.str t.goal, .int t.lands]) nT
        have hT : L2.upd H2 T (.tup [V.str t.goal, .int t.lands]) T = some (.tup [V.str t.goal, .int t.lands]) := upd_same
        have hD2 := S2 _ _ hK.l
        have ha2 := S2 _ _ ha
        have hk2 : ∀ c ∈ ks, L2.upd H2 T (.tup [V.str t.goal, .int t.lands]) c.1 = some (.tup [.str c.2.1, .int c.2.2]) := fun c hc => S2 _ _ (hK.t c hc)
        generalize L2.upd H2 T (.tup [V.str t.goal, .int t.lands]) = H4 at S2 hT hD2 ha2 hk2
        refine ⟨D, _, .ref T, rfl, rfl, hD2, by rw [List.length_map]; exact small1000' (by omega), ?_⟩
        have tD : ∀ {x : Addr} {xs : List V}, H4 x = some (.tup xs) → x ≠ D := fun {x xs} h e => by
          rw [e, hD2] at h
          cases h
        have hK3 : TkAt (L2.upd H4 D (.lst ((ks.map fun c => V.ref c.1) ++ [.ref T]))) D (ks ++ [(T, t.goal, t.lands)]) := ⟨by rw [upd_same, List.map_append]; rfl, fun c hc => by
          rcases List.mem_append.mp hc with hc | hc
          · have := hk2 c hc
            rw [upd_ne (tD this)]; exact this
          · rw [List.mem_singleton.mp hc, upd_ne (tD hT)]; exact hT⟩
        have S3 : Same H (L2.upd H4 D (.lst ((ks.map fun c => V.ref c.1) ++ [.ref T]))) := fun x o e => by
          rw [upd_ne (ne_of_none e nD)]; exact S2 _ _ (S1 _ _ e)
        have ha3 : L2.upd H4 D (.lst ((ks.map fun c => V.ref c.1) ++ [.ref T])) a = some (.tup (rwT t)) := by rw [upd_ne (tD ha2)]; exact ha2
        generalize L2.upd H4 D (.lst ((ks.map fun c => V.ref c.1) ++ [.ref T])) = H5 at hK3 S3 ha3
        have fin : ∀ b', b' = (if t.goal = g then omin bz (some t.lands) else bz) → ∃ (ks' : List (Addr × Tkn)) (y6 y7 y8' : Option V), [some (V.ref r), some (.str s), some (.str g), some (.int tk), some (oV b'), some (.ref D), some (.ref a), some (.bl true), y8] = [some (V.ref r), some (.str s), some (.str g), some (.int tk), some (oV (if t.goal = g then omin bz (some t.lands) else bz)), some (.ref D), y6, y7, y8'] ∧ Same H H5 ∧ TkAt H5 D ks' ∧ ks'.map (·.2) = ks.map (·.2) ++ [(t.goal, t.lands)] := fun b' e => ⟨ks ++ [(T, t.goal, t.lands)], some (.ref a), some (.bl true), y8, by rw [e], S3, hK3, by rw [List.map_append]; rfl⟩
        refine ⟨.ref a, rfl, a, _, 3, .str t.goal, rfl, rfl, .of ha3, rfl, .str g, rfl, rfl, _, rfl, ?_⟩
        rw [str_dec]
        refine ite2 (fun e1 => ?_) (fun e1 => fin bz (if_neg fun z => e1 (decide_eq_true z)).symm)
        have e1 := of_decide_eq_true e1
        rw [if_pos e1] at fin ⊢
        cases bz with
        | none => exact ⟨.non, rfl, rfl, _, rfl, .ref a, rfl, a, _, 4, .int t.lands, rfl, rfl, .of ha3, rfl, fin (some t.lands) rfl⟩
        | some b =>
          refine ⟨.int b, rfl, rfl, _, rfl, .ref a, rfl, a, _, 4, .int t.lands, rfl, rfl, .of ha3, rfl, .int b, rfl, _, _, rfl, rfl, _, rfl, ite2 (fun e3 => ?_) (fun e3 => ?_)⟩
          · exact ⟨.ref a, rfl, a, _, 4, .int t.lands, rfl, rfl, .of ha3, rfl, fin (some t.lands) (if_pos (of_decide_eq_true e3)).symm⟩
          · exact fin (some b) (if_neg fun z => e3 (decide_eq_true z)).symm
      · have sn : snS s g tk (bz, ks.map (·.2)) t = (bz, ks.map (·.2)) := if_neg w
        rw [sn, Bool.eq_false_iff.mpr w]
        exact ite2 (fun z => by cases z) fun _ => ⟨ks, _, _, _, rfl, S1, hK, rfl⟩
    · obtain ⟨ks, y6, y7, y8, rfl, S1, hK, ek⟩ := hP
      rw [List.length_map, List.take_length]
      exact ⟨_, rfl, q H1 S1⟩
end
end Tb
namespace Tb
open PySem PySem.Spec PyProof.Rows L2
open PySem.W (AllAlike Sortable dataLe dataLt TotalLe)
open LamX (Tabs TabS ExtN TabB CodeO)
abbrev sLLast : Stmt := topS 48
abbrev NLLast : List Str := ["worth", "rides", "start", "goal", "by", "best", "tick", "sure", "ride"]
theorem scLLast : FnScope NLLast ["worth", "rides", "start", "goal", "by"] (defScope sLLast) := ⟨rfl, rfl, rfl, by decide +kernel, rfl, by decide +kernel, by decide +kernel⟩


theorem leaves_l {bs : List (Addr × Tr)} : (bs.map fun b => V.int b.2.leaves) = ((bs.map (·.2)).map (·.leaves)).map V.int := by rw [List.map_map, List.map_map]; rfl
section
variable {P : Program} {w : World} {K : PySem.W.Frag} {mg : Str → Option Value} {base : Heap} {C CS CT P1 CI CU fN : Addr} {fdN : FuncData}
def spLLast : Sp := fun vs H Q _ => ∃ (l r : Addr) (cs : List (Addr × Wr)) (bs : List (Addr × Tr)) (s g : Str) (bd : Int), vs = [.ref l, .ref r, .str s, .str g, .int bd] ∧ WrAt H l cs ∧ RowsAt H r bs ∧ bs.length ≤ 90 ∧ ∀ (H' : Hp), Same H H' → Q (oV (llast (cs.map (·.2)) (bs.map (·.2)) s g bd)) H'
theorem ok_llast {f g1 : Addr} {fd gd1 : FuncData} (F : Fun K "_law_last" "_law_last" sLLast f fd) (cValue : CValue P w K mg base g1 gd1) (B : Blt mg) : FnOk P w K mg base CX0 2 f fd ["worth", "rides", "start", "goal", "by"] spLLast := by
  refine F.ok scLLast (fun vs H Q E h => ?_) (fun cdv A outer s H vs Q E hr h => ?_)
  · obtain ⟨l, r, cs, bs, s, g, bd, rfl, _⟩ := h
    rfl
  · obtain ⟨l, r, cs, bs, s, g, bd, rfl, hW, hR, lb, q⟩ := h
    refine ⟨_, (pss_cons (ps_set (i := 5) scLLast.nd rfl (.inl rfl) pe_non)
      (pss_cons (ps_for PassesOwn.never rfl (pi_list (pe_op op_cat (pe_lst (pa_cons pe_int (pa_cons (pv 4) pa_nil))) (pe_lc (own := [("ride", 8)]) (g := gName 8) (by rfl) scLLast.nd (pi_list (pv 1)) (blkOk_by (N := NLLast) (sc := defScope sLLast) (by decide +kernel)) (fun _ _ _ _ _ => pg_name (i := 8) scLLast.nd rfl (Or.inl rfl)) (fun _ _ _ _ _ => pts_nil) (fun _ _ _ _ _ => pe_ix (r := rIxT K) ix_tup (pv 8) pe_int (fun _ _ => rfl))))) (pg_name (i := 6) scLLast.nd rfl (.inl rfl))
        (pss_cons (ps_set (i := 7) scLLast.nd rfl (.inl rfl) (pe_call cValue.G (hr.mono (by first | decide | omega)) (by rfl) cValue.D.g cValue.D.F.kp cValue.D.b .nil pass0 (pa_cons (pv 0) (pa_cons (pv 2) (pa_cons (pv 3) (pa_cons (pv 6) pa_nil))))))
        (pss_one (ps_if (PW.pt (pw_and (pt_cmpR op_le (pv 6) (pv 4) (nomark _)) (pw_and (pt_cmpR op_notN (pv 7) pe_non (nomark _)) (pw_and (pt_cmpR op_le (pv 7) (pv 4) (nomark _)) (pw_and1 (PW.pt (pw_or (pt_cmpR op_isN (pv 5) pe_non (nomark _)) (pw_or1 (pt_cmpR op_gt (pv 6) (pv 5) (nomark _))))))))))
          (pss_one (ps_set (i := 5) scLLast.nd rfl (.inl rfl) (pv 6)))
          pss_nil))))
      (pss_one (ps_ret (pv 5))))), ?_⟩
    have hz : sizeLine = 16777216 := rfl
    refine ⟨.int bd, rfl, by show 2 ≤ sizeLine; decide, fun L nL => ?_⟩
    have S0 := same_upd (o := .lst [V.int 0, .int bd]) nL
    have hL : L2.upd H L (.lst [V.int 0, .int bd]) L = some (.lst (([0, bd] : List Int).map V.int)) := upd_same
    generalize L2.upd H L (.lst [V.int 0, .int bd]) = H0 at S0 hL
    refine ⟨.ref r, rfl, r, rfl, ⟨_, sqOf (S0 _ _ hR.l)⟩, fun D nD => lc_l (fun _ => true) (fun b => V.int b.2.leaves) (S0 _ _ hR.l) nD (by omega) (fun _ => rfl) (fun b hb H2 S2 R hh => hh H2 (Same.refl _)) (fun b hb H2 S2 R hh => ⟨.ref b.1, rfl, b.1, _, 0, .int b.2.leaves, rfl, rfl, .of (S2 _ _ (S0 _ _ (hR.t b hb))), rfl, hh H2 (Same.refl _)⟩) (fun H1 S1 hD => ?_)⟩
    rw [filt_true, leaves_l] at hD
    refine ⟨L, D, _, _, rfl, rfl, S1 _ _ hL, hD, by rw [List.length_map, List.length_map, List.length_map, List.length_map]; show 2 + bs.length ≤ _; omega, fun p np => ?_⟩
    have S2 : Same H _ := (S0.trans S1).trans (same_upd (o := .lst (([0, bd] : List Int).map V.int ++ ((bs.map (·.2)).map (·.leaves)).map V.int)) np)
    have hp : L2.upd H1 p (.lst (([0, bd] : List Int).map V.int ++ ((bs.map (·.2)).map (·.leaves)).map V.int)) p = some (.lst (([0, bd] ++ (bs.map (·.2)).map (·.leaves)).map V.int)) := by rw [upd_same, List.map_append]
    generalize L2.upd H1 p (.lst (([0, bd] : List Int).map V.int ++ ((bs.map (·.2)).map (·.leaves)).map V.int)) = H3 at S2 hp
    have hW3 := hW.same S2
    unfold llast at q
    generalize [0, bd] ++ (bs.map (·.2)).map (·.leaves) = ns at hp q
    refine ⟨p, rfl, ⟨_, sqOf hp⟩, ?_⟩
    refine for_list (a := p) (xs := ns.map V.int) (fun i σ H4 => H4 = H3 ∧ ∃ y6 y7 y8, σ = [some (.ref l), some (.ref r), some (.str s), some (.str g), some (.int bd), some (oV ((ns.take i).foldl (lmx (isB (cs.map (·.2)) s g bd)) none)), y6, y7, y8]) ⟨rfl, none, none, none, rfl⟩ (fun i σ H4 _ hP => by rw [hP.1]; exact sqOf hp) (fun i v σ H4 ev hP => ?_) (fun σ H4 hP => ?_)
    · obtain ⟨rfl, y6, y7, y8, rfl⟩ := hP
      rw [List.getElem?_map] at ev
      obtain ⟨x, ex, rfl⟩ := Option.map_eq_some_iff.mp ev
      rw [take_snoc ex, List.foldl_append]
      generalize (ns.take i).foldl (lmx (isB (cs.map (·.2)) s g bd)) none = b
      show _
      have fin : ∀ {b' : OI} {u7 : V}, b' = lmx (isB (cs.map (·.2)) s g bd) b x → H4 = H4 ∧ ∃ y6 y7 y8', [some (V.ref l), some (.ref r), some (.str s), some (.str g), some (.int bd), some (oV b'), some (.int x), some u7, y8] = [some (V.ref l), some (.ref r), some (.str s), some (.str g), some (.int bd), some (oV ([x].foldl (lmx (isB (cs.map (·.2)) s g bd)) b)), y6, y7, y8'] := fun {b' u7} e => ⟨rfl, some (.int x), some u7, y8, by rw [e]; rfl⟩
      have no : ∀ {u7 : V}, isB (cs.map (·.2)) s g bd x ≠ true → H4 = H4 ∧ ∃ y6 y7 y8', [some (V.ref l), some (.ref r), some (.str s), some (.str g), some (.int bd), some (oV b), some (.int x), some u7, y8] = [some (V.ref l), some (.ref r), some (.str s), some (.str g), some (.int bd), some (oV ([x].foldl (lmx (isB (cs.map (·.2)) s g bd)) b)), y6, y7, y8'] := fun {u7} n => fin (by unfold lmx; rw [if_neg fun z => n z.1])
      refine ⟨.ref l, rfl, .str s, rfl, .str g, rfl, .int x, rfl, l, cs, s, g, x, rfl, hW3, ?_⟩
      have pi := isB_iff (w := cs.map (·.2)) (s := s) (g := g) (bd := bd) (x := x)
      refine ⟨.int x, rfl, .int bd, rfl, _, _, rfl, rfl, _, rfl, ite2 (fun e1 => ?_) (fun e1 => no fun z => e1 (decide_eq_true (pi.mp z).1))⟩
      refine ⟨_, rfl, rfl, _, rfl, ?_⟩
      cases ev2 : val (cs.map (·.2)) s g x with
      | none => exact no fun z => ole_none (ev2 ▸ (pi.mp z).2)
      | some v =>
        refine ⟨.int v, rfl, .int bd, rfl, _, _, rfl, rfl, _, rfl, ite2 (fun e2 => ?_) (fun e2 => no fun z => e2 (decide_eq_true (ole_some.mp (ev2 ▸ (pi.mp z).2))))⟩
        have yes : isB (cs.map (·.2)) s g bd x = true := pi.mpr ⟨of_decide_eq_true e1, v, ev2, of_decide_eq_true e2⟩
        cases b with
        | none =>
          refine ⟨.non, rfl, rfl, _, rfl, .int x, rfl, ?_⟩
          exact fin (b' := some x) (by unfold lmx; rw [if_pos ⟨yes, nofun⟩])
        | some b =>
          refine ⟨.int b, rfl, rfl, _, rfl, .int x, rfl, .int b, rfl, _, _, rfl, rfl, _, rfl, ite2 (fun e3 => ?_) (fun e3 => ?_)⟩
          · refine ⟨.int x, rfl, ?_⟩
            exact fin (b' := some x) (by unfold lmx; rw [if_pos ⟨yes, fun y e => by cases e; exact of_decide_eq_true e3⟩])
          · exact fin (b' := some b) (by unfold lmx; rw [if_neg fun z => e3 (decide_eq_true (z.2 b rfl))])
    · obtain ⟨rfl, y6, y7, y8, rfl⟩ := hP
      rw [List.length_map, List.take_length]
      exact ⟨_, rfl, q H4 S2⟩
end
end Tb
namespace Tb
open PySem PySem.Spec PyProof.Rows L2
open PySem.W (AllAlike Sortable dataLe dataLt TotalLe)
open LamX (Tabs TabS ExtN TabB CodeO)
abbrev sBound : Stmt := topS 49
abbrev NBound : List Str := ["box", "worth", "rides", "start", "goal", "base", "ticks", "sure", "bound", "way", "ride"]
theorem scBound : FnScope NBound ["box", "worth", "rides", "start", "goal", "base"] (defScope sBound) := ⟨rfl, rfl, rfl, by decide +kernel, rfl, by decide +kernel, by decide +kernel⟩
abbrev sLTicks : Stmt := topS 50
abbrev NLTicks : List Str := ["rides", "base", "by", "ticks", "ride", "tick", "k"]
theorem scLTicks : FnScope NLTicks ["rides", "base", "by"] (defScope sLTicks) := ⟨rfl, rfl, rfl, by decide +kernel, rfl, by decide +kernel, by decide +kernel⟩
theorem WrAt.bq {H H' : Hp} {β : Bw} {l : Addr} {cs : List (Addr × Wr)} (h : WrAt H l cs) (B : BoxAt H β) (b : Bq β H H') : WrAt H' l cs := ⟨B.keep b h.l (NI.refs _ _), fun c hc => B.keep b (h.t c hc) (NI.tup _)⟩
section
variable {P : Program} {w : World} {K : PySem.W.Frag} {mg : Str → Option Value} {base : Heap} {C CS CT P1 CI CU fN : Addr} {fdN : FuncData}
def spBound : Sp := fun vs H Q _ => ∃ (β : Bw) (l r : Addr) (cs : List (Addr × Wr)) (bs : List (Addr × Tr)) (s g : Str) (ba : Int), vs = [.ref β.p, .ref l, .ref r, .str s, .str g, .int ba] ∧ BoxAt H β ∧ WrAt H l cs ∧ RowsAt H r bs ∧ bs.length ≤ 90 ∧ 0 ≤ ba ∧ ∀ (bd : Int) (H' : Hp), 0 ≤ bd → BoxAt H' β → Bq β H H' → Q (.int bd) H'
theorem ok_bound {f g1 g2 : Addr} {fd gd1 gd2 : FuncData} (F : Fun K "_law_bound" "_law_bound" sBound f fd) (cDraw : CDraw P w K mg base g2 gd2) (cValue : CValue P w K mg base g1 gd1) (B : Blt mg) : FnOk P w K mg base CX0 3 f fd ["box", "worth", "rides", "start", "goal", "base"] spBound := by
  refine F.ok scBound (fun vs H Q E h => ?_) (fun cdv A outer s H vs Q E hr h => ?_)
  · obtain ⟨β, l, r, cs, bs, s, g, ba, rfl, _⟩ := h
    rfl
  · obtain ⟨β, l, r, cs, bs, s, g, ba, rfl, hB, hW, hR, lb, b0, q⟩ := h
    refine ⟨_, (pss_cons (ps_set (i := 6) scBound.nd rfl (.inl rfl) (pe_op op_cat (pe_lst (pa_cons pe_int (pa_cons (pv 5) pa_nil))) (pe_lc (own := [("ride", 10)]) (g := gName 10) (by rfl) scBound.nd (pi_list (pv 2)) (blkOk_by (N := NBound) (sc := defScope sBound) (by decide +kernel)) (fun _ _ _ _ _ => pg_name (i := 10) scBound.nd rfl (Or.inl rfl)) (fun _ _ _ _ _ => pts_nil) (fun _ _ _ _ _ => pe_ix (r := rIxT K) ix_tup (pv 10) pe_int (fun _ _ => rfl)))))
      (pss_cons (ps_set (i := 7) scBound.nd rfl (.inl rfl) (pe_call cValue.G (hr.mono (by first | decide | omega)) (by rfl) cValue.D.g cValue.D.F.kp cValue.D.b .nil pass0 (pa_cons (pv 1) (pa_cons (pv 3) (pa_cons (pv 4) (pa_cons (pe_ix ix_list (pv 6) (pe_call cDraw.G (hr.mono (by first | decide | omega)) (by rfl) cDraw.D.g cDraw.D.F.kp cDraw.D.b .nil pass0 (pa_cons (pv 0) (pa_cons (pe_callB call_len_seq (by rfl) B.len PySem.boot_len (pa_cons (pv 6) pa_nil)) pa_nil))) (fun _ _ => rfl)) pa_nil))))))
      (pss_cons (ps_set (i := 8) scBound.nd rfl (.inl rfl) (pe_op op_add (pv 5) (pe_call cDraw.G (hr.mono (by first | decide | omega)) (by rfl) cDraw.D.g cDraw.D.F.kp cDraw.D.b .nil pass0 (pa_cons (pv 0) (pa_cons pe_int pa_nil)))))
      (pss_cons (ps_set (i := 9) scBound.nd rfl (.inl rfl) (pe_call cDraw.G (hr.mono (by first | decide | omega)) (by rfl) cDraw.D.g cDraw.D.F.kp cDraw.D.b .nil pass0 (pa_cons (pv 0) (pa_cons pe_int pa_nil))))
      (C8.pss_cut (ps_if (PW.pt (pw_and (pt_cmpR op_notN (pv 7) pe_non (nomark _)) (pw_and1 (pt_cmpR op_lt (pv 9) pe_int (nomark _)))))
        (pss_one (ps_set (i := 8) scBound.nd rfl (.inl rfl) (pe_callB (call_max2 rfl) (by rfl) B.max (by decide +kernel) (pa_cons pe_int (pa_cons (pe_op op_sub (pe_op op_add (pv 7) pe_int) (pv 9)) pa_nil)))))
        pss_nil)
      (pss_one (ps_ret (pv 8)))))))), ?_⟩
    have hz : sizeLine = 16777216 := rfl
    refine ⟨.int ba, rfl, by show 2 ≤ sizeLine; decide, fun L nL => ?_⟩
    have S0 := same_upd (o := .lst [V.int 0, .int ba]) nL
    have hL : L2.upd H L (.lst [V.int 0, .int ba]) L = some (.lst (([0, ba] : List Int).map V.int)) := upd_same
    generalize L2.upd H L (.lst [V.int 0, .int ba]) = H0 at S0 hL
    refine ⟨.ref r, rfl, r, rfl, ⟨_, sqOf (S0 _ _ hR.l)⟩, fun D nD => lc_l (fun _ => true) (fun b => V.int b.2.leaves) (S0 _ _ hR.l) nD (by omega) (fun _ => rfl) (fun b hb H2 S2 R hh => hh H2 (Same.refl _)) (fun b hb H2 S2 R hh => ⟨.ref b.1, rfl, b.1, _, 0, .int b.2.leaves, rfl, rfl, .of (S2 _ _ (S0 _ _ (hR.t b hb))), rfl, hh H2 (Same.refl _)⟩) (fun H1 S1 hD => ?_)⟩
    rw [filt_true, leaves_l] at hD
    refine ⟨L, D, _, _, rfl, rfl, S1 _ _ hL, hD, by rw [List.length_map, List.length_map, List.length_map, List.length_map]; show 2 + bs.length ≤ _; omega, fun p np => ?_⟩
    have S2 : Same H _ := (S0.trans S1).trans (same_upd (o := .lst (([0, ba] : List Int).map V.int ++ ((bs.map (·.2)).map (·.leaves)).map V.int)) np)
    have hp : L2.upd H1 p (.lst (([0, ba] : List Int).map V.int ++ ((bs.map (·.2)).map (·.leaves)).map V.int)) p = some (.lst (([0, ba] ++ (bs.map (·.2)).map (·.leaves)).map V.int)) := by rw [upd_same, List.map_append]
    have oP : Off β p := (hB.same (S0.trans S1)).offN np
    generalize L2.upd H1 p (.lst (([0, ba] : List Int).map V.int ++ ((bs.map (·.2)).map (·.leaves)).map V.int)) = H3 at S2 hp
    have ln : ([0, ba] ++ (bs.map (·.2)).map (·.leaves)).length ≤ 92 := by rw [List.length_append, List.length_map, List.length_map]; show 2 + _ ≤ _; omega
    have l1 : 1 ≤ ([0, ba] ++ (bs.map (·.2)).map (·.leaves)).length := by rw [List.length_append]; show 1 ≤ 2 + _; omega
    generalize [0, ba] ++ (bs.map (·.2)).map (·.leaves) = ns at hp ln l1
    have hW3 := hW.same S2
    have B3 := hB.same S2
    have len : ((ns.map V.int).length : Int) = (ns.length : Int) := by rw [List.length_map]
    refine ⟨.ref l, rfl, .str s, rfl, .str g, rfl, .ref p, rfl, .ref β.p, rfl, .ref p, rfl, p, _, rfl, .inl (sqOf hp), β, _, rfl, B3, by omega, by omega, fun u H4 u0 u1 B4 b4 => ?_⟩
    rw [len] at u1
    obtain ⟨x, mx, ex⟩ := pickI ns u0 u1
    refine ⟨p, _, u, .int x, rfl, rfl, sqOf (b4.off oP hp), ex, l, cs, s, g, x, rfl, hW3.bq B3 b4, ?_⟩
    have b04 := (Same.bq S2).trans b4
    refine ⟨.int ba, rfl, .ref β.p, rfl, β, 60, rfl, B4, by decide, by decide, fun v H5 v0 v1 B5 b5 => ⟨_, _, rfl, rfl, ?_⟩⟩
    refine ⟨.ref β.p, rfl, β, 4, rfl, B5, by decide, by decide, fun y H6 y0 y1 B6 b6 => ?_⟩
    have b06 := (b04.trans b5).trans b6
    refine ⟨fun σ' H' => H' = H6 ∧ ∃ (bd : Int) (y6 y7 y9 y10 : Option V), 0 ≤ bd ∧ σ' = [some (.ref β.p), some (.ref l), some (.ref r), some (.str s), some (.str g), some (.int ba), y6, y7, some (.int bd), y9, y10], ?_, ?_⟩
    · generalize val (cs.map (·.2)) s g x = o
      refine ⟨oV o, rfl, rfl, _, rfl, ?_⟩
      cases o with
      | none => exact ⟨rfl, ba + v, some (.ref p), some (oV none), some (.int y), none, by omega, rfl⟩
      | some z =>
        refine ⟨.int y, rfl, _, _, rfl, rfl, _, rfl, ite2 (fun e => ?_) (fun e => ?_)⟩
        · refine ⟨.int z, rfl, _, _, rfl, rfl, .int y, rfl, _, _, rfl, rfl, 0, z + 1 - y, rfl, ?_⟩
          refine ⟨rfl, (if z + 1 - y > 0 then z + 1 - y else 0), some (.ref p), some (.int z), some (.int y), none, by split <;> omega, rfl⟩
        · exact ⟨rfl, ba + v, some (.ref p), some (.int z), some (.int y), none, by omega, rfl⟩
    · rintro σ' H' ⟨rfl, bd, y6, y7, y9, y10, hb, rfl⟩
      exact ⟨_, rfl, q bd H' hb B6 b06⟩
def spLTicks : Sp := fun vs H Q _ => ∃ (r : Addr) (bs : List (Addr × Tr)) (ba bd : Int), vs = [.ref r, .int ba, .int bd] ∧ RowsAt H r bs ∧ bs.length ≤ 90 ∧ 0 ≤ ba ∧ 0 ≤ bd ∧ (∀ b ∈ bs, 0 ≤ b.2.leaves) ∧ ∀ (d : Addr) (ks : List Int) (H' : Hp), Same H H' → H' d = some (.lst (ks.map V.int)) → (∀ k ∈ ks, 0 ≤ k) → ks.length ≤ 300 → Q (.ref d) H'
theorem ok_lticks {f : Addr} {fd : FuncData} {k : Nat} (F : Fun K "_law_ticks" "_law_ticks" sLTicks f fd) (B : Blt mg) : FnOk P w K mg base CX0 (k + 1) f fd ["rides", "base", "by"] spLTicks := by
  refine F.ok scLTicks (fun vs H Q E h => ?_) (fun cdv A outer s H vs Q E hr h => ?_)
  · obtain ⟨r, bs, ba, bd, rfl, _⟩ := h
    rfl
  · obtain ⟨r, bs, ba, bd, rfl, hR, lb, b0, d0, hlv, q⟩ := h
    refine ⟨_, (pss_cons (ps_set (i := 3) scLTicks.nd rfl (.inl rfl) (pe_op op_cat (pe_lst (pa_cons pe_int (pa_cons (pv 2) (pa_cons (pe_op op_add (pv 2) pe_int) pa_nil)))) (pe_lc (own := [("k", 6)]) (g := gName 6) (by rfl) scLTicks.nd (pi_range1 (by rfl) B.range (pa_cons pe_int pa_nil)) (blkOk_by (N := NLTicks) (sc := defScope sLTicks) (by decide +kernel)) (fun _ _ _ _ _ => pg_name (i := 6) scLTicks.nd rfl (Or.inl rfl)) (fun _ _ _ _ _ => pts_nil) (fun _ _ _ _ _ => pe_op op_add (pv 1) (pv 6)))))
      (pss_cons (ps_for PassesOwn.never rfl (pi_list (pv 0)) (pg_name (i := 4) scLTicks.nd rfl (.inl rfl))
        (pss_one (ps_for PassesOwn.never rfl (pi_list (pe_lst (pa_cons (pe_ix ix_tup (pv 4) pe_int (fun _ _ => rfl)) (pa_cons (pe_op op_add (pe_ix ix_tup (pv 4) pe_int (fun _ _ => rfl)) pe_int) pa_nil)))) (pg_name (i := 5) scLTicks.nd rfl (.inl rfl))
          (pss_one (ps_if (pt_cmpR op_notIn_seq (pv 5) (pv 3) (by rfl))
            (pss_one (ps_expr (pe_bm PySem.F.plainAttrs_list PySem.F.slot_list_append PySem.F.type_list_append mt_append (pv 3) (pa_cons (pv 5) pa_nil))))
            pss_nil)))))
      (pss_one (ps_ret (pv 3))))), ?_⟩
    have hz : sizeLine = 16777216 := rfl
    refine ⟨.int bd, rfl, .int bd, rfl, _, _, rfl, rfl, by show 3 ≤ sizeLine; decide, fun L nL => ?_⟩
    have S0 := same_upd (o := .lst [V.int 0, .int bd, .int (bd + 1)]) nL
    have hL : L2.upd H L (.lst [V.int 0, .int bd, .int (bd + 1)]) L = some (.lst (([0, bd, bd + 1] : List Int).map V.int)) := upd_same
    generalize L2.upd H L (.lst [V.int 0, .int bd, .int (bd + 1)]) = H0 at S0 hL
    refine ⟨_, rfl, by decide, by decide, fun D nD => ?_⟩
    refine lc_range (lo := 0) (n := (25 : Int).toNat) (fun i H1 => Same H0 H1 ∧ H1 D = some (.lst (((List.range i).map fun k : Nat => ba + (k : Int)).map V.int))) ⟨same_upd nD, upd_same⟩ (fun i H1 hi hP => ?_) (fun H1 hP => ?_)
    · obtain ⟨S1, hD⟩ := hP
      refine ⟨rfl, .int ba, rfl, .int (0 + (i : Int)), rfl, ba, 0 + (i : Int), rfl, rfl, _, hD, ?_, fun b o hb => ?_, ?_⟩
      · rw [List.length_map, List.length_map, List.length_range]; have : i < 25 := hi; omega
      · rw [upd_ne (ne_of_none hb nD)]; exact S1 _ _ hb
      · rw [upd_same, List.range_succ, List.map_append, List.map_append, Int.zero_add]; rfl
    obtain ⟨S1, hD⟩ := hP
    refine ⟨L, D, _, _, rfl, rfl, S1 _ _ hL, hD, by rw [List.length_map, List.length_map, List.length_map, List.length_range]; show 3 + 25 ≤ sizeLine; decide, fun p np => ?_⟩
    have nP : H p = none := by
      cases e : H p with
      | none => rfl
      | some o => rw [S1 _ _ (S0 _ _ e)] at np; cases np
    have S2 := (S0.trans S1).trans (same_upd (o := .lst (([0, bd, bd + 1] : List Int).map V.int ++ ((List.range (25 : Int).toNat).map fun k : Nat => ba + (k : Int)).map V.int)) np)
    have hp : L2.upd H1 p (.lst (([0, bd, bd + 1] : List Int).map V.int ++ ((List.range (25 : Int).toNat).map fun k : Nat => ba + (k : Int)).map V.int)) p = some (.lst (([0, bd, bd + 1] ++ (List.range (25 : Int).toNat).map fun k : Nat => ba + (k : Int)).map V.int)) := by rw [upd_same, List.map_append]
    generalize L2.upd H1 p (.lst (([0, bd, bd + 1] : List Int).map V.int ++ ((List.range (25 : Int).toNat).map fun k : Nat => ba + (k : Int)).map V.int)) = H3 at S2 hp
    have k0 : ∀ k ∈ ([0, bd, bd + 1] ++ (List.range (25 : Int).toNat).map fun k : Nat => ba + (k : Int)), 0 ≤ k := fun k hk => by
      rcases List.mem_append.mp hk with hk | hk
      · simp only [List.mem_cons, List.not_mem_nil, or_false] at hk
        omega
      · obtain ⟨j, _, rfl⟩ := List.mem_map.mp hk
        omega
    have kl : ([0, bd, bd + 1] ++ (List.range (25 : Int).toNat).map fun k : Nat => ba + (k : Int)).length ≤ 28 := by rw [List.length_append, List.length_map, List.length_range]; show 3 + 25 ≤ 28; decide
    generalize ([0, bd, bd + 1] ++ (List.range (25 : Int).toNat).map fun k : Nat => ba + (k : Int)) = ns at hp k0 kl
    refine ⟨.ref r, rfl, r, rfl, ⟨_, sqOf (S2 _ _ hR.l)⟩, ?_⟩
    refine for_list (a := r) (xs := bs.map fun b => V.ref b.1) (fun i σ H4 => i ≤ bs.length ∧ ∃ (ks : List Int) (y4 y5 y6 : Option V), σ = [some (.ref r), some (.int ba), some (.int bd), some (.ref p), y4, y5, y6] ∧ Same H H4 ∧ H4 p = some (.lst (ks.map V.int)) ∧ (∀ k ∈ ks, 0 ≤ k) ∧ ks.length ≤ 28 + 2 * i) ⟨Nat.zero_le _, ns, none, none, none, rfl, S2, hp, k0, kl⟩ (fun i σ H4 _ ⟨_, _, _, _, _, _, S4, _⟩ => sqOf (S4 _ _ hR.l)) (fun i v σ H4 ev hP => ?_) (fun σ H4 hP => ?_)
    · obtain ⟨_, ks, y4, y5, y6, rfl, S4, hp, k0, kl⟩ := hP
      rw [List.getElem?_map] at ev
      obtain ⟨⟨a, t⟩, eb, rfl⟩ := Option.map_eq_some_iff.mp ev
      have mb : (a, t) ∈ bs := List.mem_of_getElem? eb
      have li := (List.getElem?_eq_some_iff.mp eb).1
      have ha : H4 a = some (.tup (rwT t)) := S4 _ _ (hR.t _ mb)
      have lv := hlv _ mb
      refine ⟨.ref a, rfl, a, _, 0, .int t.leaves, rfl, rfl, .of ha, rfl, .ref a, rfl, a, _, 0, .int t.leaves, rfl, rfl, .of ha, rfl, _, _, rfl, rfl, by show 2 ≤ sizeLine; decide, fun U nU => ?_⟩
      have S5 := S4.trans (same_upd (o := .lst [V.int t.leaves, .int (t.leaves + 1)]) nU)
      have hU : L2.upd H4 U (.lst [V.int t.leaves, .int (t.leaves + 1)]) U = some (.lst (([t.leaves, t.leaves + 1] : List Int).map V.int)) := upd_same
      have Up : U ≠ p := fun z => by rw [z, hp] at nU; cases nU
      have hp5 : L2.upd H4 U (.lst [V.int t.leaves, .int (t.leaves + 1)]) p = some (.lst (ks.map V.int)) := by rw [upd_ne (Ne.symm Up)]; exact hp
      generalize L2.upd H4 U (.lst [V.int t.leaves, .int (t.leaves + 1)]) = H5 at S5 hU hp5
      have us0 : ∀ u ∈ [t.leaves, t.leaves + 1], 0 ≤ u := fun u hu => by
        simp only [List.mem_cons, List.not_mem_nil, or_false] at hu
        have : 0 ≤ t.leaves := lv
        omega
      refine ⟨U, rfl, ⟨_, sqOf hU⟩, ?_⟩
      refine for_list (a := U) (xs := ([t.leaves, t.leaves + 1] : List Int).map V.int) (fun j σ H6 => ∃ (ks : List Int) (y5 y6 : Option V), σ = [some (.ref r), some (.int ba), some (.int bd), some (.ref p), some (.ref a), y5, y6] ∧ Same H H6 ∧ H6 U = some (.lst (([t.leaves, t.leaves + 1] : List Int).map V.int)) ∧ H6 p = some (.lst (ks.map V.int)) ∧ (∀ k ∈ ks, 0 ≤ k) ∧ ks.length ≤ 28 + 2 * i + j) ⟨ks, _, _, rfl, S5, hU, hp5, k0, kl⟩ (fun j σ H6 _ ⟨_, _, _, _, _, hU, _⟩ => sqOf hU) (fun j v σ H6 ev hP => ?_) (fun σ H6 hP => ?_)
      · obtain ⟨ks, y5, y6, rfl, S6, hU, hp, k0, kl⟩ := hP
        rw [List.getElem?_map] at ev
        obtain ⟨u, eu, rfl⟩ := Option.map_eq_some_iff.mp ev
        have u0 := us0 u (List.mem_of_getElem? eu)
        have lj : j < 2 := (List.getElem?_eq_some_iff.mp eu).1
        refine ⟨.int u, rfl, .ref p, rfl, p, _, rfl, .inl (sqOf hp), rfl, List.all_eq_true.mpr fun x hx => ?_, _, rfl, ite2 (fun _ => ?_) (fun _ => ?_)⟩
        · obtain ⟨z, _, rfl⟩ := List.mem_map.mp hx
          rfl
        · refine ⟨.ref p, rfl, .inl ⟨rfl, _, sqOf hp⟩, .int u, rfl, p, _, _, rfl, rfl, hp, by rw [List.length_map]; exact small1000' (by omega), ?_⟩
          refine ⟨ks ++ [u], _, _, rfl, fun x o e => ?_, by rw [upd_ne Up]; exact hU, by rw [upd_same, List.map_append]; rfl, fun k hk => ?_, by rw [List.length_append]; show ks.length + 1 ≤ _; omega⟩
          · rw [upd_ne (ne_of_none e nP)]; exact S6 _ _ e
          · rcases List.mem_append.mp hk with hk | hk
            · exact k0 k hk
            · rw [List.mem_singleton.mp hk]; exact u0
        · exact ⟨ks, _, _, rfl, S6, hU, hp, k0, by omega⟩
      · obtain ⟨ks, y5, y6, rfl, S6, hU, hp, k0, kl⟩ := hP
        exact ⟨li, ks, _, _, _, rfl, S6, hp, k0, by rw [List.length_map] at kl; have : ks.length ≤ 28 + 2 * i + 2 := kl; omega⟩
    · obtain ⟨_, ks, y4, y5, y6, rfl, S4, hp, k0, kl⟩ := hP
      rw [List.length_map] at kl
      exact ⟨.ref p, rfl, q p ks H4 S4 hp k0 (by omega)⟩
end
end Tb
namespace Tb
open PySem PySem.Spec PyProof.Rows L2
open PySem.W (AllAlike Sortable dataLe dataLt TotalLe)
open LamX (Tabs TabS ExtN TabB CodeO)
abbrev sRides : Stmt := topS 41
abbrev NRides : List Str := ["box", "many", "known", "base", "slow", "stem", "rows", "here", "tick", "k", "there", "first", "last", "extra", "word", "seats", "row"]
theorem scRides : FnScope NRides ["box", "many", "known", "base", "slow", "stem"] (defScope sRides) := ⟨rfl, rfl, rfl, by decide +kernel, rfl, by decide +kernel, by decide +kernel⟩
section
variable {P : Program} {w : World} {K : PySem.W.Frag} {mg : Str → Option Value} {base : Heap} {C CS CT P1 CI CU fN : Addr} {fdN : FuncData}
def spRides : Sp := fun vs H Q _ => ∃ (β : Bw) (l : Addr) (ks : List Str) (st : Str) (m ba sl : Int), vs = [.ref β.p, .int m, .ref l, .int ba, .int sl, .str st] ∧ BoxAt H β ∧ NmL H l ks ∧ 2 ≤ ks.length ∧ ks.length ≤ 90 ∧ ks.Nodup ∧ Nm (tl st) ∧ 0 ≤ m ∧ m ≤ 40 ∧ 0 ≤ ba ∧ ba ≤ 2 ^ 20 ∧ 1 ≤ sl ∧ sl ≤ 200 ∧
  ∀ (r : Addr) (bs : List (Addr × Tr)) (H' : Hp), H r = none → RowsOk H H' β r ks bs → Srt (bs.map (·.2)) → bs.length ≤ 40 → (∀ b ∈ bs, b.2.lands ≤ b.2.leaves + 9) → Q (.ref r) H'
theorem ok_rides {f g1 g2 : Addr} {fd gd1 gd2 : FuncData} (F : Fun K "_law_rides" "_law_rides" sRides f fd) (cDraw : CDraw P w K mg base g1 gd1) (cFresh : CFresh P w K mg base g2 gd2) (B : Blt mg) : FnOk P w K mg base CX0 7 f fd ["box", "many", "known", "base", "slow", "stem"] spRides := by
  refine F.ok scRides (fun vs H Q E h => ?_) (fun cdv A outer s H vs Q E hr h => ?_)
  · obtain ⟨β, l, ks, st, m, ba, sl, rfl, _⟩ := h
    rfl
  · obtain ⟨β, l, ks, st, m, ba, sl, rfl, hB, hL, l2, l90, nd, hs, m0, m1, b0, b1, s0, s1, q⟩ := h
    refine ⟨_, (pss_cons (ps_set (i := 6) scRides.nd rfl (.inl rfl) (pe_lst pa_nil))
      (pss_cons (ps_set (i := 7) scRides.nd rfl (.inl rfl) pe_int)
      (pss_cons (ps_set (i := 8) scRides.nd rfl (.inl rfl) pe_int)
      (pss_cons (ps_for PassesOwn.never rfl (pi_range1 (by rfl) B.range (pa_cons (pv 1) pa_nil)) (pg_name (i := 9) scRides.nd rfl (.inl rfl))
        (C8.pss_cut (ps_if (pt_cmpR op_eq (pe_call cDraw.G (hr.mono (by first | decide | omega)) (by rfl) cDraw.D.g cDraw.D.F.kp cDraw.D.b .nil pass0 (pa_cons (pv 0) (pa_cons pe_int pa_nil))) pe_int (nomark _))
          (pss_cons (ps_set (i := 7) scRides.nd rfl (.inl rfl) (pe_call cDraw.G (hr.mono (by first | decide | omega)) (by rfl) cDraw.D.g cDraw.D.F.kp cDraw.D.b .nil pass0 (pa_cons (pv 0) (pa_cons (pe_callB call_len_seq (by rfl) B.len PySem.boot_len (pa_cons (pv 2) pa_nil)) pa_nil))))
          (pss_one (ps_set (i := 8) scRides.nd rfl (.inl rfl) (pe_call cDraw.G (hr.mono (by first | decide | omega)) (by rfl) cDraw.D.g cDraw.D.F.kp cDraw.D.b .nil pass0 (pa_cons (pv 0) (pa_cons pe_int pa_nil))))))
          pss_nil)
        (pss_cons (ps_set (i := 10) scRides.nd rfl (.inl rfl) (pe_op op_mod (pe_callTy call_int1 (by rfl) B.int PyProof.Rows.boot_int (pa_cons (pe_op op_add (pe_op op_add (pv 7) pe_int) (pe_call cDraw.G (hr.mono (by first | decide | omega)) (by rfl) cDraw.D.g cDraw.D.F.kp cDraw.D.b .nil pass0 (pa_cons (pv 0) (pa_cons (pe_op op_sub (pe_callB call_len_seq (by rfl) B.len PySem.boot_len (pa_cons (pv 2) pa_nil)) pe_int) pa_nil)))) pa_nil)) (pe_callB call_len_seq (by rfl) B.len PySem.boot_len (pa_cons (pv 2) pa_nil))))
        (pss_cons (ps_set (i := 11) scRides.nd rfl (.inl rfl) (pe_op op_add (pv 8) (pe_ix ix_list (pe_lst (pa_cons pe_int (pa_cons pe_int (pa_cons pe_int (pa_cons (pe_call cDraw.G (hr.mono (by first | decide | omega)) (by rfl) cDraw.D.g cDraw.D.F.kp cDraw.D.b .nil pass0 (pa_cons (pv 0) (pa_cons pe_int pa_nil))) pa_nil))))) (pe_call cDraw.G (hr.mono (by first | decide | omega)) (by rfl) cDraw.D.g cDraw.D.F.kp cDraw.D.b .nil pass0 (pa_cons (pv 0) (pa_cons pe_int pa_nil))) (fun _ _ => rfl))))
        (pss_cons (ps_set (i := 12) scRides.nd rfl (.inl rfl) (pe_op op_add (pe_op op_add (pv 11) pe_int) (pe_ix ix_list (pe_lst (pa_cons pe_int (pa_cons (pe_call cDraw.G (hr.mono (by first | decide | omega)) (by rfl) cDraw.D.g cDraw.D.F.kp cDraw.D.b .nil pass0 (pa_cons (pv 0) (pa_cons pe_int pa_nil))) (pa_cons (pe_call cDraw.G (hr.mono (by first | decide | omega)) (by rfl) cDraw.D.g cDraw.D.F.kp cDraw.D.b .nil pass0 (pa_cons (pv 0) (pa_cons pe_int pa_nil))) pa_nil)))) (pe_call cDraw.G (hr.mono (by first | decide | omega)) (by rfl) cDraw.D.g cDraw.D.F.kp cDraw.D.b .nil pass0 (pa_cons (pv 0) (pa_cons pe_int pa_nil))) (fun _ _ => rfl))))
        (pss_cons (ps_set (i := 13) scRides.nd rfl (.inl rfl) (pe_ix ix_list (pe_lst (pa_cons pe_int (pa_cons pe_int (pa_cons (pe_call cDraw.G (hr.mono (by first | decide | omega)) (by rfl) cDraw.D.g cDraw.D.F.kp cDraw.D.b .nil pass0 (pa_cons (pv 0) (pa_cons pe_int pa_nil))) (pa_cons (pe_call cDraw.G (hr.mono (by first | decide | omega)) (by rfl) cDraw.D.g cDraw.D.F.kp cDraw.D.b .nil pass0 (pa_cons (pv 0) (pa_cons (pv 4) pa_nil))) pa_nil))))) (pe_call cDraw.G (hr.mono (by first | decide | omega)) (by rfl) cDraw.D.g cDraw.D.F.kp cDraw.D.b .nil pass0 (pa_cons (pv 0) (pa_cons pe_int pa_nil))) (fun _ _ => rfl)))
        (pss_cons (ps_set (i := 14) scRides.nd rfl (.inl rfl) (pe_call cFresh.G (hr.mono (by first | decide | omega)) (by rfl) cFresh.D.g cFresh.D.F.kp cFresh.D.b .nil pass0 (pa_cons (pv 0) (pa_cons (pe_lc (own := [("row", 16)]) (g := gName 16) (by rfl) scRides.nd (pi_list (pv 6)) (blkOk_by (N := NRides) (sc := defScope sRides) (by decide +kernel)) (fun _ _ _ _ _ => pg_name (i := 16) scRides.nd rfl (Or.inl rfl)) (fun _ _ _ _ _ => pts_nil) (fun _ _ _ _ _ => pe_ix (r := rIxT K) ix_tup (pv 16) pe_int (fun _ _ => rfl))) (pa_cons (pv 5) pa_nil)))))
        (pss_cons (ps_set (i := 15) scRides.nd rfl (.inl rfl) (pe_lst (pa_cons (pe_call cDraw.G (hr.mono (by first | decide | omega)) (by rfl) cDraw.D.g cDraw.D.F.kp cDraw.D.b .nil pass0 (pa_cons (pv 0) (pa_cons pe_int pa_nil))) (pa_cons (pe_call cDraw.G (hr.mono (by first | decide | omega)) (by rfl) cDraw.D.g cDraw.D.F.kp cDraw.D.b .nil pass0 (pa_cons (pv 0) (pa_cons pe_int pa_nil))) pa_nil))))
        (pss_cons (ps_expr (pe_bm PySem.F.plainAttrs_list PySem.F.slot_list_append PySem.F.type_list_append mt_append (pv 6) (pa_cons (pe_tup (pa_cons (pe_op op_add (pv 3) (pv 11)) (pa_cons (pv 14) (pa_cons (pe_ix ix_list (pv 2) (pv 7) (fun _ _ => rfl)) (pa_cons (pe_ix ix_list (pv 2) (pv 10) (fun _ _ => rfl)) (pa_cons (pe_op op_add (pv 3) (pv 12)) (pa_cons (pv 13) (pa_cons (pe_ix ix_list (pv 15) pe_int (fun _ _ => rfl)) (pa_cons (pe_ix ix_list (pv 15) pe_int (fun _ _ => rfl)) pa_nil))))))))) pa_nil)))
        (pss_one (ps_if (pt_cmpR op_gt (pe_call cDraw.G (hr.mono (by first | decide | omega)) (by rfl) cDraw.D.g cDraw.D.F.kp cDraw.D.b .nil pass0 (pa_cons (pv 0) (pa_cons pe_int pa_nil))) pe_int (nomark _))
          (pss_cons (ps_set (i := 7) scRides.nd rfl (.inl rfl) (pv 10))
          (pss_one (ps_set (i := 8) scRides.nd rfl (.inl rfl) (pe_ix ix_list (pe_lst (pa_cons (pv 12) (pa_cons (pe_op op_add (pv 12) (pv 13)) (pa_cons (pe_op op_add (pv 12) pe_int) (pa_cons (pv 11) pa_nil))))) (pe_call cDraw.G (hr.mono (by first | decide | omega)) (by rfl) cDraw.D.g cDraw.D.F.kp cDraw.D.b .nil pass0 (pa_cons (pv 0) (pa_cons pe_int pa_nil))) (fun _ _ => rfl)))))
          pss_nil)))))))))))
      (pss_one (ps_ret (pe_callB (cr_sortedDt hr.units) (by rfl) B.sorted PyProof.Rows.boot_sorted (pa_cons (pv 6) pa_nil)))))))), ?_⟩
    refine ⟨by decide, fun R nR => ?_⟩
    have oR := hB.offN nR
    have S0 := same_upd (o := .lst []) nR
    have len : ((ks.map V.str).length : Int) = (ks.length : Int) := by rw [List.length_map]
    refine ⟨.int m, rfl, m, rfl, by omega, by omega, ?_⟩
    refine for_range (lo := 0) (n := m.toNat) (fun i σ H1 => ∃ (he tk : Int) (bs : List (Addr × Tr)) (y9 y10 y11 y12 y13 y14 y15 : Option V), σ = [some (.ref β.p), some (.int m), some (.ref l), some (.int ba), some (.int sl), some (.str st), some (.ref R), some (.int he), some (.int tk), y9, y10, y11, y12, y13, y14, y15, none] ∧ 0 ≤ he ∧ he < (ks.length : Int) ∧ 0 ≤ tk ∧ tk ≤ 2 ^ 20 + 400 * i ∧ RowsOk H H1 β R ks bs ∧ bs.length = i ∧ ∀ b ∈ bs, b.2.lands ≤ b.2.leaves + 9) ⟨0, 0, [], none, none, none, none, none, none, none, rfl, by omega, by omega, by omega, by omega, ⟨hB.same S0, Same.bq S0, ⟨upd_same, nofun⟩, nofun, List.nodup_nil⟩, rfl, nofun⟩ ?_ ?_
    · rintro i σ H1 hi ⟨he, tk, bs, y9, y10, y11, y12, y13, y14, y15, rfl, e0, e1, t0, t1, r1, lb, h9⟩
      have hi : i < 40 := by omega
      have hL1 : NmL H1 l ks := ⟨hB.keep r1.bq hL.l (NI.strs _), hL.n⟩
      refine ⟨fun σ' H' => ∃ (he tk : Int), σ' = [some (.ref β.p), some (.int m), some (.ref l), some (.int ba), some (.int sl), some (.str st), some (.ref R), some (.int he), some (.int tk), some (.int (0 + (i : Int))), y10, y11, y12, y13, y14, y15, none] ∧ 0 ≤ he ∧ he < (ks.length : Int) ∧ 0 ≤ tk ∧ tk ≤ 2 ^ 20 + 400 * i ∧ BoxAt H' β ∧ Bq β H1 H', ?_, ?_⟩
      · refine ⟨.ref β.p, rfl, β, 3, rfl, r1.box, by decide, by decide, fun v H2 v0 v1 B2 b2 => ⟨rfl, _, rfl, ite2 (fun e => ?_) (fun e => ?_)⟩⟩
        · have hL2 := hL1.bq r1.box b2
          refine ⟨.ref β.p, rfl, .ref l, rfl, l, _, rfl, .inl (sqOf hL2.l), β, _, rfl, B2, by omega, by omega, fun a H3 a0 a1 B3 b3 => ?_⟩
          refine ⟨.ref β.p, rfl, β, 24, rfl, B3, by decide, by decide, fun t H4 t0 t1 B4 b4 => ?_⟩
          rw [len] at a1
          exact ⟨a, t, rfl, a0, a1, t0, by omega, B4, (b2.trans b3).trans b4⟩
        · exact ⟨he, tk, rfl, e0, e1, t0, t1, B2, b2⟩
      rintro σ' H2 ⟨he, tk, rfl, e0, e1, t0, t1, B2, b2⟩
      have r2 := r1.go B2 b2
      have hL2 := hL1.bq r1.box b2
      clear r1 hL1 b2 B2
      refine ⟨.int he, rfl, he, 1, rfl, rfl, .ref β.p, rfl, .ref l, rfl, l, _, rfl, .inl (sqOf hL2.l), _, 1, rfl, rfl, β, _, rfl, r2.box, by omega, by omega, fun v H3 v0 v1 B3 b3 => ⟨_, _, rfl, rfl, .inl ⟨_, rfl, ?_⟩⟩⟩
      have hL3 := hL2.bq r2.box b3
      have r3 := r2.go B3 b3
      have g0 := Int.emod_nonneg (he + 1 + v) (show ((ks.map V.str).length : Int) ≠ 0 by omega)
      have g1 := Int.emod_lt_of_pos (he + 1 + v) (show (0 : Int) < ((ks.map V.str).length : Int) by omega)
      obtain ⟨ja, hja⟩ : ∃ j : Nat, he = (j : Int) := ⟨he.toNat, by omega⟩
      obtain ⟨th, eth⟩ : ∃ th, th = (he + 1 + v) % ((ks.map V.str).length : Int) := ⟨_, rfl⟩
      obtain ⟨jg, hjg⟩ : ∃ j : Nat, th = (j : Int) := ⟨th.toNat, by omega⟩
      have la : ja < ks.length := by omega
      have lg : jg < ks.length := by omega
      have ne : ja ≠ jg := fun z => by
        have h := eth
        rw [hjg, ← z, ← hja, len] at h
        by_cases h2 : he + 1 + v < (ks.length : Int)
        · rw [Int.emod_eq_of_lt (by omega) h2] at h; omega
        · rw [show he + 1 + v = (he + 1 + v - ks.length) + ks.length by omega, Int.add_emod_right, Int.emod_eq_of_lt (by omega) (by omega)] at h; omega
      have sne : ks[ja] ≠ ks[jg] := fun z => by
        rcases Nat.lt_or_gt_of_ne ne with h | h
        · exact List.pairwise_iff_getElem.mp nd ja jg la lg h z
        · exact List.pairwise_iff_getElem.mp nd jg ja lg la h z.symm
      refine ⟨.ref l, rfl, l, _, rfl, .inl (sqOf hL3.l), _, _, rfl, rfl, ?_, ?_⟩
      · show (0 : Int) < ((ks.map V.str).length : Nat); omega
      clear r2 hL2 b3 B3
      refine ⟨.int tk, rfl, .ref β.p, rfl, β, 6, rfl, r3.box, by decide, by decide, fun d H4 d0 d1 B4 b4 => ⟨by show 4 ≤ sizeLine; decide, fun L nL => ?_⟩⟩
      obtain ⟨B5, k5⟩ := disp [0, 0, 1, d] B4 nL
      refine ⟨.ref β.p, rfl, β, 4, rfl, B5, by decide, by decide, fun u H6 u0 u1 B6 b6 => ?_⟩
      obtain ⟨hD, b46⟩ := k5 H6 b6
      obtain ⟨x, mx, ex⟩ := pickI [0, 0, 1, d] u0 u1
      have xb : 0 ≤ x ∧ x ≤ 5 := by
        simp only [List.mem_cons, List.not_mem_nil, or_false] at mx
        omega
      have r6 := r3.go B6 (b4.trans b46)
      have hL6 := hL3.bq r3.box (b4.trans b46)
      refine ⟨L, _, u, .int x, rfl, rfl, sqOf hD, ex, tk, x, rfl, rfl, ?_⟩
      clear r3 hL3 k5 b6 b46 b4 B4 B5 B6 hD
      obtain ⟨fi, hfi⟩ : ∃ fi : Int, fi = tk + x := ⟨_, rfl⟩
      have f0 : 0 ≤ fi ∧ fi ≤ tk + 5 := by omega
      refine ⟨.int (tk + x), rfl, tk + x, 1, rfl, rfl, .ref β.p, rfl, β, 3, rfl, r6.box, by decide, by decide, fun d H7 d0 d1 B7 b7 => ?_⟩
      refine ⟨.ref β.p, rfl, β, 9, rfl, B7, by decide, by decide, fun e H8 e0' e1' B8 b8 => ⟨by show 3 ≤ sizeLine; decide, fun L nL => ?_⟩⟩
      obtain ⟨B9, k9⟩ := disp [0, d, e] B8 nL
      refine ⟨.ref β.p, rfl, β, 3, rfl, B9, by decide, by decide, fun u H10 u0 u1 B10 b10 => ?_⟩
      obtain ⟨hD, b810⟩ := k9 H10 b10
      obtain ⟨ls, ml, el⟩ := pickI [0, d, e] u0 u1
      have lb' : 0 ≤ ls ∧ ls ≤ 8 := by
        simp only [List.mem_cons, List.not_mem_nil, or_false] at ml
        omega
      have b610 := (b7.trans b8).trans b810
      have r10 := r6.go B10 b610
      have hL10 := hL6.bq r6.box b610
      refine ⟨L, _, u, .int ls, rfl, rfl, sqOf hD, el, tk + x + 1, ls, rfl, rfl, ?_⟩
      clear hD k9 b10 b810 b7 b8 b610 B7 B8 B9 B10 r6 hL6
      refine ⟨.ref β.p, rfl, β, 4, rfl, r10.box, by decide, by decide, fun d H11 d0 d1 B11 b11 => ?_⟩
      refine ⟨.ref β.p, rfl, .int sl, rfl, β, sl, rfl, B11, by omega, by omega, fun e H12 e0' e1' B12 b12 => ⟨by show 4 ≤ sizeLine; decide, fun L nL => ?_⟩⟩
      obtain ⟨B13, k13⟩ := disp [0, 1, d, e] B12 nL
      refine ⟨.ref β.p, rfl, β, 4, rfl, B13, by decide, by decide, fun u H14 u0 u1 B14 b14 => ?_⟩
      obtain ⟨hD, b1214⟩ := k13 H14 b14
      obtain ⟨xt, mx2, ex2⟩ := pickI [0, 1, d, e] u0 u1
      have xb2 : 0 ≤ xt ∧ xt ≤ 199 := by
        simp only [List.mem_cons, List.not_mem_nil, or_false] at mx2
        omega
      have b1014 := (b11.trans b12).trans b1214
      have r14 := r10.go B14 b1014
      have hL14 := hL10.bq r10.box b1014
      refine ⟨L, _, u, .int xt, rfl, rfl, sqOf hD, ex2, ?_⟩
      clear hD k13 b14 b1214 b11 b12 b1014 B11 B12 B13 B14 r10 hL10
      refine ⟨.ref β.p, rfl, .ref R, rfl, R, rfl, ⟨_, sqOf r14.rows.l⟩, fun D nD => lc_l (fun _ => true) (fun b => V.str b.2.name) r14.rows.l nD (by omega) (fun _ => rfl) (fun b hb H2 S2 R hh => hh H2 (Same.refl _)) (fun b hb H2 S2 R hh => ⟨.ref b.1, rfl, b.1, _, 1, .str b.2.name, rfl, rfl, .of (S2 _ _ (r14.rows.t b hb)), rfl, hh H2 (Same.refl _)⟩) (fun H15 S15 hD => ?_)⟩
      rw [filt_true, names_l (K := K)] at hD
      have B15 := r14.box.same S15
      refine ⟨.str st, rfl, β, D, _, st, rfl, B15, ⟨hD, fun x hx => ?_⟩, hs, by rw [List.length_map]; omega, fun wd H16 nw mw B16 b16 => ?_⟩
      · obtain ⟨b, hb, rfl⟩ := List.mem_map.mp hx
        exact (r14.ok b hb).name
      have b1416 := (Same.bq S15).trans b16
      have r16 := r14.go B16 b1416
      have hL16 := hL14.bq r14.box b1416
      clear hD S15 B15 b16 b1416 r14 hL14
      refine ⟨.ref β.p, rfl, β, 4, rfl, B16, by decide, by decide, fun se H17 se0 se1 B17 b17 => ?_⟩
      refine ⟨.ref β.p, rfl, β, 6, rfl, B17, by decide, by decide, fun to H18 to0 to1 B18 b18 => ⟨by show 2 ≤ sizeLine; decide, fun L nL => ?_⟩⟩
      have r18 := (r16.go B17 b17).go B18 b18
      have hL18 := (hL16.bq r16.box b17).bq B17 b18
      have S19 := same_upd (o := .lst [V.int se, .int to]) nL
      have hS : L2.upd H18 L (.lst [V.int se, .int to]) L = some (.lst [V.int se, .int to]) := upd_same
      have r19 := r18.go (r18.box.same S19) (Same.bq S19)
      have hL19 := hL18.bq r18.box (Same.bq S19)
      generalize L2.upd H18 L (.lst [V.int se, .int to]) = H19 at hS r19 hL19 S19
      clear S19 r18 r16 hL18 hL16 B16 B17 B18 b17 b18
      refine ⟨.ref R, rfl, .inl ⟨rfl, _, sqOf r19.rows.l⟩, .int ba, rfl, .int (tk + x), rfl, _, _, rfl, rfl, .str wd, rfl, .ref l, rfl, .int he, rfl, l, _, _, .str ks[ja], rfl, rfl, sqOf hL19.l, at_n hja (strs_at la), .ref l, rfl, _, rfl, l, _, _, .str ks[jg], rfl, rfl, sqOf hL19.l, at_n (eth.symm.trans hjg) (strs_at lg), .int ba, rfl, .int (tk + x + 1 + ls), rfl, _, _, rfl, rfl, .int xt, rfl, .ref L, rfl, L, _, 0, .int se, rfl, rfl, sqOf hS, rfl, .ref L, rfl, L, _, 1, .int to, rfl, rfl, sqOf hS, rfl, by show 8 ≤ sizeLine; decide, fun T nT => ?_⟩
      obtain ⟨t, et⟩ : ∃ t : Tr, t = ⟨wd, ks[ja], ks[jg], ba + (tk + x), ba + (tk + x + 1 + ls), xt, se, to⟩ := ⟨_, rfl⟩
      have okt : TrOk ks t := by
        rw [et]
        exact ⟨nw, List.getElem_mem _, List.getElem_mem _, sne, by show 0 ≤ ba + (tk + x); omega, by show ba + (tk + x) ≤ 2 ^ 40; omega, by show ba + (tk + x) < ba + (tk + x + 1 + ls); omega, by show ba + (tk + x + 1 + ls) ≤ ba + (tk + x) + 300; omega, xb2.1, by show xt ≤ 200; omega, se0, by show se ≤ 100; omega, to0, by show to ≤ 100; omega⟩
      have S20 := same_upd (o := .tup (rwT t)) nT
      have mw' : t.name ∉ bs.map fun b => b.2.name := by rw [et]; exact mw
      obtain ⟨hR6, r21⟩ := r19.put oR nR (T := T) (t := t) (H1 := L2.upd H19 T (.tup (rwT t))) upd_same okt mw' (r19.box.same S20) (Same.bq S20)
      rw [et] at hR6 r21
      refine ⟨R, _, .ref T, rfl, rfl, hR6, by rw [List.length_map]; exact small1000' (by omega), ?_⟩
      have lbs : (bs ++ [(T, (⟨wd, ks[ja], ks[jg], ba + (tk + x), ba + (tk + x + 1 + ls), xt, se, to⟩ : Tr))]).length = i + 1 := by rw [List.length_append, lb]; rfl
      have h9' : ∀ b ∈ bs ++ [(T, (⟨wd, ks[ja], ks[jg], ba + (tk + x), ba + (tk + x + 1 + ls), xt, se, to⟩ : Tr))], b.2.lands ≤ b.2.leaves + 9 := fun b hb => by
        rcases List.mem_append.mp hb with hb | hb
        · exact h9 b hb
        · rw [List.mem_singleton.mp hb]
          show ba + (tk + x + 1 + ls) ≤ ba + (tk + x) + 9
          omega
      refine ⟨.ref β.p, rfl, β, 4, rfl, r21.box, by decide, by decide, fun v2 H22 v0' v1' B22 b22 => ⟨v2, 0, rfl, rfl, _, rfl, ite2 (fun _ => ?_) (fun _ => ?_)⟩⟩
      · have r22 := r21.go B22 b22
        refine ⟨_, rfl, .int (tk + x + 1 + ls), rfl, .int (tk + x + 1 + ls), rfl, .int xt, rfl, _, _, rfl, rfl, .int (tk + x + 1 + ls), rfl, _, 1, rfl, rfl, .int (tk + x), rfl, by show 4 ≤ sizeLine; decide, fun L nL => ?_⟩
        obtain ⟨B23, k23⟩ := disp [tk + x + 1 + ls, tk + x + 1 + ls + xt, tk + x + 1 + ls + 1, tk + x] r22.box nL
        refine ⟨.ref β.p, rfl, β, 4, rfl, B23, by decide, by decide, fun u H24 u0 u1 B24 b24 => ?_⟩
        obtain ⟨hD, b2224⟩ := k23 H24 b24
        obtain ⟨y, my, ey⟩ := pickI [tk + x + 1 + ls, tk + x + 1 + ls + xt, tk + x + 1 + ls + 1, tk + x] u0 u1
        have yb : 0 ≤ y ∧ y ≤ tk + 300 := by
          simp only [List.mem_cons, List.not_mem_nil, or_false] at my
          omega
        refine ⟨L, _, u, .int y, rfl, rfl, sqOf hD, ey, ?_⟩
        exact ⟨_, y, _, _, _, _, _, _, _, _, rfl, g0, by rw [← len]; exact g1, yb.1, by omega, r22.go B24 b2224, lbs, h9'⟩
      · exact ⟨he, tk, _, _, _, _, _, _, _, _, rfl, e0, e1, t0, by omega, r21.go B22 b22, lbs, h9'⟩
    · rintro σ H1 ⟨he, tk, bs, y9, y10, y11, y12, y13, y14, y15, rfl, e0, e1, t0, t1, r1, lb, h9⟩
      refine ⟨.ref R, rfl, rows_sorted r1.rows r1.nd fun r cs nr pm so hr => ?_⟩
      refine q r cs _ (r1.bq.free hB r1.box nr) ⟨r1.box.new nr, r1.bq.put (r1.bq.free hB r1.box nr), hr, fun b hb => r1.ok b (pm.mem_iff.mp hb), (pm.map fun b => b.2.name).nodup_iff.mpr r1.nd⟩ so (by rw [pm.length_eq]; omega) (fun b hb => h9 b (pm.mem_iff.mp hb))
end
end Tb
set_option maxHeartbeats 2000000
namespace Tb
open PySem PySem.Spec PyProof.Rows L2
open PySem.W (AllAlike Sortable dataLe dataLt TotalLe)
open LamX (Tabs TabS ExtN TabB CodeO)
abbrev sAsked : Stmt := topS 53
abbrev NAsked : List Str := ["way", "network", "start", "goal", "tick"]
theorem scAsked : FnScope NAsked ["way", "network", "start", "goal", "tick"] (defScope sAsked) := ⟨rfl, rfl, rfl, by decide +kernel, rfl, by decide +kernel, by decide +kernel⟩
abbrev sUnk2 : Stmt := topS 54
abbrev NUnk2 : List Str := ["way", "network", "start", "goal", "tick", "word", "raised"]
theorem scUnk2 : FnScope NUnk2 ["way", "network", "start", "goal", "tick", "word"] (defScope sUnk2) := ⟨rfl, rfl, rfl, by decide +kernel, rfl, by decide +kernel, by decide +kernel⟩
section
variable {P : Program} {w : World} {K : PySem.W.Frag} {mg : Str → Option Value} {base : Heap} {C CS CT P1 CI CU gI gU CP c1 c2 c3 c4 c5 c6 : Addr} {gdI gdU : FuncData}
abbrev CSoonest (P : Program) (w : World) (K : PySem.W.Frag) (mg : Str → Option Value) (base : Heap) (C CS CT CU : Addr) (g : Addr) (gd : FuncData) := C1X P w K mg base "soonest" sSoonest ["network", "start", "goal", "tick"] 6 (spAns C CS CT CU (arr land1)) g gd
abbrev CSurely (P : Program) (w : World) (K : PySem.W.Frag) (mg : Str → Option Value) (base : Heap) (C CS CT CU : Addr) (g : Addr) (gd : FuncData) := C1X P w K mg base "surely" sSurely ["network", "start", "goal", "tick"] 6 (spAns C CS CT CU (arr land2)) g gd
abbrev CLastC (P : Program) (w : World) (K : PySem.W.Frag) (mg : Str → Option Value) (base : Heap) (C CS CT CU : Addr) (g : Addr) (gd : FuncData) := C1X P w K mg base "last_chance" sLastC ["network", "start", "goal", "by"] 6 (spAns C CS CT CU (fun ts s g bd => lc g bd ts s)) g gd
def spAsked (C CS CT CU : Addr) : Sp := fun vs H Q E => ∃ (k : Int) (n : Addr) (ss : List (Addr × Si)) (ts : List (Addr × Tr)) (s g z : Str) (tk : Int), vs = [.int k, .ref n, .str s, .str g, .int tk] ∧ NwAt C CS CT H n ss ts ∧ 0 ≤ tk ∧ (∀ t ∈ ts.map (·.2), Tk t) ∧ bad (nmsS ss) s g z ∧ ∀ e H', Same H H' → H' e = some (.xd [(wName, .str z)]) → E (.ref CU) (some e) H'
theorem bad_not {nm : List Str} {s g z : Str} (h : bad nm s g z) : s ∈ nm → g ∈ nm → False := fun h1 h2 => by
  rcases h with ⟨_, h⟩ | ⟨_, _, h⟩
  · exact h h1
  · exact h h2
theorem bad_one {nm : List Str} {s g z y : Str} (h : bad nm s g z) (h2 : bad nm s g y) : y = z := by
  rcases h with ⟨e, n⟩ | ⟨m, e, n⟩ <;> rcases h2 with ⟨e2, n2⟩ | ⟨m2, e2, n2⟩
  · rw [e, e2]
  · exact absurd m2 n
  · exact absurd m n2
  · rw [e, e2]
theorem ok_asked {f g1 g2 g3 : Addr} {fd gd1 gd2 gd3 : FuncData} (F : Fun K "_law_asked" "_law_asked" sAsked f fd) (cSoonest : CSoonest P w K mg base C CS CT CU g1 gd1) (cSurely : CSurely P w K mg base C CS CT CU g2 gd2) (cLastC : CLastC P w K mg base C CS CT CU g3 gd3) :
    FnOk P w K mg base (L2.CX P w) 7 f fd ["way", "network", "start", "goal", "tick"] (spAsked C CS CT CU) := by
  refine F.okX scAsked (fun vs H Q E h => ?_) (fun cdv A outer s H vs Q E hr h => ?_)
  · obtain ⟨k, n, ss, ts, s, g, z, tk, rfl, _⟩ := h
    rfl
  · obtain ⟨k, n, ss, ts, s, g, z, tk, rfl, hN, t0, hT, hb, qU⟩ := h
    refine ⟨_, (pss_cons (ps_if (pt_cmpR op_eq (pv 0) pe_int (nomark _))
        (pss_one (ps_ret (pe_call cSoonest.G (hr.mono (by first | decide | omega)) (by rfl) cSoonest.D.g cSoonest.D.F.kp cSoonest.D.b .nil (passes_call (takes_of rfl rfl rfl rfl) fun _ _ _ _ h => h) (pa_cons (pv 1) (pa_cons (pv 2) (pa_cons (pv 3) (pa_cons (pv 4) pa_nil)))))))
        pss_nil)
      (pss_cons (ps_if (pt_cmpR op_eq (pv 0) pe_int (nomark _))
        (pss_one (ps_ret (pe_call cSurely.G (hr.mono (by first | decide | omega)) (by rfl) cSurely.D.g cSurely.D.F.kp cSurely.D.b .nil (passes_call (takes_of rfl rfl rfl rfl) fun _ _ _ _ h => h) (pa_cons (pv 1) (pa_cons (pv 2) (pa_cons (pv 3) (pa_cons (pv 4) pa_nil)))))))
        pss_nil)
      (pss_one (ps_ret (pe_call cLastC.G (hr.mono (by first | decide | omega)) (by rfl) cLastC.D.g cLastC.D.F.kp cLastC.D.b .nil (passes_call (takes_of rfl rfl rfl rfl) fun _ _ _ _ h => h) (pa_cons (pv 1) (pa_cons (pv 2) (pa_cons (pv 3) (pa_cons (pv 4) pa_nil))))))))), ?_⟩
    have un : ∀ y, bad (nmsS ss) s g y → ∀ e H', Same H H' → H' e = some (.xd [(wName, .str y)]) → E (.ref CU) (some e) H' := fun y hy => by rw [bad_one hb hy]; exact qU
    refine ⟨.int k, rfl, rfl, _, rfl, ite2 (fun _ => ?_) (fun _ => ?_)⟩
    · exact ⟨.ref n, rfl, .str s, rfl, .str g, rfl, .int tk, rfl, n, ss, ts, s, g, tk, rfl, hN, t0, hT, fun m1 m2 => (bad_not hb m1 m2).elim, un⟩
    refine ⟨.int k, rfl, rfl, _, rfl, ite2 (fun _ => ?_) (fun _ => ?_)⟩
    · exact ⟨.ref n, rfl, .str s, rfl, .str g, rfl, .int tk, rfl, n, ss, ts, s, g, tk, rfl, hN, t0, hT, fun m1 m2 => (bad_not hb m1 m2).elim, un⟩
    · exact ⟨.ref n, rfl, .str s, rfl, .str g, rfl, .int tk, rfl, n, ss, ts, s, g, tk, rfl, hN, t0, hT, fun m1 m2 => (bad_not hb m1 m2).elim, un⟩
abbrev CAsked (P : Program) (w : World) (K : PySem.W.Frag) (mg : Str → Option Value) (base : Heap) (C CS CT CU : Addr) (g : Addr) (gd : FuncData) := C1X P w K mg base "_law_asked" sAsked ["way", "network", "start", "goal", "tick"] 7 (spAsked C CS CT CU) g gd
def spUnk (C CS CT : Addr) : Sp := fun vs H Q _ => ∃ (k : Int) (n : Addr) (ss : List (Addr × Si)) (ts : List (Addr × Tr)) (s g z : Str) (tk : Int), vs = [.int k, .ref n, .str s, .str g, .int tk, .str z] ∧ NwAt C CS CT H n ss ts ∧ 0 ≤ tk ∧ (∀ t ∈ ts.map (·.2), Tk t) ∧ bad (nmsS ss) s g z ∧ ∀ H', Same H H' → Q (.bl true) H'
theorem ok_unkn {f g2 g3 : Addr} {fd gd2 gd3 : FuncData} (F : Fun K "_law_unknown" "_law_unknown" sUnk2 f fd) (cAsked : CAsked P w K mg base C CS CT CU g2 gd2) (DS : Dd K mg "_law_same" sLSame ["actual", "due"] g3 gd3) (R : EInv K mg CI gI gdI) (U : EUnk K mg CU gU gdU) (Er : Errs mg CP c1 c2 c3 c4 c5 c6) (kd : OfCls K CU CI CP c1 c2 c3 c4 c5 c6) (B : Blt mg) : FnOk P w K mg base CX0 8 f fd ["way", "network", "start", "goal", "tick", "word"] (spUnk C CS CT) := by
  have FS : FnP P w K mg base 1 g3 gd3 ["actual", "due"] spSameH := ok_sameH DS.F B
  refine F.ok scUnk2 (fun vs H Q E h => ?_) (fun cdv A outer s H vs Q E hr h => ?_)
  · obtain ⟨k, n, ss, ts, s, g, z, tk, rfl, _⟩ := h
    rfl
  · obtain ⟨k, n, ss, ts, s, g, zz, tk, rfl, hN, t0, hT, hb, q⟩ := h
    refine ⟨_, pss_cons (ps_try_as (i := 6) rfl rfl scUnk2.nd rfl rfl ⟨rfl, by decide, .inl Er.gP⟩ takes0
        (fun W pn xe tk _ => pss_one (ps_expr (pe_callS cAsked.G (hr.mono (by first | decide | omega)) (by rfl) cAsked.D.g cAsked.D.F.kp cAsked.D.b (fun σ => passAt tk σ) (pa_cons (pv 0) (pa_cons (pv 1) (pa_cons (pv 2) (pa_cons (pv 3) (pa_cons (pv 4) pa_nil))))))))
        (fun a oe cls d pn hz hf => pss_cons (ps_if (pt_val (pe_callB (id := "isinstance") (r := rIsXT K CU a cls d) (call_isXT U.T hz hf) (by rfl) B.isi (by decide +kernel) (pa_cons (pv 6) (pa_cons (pe_tup (pa_cons (pe_glob (by rfl) R.g (v := .ref CI) rfl) (pa_cons (pe_glob (by rfl) Er.g1 (v := .ref c1) rfl) (pa_cons (pe_glob (by rfl) Er.g2 (v := .ref c2) rfl) (pa_cons (pe_glob (by rfl) Er.g3 (v := .ref c3) rfl) (pa_cons (pe_glob (by rfl) Er.g4 (v := .ref c4) rfl) (pa_cons (pe_glob (by rfl) Er.g5 (v := .ref c5) rfl) (pa_cons (pe_glob (by rfl) Er.g6 (v := .ref c6) rfl) pa_nil)))))))) pa_nil)))) (pss_one (ps_ret pe_bl)) pss_nil)
          (pss_cons (ps_if (PW.pt (pw_or (pt_not (pt_val (pe_callB (id := "isinstance") (r := rIsX K CU a cls d) (call_isX U.T hz hf) (by rfl) B.isi (by decide +kernel) (pa_cons (pv 6) (pa_cons (pe_glob (by rfl) U.g (v := .ref CU) rfl) pa_nil))))) (pw_or1 (pt_not (pt_val (pe_callB (id := "isinstance") (r := rIsX K CU a cls d) (call_isX U.T hz hf) (by rfl) B.isi (by decide +kernel) (pa_cons (pv 6) (pa_cons (pe_bltn (by rfl) Er.ve (by decide +kernel) (v := .ty "ValueError") (u := .type "ValueError") rfl) pa_nil)))))))) (pss_one (ps_ret pe_bl)) pss_nil)
          (pss_one (ps_ret (pe_callP hz hf FS (hr.mono (by first | decide | omega)) (by rfl) DS.g DS.F.kp DS.b (pa_cons (pe_xf U.T.xf U.T.no hz hf (pv 6)) (pa_cons (pv 5) pa_nil))))))))
      (pss_one (ps_ret pe_bl)), ?_⟩
    refine ⟨.int k, rfl, .ref n, rfl, .str s, rfl, .str g, rfl, .int tk, rfl, k, n, ss, ts, s, g, zz, tk, rfl, hN, t0, hT, hb, fun e H1 S1 he => ?_⟩
    refine ⟨true, kd.ex, fun _ a ha => ?_, fun z => by cases z⟩
    clear ha
    refine ⟨.ref a, rfl, by show 7 ≤ sizeLine; decide, fun tp ntp => ?_⟩
    have he2 : (upd H1 tp (.tup [.ref CI, .ref c1, .ref c2, .ref c3, .ref c4, .ref c5, .ref c6])) e = some (.xd [(wName, .str zz)]) := by rw [upd_ne (ne_of_none he ntp)]; exact he
    refine ⟨rfl, tp, _, [.ref CI, .ref c1, .ref c2, .ref c3, .ref c4, .ref c5, .ref c6], false, e, _, rfl, upd_same, .cons (.own _) (.cons (.own _) (.cons (.own _) (.cons (.own _) (.cons (.own _) (.cons (.own _) (.cons (.own _) .nil)))))), rfl, he2, kd.kO, false, rfl, ite2 (fun z => by cases z) (fun _ => ?_)⟩
    have S2 : Same H _ := S1.trans (same_upd (o := .tup [.ref CI, .ref c1, .ref c2, .ref c3, .ref c4, .ref c5, .ref c6]) ntp)
    generalize upd H1 tp (.tup [.ref CI, .ref c1, .ref c2, .ref c3, .ref c4, .ref c5, .ref c6]) = H2 at he2 S2
    refine ⟨.ref a, rfl, rfl, .ref CU, .ref CU, true, e, _, rfl, .own _, rfl, he2, kd.kS, true, rfl, ite2 (fun z => by cases z) (fun _ => ?_)⟩
    refine ⟨.ref a, rfl, rfl, .ty "ValueError", .type "ValueError", true, e, _, rfl, .ty _, rfl, he2, kd.kV, true, rfl, ite2 (fun z => by cases z) (fun _ => ?_)⟩
    have lw : List.lookup wName [(wName, V.str zz)] = some (.str zz) := rfl
    refine ⟨.ref a, rfl, rfl, rfl, e, _, .str zz, rfl, he2, lw, .str zz, rfl, fun oe _ _ => ⟨zz, rfl, q H2 S2⟩⟩
end
end Tb
set_option maxHeartbeats 2000000
namespace Tb
open PySem PySem.Spec PyProof.Rows L2
open PySem.W (AllAlike Sortable dataLe dataLt TotalLe)
open LamX (Tabs TabS ExtN TabB CodeO)
abbrev sAnswers : Stmt := topS 51
abbrev NAnswers : List Str := ["network", "rides", "start", "goal", "base", "by", "worth", "last", "tick", "told"]
theorem scAnswers : FnScope NAnswers ["network", "rides", "start", "goal", "base", "by"] (defScope sAnswers) := ⟨rfl, rfl, rfl, by decide +kernel, rfl, by decide +kernel, by decide +kernel⟩
theorem oV_smp (o : OI) : Smp (oV o) := by
  cases o with
  | none => exact .inl rfl
  | some x => exact .inr (.inr ⟨x, rfl⟩)
section
variable {P : Program} {w : World} {K : PySem.W.Frag} {mg : Str → Option Value} {base : Heap} {C CS CT P1 CI CU : Addr}
abbrev CWorth (P : Program) (w : World) (K : PySem.W.Frag) (mg : Str → Option Value) (base : Heap) (g : Addr) (gd : FuncData) := C1 P w K mg base "_law_worth" sWorth ["rides", "goal"] 2 spWorth g gd
abbrev CLSoon (P : Program) (w : World) (K : PySem.W.Frag) (mg : Str → Option Value) (base : Heap) (g : Addr) (gd : FuncData) := C1 P w K mg base "_law_soonest" sLSoon ["rides", "start", "goal", "tick"] 1 spLSoon g gd
abbrev CLLast (P : Program) (w : World) (K : PySem.W.Frag) (mg : Str → Option Value) (base : Heap) (g : Addr) (gd : FuncData) := C1 P w K mg base "_law_last" sLLast ["worth", "rides", "start", "goal", "by"] 2 spLLast g gd
abbrev CLTicks (P : Program) (w : World) (K : PySem.W.Frag) (mg : Str → Option Value) (base : Heap) (g : Addr) (gd : FuncData) := C1 P w K mg base "_law_ticks" sLTicks ["rides", "base", "by"] 1 spLTicks g gd
structure NetR (C CS CT : Addr) (H : Hp) (n r : Addr) (ss : List (Addr × Si)) (ts bs : List (Addr × Tr)) : Prop where
  n : NwAt C CS CT H n ss ts
  r : RowsAt H r bs
  e : ts.map (·.2) = bs.map (·.2)
  k : ∀ t ∈ bs.map (·.2), Tk t
  a : ∀ b ∈ bs, 0 ≤ b.2.late ∧ b.2.late ≤ 200
  l : bs.length ≤ 90
theorem NetR.ext {C CS CT : Addr} {H H' : Hp} {n r : Addr} {ss : List (Addr × Si)} {ts bs : List (Addr × Tr)} (h : NetR C CS CT H n r ss ts bs) (S : ExtN H H') : NetR C CS CT H' n r ss ts bs := ⟨h.n.ext S, ⟨S _ _ h.r.l nofun, fun c hc => S _ _ (h.r.t c hc) nofun⟩, h.e, h.k, h.a, h.l⟩
theorem NetR.bq {C CS CT : Addr} {H H' : Hp} {β : Bw} {n r : Addr} {ss : List (Addr × Si)} {ts bs : List (Addr × Tr)} (h : NetR C CS CT H n r ss ts bs) (B : BoxAt H β) (b : Bq β H H') : NetR C CS CT H' n r ss ts bs := ⟨h.n.bq B b, h.r.bq B b, h.e, h.k, h.a, h.l⟩
def spAnswers (C CS CT : Addr) : Sp := fun vs H Q _ => ∃ (n r : Addr) (ss : List (Addr × Si)) (ts bs : List (Addr × Tr)) (s g : Str) (ba bd : Int), vs = [.ref n, .ref r, .str s, .str g, .int ba, .int bd] ∧ NetR C CS CT H n r ss ts bs ∧ s ∈ nmsS ss ∧ g ∈ nmsS ss ∧ 0 ≤ ba ∧ 0 ≤ bd ∧ ∀ H', Same H H' → Q (.bl true) H'
theorem ok_answers {f g1 g2 g3 g4 g5 g6 g7 g8 g9 : Addr} {fd gd1 gd2 gd3 gd4 gd5 gd6 gd7 gd8 gd9 : FuncData} (F : Fun K "_law_answers" "_law_answers" sAnswers f fd) (cWorth : CWorth P w K mg base g1 gd1) (cLastC : CLastC P w K mg base C CS CT CU g2 gd2) (cLSame : CLSame P w K mg base g3 gd3) (cLLast : CLLast P w K mg base g4 gd4) (cLTicks : CLTicks P w K mg base g5 gd5) (cSoonest : CSoonest P w K mg base C CS CT CU g6 gd6) (cLSoon : CLSoon P w K mg base g7 gd7) (cSurely : CSurely P w K mg base C CS CT CU g8 gd8) (cValue : CValue P w K mg base g9 gd9) (B : Blt mg) :
    FnOk P w K mg base CX0 8 f fd ["network", "rides", "start", "goal", "base", "by"] (spAnswers C CS CT) := by
  refine F.ok scAnswers (fun vs H Q E h => ?_) (fun cdv A outer s H vs Q E hr h => ?_)
  · obtain ⟨n, r, ss, ts, bs, s, g, ba, bd, rfl, _⟩ := h
    rfl
  · obtain ⟨n, r, ss, ts, bs, s, g, ba, bd, rfl, hN, ms, mg', a0, d0, q⟩ := h
    refine ⟨_, (pss_cons (ps_set (i := 6) scAnswers.nd rfl (.inl rfl) (pe_call cWorth.G (hr.mono (by first | decide | omega)) (by rfl) cWorth.D.g cWorth.D.F.kp cWorth.D.b .nil pass0 (pa_cons (pv 1) (pa_cons (pv 3) pa_nil))))
      (pss_cons (ps_set (i := 7) scAnswers.nd rfl (.inl rfl) (pe_callS cLastC.G (hr.mono (by first | decide | omega)) (by rfl) cLastC.D.g cLastC.D.F.kp cLastC.D.b (fun _ => passE0) (pa_cons (pv 0) (pa_cons (pv 2) (pa_cons (pv 3) (pa_cons (pv 5) pa_nil))))))
      (pss_cons (ps_if (pt_not (pt_val (pe_call cLSame.G (hr.mono (by first | decide | omega)) (by rfl) cLSame.D.g cLSame.D.F.kp cLSame.D.b .nil pass0 (pa_cons (pv 7) (pa_cons (pe_call cLLast.G (hr.mono (by first | decide | omega)) (by rfl) cLLast.D.g cLLast.D.F.kp cLLast.D.b .nil pass0 (pa_cons (pv 6) (pa_cons (pv 1) (pa_cons (pv 2) (pa_cons (pv 3) (pa_cons (pv 5) pa_nil)))))) pa_nil)))))
        (pss_one (ps_ret pe_bl))
        pss_nil)
      (pss_cons (ps_for PassesOwn.never rfl (pi_list (pe_call cLTicks.G (hr.mono (by first | decide | omega)) (by rfl) cLTicks.D.g cLTicks.D.F.kp cLTicks.D.b .nil pass0 (pa_cons (pv 1) (pa_cons (pv 4) (pa_cons (pv 5) pa_nil))))) (pg_name (i := 8) scAnswers.nd rfl (.inl rfl))
        (pss_cons (ps_if (pt_not (pt_val (pe_call cLSame.G (hr.mono (by first | decide | omega)) (by rfl) cLSame.D.g cLSame.D.F.kp cLSame.D.b .nil pass0 (pa_cons (pe_callS cSoonest.G (hr.mono (by first | decide | omega)) (by rfl) cSoonest.D.g cSoonest.D.F.kp cSoonest.D.b (fun _ => passE0) (pa_cons (pv 0) (pa_cons (pv 2) (pa_cons (pv 3) (pa_cons (pv 8) pa_nil))))) (pa_cons (pe_call cLSoon.G (hr.mono (by first | decide | omega)) (by rfl) cLSoon.D.g cLSoon.D.F.kp cLSoon.D.b .nil pass0 (pa_cons (pv 1) (pa_cons (pv 2) (pa_cons (pv 3) (pa_cons (pv 8) pa_nil))))) pa_nil)))))
          (pss_one (ps_ret pe_bl))
          pss_nil)
        (pss_cons (ps_set (i := 9) scAnswers.nd rfl (.inl rfl) (pe_callS cSurely.G (hr.mono (by first | decide | omega)) (by rfl) cSurely.D.g cSurely.D.F.kp cSurely.D.b (fun _ => passE0) (pa_cons (pv 0) (pa_cons (pv 2) (pa_cons (pv 3) (pa_cons (pv 8) pa_nil))))))
        (pss_cons (ps_if (pt_not (pt_val (pe_call cLSame.G (hr.mono (by first | decide | omega)) (by rfl) cLSame.D.g cLSame.D.F.kp cLSame.D.b .nil pass0 (pa_cons (pv 9) (pa_cons (pe_call cValue.G (hr.mono (by first | decide | omega)) (by rfl) cValue.D.g cValue.D.F.kp cValue.D.b .nil pass0 (pa_cons (pv 6) (pa_cons (pv 2) (pa_cons (pv 3) (pa_cons (pv 8) pa_nil))))) pa_nil)))))
          (pss_one (ps_ret pe_bl))
          pss_nil)
        (pss_one (ps_if (PW.pt (pw_and (pt_cmpR op_le (pv 8) (pv 5) (nomark _)) (pw_and1 (pt_cmpR op_ne (pe_and (pe_cmpR op_notN (pv 7) pe_non (nomark _)) (pe_one (pe_cmpR op_ge (pv 7) (pv 8) (nomark _)))) (pe_and (pe_cmpR op_notN (pv 9) pe_non (nomark _)) (pe_one (pe_cmpR op_le (pv 9) (pv 5) (nomark _)))) (nomark _)))))
          (pss_one (ps_ret pe_bl))
          pss_nil))))))
      (pss_one (ps_ret pe_bl)))))), ?_⟩
    refine ⟨.ref r, rfl, .str g, rfl, r, bs, g, rfl, hN.r, hN.l, hN.a, fun W cs H1 S1 nW hW ec => ?_⟩
    have N1 := hN.ext (ext_same S1)
    have kt : ∀ t ∈ ts.map (·.2), Tk t := by rw [hN.e]; exact hN.k
    refine ⟨.ref n, rfl, .str s, rfl, .str g, rfl, .int bd, rfl, n, ss, ts, s, g, bd, rfl, N1.n, d0, kt, fun _ _ H2 S2 => ?_, fun z hz => (bad_not hz ms mg').elim⟩
    rw [hN.e]
    have N2 := N1.ext (ext_same S2)
    have W2 := hW.same S2
    refine ⟨_, rfl, .ref W, rfl, .ref r, rfl, .str s, rfl, .str g, rfl, .int bd, rfl, W, r, cs, bs, s, g, bd, rfl, W2, N2.r, hN.l, fun H3 S3 => ?_⟩
    rw [ec, ← lc_last hN.k]
    refine .inl ⟨_, rfl, oV_smp _, _, rfl, ite2 (fun z => by cases z) (fun _ => ?_)⟩
    have N3 := N2.ext (ext_same S3)
    have W3 := W2.same S3
    refine ⟨.ref r, rfl, .int ba, rfl, .int bd, rfl, r, bs, ba, bd, rfl, N3.r, hN.l, a0, d0, fun b hb => (hN.k b.2 (List.mem_map.mpr ⟨b, hb, rfl⟩)).a, fun D ks H4 S4 hD k0 lk => ?_⟩
    have N4 := N3.ext (ext_same S4)
    have W4 := W3.same S4
    have S04 := ((S1.trans S2).trans S3).trans S4
    refine ⟨D, rfl, ⟨_, sqOf hD⟩, ?_⟩
    refine for_list (a := D) (xs := ks.map V.int) (fun i σ H5 => Same H4 H5 ∧ ∃ y8 y9, σ = [some (.ref n), some (.ref r), some (.str s), some (.str g), some (.int ba), some (.int bd), some (.ref W), some (oV (lc g bd (bs.map (·.2)) s)), y8, y9]) ⟨.refl _, none, none, rfl⟩ (fun i σ H5 _ hP => sqOf (hP.1 _ _ hD)) (fun i v σ H5 ev hP => ?_) (fun σ H5 hP => q H5 (S04.trans hP.1))
    obtain ⟨S5, y8, y9, rfl⟩ := hP
    rw [List.getElem?_map] at ev
    obtain ⟨x, ex, rfl⟩ := Option.map_eq_some_iff.mp ev
    have x0 := k0 x (List.mem_of_getElem? ex)
    have N5 := N4.ext (ext_same S5)
    have W5 := W4.same S5
    refine ⟨.ref n, rfl, .str s, rfl, .str g, rfl, .int x, rfl, n, ss, ts, s, g, x, rfl, N5.n, x0, kt, fun _ _ H6 S6 => ?_, fun z hz => (bad_not hz ms mg').elim⟩
    rw [hN.e, arr_soon hN.k]
    have N6 := N5.ext (ext_same S6)
    refine ⟨.ref r, rfl, .str s, rfl, .str g, rfl, .int x, rfl, r, bs, s, g, x, rfl, N6.r, hN.l, fun H7 S7 => .inl ⟨_, rfl, oV_smp _, _, rfl, ite2 (fun z => by cases z) (fun _ => ?_)⟩⟩
    have N7 := N6.ext (ext_same S7)
    refine ⟨.ref n, rfl, .str s, rfl, .str g, rfl, .int x, rfl, n, ss, ts, s, g, x, rfl, N7.n, x0, kt, fun _ _ H8 S8 => ?_, fun z hz => (bad_not hz ms mg').elim⟩
    rw [hN.e, arr_val hN.k]
    have W8 := ((W5.same S6).same S7).same S8
    refine ⟨_, rfl, .ref W, rfl, .str s, rfl, .str g, rfl, .int x, rfl, W, cs, s, g, x, rfl, W8, ?_⟩
    rw [ec]
    refine .inl ⟨_, rfl, oV_smp _, _, rfl, ite2 (fun z => by cases z) (fun _ => ?_)⟩
    have S58 := ((S5.trans S6).trans S7).trans S8
    have li := lc_iff (g := g) (bd := bd) hN.k s x
    refine ⟨.int x, rfl, .int bd, rfl, _, _, rfl, rfl, _, rfl, ite2 (fun _ => ?_) (fun _ => ⟨S58, _, _, rfl⟩)⟩
    generalize lc g bd (bs.map (·.2)) s = o1 at li
    generalize val (wor g (bs.map (·.2))) s g x = o2 at li
    have same : ∀ b1 b2 : Bool, b1 = b2 → ¬ (!decide (V.bl b1 = V.bl b2)) = true := fun b1 b2 e => by rw [e]; simp
    cases o1 with
    | none =>
      refine ⟨.non, rfl, rfl, _, rfl, ite2 (fun z => by cases z) (fun _ => ?_)⟩
      cases o2 with
      | none => exact ⟨.non, rfl, rfl, _, rfl, ite2 (fun z => by cases z) (fun _ => ⟨rfl, _, rfl, ite2 (fun z => by cases z) (fun _ => ⟨S58, _, _, rfl⟩)⟩)⟩
      | some v =>
        refine ⟨.int v, rfl, rfl, _, rfl, ite2 (fun _ => ⟨.int v, rfl, .int bd, rfl, _, _, rfl, rfl, rfl, _, rfl, ite2 (fun z => ?_) (fun _ => ⟨S58, _, _, rfl⟩)⟩) (fun z => absurd rfl z)⟩
        refine absurd z (same _ _ (decide_eq_false fun h => ?_).symm)
        obtain ⟨u, e, _⟩ := li.mp ⟨v, rfl, h⟩
        cases e
    | some u =>
      refine ⟨.int u, rfl, rfl, _, rfl, ite2 (fun _ => ⟨.int u, rfl, .int x, rfl, _, _, rfl, rfl, ?_⟩) (fun z => absurd rfl z)⟩
      cases o2 with
      | none =>
        refine ⟨.non, rfl, rfl, _, rfl, ite2 (fun z => by cases z) (fun _ => ⟨rfl, _, rfl, ite2 (fun z => ?_) (fun _ => ⟨S58, _, _, rfl⟩)⟩)⟩
        refine absurd z (same _ _ (decide_eq_false fun h => ?_))
        exact ole_none (li.mpr ⟨u, rfl, h⟩)
      | some v =>
        refine ⟨.int v, rfl, rfl, _, rfl, ite2 (fun _ => ⟨.int v, rfl, .int bd, rfl, _, _, rfl, rfl, rfl, _, rfl, ite2 (fun z => ?_) (fun _ => ⟨S58, _, _, rfl⟩)⟩) (fun z => absurd rfl z)⟩
        refine absurd z (same _ _ (Bool.eq_iff_iff.mpr ⟨fun h => decide_eq_true ?_, fun h => decide_eq_true ?_⟩))
        · exact ole_some.mp (li.mpr ⟨u, rfl, of_decide_eq_true h⟩)
        · obtain ⟨u', e, h2⟩ := li.mp (ole_some.mpr (of_decide_eq_true h))
          cases e
          exact h2
end
end Tb
set_option maxHeartbeats 2000000
namespace Tb
open PySem PySem.Spec PyProof.Rows L2
open PySem.W (AllAlike Sortable dataLe dataLt TotalLe)
open LamX (Tabs TabS ExtN TabB CodeO)
abbrev sTwins : Stmt := topS 52
abbrev NTwins : List Str := ["box", "known", "rides", "start", "goal", "tick", "worth", "sure", "first", "slow", "fast", "network", "row"]
theorem scTwins : FnScope NTwins ["box", "known", "rides", "start", "goal", "tick"] (defScope sTwins) := ⟨rfl, rfl, rfl, by decide +kernel, rfl, by decide +kernel, by decide +kernel⟩
theorem kq_keep {H H' : Hp} {β : Bw} {x : Addr} {o : HO} (B : BoxAt H β) (b : Kq β H H') (e : H x = some o) (n : NI o) (t : ∀ ps, o ≠ .tbl ps) : H' x = some o := b x o e t (B.ne e n).1 (B.ne e n).2
theorem srt_map {f : Tr → Tr} (e1 : ∀ t, (f t).leaves = t.leaves) (e2 : ∀ t, (f t).name = t.name) {ts : List Tr} (h : Srt ts) : Srt (ts.map f) := by
  refine List.pairwise_map.mpr (h.imp fun {a b} h => ?_)
  unfold ltT
  rw [e1, e1, e2, e2]
  exact h
/-- rows made anew of rows -/
theorem rows_of {H : Hp} {D : Addr} {ps : List (Addr × Addr × Tr)} {f : Tr → Tr} (hD : H D = some (.lst (ps.map fun p => V.ref p.1))) (h : ∀ p ∈ ps, H p.1 = some (.tup (rwT (f p.2.2)))) : RowsAt H D (ps.map fun p => (p.1, f p.2.2)) := ⟨by rw [hD, List.map_map]; rfl, fun c hc => by
  obtain ⟨p, hp, rfl⟩ := List.mem_map.mp hc
  exact h p hp⟩
section
variable {P : Program} {w : World} {K : PySem.W.Frag} {mg : Str → Option Value} {base : Heap} {C CS CT P1 CI CU : Addr}
abbrev CLNet (P : Program) (w : World) (K : PySem.W.Frag) (mg : Str → Option Value) (base : Heap) (C CS CT P1 : Addr) (g : Addr) (gd : FuncData) := C1 P w K mg base "_law_network" sLNet ["box", "known", "rides"] 9 (spLNet C CS CT P1) g gd
def spTwins (C CS CT P1 : Addr) : Sp := fun vs H Q _ => ∃ (β : Bw) (kl r : Addr) (ks : List Str) (bs : List (Addr × Tr)) (s g : Str) (tk : Int), vs = [.ref β.p, .ref kl, .ref r, .str s, .str g, .int tk] ∧ BoxAt H β ∧ Tabs (TT P1) H ∧ NmL H kl ks ∧ ks.Nodup ∧ ks.length ≤ 90 ∧ RowsAt H r bs ∧ (∀ b ∈ bs, TrOk ks b.2) ∧ (bs.map fun b => b.2.name).Nodup ∧ bs.length ≤ 60 ∧ Srt (bs.map (·.2)) ∧ (∀ b ∈ bs, b.2.lands ≤ b.2.leaves + 9) ∧ s ∈ ks ∧ g ∈ ks ∧ 0 ≤ tk ∧
  ∀ H', BoxAt H' β → Kq β H H' → Tabs (TT P1) H' → Q (.bl true) H'
theorem ok_twins {f g1 g2 g3 g4 g6 g7 g8 : Addr} {fd gd1 gd2 gd3 gd4 gd6 gd7 gd8 : FuncData} (F : Fun K "_law_twins" "_law_twins" sTwins f fd) (cWorth : CWorth P w K mg base g1 gd1) (cValue : CValue P w K mg base g2 gd2) (cLSame : CLSame P w K mg base g3 gd3) (cLSoon : CLSoon P w K mg base g4 gd4) (cLNet : CLNet P w K mg base C CS CT P1 g6 gd6) (cSoonest : CSoonest P w K mg base C CS CT CU g7 gd7) (cSurely : CSurely P w K mg base C CS CT CU g8 gd8) (B : Blt mg) :
    FnOk P w K mg base CX0 10 f fd ["box", "known", "rides", "start", "goal", "tick"] (spTwins C CS CT P1) := by
  refine F.ok scTwins (fun vs H Q E h => ?_) (fun cdv A outer s H vs Q E hr h => ?_)
  · obtain ⟨β, kl, r, ks, bs, s, g, tk, rfl, _⟩ := h
    rfl
  · obtain ⟨β, kl, r, ks, bs, s, g, tk, rfl, hB, hT, hK, nd, lk, hR, ok, nn, lb, so, h9, ms, mg', t0, q⟩ := h
    refine ⟨_, (pss_cons (ps_set (i := 6) scTwins.nd rfl (.inl rfl) (pe_call cWorth.G (hr.mono (by first | decide | omega)) (by rfl) cWorth.D.g cWorth.D.F.kp cWorth.D.b .nil pass0 (pa_cons (pv 2) (pa_cons (pv 4) pa_nil))))
      (pss_cons (ps_set (i := 7) scTwins.nd rfl (.inl rfl) (pe_call cValue.G (hr.mono (by first | decide | omega)) (by rfl) cValue.D.g cValue.D.F.kp cValue.D.b .nil pass0 (pa_cons (pv 6) (pa_cons (pv 3) (pa_cons (pv 4) (pa_cons (pv 5) pa_nil))))))
      (pss_cons (ps_set (i := 8) scTwins.nd rfl (.inl rfl) (pe_call cLSoon.G (hr.mono (by first | decide | omega)) (by rfl) cLSoon.D.g cLSoon.D.F.kp cLSoon.D.b .nil pass0 (pa_cons (pv 2) (pa_cons (pv 3) (pa_cons (pv 4) (pa_cons (pv 5) pa_nil))))))
      (pss_cons (ps_setLc (i := 9) (own := [("row", 12)]) (g := gName 12) (by rfl) scTwins.nd rfl rfl (sw_true rfl rfl rfl (by decide +kernel)) (pi_list (pv 2)) (blkOk_by (N := NTwins) (sc := defScope sTwins) (by decide +kernel)) (fun _ _ _ _ _ => pg_name (i := 12) scTwins.nd rfl (Or.inl rfl)) (fun _ _ _ _ _ => pts_nil) (fun _ _ _ _ _ => pe_op (r := rCatT K) op_catT (pe_op (r := rCatT K) op_catT (pe_slice (r := rSlT K) sl_tup (pv 12) po_none (po_some pe_int)) (pe_tup (pa_cons (pe_op op_add (pe_ix (r := rIxT K) ix_tup (pv 12) pe_int (fun _ _ => rfl)) (pe_ix (r := rIxT K) ix_tup (pv 12) pe_int (fun _ _ => rfl))) (pa_cons pe_int pa_nil)))) (pe_slice (r := rSlT K) sl_tup (pv 12) (po_some pe_int) po_none)))
      (pss_cons (ps_setLc (i := 10) (own := [("row", 12)]) (g := gName 12) (by rfl) scTwins.nd rfl rfl (sw_true rfl rfl rfl (by decide +kernel)) (pi_list (pv 2)) (blkOk_by (N := NTwins) (sc := defScope sTwins) (by decide +kernel)) (fun _ _ _ _ _ => pg_name (i := 12) scTwins.nd rfl (Or.inl rfl)) (fun _ _ _ _ _ => pts_nil) (fun _ _ _ _ _ => pe_op (r := rCatT K) op_catT (pe_op (r := rCatT K) op_catT (pe_slice (r := rSlT K) sl_tup (pv 12) po_none (po_some pe_int)) (pe_tup (pa_cons pe_int pa_nil))) (pe_slice (r := rSlT K) sl_tup (pv 12) (po_some pe_int) po_none)))
      (pss_cons (ps_set (i := 11) scTwins.nd rfl (.inl rfl) (pe_call cLNet.G (hr.mono (by first | decide | omega)) (by rfl) cLNet.D.g cLNet.D.F.kp cLNet.D.b .nil pass0 (pa_cons (pv 0) (pa_cons (pv 1) (pa_cons (pv 9) pa_nil)))))
      (pss_cons (ps_if (pt_not (pt_val (pe_call cLSame.G (hr.mono (by first | decide | omega)) (by rfl) cLSame.D.g cLSame.D.F.kp cLSame.D.b .nil pass0 (pa_cons (pe_callS cSoonest.G (hr.mono (by first | decide | omega)) (by rfl) cSoonest.D.g cSoonest.D.F.kp cSoonest.D.b (fun _ => passE0) (pa_cons (pv 11) (pa_cons (pv 3) (pa_cons (pv 4) (pa_cons (pv 5) pa_nil))))) (pa_cons (pv 7) pa_nil)))))
        (pss_one (ps_ret pe_bl))
        pss_nil)
      (pss_cons (ps_if (pt_not (pt_val (pe_call cLSame.G (hr.mono (by first | decide | omega)) (by rfl) cLSame.D.g cLSame.D.F.kp cLSame.D.b .nil pass0 (pa_cons (pe_callS cSurely.G (hr.mono (by first | decide | omega)) (by rfl) cSurely.D.g cSurely.D.F.kp cSurely.D.b (fun _ => passE0) (pa_cons (pv 11) (pa_cons (pv 3) (pa_cons (pv 4) (pa_cons (pv 5) pa_nil))))) (pa_cons (pv 7) pa_nil)))))
        (pss_one (ps_ret pe_bl))
        pss_nil)
      (pss_cons (ps_set (i := 11) scTwins.nd rfl (.inl rfl) (pe_call cLNet.G (hr.mono (by first | decide | omega)) (by rfl) cLNet.D.g cLNet.D.F.kp cLNet.D.b .nil pass0 (pa_cons (pv 0) (pa_cons (pv 1) (pa_cons (pv 10) pa_nil)))))
      (pss_cons (ps_if (pt_not (pt_val (pe_call cLSame.G (hr.mono (by first | decide | omega)) (by rfl) cLSame.D.g cLSame.D.F.kp cLSame.D.b .nil pass0 (pa_cons (pe_callS cSoonest.G (hr.mono (by first | decide | omega)) (by rfl) cSoonest.D.g cSoonest.D.F.kp cSoonest.D.b (fun _ => passE0) (pa_cons (pv 11) (pa_cons (pv 3) (pa_cons (pv 4) (pa_cons (pv 5) pa_nil))))) (pa_cons (pv 8) pa_nil)))))
        (pss_one (ps_ret pe_bl))
        pss_nil)
      (pss_one (ps_ret (pe_call cLSame.G (hr.mono (by first | decide | omega)) (by rfl) cLSame.D.g cLSame.D.F.kp cLSame.D.b .nil pass0 (pa_cons (pe_callS cSurely.G (hr.mono (by first | decide | omega)) (by rfl) cSurely.D.g cSurely.D.F.kp cSurely.D.b (fun _ => passE0) (pa_cons (pv 11) (pa_cons (pv 3) (pa_cons (pv 4) (pa_cons (pv 5) pa_nil))))) (pa_cons (pv 8) pa_nil))))))))))))))), ?_⟩
    have hz : sizeLine = 16777216 := rfl
    have kt : ∀ t ∈ bs.map (·.2), Tk t := fun t ht => by
      obtain ⟨b, hb, rfl⟩ := List.mem_map.mp ht
      exact ⟨(ok b hb).l0, (ok b hb).l2, (ok b hb).late0⟩
    refine ⟨.ref r, rfl, .str g, rfl, r, bs, g, rfl, hR, by omega, fun b hb => ⟨(ok b hb).late0, (ok b hb).late1⟩, fun W cs H1 S1 nW hW ec => ?_⟩
    refine ⟨.ref W, rfl, .str s, rfl, .str g, rfl, .int tk, rfl, W, cs, s, g, tk, rfl, hW, ?_⟩
    rw [ec, ← arr_val kt]
    refine ⟨.ref r, rfl, .str s, rfl, .str g, rfl, .int tk, rfl, r, bs, s, g, tk, rfl, hR.same S1, by omega, fun H2 S2 => ?_⟩
    rw [← arr_soon kt]
    have S02 := S1.trans S2
    have R2 := hR.same S02
    have wk := walk_list (K := K) (a := r) (xs := bs.map fun b => V.ref b.1)
    rw [List.length_map] at wk
    refine ⟨.ref r, rfl, r, rfl, ⟨_, sqOf R2.l⟩, fun D nD => lc_new (fun y : Addr × Tr => rwT (slowT y.2)) wk (fun H' S' => sqOf (S' _ _ R2.l)) (fun i H' v H'' h => h) nD (by omega) (fun _ => rfl) (fun c hc H3 S3 R hR' => ?_) (fun H3 ps ep S3 hD hps => ?_)⟩
    · have h3 := S3 _ _ (R2.t c hc)
      have hr8 : ∀ t : Tr, (rwT t).length = 8 := fun _ => rfl
      refine ⟨.ref c.1, rfl, 4, rfl, c.1, _, rfl, .of h3, (by decide : ¬ (HT.sIx 8 0 none = 0 ∧ HT.sIx 8 8 (some (4 : Int)) = 8)), fun X nX => ?_⟩
      have e4 : cutV (rwT c.2) none (some (4 : Int)) = [V.int c.2.leaves, .str c.2.name, .str c.2.start, .str c.2.goal] := cut_hi (rwT c.2) 4
      rw [e4]
      have T4 := same_upd (o := .tup [V.int c.2.leaves, .str c.2.name, .str c.2.start, .str c.2.goal]) nX
      have hX : L2.upd H3 X (.tup [V.int c.2.leaves, .str c.2.name, .str c.2.start, .str c.2.goal]) X = some (.tup [V.int c.2.leaves, .str c.2.name, .str c.2.start, .str c.2.goal]) := upd_same
      generalize L2.upd H3 X (.tup [V.int c.2.leaves, .str c.2.name, .str c.2.start, .str c.2.goal]) = H4 at T4 hX
      have h4 := T4 _ _ h3
      refine ⟨.ref c.1, rfl, c.1, _, 4, .int c.2.lands, rfl, rfl, .of h4, rfl, .ref c.1, rfl, c.1, _, 5, .int c.2.late, rfl, rfl, .of h4, rfl, _, _, rfl, rfl, by show 2 ≤ sizeLine; decide, fun Y nY => ?_⟩
      have T5 := same_upd (o := .tup [V.int (c.2.lands + c.2.late), .int 0]) nY
      have hY : L2.upd H4 Y (.tup [V.int (c.2.lands + c.2.late), .int 0]) Y = some (.tup [V.int (c.2.lands + c.2.late), .int 0]) := upd_same
      generalize L2.upd H4 Y (.tup [V.int (c.2.lands + c.2.late), .int 0]) = H5 at T5 hY
      refine ⟨X, Y, _, _, rfl, rfl, .of (T5 _ _ hX), .of hY, nofun, (by show 6 ≤ sizeLine; decide), fun z => (by cases z), fun _ Z nZ => ?_⟩
      have T6 := same_upd (o := .tup ([V.int c.2.leaves, .str c.2.name, .str c.2.start, .str c.2.goal] ++ [V.int (c.2.lands + c.2.late), .int 0])) nZ
      have hZ : L2.upd H5 Z (.tup ([V.int c.2.leaves, .str c.2.name, .str c.2.start, .str c.2.goal] ++ [V.int (c.2.lands + c.2.late), .int 0])) Z = some (.tup ([V.int c.2.leaves, .str c.2.name, .str c.2.start, .str c.2.goal] ++ [V.int (c.2.lands + c.2.late), .int 0])) := upd_same
      generalize L2.upd H5 Z (.tup ([V.int c.2.leaves, .str c.2.name, .str c.2.start, .str c.2.goal] ++ [V.int (c.2.lands + c.2.late), .int 0])) = H6 at T6 hZ
      have h6 := T6 _ _ (T5 _ _ h4)
      refine ⟨.ref c.1, rfl, 6, rfl, c.1, _, rfl, .of h6, (by decide : ¬ (HT.sIx 8 0 (some (6 : Int)) = 0 ∧ HT.sIx 8 8 none = 8)), fun U nU => ?_⟩
      have e6 : cutV (rwT c.2) (some (6 : Int)) none = [V.int c.2.room, .int c.2.toll] := cut_lo (rwT c.2) 6
      rw [e6]
      refine ⟨Z, U, _, _, rfl, rfl, .of ((same_upd nU) _ _ hZ), .of upd_same, nofun, (by show 8 ≤ sizeLine; decide), fun z => (by cases z), fun _ T nT => hR' T _ (((T4.trans T5).trans T6).trans ((same_upd nU).trans (same_upd nT))) upd_same⟩
    have R3 := R2.same S3
    have wk := walk_list (K := K) (a := r) (xs := bs.map fun b => V.ref b.1)
    rw [List.length_map] at wk
    refine ⟨.ref r, rfl, r, rfl, ⟨_, sqOf R3.l⟩, fun G nG => lc_new (fun y : Addr × Tr => rwT (fastT y.2)) wk (fun H' S' => sqOf (S' _ _ R3.l)) (fun i H' v H'' h => h) nG (by omega) (fun _ => rfl) (fun c hc H3 S3 R hR' => ?_) (fun H4 ps2 ep2 S4 hG hps2 => ?_)⟩
    · have h3 := S3 _ _ (R3.t c hc)
      have hr8 : ∀ t : Tr, (rwT t).length = 8 := fun _ => rfl
      refine ⟨.ref c.1, rfl, 5, rfl, c.1, _, rfl, .of h3, (by decide : ¬ (HT.sIx 8 0 none = 0 ∧ HT.sIx 8 8 (some (5 : Int)) = 8)), fun X nX => ?_⟩
      have e4 : cutV (rwT c.2) none (some (5 : Int)) = [V.int c.2.leaves, .str c.2.name, .str c.2.start, .str c.2.goal, .int c.2.lands] := cut_hi (rwT c.2) 5
      rw [e4]
      have T4 := same_upd (o := .tup [V.int c.2.leaves, .str c.2.name, .str c.2.start, .str c.2.goal, .int c.2.lands]) nX
      have hX : L2.upd H3 X (.tup [V.int c.2.leaves, .str c.2.name, .str c.2.start, .str c.2.goal, .int c.2.lands]) X = some (.tup [V.int c.2.leaves, .str c.2.name, .str c.2.start, .str c.2.goal, .int c.2.lands]) := upd_same
      generalize L2.upd H3 X (.tup [V.int c.2.leaves, .str c.2.name, .str c.2.start, .str c.2.goal, .int c.2.lands]) = H4 at T4 hX
      have h4 := T4 _ _ h3
      refine ⟨by show 1 ≤ sizeLine; decide, fun Y nY => ?_⟩
      have T5 := same_upd (o := .tup [V.int 0]) nY
      have hY : L2.upd H4 Y (.tup [V.int 0]) Y = some (.tup [V.int 0]) := upd_same
      generalize L2.upd H4 Y (.tup [V.int 0]) = H5 at T5 hY
      refine ⟨X, Y, _, _, rfl, rfl, .of (T5 _ _ hX), .of hY, nofun, (by show 6 ≤ sizeLine; decide), fun z => (by cases z), fun _ Z nZ => ?_⟩
      have T6 := same_upd (o := .tup ([V.int c.2.leaves, .str c.2.name, .str c.2.start, .str c.2.goal, .int c.2.lands] ++ [V.int 0])) nZ
      have hZ : L2.upd H5 Z (.tup ([V.int c.2.leaves, .str c.2.name, .str c.2.start, .str c.2.goal, .int c.2.lands] ++ [V.int 0])) Z = some (.tup ([V.int c.2.leaves, .str c.2.name, .str c.2.start, .str c.2.goal, .int c.2.lands] ++ [V.int 0])) := upd_same
      generalize L2.upd H5 Z (.tup ([V.int c.2.leaves, .str c.2.name, .str c.2.start, .str c.2.goal, .int c.2.lands] ++ [V.int 0])) = H6 at T6 hZ
      have h6 := T6 _ _ (T5 _ _ h4)
      refine ⟨.ref c.1, rfl, 6, rfl, c.1, _, rfl, .of h6, (by decide : ¬ (HT.sIx 8 0 (some (6 : Int)) = 0 ∧ HT.sIx 8 8 none = 8)), fun U nU => ?_⟩
      have e6 : cutV (rwT c.2) (some (6 : Int)) none = [V.int c.2.room, .int c.2.toll] := cut_lo (rwT c.2) 6
      rw [e6]
      refine ⟨Z, U, _, _, rfl, rfl, .of ((same_upd nU) _ _ hZ), .of upd_same, nofun, (by show 8 ≤ sizeLine; decide), fun z => (by cases z), fun _ T nT => hR' T _ (((T4.trans T5).trans T6).trans ((same_upd nU).trans (same_upd nT))) upd_same⟩
    have memS : ∀ {qs : List (Addr × Addr × Tr)}, qs.map (·.2) = bs → ∀ p ∈ qs, p.2 ∈ bs := fun {qs} e p hp => by rw [← e]; exact List.mem_map.mpr ⟨p, hp, rfl⟩
    have esT : ∀ {qs : List (Addr × Addr × Tr)} (f : Tr → Tr), qs.map (·.2) = bs → ((qs.map fun p => (p.1, f p.2.2)).map (·.2)) = (bs.map (·.2)).map f := fun {qs} f e => by rw [← e, List.map_map, List.map_map, List.map_map]; rfl
    have enT : ∀ {qs : List (Addr × Addr × Tr)} (f : Tr → Tr), (∀ t, (f t).name = t.name) → qs.map (·.2) = bs → ((qs.map fun p => (p.1, f p.2.2)).map fun b => b.2.name) = bs.map fun b => b.2.name := fun {qs} f hf e => by
      rw [← e, List.map_map, List.map_map]
      exact List.map_congr_left fun p _ => hf _
    have elT : ∀ {qs : List (Addr × Addr × Tr)}, qs.map (·.2) = bs → qs.length ≤ 60 := fun {qs} e => by
      have := congrArg List.length e
      rw [List.length_map] at this
      omega
    have S04 := (S02.trans S3).trans S4
    have Rs : RowsAt H4 D (ps.map fun p => (p.1, slowT p.2.2)) := rows_of (S4 _ _ hD) fun p hp => S4 _ _ (hps p hp)
    have Rf : RowsAt H4 G (ps2.map fun p => (p.1, fastT p.2.2)) := rows_of hG hps2
    have B4 := hB.same S04
    have T4 := tabs_same hT S04
    have K4 : NmL H4 kl ks := ⟨S04 _ _ hK.l, hK.n⟩
    have okS : ∀ b ∈ (ps.map fun p => (p.1, slowT p.2.2)), TrOk ks b.2 := fun b hb => by
      obtain ⟨p, hp, rfl⟩ := List.mem_map.mp hb
      have o := ok _ (memS ep p hp)
      have n9 := h9 _ (memS ep p hp)
      have a1 := o.l2; have a2 := o.late0; have a3 := o.late1
      exact ⟨o.name, o.start, o.goal, o.ne, o.l0, o.l1, by show p.2.2.leaves < p.2.2.lands + p.2.2.late; omega, by show p.2.2.lands + p.2.2.late ≤ p.2.2.leaves + 300; omega, by show (0 : Int) ≤ 0; decide, by show (0 : Int) ≤ 200; decide, o.room0, o.room1, o.toll0, o.toll1⟩
    have okF : ∀ b ∈ (ps2.map fun p => (p.1, fastT p.2.2)), TrOk ks b.2 := fun b hb => by
      obtain ⟨p, hp, rfl⟩ := List.mem_map.mp hb
      have o := ok _ (memS ep2 p hp)
      exact ⟨o.name, o.start, o.goal, o.ne, o.l0, o.l1, o.l2, o.l3, by show (0 : Int) ≤ 0; decide, by show (0 : Int) ≤ 200; decide, o.room0, o.room1, o.toll0, o.toll1⟩
    have kOf : ∀ {qs : List (Addr × Tr)} {ts : List (Addr × Tr)}, ts.map (·.2) = qs.map (·.2) → (∀ b ∈ qs, TrOk ks b.2) → ∀ t ∈ ts.map (·.2), Tk t := fun {qs ts} e o t ht => by
      rw [e] at ht
      obtain ⟨b, hb, rfl⟩ := List.mem_map.mp ht
      exact ⟨(o b hb).l0, (o b hb).l2, (o b hb).late0⟩
    refine ⟨.ref β.p, rfl, .ref kl, rfl, .ref D, rfl, β, kl, D, ks, _, rfl, B4, T4, K4, nd, lk, Rs, okS, by rw [enT slowT (fun _ => rfl) ep]; exact nn, by rw [List.length_map]; have := elT ep; omega, by rw [esT slowT ep]; exact srt_map (f := slowT) (fun _ => rfl) (fun _ => rfl) so, fun n ss ts H5 B5 k5 T5 N5 e5 mS => ?_⟩
    have kS := kOf e5 okS
    have m1 := (mS s).mp ms
    have m2 := (mS g).mp mg'
    refine ⟨.ref n, rfl, .str s, rfl, .str g, rfl, .int tk, rfl, n, ss, ts, s, g, tk, rfl, N5, t0, kS, fun _ _ H6 S6 => ?_, fun z hz => (bad_not hz m1 m2).elim⟩
    have a1 : arr land1 (ts.map (·.2)) s g tk = arr land2 (bs.map (·.2)) s g tk := by
      rw [e5, esT slowT ep]
      exact congrFun (arr_map (f := land1) (g := land2) (h := slowT) (fun _ => rfl) (fun _ => rfl) (fun _ => rfl) (fun _ => rfl) _ _) g
    rw [a1]
    refine ⟨_, rfl, .inl ⟨_, rfl, oV_smp _, _, rfl, ite2 (fun z => by cases z) (fun _ => ?_)⟩⟩
    refine ⟨.ref n, rfl, .str s, rfl, .str g, rfl, .int tk, rfl, n, ss, ts, s, g, tk, rfl, N5.ext (ext_same S6), t0, kS, fun _ _ H7 S7 => ?_, fun z hz => (bad_not hz m1 m2).elim⟩
    have a2 : arr land2 (ts.map (·.2)) s g tk = arr land2 (bs.map (·.2)) s g tk := by
      rw [e5, esT slowT ep]
      exact congrFun (arr_map (f := land2) (g := land2) (h := slowT) (fun t => by show t.lands + t.late + 0 = t.lands + t.late; omega) (fun _ => rfl) (fun _ => rfl) (fun _ => rfl) _ _) g
    rw [a2]
    refine ⟨_, rfl, .inl ⟨_, rfl, oV_smp _, _, rfl, ite2 (fun z => by cases z) (fun _ => ?_)⟩⟩
    have S57 := S6.trans S7
    have Rf7 : RowsAt H7 G (ps2.map fun p => (p.1, fastT p.2.2)) := ⟨S57 _ _ (kq_keep B4 k5 Rf.l (NI.refs _ _) nofun), fun c hc => S57 _ _ (kq_keep B4 k5 (Rf.t c hc) (NI.tup _) nofun)⟩
    have K7 : NmL H7 kl ks := ⟨S57 _ _ (kq_keep B4 k5 K4.l (NI.strs _) nofun), hK.n⟩
    have k07 : Kq β H H7 := (((Same.bq (β := β) S04).kq).trans k5).trans (Same.bq S57).kq
    refine ⟨.ref β.p, rfl, .ref kl, rfl, .ref G, rfl, β, kl, G, ks, _, rfl, B5.same S57, tabs_same T5 S57, K7, nd, lk, Rf7, okF, by rw [enT fastT (fun _ => rfl) ep2]; exact nn, by rw [List.length_map]; have := elT ep2; omega, by rw [esT fastT ep2]; exact srt_map (f := fastT) (fun _ => rfl) (fun _ => rfl) so, fun n2 ss2 ts2 H8 B8 k8 T8 N8 e8 mS2 => ?_⟩
    have kS2 := kOf e8 okF
    have m12 := (mS2 s).mp ms
    have m22 := (mS2 g).mp mg'
    refine ⟨.ref n2, rfl, .str s, rfl, .str g, rfl, .int tk, rfl, n2, ss2, ts2, s, g, tk, rfl, N8, t0, kS2, fun _ _ H9 S9 => ?_, fun z hz => (bad_not hz m12 m22).elim⟩
    have a3 : arr land1 (ts2.map (·.2)) s g tk = arr land1 (bs.map (·.2)) s g tk := by
      rw [e8, esT fastT ep2]
      exact congrFun (arr_map (f := land1) (g := land1) (h := fastT) (fun _ => rfl) (fun _ => rfl) (fun _ => rfl) (fun _ => rfl) _ _) g
    rw [a3]
    refine ⟨_, rfl, .inl ⟨_, rfl, oV_smp _, _, rfl, ite2 (fun z => by cases z) (fun _ => ?_)⟩⟩
    refine ⟨.ref n2, rfl, .str s, rfl, .str g, rfl, .int tk, rfl, n2, ss2, ts2, s, g, tk, rfl, N8.ext (ext_same S9), t0, kS2, fun _ _ H10 S10 => ?_, fun z hz => (bad_not hz m12 m22).elim⟩
    have a4 : arr land2 (ts2.map (·.2)) s g tk = arr land1 (bs.map (·.2)) s g tk := by
      rw [e8, esT fastT ep2]
      exact congrFun (arr_map (f := land2) (g := land1) (h := fastT) (fun t => by show t.lands + 0 = t.lands; omega) (fun _ => rfl) (fun _ => rfl) (fun _ => rfl) _ _) g
    rw [a4]
    have S810 := S9.trans S10
    exact ⟨_, rfl, .inl ⟨_, rfl, oV_smp _, q H10 (B8.same S810) ((k07.trans k8).trans (Same.bq S810).kq) (tabs_same T8 S810)⟩⟩
end
end Tb
set_option maxHeartbeats 2000000
namespace Tb
open PySem PySem.Spec PyProof.Rows L2
open PySem.W (AllAlike Sortable dataLe dataLt TotalLe)
open LamX (Tabs TabS ExtN TabB CodeO)
abbrev sStrangers : Stmt := topS 55
abbrev NStrangers : List Str := ["box", "network", "known", "rides", "stem", "tick", "one", "two", "words", "word", "here", "way", "row"]
theorem scStrangers : FnScope NStrangers ["box", "network", "known", "rides", "stem", "tick"] (defScope sStrangers) := ⟨rfl, rfl, rfl, by decide +kernel, rfl, by decide +kernel, by decide +kernel⟩
section
variable {P : Program} {w : World} {K : PySem.W.Frag} {mg : Str → Option Value} {base : Heap} {C CS CT P1 CI CU : Addr}
abbrev CUnk2 (P : Program) (w : World) (K : PySem.W.Frag) (mg : Str → Option Value) (base : Heap) (C CS CT : Addr) (g : Addr) (gd : FuncData) := C1 P w K mg base "_law_unknown" sUnk2 ["way", "network", "start", "goal", "tick", "word"] 8 (spUnk C CS CT) g gd
def spStrangers (C CS CT : Addr) : Sp := fun vs H Q _ => ∃ (β : Bw) (n kl r : Addr) (st : Str) (tk : Int) (ss : List (Addr × Si)) (ts bs : List (Addr × Tr)) (ks : List Str), vs = [.ref β.p, .ref n, .ref kl, .ref r, .str st, .int tk] ∧ BoxAt H β ∧ NetR C CS CT H n r ss ts bs ∧ NmL H kl ks ∧ 2 ≤ ks.length ∧ ks.length ≤ 90 ∧ (∀ z, z ∈ ks ↔ z ∈ nmsS ss) ∧ Nm (tl st) ∧ 0 ≤ tk ∧
  ∀ H', BoxAt H' β → Bq β H H' → Q (.bl true) H'
theorem ok_strangers {f g1 g2 g4 : Addr} {fd gd1 gd2 gd4 : FuncData} (F : Fun K "_law_strangers" "_law_strangers" sStrangers f fd) (cDraw : CDraw P w K mg base g1 gd1) (cFresh : CFresh P w K mg base g2 gd2) (cUnk2 : CUnk2 P w K mg base C CS CT g4 gd4) (B : Blt mg) : FnOk P w K mg base CX0 9 f fd ["box", "network", "known", "rides", "stem", "tick"] (spStrangers C CS CT) := by
  refine F.ok scStrangers (fun vs H Q E h => ?_) (fun cdv A outer s H vs Q E hr h => ?_)
  · obtain ⟨β, n, kl, r, st, tk, ss, ts, bs, ks, rfl, _⟩ := h
    rfl
  · obtain ⟨β, n, kl, r, st, tk, ss, ts, bs, ks, rfl, hB, hN, hK, k2, lk, hks, hs, t0, q⟩ := h
    refine ⟨_, (pss_cons (ps_set (i := 6) scStrangers.nd rfl (.inl rfl) (pe_call cFresh.G (hr.mono (by first | decide | omega)) (by rfl) cFresh.D.g cFresh.D.F.kp cFresh.D.b .nil pass0 (pa_cons (pv 0) (pa_cons (pv 2) (pa_cons (pv 4) pa_nil)))))
      (pss_cons (ps_set (i := 7) scStrangers.nd rfl (.inl rfl) (pe_call cFresh.G (hr.mono (by first | decide | omega)) (by rfl) cFresh.D.g cFresh.D.F.kp cFresh.D.b .nil pass0 (pa_cons (pv 0) (pa_cons (pe_op op_cat (pv 2) (pe_lst (pa_cons (pv 6) pa_nil))) (pa_cons (pv 4) pa_nil)))))
      (pss_cons (ps_set (i := 8) scStrangers.nd rfl (.inl rfl) (pe_op op_cat (pe_lst (pa_cons (pv 6) pa_nil)) (pe_slice sl_list (pe_lc (own := [("row", 12)]) (g := gName 12) (by rfl) scStrangers.nd (pi_list (pv 3)) (blkOk_by (N := NStrangers) (sc := defScope sStrangers) (by decide +kernel)) (fun _ _ _ _ _ => pg_name (i := 12) scStrangers.nd rfl (Or.inl rfl)) (fun _ _ _ _ _ => pts_one (pt_cmpR (r := rIn K true) op_notIn_seq (pe_ix (r := rIxT K) ix_tup (pv 12) pe_int (fun _ _ => rfl)) (pv 2) (by rfl))) (fun _ _ _ _ _ => pe_ix (r := rIxT K) ix_tup (pv 12) pe_int (fun _ _ => rfl))) po_none (po_some pe_int))))
      (pss_cons (ps_for PassesOwn.never rfl (pi_list (pv 8)) (pg_name (i := 9) scStrangers.nd rfl (.inl rfl))
        (pss_cons (ps_set (i := 10) scStrangers.nd rfl (.inl rfl) (pe_ix ix_list (pv 2) (pe_call cDraw.G (hr.mono (by first | decide | omega)) (by rfl) cDraw.D.g cDraw.D.F.kp cDraw.D.b .nil pass0 (pa_cons (pv 0) (pa_cons (pe_callB call_len_seq (by rfl) B.len PySem.boot_len (pa_cons (pv 2) pa_nil)) pa_nil))) (fun _ _ => rfl)))
        (pss_one (ps_for PassesOwn.never rfl (pi_range1 (by rfl) B.range (pa_cons pe_int pa_nil)) (pg_name (i := 11) scStrangers.nd rfl (.inl rfl))
          (pss_cons (ps_if (pt_not (pt_val (pe_call cUnk2.G (hr.mono (by first | decide | omega)) (by rfl) cUnk2.D.g cUnk2.D.F.kp cUnk2.D.b .nil pass0 (pa_cons (pv 11) (pa_cons (pv 1) (pa_cons (pv 9) (pa_cons (pv 10) (pa_cons (pv 5) (pa_cons (pv 9) pa_nil)))))))))
            (pss_one (ps_ret pe_bl))
            pss_nil)
          (pss_cons (ps_if (pt_not (pt_val (pe_call cUnk2.G (hr.mono (by first | decide | omega)) (by rfl) cUnk2.D.g cUnk2.D.F.kp cUnk2.D.b .nil pass0 (pa_cons (pv 11) (pa_cons (pv 1) (pa_cons (pv 10) (pa_cons (pv 9) (pa_cons (pv 5) (pa_cons (pv 9) pa_nil)))))))))
            (pss_one (ps_ret pe_bl))
            pss_nil)
          (pss_cons (ps_if (pt_not (pt_val (pe_call cUnk2.G (hr.mono (by first | decide | omega)) (by rfl) cUnk2.D.g cUnk2.D.F.kp cUnk2.D.b .nil pass0 (pa_cons (pv 11) (pa_cons (pv 1) (pa_cons (pv 7) (pa_cons (pv 9) (pa_cons (pv 5) (pa_cons (pv 7) pa_nil)))))))))
            (pss_one (ps_ret pe_bl))
            pss_nil)
          (pss_one (ps_if (pt_not (pt_val (pe_call cUnk2.G (hr.mono (by first | decide | omega)) (by rfl) cUnk2.D.g cUnk2.D.F.kp cUnk2.D.b .nil pass0 (pa_cons (pv 11) (pa_cons (pv 1) (pa_cons (pv 9) (pa_cons (pv 9) (pa_cons (pv 5) (pa_cons (pv 9) pa_nil)))))))))
            (pss_one (ps_ret pe_bl))
            pss_nil)))))))))
      (pss_one (ps_ret pe_bl)))))), ?_⟩
    have hz : sizeLine = 16777216 := rfl
    have lb := hN.l
    refine ⟨.ref β.p, rfl, .ref kl, rfl, .str st, rfl, β, kl, ks, st, rfl, hB, hK, hs, by omega, fun one H1 n1 m1 B1 b1 => ?_⟩
    have K1 := hK.bq hB b1
    refine ⟨.ref β.p, rfl, .ref kl, rfl, .str one, rfl, by show 1 ≤ sizeLine; omega, fun L nL => ?_⟩
    have S2 := same_upd (o := .lst [.str one]) nL
    have hL : L2.upd H1 L (.lst [.str one]) L = some (.lst [.str one]) := upd_same
    have K2 := S2 _ _ K1.l
    have B2 := B1.same S2
    have b2 := b1.trans (Same.bq S2)
    generalize L2.upd H1 L (.lst [.str one]) = H2 at S2 hL K2 B2 b2
    refine ⟨kl, L, _, _, rfl, rfl, K2, hL, by rw [List.length_map]; show ks.length + 1 ≤ _; omega, fun M nM => ?_⟩
    have S3 := same_upd (o := .lst (ks.map V.str ++ [.str one])) nM
    have hM : NmL (L2.upd H2 M (.lst (ks.map V.str ++ [.str one]))) M (ks ++ [one]) := ⟨by rw [upd_same, List.map_append]; rfl, fun x hx => by
      rcases List.mem_append.mp hx with hx | hx
      · exact hK.n x hx
      · rw [List.mem_singleton.mp hx]; exact n1⟩
    refine ⟨.str st, rfl, β, M, ks ++ [one], st, rfl, B2.same S3, hM, hs, by rw [List.length_append]; show ks.length + 1 < 98; omega, fun two H4 n2 m2 B4 b4 => ?_⟩
    have b04 : Bq β H H4 := (b2.trans (Same.bq S3)).trans b4
    have m2k : two ∉ ks := fun h => m2 (List.mem_append_left _ h)
    clear S2 S3 hL hM K2 B2 b2 b4 nL nM
    have N4 := hN.bq hB b04
    have K4 := hK.bq hB b04
    refine ⟨.str one, rfl, by show 1 ≤ sizeLine; omega, fun L nL => ?_⟩
    have S5 := same_upd (o := .lst [.str one]) nL
    have hL : L2.upd H4 L (.lst [.str one]) L = some (.lst [.str one]) := upd_same
    generalize L2.upd H4 L (.lst [.str one]) = H5 at S5 hL
    refine ⟨.ref r, rfl, r, rfl, ⟨_, sqOf (S5 _ _ N4.r.l)⟩, fun D nD => lc_l (fun b => !inV (V.str b.2.name) (ks.map V.str)) (fun b => V.str b.2.name) (S5 _ _ N4.r.l) nD (by omega) (fun _ => rfl) (fun b hb H6 S6 R hh => ?_) (fun b hb H6 S6 R hh => ⟨.ref b.1, rfl, b.1, _, 1, .str b.2.name, rfl, rfl, .of (S6 _ _ (S5 _ _ (N4.r.t b hb))), rfl, hh H6 (Same.refl _)⟩) (fun H6 S6 hD => ?_)⟩
    · refine ⟨.ref b.1, rfl, b.1, _, 1, .str b.2.name, rfl, rfl, .of (S6 _ _ (S5 _ _ (N4.r.t b hb))), rfl, .ref kl, rfl, kl, _, rfl, .inl (sqOf (S6 _ _ (S5 _ _ K4.l))), rfl, List.all_eq_true.mpr fun x hx => ?_, _, rfl, hh H6 (Same.refl _)⟩
      obtain ⟨z, _, rfl⟩ := List.mem_map.mp hx
      rfl
    obtain ⟨ws, ews, mws⟩ : ∃ ws : List Str, (bs.filter fun b => !inV (V.str b.2.name) (ks.map V.str)).map (fun b => V.str b.2.name) = ws.map V.str ∧ ∀ z ∈ ws, z ∉ ks := ⟨(bs.filter fun b => !inV (V.str b.2.name) (ks.map V.str)).map fun b => b.2.name, by rw [List.map_map]; rfl, fun z hz mz => by
      obtain ⟨b, hb, rfl⟩ := List.mem_map.mp hz
      have h := (List.mem_filter.mp hb).2
      have : inV (V.str b.2.name) (ks.map V.str) = true := by
        unfold inV
        exact List.any_eq_true.mpr ⟨V.str b.2.name, List.mem_map.mpr ⟨_, mz, rfl⟩, by simp [eqV]⟩
      rw [this] at h
      cases h⟩
    rw [ews] at hD
    refine ⟨1, rfl, D, _, rfl, sqOf hD, fun A nA => ?_⟩
    rw [show cutV (ws.map V.str) none (some (1 : Int)) = (ws.take 1).map V.str from (cut_hi _ 1).trans (List.map_take ..).symm]
    have S7 := same_upd (o := .lst ((ws.take 1).map V.str)) nA
    refine ⟨L, A, _, _, rfl, rfl, S7 _ _ (S6 _ _ hL), upd_same, by rw [List.length_map, List.length_take]; show 1 + min 1 ws.length ≤ _; omega, fun W nW => ?_⟩
    have S8 := (S5.trans S6).trans (S7.trans (same_upd (o := .lst ([V.str one] ++ (ws.take 1).map V.str)) nW))
    have B7 := ((B4.same S5).same S6).same S7
    have oW := B7.offN nW
    have B8 := B7.new (o := .lst ([V.str one] ++ (ws.take 1).map V.str)) nW
    have hW : L2.upd (L2.upd H6 A (.lst ((ws.take 1).map V.str))) W (.lst ([V.str one] ++ (ws.take 1).map V.str)) W = some (.lst ((one :: ws.take 1).map V.str)) := upd_same
    generalize L2.upd (L2.upd H6 A (.lst ((ws.take 1).map V.str))) W (.lst ([V.str one] ++ (ws.take 1).map V.str)) = H8 at S8 B8 hW
    have mo' : ∀ z ∈ one :: ws.take 1, z ∉ ks := fun z hz => by
      rcases List.mem_cons.mp hz with rfl | hz
      · exact m1
      · exact mws z (List.mem_of_mem_take hz)
    generalize one :: ws.take 1 = us at hW mo'
    clear S7 S6 S5 nA nD nL hD hL B7
    have b08 : Bq β H H8 := b04.trans (Same.bq S8)
    have kt : ∀ t ∈ ts.map (·.2), Tk t := by rw [hN.e]; exact hN.k
    have out : ∀ z, z ∉ ks → z ∉ nmsS ss := fun z hz h => hz ((hks z).mpr h)
    refine ⟨.ref W, rfl, W, rfl, ⟨_, sqOf hW⟩, ?_⟩
    refine for_list (a := W) (xs := us.map V.str) (fun i σ H9 => ∃ (y9 y10 y11 : Option V), σ = [some (.ref β.p), some (.ref n), some (.ref kl), some (.ref r), some (.str st), some (.int tk), some (.str one), some (.str two), some (.ref W), y9, y10, y11, none] ∧ BoxAt H9 β ∧ Bq β H8 H9) ⟨none, none, none, rfl, B8, .refl _ _⟩ (fun i σ H9 _ ⟨_, _, _, _, B9, b9⟩ => sqOf (b9.off oW hW)) (fun i v σ H9 ev hP => ?_) (fun σ H9 hP => ?_)
    · obtain ⟨y9, y10, y11, rfl, B9, b9⟩ := hP
      rw [List.getElem?_map] at ev
      obtain ⟨wd, ew, rfl⟩ := Option.map_eq_some_iff.mp ev
      have nw := out wd (mo' wd (List.mem_of_getElem? ew))
      have n2' := out two m2k
      have K9 := hK.bq hB (b08.trans b9)
      have len : ((ks.map V.str).length : Int) = (ks.length : Int) := by rw [List.length_map]
      refine ⟨.ref kl, rfl, .ref β.p, rfl, .ref kl, rfl, kl, _, rfl, .inl (sqOf K9.l), β, _, rfl, B9, by omega, by omega, fun u H10 u0 u1 B10 b10 => ?_⟩
      have K10 := K9.bq B9 b10
      rw [len] at u1
      obtain ⟨he, mh, eh⟩ := at_strs u0 u1
      have ih := (hks he).mp mh
      refine ⟨kl, _, u, .str he, rfl, rfl, sqOf K10.l, eh, ?_⟩
      have b010 := (b08.trans b9).trans b10
      have N10 := hN.bq hB b010
      refine ⟨3, rfl, by decide, by decide, ?_⟩
      refine for_range (lo := 0) (n := (3 : Int).toNat) (fun j σ H11 => Same H10 H11 ∧ ∃ (y11 : Option V), σ = [some (.ref β.p), some (.ref n), some (.ref kl), some (.ref r), some (.str st), some (.int tk), some (.str one), some (.str two), some (.ref W), some (.str wd), some (.str he), y11, none]) ⟨.refl _, _, rfl⟩ ?_ ?_
      · rintro j σ H11 hj ⟨S11, y11, rfl⟩
        have N11 := N10.ext (ext_same S11)
        refine ⟨.int (0 + (j : Int)), rfl, .ref n, rfl, .str wd, rfl, .str he, rfl, .int tk, rfl, .str wd, rfl, _, n, ss, ts, wd, he, wd, tk, rfl, N11.n, t0, kt, .inl ⟨rfl, nw⟩, fun H12 S12 => ⟨_, rfl, ite2 (fun z => by cases z) (fun _ => ?_)⟩⟩
        have N12 := N11.ext (ext_same S12)
        refine ⟨.int (0 + (j : Int)), rfl, .ref n, rfl, .str he, rfl, .str wd, rfl, .int tk, rfl, .str wd, rfl, _, n, ss, ts, he, wd, wd, tk, rfl, N12.n, t0, kt, .inr ⟨ih, rfl, nw⟩, fun H13 S13 => ⟨_, rfl, ite2 (fun z => by cases z) (fun _ => ?_)⟩⟩
        have N13 := N12.ext (ext_same S13)
        refine ⟨.int (0 + (j : Int)), rfl, .ref n, rfl, .str two, rfl, .str wd, rfl, .int tk, rfl, .str two, rfl, _, n, ss, ts, two, wd, two, tk, rfl, N13.n, t0, kt, .inl ⟨rfl, n2'⟩, fun H14 S14 => ⟨_, rfl, ite2 (fun z => by cases z) (fun _ => ?_)⟩⟩
        have N14 := N13.ext (ext_same S14)
        refine ⟨.int (0 + (j : Int)), rfl, .ref n, rfl, .str wd, rfl, .str wd, rfl, .int tk, rfl, .str wd, rfl, _, n, ss, ts, wd, wd, wd, tk, rfl, N14.n, t0, kt, .inl ⟨rfl, nw⟩, fun H15 S15 => ⟨_, rfl, ite2 (fun z => by cases z) (fun _ => ?_)⟩⟩
        exact ⟨S11.trans (((S12.trans S13).trans S14).trans S15), _, rfl⟩
      · rintro σ H11 ⟨S11, y11, rfl⟩
        exact ⟨_, _, _, rfl, B10.same S11, (b9.trans b10).trans (Same.bq S11)⟩
    · obtain ⟨y9, y10, y11, rfl, B9, b9⟩ := hP
      exact q H9 B9 (b08.trans b9)
end
end Tb
namespace Tb
open PySem PySem.Spec PyProof.Rows L2
open PySem.W (AllAlike Sortable dataLe dataLt TotalLe)
open LamX (Tabs TabS ExtN TabB CodeO)
abbrev sLaw : Stmt := topS 56
abbrev NLaw : List Str := ["script", "box", "big", "stem", "base", "known", "many", "rides", "network", "others", "gone", "k", "start", "goal", "first", "bound", "row"]
theorem scLaw : FnScope NLaw ["script"] (defScope sLaw) := ⟨rfl, rfl, rfl, by decide +kernel, rfl, by decide +kernel, by decide +kernel⟩
/-- what stands while the law runs -/
structure LawAt (C CS CT P1 : Addr) (β : Bw) (n r kl : Addr) (ss : List (Addr × Si)) (ts bs : List (Addr × Tr)) (ks : List Str) (H : Hp) : Prop where
  box : BoxAt H β
  tab : Tabs (TT P1) H
  nw : NetR C CS CT H n r ss ts bs
  kl : NmL H kl ks
theorem LawAt.ext {C CS CT P1 : Addr} {β : Bw} {n r kl : Addr} {ss : List (Addr × Si)} {ts bs : List (Addr × Tr)} {ks : List Str} {H H' : Hp} (h : LawAt C CS CT P1 β n r kl ss ts bs ks H) (S : ExtN H H') (T : Tabs (TT P1) H') : LawAt C CS CT P1 β n r kl ss ts bs ks H' := ⟨h.box.ext S, T, h.nw.ext S, ⟨S _ _ h.kl.l nofun, h.kl.n⟩⟩
theorem LawAt.same {C CS CT P1 : Addr} {β : Bw} {n r kl : Addr} {ss : List (Addr × Si)} {ts bs : List (Addr × Tr)} {ks : List Str} {H H' : Hp} (h : LawAt C CS CT P1 β n r kl ss ts bs ks H) (S : Same H H') : LawAt C CS CT P1 β n r kl ss ts bs ks H' := h.ext (ext_same S) (tabs_same h.tab S)
theorem LawAt.bq {C CS CT P1 : Addr} {β : Bw} {n r kl : Addr} {ss : List (Addr × Si)} {ts bs : List (Addr × Tr)} {ks : List Str} {H H' : Hp} (h : LawAt C CS CT P1 β n r kl ss ts bs ks H) (B : BoxAt H' β) (b : Bq β H H') : LawAt C CS CT P1 β n r kl ss ts bs ks H' := ⟨B, tabs_bq h.tab h.box b, h.nw.bq h.box b, h.kl.bq h.box b⟩
theorem TrAt.kq {C : Addr} {β : Bw} {H H' : Hp} {a : Addr} {t : Tr} (h : TrAt C H a t) (B : BoxAt H β) (k : Kq β H H') : TrAt C H' a t := by
  obtain ⟨dx, e⟩ := h
  exact ⟨dx, kq_keep B k e (NI.ins _ _ _) nofun⟩
theorem SiAt.kq {C : Addr} {β : Bw} {H H' : Hp} {a : Addr} {s : Si} (h : SiAt C H a s) (B : BoxAt H β) (k : Kq β H H') : SiAt C H' a s := by
  obtain ⟨dx, r1, r2, r3, e⟩ := h
  exact ⟨dx, r1, r2, r3, kq_keep B k e (NI.ins _ _ _) nofun⟩
theorem LawAt.kq {C CS CT P1 : Addr} {β : Bw} {n r kl : Addr} {ss : List (Addr × Si)} {ts bs : List (Addr × Tr)} {ks : List Str} {H H' : Hp} (h : LawAt C CS CT P1 β n r kl ss ts bs ks H) (B : BoxAt H' β) (k : Kq β H H') (T : Tabs (TT P1) H') : LawAt C CS CT P1 β n r kl ss ts bs ks H' := by
  obtain ⟨b, tb, ⟨⟨⟨dx, S, T', L, dS, dT, dC, h1, h2, h3, h4, h5, h6⟩, hs, ht, r1, r2, r3, r4, r5, r6, r7⟩, hr, e, kk, aa, ll⟩, hk⟩ := h
  have kp : ∀ {x : Addr} {o : HO}, H x = some o → NI o → (∀ ps, o ≠ .tbl ps) → H' x = some o := fun e n t => kq_keep b k e n t
  exact ⟨B, T, ⟨⟨⟨dx, S, T', L, dS, dT, dC, kp h1 (NI.ins _ _ _) nofun, kp h2 (NI.tup _) nofun, kp h3 (NI.tup _) nofun, kp h4 (NI.tup _) nofun, kp h5 (NI.dK _) nofun, kp h6 (NI.dK _) nofun⟩, fun x hx => (hs x hx).kq b k, fun x hx => (ht x hx).kq b k, r1, r2, r3, r4, r5, r6, r7⟩, ⟨kp hr.l (NI.refs _ _) nofun, fun c hc => kp (hr.t c hc) (NI.tup _) nofun⟩, e, kk, aa, ll⟩, ⟨kp hk.l (NI.strs _) nofun, hk.n⟩⟩
theorem gone_map (ts : List (Addr × Tr)) (z : Str) : (gone ts z).map (·.2) = (ts.map (·.2)).filter fun t => !decide (t.name = z) := by
  rw [List.filter_map]; rfl
section
variable {P : Program} {w : World} {K : PySem.W.Frag} {mg : Str → Option Value} {base : Heap} {C CS CT P1 fW : Addr} {fdW : FuncData}
abbrev CBox (P : Program) (w : World) (K : PySem.W.Frag) (mg : Str → Option Value) (base : Heap) (g : Addr) (gd : FuncData) := C1 P w K mg base "_law_box" sBox ["script"] 1 (spBox K) g gd
abbrev CKnown (P : Program) (w : World) (K : PySem.W.Frag) (mg : Str → Option Value) (base : Heap) (g : Addr) (gd : FuncData) := C1 P w K mg base "_law_known" sKnown ["box", "many", "stem"] 6 spKnown g gd
abbrev CRides (P : Program) (w : World) (K : PySem.W.Frag) (mg : Str → Option Value) (base : Heap) (g : Addr) (gd : FuncData) := C1 P w K mg base "_law_rides" sRides ["box", "many", "known", "base", "slow", "stem"] 7 spRides g gd
abbrev CBound (P : Program) (w : World) (K : PySem.W.Frag) (mg : Str → Option Value) (base : Heap) (g : Addr) (gd : FuncData) := C1 P w K mg base "_law_bound" sBound ["box", "worth", "rides", "start", "goal", "base"] 3 spBound g gd
abbrev CAnswers (P : Program) (w : World) (K : PySem.W.Frag) (mg : Str → Option Value) (base : Heap) (C CS CT : Addr) (g : Addr) (gd : FuncData) := C1 P w K mg base "_law_answers" sAnswers ["network", "rides", "start", "goal", "base", "by"] 8 (spAnswers C CS CT) g gd
abbrev CTwins (P : Program) (w : World) (K : PySem.W.Frag) (mg : Str → Option Value) (base : Heap) (C CS CT P1 : Addr) (g : Addr) (gd : FuncData) := C1 P w K mg base "_law_twins" sTwins ["box", "known", "rides", "start", "goal", "tick"] 10 (spTwins C CS CT P1) g gd
abbrev CStrangers (P : Program) (w : World) (K : PySem.W.Frag) (mg : Str → Option Value) (base : Heap) (C CS CT : Addr) (g : Addr) (gd : FuncData) := C1 P w K mg base "_law_strangers" sStrangers ["box", "network", "known", "rides", "stem", "tick"] 9 (spStrangers C CS CT) g gd
abbrev CTripsAre (P : Program) (w : World) (K : PySem.W.Frag) (mg : Str → Option Value) (base : Heap) (C CS CT : Addr) (g : Addr) (gd : FuncData) := C1 P w K mg base "_law_trips_are" sTripsAre ["network", "rides"] 4 (spTripsAre C CS CT) g gd
def spLaw (K : PySem.W.Frag) (P1 : Addr) : Sp := fun vs H Q _ => ∃ (a : Addr) (ns : List Int), vs = [.ref a] ∧ SqL K H a (ns.map V.int) ∧ ns.length ≤ 63 ∧ Tabs (TT P1) H ∧ ∀ H', Q (.bl true) H'
set_option maxHeartbeats 0 in
theorem ok_law {f g1 g2 g3 g4 g5 g6 g7 g8 g9 ga gb gc : Addr} {fd gd1 gd2 gd3 gd4 gd5 gd6 gd7 gd8 gd9 gda gdb gdc : FuncData} (F : Fun K "law" "law" sLaw f fd) (B : Blt mg) (NC : NCls K C) (cBox : CBox P w K mg base g1 gd1) (cDraw : CDraw P w K mg base g2 gd2) (cWord : CWord P w K mg base g3 gd3) (cKnown : CKnown P w K mg base g4 gd4) (cRides : CRides P w K mg base g5 gd5) (cLNet : CLNet P w K mg base C CS CT P1 g6 gd6) (cWorth : CWorth P w K mg base g7 gd7) (cBound : CBound P w K mg base g8 gd8) (cAnswers : CAnswers P w K mg base C CS CT g9 gd9) (cTwins : CTwins P w K mg base C CS CT P1 ga gda)
    (cStrangers : CStrangers P w K mg base C CS CT gb gdb) (cTripsAre : CTripsAre P w K mg base C CS CT gc gdc) (hW : Meth K C "without_trip" fW) (FW : FnOk P w K mg base CX0 9 fW fdW ["self", "name"] (spNWithout C CS CT P1)) (bW : Binds K fdW ["self", "name"] []) :
    FnOk P w K mg base CX0 11 f fd ["script"] (spLaw K P1) := by
  refine F.ok scLaw (fun vs H Q E h => ?_) (fun cdv A outer s H vs Q E hr h => ?_)
  · obtain ⟨a, ns, rfl, _⟩ := h
    rfl
  · obtain ⟨a, ns, rfl, hS, ln, hT, q⟩ := h
    refine ⟨_, (pss_cons (ps_set (i := 1) scLaw.nd rfl (.inl rfl) (pe_call cBox.G (hr.mono (by first | decide | omega)) (by rfl) cBox.D.g cBox.D.F.kp cBox.D.b .nil pass0 (pa_cons (pv 0) pa_nil)))
      (pss_cons (ps_set (i := 2) scLaw.nd rfl (.inl rfl) (pe_call cDraw.G (hr.mono (by first | decide | omega)) (by rfl) cDraw.D.g cDraw.D.F.kp cDraw.D.b .nil pass0 (pa_cons (pv 1) (pa_cons pe_int pa_nil))))
      (pss_cons (ps_set (i := 3) scLaw.nd rfl (.inl rfl) (pe_call cWord.G (hr.mono (by first | decide | omega)) (by rfl) cWord.D.g cWord.D.F.kp cWord.D.b .nil pass0 (pa_cons (pv 1) pa_nil)))
      (pss_cons (ps_set (i := 4) scLaw.nd rfl (.inl rfl) (pe_ix ix_list (pe_lst (pa_cons pe_int (pa_cons pe_int (pa_cons pe_int (pa_cons pe_int pa_nil))))) (pe_call cDraw.G (hr.mono (by first | decide | omega)) (by rfl) cDraw.D.g cDraw.D.F.kp cDraw.D.b .nil pass0 (pa_cons (pv 1) (pa_cons pe_int pa_nil))) (fun _ _ => rfl)))
      (pss_cons (ps_set (i := 5) scLaw.nd rfl (.inl rfl) (pe_call cKnown.G (hr.mono (by first | decide | omega)) (by rfl) cKnown.D.g cKnown.D.F.kp cKnown.D.b .nil pass0 (pa_cons (pv 1) (pa_cons (pe_op op_add (pe_op op_add pe_int (pe_call cDraw.G (hr.mono (by first | decide | omega)) (by rfl) cDraw.D.g cDraw.D.F.kp cDraw.D.b .nil pass0 (pa_cons (pv 1) (pa_cons pe_int pa_nil)))) (pe_op op_mul pe_int (pe_callTy call_int1 (by rfl) B.int PyProof.Rows.boot_int (pa_cons (pe_cmpR op_eq (pv 2) pe_int (nomark _)) pa_nil)))) (pa_cons (pv 3) pa_nil)))))
      (pss_cons (ps_set (i := 6) scLaw.nd rfl (.inl rfl) (pe_op op_add (pe_call cDraw.G (hr.mono (by first | decide | omega)) (by rfl) cDraw.D.g cDraw.D.F.kp cDraw.D.b .nil pass0 (pa_cons (pv 1) (pa_cons pe_int pa_nil))) (pe_op op_mul pe_int (pe_callTy call_int1 (by rfl) B.int PyProof.Rows.boot_int (pa_cons (pe_cmpR op_eq (pv 2) pe_int (nomark _)) pa_nil)))))
      (pss_cons (ps_set (i := 7) scLaw.nd rfl (.inl rfl) (pe_call cRides.G (hr.mono (by first | decide | omega)) (by rfl) cRides.D.g cRides.D.F.kp cRides.D.b .nil pass0 (pa_cons (pv 1) (pa_cons (pv 6) (pa_cons (pv 5) (pa_cons (pv 4) (pa_cons (pe_op op_add pe_int (pe_op op_mul pe_int (pe_callTy call_int1 (by rfl) B.int PyProof.Rows.boot_int (pa_cons (pe_cmpR op_eq (pv 2) pe_int (nomark _)) pa_nil)))) (pa_cons (pv 3) pa_nil))))))))
      (pss_cons (ps_set (i := 8) scLaw.nd rfl (.inl rfl) (pe_call cLNet.G (hr.mono (by first | decide | omega)) (by rfl) cLNet.D.g cLNet.D.F.kp cLNet.D.b .nil pass0 (pa_cons (pv 1) (pa_cons (pv 5) (pa_cons (pv 7) pa_nil)))))
      (pss_cons (ps_set (i := 9) scLaw.nd rfl (.inl rfl) (pv 7))
      (pss_cons (ps_set (i := 10) scLaw.nd rfl (.inr rfl) (pv 3))
      (C8.pss_cut (ps_if (pt_cmpR op_gt (pe_callB call_len_seq (by rfl) B.len PySem.boot_len (pa_cons (pv 7) pa_nil)) pe_int (nomark _))
        (pss_cons (ps_set (i := 10) scLaw.nd rfl (.inr rfl) (pe_ix ix_tup (pe_ix ix_list (pv 7) (pe_call cDraw.G (hr.mono (by first | decide | omega)) (by rfl) cDraw.D.g cDraw.D.F.kp cDraw.D.b .nil pass0 (pa_cons (pv 1) (pa_cons (pe_callB call_len_seq (by rfl) B.len PySem.boot_len (pa_cons (pv 7) pa_nil)) pa_nil))) (fun _ _ => rfl)) pe_int (fun _ _ => rfl)))
        (pss_one (ps_setLc (i := 9) (own := [("row", 16)]) (g := gName 16) (by rfl) scLaw.nd rfl rfl (sw_true rfl rfl rfl (by decide +kernel)) (pi_list (pv 7)) (blkOk_by (N := NLaw) (sc := defScope sLaw) (by decide +kernel)) (fun _ _ _ _ _ => pg_name (i := 16) scLaw.nd rfl (Or.inl rfl)) (fun _ _ _ _ _ => pts_one (pt_cmpR op_ne (pe_ix (r := rIxT K) ix_tup (pv 16) pe_int (fun _ _ => rfl)) (pv 10) (nomark _))) (fun _ _ _ _ _ => pv 16))))
        pss_nil)
      (pss_cons (ps_for PassesOwn.never rfl (pi_range1 (by rfl) B.range (pa_cons pe_int pa_nil)) (pg_name (i := 11) scLaw.nd rfl (.inl rfl))
        (pss_cons (ps_set (i := 12) scLaw.nd rfl (.inl rfl) (pe_ix ix_list (pv 5) (pe_call cDraw.G (hr.mono (by first | decide | omega)) (by rfl) cDraw.D.g cDraw.D.F.kp cDraw.D.b .nil pass0 (pa_cons (pv 1) (pa_cons (pe_callB call_len_seq (by rfl) B.len PySem.boot_len (pa_cons (pv 5) pa_nil)) pa_nil))) (fun _ _ => rfl)))
        (pss_cons (ps_set (i := 13) scLaw.nd rfl (.inl rfl) (pe_ix ix_list (pv 5) (pe_call cDraw.G (hr.mono (by first | decide | omega)) (by rfl) cDraw.D.g cDraw.D.F.kp cDraw.D.b .nil pass0 (pa_cons (pv 1) (pa_cons (pe_callB call_len_seq (by rfl) B.len PySem.boot_len (pa_cons (pv 5) pa_nil)) pa_nil))) (fun _ _ => rfl)))
        (C8.pss_cut (ps_if (PW.pt (pw_and (pt_cmpR op_gt (pe_callB call_len_seq (by rfl) B.len PySem.boot_len (pa_cons (pv 7) pa_nil)) pe_int (nomark _)) (pw_and1 (pt_cmpR op_gt (pe_call cDraw.G (hr.mono (by first | decide | omega)) (by rfl) cDraw.D.g cDraw.D.F.kp cDraw.D.b .nil pass0 (pa_cons (pv 1) (pa_cons pe_int pa_nil))) pe_int (nomark _)))))
          (pss_cons (ps_set (i := 14) scLaw.nd rfl (.inl rfl) (pe_call cDraw.G (hr.mono (by first | decide | omega)) (by rfl) cDraw.D.g cDraw.D.F.kp cDraw.D.b .nil pass0 (pa_cons (pv 1) (pa_cons (pe_callB call_len_seq (by rfl) B.len PySem.boot_len (pa_cons (pv 7) pa_nil)) pa_nil))))
          (pss_cons (ps_set (i := 12) scLaw.nd rfl (.inl rfl) (pe_ix ix_tup (pe_ix ix_list (pv 7) (pv 14) (fun _ _ => rfl)) pe_int (fun _ _ => rfl)))
          (pss_one (ps_set (i := 13) scLaw.nd rfl (.inl rfl) (pe_ix ix_tup (pe_ix ix_list (pv 7) (pe_op op_add (pv 14) (pe_call cDraw.G (hr.mono (by first | decide | omega)) (by rfl) cDraw.D.g cDraw.D.F.kp cDraw.D.b .nil pass0 (pa_cons (pv 1) (pa_cons (pe_op op_sub (pe_callB call_len_seq (by rfl) B.len PySem.boot_len (pa_cons (pv 7) pa_nil)) (pv 14)) pa_nil)))) (fun _ _ => rfl)) pe_int (fun _ _ => rfl))))))
          pss_nil)
        (pss_cons (ps_set (i := 15) scLaw.nd rfl (.inl rfl) (pe_call cBound.G (hr.mono (by first | decide | omega)) (by rfl) cBound.D.g cBound.D.F.kp cBound.D.b .nil pass0 (pa_cons (pv 1) (pa_cons (pe_call cWorth.G (hr.mono (by first | decide | omega)) (by rfl) cWorth.D.g cWorth.D.F.kp cWorth.D.b .nil pass0 (pa_cons (pv 7) (pa_cons (pv 13) pa_nil))) (pa_cons (pv 7) (pa_cons (pv 12) (pa_cons (pv 13) (pa_cons (pv 4) pa_nil))))))))
        (pss_cons (ps_if (pt_not (pt_val (pe_call cAnswers.G (hr.mono (by first | decide | omega)) (by rfl) cAnswers.D.g cAnswers.D.F.kp cAnswers.D.b .nil pass0 (pa_cons (pv 8) (pa_cons (pv 7) (pa_cons (pv 12) (pa_cons (pv 13) (pa_cons (pv 4) (pa_cons (pv 15) pa_nil)))))))))
          (pss_one (ps_ret pe_bl))
          pss_nil)
        (C8.pss_cut (ps_if (PW.pt (pw_and (pt_cmpR op_gt (pe_callB call_len_seq (by rfl) B.len PySem.boot_len (pa_cons (pv 7) pa_nil)) pe_int (nomark _)) (pw_and1 (pt_cmpR op_eq (pv 11) pe_int (nomark _)))))
          (pss_one (ps_if (pt_not (pt_val (pe_call cAnswers.G (hr.mono (by first | decide | omega)) (by rfl) cAnswers.D.g cAnswers.D.F.kp cAnswers.D.b .nil pass0 (pa_cons (pe_meth (pv 8) NC.c hW FW (hr.mono (by first | decide | omega)) bW .nil pass0 (pa_cons (pv 10) pa_nil)) (pa_cons (pv 9) (pa_cons (pv 12) (pa_cons (pv 13) (pa_cons (pv 4) (pa_cons (pv 15) pa_nil)))))))))
            (pss_one (ps_ret pe_bl))
            pss_nil))
          pss_nil)
        (pss_cons (ps_if (pt_not (pt_val (pe_call cTwins.G (hr.mono (by first | decide | omega)) (by rfl) cTwins.D.g cTwins.D.F.kp cTwins.D.b .nil pass0 (pa_cons (pv 1) (pa_cons (pv 5) (pa_cons (pv 7) (pa_cons (pv 12) (pa_cons (pv 13) (pa_cons (pe_op op_add (pv 4) (pe_call cDraw.G (hr.mono (by first | decide | omega)) (by rfl) cDraw.D.g cDraw.D.F.kp cDraw.D.b .nil pass0 (pa_cons (pv 1) (pa_cons pe_int pa_nil)))) pa_nil)))))))))
          (pss_one (ps_ret pe_bl))
          pss_nil)
        (pss_one (ps_if (pt_not (pt_val (pe_call cStrangers.G (hr.mono (by first | decide | omega)) (by rfl) cStrangers.D.g cStrangers.D.F.kp cStrangers.D.b .nil pass0 (pa_cons (pv 1) (pa_cons (pv 8) (pa_cons (pv 5) (pa_cons (pv 7) (pa_cons (pv 3) (pa_cons (pv 15) pa_nil)))))))))
          (pss_one (ps_ret pe_bl))
          pss_nil))))))))))
      (pss_one (ps_ret (pe_call cTripsAre.G (hr.mono (by first | decide | omega)) (by rfl) cTripsAre.D.g cTripsAre.D.F.kp cTripsAre.D.b .nil pass0 (pa_cons (pv 8) (pa_cons (pv 7) pa_nil))))))))))))))))), ?_⟩
    have hz : sizeLine = 16777216 := rfl
    have ib : ∀ b : Bool, (0 : Int) ≤ (if b = true then 1 else 0) ∧ (if b = true then (1 : Int) else 0) ≤ 1 := fun b => by cases b <;> decide
    refine ⟨.ref a, rfl, a, ns, rfl, hS, by omega, fun β H1 S1 B1 => ?_⟩
    have T1 := tabs_same hT S1
    refine ⟨.ref β.p, rfl, β, 8, rfl, B1, by decide, by decide, fun bg H2 v0 v1 B2 b2 => ?_⟩
    refine ⟨.ref β.p, rfl, β, rfl, B2, fun st H3 ns3 B3 b3 => ?_⟩
    refine ⟨by show 4 ≤ sizeLine; omega, fun L nL => ?_⟩
    obtain ⟨B4, k4⟩ := disp [0, 0, 0, 990000] B3 nL
    refine ⟨.ref β.p, rfl, β, 4, rfl, B4, by decide, by decide, fun u H5 u0 u1 B5 b5 => ?_⟩
    obtain ⟨hL, b35⟩ := k4 H5 b5
    obtain ⟨ba, mb, eb⟩ := pickI [0, 0, 0, 990000] u0 u1
    have bb : 0 ≤ ba ∧ ba ≤ 990000 := by
      simp only [List.mem_cons, List.not_mem_nil, or_false] at mb
      omega
    have b15 := (b2.trans b3).trans b35
    clear k4 b5 b35 b2 b3
    refine ⟨L, _, u, .int ba, rfl, rfl, sqOf hL, eb, ?_⟩
    clear hL
    refine ⟨.ref β.p, rfl, .ref β.p, rfl, β, 4, rfl, B5, by decide, by decide, fun m H6 m0 m1 B6 b6 => ⟨2, m, rfl, rfl, .int bg, rfl, rfl, .inr ⟨_, rfl, 8, _, rfl, rfl, .inl ⟨by decide, by decide⟩, 2 + m, _, rfl, rfl, .str st, rfl, ?_⟩⟩⟩
    have i1 := ib (decide (V.int bg = V.int 1))
    refine ⟨β, _, st, rfl, B6, ns3, by omega, by omega, fun kl ks H7 nkl K7 ndk lk B7 b7 => ?_⟩
    refine ⟨.ref β.p, rfl, β, 10, rfl, B7, by decide, by decide, fun m2 H8 q0 q1 B8 b8 => ⟨.int bg, rfl, rfl, .inr ⟨_, rfl, 14, _, rfl, rfl, .inl ⟨by decide, by decide⟩, m2, _, rfl, rfl, ?_⟩⟩⟩
    have i2 := ib (decide (V.int bg = V.int 2))
    have K8 := K7.bq B7 b8
    refine ⟨.ref β.p, rfl, _, rfl, .ref kl, rfl, .int ba, rfl, .int bg, rfl, rfl, .inr ⟨_, rfl, 116, _, rfl, rfl, .inl ⟨by decide, by decide⟩, 4, _, rfl, rfl, .str st, rfl, ?_⟩⟩
    have i3 := ib (decide (V.int bg = V.int 3))
    refine ⟨β, kl, ks, st, _, ba, _, rfl, B8, K8, by omega, by omega, ndk, ns3, by omega, by omega, by omega, by omega, by omega, by omega, fun r bs H11 nr R11 so11 l11 h9 => ?_⟩
    have b111 : Bq β H1 H11 := (((b15.trans b6).trans b7).trans b8).trans R11.bq
    have T11 := tabs_bq T1 B1 b111
    have K11 := K8.bq B8 R11.bq
    clear b15 b6 b7 b8 b111 B1 B2 B3 B4 B5 B6 B7 K7 K8 T1 hT S1
    refine ⟨.ref β.p, rfl, .ref kl, rfl, .ref r, rfl, β, kl, r, ks, bs, rfl, R11.box, T11, K11, ndk, by omega, R11.rows, R11.ok, R11.nd, by omega, so11, fun n ss ts H12 B12 k12 T12 N12 e12 mS => ?_⟩
    have okb := R11.ok
    have kt : ∀ t ∈ bs.map (·.2), Tk t := fun t ht => by
      obtain ⟨b, hb, rfl⟩ := List.mem_map.mp ht
      exact ⟨(okb b hb).l0, (okb b hb).l2, (okb b hb).late0⟩
    have lat : ∀ b ∈ bs, 0 ≤ b.2.late ∧ b.2.late ≤ 200 := fun b hb => ⟨(okb b hb).late0, (okb b hb).late1⟩
    have h12 : LawAt C CS CT P1 β n r kl ss ts bs ks H12 := ⟨B12, T12, ⟨N12, ⟨kq_keep R11.box k12 R11.rows.l (NI.refs _ _) nofun, fun c hc => kq_keep R11.box k12 (R11.rows.t c hc) (NI.tup _) nofun⟩, e12, kt, lat, by omega⟩, ⟨kq_keep R11.box k12 K11.l (NI.strs _) nofun, K11.n⟩⟩
    have nnb := R11.nd
    clear T11 K11 k12 N12 B12 T12 R11
    refine ⟨.ref r, rfl, .str st, rfl, ?_⟩
    have lenb : ((bs.map fun b => V.ref b.1).length : Int) = (bs.length : Int) := by rw [List.length_map]
    have lenk : ((ks.map V.str).length : Int) = (ks.length : Int) := by rw [List.length_map]
    obtain ⟨my, emy⟩ : ∃ my : V, my = V.int (m2 + 14 * (if decide (V.int bg = V.int 2) = true then 1 else 0)) := ⟨_, rfl⟩
    refine ⟨fun σ' H' => ∃ (O : Addr) (go : Str), σ' = [some (.ref a), some (.ref β.p), some (.int bg), some (.str st), some (.int ba), some (.ref kl), some my, some (.ref r), some (.ref n), some (.ref O), some (.str go), none, none, none, none, none, none] ∧ LawAt C CS CT P1 β n r kl ss ts bs ks H' ∧ (0 < bs.length → (∃ b ∈ bs, b.2.name = go) ∧ RowsAt H' O (gone bs go)), ?_, ?_⟩
    · refine ⟨.ref r, rfl, r, _, rfl, .inl (sqOf h12.nw.r.l), _, 0, rfl, rfl, _, rfl, ite2 (fun e => ?_) (fun e => ?_)⟩
      rotate_left
      · exact ⟨r, st, by rw [emy]; rfl, h12, fun z => absurd (decide_eq_true (by rw [lenb]; omega)) e⟩
      have lpos : 0 < bs.length := by
        have := of_decide_eq_true e
        rw [lenb] at this
        omega
      refine ⟨.ref r, rfl, .ref β.p, rfl, .ref r, rfl, r, _, rfl, .inl (sqOf h12.nw.r.l), β, _, rfl, h12.box, by omega, by omega, fun x H14 x0 x1 B14 b14 => ?_⟩
      have h14 := h12.bq B14 b14
      obtain ⟨j, rfl⟩ : ∃ j : Nat, x = (j : Int) := ⟨x.toNat, by omega⟩
      have hj : j < bs.length := by omega
      have ej := List.getElem?_eq_getElem hj
      have hbj := h14.nw.r.t bs[j] (List.getElem_mem hj)
      refine ⟨r, _, _, .ref bs[j].1, rfl, rfl, sqOf h14.nw.r.l, atI_nat (j := j) (by rw [List.getElem?_map, ej]; rfl), bs[j].1, _, 1, .str bs[j].2.name, rfl, rfl, .of hbj, rfl, ?_⟩
      refine ⟨.ref r, rfl, r, rfl, ⟨_, sqOf h14.nw.r.l⟩, fun D nD => lc_l (fun y : Addr × Tr => !decide (y.2.name = bs[j].2.name)) (fun y : Addr × Tr => V.ref y.1) h14.nw.r.l nD (by omega) (fun _ => rfl) (fun c hc H2 S2 R hR => ?_) (fun c hc H2 S2 R hR => ⟨.ref c.1, rfl, hR H2 (Same.refl _)⟩) (fun H15 S15 hD => ?_)⟩
      · refine ⟨.ref c.1, rfl, c.1, _, 1, .str c.2.name, rfl, rfl, .of (S2 _ _ (h14.nw.r.t c hc)), rfl, .str bs[j].2.name, rfl, rfl, _, rfl, ?_⟩
        rw [str_dec]
        exact hR H2 (Same.refl _)
      have h15 := h14.same S15
      exact ⟨D, bs[j].2.name, by rw [emy]; rfl, h15, fun _ => ⟨⟨bs[j], List.getElem_mem hj, rfl⟩, hD, fun c hc => h15.nw.r.t c (List.mem_filter.mp hc).1⟩⟩
    rintro σ' H13 ⟨O, go, rfl, h13, g13⟩
    clear h12 emy
    refine ⟨2, rfl, by decide, by decide, ?_⟩
    refine for_range (lo := 0) (n := (2 : Int).toNat) (fun i σ H' => ∃ (y11 y12 y13 y14 y15 : Option V), σ = [some (.ref a), some (.ref β.p), some (.int bg), some (.str st), some (.int ba), some (.ref kl), some my, some (.ref r), some (.ref n), some (.ref O), some (.str go), y11, y12, y13, y14, y15, none] ∧ LawAt C CS CT P1 β n r kl ss ts bs ks H' ∧ (0 < bs.length → RowsAt H' O (gone bs go))) ⟨none, none, none, none, none, rfl, h13, fun z => (g13 z).2⟩ ?_ ?_
    · rintro i σ H14 hi ⟨y11, y12, y13, y14, y15, rfl, h14, g14⟩
      refine ⟨.ref kl, rfl, .ref β.p, rfl, .ref kl, rfl, kl, _, rfl, .inl (sqOf h14.kl.l), β, _, rfl, h14.box, by omega, by omega, fun u H15 u0 u1 B15 b15 => ?_⟩
      have h15 := h14.bq B15 b15
      rw [lenk] at u1
      obtain ⟨sa, msa, esa⟩ := at_strs u0 u1
      refine ⟨kl, _, u, .str sa, rfl, rfl, sqOf h15.kl.l, esa, ?_⟩
      refine ⟨.ref kl, rfl, .ref β.p, rfl, .ref kl, rfl, kl, _, rfl, .inl (sqOf h15.kl.l), β, _, rfl, h15.box, by omega, by omega, fun u H16 u0 u1 B16 b16 => ?_⟩
      have h16 := h15.bq B16 b16
      have g16 : 0 < bs.length → RowsAt H16 O (gone bs go) := fun z => ((g14 z).bq h14.box b15).bq h15.box b16
      rw [lenk] at u1
      obtain ⟨sg, msg, esg⟩ := at_strs u0 u1
      refine ⟨kl, _, u, .str sg, rfl, rfl, sqOf h16.kl.l, esg, ?_⟩
      clear h15 h14 g14 b15 b16 B15 B16 esa esg u0 u1
      refine ⟨fun σ' H' => ∃ (s g : Str) (y14 : Option V), σ' = [some (.ref a), some (.ref β.p), some (.int bg), some (.str st), some (.int ba), some (.ref kl), some my, some (.ref r), some (.ref n), some (.ref O), some (.str go), some (.int (0 + (i : Int))), some (.str s), some (.str g), y14, y15, none] ∧ s ∈ ks ∧ g ∈ ks ∧ LawAt C CS CT P1 β n r kl ss ts bs ks H' ∧ (0 < bs.length → RowsAt H' O (gone bs go)), ?_, ?_⟩
      · refine ⟨.ref r, rfl, r, _, rfl, .inl (sqOf h16.nw.r.l), _, 0, rfl, rfl, _, rfl, ite2 (fun e => ?_) (fun e => ⟨sa, sg, _, rfl, msa, msg, h16, g16⟩)⟩
        refine ⟨.ref β.p, rfl, β, 3, rfl, h16.box, by decide, by decide, fun v H17 v0 v1 B17 b17 => ⟨v, 0, rfl, rfl, _, rfl, ite2 (fun _ => ?_) (fun _ => ⟨sa, sg, _, rfl, msa, msg, h16.bq B17 b17, fun z => (g16 z).bq h16.box b17⟩)⟩⟩
        have h17 := h16.bq B17 b17
        have lpos : 0 < bs.length := by
          have := of_decide_eq_true e
          rw [lenb] at this
          omega
        refine ⟨.ref β.p, rfl, .ref r, rfl, r, _, rfl, .inl (sqOf h17.nw.r.l), β, _, rfl, h17.box, by omega, by omega, fun x H18 x0 x1 B18 b18 => ?_⟩
        have h18 := h17.bq B18 b18
        rw [lenb] at x1
        obtain ⟨j, rfl⟩ : ∃ j : Nat, x = (j : Int) := ⟨x.toNat, by omega⟩
        have hj : j < bs.length := by omega
        have ej := List.getElem?_eq_getElem hj
        refine ⟨.ref r, rfl, .int (j : Int), rfl, r, _, _, .ref bs[j].1, rfl, rfl, sqOf h18.nw.r.l, atI_nat (j := j) (by rw [List.getElem?_map, ej]; rfl), bs[j].1, _, 2, .str bs[j].2.start, rfl, rfl, .of (h18.nw.r.t bs[j] (List.getElem_mem hj)), rfl, ?_⟩
        refine ⟨.ref r, rfl, .int (j : Int), rfl, .ref β.p, rfl, .ref r, rfl, r, _, rfl, .inl (sqOf h18.nw.r.l), .int (j : Int), rfl, _, _, rfl, rfl, β, _, rfl, h18.box, by omega, by omega, fun c H19 c0 c1 B19 b19 => ⟨_, _, rfl, rfl, ?_⟩⟩
        have h19 := h18.bq B19 b19
        rw [lenb] at c1
        obtain ⟨j2, hj2⟩ : ∃ j2 : Nat, (j : Int) + c = (j2 : Int) := ⟨((j : Int) + c).toNat, by omega⟩
        have lj2 : j2 < bs.length := by omega
        have ej2 := List.getElem?_eq_getElem lj2
        refine ⟨r, _, _, .ref bs[j2].1, rfl, rfl, sqOf h19.nw.r.l, at_n hj2 (by rw [List.getElem?_map, ej2]; rfl), bs[j2].1, _, 3, .str bs[j2].2.goal, rfl, rfl, .of (h19.nw.r.t bs[j2] (List.getElem_mem lj2)), rfl, ?_⟩
        exact ⟨bs[j].2.start, bs[j2].2.goal, _, rfl, (okb _ (List.getElem_mem hj)).start, (okb _ (List.getElem_mem lj2)).goal, h19, fun z => (((g16 z).bq h16.box b17).bq h17.box b18).bq h18.box b19⟩
      rintro σ' H17 ⟨s, g, y14, rfl, ms, mg', h17, g17⟩
      clear h16 g16
      have m1 := (mS s).mp ms
      have m2' := (mS g).mp mg'
      refine ⟨.ref β.p, rfl, .ref r, rfl, .str g, rfl, r, bs, g, rfl, h17.nw.r, by omega, lat, fun W cs H18 S18 nW hW ec => ?_⟩
      have h18 := h17.same S18
      refine ⟨.ref r, rfl, .str s, rfl, .str g, rfl, .int ba, rfl, β, W, r, cs, bs, s, g, ba, rfl, h18.box, hW, h18.nw.r, by omega, bb.1, fun bd H19 bd0 B19 b19 => ?_⟩
      have h19 := h18.bq B19 b19
      refine ⟨.ref n, rfl, .ref r, rfl, .str s, rfl, .str g, rfl, .int ba, rfl, .int bd, rfl, n, r, ss, ts, bs, s, g, ba, bd, rfl, h19.nw, m1, m2', bb.1, bd0, fun H20 S20 => ⟨_, rfl, ite2 (fun z => by cases z) (fun _ => ?_)⟩⟩
      have h20 := h19.same S20
      have g20 : 0 < bs.length → RowsAt H20 O (gone bs go) := fun z => ((((g17 z).same S18).bq h18.box b19).same S20)
      clear h17 h18 h19 g17 hW
      refine ⟨fun σ' H' => σ' = [some (.ref a), some (.ref β.p), some (.int bg), some (.str st), some (.int ba), some (.ref kl), some my, some (.ref r), some (.ref n), some (.ref O), some (.str go), some (.int (0 + (i : Int))), some (.str s), some (.str g), y14, some (.int bd), none] ∧ LawAt C CS CT P1 β n r kl ss ts bs ks H' ∧ (0 < bs.length → RowsAt H' O (gone bs go)), ?_, ?_⟩
      · refine ⟨.ref r, rfl, r, _, rfl, .inl (sqOf h20.nw.r.l), _, 0, rfl, rfl, _, rfl, ite2 (fun e => ?_) (fun e => ⟨rfl, h20, g20⟩)⟩
        refine ⟨.int (0 + (i : Int)), rfl, rfl, _, rfl, ite2 (fun _ => ?_) (fun _ => ⟨rfl, h20, g20⟩)⟩
        have lpos : 0 < bs.length := by
          have := of_decide_eq_true e
          rw [lenb] at this
          omega
        obtain ⟨b, hb, eb⟩ := (g13 lpos).1
        obtain ⟨y, hy, ey⟩ : ∃ y ∈ ts, y.2 = b.2 := by
          have : b.2 ∈ ts.map (·.2) := by rw [e12]; exact List.mem_map.mpr ⟨b, hb, rfl⟩
          obtain ⟨y, hy, e⟩ := List.mem_map.mp this
          exact ⟨y, hy, e⟩
        have en : y.2.name = go := by rw [ey, eb]
        obtain ⟨dx, S, T, Lx, dS, dT, dC, hn, _⟩ := h20.nw.n.ex
        refine ⟨.ref n, rfl, n, dx, _, rfl, hn, rfl, .str go, rfl, n, ss, ts, y, by rw [en]; rfl, h20.tab, h20.nw.n, hy, fun n2 ss2 ts2 H21 E21 T21 N21 pS21 e21 => ?_⟩
        have h21 := h20.ext E21 T21
        have R21 : RowsAt H21 O (gone bs go) := ⟨E21 _ _ (g20 lpos).l nofun, fun c hc => E21 _ _ ((g20 lpos).t c hc) nofun⟩
        have e21' : ts2.map (·.2) = (gone bs go).map (·.2) := by rw [e21, en, gone_map, gone_map, e12]
        have pm : ∀ z, z ∈ nmsS ss → z ∈ nmsS ss2 := fun z hz => (pS21.map fun y => y.2.name).mem_iff.mpr hz
        refine ⟨.ref O, rfl, .str s, rfl, .str g, rfl, .int ba, rfl, .int bd, rfl, n2, O, ss2, ts2, gone bs go, s, g, ba, bd, rfl, ⟨N21, R21, e21', fun t ht => ?_, fun b hb => lat b (List.mem_filter.mp hb).1, Nat.le_trans (List.length_filter_le _ _) h20.nw.l⟩, pm s m1, pm g m2', bb.1, bd0, fun H22 S22 => ⟨_, rfl, ite2 (fun z => by cases z) (fun _ => ?_)⟩⟩
        · obtain ⟨b, hb, rfl⟩ := List.mem_map.mp ht
          exact kt b.2 (List.mem_map.mpr ⟨b, (List.mem_filter.mp hb).1, rfl⟩)
        · exact ⟨rfl, h21.same S22, fun _ => R21.same S22⟩
      rintro σ' H21 ⟨rfl, h21, g21⟩
      clear h20 g20
      refine ⟨.ref β.p, rfl, .ref kl, rfl, .ref r, rfl, .str s, rfl, .str g, rfl, .int ba, rfl, .ref β.p, rfl, β, 24, rfl, h21.box, by decide, by decide, fun v H22 v0 v1 B22 b22 => ⟨_, _, rfl, rfl, ?_⟩⟩
      have h22 := h21.bq B22 b22
      have g22 : 0 < bs.length → RowsAt H22 O (gone bs go) := fun z => (g21 z).bq h21.box b22
      refine ⟨β, kl, r, ks, bs, s, g, ba + v, rfl, h22.box, h22.tab, h22.kl, ndk, by omega, h22.nw.r, okb, nnb, by omega, so11, h9, ms, mg', by omega, fun H23 B23 k23 T23 => ⟨_, rfl, ite2 (fun z => by cases z) (fun _ => ?_)⟩⟩
      have h23 := h22.kq B23 k23 T23
      have g23 : 0 < bs.length → RowsAt H23 O (gone bs go) := fun z => ⟨kq_keep h22.box k23 (g22 z).l (NI.refs _ _) nofun, fun c hc => kq_keep h22.box k23 ((g22 z).t c hc) (NI.tup _) nofun⟩
      refine ⟨.ref β.p, rfl, .ref n, rfl, .ref kl, rfl, .ref r, rfl, .str st, rfl, .int bd, rfl, β, n, kl, r, st, bd, ss, ts, bs, ks, rfl, h23.box, h23.nw, h23.kl, by omega, by omega, mS, ns3, bd0, fun H24 B24 b24 => ⟨_, rfl, ite2 (fun z => by cases z) (fun _ => ?_)⟩⟩
      exact ⟨_, _, _, _, _, rfl, h23.bq B24 b24, fun z => (g23 z).bq h23.box b24⟩
    · rintro σ H14 ⟨y11, y12, y13, y14, y15, rfl, h14, g14⟩
      exact ⟨.ref n, rfl, .ref r, rfl, n, r, ss, ts, bs, rfl, h14.nw.n, h14.nw.r, e12, fun H21 _ => q H21⟩
end
end Tb
set_option maxHeartbeats 0
namespace Tb
open PySem PySem.Spec PyProof.Rows L2
theorem cls_some {K : PySem.W.Frag} {C : Addr} (h : PySem.W.hasDictIn K C = true) : (PySem.W.clsIn K C).isSome = true := by
  obtain ⟨cd, hc, _⟩ := PySem.W.any_some h
  rw [hc]
  rfl
theorem kit_refC {K : PySem.W.Frag} {t : Value} {C : Addr} {b : Bool} (hd : PySem.W.hasDictIn K C = true) (ht : PySem.W.typeIn K (.ref C) = some (.type "type")) (hs : PySem.W.subIn K t (.ref C) = some b) : PySem.W.kitCls K t (.ref C) = some b := by
  have e2 : ((PySem.W.clsIn K C).isSome && PySem.W.typeIn K (.ref C) == some (.type "type")) = true := by rw [cls_some hd, ht]; rfl
  show (if ((PySem.W.clsIn K C).isSome && PySem.W.typeIn K (.ref C) == some (.type "type")) = true then PySem.W.subIn K t (.ref C) else none) = some b
  rw [if_pos e2]
  exact hs
theorem kit_tyC {K : PySem.W.Frag} {t : Value} {T : String} {b : Bool} (hT : PySem.W.kitMeta T = true) (hs : PySem.W.subIn K t (.type T) = some b) : PySem.W.kitCls K t (.type T) = some b := by
  show (if PySem.W.kitMeta T = true then PySem.W.subIn K t (.type T) else none) = some b
  rw [if_pos hT]
  exact hs
theorem kit_t {K : PySem.W.Frag} {t c : Value} (h : PySem.W.kitCls K t c = some true) : PySem.W.kitOne K t c = some true := by
  unfold PySem.W.kitOne
  by_cases e : (t == c) = true
  · rw [if_pos e]
  · rw [if_neg e]
    exact h
theorem kit_f {K : PySem.W.Frag} {t c : Value} (e : (t == c) = false) (h : PySem.W.kitCls K t c = some false) : PySem.W.kitOne K t c = some false := by
  unfold PySem.W.kitOne
  rw [if_neg (by rw [e]; exact Bool.false_ne_true)]
  exact h
theorem kit_nil {K : PySem.W.Frag} {t : Value} : PySem.W.kitAny K t [] = some false := rfl
theorem kit_no {K : PySem.W.Frag} {t c : Value} {r : List Value} (h : PySem.W.kitOne K t c = some false) (hr : PySem.W.kitAny K t r = some false) : PySem.W.kitAny K t (c :: r) = some false := by
  show (match PySem.W.kitOne K t c with | some true => some true | some false => PySem.W.kitAny K t r | none => none) = some false
  rw [h]
  exact hr
theorem all_mk {l : PySem.W.OpenLaw} {w : World} {K : PySem.W.Frag} {h : Heap} {mg : Str → Option Value} {fa f1 f2 f3 f4 f5 f6 f7 f8 f9 f10 f11 f12 f13 f14 f15 f16 f17 f18 f19 f20 f21 f22 f23 f24 f25 f26 f27 f28 f29 f30 f31 f32 f33 f34 f35 f36 f37 CI mI CU mU t1 t2 t3 CS mSI KS CT mTI KT C mNI ccN mNs mNt mNw CP Ce1 Ce2 Ce3 Ce4 Ce5 Ce6 P1 : Addr} (X : K.In h) (G : h.Ns mainGlobals mg) (hfa : mg "law" = some (.ref fa))
    {od1 an1 od2 an2 od3 an3 od4 an4 od5 an5 od6 an6 od7 an7 od8 an8 od9 an9 od10 an10 od11 an11 od12 an12 od13 an13 od14 an14 od15 an15 od16 an16 od17 an17 od18 an18 od19 an19 od20 an20 od21 an21 od22 an22 od23 an23 od24 an24 od25 an25 od26 an26 od27 an27 od28 an28 od29 an29 od30 an30 od31 an31 od32 an32 od33 an33 od34 an34 od35 an35 od36 an36 od37 an37 odmI anmI odmU anmU odSI anSI odTI anTI odNI anNI odmNs anmNs odmNt anmNt odmNw anmNw : Option Addr} {sl1 sl2 sl3 sl4 sl5 sl6 sl7 sl8 sl9 sl10 sl11 sl12 sl13 sl14 sl15 sl16 sl17 sl18 sl19 sl20 sl21 sl22 sl23 sl24 sl25 sl26 sl27 sl28 sl29 sl30 sl31 sl32 sl33 sl34 sl35 sl36 sl37 slmI slmU slSI slTI slNI slmNs slmNt slmNw : Array (Option Value)} {oc1 kV1 dc1 pm1 cd1 ct1 oc2 kV2 dc2 pm2 cd2 ct2 oc3 kV3 dc3 pm3 cd3 ct3 oc4 kV4 dc4 pm4 cd4 ct4 oc5 kV5 dc5 pm5 cd5 ct5 oc6 kV6 dc6 pm6 cd6 ct6 oc7 kV7 dc7 pm7 cd7 ct7 oc8 kV8 dc8 pm8 cd8 ct8 oc9 kV9 dc9 pm9 cd9 ct9 oc10 kV10 dc10 pm10 cd10 ct10 oc11 kV11 dc11 pm11 cd11 ct11 oc12 kV12 dc12 pm12 cd12 ct12 oc13 kV13 dc13 pm13 cd13 ct13 oc14 kV14 dc14 pm14 cd14 ct14 oc15 kV15 dc15 pm15 cd15 ct15 oc16 kV16 dc16 pm16 cd16 ct16 oc17 kV17 dc17 pm17 cd17 ct17 oc18 kV18 dc18 pm18 cd18 ct18 oc19 kV19 dc19 pm19 cd19 ct19 oc20 kV20 dc20 pm20 cd20 ct20 oc21 kV21 dc21 pm21 cd21 ct21 oc22 kV22 dc22 pm22 cd22 ct22 oc23 kV23 dc23 pm23 cd23 ct23 oc24 kV24 dc24 pm24 cd24 ct24 oc25 kV25 dc25 pm25 cd25 ct25 oc26 kV26 dc26 pm26 cd26 ct26 oc27 kV27 dc27 pm27 cd27 ct27 oc28 kV28 dc28 pm28 cd28 ct28 oc29 kV29 dc29 pm29 cd29 ct29 oc30 kV30 dc30 pm30 cd30 ct30 oc31 kV31 dc31 pm31 cd31 ct31 oc32 kV32 dc32 pm32 cd32 ct32 oc33 kV33 dc33 pm33 cd33 ct33 oc34 kV34 dc34 pm34 cd34 ct34 oc35 kV35 dc35 pm35 cd35 ct35 oc36 kV36 dc36 pm36 cd36 ct36 oc37 kV37 dc37 pm37 cd37 ct37 ocmI kVmI dcmI pmmI cdmI ctmI ocmU kVmU dcmU pmmU cdmU ctmU ocSI dcSI pmSI cdSI ctSI ocTI dcTI pmTI cdTI ctTI ocNI kVNI dcNI pmNI ctNI ocmNs kVmNs dcmNs pmmNs cdmNs ctmNs ocmNt kVmNt dcmNt pmmNt cdmNt ctmNt ocmNw kVmNw dcmNw pmmNw cdmNw ctmNw : Value}
    {tDG tLT tk0 tk1 tk2 : Tok}
    {nmI qI} {NI} {bsI} {bmI} {snI} {subI} {abI} {colI} {ddI} {k0I} {k1I} {k2I} {k3I} {k5I}
    {nmU qU} {NU} {bsU} {bmU} {snU} {subU} {abU} {colU} {ddU} {k0U} {k1U} {k2U} {k3U} {k5U}
    {d01 d02 d03 : Option Addr} {n01 n02 n03 : Nat} {s01 s02 s03 : Array (Option Value)}
    (a1 : PySem.W.nsIn K mainGlobals "_latest" = some (some (.ref f1)))
    (l1 : K.lookup f1 = some ⟨oc1, od1, .func (PySem.W.fnOf "_latest" "_latest" (defArgs sLatest) (defBody sLatest) (defScope sLatest) .none kV1 dc1 pm1 an1 cd1 ct1), sl1⟩)
    (c1 : PySem.W.codeIn K cd1 "_latest" = true)
    (k1 : PySem.W.keepIn K (.ref f1) = true)
    (a2 : PySem.W.nsIn K mainGlobals "_check_ends" = some (some (.ref f2)))
    (l2 : K.lookup f2 = some ⟨oc2, od2, .func (PySem.W.fnOf "_check_ends" "_check_ends" (defArgs sEnds) (defBody sEnds) (defScope sEnds) .none kV2 dc2 pm2 an2 cd2 ct2), sl2⟩)
    (c2 : PySem.W.codeIn K cd2 "_check_ends" = true)
    (k2 : PySem.W.keepIn K (.ref f2) = true)
    (a3 : PySem.W.nsIn K mainGlobals "_arrival" = some (some (.ref f3)))
    (l3 : K.lookup f3 = some ⟨oc3, od3, .func (PySem.W.fnOf "_arrival" "_arrival" (defArgs sArr) (defBody sArr) (defScope sArr) .none kV3 dc3 pm3 an3 cd3 ct3), sl3⟩)
    (c3 : PySem.W.codeIn K cd3 "_arrival" = true)
    (k3 : PySem.W.keepIn K (.ref f3) = true)
    (a4 : PySem.W.nsIn K mainGlobals "soonest" = some (some (.ref f4)))
    (l4 : K.lookup f4 = some ⟨oc4, od4, .func (PySem.W.fnOf "soonest" "soonest" (defArgs sSoonest) (defBody sSoonest) (defScope sSoonest) .none kV4 dc4 pm4 an4 cd4 ct4), sl4⟩)
    (c4 : PySem.W.codeIn K cd4 "soonest" = true)
    (k4 : PySem.W.keepIn K (.ref f4) = true)
    (a5 : PySem.W.nsIn K mainGlobals "surely" = some (some (.ref f5)))
    (l5 : K.lookup f5 = some ⟨oc5, od5, .func (PySem.W.fnOf "surely" "surely" (defArgs sSurely) (defBody sSurely) (defScope sSurely) .none kV5 dc5 pm5 an5 cd5 ct5), sl5⟩)
    (c5 : PySem.W.codeIn K cd5 "surely" = true)
    (k5 : PySem.W.keepIn K (.ref f5) = true)
    (a6 : PySem.W.nsIn K mainGlobals "last_chance" = some (some (.ref f6)))
    (l6 : K.lookup f6 = some ⟨oc6, od6, .func (PySem.W.fnOf "last_chance" "last_chance" (defArgs sLastC) (defBody sLastC) (defScope sLastC) .none kV6 dc6 pm6 an6 cd6 ct6), sl6⟩)
    (c6 : PySem.W.codeIn K cd6 "last_chance" = true)
    (k6 : PySem.W.keepIn K (.ref f6) = true)
    (a7 : PySem.W.nsIn K mainGlobals "made_of" = some (some (.ref f7)))
    (l7 : K.lookup f7 = some ⟨oc7, od7, .func (PySem.W.fnOf "made_of" "made_of" (defArgs sMade) (defBody sMade) (defScope sMade) .none kV7 dc7 pm7 an7 cd7 ct7), sl7⟩)
    (c7 : PySem.W.codeIn K cd7 "made_of" = true)
    (k7 : PySem.W.keepIn K (.ref f7) = true)
    (a8 : PySem.W.nsIn K mainGlobals "spells_address" = some (some (.ref f8)))
    (l8 : K.lookup f8 = some ⟨oc8, od8, .func (PySem.W.fnOf "spells_address" "spells_address" (defArgs sSpells) (defBody sSpells) (defScope sSpells) .none kV8 dc8 pm8 an8 cd8 ct8), sl8⟩)
    (c8 : PySem.W.codeIn K cd8 "spells_address" = true)
    (k8 : PySem.W.keepIn K (.ref f8) = true)
    (a9 : PySem.W.nsIn K mainGlobals "is_name" = some (some (.ref f9)))
    (l9 : K.lookup f9 = some ⟨oc9, od9, .func (PySem.W.fnOf "is_name" "is_name" (defArgs sIsName) (defBody sIsName) (defScope sIsName) .none kV9 dc9 pm9 an9 cd9 ct9), sl9⟩)
    (c9 : PySem.W.codeIn K cd9 "is_name" = true)
    (k9 : PySem.W.keepIn K (.ref f9) = true)
    (a10 : PySem.W.nsIn K mainGlobals "_are_names" = some (some (.ref f10)))
    (l10 : K.lookup f10 = some ⟨oc10, od10, .func (PySem.W.fnOf "_are_names" "_are_names" (defArgs sAreN) (defBody sAreN) (defScope sAreN) .none kV10 dc10 pm10 an10 cd10 ct10), sl10⟩)
    (c10 : PySem.W.codeIn K cd10 "_are_names" = true)
    (k10 : PySem.W.keepIn K (.ref f10) = true)
    (a11 : PySem.W.nsIn K mainGlobals "_ascends" = some (some (.ref f11)))
    (l11 : K.lookup f11 = some ⟨oc11, od11, .func (PySem.W.fnOf "_ascends" "_ascends" (defArgs sAscends) (defBody sAscends) (defScope sAscends) .none kV11 dc11 pm11 an11 cd11 ct11), sl11⟩)
    (c11 : PySem.W.codeIn K cd11 "_ascends" = true)
    (k11 : PySem.W.keepIn K (.ref f11) = true)
    (a12 : PySem.W.nsIn K mainGlobals "_by_name" = some (some (.ref f12)))
    (l12 : K.lookup f12 = some ⟨oc12, od12, .func (PySem.W.fnOf "_by_name" "_by_name" (defArgs sByName) (defBody sByName) (defScope sByName) .none kV12 dc12 pm12 an12 cd12 ct12), sl12⟩)
    (c12 : PySem.W.codeIn K cd12 "_by_name" = true)
    (k12 : PySem.W.keepIn K (.ref f12) = true)
    (a13 : PySem.W.nsIn K mainGlobals "_found" = some (some (.ref f13)))
    (l13 : K.lookup f13 = some ⟨oc13, od13, .func (PySem.W.fnOf "_found" "_found" (defArgs sFound) (defBody sFound) (defScope sFound) .none kV13 dc13 pm13 an13 cd13 ct13), sl13⟩)
    (c13 : PySem.W.codeIn K cd13 "_found" = true)
    (k13 : PySem.W.keepIn K (.ref f13) = true)
    (a14 : PySem.W.nsIn K mainGlobals "_law_mixed" = some (some (.ref f14)))
    (l14 : K.lookup f14 = some ⟨oc14, od14, .func (PySem.W.fnOf "_law_mixed" "_law_mixed" (defArgs sMixed) (defBody sMixed) (defScope sMixed) .none kV14 dc14 pm14 an14 cd14 ct14), sl14⟩)
    (c14 : PySem.W.codeIn K cd14 "_law_mixed" = true)
    (k14 : PySem.W.keepIn K (.ref f14) = true)
    (a15 : PySem.W.nsIn K mainGlobals "_law_box" = some (some (.ref f15)))
    (l15 : K.lookup f15 = some ⟨oc15, od15, .func (PySem.W.fnOf "_law_box" "_law_box" (defArgs sBox) (defBody sBox) (defScope sBox) .none kV15 dc15 pm15 an15 cd15 ct15), sl15⟩)
    (c15 : PySem.W.codeIn K cd15 "_law_box" = true)
    (k15 : PySem.W.keepIn K (.ref f15) = true)
    (a16 : PySem.W.nsIn K mainGlobals "_law_draw" = some (some (.ref f16)))
    (l16 : K.lookup f16 = some ⟨oc16, od16, .func (PySem.W.fnOf "_law_draw" "_law_draw" (defArgs sDraw) (defBody sDraw) (defScope sDraw) .none kV16 dc16 pm16 an16 cd16 ct16), sl16⟩)
    (c16 : PySem.W.codeIn K cd16 "_law_draw" = true)
    (k16 : PySem.W.keepIn K (.ref f16) = true)
    (a17 : PySem.W.nsIn K mainGlobals "_law_letter" = some (some (.ref f17)))
    (l17 : K.lookup f17 = some ⟨oc17, od17, .func (PySem.W.fnOf "_law_letter" "_law_letter" (defArgs sLetter) (defBody sLetter) (defScope sLetter) .none kV17 dc17 pm17 an17 cd17 ct17), sl17⟩)
    (c17 : PySem.W.codeIn K cd17 "_law_letter" = true)
    (k17 : PySem.W.keepIn K (.ref f17) = true)
    (a18 : PySem.W.nsIn K mainGlobals "_law_word" = some (some (.ref f18)))
    (l18 : K.lookup f18 = some ⟨oc18, od18, .func (PySem.W.fnOf "_law_word" "_law_word" (defArgs sWord) (defBody sWord) (defScope sWord) .none kV18 dc18 pm18 an18 cd18 ct18), sl18⟩)
    (c18 : PySem.W.codeIn K cd18 "_law_word" = true)
    (k18 : PySem.W.keepIn K (.ref f18) = true)
    (a19 : PySem.W.nsIn K mainGlobals "_law_fresh" = some (some (.ref f19)))
    (l19 : K.lookup f19 = some ⟨oc19, od19, .func (PySem.W.fnOf "_law_fresh" "_law_fresh" (defArgs sFresh) (defBody sFresh) (defScope sFresh) .none kV19 dc19 pm19 an19 cd19 ct19), sl19⟩)
    (c19 : PySem.W.codeIn K cd19 "_law_fresh" = true)
    (k19 : PySem.W.keepIn K (.ref f19) = true)
    (a20 : PySem.W.nsIn K mainGlobals "_law_same" = some (some (.ref f20)))
    (l20 : K.lookup f20 = some ⟨oc20, od20, .func (PySem.W.fnOf "_law_same" "_law_same" (defArgs sLSame) (defBody sLSame) (defScope sLSame) .none kV20 dc20 pm20 an20 cd20 ct20), sl20⟩)
    (c20 : PySem.W.codeIn K cd20 "_law_same" = true)
    (k20 : PySem.W.keepIn K (.ref f20) = true)
    (a21 : PySem.W.nsIn K mainGlobals "_law_known" = some (some (.ref f21)))
    (l21 : K.lookup f21 = some ⟨oc21, od21, .func (PySem.W.fnOf "_law_known" "_law_known" (defArgs sKnown) (defBody sKnown) (defScope sKnown) .none kV21 dc21 pm21 an21 cd21 ct21), sl21⟩)
    (c21 : PySem.W.codeIn K cd21 "_law_known" = true)
    (k21 : PySem.W.keepIn K (.ref f21) = true)
    (a22 : PySem.W.nsIn K mainGlobals "_law_rides" = some (some (.ref f22)))
    (l22 : K.lookup f22 = some ⟨oc22, od22, .func (PySem.W.fnOf "_law_rides" "_law_rides" (defArgs sRides) (defBody sRides) (defScope sRides) .none kV22 dc22 pm22 an22 cd22 ct22), sl22⟩)
    (c22 : PySem.W.codeIn K cd22 "_law_rides" = true)
    (k22 : PySem.W.keepIn K (.ref f22) = true)
    (a23 : PySem.W.nsIn K mainGlobals "_law_order" = some (some (.ref f23)))
    (l23 : K.lookup f23 = some ⟨oc23, od23, .func (PySem.W.fnOf "_law_order" "_law_order" (defArgs sOrder) (defBody sOrder) (defScope sOrder) .none kV23 dc23 pm23 an23 cd23 ct23), sl23⟩)
    (c23 : PySem.W.codeIn K cd23 "_law_order" = true)
    (k23 : PySem.W.keepIn K (.ref f23) = true)
    (a24 : PySem.W.nsIn K mainGlobals "_law_network" = some (some (.ref f24)))
    (l24 : K.lookup f24 = some ⟨oc24, od24, .func (PySem.W.fnOf "_law_network" "_law_network" (defArgs sLNet) (defBody sLNet) (defScope sLNet) .none kV24 dc24 pm24 an24 cd24 ct24), sl24⟩)
    (c24 : PySem.W.codeIn K cd24 "_law_network" = true)
    (k24 : PySem.W.keepIn K (.ref f24) = true)
    (a25 : PySem.W.nsIn K mainGlobals "_law_trips_are" = some (some (.ref f25)))
    (l25 : K.lookup f25 = some ⟨oc25, od25, .func (PySem.W.fnOf "_law_trips_are" "_law_trips_are" (defArgs sTripsAre) (defBody sTripsAre) (defScope sTripsAre) .none kV25 dc25 pm25 an25 cd25 ct25), sl25⟩)
    (c25 : PySem.W.codeIn K cd25 "_law_trips_are" = true)
    (k25 : PySem.W.keepIn K (.ref f25) = true)
    (a26 : PySem.W.nsIn K mainGlobals "_law_value" = some (some (.ref f26)))
    (l26 : K.lookup f26 = some ⟨oc26, od26, .func (PySem.W.fnOf "_law_value" "_law_value" (defArgs sValue) (defBody sValue) (defScope sValue) .none kV26 dc26 pm26 an26 cd26 ct26), sl26⟩)
    (c26 : PySem.W.codeIn K cd26 "_law_value" = true)
    (k26 : PySem.W.keepIn K (.ref f26) = true)
    (a27 : PySem.W.nsIn K mainGlobals "_law_worth" = some (some (.ref f27)))
    (l27 : K.lookup f27 = some ⟨oc27, od27, .func (PySem.W.fnOf "_law_worth" "_law_worth" (defArgs sWorth) (defBody sWorth) (defScope sWorth) .none kV27 dc27 pm27 an27 cd27 ct27), sl27⟩)
    (c27 : PySem.W.codeIn K cd27 "_law_worth" = true)
    (k27 : PySem.W.keepIn K (.ref f27) = true)
    (a28 : PySem.W.nsIn K mainGlobals "_law_soonest" = some (some (.ref f28)))
    (l28 : K.lookup f28 = some ⟨oc28, od28, .func (PySem.W.fnOf "_law_soonest" "_law_soonest" (defArgs sLSoon) (defBody sLSoon) (defScope sLSoon) .none kV28 dc28 pm28 an28 cd28 ct28), sl28⟩)
    (c28 : PySem.W.codeIn K cd28 "_law_soonest" = true)
    (k28 : PySem.W.keepIn K (.ref f28) = true)
    (a29 : PySem.W.nsIn K mainGlobals "_law_last" = some (some (.ref f29)))
    (l29 : K.lookup f29 = some ⟨oc29, od29, .func (PySem.W.fnOf "_law_last" "_law_last" (defArgs sLLast) (defBody sLLast) (defScope sLLast) .none kV29 dc29 pm29 an29 cd29 ct29), sl29⟩)
    (c29 : PySem.W.codeIn K cd29 "_law_last" = true)
    (k29 : PySem.W.keepIn K (.ref f29) = true)
    (a30 : PySem.W.nsIn K mainGlobals "_law_bound" = some (some (.ref f30)))
    (l30 : K.lookup f30 = some ⟨oc30, od30, .func (PySem.W.fnOf "_law_bound" "_law_bound" (defArgs sBound) (defBody sBound) (defScope sBound) .none kV30 dc30 pm30 an30 cd30 ct30), sl30⟩)
    (c30 : PySem.W.codeIn K cd30 "_law_bound" = true)
    (k30 : PySem.W.keepIn K (.ref f30) = true)
    (a31 : PySem.W.nsIn K mainGlobals "_law_ticks" = some (some (.ref f31)))
    (l31 : K.lookup f31 = some ⟨oc31, od31, .func (PySem.W.fnOf "_law_ticks" "_law_ticks" (defArgs sLTicks) (defBody sLTicks) (defScope sLTicks) .none kV31 dc31 pm31 an31 cd31 ct31), sl31⟩)
    (c31 : PySem.W.codeIn K cd31 "_law_ticks" = true)
    (k31 : PySem.W.keepIn K (.ref f31) = true)
    (a32 : PySem.W.nsIn K mainGlobals "_law_answers" = some (some (.ref f32)))
    (l32 : K.lookup f32 = some ⟨oc32, od32, .func (PySem.W.fnOf "_law_answers" "_law_answers" (defArgs sAnswers) (defBody sAnswers) (defScope sAnswers) .none kV32 dc32 pm32 an32 cd32 ct32), sl32⟩)
    (c32 : PySem.W.codeIn K cd32 "_law_answers" = true)
    (k32 : PySem.W.keepIn K (.ref f32) = true)
    (a33 : PySem.W.nsIn K mainGlobals "_law_twins" = some (some (.ref f33)))
    (l33 : K.lookup f33 = some ⟨oc33, od33, .func (PySem.W.fnOf "_law_twins" "_law_twins" (defArgs sTwins) (defBody sTwins) (defScope sTwins) .none kV33 dc33 pm33 an33 cd33 ct33), sl33⟩)
    (c33 : PySem.W.codeIn K cd33 "_law_twins" = true)
    (k33 : PySem.W.keepIn K (.ref f33) = true)
    (a34 : PySem.W.nsIn K mainGlobals "_law_asked" = some (some (.ref f34)))
    (l34 : K.lookup f34 = some ⟨oc34, od34, .func (PySem.W.fnOf "_law_asked" "_law_asked" (defArgs sAsked) (defBody sAsked) (defScope sAsked) .none kV34 dc34 pm34 an34 cd34 ct34), sl34⟩)
    (c34 : PySem.W.codeIn K cd34 "_law_asked" = true)
    (k34 : PySem.W.keepIn K (.ref f34) = true)
    (a35 : PySem.W.nsIn K mainGlobals "_law_unknown" = some (some (.ref f35)))
    (l35 : K.lookup f35 = some ⟨oc35, od35, .func (PySem.W.fnOf "_law_unknown" "_law_unknown" (defArgs sUnk2) (defBody sUnk2) (defScope sUnk2) .none kV35 dc35 pm35 an35 cd35 ct35), sl35⟩)
    (c35 : PySem.W.codeIn K cd35 "_law_unknown" = true)
    (k35 : PySem.W.keepIn K (.ref f35) = true)
    (a36 : PySem.W.nsIn K mainGlobals "_law_strangers" = some (some (.ref f36)))
    (l36 : K.lookup f36 = some ⟨oc36, od36, .func (PySem.W.fnOf "_law_strangers" "_law_strangers" (defArgs sStrangers) (defBody sStrangers) (defScope sStrangers) .none kV36 dc36 pm36 an36 cd36 ct36), sl36⟩)
    (c36 : PySem.W.codeIn K cd36 "_law_strangers" = true)
    (k36 : PySem.W.keepIn K (.ref f36) = true)
    (a37 : PySem.W.nsIn K mainGlobals "law" = some (some (.ref f37)))
    (l37 : K.lookup f37 = some ⟨oc37, od37, .func (PySem.W.fnOf "law" "law" (defArgs sLaw) (defBody sLaw) (defScope sLaw) .none kV37 dc37 pm37 an37 cd37 ct37), sl37⟩)
    (c37 : PySem.W.codeIn K cd37 "law" = true)
    (k37 : PySem.W.keepIn K (.ref f37) = true)
    (z_len : PySem.W.nsIn K mainGlobals "len" = some none)
    (z_int : PySem.W.nsIn K mainGlobals "int" = some none)
    (z_str : PySem.W.nsIn K mainGlobals "str" = some none)
    (z_list : PySem.W.nsIn K mainGlobals "list" = some none)
    (z_tuple : PySem.W.nsIn K mainGlobals "tuple" = some none)
    (z_dict : PySem.W.nsIn K mainGlobals "dict" = some none)
    (z_bool : PySem.W.nsIn K mainGlobals "bool" = some none)
    (z_range : PySem.W.nsIn K mainGlobals "range" = some none)
    (z_sorted : PySem.W.nsIn K mainGlobals "sorted" = some none)
    (z_all : PySem.W.nsIn K mainGlobals "all" = some none)
    (z_isinstance : PySem.W.nsIn K mainGlobals "isinstance" = some none)
    (z_set : PySem.W.nsIn K mainGlobals "set" = some none)
    (z_reversed : PySem.W.nsIn K mainGlobals "reversed" = some none)
    (z_max : PySem.W.nsIn K mainGlobals "max" = some none)
    (z_min : PySem.W.nsIn K mainGlobals "min" = some none)
    (z_ValueError : PySem.W.nsIn K mainGlobals "ValueError" = some none)
    (oHn : PySem.W.specialIn K (.builtin "object.__class__") "__get__" = some (some (.builtin "getset_descriptor.__get__")))
    (oTk : PySem.W.takesIn K (.builtin "object.__class__") = some true)
    (gDG : PySem.W.nsIn K mainGlobals "DIGITS" = some (some (.str ("0123456789" : String) tDG)))
    (gLT : PySem.W.nsIn K mainGlobals "LETTERS" = some (some (.str ("abcdefghijklmnopqrstuvwxyz" : String) tLT)))
    (aIc : PySem.W.nsIn K mainGlobals "Invalid" = some (some (.ref CI)))
    (xIl : K.lookup CI = some (excClassObj nmI qI CI NI bsI bmI true snI subI abI colI ddI k0I k1I k2I k3I k5I "ValueError.__new__"))
    (xIv : PySem.HandSPX.refsVE bmI = true)
    (xIi : PySem.W.findIn K (.ref CI) "__init__" = some (some (.ref mI)))
    (xIs : PySem.W.findIn K (.ref CI) "__setattr__" = some (some (.builtin "object.__setattr__")))
    (xIe : PySem.W.subIn K (.ref CI) (.type "BaseException") = some true)
    (xIt : PySem.W.typeIn K (.ref CI) = some (.type "type"))
    (xIk : PySem.W.keepIn K (.ref CI) = true)
    (xIg : PySem.W.findIn K (.ref CI) "__getattribute__" = some (some (.builtin "BaseException.__getattribute__")))
    (xIa : PySem.W.findIn K (.ref CI) "__getattr__" = some none)
    (xIh : PySem.W.hasDictIn K CI = true)
    (xIn : PySem.W.findIn K (.ref CI) "what" = some none)
    (xIy : PySem.W.typeIn K (.ref mI) = some (.type "function"))
    (xIo : PySem.W.findIn K (.ref CI) "__class__" = some (some (.builtin "object.__class__")))
    (xIm : PySem.W.mroIn K CI (.type "object") = some true)
    (lmI : K.lookup mI = some ⟨ocmI, odmI, .func (PySem.W.fnOf "__init__" "Invalid.__init__" (defArgs sInv) (defBody sInv) (defScope sInv) .none kVmI dcmI pmmI anmI cdmI ctmI), slmI⟩)
    (cmI : PySem.W.codeIn K cdmI "Invalid.__init__" = true)
    (kmI : PySem.W.keepIn K (.ref mI) = true)
    (aUc : PySem.W.nsIn K mainGlobals "Unknown" = some (some (.ref CU)))
    (xUl : K.lookup CU = some (excClassObj nmU qU CU NU bsU bmU true snU subU abU colU ddU k0U k1U k2U k3U k5U "ValueError.__new__"))
    (xUv : PySem.HandSPX.refsVE bmU = true)
    (xUi : PySem.W.findIn K (.ref CU) "__init__" = some (some (.ref mU)))
    (xUs : PySem.W.findIn K (.ref CU) "__setattr__" = some (some (.builtin "object.__setattr__")))
    (xUe : PySem.W.subIn K (.ref CU) (.type "BaseException") = some true)
    (xUt : PySem.W.typeIn K (.ref CU) = some (.type "type"))
    (xUk : PySem.W.keepIn K (.ref CU) = true)
    (xUg : PySem.W.findIn K (.ref CU) "__getattribute__" = some (some (.builtin "BaseException.__getattribute__")))
    (xUa : PySem.W.findIn K (.ref CU) "__getattr__" = some none)
    (xUh : PySem.W.hasDictIn K CU = true)
    (xUn : PySem.W.findIn K (.ref CU) "name" = some none)
    (xUy : PySem.W.typeIn K (.ref mU) = some (.type "function"))
    (xUo : PySem.W.findIn K (.ref CU) "__class__" = some (some (.builtin "object.__class__")))
    (xUm : PySem.W.mroIn K CU (.type "object") = some true)
    (lmU : K.lookup mU = some ⟨ocmU, odmU, .func (PySem.W.fnOf "__init__" "Unknown.__init__" (defArgs sUnk) (defBody sUnk) (defScope sUnk) .none kVmU dcmU pmmU anmU cdmU ctmU), slmU⟩)
    (cmU : PySem.W.codeIn K cdmU "Unknown.__init__" = true)
    (kmU : PySem.W.keepIn K (.ref mU) = true)
    (sG : PySem.W.nsIn K mainGlobals "Site" = some (some (.ref CS)))
    (sPg : PySem.W.plainGet K CS Str.empty = true)
    (sHd : PySem.W.hasDictIn K CS = true)
    (sPo : PySem.W.plainOver K CS = true)
    (sSa : PySem.W.findIn K (.ref CS) "__setattr__" = some (some (.builtin "object.__setattr__")))
    (sN0 : PySem.W.findIn K (.ref CS) "name" = some none)
    (sN1 : PySem.W.findIn K (.ref CS) "house" = some none)
    (sN2 : PySem.W.findIn K (.ref CS) "land" = some none)
    (sN3 : PySem.W.findIn K (.ref CS) "code" = some none)
    (sN4 : PySem.W.findIn K (.ref CS) "rounds" = some none)
    (sN5 : PySem.W.findIn K (.ref CS) "sittings" = some none)
    (sN6 : PySem.W.findIn K (.ref CS) "searches" = some none)
    (sN7 : PySem.W.findIn K (.ref CS) "lag" = some none)
    (sMk : PySem.W.makesIn K CS = true)
    (sKp : PySem.W.keepIn K (.ref CS) = true)
    (sI : PySem.W.findIn K (.ref CS) "__init__" = some (some (.ref mSI)))
    (lSI : K.lookup mSI = some ⟨ocSI, odSI, .func (PySem.W.fnOf "__init__" "Site.__init__" (defArgs sSInit) (defBody sSInit) (defScope sSInit) .none (.ref KS) dcSI pmSI anSI cdSI ctSI), slSI⟩)
    (cSI : PySem.W.codeIn K cdSI "Site.__init__" = true)
    (kSI : PySem.W.keepIn K (.ref mSI) = true)
    (sIn : PySem.W.isFn K (.ref mSI) = true)
    (sD0 : PySem.W.nsIn K KS "rounds" = some (some (.ref t1)))
    (sD1 : PySem.W.nsIn K KS "sittings" = some (some (.ref t2)))
    (sD2 : PySem.W.nsIn K KS "searches" = some (some (.ref t3)))
    (sD3 : PySem.W.nsIn K KS "lag" = some (some .none))
    (e01 : K.lookup t1 = some ⟨.type "tuple", d01, .seq #[] n01, s01⟩)
    (e02 : K.lookup t2 = some ⟨.type "tuple", d02, .seq #[] n02, s02⟩)
    (e03 : K.lookup t3 = some ⟨.type "tuple", d03, .seq #[] n03, s03⟩)
    (tG : PySem.W.nsIn K mainGlobals "Trip" = some (some (.ref CT)))
    (tPg : PySem.W.plainGet K CT Str.empty = true)
    (tHd : PySem.W.hasDictIn K CT = true)
    (tPo : PySem.W.plainOver K CT = true)
    (tSa : PySem.W.findIn K (.ref CT) "__setattr__" = some (some (.builtin "object.__setattr__")))
    (tN0 : PySem.W.findIn K (.ref CT) "name" = some none)
    (tN1 : PySem.W.findIn K (.ref CT) "start" = some none)
    (tN2 : PySem.W.findIn K (.ref CT) "goal" = some none)
    (tN3 : PySem.W.findIn K (.ref CT) "leaves" = some none)
    (tN4 : PySem.W.findIn K (.ref CT) "lands" = some none)
    (tN5 : PySem.W.findIn K (.ref CT) "late" = some none)
    (tN6 : PySem.W.findIn K (.ref CT) "room" = some none)
    (tN7 : PySem.W.findIn K (.ref CT) "toll" = some none)
    (tMk : PySem.W.makesIn K CT = true)
    (tKp : PySem.W.keepIn K (.ref CT) = true)
    (tI : PySem.W.findIn K (.ref CT) "__init__" = some (some (.ref mTI)))
    (lTI : K.lookup mTI = some ⟨ocTI, odTI, .func (PySem.W.fnOf "__init__" "Trip.__init__" (defArgs sTInit) (defBody sTInit) (defScope sTInit) .none (.ref KT) dcTI pmTI anTI cdTI ctTI), slTI⟩)
    (cTI : PySem.W.codeIn K cdTI "Trip.__init__" = true)
    (kTI : PySem.W.keepIn K (.ref mTI) = true)
    (tIn : PySem.W.isFn K (.ref mTI) = true)
    (tD0 : PySem.W.nsIn K KT "late" = some (some (.int 0 tk0)))
    (tD1 : PySem.W.nsIn K KT "room" = some (some (.int 9 tk1)))
    (tD2 : PySem.W.nsIn K KT "toll" = some (some (.int 0 tk2)))
    (nG : PySem.W.nsIn K mainGlobals "Network" = some (some (.ref C)))
    (nPg : PySem.W.plainGet K C Str.empty = true)
    (nHd : PySem.W.hasDictIn K C = true)
    (nPo : PySem.W.plainOver K C = true)
    (nSa : PySem.W.findIn K (.ref C) "__setattr__" = some (some (.builtin "object.__setattr__")))
    (nN0 : PySem.W.findIn K (.ref C) "sites" = some none)
    (nN1 : PySem.W.findIn K (.ref C) "trips" = some none)
    (nN2 : PySem.W.findIn K (.ref C) "closings" = some none)
    (nN3 : PySem.W.findIn K (.ref C) "_sites" = some none)
    (nN4 : PySem.W.findIn K (.ref C) "_trips" = some none)
    (nN5 : PySem.W.findIn K (.ref C) "_closings" = some none)
    (nMk : PySem.W.makesIn K C = true)
    (nKp : PySem.W.keepIn K (.ref C) = true)
    (nI : PySem.W.findIn K (.ref C) "__init__" = some (some (.ref mNI)))
    (lNI : K.lookup mNI = some ⟨ocNI, odNI, .func (PySem.W.fnOf "__init__" "Network.__init__" (defArgs sNInit) (defBody sNInit) (defScope sNInit) .none kVNI dcNI pmNI anNI (.ref ccN) ctNI), slNI⟩)
    (cNI : PySem.W.codeIn K (.ref ccN) "Network.__init__" = true)
    (kNI : PySem.W.keepIn K (.ref mNI) = true)
    (nIn : PySem.W.isFn K (.ref mNI) = true)
    (nNs : PySem.W.findIn K (.ref C) "site" = some (some (.ref mNs)))
    (lmNs : K.lookup mNs = some ⟨ocmNs, odmNs, .func (PySem.W.fnOf "site" "Network.site" (defArgs sNSite) (defBody sNSite) (defScope sNSite) .none kVmNs dcmNs pmmNs anmNs cdmNs ctmNs), slmNs⟩)
    (cmNs : PySem.W.codeIn K cdmNs "Network.site" = true)
    (kmNs : PySem.W.keepIn K (.ref mNs) = true)
    (xNs : PySem.W.isFn K (.ref mNs) = true)
    (nNt : PySem.W.findIn K (.ref C) "trip" = some (some (.ref mNt)))
    (lmNt : K.lookup mNt = some ⟨ocmNt, odmNt, .func (PySem.W.fnOf "trip" "Network.trip" (defArgs sNTrip) (defBody sNTrip) (defScope sNTrip) .none kVmNt dcmNt pmmNt anmNt cdmNt ctmNt), slmNt⟩)
    (cmNt : PySem.W.codeIn K cdmNt "Network.trip" = true)
    (kmNt : PySem.W.keepIn K (.ref mNt) = true)
    (xNt : PySem.W.isFn K (.ref mNt) = true)
    (nNw : PySem.W.findIn K (.ref C) "without_trip" = some (some (.ref mNw)))
    (lmNw : K.lookup mNw = some ⟨ocmNw, odmNw, .func (PySem.W.fnOf "without_trip" "Network.without_trip" (defArgs sNWithout) (defBody sNWithout) (defScope sNWithout) .none kVmNw dcmNw pmmNw anmNw cdmNw ctmNw), slmNw⟩)
    (cmNw : PySem.W.codeIn K cdmNw "Network.without_trip" = true)
    (kmNw : PySem.W.keepIn K (.ref mNw) = true)
    (xNw : PySem.W.isFn K (.ref mNw) = true)
    (aPc : PySem.W.nsIn K mainGlobals "ParcelError" = some (some (.ref CP)))
    (xPh : PySem.W.hasDictIn K CP = true)
    (xPt : PySem.W.typeIn K (.ref CP) = some (.type "type"))
    (ae1c : PySem.W.nsIn K mainGlobals "TooMany" = some (some (.ref Ce1)))
    (xe1h : PySem.W.hasDictIn K Ce1 = true)
    (xe1t : PySem.W.typeIn K (.ref Ce1) = some (.type "type"))
    (ae2c : PySem.W.nsIn K mainGlobals "Contradiction" = some (some (.ref Ce2)))
    (xe2h : PySem.W.hasDictIn K Ce2 = true)
    (xe2t : PySem.W.typeIn K (.ref Ce2) = some (.type "type"))
    (ae3c : PySem.W.nsIn K mainGlobals "BadManifest" = some (some (.ref Ce3)))
    (xe3h : PySem.W.hasDictIn K Ce3 = true)
    (xe3t : PySem.W.typeIn K (.ref Ce3) = some (.type "type"))
    (ae4c : PySem.W.nsIn K mainGlobals "BadLine" = some (some (.ref Ce4)))
    (xe4h : PySem.W.hasDictIn K Ce4 = true)
    (xe4t : PySem.W.typeIn K (.ref Ce4) = some (.type "type"))
    (ae5c : PySem.W.nsIn K mainGlobals "Late" = some (some (.ref Ce5)))
    (xe5h : PySem.W.hasDictIn K Ce5 = true)
    (xe5t : PySem.W.typeIn K (.ref Ce5) = some (.type "type"))
    (ae6c : PySem.W.nsIn K mainGlobals "Refused" = some (some (.ref Ce6)))
    (xe6h : PySem.W.hasDictIn K Ce6 = true)
    (xe6t : PySem.W.typeIn K (.ref Ce6) = some (.type "type"))
    (xPe : PySem.W.subIn K (.ref CP) (.type "BaseException") = some true)
    (sIP : PySem.W.subIn K (.ref CI) (.ref CP) = some true)
    (sIV : PySem.W.subIn K (.ref CI) (.type "ValueError") = some true)
    (sIS : PySem.W.subIn K (.ref CI) (.ref CI) = some true)
    (sIU : PySem.W.subIn K (.ref CI) (.ref CU) = some false)
    (nsIU : (Value.ref CI == Value.ref CU) = false)
    (sIe1 : PySem.W.subIn K (.ref CI) (.ref Ce1) = some false)
    (nsIe1 : (Value.ref CI == Value.ref Ce1) = false)
    (sIe2 : PySem.W.subIn K (.ref CI) (.ref Ce2) = some false)
    (nsIe2 : (Value.ref CI == Value.ref Ce2) = false)
    (sIe3 : PySem.W.subIn K (.ref CI) (.ref Ce3) = some false)
    (nsIe3 : (Value.ref CI == Value.ref Ce3) = false)
    (sIe4 : PySem.W.subIn K (.ref CI) (.ref Ce4) = some false)
    (nsIe4 : (Value.ref CI == Value.ref Ce4) = false)
    (sIe5 : PySem.W.subIn K (.ref CI) (.ref Ce5) = some false)
    (nsIe5 : (Value.ref CI == Value.ref Ce5) = false)
    (sIe6 : PySem.W.subIn K (.ref CI) (.ref Ce6) = some false)
    (nsIe6 : (Value.ref CI == Value.ref Ce6) = false)
    (sUP : PySem.W.subIn K (.ref CU) (.ref CP) = some true)
    (sUV : PySem.W.subIn K (.ref CU) (.type "ValueError") = some true)
    (sUS : PySem.W.subIn K (.ref CU) (.ref CU) = some true)
    (sUI : PySem.W.subIn K (.ref CU) (.ref CI) = some false)
    (nsUI : (Value.ref CU == Value.ref CI) = false)
    (sUe1 : PySem.W.subIn K (.ref CU) (.ref Ce1) = some false)
    (nsUe1 : (Value.ref CU == Value.ref Ce1) = false)
    (sUe2 : PySem.W.subIn K (.ref CU) (.ref Ce2) = some false)
    (nsUe2 : (Value.ref CU == Value.ref Ce2) = false)
    (sUe3 : PySem.W.subIn K (.ref CU) (.ref Ce3) = some false)
    (nsUe3 : (Value.ref CU == Value.ref Ce3) = false)
    (sUe4 : PySem.W.subIn K (.ref CU) (.ref Ce4) = some false)
    (nsUe4 : (Value.ref CU == Value.ref Ce4) = false)
    (sUe5 : PySem.W.subIn K (.ref CU) (.ref Ce5) = some false)
    (nsUe5 : (Value.ref CU == Value.ref Ce5) = false)
    (sUe6 : PySem.W.subIn K (.ref CU) (.ref Ce6) = some false)
    (nsUe6 : (Value.ref CU == Value.ref Ce6) = false)
    (hT1 : h.get? P1 = some { cls := .none, data := .fields #[] })
    (nT1 : K.lookup P1 = none)
    (hC1 : PySem.W.CodeHd h ccN P1)
    (nSC : CS ≠ C)
    (nTC : CT ≠ C)
    : LamX.LawAtS l w K CX0 11 63 "script" mg fa h := by
  have e := hfa.symm.trans (PySem.W.mg_of X G a37)
  cases e
  have F1 := fun_mk (st := sLatest) l1 c1 k1
  have b1 := F1.binds (ps := ["trip"]) fun _ _ _ _ _ _ us hl => match us, hl with | [_], _ => rfl
  have D1 : Dd K mg "_latest" sLatest ["trip"] f1 _ := ⟨F1, b1, PySem.W.mg_of X G a1⟩
  have F2 := fun_mk (st := sEnds) l2 c2 k2
  have b2 := F2.binds (ps := ["network", "start", "goal"]) fun _ _ _ _ _ _ us hl => match us, hl with | [_, _, _], _ => rfl
  have D2 : Dd K mg "_check_ends" sEnds ["network", "start", "goal"] f2 _ := ⟨F2, b2, PySem.W.mg_of X G a2⟩
  have F3 := fun_mk (st := sArr) l3 c3 k3
  have b3 := F3.binds (ps := ["rides", "start", "goal", "tick"]) fun _ _ _ _ _ _ us hl => match us, hl with | [_, _, _, _], _ => rfl
  have D3 : Dd K mg "_arrival" sArr ["rides", "start", "goal", "tick"] f3 _ := ⟨F3, b3, PySem.W.mg_of X G a3⟩
  have F4 := fun_mk (st := sSoonest) l4 c4 k4
  have b4 := F4.binds (ps := ["network", "start", "goal", "tick"]) fun _ _ _ _ _ _ us hl => match us, hl with | [_, _, _, _], _ => rfl
  have D4 : Dd K mg "soonest" sSoonest ["network", "start", "goal", "tick"] f4 _ := ⟨F4, b4, PySem.W.mg_of X G a4⟩
  have F5 := fun_mk (st := sSurely) l5 c5 k5
  have b5 := F5.binds (ps := ["network", "start", "goal", "tick"]) fun _ _ _ _ _ _ us hl => match us, hl with | [_, _, _, _], _ => rfl
  have D5 : Dd K mg "surely" sSurely ["network", "start", "goal", "tick"] f5 _ := ⟨F5, b5, PySem.W.mg_of X G a5⟩
  have F6 := fun_mk (st := sLastC) l6 c6 k6
  have b6 := F6.binds (ps := ["network", "start", "goal", "by"]) fun _ _ _ _ _ _ us hl => match us, hl with | [_, _, _, _], _ => rfl
  have D6 : Dd K mg "last_chance" sLastC ["network", "start", "goal", "by"] f6 _ := ⟨F6, b6, PySem.W.mg_of X G a6⟩
  have F7 := fun_mk (st := sMade) l7 c7 k7
  have b7 := F7.binds (ps := ["text", "signs", "most"]) fun _ _ _ _ _ _ us hl => match us, hl with | [_, _, _], _ => rfl
  have D7 : Dd K mg "made_of" sMade ["text", "signs", "most"] f7 _ := ⟨F7, b7, PySem.W.mg_of X G a7⟩
  have F8 := fun_mk (st := sSpells) l8 c8 k8
  have b8 := F8.binds (ps := ["text"]) fun _ _ _ _ _ _ us hl => match us, hl with | [_], _ => rfl
  have D8 : Dd K mg "spells_address" sSpells ["text"] f8 _ := ⟨F8, b8, PySem.W.mg_of X G a8⟩
  have F9 := fun_mk (st := sIsName) l9 c9 k9
  have b9 := F9.binds (ps := ["text"]) fun _ _ _ _ _ _ us hl => match us, hl with | [_], _ => rfl
  have D9 : Dd K mg "is_name" sIsName ["text"] f9 _ := ⟨F9, b9, PySem.W.mg_of X G a9⟩
  have F10 := fun_mk (st := sAreN) l10 c10 k10
  have b10 := F10.binds (ps := ["texts"]) fun _ _ _ _ _ _ us hl => match us, hl with | [_], _ => rfl
  have D10 : Dd K mg "_are_names" sAreN ["texts"] f10 _ := ⟨F10, b10, PySem.W.mg_of X G a10⟩
  have F11 := fun_mk (st := sAscends) l11 c11 k11
  have b11 := F11.binds (ps := ["ticks"]) fun _ _ _ _ _ _ us hl => match us, hl with | [_], _ => rfl
  have D11 : Dd K mg "_ascends" sAscends ["ticks"] f11 _ := ⟨F11, b11, PySem.W.mg_of X G a11⟩
  have F12 := fun_mk (st := sByName) l12 c12 k12
  have b12 := F12.binds (ps := ["things"]) fun _ _ _ _ _ _ us hl => match us, hl with | [_], _ => rfl
  have D12 : Dd K mg "_by_name" sByName ["things"] f12 _ := ⟨F12, b12, PySem.W.mg_of X G a12⟩
  have F13 := fun_mk (st := sFound) l13 c13 k13
  have b13 := F13.binds (ps := ["named", "name"]) fun _ _ _ _ _ _ us hl => match us, hl with | [_, _], _ => rfl
  have D13 : Dd K mg "_found" sFound ["named", "name"] f13 _ := ⟨F13, b13, PySem.W.mg_of X G a13⟩
  have F14 := fun_mk (st := sMixed) l14 c14 k14
  have b14 := F14.binds (ps := ["cell", "turn"]) fun _ _ _ _ _ _ us hl => match us, hl with | [_, _], _ => rfl
  have D14 : Dd K mg "_law_mixed" sMixed ["cell", "turn"] f14 _ := ⟨F14, b14, PySem.W.mg_of X G a14⟩
  have F15 := fun_mk (st := sBox) l15 c15 k15
  have b15 := F15.binds (ps := ["script"]) fun _ _ _ _ _ _ us hl => match us, hl with | [_], _ => rfl
  have D15 : Dd K mg "_law_box" sBox ["script"] f15 _ := ⟨F15, b15, PySem.W.mg_of X G a15⟩
  have F16 := fun_mk (st := sDraw) l16 c16 k16
  have b16 := F16.binds (ps := ["box", "many"]) fun _ _ _ _ _ _ us hl => match us, hl with | [_, _], _ => rfl
  have D16 : Dd K mg "_law_draw" sDraw ["box", "many"] f16 _ := ⟨F16, b16, PySem.W.mg_of X G a16⟩
  have F17 := fun_mk (st := sLetter) l17 c17 k17
  have b17 := F17.binds (ps := ["box", "first"]) fun _ _ _ _ _ _ us hl => match us, hl with | [_, _], _ => rfl
  have D17 : Dd K mg "_law_letter" sLetter ["box", "first"] f17 _ := ⟨F17, b17, PySem.W.mg_of X G a17⟩
  have F18 := fun_mk (st := sWord) l18 c18 k18
  have b18 := F18.binds (ps := ["box"]) fun _ _ _ _ _ _ us hl => match us, hl with | [_], _ => rfl
  have D18 : Dd K mg "_law_word" sWord ["box"] f18 _ := ⟨F18, b18, PySem.W.mg_of X G a18⟩
  have F19 := fun_mk (st := sFresh) l19 c19 k19
  have b19 := F19.binds (ps := ["box", "used", "stem"]) fun _ _ _ _ _ _ us hl => match us, hl with | [_, _, _], _ => rfl
  have D19 : Dd K mg "_law_fresh" sFresh ["box", "used", "stem"] f19 _ := ⟨F19, b19, PySem.W.mg_of X G a19⟩
  have F20 := fun_mk (st := sLSame) l20 c20 k20
  have b20 := F20.binds (ps := ["actual", "due"]) fun _ _ _ _ _ _ us hl => match us, hl with | [_, _], _ => rfl
  have D20 : Dd K mg "_law_same" sLSame ["actual", "due"] f20 _ := ⟨F20, b20, PySem.W.mg_of X G a20⟩
  have F21 := fun_mk (st := sKnown) l21 c21 k21
  have b21 := F21.binds (ps := ["box", "many", "stem"]) fun _ _ _ _ _ _ us hl => match us, hl with | [_, _, _], _ => rfl
  have D21 : Dd K mg "_law_known" sKnown ["box", "many", "stem"] f21 _ := ⟨F21, b21, PySem.W.mg_of X G a21⟩
  have F22 := fun_mk (st := sRides) l22 c22 k22
  have b22 := F22.binds (ps := ["box", "many", "known", "base", "slow", "stem"]) fun _ _ _ _ _ _ us hl => match us, hl with | [_, _, _, _, _, _], _ => rfl
  have D22 : Dd K mg "_law_rides" sRides ["box", "many", "known", "base", "slow", "stem"] f22 _ := ⟨F22, b22, PySem.W.mg_of X G a22⟩
  have F23 := fun_mk (st := sOrder) l23 c23 k23
  have b23 := F23.binds (ps := ["box", "rows"]) fun _ _ _ _ _ _ us hl => match us, hl with | [_, _], _ => rfl
  have D23 : Dd K mg "_law_order" sOrder ["box", "rows"] f23 _ := ⟨F23, b23, PySem.W.mg_of X G a23⟩
  have F24 := fun_mk (st := sLNet) l24 c24 k24
  have b24 := F24.binds (ps := ["box", "known", "rides"]) fun _ _ _ _ _ _ us hl => match us, hl with | [_, _, _], _ => rfl
  have D24 : Dd K mg "_law_network" sLNet ["box", "known", "rides"] f24 _ := ⟨F24, b24, PySem.W.mg_of X G a24⟩
  have F25 := fun_mk (st := sTripsAre) l25 c25 k25
  have b25 := F25.binds (ps := ["network", "rides"]) fun _ _ _ _ _ _ us hl => match us, hl with | [_, _], _ => rfl
  have D25 : Dd K mg "_law_trips_are" sTripsAre ["network", "rides"] f25 _ := ⟨F25, b25, PySem.W.mg_of X G a25⟩
  have F26 := fun_mk (st := sValue) l26 c26 k26
  have b26 := F26.binds (ps := ["worth", "here", "goal", "tick"]) fun _ _ _ _ _ _ us hl => match us, hl with | [_, _, _, _], _ => rfl
  have D26 : Dd K mg "_law_value" sValue ["worth", "here", "goal", "tick"] f26 _ := ⟨F26, b26, PySem.W.mg_of X G a26⟩
  have F27 := fun_mk (st := sWorth) l27 c27 k27
  have b27 := F27.binds (ps := ["rides", "goal"]) fun _ _ _ _ _ _ us hl => match us, hl with | [_, _], _ => rfl
  have D27 : Dd K mg "_law_worth" sWorth ["rides", "goal"] f27 _ := ⟨F27, b27, PySem.W.mg_of X G a27⟩
  have F28 := fun_mk (st := sLSoon) l28 c28 k28
  have b28 := F28.binds (ps := ["rides", "start", "goal", "tick"]) fun _ _ _ _ _ _ us hl => match us, hl with | [_, _, _, _], _ => rfl
  have D28 : Dd K mg "_law_soonest" sLSoon ["rides", "start", "goal", "tick"] f28 _ := ⟨F28, b28, PySem.W.mg_of X G a28⟩
  have F29 := fun_mk (st := sLLast) l29 c29 k29
  have b29 := F29.binds (ps := ["worth", "rides", "start", "goal", "by"]) fun _ _ _ _ _ _ us hl => match us, hl with | [_, _, _, _, _], _ => rfl
  have D29 : Dd K mg "_law_last" sLLast ["worth", "rides", "start", "goal", "by"] f29 _ := ⟨F29, b29, PySem.W.mg_of X G a29⟩
  have F30 := fun_mk (st := sBound) l30 c30 k30
  have b30 := F30.binds (ps := ["box", "worth", "rides", "start", "goal", "base"]) fun _ _ _ _ _ _ us hl => match us, hl with | [_, _, _, _, _, _], _ => rfl
  have D30 : Dd K mg "_law_bound" sBound ["box", "worth", "rides", "start", "goal", "base"] f30 _ := ⟨F30, b30, PySem.W.mg_of X G a30⟩
  have F31 := fun_mk (st := sLTicks) l31 c31 k31
  have b31 := F31.binds (ps := ["rides", "base", "by"]) fun _ _ _ _ _ _ us hl => match us, hl with | [_, _, _], _ => rfl
  have D31 : Dd K mg "_law_ticks" sLTicks ["rides", "base", "by"] f31 _ := ⟨F31, b31, PySem.W.mg_of X G a31⟩
  have F32 := fun_mk (st := sAnswers) l32 c32 k32
  have b32 := F32.binds (ps := ["network", "rides", "start", "goal", "base", "by"]) fun _ _ _ _ _ _ us hl => match us, hl with | [_, _, _, _, _, _], _ => rfl
  have D32 : Dd K mg "_law_answers" sAnswers ["network", "rides", "start", "goal", "base", "by"] f32 _ := ⟨F32, b32, PySem.W.mg_of X G a32⟩
  have F33 := fun_mk (st := sTwins) l33 c33 k33
  have b33 := F33.binds (ps := ["box", "known", "rides", "start", "goal", "tick"]) fun _ _ _ _ _ _ us hl => match us, hl with | [_, _, _, _, _, _], _ => rfl
  have D33 : Dd K mg "_law_twins" sTwins ["box", "known", "rides", "start", "goal", "tick"] f33 _ := ⟨F33, b33, PySem.W.mg_of X G a33⟩
  have F34 := fun_mk (st := sAsked) l34 c34 k34
  have b34 := F34.binds (ps := ["way", "network", "start", "goal", "tick"]) fun _ _ _ _ _ _ us hl => match us, hl with | [_, _, _, _, _], _ => rfl
  have D34 : Dd K mg "_law_asked" sAsked ["way", "network", "start", "goal", "tick"] f34 _ := ⟨F34, b34, PySem.W.mg_of X G a34⟩
  have F35 := fun_mk (st := sUnk2) l35 c35 k35
  have b35 := F35.binds (ps := ["way", "network", "start", "goal", "tick", "word"]) fun _ _ _ _ _ _ us hl => match us, hl with | [_, _, _, _, _, _], _ => rfl
  have D35 : Dd K mg "_law_unknown" sUnk2 ["way", "network", "start", "goal", "tick", "word"] f35 _ := ⟨F35, b35, PySem.W.mg_of X G a35⟩
  have F36 := fun_mk (st := sStrangers) l36 c36 k36
  have b36 := F36.binds (ps := ["box", "network", "known", "rides", "stem", "tick"]) fun _ _ _ _ _ _ us hl => match us, hl with | [_, _, _, _, _, _], _ => rfl
  have D36 : Dd K mg "_law_strangers" sStrangers ["box", "network", "known", "rides", "stem", "tick"] f36 _ := ⟨F36, b36, PySem.W.mg_of X G a36⟩
  have F37 := fun_mk (st := sLaw) l37 c37 k37
  have FmI := fun_mk (st := sInv) lmI cmI kmI
  have bmI := FmI.binds (ps := ["self", "what"]) fun _ _ _ _ _ _ us hl => match us, hl with | [_, _], _ => rfl
  have EI : ErrC K CI mI "what" := ⟨⟨⟨_, _, _, _, _, _, _, _, _, _, _, _, _, _, _, xIl, xIv⟩, xIs, xIe, xIt, xIk⟩, ⟨xIg, xIa, xIe, xIh⟩, xIn, xIi, xIy, cls_some xIh, xIo, xIm, oHn, oTk⟩
  have MI : Mm K "__init__" "Invalid.__init__" sInv ["self", "what"] mI _ := ⟨FmI, bmI⟩
  have FmU := fun_mk (st := sUnk) lmU cmU kmU
  have bmU := FmU.binds (ps := ["self", "name"]) fun _ _ _ _ _ _ us hl => match us, hl with | [_, _], _ => rfl
  have EU : ErrC K CU mU "name" := ⟨⟨⟨_, _, _, _, _, _, _, _, _, _, _, _, _, _, _, xUl, xUv⟩, xUs, xUe, xUt, xUk⟩, ⟨xUg, xUa, xUe, xUh⟩, xUn, xUi, xUy, cls_some xUh, xUo, xUm, oHn, oTk⟩
  have MU : Mm K "__init__" "Unknown.__init__" sUnk ["self", "name"] mU _ := ⟨FmU, bmU⟩
  have FmNs := fun_mk (st := sNSite) lmNs cmNs kmNs
  have bmNs := FmNs.binds (ps := ["self", "name"]) fun _ _ _ _ _ _ us hl => match us, hl with | [_, _], _ => rfl
  have FmNt := fun_mk (st := sNTrip) lmNt cmNt kmNt
  have bmNt := FmNt.binds (ps := ["self", "name"]) fun _ _ _ _ _ _ us hl => match us, hl with | [_, _], _ => rfl
  have FmNw := fun_mk (st := sNWithout) lmNw cmNw kmNw
  have bmNw := FmNw.binds (ps := ["self", "name"]) fun _ _ _ _ _ _ us hl => match us, hl with | [_, _], _ => rfl
  have FNIf := fun_mk (st := sNInit) lNI cNI kNI
  have bNI := FNIf.binds (ps := ["self", "sites", "trips", "closings"]) fun _ _ _ _ _ _ us hl => match us, hl with | [_, _, _, _], _ => rfl
  refine ⟨PySem.W.fnOf "law" "law" (defArgs sLaw) (defBody sLaw) (defScope sLaw) .none kV37 dc37 pm37 an37 cd37 ct37, [(ccN, P1)], spLaw K P1, fun p hp => (by rw [List.mem_singleton.mp hp]; exact hT1), fun p hp => (by rw [List.mem_singleton.mp hp]; exact nT1), fun p hp => (by rw [List.mem_singleton.mp hp]; exact hC1), fun s v => .of_eq rfl, fun H a ns hl _ ht hS => ⟨a, ns, rfl, hS, hl, fun p hp => ?tabs, fun _ => rfl⟩, fun base _ _ tbs => ?_⟩
  case tabs =>
    rw [List.mem_singleton.mp hp]
    exact ⟨#[], ht (ccN, P1) List.mem_cons_self, trivial, fun pos cv hc => absurd hc (by intro z; cases z)⟩
  have TB1 := tbs (ccN, P1) List.mem_cons_self
  have B : Blt mg := ⟨PySem.W.mg_none_of X G z_len, PySem.W.mg_none_of X G z_int, PySem.W.mg_none_of X G z_str, PySem.W.mg_none_of X G z_list, PySem.W.mg_none_of X G z_tuple, PySem.W.mg_none_of X G z_dict, PySem.W.mg_none_of X G z_bool, PySem.W.mg_none_of X G z_range, PySem.W.mg_none_of X G z_sorted, PySem.W.mg_none_of X G z_all, PySem.W.mg_none_of X G z_isinstance, ⟨_, PySem.W.mg_of X G gDG⟩, ⟨_, PySem.W.mg_of X G gLT⟩, PySem.W.mg_none_of X G z_set, PySem.W.mg_none_of X G z_reversed, PySem.W.mg_none_of X G z_max, PySem.W.mg_none_of X G z_min⟩
  have RI : EInv K mg CI mI _ := ⟨EI, MI, PySem.W.mg_of X G aIc⟩
  have RU : EUnk K mg CU mU _ := ⟨EU, MU, PySem.W.mg_of X G aUc⟩
  have Er : Errs mg CP Ce1 Ce2 Ce3 Ce4 Ce5 Ce6 := ⟨PySem.W.mg_of X G aPc, PySem.W.mg_none_of X G z_ValueError, PySem.W.mg_of X G ae1c, PySem.W.mg_of X G ae2c, PySem.W.mg_of X G ae3c, PySem.W.mg_of X G ae4c, PySem.W.mg_of X G ae5c, PySem.W.mg_of X G ae6c⟩
  have kdI : OfCls K CI CU CP Ce1 Ce2 Ce3 Ce4 Ce5 Ce6 := ⟨kit_t (kit_refC xIh xIt sIS), kit_t (kit_tyC (by decide +kernel) sIV), (kit_no (kit_f nsIU (kit_refC xUh xUt sIU)) (kit_no (kit_f nsIe1 (kit_refC xe1h xe1t sIe1)) (kit_no (kit_f nsIe2 (kit_refC xe2h xe2t sIe2)) (kit_no (kit_f nsIe3 (kit_refC xe3h xe3t sIe3)) (kit_no (kit_f nsIe4 (kit_refC xe4h xe4t sIe4)) (kit_no (kit_f nsIe5 (kit_refC xe5h xe5t sIe5)) (kit_no (kit_f nsIe6 (kit_refC xe6h xe6t sIe6)) kit_nil))))))), PySem.W.exm_ref xPe xPh xPt sIP⟩
  have kdU : OfCls K CU CI CP Ce1 Ce2 Ce3 Ce4 Ce5 Ce6 := ⟨kit_t (kit_refC xUh xUt sUS), kit_t (kit_tyC (by decide +kernel) sUV), (kit_no (kit_f nsUI (kit_refC xIh xIt sUI)) (kit_no (kit_f nsUe1 (kit_refC xe1h xe1t sUe1)) (kit_no (kit_f nsUe2 (kit_refC xe2h xe2t sUe2)) (kit_no (kit_f nsUe3 (kit_refC xe3h xe3t sUe3)) (kit_no (kit_f nsUe4 (kit_refC xe4h xe4t sUe4)) (kit_no (kit_f nsUe5 (kit_refC xe5h xe5t sUe5)) (kit_no (kit_f nsUe6 (kit_refC xe6h xe6t sUe6)) kit_nil))))))), PySem.W.exm_ref xPe xPh xPt sUP⟩
  have SC : SCls K CS := ⟨⟨sPg, sHd, sPo, sSa⟩, sN0, sN1, sN2, sN3, sN4, sN5, sN6, sN7⟩
  have TC : TCls K CT := ⟨⟨tPg, tHd, tPo, tSa⟩, tN0, tN1, tN2, tN3, tN4, tN5, tN6, tN7⟩
  have NC : NCls K C := ⟨⟨nPg, nHd, nPo, nSa⟩, nN0, nN1, nN2, nN3, nN4, nN5⟩
  have cSpells : C1 l.prog w K mg base "spells_address" sSpells ["text"] 2 (spT isAddr) _ _ := ⟨D8, ok_spells D8.F D7 B⟩
  have cIsName : C1 l.prog w K mg base "is_name" sIsName ["text"] 2 (spT isName) _ _ := ⟨D9, ok_isName D9.F D7 B⟩
  have cAreN : C1 l.prog w K mg base "_are_names" sAreN ["texts"] 3 (spAreN) _ _ := ⟨D10, ok_aren D10.F cIsName B⟩
  have cAscends : C1 l.prog w K mg base "_ascends" sAscends ["ticks"] 1 (spAscends K) _ _ := ⟨D11, ok_ascends D11.F⟩
  have FS0 : FunS K t1 t2 t3 mSI _ := ⟨⟨ocSI, odSI, .none, .ref KS, dcSI, pmSI, anSI, cdSI, ctSI, slSI, rfl, lSI, cSI, .inl ⟨rfl, rfl⟩, .inr ⟨KS, rfl, fun q hq => by
    rcases List.mem_cons.mp hq with rfl | hq
    · exact ⟨_, sD0, rfl⟩
    rcases List.mem_cons.mp hq with rfl | hq
    · exact ⟨_, sD1, rfl⟩
    rcases List.mem_cons.mp hq with rfl | hq
    · exact ⟨_, sD2, rfl⟩
    rw [List.mem_singleton.mp hq]
    exact ⟨_, sD3, rfl⟩⟩⟩, kSI⟩
  have ST : SiC l.prog w K mg base CS t1 t2 t3 mSI _ := ⟨⟨sMk, sI, sIn, sKp⟩, FS0, ok_sinit FS0 SC cAreN cSpells cAscends B, PySem.W.mg_of X G sG, fun H => .inr ⟨_, #[], n01, e01, rfl, rfl, Nat.zero_le _, .nil⟩, fun H => .inr ⟨_, #[], n02, e02, rfl, rfl, Nat.zero_le _, .nil⟩, fun H => .inr ⟨_, #[], n03, e03, rfl, rfl, Nat.zero_le _, .nil⟩⟩
  have FT0 : FunT K mTI _ := ⟨⟨ocTI, odTI, .none, .ref KT, dcTI, pmTI, anTI, cdTI, ctTI, slTI, rfl, lTI, cTI, .inl ⟨rfl, rfl⟩, .inr ⟨KT, rfl, fun q hq => by
    rcases List.mem_cons.mp hq with rfl | hq
    · exact ⟨_, tD0, tk0, rfl⟩
    rcases List.mem_cons.mp hq with rfl | hq
    · exact ⟨_, tD1, tk1, rfl⟩
    rw [List.mem_singleton.mp hq]
    exact ⟨_, tD2, tk2, rfl⟩⟩⟩, kTI⟩
  have TT0 : TrC l.prog w K mg base CT mTI _ := ⟨⟨tMk, tI, tIn, tKp⟩, FT0, ok_tinit FT0 TC cAreN B, PySem.W.mg_of X G tG⟩
  have cByName : C1 l.prog w K mg base "_by_name" sByName ["things"] 1 (spByName K) _ _ := ⟨D12, ok_byname D12.F B⟩
  have cFound : C1X l.prog w K mg base "_found" sFound ["named", "name"] 3 (spFound CU) _ _ := ⟨D13, ok_found D13.F RU B⟩
  have FNI : KL.FunC K "__init__" "Network.__init__" sNInit ccN mNI _ := ⟨_, _, _, _, _, _, _, _, rfl, lNI, cNI⟩
  have NT : NetC l.prog w K mg base C CS CT P1 mNI _ := ⟨⟨nMk, nI, nIn, nKp⟩, ok_ninit FNI TB1 NC SC TC cByName B, PySem.W.mg_of X G nG, bNI, nSC, nTC⟩
  have GNs : FnOk l.prog w K mg base (L2.CX l.prog w) 4 mNs _ ["self", "name"] (spNSite C CS CT CU) := ok_nsite FmNs NC cFound
  have GNt : FnOk l.prog w K mg base (L2.CX l.prog w) 4 mNt _ ["self", "name"] (spNTrip C CS CT) := ok_ntrip FmNt NC cFound
  have GNw : FnOk l.prog w K mg base CX0 9 mNw _ ["self", "name"] (spNWithout C CS CT P1) := ok_nwithout FmNw NC TC NT ⟨nNt, xNt, kmNt⟩ GNt bmNt
  have cLatest : C1 l.prog w K mg base "_latest" sLatest ["trip"] 1 (spLatest CT) _ _ := ⟨D1, ok_latest D1.F TC⟩
  have cEnds : C1X l.prog w K mg base "_check_ends" sEnds ["network", "start", "goal"] 5 (spEnds C CS CT CU) _ _ := ⟨D2, ok_ends D2.F NC ⟨nNs, xNs, kmNs⟩ GNs bmNs⟩
  have cArr : C1 l.prog w K mg base "_arrival" sArr ["rides", "start", "goal", "tick"] 1 (spArr CT) _ _ := ⟨D3, ok_arr D3.F TC B⟩
  have cSoonest : C1X l.prog w K mg base "soonest" sSoonest ["network", "start", "goal", "tick"] 6 (spAns C CS CT CU (arr land1)) _ _ := ⟨D4, ok_soonest D4.F NC TC cEnds cArr B⟩
  have cSurely : C1X l.prog w K mg base "surely" sSurely ["network", "start", "goal", "tick"] 6 (spAns C CS CT CU (arr land2)) _ _ := ⟨D5, ok_surely D5.F NC TC cEnds cArr cLatest B⟩
  have cLastC : C1X l.prog w K mg base "last_chance" sLastC ["network", "start", "goal", "by"] 6 (spAns C CS CT CU (fun ts s g bd => lc g bd ts s)) _ _ := ⟨D6, ok_lastc D6.F NC TC cEnds cLatest B⟩
  have cMixed : C1 l.prog w K mg base "_law_mixed" sMixed ["cell", "turn"] 1 (spMixed) _ _ := ⟨D14, ok_mixed D14.F B⟩
  have cLBox : C1 l.prog w K mg base "_law_box" sBox ["script"] 1 (spBox K) _ _ := ⟨D15, ok_box D15.F B⟩
  have cDraw : C1 l.prog w K mg base "_law_draw" sDraw ["box", "many"] 2 (spDraw) _ _ := ⟨D16, ok_draw D16.F cMixed B⟩
  have cLetter : C1 l.prog w K mg base "_law_letter" sLetter ["box", "first"] 3 (spLetter) _ _ := ⟨D17, ok_letter D17.F cDraw B⟩
  have cWord : C1 l.prog w K mg base "_law_word" sWord ["box"] 4 (spWord) _ _ := ⟨D18, ok_word D18.F cDraw cLetter B⟩
  have cFresh : C1 l.prog w K mg base "_law_fresh" sFresh ["box", "used", "stem"] 5 (spFresh) _ _ := ⟨D19, ok_fresh D19.F cDraw cLetter cWord B⟩
  have cLSame : C1 l.prog w K mg base "_law_same" sLSame ["actual", "due"] 3 (spSame K) _ _ := ⟨D20, ok_same D20 B⟩
  have cKnown : C1 l.prog w K mg base "_law_known" sKnown ["box", "many", "stem"] 6 (spKnown) _ _ := ⟨D21, ok_known D21.F cFresh B⟩
  have cRides : C1 l.prog w K mg base "_law_rides" sRides ["box", "many", "known", "base", "slow", "stem"] 7 (spRides) _ _ := ⟨D22, ok_rides D22.F cDraw cFresh B⟩
  have cOrder : C1 l.prog w K mg base "_law_order" sOrder ["box", "rows"] 3 (spOrder) _ _ := ⟨D23, ok_order D23.F cDraw B⟩
  have cLNet : C1 l.prog w K mg base "_law_network" sLNet ["box", "known", "rides"] 9 (spLNet C CS CT P1) _ _ := ⟨D24, ok_lnet D24.F cOrder ST TT0 NT B⟩
  have cTripsAre : C1 l.prog w K mg base "_law_trips_are" sTripsAre ["network", "rides"] 4 (spTripsAre C CS CT) _ _ := ⟨D25, ok_tripsare D25.F NC TC cLSame B⟩
  have cValue : C1 l.prog w K mg base "_law_value" sValue ["worth", "here", "goal", "tick"] 1 (spValue) _ _ := ⟨D26, ok_value D26.F B⟩
  have cWorth : C1 l.prog w K mg base "_law_worth" sWorth ["rides", "goal"] 2 (spWorth) _ _ := ⟨D27, ok_worth D27.F cValue B⟩
  have cLSoon : C1 l.prog w K mg base "_law_soonest" sLSoon ["rides", "start", "goal", "tick"] 1 (spLSoon) _ _ := ⟨D28, ok_lsoon D28.F B⟩
  have cLLast : C1 l.prog w K mg base "_law_last" sLLast ["worth", "rides", "start", "goal", "by"] 2 (spLLast) _ _ := ⟨D29, ok_llast D29.F cValue B⟩
  have cBound : C1 l.prog w K mg base "_law_bound" sBound ["box", "worth", "rides", "start", "goal", "base"] 3 (spBound) _ _ := ⟨D30, ok_bound D30.F cDraw cValue B⟩
  have cLTicks : C1 l.prog w K mg base "_law_ticks" sLTicks ["rides", "base", "by"] 1 (spLTicks) _ _ := ⟨D31, ok_lticks D31.F B⟩
  have cAnswers : C1 l.prog w K mg base "_law_answers" sAnswers ["network", "rides", "start", "goal", "base", "by"] 8 (spAnswers C CS CT) _ _ := ⟨D32, ok_answers D32.F cWorth cLastC cLSame cLLast cLTicks cSoonest cLSoon cSurely cValue B⟩
  have cTwins : C1 l.prog w K mg base "_law_twins" sTwins ["box", "known", "rides", "start", "goal", "tick"] 10 (spTwins C CS CT P1) _ _ := ⟨D33, ok_twins D33.F cWorth cValue cLSame cLSoon cLNet cSoonest cSurely B⟩
  have cAsked : C1X l.prog w K mg base "_law_asked" sAsked ["way", "network", "start", "goal", "tick"] 7 (spAsked C CS CT CU) _ _ := ⟨D34, ok_asked D34.F cSoonest cSurely cLastC⟩
  have cUnk2 : C1 l.prog w K mg base "_law_unknown" sUnk2 ["way", "network", "start", "goal", "tick", "word"] 8 (spUnk C CS CT) _ _ := ⟨D35, ok_unkn D35.F cAsked D20 RI RU Er kdU B⟩
  have cStrangers : C1 l.prog w K mg base "_law_strangers" sStrangers ["box", "network", "known", "rides", "stem", "tick"] 9 (spStrangers C CS CT) _ _ := ⟨D36, ok_strangers D36.F cDraw cFresh cUnk2 B⟩
  exact ok_law F37 B NC cLBox cDraw cWord cKnown cRides cLNet cWorth cBound cAnswers cTwins cStrangers cTripsAre ⟨nNw, xNw, kmNw⟩ GNw bmNw
end Tb
open PySem PySem.W PyProof.Rows
set_option maxRecDepth 100000 in
set_option maxHeartbeats 0 in
theorem PySem.Challenge.cw_everyparcel_k01_whole_soonest_and_surely_holds : PySem.Challenge.rw_everyparcel_k01_whole_soonest_and_surely.Holds := by
  w_on; o_law; k_head; (case hw => w_witness2)
  k_fill
  refine LamX.walk_ofTs (l := PySem.Challenge.rw_everyparcel_k01_whole_soonest_and_surely) (n := 63) (k := 11) (x := "script") (CX := fun _ => L2.CX0) rfl (by decide) rfl ⟨rfl, by decide, by decide⟩ (fun w h Y => PySem.W.km_in_of Y) ?F (fun _ _ _ _ _ h => h)
  case F =>
    intro w mg fa h Y KX G hmg
    refine' Tb.all_mk (P1 := 316) KX G hmg ?a1 ?l1 ?c1 ?k1 ?a2 ?l2 ?c2 ?k2 ?a3 ?l3 ?c3 ?k3 ?a4 ?l4 ?c4 ?k4 ?a5 ?l5 ?c5 ?k5 ?a6 ?l6 ?c6 ?k6 ?a7 ?l7 ?c7 ?k7 ?a8 ?l8 ?c8 ?k8 ?a9 ?l9 ?c9 ?k9 ?a10 ?l10 ?c10 ?k10 ?a11 ?l11 ?c11 ?k11 ?a12 ?l12 ?c12 ?k12 ?a13 ?l13 ?c13 ?k13 ?a14 ?l14 ?c14 ?k14 ?a15 ?l15 ?c15 ?k15 ?a16 ?l16 ?c16 ?k16 ?a17 ?l17 ?c17 ?k17 ?a18 ?l18 ?c18 ?k18 ?a19 ?l19 ?c19 ?k19 ?a20 ?l20 ?c20 ?k20 ?a21 ?l21 ?c21 ?k21 ?a22 ?l22 ?c22 ?k22 ?a23 ?l23 ?c23 ?k23 ?a24 ?l24 ?c24 ?k24 ?a25 ?l25 ?c25 ?k25 ?a26 ?l26 ?c26 ?k26 ?a27 ?l27 ?c27 ?k27 ?a28 ?l28 ?c28 ?k28 ?a29 ?l29 ?c29 ?k29 ?a30 ?l30 ?c30 ?k30 ?a31 ?l31 ?c31 ?k31 ?a32 ?l32 ?c32 ?k32 ?a33 ?l33 ?c33 ?k33 ?a34 ?l34 ?c34 ?k34 ?a35 ?l35 ?c35 ?k35 ?a36 ?l36 ?c36 ?k36 ?a37 ?l37 ?c37 ?k37 ?z_len ?z_int ?z_str ?z_list ?z_tuple ?z_dict ?z_bool ?z_range ?z_sorted ?z_all ?z_isinstance ?z_set ?z_reversed ?z_max ?z_min ?z_ValueError ?oHn ?oTk ?gDG ?gLT ?aIc ?xIl ?xIv ?xIi ?xIs ?xIe ?xIt ?xIk ?xIg ?xIa ?xIh ?xIn ?xIy ?xIo ?xIm ?lmI ?cmI ?kmI ?aUc ?xUl ?xUv ?xUi ?xUs ?xUe ?xUt ?xUk ?xUg ?xUa ?xUh ?xUn ?xUy ?xUo ?xUm ?lmU ?cmU ?kmU ?sG ?sPg ?sHd ?sPo ?sSa ?sN0 ?sN1 ?sN2 ?sN3 ?sN4 ?sN5 ?sN6 ?sN7 ?sMk ?sKp ?sI ?lSI ?cSI ?kSI ?sIn ?sD0 ?sD1 ?sD2 ?sD3 ?e01 ?e02 ?e03 ?tG ?tPg ?tHd ?tPo ?tSa ?tN0 ?tN1 ?tN2 ?tN3 ?tN4 ?tN5 ?tN6 ?tN7 ?tMk ?tKp ?tI ?lTI ?cTI ?kTI ?tIn ?tD0 ?tD1 ?tD2 ?nG ?nPg ?nHd ?nPo ?nSa ?nN0 ?nN1 ?nN2 ?nN3 ?nN4 ?nN5 ?nMk ?nKp ?nI ?lNI ?cNI ?kNI ?nIn ?nNs ?lmNs ?cmNs ?kmNs ?xNs ?nNt ?lmNt ?cmNt ?kmNt ?xNt ?nNw ?lmNw ?cmNw ?kmNw ?xNw ?aPc ?xPh ?xPt ?ae1c ?xe1h ?xe1t ?ae2c ?xe2h ?xe2t ?ae3c ?xe3h ?xe3t ?ae4c ?xe4h ?xe4t ?ae5c ?xe5h ?xe5t ?ae6c ?xe6h ?xe6t ?xPe ?sIP ?sIV ?sIS ?sIU ?nsIU ?sIe1 ?nsIe1 ?sIe2 ?nsIe2 ?sIe3 ?nsIe3 ?sIe4 ?nsIe4 ?sIe5 ?nsIe5 ?sIe6 ?nsIe6 ?sUP ?sUV ?sUS ?sUI ?nsUI ?sUe1 ?nsUe1 ?sUe2 ?nsUe2 ?sUe3 ?nsUe3 ?sUe4 ?nsUe4 ?sUe5 ?nsUe5 ?sUe6 ?nsUe6 ?hT1 ?nT1 ?hC1 ?nSC ?nTC
    (case a1 => k_is); (case l1 => k_is); (case c1 => k_is); (case k1 => k_is); (case a2 => k_is); (case l2 => k_is); (case c2 => k_is); (case k2 => k_is)
    (case a3 => k_is); (case l3 => k_is); (case c3 => k_is); (case k3 => k_is); (case a4 => k_is); (case l4 => k_is); (case c4 => k_is); (case k4 => k_is)
    (case a5 => k_is); (case l5 => k_is); (case c5 => k_is); (case k5 => k_is); (case a6 => k_is); (case l6 => k_is); (case c6 => k_is); (case k6 => k_is)
    (case a7 => k_is); (case l7 => k_is); (case c7 => k_is); (case k7 => k_is); (case a8 => k_is); (case l8 => k_is); (case c8 => k_is); (case k8 => k_is)
    (case a9 => k_is); (case l9 => k_is); (case c9 => k_is); (case k9 => k_is); (case a10 => k_is); (case l10 => k_is); (case c10 => k_is); (case k10 => k_is)
    (case a11 => k_is); (case l11 => k_is); (case c11 => k_is); (case k11 => k_is); (case a12 => k_is); (case l12 => k_is); (case c12 => k_is); (case k12 => k_is)
    (case a13 => k_is); (case l13 => k_is); (case c13 => k_is); (case k13 => k_is); (case a14 => k_is); (case l14 => k_is); (case c14 => k_is); (case k14 => k_is)
    (case a15 => k_is); (case l15 => k_is); (case c15 => k_is); (case k15 => k_is); (case a16 => k_is); (case l16 => k_is); (case c16 => k_is); (case k16 => k_is)
    (case a17 => k_is); (case l17 => k_is); (case c17 => k_is); (case k17 => k_is); (case a18 => k_is); (case l18 => k_is); (case c18 => k_is); (case k18 => k_is)
    (case a19 => k_is); (case l19 => k_is); (case c19 => k_is); (case k19 => k_is); (case a20 => k_is); (case l20 => k_is); (case c20 => k_is); (case k20 => k_is)
    (case a21 => k_is); (case l21 => k_is); (case c21 => k_is); (case k21 => k_is); (case a22 => k_is); (case l22 => k_is); (case c22 => k_is); (case k22 => k_is)
    (case a23 => k_is); (case l23 => k_is); (case c23 => k_is); (case k23 => k_is); (case a24 => k_is); (case l24 => k_is); (case c24 => k_is); (case k24 => k_is)
    (case a25 => k_is); (case l25 => k_is); (case c25 => k_is); (case k25 => k_is); (case a26 => k_is); (case l26 => k_is); (case c26 => k_is); (case k26 => k_is)
    (case a27 => k_is); (case l27 => k_is); (case c27 => k_is); (case k27 => k_is); (case a28 => k_is); (case l28 => k_is); (case c28 => k_is); (case k28 => k_is)
    (case a29 => k_is); (case l29 => k_is); (case c29 => k_is); (case k29 => k_is); (case a30 => k_is); (case l30 => k_is); (case c30 => k_is); (case k30 => k_is)
    (case a31 => k_is); (case l31 => k_is); (case c31 => k_is); (case k31 => k_is); (case a32 => k_is); (case l32 => k_is); (case c32 => k_is); (case k32 => k_is)
    (case a33 => k_is); (case l33 => k_is); (case c33 => k_is); (case k33 => k_is); (case a34 => k_is); (case l34 => k_is); (case c34 => k_is); (case k34 => k_is)
    (case a35 => k_is); (case l35 => k_is); (case c35 => k_is); (case k35 => k_is); (case a36 => k_is); (case l36 => k_is); (case c36 => k_is); (case k36 => k_is)
    (case a37 => k_is); (case l37 => k_is); (case c37 => k_is); (case k37 => k_is); (case z_len => k_is); (case z_int => k_is); (case z_str => k_is); (case z_list => k_is)
    (case z_tuple => k_is); (case z_dict => k_is); (case z_bool => k_is); (case z_range => k_is); (case z_sorted => k_is); (case z_all => k_is); (case z_isinstance => k_is); (case z_set => k_is)
    (case z_reversed => k_is); (case z_max => k_is); (case z_min => k_is); (case z_ValueError => k_is); (case oHn => k_is); (case oTk => k_is); (case gDG => k_is); (case gLT => k_is)
    (case aIc => k_is); (case xIl => k_is); (case xIv => first | rfl | decide +kernel); (case xIi => k_is); (case xIs => k_is); (case xIe => k_is); (case xIt => k_is); (case xIk => k_is)
    (case xIg => k_is); (case xIa => k_is); (case xIh => k_is); (case xIn => k_is); (case xIy => k_is); (case xIo => k_is); (case xIm => k_is); (case lmI => k_is)
    (case cmI => k_is); (case kmI => k_is); (case aUc => k_is); (case xUl => k_is); (case xUv => first | rfl | decide +kernel); (case xUi => k_is); (case xUs => k_is); (case xUe => k_is)
    (case xUt => k_is); (case xUk => k_is); (case xUg => k_is); (case xUa => k_is); (case xUh => k_is); (case xUn => k_is); (case xUy => k_is); (case xUo => k_is)
    (case xUm => k_is); (case lmU => k_is); (case cmU => k_is); (case kmU => k_is); (case sG => k_is); (case sPg => k_is); (case sHd => k_is); (case sPo => k_is)
    (case sSa => k_is); (case sN0 => k_is); (case sN1 => k_is); (case sN2 => k_is); (case sN3 => k_is); (case sN4 => k_is); (case sN5 => k_is); (case sN6 => k_is)
    (case sN7 => k_is); (case sMk => k_is); (case sKp => k_is); (case sI => k_is); (case lSI => k_is); (case cSI => k_is); (case kSI => k_is); (case sIn => k_is)
    (case sD0 => k_is); (case sD1 => k_is); (case sD2 => k_is); (case sD3 => k_is); (case e01 => k_is); (case e02 => k_is); (case e03 => k_is); (case tG => k_is)
    (case tPg => k_is); (case tHd => k_is); (case tPo => k_is); (case tSa => k_is); (case tN0 => k_is); (case tN1 => k_is); (case tN2 => k_is); (case tN3 => k_is)
    (case tN4 => k_is); (case tN5 => k_is); (case tN6 => k_is); (case tN7 => k_is); (case tMk => k_is); (case tKp => k_is); (case tI => k_is); (case lTI => k_is)
    (case cTI => k_is); (case kTI => k_is); (case tIn => k_is); (case tD0 => k_is); (case tD1 => k_is); (case tD2 => k_is); (case nG => k_is); (case nPg => k_is)
    (case nHd => k_is); (case nPo => k_is); (case nSa => k_is); (case nN0 => k_is); (case nN1 => k_is); (case nN2 => k_is); (case nN3 => k_is); (case nN4 => k_is)
    (case nN5 => k_is); (case nMk => k_is); (case nKp => k_is); (case nI => k_is); (case lNI => k_is); (case cNI => k_is); (case kNI => k_is); (case nIn => k_is)
    (case nNs => k_is); (case lmNs => k_is); (case cmNs => k_is); (case kmNs => k_is); (case xNs => k_is); (case nNt => k_is); (case lmNt => k_is); (case cmNt => k_is)
    (case kmNt => k_is); (case xNt => k_is); (case nNw => k_is); (case lmNw => k_is); (case cmNw => k_is); (case kmNw => k_is); (case xNw => k_is); (case aPc => k_is)
    (case xPh => k_is); (case xPt => k_is); (case ae1c => k_is); (case xe1h => k_is); (case xe1t => k_is); (case ae2c => k_is); (case xe2h => k_is); (case xe2t => k_is)
    (case ae3c => k_is); (case xe3h => k_is); (case xe3t => k_is); (case ae4c => k_is); (case xe4h => k_is); (case xe4t => k_is); (case ae5c => k_is); (case xe5h => k_is)
    (case xe5t => k_is); (case ae6c => k_is); (case xe6h => k_is); (case xe6t => k_is); (case xPe => k_is); (case sIP => k_is); (case sIV => k_is); (case sIS => k_is)
    (case sIU => k_is); (case nsIU => first | rfl | decide +kernel); (case sIe1 => k_is); (case nsIe1 => first | rfl | decide +kernel); (case sIe2 => k_is); (case nsIe2 => first | rfl | decide +kernel); (case sIe3 => k_is); (case nsIe3 => first | rfl | decide +kernel)
    (case sIe4 => k_is); (case nsIe4 => first | rfl | decide +kernel); (case sIe5 => k_is); (case nsIe5 => first | rfl | decide +kernel); (case sIe6 => k_is); (case nsIe6 => first | rfl | decide +kernel); (case sUP => k_is); (case sUV => k_is)
    (case sUS => k_is); (case sUI => k_is); (case nsUI => first | rfl | decide +kernel); (case sUe1 => k_is); (case nsUe1 => first | rfl | decide +kernel); (case sUe2 => k_is); (case nsUe2 => first | rfl | decide +kernel); (case sUe3 => k_is)
    (case nsUe3 => first | rfl | decide +kernel); (case sUe4 => k_is); (case nsUe4 => first | rfl | decide +kernel); (case sUe5 => k_is); (case nsUe5 => first | rfl | decide +kernel); (case sUe6 => k_is); (case nsUe6 => first | rfl | decide +kernel); (case hT1 => exact PySem.W.km_tabs_of Y _ (by simp))
    (case nT1 => rfl); (case hC1 => exact PySem.W.codeHd_of_K KX (by kernel_rfl)); (case nSC => decide); (case nTC => decide)
