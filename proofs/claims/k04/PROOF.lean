import PyProof.Rows.All
import Wide.All
import OpenK.AllK
import Wide.FinOn
import HandS.ForMost
import HandS.Wide
import HandS.StrMore
import HandS.IsInst
import HandS.Codes
import HandS.Walk
import HandS.More
import HandS.Conv
import HandS.DictComp
import HandS.ListItems
import HandS.Property
import HandS.Star
import HandS.Exc
import HandS.TryOnly
import HandS.TryMany
import HandS.ExcOwn
import HandS.WordsExc
import HandS.ExcInit
import HandS.ExcField
import HandS.ExcIs
import HandS.RaiseMore
import PySem.Challenge.RW_everyparcel_k04_lane_of_the_longest_pref
import KE.SortData
import KE.KItemsList
import KE.KExcIs
import HandS.Style
import HandS.ClsMeth
import HandS.MakeKwOnly
set_option Elab.async false
set_option linter.all false
set_option maxRecDepth 100000
namespace Tb
open PySem PySem.Spec PyProof.Rows L2
def topS (i : Nat) : Stmt := PySem.Challenge.pw_everyparcel_k04_lane_of_the_longest_pref.main.body.getD i (.Pass ⟨0, 0, 0, 0⟩)
abbrev sMade : Stmt := topS 7
abbrev sSpells : Stmt := topS 8
abbrev sIsName : Stmt := topS 10
abbrev sIsAddr : Stmt := topS 13
abbrev sLong : Stmt := topS 14
abbrev sIsLane : Stmt := topS 16
abbrev sLane : Stmt := topS 17
/-- a def of the text: it stands, its arguments bind, its global is it -/
structure Dd (K : PySem.W.Frag) (mg : Str → Option Value) (x : Str) (st : Stmt) (ps : List Str) (f : Addr) (fd : FuncData) : Prop where
  F : Fun K x x st f fd
  b : Binds K fd ps []
  g : mg x = some (.ref f)
/-- the globals that are the built-ins, and the two texts -/
structure Blt (mg : Str → Option Value) : Prop where
  len : mg "len" = none
  int : mg "int" = none
  str : mg "str" = none
  list : mg "list" = none
  tuple : mg "tuple" = none
  dict : mg "dict" = none
  bool : mg "bool" = none
  range : mg "range" = none
  sorted : mg "sorted" = none
  all : mg "all" = none
  isi : mg "isinstance" = none
  dg : ∃ t, mg "DIGITS" = some (.str ("0123456789" : String) t)
  lt : ∃ t, mg "LETTERS" = some (.str ("abcdefghijklmnopqrstuvwxyz" : String) t)
  hr : ∃ t, mg "HERE" = some (.str ("" : String) t)
theorem sqOf {K : PySem.W.Frag} {H : Hp} {p : Addr} {xs : List V} (h : H p = some (.lst xs)) : SqL K H p xs := .inl (.inl h)
theorem same_upd {H : Hp} {p : Addr} {o : HO} (h : H p = none) : Same H (upd H p o) := fun b x e => by
  rw [upd_ne (ne_of_none e h)]
  exact e
def digits : Str := ("0123456789" : String)
def letters : Str := ("abcdefghijklmnopqrstuvwxyz" : String)
/-- a module's name that holds a text -/
theorem pe_txt {X : Cx} {x z : Str} {pos : Pos} (hg : Gl X x) (h : ∃ t, X.mg x = some (.str z t)) (hd : (x == ("__debug__" : Str)) = false := by decide) : PE X (.Name x pos) (tC (.str z)) := by
  obtain ⟨t, h⟩ := h
  exact pe_glob hg h (show RelV (.str z) (.str z t) from ⟨t, rfl⟩) hd
/-! ### the mirrors -/
def isIn (signs : Str) (c : Nat) : Bool := decide (c ∈ signs.cps.toList)
def made (t signs : Str) (most : Int) : Bool := decide (1 ≤ (t.length : Int)) && decide ((t.length : Int) ≤ most) && t.cps.toList.all (isIn signs)
def isAddr (t : Str) : Bool := made t digits 8
def isName (t : Str) : Bool := made t (letters ++ digits) 12 && (match t.cps[0]? with | some c => isIn letters c | none => false)
def isLane (t : Str) : Bool := decide (t = Str.ofString "") || isName t
section
variable {P : Program} {w : World} {K : PySem.W.Frag} {mg : Str → Option Value} {base : Heap}
theorem scMade : FnScope ["text", "signs", "most", "sign"] ["text", "signs", "most"] (defScope sMade) := ⟨rfl, rfl, rfl, by decide +kernel, rfl, by decide +kernel, by decide +kernel⟩
def spMade : Sp := fun vs H Q _ => ∃ (t signs : Str) (most : Int), vs = [.str t, .str signs, .int most] ∧ t.length ≤ 1000 ∧ ∀ H', Same H H' → Q (.bl (made t signs most)) H'
theorem ok_made {f : Addr} {fd : FuncData} {k : Nat} (F : Fun K "made_of" "made_of" sMade f fd) (B : Blt mg) : FnOk P w K mg base CX0 (k + 1) f fd ["text", "signs", "most"] spMade := by
  refine F.ok scMade (fun vs H Q E h => ?_) (fun cdv A outer s H vs Q E hr h => ?_)
  · obtain ⟨t, sg, m, rfl, _⟩ := h
    rfl
  · obtain ⟨t, sg, m, rfl, hl, q⟩ := h
    refine ⟨_, pss_one (ps_ret (pe_and (pe_chain op_le op_le pe_int (pe_callB call_len_str (by rfl) B.len PySem.boot_len (pa_cons (pv 0) pa_nil)) (pv 2))
      (pe_one (pe_callB (cr_all rfl) (by rfl) B.all (by decide +kernel) (pa_cons (pe_lc (own := [("sign", 3)]) (g := gName 3) (by rfl) scMade.nd (pi_str (pv 0)) (blkOk_by (N := ["text", "signs", "most", "sign"]) (sc := defScope sMade) (by decide +kernel)) (fun _ _ _ _ _ => pg_name (i := 3) scMade.nd rfl (Or.inl rfl)) (fun _ _ _ _ _ => pts_nil) (fun _ _ _ _ _ => pe_cmpR op_in_sign (pv 3) (pv 1) (by rfl))) pa_nil))))), ?_⟩
    refine ⟨.str t, rfl, t, rfl, Nat.le_trans hl (by decide), 1, (t.length : Int), rfl, rfl, _, rfl, ?_⟩
    have h0 : ∀ c : Bool, c = false → Q (.bl c) H → made t sg m = false → Q (.bl (made t sg m)) H := fun c e q e2 => by rw [e2, ← e]; exact q
    refine ite2 (fun e1 => ?_) (fun e1 => ?_)
    · refine ⟨.int m, rfl, (t.length : Int), m, rfl, rfl, _, rfl, ite2 (fun e2 => ?_) (fun e2 => ?_)⟩
      · refine ⟨.str t, rfl, t, rfl, fun D nD => lc_it (walk_str (z := t)) (fun i H' => Same H H' ∧ H' D = some (.lst (((t.cps.toList.take i).map (isIn sg)).map V.bl))) ⟨same_upd nD, upd_same⟩ (fun _ _ _ _ => trivial) (fun i x H1 H2 hi hP hy => ?_) (fun H1 hP => ?_)⟩
        · obtain ⟨hS, hD⟩ := hP
          obtain ⟨rfl, c, hc, rfl⟩ := hy
          refine ⟨rfl, ?_⟩
          have hi' : i < t.cps.toList.length := by rw [Array.length_toList]; exact hi
          have hc' : t.cps.toList[i]? = some c := by rw [Array.getElem?_toList]; exact hc
          refine ⟨_, rfl, .str sg, rfl, c, sg, rfl, rfl, _, hD, ?_, ?_, ?_⟩
          · rw [List.length_map, List.length_map, List.length_take, Array.length_toList]
            exact small1000 (Nat.le_trans (Nat.min_le_right _ _) hl)
          · intro b o hb
            rw [upd_ne (ne_of_none hb nD)]
            exact hS _ _ hb
          · rw [upd_same, List.take_add_one, hc', List.map_append, List.map_append]
            rfl
        · obtain ⟨hS, hD⟩ := hP
          refine ⟨D, (t.cps.toList.map (isIn sg)), rfl, sqOf (by rw [hD, ← Array.length_toList, List.take_length]), ?_⟩
          have e : (t.cps.toList.map (isIn sg)).all id = made t sg m := by
            unfold made
            rw [of_decide_eq_true e1 |> decide_eq_true, of_decide_eq_true e2 |> decide_eq_true, List.all_map]
            rfl
          rw [e]
          exact q _ hS
      · have e : made t sg m = false := by
          unfold made
          rw [Bool.eq_false_iff.mpr e2, Bool.and_false, Bool.false_and]
        have := q H (Same.refl _)
        rw [e] at this
        exact this
    · have e : made t sg m = false := by
        unfold made
        rw [Bool.eq_false_iff.mpr e1, Bool.false_and, Bool.false_and]
      have := q H (Same.refl _)
      rw [e] at this
      exact ⟨false, rfl, this⟩
theorem scSpells : FnScope ["text"] ["text"] (defScope sSpells) := ⟨rfl, rfl, rfl, by decide +kernel, rfl, by decide +kernel, by decide +kernel⟩
theorem scIsName : FnScope ["text"] ["text"] (defScope sIsName) := ⟨rfl, rfl, rfl, by decide +kernel, rfl, by decide +kernel, by decide +kernel⟩
theorem scIsAddr : FnScope ["text"] ["text"] (defScope sIsAddr) := ⟨rfl, rfl, rfl, by decide +kernel, rfl, by decide +kernel, by decide +kernel⟩
theorem scIsLane : FnScope ["text"] ["text"] (defScope sIsLane) := ⟨rfl, rfl, rfl, by decide +kernel, rfl, by decide +kernel, by decide +kernel⟩
/-- one text in, a bool out -/
def spT (g : Str → Bool) : Sp := fun vs H Q _ => ∃ (t : Str), vs = [.str t] ∧ t.length ≤ 1000 ∧ ∀ H', Same H H' → Q (.bl (g t)) H'
theorem ok_spells {f g : Addr} {fd gd : FuncData} (F : Fun K "spells_address" "spells_address" sSpells f fd) (D : Dd K mg "made_of" sMade ["text", "signs", "most"] g gd) (B : Blt mg) : FnOk P w K mg base CX0 2 f fd ["text"] (spT isAddr) := by
  have G : FnOk P w K mg base CX0 1 g gd ["text", "signs", "most"] spMade := ok_made D.F B
  refine F.ok scSpells (fun vs H Q E h => ?_) (fun cdv A outer s H vs Q E hr h => ?_)
  · obtain ⟨t, rfl, _⟩ := h
    rfl
  · obtain ⟨t, rfl, hl, q⟩ := h
    refine ⟨_, pss_one (ps_ret (pe_call G hr (by rfl) D.g D.F.kp D.b .nil pass0 (pa_cons (pv 0) (pa_cons (pe_txt (by rfl) B.dg) (pa_cons pe_int pa_nil))))), ?_⟩
    exact ⟨.str t, rfl, t, digits, 8, rfl, hl, q⟩
theorem ok_isAddr {f g g2 : Addr} {fd gd gd2 : FuncData} (F : Fun K "is_address" "is_address" sIsAddr f fd) (D : Dd K mg "spells_address" sSpells ["text"] g gd) (D2 : Dd K mg "made_of" sMade ["text", "signs", "most"] g2 gd2) (B : Blt mg) : FnOk P w K mg base CX0 3 f fd ["text"] (spT isAddr) := by
  have G : FnOk P w K mg base CX0 2 g gd ["text"] (spT isAddr) := ok_spells D.F D2 B
  refine F.ok scIsAddr (fun vs H Q E h => ?_) (fun cdv A outer s H vs Q E hr h => ?_)
  · obtain ⟨t, rfl, _⟩ := h
    rfl
  · obtain ⟨t, rfl, hl, q⟩ := h
    refine ⟨_, pss_one (ps_ret (pe_call G hr (by rfl) D.g D.F.kp D.b .nil pass0 (pa_cons (pv 0) pa_nil))), ?_⟩
    exact ⟨.str t, rfl, t, rfl, hl, q⟩
theorem ok_isName {f g : Addr} {fd gd : FuncData} (F : Fun K "is_name" "is_name" sIsName f fd) (D : Dd K mg "made_of" sMade ["text", "signs", "most"] g gd) (B : Blt mg) : FnOk P w K mg base CX0 2 f fd ["text"] (spT isName) := by
  have G : FnOk P w K mg base CX0 1 g gd ["text", "signs", "most"] spMade := ok_made D.F B
  refine F.ok scIsName (fun vs H Q E h => ?_) (fun cdv A outer s H vs Q E hr h => ?_)
  · obtain ⟨t, rfl, _⟩ := h
    rfl
  · obtain ⟨t, rfl, hl, q⟩ := h
    refine ⟨_, pss_one (ps_ret (pe_and (pe_call G hr (by rfl) D.g D.F.kp D.b .nil pass0 (pa_cons (pv 0) (pa_cons (pe_op op_add_str (pe_txt (by rfl) B.lt) (pe_txt (by rfl) B.dg)) (pa_cons pe_int pa_nil))))
      (pe_one (pe_cmpR op_in_sign (pe_item_str (pv 0) pe_int (fun _ _ => rfl)) (pe_txt (by rfl) B.lt) (by rfl))))), ?_⟩
    refine ⟨.str t, rfl, _, _, rfl, rfl, by decide +kernel, t, letters ++ digits, 12, rfl, hl, fun H1 S1 => ⟨_, rfl, ite2 (fun e => ?_) (fun e => ?_)⟩⟩
    · have e' : (decide (1 ≤ (t.length : Int)) && decide ((t.length : Int) ≤ 12) && t.cps.toList.all (isIn (letters ++ digits))) = true := e
      rw [Bool.and_eq_true, Bool.and_eq_true] at e'
      have h1 : 1 ≤ (t.length : Int) := of_decide_eq_true e'.1.1
      have h2 : 0 < t.cps.size := by
        show 0 < t.length
        omega
      have hc : t.cps[0]? = some t.cps[0] := Array.getElem?_eq_getElem h2
      refine ⟨.str t, rfl, t, 0, t.cps[0], rfl, rfl, by decide, by decide, by omega, hc, t.cps[0], letters, rfl, rfl, ?_⟩
      have en : isName t = decide (t.cps[0] ∈ letters.cps.toList) := by
        unfold isName
        rw [show made t (letters ++ digits) 12 = true from e, hc, Bool.true_and]
        rfl
      rw [← en]
      exact q _ S1
    · have en : isName t = false := by
        unfold isName
        rw [show made t (letters ++ digits) 12 = false from Bool.eq_false_iff.mpr e, Bool.false_and]
      have := q _ S1
      rw [en] at this
      exact this
theorem ok_isLane {f g g2 : Addr} {fd gd gd2 : FuncData} (F : Fun K "_is_lane" "_is_lane" sIsLane f fd) (D : Dd K mg "is_name" sIsName ["text"] g gd) (D2 : Dd K mg "made_of" sMade ["text", "signs", "most"] g2 gd2) (B : Blt mg) : FnOk P w K mg base CX0 3 f fd ["text"] (spT isLane) := by
  have G : FnOk P w K mg base CX0 2 g gd ["text"] (spT isName) := ok_isName D.F D2 B
  refine F.ok scIsLane (fun vs H Q E h => ?_) (fun cdv A outer s H vs Q E hr h => ?_)
  · obtain ⟨t, rfl, _⟩ := h
    rfl
  · obtain ⟨t, rfl, hl, q⟩ := h
    refine ⟨_, pss_one (ps_ret (pe_or (pe_cmpR op_eq (pv 0) (pe_txt (by rfl) B.hr) (nomark _)) (pe_one (pe_call G hr (by rfl) D.g D.F.kp D.b .nil pass0 (pa_cons (pv 0) pa_nil))))), ?_⟩
    refine ⟨.str t, rfl, rfl, _, rfl, ite2 (fun e => ?_) (fun e => ?_)⟩
    · have e1 : V.str t = V.str (Str.ofString "") := of_decide_eq_true e
      have e2 : t = Str.ofString "" := V.str.inj e1
      have el : isLane t = true := by
        unfold isLane
        rw [decide_eq_true e2, Bool.true_or]
      have := q H (Same.refl _)
      rw [el] at this
      exact this
    · have e2 : ¬ t = Str.ofString "" := fun z => e (decide_eq_true (congrArg V.str z))
      have el : isLane t = isName t := by
        unfold isLane
        rw [decide_eq_false e2, Bool.false_or]
      refine ⟨.str t, rfl, t, rfl, hl, fun H' S => ?_⟩
      rw [← el]
      exact q H' S
end
end Tb

set_option Elab.async false
set_option linter.all false
set_option maxRecDepth 100000
namespace Tb
open PySem PySem.Spec PyProof.Rows L2
/-! ### prefixes and lanes: the mirrors -/
/-- the first n signs -/
def pre (a : Str) (n : Nat) : Str := cutS a none (some (n : Int))
abbrev Kvs := List (Key × V)
/-- the longest of the first n beginnings that is a key -/
def lp (kvs : Kvs) (a : Str) : Nat → Option Str
  | 0 => none
  | n + 1 => if (valV kvs (Sum.inr (pre a (n + 1)))).isSome = true then some (pre a (n + 1)) else lp kvs a n
def long (kvs : Kvs) (a : Str) : Option Str := lp kvs a a.length
def oStr : Option Str → V
  | none => .non
  | some z => .str z
/-- the lane of an address -/
def laneV (kvs : Kvs) (a : Str) : V := match long kvs a with
  | none => .non
  | some p => (valV kvs (Sum.inr p)).getD .non
theorem lp_some {kvs : Kvs} {a : Str} : ∀ {n : Nat} {p : Str}, lp kvs a n = some p → ∃ v, valV kvs (Sum.inr p) = some v
  | 0, _, h => by cases h
  | n + 1, p, h => by
    unfold lp at h
    by_cases c : (valV kvs (Sum.inr (pre a (n + 1)))).isSome = true
    · rw [if_pos c] at h
      cases h
      exact Option.isSome_iff_exists.mp c
    · rw [if_neg c] at h
      exact lp_some h
theorem lp_len {kvs : Kvs} {a : Str} : ∀ {n : Nat} {p : Str}, lp kvs a n = some p → p.length ≤ a.length
  | 0, _, h => by cases h
  | n + 1, p, h => by
    unfold lp at h
    by_cases c : (valV kvs (Sum.inr (pre a (n + 1)))).isSome = true
    · rw [if_pos c] at h
      cases h
      exact cutS_length a _ _
    · rw [if_neg c] at h
      exact lp_len h
section
variable {P : Program} {w : World} {K : PySem.W.Frag} {mg : Str → Option Value} {base : Heap}
theorem scLong : FnScope ["prefixes", "address", "end"] ["prefixes", "address"] (defScope sLong) := ⟨rfl, rfl, rfl, by decide +kernel, rfl, by decide +kernel, by decide +kernel⟩
theorem scLane : FnScope ["lanes", "address", "prefix"] ["lanes", "address"] (defScope sLane) := ⟨rfl, rfl, rfl, by decide +kernel, rfl, by decide +kernel, by decide +kernel⟩
/-- a dict and an address in; what g says out, the heap as it was -/
def spDA (g : Kvs → Str → V) : Sp := fun vs H Q _ => ∃ (d : Addr) (kvs : Kvs) (a : Str), vs = [.ref d, .str a] ∧ H d = some (.dK kvs) ∧ a.length ≤ 1000 ∧ Q (g kvs a) H
theorem ok_long {f : Addr} {fd : FuncData} {k : Nat} (F : Fun K "longest_prefix" "longest_prefix" sLong f fd) (B : Blt mg) : FnOk P w K mg base CX0 (k + 1) f fd ["prefixes", "address"] (spDA fun kvs a => oStr (long kvs a)) := by
  refine F.ok scLong (fun vs H Q E h => ?_) (fun cdv A outer s H vs Q E hr h => ?_)
  · obtain ⟨d, kvs, a, rfl, _⟩ := h
    rfl
  · obtain ⟨d, kvs, a, rfl, hd, hl, q⟩ := h
    have hu := hu_of hr
    refine ⟨_, pss_cons (ps_for PassesOwn.never rfl (pi_range3 (by rfl) B.range (pa_cons (pe_callB call_len_str (by rfl) B.len PySem.boot_len (pa_cons (pv 1) pa_nil)) (pa_cons pe_int (pa_cons (pe_un un_neg pe_int) pa_nil)))) (pg_name (i := 2) scLong.nd rfl (.inl rfl))
        (pss_one (ps_if (pt_cmp (pc_din hu (pe_slice sl_str (pv 1) po_none (po_some (pv 2))) (pv 0))) (pss_one (ps_ret (pe_slice sl_str (pv 1) po_none (po_some (pv 2))))) pss_nil)))
      (pss_one (ps_ret pe_non)), ?_⟩
    have hz : sizeLine = 16777216 := rfl
    refine ⟨.str a, rfl, a, rfl, by omega, 1, rfl, (a.length : Int), 0, -1, ((a.length : Int) - 0).toNat, rfl, RgC.neg (by omega) (by omega) (by omega) (by omega), ?_⟩
    refine for_rangeC (lo := (a.length : Int)) (c := -1) (n := ((a.length : Int) - 0).toNat) (fun i σ H' => ∃ y, σ = [some (.ref d), some (.str a), y] ∧ H' = H ∧ long kvs a = lp kvs a (a.length - i)) ⟨none, rfl, rfl, rfl⟩ ?_ ?_
    · rintro i σ H' hi ⟨y, rfl, rfl, e⟩
      have hi' : i < a.length := by omega
      have ei : (a.length : Int) + (i : Int) * -1 = ((a.length - i : Nat) : Int) := by omega
      rw [ei]
      refine ⟨.str a, rfl, .int ((a.length - i : Nat) : Int), rfl, ((a.length - i : Nat) : Int), rfl, a, rfl, by omega, .ref d, rfl, d, _, rfl, DGet.k (k := Sum.inr (pre a (a.length - i))) hd, ?_⟩
      obtain ⟨m, em⟩ : ∃ m, a.length - i = m + 1 := ⟨a.length - i - 1, by omega⟩
      by_cases c : (valV kvs (Sum.inr (pre a (a.length - i)))).isSome = true
      · refine ⟨_, rfl, ?_⟩
        rw [c]
        refine ⟨.str a, rfl, .int ((a.length - i : Nat) : Int), rfl, ((a.length - i : Nat) : Int), rfl, a, rfl, by omega, ?_⟩
        have : long kvs a = some (pre a (a.length - i)) := by
          rw [e, em]
          unfold lp
          rw [← em, if_pos c]
        have q : Q (oStr (long kvs a)) H' := q
        rw [this] at q
        exact q
      · refine ⟨_, rfl, ?_⟩
        rw [Bool.eq_false_iff.mpr c]
        refine ⟨_, rfl, rfl, ?_⟩
        rw [e, em]
        show (if (valV kvs (Sum.inr (pre a (m + 1)))).isSome = true then some (pre a (m + 1)) else lp kvs a m) = _
        rw [← em, if_neg c, show a.length - (i + 1) = m by omega]
    · rintro σ H' ⟨y, rfl, rfl, e⟩
      rw [show a.length - ((a.length : Int) - 0).toNat = 0 by omega] at e
      have q : Q (oStr (long kvs a)) H' := q
      rw [e] at q
      exact q
theorem ok_lane {f g : Addr} {fd gd : FuncData} (F : Fun K "_lane" "_lane" sLane f fd) (D : Dd K mg "longest_prefix" sLong ["prefixes", "address"] g gd) (B : Blt mg) : FnOk P w K mg base CX0 2 f fd ["lanes", "address"] (spDA laneV) := by
  have G : FnOk P w K mg base CX0 1 g gd ["prefixes", "address"] (spDA fun kvs a => oStr (long kvs a)) := ok_long D.F B
  refine F.ok scLane (fun vs H Q E h => ?_) (fun cdv A outer s H vs Q E hr h => ?_)
  · obtain ⟨d, kvs, a, rfl, _⟩ := h
    rfl
  · obtain ⟨d, kvs, a, rfl, hd, hl, q⟩ := h
    have hu := hu_of hr
    refine ⟨_, pss_cons (ps_set (i := 2) scLane.nd rfl (.inl rfl) (pe_call G hr (by rfl) D.g D.F.kp D.b .nil pass0 (pa_cons (pv 0) (pa_cons (pv 1) pa_nil))))
      (pss_cons (ps_if (pt_cmpR op_isN (pv 2) pe_non (nomark _)) (pss_one (ps_ret pe_non)) pss_nil)
      (pss_one (ps_ret (pe_dget hu (pv 0) (pv 2) (fun _ _ => rfl))))), ?_⟩
    refine ⟨.ref d, rfl, .str a, rfl, d, kvs, a, rfl, hd, hl, ?_⟩
    have q : Q (laneV kvs a) H := q
    show gName 2 (oStr (long kvs a)) _ _ _
    unfold laneV at q
    cases e : long kvs a with
    | none =>
      rw [e] at q
      exact ⟨.non, rfl, rfl, true, rfl, q⟩
    | some p =>
      rw [e] at q
      obtain ⟨v, ev⟩ := lp_some e
      have q : Q ((valV kvs (Sum.inr p)).getD .non) H := q
      rw [ev] at q
      refine ⟨.str p, rfl, rfl, false, rfl, .ref d, rfl, .str p, rfl, d, v, rfl, ?_, q⟩
      rw [← ev]
      exact DGet.k (k := Sum.inr p) hd
end
end Tb

set_option Elab.async false
set_option linter.all false
set_option maxRecDepth 100000
namespace Tb
open PySem PySem.Spec PyProof.Rows L2
open PySem.W (EachIs AllAlike Sortable dataLe)
/-! ### sorted, any number of items -/
theorem vals_each : ∀ {bs : List (V × PyData)} {us : List Value}, Vals (bs.map Prod.fst) us → EachIs (fun (v : Value) (b : V × PyData) => RelV b.1 v) us bs
  | [], _, r => by cases r; exact .nil
  | b :: bs, _, r => by
    cases r with
    | cons r1 r2 => exact .cons r1 (vals_each r2)
theorem each_vals : ∀ {bs : List (V × PyData)} {us : List Value}, EachIs (fun (v : Value) (b : V × PyData) => RelV b.1 v) us bs → Vals (bs.map Prod.fst) us
  | [], _, r => by cases r; exact .nil
  | b :: bs, _, r => by
    cases r with
    | cons r1 r2 => exact .cons r1 (each_vals r2)
theorem each_imp {α β : Type} {R S : α → β → Prop} : ∀ {as : List α} {bs : List β}, EachIs R as bs → (∀ a b, b ∈ bs → R a b → S a b) → EachIs S as bs
  | _, _, .nil, _ => .nil
  | _, _, .cons h t, k => .cons (k _ _ (List.mem_cons_self ..) h) (each_imp t fun a b hb => k a b (List.mem_cons_of_mem _ hb))
def rSortDt (K : PySem.W.Frag) : List V → Hp → VK → Prop := fun vs H Q => ∃ (a : Addr) (bs : List (V × PyData)), vs = [.ref a] ∧ SqL K H a (bs.map Prod.fst) ∧ (∀ b ∈ bs, Dp K H b.1 b.2) ∧ AllAlike (bs.map Prod.snd) ∧ Sortable (bs.map Prod.snd) ∧ (∀ b ∈ bs, b.2.depth ≤ 10) ∧
  ∀ p, H p = none → Q (.ref p) (upd H p (.lst ((bs.mergeSort (dataLe false Prod.snd)).map Prod.fst)))
section
variable {X : Cx}
theorem cr_sortedDt (hu : X.A.units + 64 < cLine) : CallR X (.builtin "sorted") (rSortDt X.K) := by
  intro pins s σ H vs us Q I r h
  obtain ⟨a, bs, rfl, hs, hd, hal, hso, hdp, q⟩ := h
  obtain ⟨its, rv, hl, hz⟩ := I.list hs
  rw [Vals.ref1 r]
  have e := vals_each rv
  rw [List.length_map] at hz
  refine PySem.W.sorted_data (enc := Prod.snd) hl.isList e (each_imp e fun v b hb rb => Dp.reads I b.2 b.1 v (hd b hb) rb) hal hso hz (fun b hb => by have := hdp b hb; omega) fun out ho eo => ?_
  obtain ⟨ep, he'⟩ := PyProof.Rows.sortedAll_at s.heap its out.toArray
  have hlen : ((bs.mergeSort (dataLe false Prod.snd)).map Prod.fst).length ≤ sizeLine := by
    rw [List.length_map, List.length_mergeSort]
    exact hz
  exact ⟨.ref _, upd H (s.heap.objs.size + 1) (.lst ((bs.mergeSort (dataLe false Prod.snd)).map Prod.fst)), I.laid (t' := s.toks) (fun _ _ => PyProof.Rows.sortedAll_old) (Nat.le_succ _) ⟨hlen, out, ep, each_vals eo, he'⟩, rfl, q _ (I.hok.fresh (Nat.le_succ _))⟩
/-- sorted(d), the keys texts, any number of them -/
theorem cr_sortedDk (hcalm : X.calm = true) (hu : X.A.units + 64 < cLine) : CallR X (.builtin "sorted") (fun xs H Q => ∃ (a : Addr) (kvs : List (Key × V)) (ks : List Str), xs = [.ref a] ∧ Rd H a (.dK kvs) ∧ kvs.map (·.1) = ks.map Sum.inr ∧ ks.length ≤ 1000 ∧
    ∀ p, H p = none → Q (.ref p) (upd H p (.lst ((ks.mergeSort (dataLe false PyData.str)).map V.str)))) := by
  intro pins s σ H xs us Q I r q
  obtain ⟨a, kvs, ks, rfl, hd, hks, hln, q⟩ := q
  obtain ⟨u, rfl, rx⟩ := vals1 r
  cases rx
  obtain ⟨z, lo, vs, rel, dd⟩ := dk_rd I.hok hd
  obtain ⟨ep, hat⟩ := dd.dictAt
  have hkeys : vs.map (·.1) = ks.map Sum.inr := rel.keys.symm.trans hks
  have hl : vs.length = ks.length := by
    have e := congrArg List.length hkeys
    rwa [List.length_map, List.length_map] at e
  have hline : sizeLine = 16777216 := rfl
  refine Calls.call_function_entry PyProof.Rows.kind_sorted PyProof.Rows.plain_sorted PyProof.Rows.entry_sorted (PyProof.Rows.args_sorted1 _) ?_
  unfold Builtin.«sorted»
  refine wpAny_bind (m := checkCount "sorted" 1 1 _) (wpAny_pure ?_)
  refine wpAny_bind (PySem.W.kdu_collect (A := X.A.in1) (PySem.W.kdl_dict (knd := mixKind X.prog X.w) (kvs := vs) (ep := ep) lo) (I.ok.hd hcalm) hat (by omega) fun h' tk acc hk hacc => ?_)
  have hal : acc.toList.length = ks.length := by rw [Array.length_toList, hacc.1, hl]
  -- the values are the texts
  have each : EachIs (fun (v : Value) (x : Str) => ∃ t, v = .str x t) acc.toList ks := by
    have gen : ∀ (n : Nat) (us : List Value) (xs : List Str), us.length = xs.length → (∀ (j : Nat) (v : Value), us[j]? = some v → ∃ (x : Str) (t : Tok), xs[j]? = some x ∧ v = Value.str x t) →
      EachIs (fun (v : Value) (x : Str) => ∃ t, v = .str x t) us xs := by
      intro _ us
      induction us with
      | nil =>
        intro xs e _
        cases xs with
        | nil => exact .nil
        | cons _ _ => cases e
      | cons u us ih =>
        intro xs e k
        cases xs with
        | nil => cases e
        | cons x xs =>
          obtain ⟨x', t, e1, e2⟩ := k 0 u rfl
          cases e1
          exact .cons ⟨t, e2⟩ (ih xs (Nat.succ.inj e) fun j v hv => k (j + 1) v hv)
    refine gen 0 _ _ hal fun j v e => ?_
    obtain ⟨k, x, e1, e2⟩ := hacc.2 j v (by rw [← Array.getElem?_toList]; exact e)
    have e3 : (vs.map (·.1))[j]? = some k := by rw [List.getElem?_map, e1]; rfl
    rw [hkeys, List.getElem?_map] at e3
    cases e4 : ks[j]? with
    | none => rw [e4] at e3; cases e3
    | some y =>
      rw [e4] at e3
      cases (Option.some.inj e3 : Sum.inr y = k)
      obtain ⟨t, ev⟩ := Value.isStrOf_shape (x := y) (v := v) e2
      exact ⟨y, t, rfl, ev⟩
  have I1 : Inv X pins σ H { s with heap := h', toks := tk } := I.kept hk
  refine wpAny_bind (wpAny_newList ?_ (by rw [hal]; omega))
  have hoL : (h'.push (seqObj "list" acc.toList.toArray 0)).get? h'.objs.size = some (seqObj "list" acc.toList.toArray 0) := Heap.get?_push_size _ rfl
  show wpAny _ _ _ _ _ { s with heap := h'.push (seqObj "list" acc.toList.toArray 0), toks := tk }
  have alike1 : AllAlike (ks.map PyData.str) := fun d hd d' hd' => by
    obtain ⟨x, _, rfl⟩ := List.mem_map.mp hd
    obtain ⟨y, _, rfl⟩ := List.mem_map.mp hd'
    simp [PySem.W.alike]
  have srt1 : Sortable (ks.map PyData.str) := .inr fun d hd => by
    obtain ⟨x, _, rfl⟩ := List.mem_map.mp hd
    exact ⟨PyData.noConfusion, fun _ => PyData.noConfusion⟩
  refine wpAny_bind (wpAny_holding (PySem.W.list_sort_data (enc := PyData.str) (s := { s with heap := h'.push (seqObj "list" acc.toList.toArray 0), toks := tk }) hoL each (each_imp each fun v x _ ⟨t, e⟩ => ⟨[], by rw [e]; exact Reads.str x t, List.not_mem_nil⟩) alike1 srt1 (by omega) ?k4 fun out ho eo => ?_))
  case k4 =>
    intro b _
    have h1 : (PyData.str b).depth ≤ 1 := by simp [PyData.depth]
    have h2 : X.A.in1.units = X.A.units + 1 := rfl
    omega
  obtain ⟨ep', he'⟩ := PyProof.Rows.sortedHeap_at (vs := acc.toList) (out := out.toArray) hoL
  have hlen : ((ks.mergeSort (dataLe false PyData.str)).map V.str).length ≤ sizeLine := by
    rw [List.length_map, List.length_mergeSort]
    omega
  have ev : Vals ((ks.mergeSort (dataLe false PyData.str)).map V.str) out := by
    generalize ks.mergeSort (dataLe false PyData.str) = zs at eo
    clear ho he' hlen
    induction eo with
    | nil => exact .nil
    | cons h _ ih => exact .cons h ih
  have hnew : H h'.objs.size = none := I1.hok.fresh (Nat.le_refl _)
  refine wpAny_pure ⟨_, rfl, .ref h'.objs.size, upd H h'.objs.size (.lst ((ks.mergeSort (dataLe false PyData.str)).map V.str)), I1.laid (t' := tk) (fun b o e => ?_) (Nat.le_refl _) ⟨hlen, out, ep', ev, he'⟩, rfl, q _ hnew⟩
  have hb : b < h'.objs.size := Heap.lt_size e
  rw [PyProof.Rows.sortedHeap_old (Nat.ne_of_lt hb) (by rw [size_push']; exact Nat.lt_succ_of_lt hb)]
  exact Heap.get?_push_of_some _ e
end
end Tb

set_option Elab.async false
set_option linter.all false
set_option maxRecDepth 100000
namespace Tb
open PySem PySem.Spec PyProof.Rows L2
open PySem.W (EachIs AllAlike Sortable dataLe)
/-! ### sorted(d.items()) -/
abbrev Pr := Str × Str
def enc2 (p : Pr) : PyData := .tuple [.str p.1, .str p.2]
def kvP (ps : List Pr) : Kvs := ps.map fun p => (Sum.inr p.1, V.str p.2)
section
variable {prog : Program} {w : World} {κ : Type} [DecidableEq κ] {knd : KeyKind prog w κ} {A : Around} {E : Value → Shared → Prop} {s : Shared} {r d : Addr} {kvs : List (κ × Value)} {ep : Nat}
theorem collect_items {R : List Value → Shared → Prop} (hh : A.handled = none) (hv : s.heap.IsItemsView r d) (hm : s.heap.DictAt knd d kvs ep) (hn : kvs.length ≤ sizeLine)
    (h : ∀ (h' : Heap) (tk : Nat) (acc : Array Value) (c : Nat) (as : List Addr), (∀ b o, s.heap.get? b = some o → h'.get? b = some o) → h'.get? s.heap.objs.size = some { cls := .type "list", dict := none, data := .seq acc c, slots := #[] } → as.length = kvs.length → PySem.W.KdxG knd kvs s.heap.objs.size h' as →
      acc.toList = as.map Value.ref → R (as.map Value.ref) { s with heap := h', toks := tk }) :
    wpAny (model prog w) A (collect (.ref r)) R E s := by
  obtain ⟨ov, hov, hvr⟩ := id hv
  have hr : r < s.heap.objs.size := Heap.lt_size hov
  have hd : d < s.heap.objs.size := by
    obtain ⟨od, _, hod, _⟩ := id hm
    exact Heap.lt_size hod
  unfold collect
  refine wpAny_bind (wpAny_runValue (codeAny_builtin entry_proto_collect' ?_))
  rw [Around.under_plainId PySem.F.plain_proto_collect _]
  show wpAny _ A.in1 (newList [] >>= fun l => again (.builtin "list.__iadd__" ⟨[l, .ref r], []⟩)) _ _ s
  refine wpAny_bind (wpAny_newObj_type ?_)
  refine wpAny_pure ⟨plainId_quiet PySem.F.plain_list_iadd _, codeAny_builtin entry_list_iadd' ?_⟩
  rw [Around.under_plainId PySem.F.plain_list_iadd _]
  have up : ∀ b o, s.heap.get? b = some o → (s.heap.push { cls := .type "list", data := .seq ([] : List Value).toArray }).get? b = some o := fun b o e => Heap.get?_push_of_some _ e
  have key := PySem.W.kdx_extend (A := A) (knd := knd) (kvs := kvs) (ep := ep) (s := { s with heap := s.heap.push { cls := .type "list", data := .seq ([] : List Value).toArray } })
    (R := fun (q : Result) (s' : Shared) => ∃ (h' : Heap) (tk : Nat) (acc : Array Value) (c : Nat) (as : List Addr), q = .ok (.ret (.ref s.heap.objs.size)) ∧ s' = { s with heap := h', toks := tk } ∧ (∀ b o, s.heap.get? b = some o → h'.get? b = some o) ∧
      h'.get? s.heap.objs.size = some { cls := .type "list", dict := none, data := .seq acc c, slots := #[] } ∧ as.length = kvs.length ∧ PySem.W.KdxG knd kvs s.heap.objs.size h' as ∧ acc.toList = as.map Value.ref)
    hh ⟨ov, up _ _ hov, hvr⟩ (hm.at' fun o e => up _ _ e) s.heap.objs.size (Nat.ne_of_gt hr) (Nat.ne_of_lt hd) (.ref s.heap.objs.size) 0 (Heap.get?_push_size _ rfl)
    (fun h' tk acc c as hk hS hl hG hacc => ⟨h', tk, acc, c, as, rfl, rfl, fun b o e => hk b o (Nat.ne_of_lt (Heap.lt_size e)) (up _ _ e), hS, hl, hG.low (by show s.heap.objs.size ≤ (s.heap.push _).objs.size; rw [Heap.size_push]; exact Nat.le_succ _), hacc⟩) hn
  refine wpAny_mono key (fun fin s' x => ?_) fun e s' x => ?_
  · cases fin with
    | done f =>
      obtain ⟨h', tk, acc, c, as, e, rfl, hk, hS, hl, hG, hacc⟩ := x
      cases e
      show wpAny _ A (load s.heap.objs.size >>= _) _ _ _
      refine wpAny_bind (wpAny_load hS ?_)
      refine wpAny_pure ?_
      show R acc.toList _
      rw [hacc]
      exact h h' tk acc c as hk hS hl hG hacc
    | again c₁ =>
      refine ⟨x.1, codeAny_mono x.2 fun q s₂ y => ?_⟩
      obtain ⟨h', tk, acc, c, as, rfl, rfl, hk, hS, hl, hG, hacc⟩ := y
      show wpAny _ A (load s.heap.objs.size >>= _) _ _ _
      refine wpAny_bind (wpAny_load hS ?_)
      refine wpAny_pure ?_
      show R acc.toList _
      rw [hacc]
      exact h h' tk acc c as hk hS hl hG hacc
  · obtain ⟨_, _, _, _, _, e', _⟩ := x
    cases e'
end
/-- the order of the pairs, and of the texts -/
def le2 : Pr → Pr → Bool := dataLe false enc2
def le1 : Str → Str → Bool := dataLe false PyData.str
theorem alike2 (ps : List Pr) : AllAlike (ps.map enc2) := fun d hd d' hd' => by
  obtain ⟨x, _, rfl⟩ := List.mem_map.mp hd
  obtain ⟨y, _, rfl⟩ := List.mem_map.mp hd'
  simp [enc2, PySem.W.alike, PySem.W.alikeAll]
theorem sortable2 (ps : List Pr) : Sortable (ps.map enc2) := .inl fun d hd => by
  obtain ⟨x, _, rfl⟩ := List.mem_map.mp hd
  exact ⟨_, _, rfl⟩
theorem depth2 (p : Pr) : (enc2 p).depth ≤ 2 := by simp [enc2, PyData.depth, PyData.depthAll]
/-- a list of refs to pairs of texts -/
structure PrsAt (K : PySem.W.Frag) (H : Hp) (l : Addr) (ts : List (Addr × Pr)) : Prop where
  l : SqL K H l (ts.map fun t => V.ref t.1)
  t : ∀ t ∈ ts, SqT K H t.1 [.str t.2.1, .str t.2.2]
theorem kvP_keys (ps : List Pr) : (kvP ps).map (·.1) = (ps.map (·.1)).map Sum.inr := by
  unfold kvP
  rw [List.map_map, List.map_map]
  rfl
/-- sorted(e.items()) -/
def tSortItems (te : TE) : TE := fun σ H Q => te σ H fun x H1 => ∃ (d : Addr) (ps : List Pr), x = .ref d ∧ H1 d = some (.dK (kvP ps)) ∧ ps.length ≤ 1000 ∧
  ∀ (H' : Hp) (p : Addr) (ts : List (Addr × Pr)), Same H1 H' → H1 p = none → H' p = some (.lst (ts.map fun t => V.ref t.1)) → (∀ t ∈ ts, H' t.1 = some (.tup [.str t.2.1, .str t.2.2])) → ts.map (·.2) = ps.mergeSort le2 → Q (.ref p) H'
section
variable {X : Cx} {e : Expr} {te : TE} {p apos cpos pos : Pos}
theorem pe_sortedItems (hc : X.calm = true) (hu : X.A.units + 64 < cLine) (he : PE X e te) (hg : Gl X "sorted") (hm : X.mg "sorted" = none) (hbase : attributeBase e "items" X.env (eval e X.env) = eval e X.env := by rfl) (hline : (apos.endLine == cpos.line) = true := by rfl)
    (hs : starEach [.Call (.Attribute e "items" apos) [] [] cpos] X.env = (false, eval (.Call (.Attribute e "items" apos) [] [] cpos) X.env) :: starEach [] X.env := by rfl) :
    PE X (.Call (.Name "sorted" p) [.Call (.Attribute e "items" apos) [] [] cpos] [] pos) (tSortItems te) := by
  refine ⟨fun pins s σ H Q I hq => ?_⟩
  refine wpAny_Call_Name_kw (ld_blt I hg hm PyProof.Rows.boot_sorted ?_)
  refine PyProof.Rows.callWith_builtin1 ?_ hs rfl
  rw [hs]
  show wpAny _ _ (spliced ((false, eval (.Call (.Attribute e "items" apos) [] [] cpos) X.env) :: backTo pos (starEach [] X.env))) _ _ s
  refine Calls.spliced_cons ?_
  refine wpAny_Call_method (T := "dict") (id := "dict.items") hbase rfl hline PySem.F.plainAttrs_dict PySem.F.slot_dict_items PySem.F.type_dict_items (thn (he.run pins s σ H _ I hq) fun u s1 ⟨x, H1, I1, rx, d, ps, ex, hd, hln, q⟩ => ?_)
  subst ex
  obtain rfl : u = Value.ref d := rx
  obtain ⟨hz, hs0, vs, kv, hdo⟩ := I1.hok d _ hd
  obtain ⟨ep, hat⟩ := hdo.dictAt
  have lk : (kvP ps).length = vs.length := Paired.length kv
  have lps : (kvP ps).length = ps.length := by unfold kvP; rw [List.length_map]
  have hline' : sizeLine = 16777216 := rfl
  have I2 : Inv X pins σ H1 { s1 with heap := s1.heap.push { cls := .type "dict_items", data := .fields #[.ref d] } } := I1.kept (t' := s1.toks) fun b ob q => Heap.get?_push_of_some _ q
  refine ⟨hdo.typeIs, hdo.mapOf.noDict, ?_⟩
  show wpAny _ _ (callWith cpos (.builtin "dict.items") [.ref d] [] []) _ X.xe s1
  refine method_meetsIn PySem.F.slot_dict_items PySem.F.entry_dict_items rfl (PySem.evalArgs_none ⟨rfl, hdo.typeIs, PySem.F.args_dict_items_1 _, _, meets_dict_items (mixKind X.prog X.w) d hs0, ⟨vs, hdo⟩, ?_⟩)
  refine Calls.spliced_nil ?_
  refine Calls.call_function_entry PyProof.Rows.kind_sorted PyProof.Rows.plain_sorted PyProof.Rows.entry_sorted (PyProof.Rows.args_sorted1 _) ?_
  unfold Builtin.«sorted»
  refine wpAny_bind (m := checkCount "sorted" 1 1 _) (wpAny_pure ?_)
  refine wpAny_bind (collect_items (A := X.A.in1) (knd := mixKind X.prog X.w) (kvs := vs) (ep := ep) (I1.ok.hd hc) ⟨_, Heap.get?_push_size _ rfl, rfl, rfl⟩ (hat.push _) (by omega) fun h' tk acc c as hk hS hl hG hacc => ?_)
  obtain ⟨H', k1, k2, k3, k4, k5, k6, J⟩ := LiI.items_laid (tk := tk) I2 hz kv hk hS hl hG hacc
  have las : as.length = ps.length := by omega
  -- the pairs with their places
  have pr : ∀ t ∈ as.zip ps, H' t.1 = some (.tup [.str t.2.1, .str t.2.2]) := by
    intro t ht
    obtain ⟨j, hj⟩ := List.mem_iff_getElem?.mp ht
    rw [List.getElem?_zip_eq_some] at hj
    obtain ⟨y, hy, hy2⟩ := LiI.paired_get k6 hj.1
    unfold kvP at hy
    rw [List.getElem?_map, hj.2] at hy
    cases (Option.some.inj hy)
    exact hy2
  have z1 : (as.zip ps).map Prod.fst = as := List.map_fst_zip (by omega)
  have z2 : (as.zip ps).map Prod.snd = ps := List.map_snd_zip (by omega)
  generalize as.zip ps = bs at pr z1 z2
  have lbs : bs.length = as.length := by rw [← z1, List.length_map]
  refine wpAny_bind (wpAny_newList ?_ (by rw [List.length_map]; omega))
  have hoL : (h'.push (seqObj "list" (as.map Value.ref).toArray 0)).get? h'.objs.size = some (seqObj "list" (as.map Value.ref).toArray 0) := Heap.get?_push_size _ rfl
  show wpAny _ _ _ _ _ { s1 with heap := h'.push (seqObj "list" (as.map Value.ref).toArray 0), toks := tk }
  have e2 : bs.map (fun t : Addr × Pr => enc2 t.2) = ps.map enc2 := by rw [← z2, List.map_map]; rfl
  have each : EachIs (fun (v : Value) (t : Addr × Pr) => v = .ref t.1) (as.map Value.ref) bs := by
    rw [← z1, List.map_map]
    clear pr z1 z2 lbs e2
    induction bs with
    | nil => exact .nil
    | cons b bs ih => exact .cons rfl ih
  have Jn := J
  have old : ∀ b o, h'.get? b = some o → (h'.push (seqObj "list" (as.map Value.ref).toArray 0)).get? b = some o := fun b o e => Heap.get?_push_of_some _ e
  have rd : EachIs (fun (v : Value) (t : Addr × Pr) => ∃ as', Reads (h'.push (seqObj "list" (as.map Value.ref).toArray 0)) v (enc2 t.2) as' ∧ h'.objs.size ∉ as') (as.map Value.ref) bs := by
    refine each_imp each fun v t ht hv => ?_
    subst hv
    obtain ⟨_, its, rv, o, h1, h2, n, h3⟩ := (show ObjOk X.prog X.w H' h' t.1 (.tup [.str t.2.1, .str t.2.2]) from J.hok t.1 _ (pr t ht))
    obtain ⟨u1, u2, rfl, r1, r2⟩ := vals2 rv
    obtain ⟨t1, rfl⟩ := r1
    obtain ⟨t2, rfl⟩ := r2
    exact ⟨[], Reads.tuple (old _ _ h1) h2 h3 (ReadsAll.cons (Reads.str _ _) (ReadsAll.cons (Reads.str _ _) ReadsAll.nil)), List.not_mem_nil⟩
  refine wpAny_bind (wpAny_holding (PySem.W.list_sort_data (enc := fun t : Addr × Pr => enc2 t.2) (s := { s1 with heap := h'.push (seqObj "list" (as.map Value.ref).toArray 0), toks := tk }) hoL each rd (by rw [e2]; exact alike2 ps) (by rw [e2]; exact sortable2 ps) (by omega) ?k4 fun out ho eo => ?_))
  case k4 =>
    intro b _
    have h1 := depth2 b.2
    have h2 : X.A.in1.units = X.A.units + 1 := rfl
    omega
  obtain ⟨ep', he'⟩ := PyProof.Rows.sortedHeap_at (vs := as.map Value.ref) (out := out.toArray) hoL
  have hsm : (bs.mergeSort (dataLe false fun t : Addr × Pr => enc2 t.2)).map (·.2) = ps.mergeSort le2 := by
    have h := PySem.W.sort_maps (r := dataLe false fun t : Addr × Pr => enc2 t.2) (s := le2) (l := bs) (fun t : Addr × Pr => t.2) (fun _ _ _ _ => rfl)
    rw [z2] at h
    exact h
  have hmem : ∀ t ∈ bs.mergeSort (dataLe false fun t : Addr × Pr => enc2 t.2), H' t.1 = some (.tup [.str t.2.1, .str t.2.2]) := fun t ht => pr t (List.mem_mergeSort.mp ht)
  have hlen : ((bs.mergeSort (dataLe false fun t : Addr × Pr => enc2 t.2)).map fun t => V.ref t.1).length ≤ sizeLine := by
    rw [List.length_map, List.length_mergeSort]
    omega
  generalize bs.mergeSort (dataLe false fun t : Addr × Pr => enc2 t.2) = ts at eo hsm hmem hlen
  have ev : Vals (ts.map fun t => V.ref t.1) out := by
    clear ho he' hlen hsm hmem
    induction eo with
    | nil => exact .nil
    | cons h _ ih => exact .cons h ih
  have hnew : H' h'.objs.size = none := J.hok.fresh (Nat.le_refl _)
  refine wpAny_pure ⟨_, rfl, .ref h'.objs.size, upd H' h'.objs.size (.lst (ts.map fun t => V.ref t.1)), J.laid (t' := tk) (fun b o e => ?_) (Nat.le_refl _) ⟨hlen, out, ep', ev, he'⟩, rfl, q _ _ ts ((show Same H1 H' from k1).trans (same_upd hnew)) ((show Same H1 H' from k1).free hnew) upd_same (fun t ht => by rw [upd_ne (ne_of_none (hmem t ht) hnew)]; exact hmem t ht) hsm⟩
  have hb : b < h'.objs.size := Heap.lt_size e
  rw [PyProof.Rows.sortedHeap_old (Nat.ne_of_lt hb) (by rw [size_push']; exact Nat.lt_succ_of_lt hb)]
  exact old b o e
end
end Tb

set_option Elab.async false
set_option linter.all false
set_option maxRecDepth 100000
namespace Tb
open PySem PySem.Spec PyProof.Rows L2
/-! ### errors with one field (as in wip/k17 X17A, over this text) -/
structure ErrC (K : PySem.W.Frag) (C fI : Addr) (n : Str) : Prop where
  ox : OexC K C
  xf : XfC K C
  no : PySem.W.findIn K (.ref C) n = some none
  iC : PySem.W.findIn K (.ref C) "__init__" = some (some (.ref fI))
  tI : PySem.W.typeIn K (.ref fI) = some (.type "function")
  cl : (PySem.W.clsIn K C).isSome = true
  ha : PySem.W.findIn K (.ref C) "__class__" = some (some (.builtin "object.__class__"))
  hm : PySem.W.mroIn K C (.type "object") = some true
  hn : PySem.W.specialIn K (.builtin "object.__class__") "__get__" = some (some (.builtin "getset_descriptor.__get__"))
  tk : PySem.W.takesIn K (.builtin "object.__class__") = some true
def spErr (K : PySem.W.Frag) (n : Str) : Sp := fun vs H Q _ => ∃ (a C : Addr) (v : V), vs = [.ref a, v] ∧ OexC K C ∧ PySem.W.findIn K (.ref C) n = some none ∧ H a = some (exo a C none) ∧ ∀ dx, H dx = none → dx ≠ a → Q .non (upd (upd H dx (exd dx [(n, v)])) a (exo a C (some dx)))
theorem err_made {K : PySem.W.Frag} {C fI : Addr} {n : Str} (T : ErrC K C fI n) {v : V} {H : Hp} {Q : XK} (q : ∀ d H', Same H H' → H' d = some (.xd [(n, v)]) → Q (.ref C) (some d) H') :
    ∀ a, H a = none → spErr K n [.ref a, v] (upd H a (exo a C none)) (fun u H2 => u = .non ∧ ∃ (d : Addr) (fs : List (Str × V)), H2 a = some (exo a C (some d)) ∧ H2 d = some (exd d fs) ∧ H d = none ∧ Q (.ref C) (some d) (upd (del H2 a) d (.xd fs))) (fun _ _ _ => False) := by
  intro a na
  refine ⟨a, C, v, rfl, T.ox, T.no, upd_same, fun d nd da => ⟨rfl, d, [(n, v)], upd_same, ?_, ?_, ?_⟩⟩
  · rw [upd_ne da]
    exact upd_same
  · rw [upd_ne da] at nd
    exact nd
  · rw [upd_ne da] at nd
    refine q d _ (fun b o hb => ?_) upd_same
    have hba : b ≠ a := ne_of_none hb na
    have hbd : b ≠ d := ne_of_none hb nd
    rw [upd_ne hbd, del_ne hba, upd_ne hba, upd_ne hbd, upd_ne hba]
    exact hb
section
variable {X : Cx} {a D : Addr} {oe : Obj} {pn : List (Addr × Obj)} {d : Option Addr} {cls : Value}
def rIsX (K : PySem.W.Frag) (D a : Addr) (cls : Value) (d : Option Addr) : List V → Hp → VK → Prop := fun xs H Q => cls = .ref D ∧ ∃ (c : V) (cv : Value) (b : Bool) (dd : Addr) (fs : List (Str × V)), xs = [.ref a, c] ∧ ClsV c cv ∧ d = some dd ∧ H dd = some (.xd fs) ∧ PySem.W.kitOne K (.ref D) cv = some b ∧ Q (.bl b) H
theorem inst_at {pins : List (Addr × Obj)} {σ : L2.St} {H : Hp} {s : Shared} {dd : Addr} {fs : List (Str × V)} (hz : Zc (.ref D) (some dd) oe) (hf : ∃ vs, oe.data = .fields vs) (I : Inv (X.suite a ((a, oe) :: pn)) pins σ H s) (hd : H dd = some (.xd fs)) : ∃ od, PySem.W.InstAt s.heap a oe D (some od) := by
  obtain ⟨ha, _⟩ := I.pin (a, oe) (List.mem_append_left _ List.mem_cons_self)
  obtain ⟨vs, hv⟩ := hf
  have hx : ObjOk X.prog X.w H s.heap dd (.xd fs) := I.hok dd _ hd
  obtain ⟨mA, hns, _⟩ := hx
  obtain ⟨od, ho, _⟩ := lookIn_ns hns
  refine ⟨od, ha, hz.1, ?_, ?_⟩
  · unfold PySem.W.notCls
    rw [hv]
  · rw [hz.2]
    exact ho
theorem call_isX {fI : Addr} {n : Str} (T : ErrC X.K D fI n) (hz : Zc cls d oe) (hf : ∃ vs, oe.data = .fields vs) : CallR (X.suite a ((a, oe) :: pn)) (.builtin "isinstance") (rIsX X.K D a cls d) := by
  intro pins s σ H xs us Q I r h
  obtain ⟨rfl, c, cv, b, dd, fs, rfl, hc, rfl, hdd, e, q⟩ := h
  obtain ⟨u1, u2, rfl, r1, r2⟩ := vals2 r
  cases (show u1 = Value.ref a from r1)
  obtain rfl := hc.eq r2
  obtain ⟨od, J⟩ := inst_at hz hf I hdd
  exact PySem.W.kia_one (PySem.W.kitx_exc T.cl T.xf.ga T.xf.gg T.xf.exC T.ha T.hn T.tk T.hm) I.kIn J e (fun z => nomatch z) fun tk => ⟨.bl b, H, I.tok tk, rfl, q⟩
end
abbrev sInv : Stmt := inClass (topS 2) 0
abbrev sUnk : Stmt := inClass (topS 3) 0
theorem scInv : FnScope ["self", "what"] ["self", "what"] (defScope sInv) := ⟨rfl, rfl, rfl, by decide +kernel, rfl, by decide +kernel, by decide +kernel⟩
theorem scUnk : FnScope ["self", "name"] ["self", "name"] (defScope sUnk) := ⟨rfl, rfl, rfl, by decide +kernel, rfl, by decide +kernel, by decide +kernel⟩
abbrev wWhat : Str := ("what" : String)
abbrev wName : Str := ("name" : String)
abbrev wTable : Str := ("table" : String)
abbrev wLanes : Str := ("_lanes" : String)
/-- a method of the text -/
structure Mm (K : PySem.W.Frag) (x qual : Str) (st : Stmt) (ps : List Str) (f : Addr) (fd : FuncData) : Prop where
  F : Fun K x qual st f fd
  b : Binds K fd ps []
section
variable {P : Program} {w : World} {K : PySem.W.Frag} {mg : Str → Option Value} {base : Heap}
theorem ok_inv {f : Addr} {fd : FuncData} {k : Nat} (F : Fun K "__init__" "Invalid.__init__" sInv f fd) : FnOk P w K mg base CX0 (k + 1) f fd ["self", "what"] (spErr K wWhat) := by
  refine F.ok scInv (fun vs H Q E h => ?_) (fun cdv A outer s H vs Q E hr h => ?_)
  · obtain ⟨a, C, v, rfl, _⟩ := h
    rfl
  · obtain ⟨a, C, v, rfl, ox, no, ha, q⟩ := h
    refine ⟨_, pss_one (ps_ost (pv 0) (pv 1)), ?_⟩
    exact ⟨v, rfl, .ref a, rfl, a, C, rfl, ox, no, .inl ⟨ha, fun dx nd da => q dx nd da⟩⟩
theorem ok_unk {f : Addr} {fd : FuncData} {k : Nat} (F : Fun K "__init__" "Unknown.__init__" sUnk f fd) : FnOk P w K mg base CX0 (k + 1) f fd ["self", "name"] (spErr K wName) := by
  refine F.ok scUnk (fun vs H Q E h => ?_) (fun cdv A outer s H vs Q E hr h => ?_)
  · obtain ⟨a, C, v, rfl, _⟩ := h
    rfl
  · obtain ⟨a, C, v, rfl, ox, no, ha, q⟩ := h
    refine ⟨_, pss_one (ps_ost (pv 0) (pv 1)), ?_⟩
    exact ⟨v, rfl, .ref a, rfl, a, C, rfl, ox, no, .inl ⟨ha, fun dx nd da => q dx nd da⟩⟩
/-- the class Invalid and its __init__ -/
structure EInv (K : PySem.W.Frag) (mg : Str → Option Value) (C fI : Addr) (fdI : FuncData) : Prop where
  T : ErrC K C fI wWhat
  M : Mm K "__init__" "Invalid.__init__" sInv ["self", "what"] fI fdI
  g : mg "Invalid" = some (.ref C)
/-- the class Unknown and its __init__ -/
structure EUnk (K : PySem.W.Frag) (mg : Str → Option Value) (C fI : Addr) (fdI : FuncData) : Prop where
  T : ErrC K C fI wName
  M : Mm K "__init__" "Unknown.__init__" sUnk ["self", "name"] fI fdI
  g : mg "Unknown" = some (.ref C)
end
/-! ### heaps -/
def But (p : Addr) (H H' : Hp) : Prop := ∀ b o, H b = some o → b ≠ p → H' b = some o
theorem But.refl (p : Addr) (H : Hp) : But p H H := fun _ _ h _ => h
theorem But.trans {p : Addr} {H H1 H2 : Hp} (a : But p H H1) (b : But p H1 H2) : But p H H2 := fun c o h n => b c o (a c o h n) n
theorem But.upd {p : Addr} {H : Hp} {o : HO} : But p H (upd H p o) := fun b x e n => by rw [upd_ne n]; exact e
theorem Same.but {p : Addr} {H H' : Hp} (h : Same H H') : But p H H' := fun b o e _ => h b o e
/-! ### rows -/
def Good (ps : List Pr) : Prop := (∀ p ∈ ps, isAddr p.1 = true ∧ isLane p.2 = true) ∧ (ps.map Prod.fst).Nodup
def ok1 (kvs : Kvs) (p : Pr) : Bool := isAddr p.1 && isLane p.2 && (valV kvs (Sum.inr p.1)).isNone
theorem valV_kvP (k : Str) : ∀ ps : List Pr, (valV (kvP ps) (Sum.inr k)).isSome = true ↔ k ∈ ps.map Prod.fst
  | [] => by simp [kvP, valV]
  | p :: ps => by
    have ih := valV_kvP k ps
    by_cases c : p.1 = k
    · rw [show kvP (p :: ps) = (Sum.inr p.1, V.str p.2) :: kvP ps from rfl, valV_pos (by rw [c])]
      simp [c]
    · rw [show kvP (p :: ps) = (Sum.inr p.1, V.str p.2) :: kvP ps from rfl, valV_neg (by simpa using c), ih]
      simp [c, Ne.symm c, eq_comm]
theorem good_snoc {ps : List Pr} {p : Pr} (h : Good ps) (c : ok1 (kvP ps) p = true) : Good (ps ++ [p]) := by
  unfold ok1 at c
  rw [Bool.and_eq_true, Bool.and_eq_true] at c
  obtain ⟨⟨c1, c2⟩, c3⟩ := c
  refine ⟨fun q hq => ?_, ?_⟩
  · rcases List.mem_append.mp hq with hq | hq
    · exact h.1 q hq
    · cases List.mem_singleton.mp hq
      exact ⟨c1, c2⟩
  · rw [List.map_append, List.nodup_append]
    refine ⟨h.2, by simp, fun x hx y hy e => ?_⟩
    subst e
    rw [List.map_singleton, List.mem_singleton] at hy
    subst hy
    have := (valV_kvP p.1 ps).mpr hx
    rw [Option.isNone_iff_eq_none] at c3
    rw [c3] at this
    cases this
theorem good_ok {ps qs : List Pr} {p : Pr} (h : Good (ps ++ p :: qs)) : ok1 (kvP ps) p = true := by
  obtain ⟨h1, h2⟩ := h
  have a := h1 p (List.mem_append_right _ List.mem_cons_self)
  unfold ok1
  rw [a.1, a.2, Bool.true_and, Bool.true_and, Option.isNone_iff_eq_none]
  cases e : valV (kvP ps) (Sum.inr p.1) with
  | none => rfl
  | some v =>
    exfalso
    have m := (valV_kvP p.1 ps).mp (by rw [e]; rfl)
    rw [List.map_append, List.nodup_append] at h2
    exact h2.2.2 _ m _ (by simp) rfl
theorem put_snoc {ps : List Pr} {p : Pr} (c : ok1 (kvP ps) p = true) : putK (kvP ps) (Sum.inr p.1) (V.str p.2) = kvP (ps ++ [p]) := by
  unfold ok1 at c
  rw [Bool.and_eq_true] at c
  rw [putK_new _ (Option.isNone_iff_eq_none.mp c.2)]
  unfold kvP
  rw [List.map_append]
  rfl
end Tb

set_option Elab.async false
set_option linter.all false
set_option maxRecDepth 100000
namespace Tb
open PySem PySem.Spec PyProof.Rows L2
open PySem.W (TotalLe dataLe)
/-! ### the order of the rows -/
def sLt (a b : Str) : Bool := decide (a.cps.toList < b.cps.toList)
theorem sLt_tri {a b : Str} (h1 : sLt a b = false) (h2 : sLt b a = false) : a = b := by
  have h1 : ¬ a.cps.toList < b.cps.toList := of_decide_eq_false h1
  have h2 : ¬ b.cps.toList < a.cps.toList := of_decide_eq_false h2
  have e : a.cps.toList = b.cps.toList := List.le_antisymm (List.not_lt.mp h2) (List.not_lt.mp h1)
  cases a; cases b
  simp only at e
  congr 1
  exact Array.ext' e
theorem lt2 (a b : Pr) : PySem.W.dataLt (enc2 a) (enc2 b) = if a.1 = b.1 then sLt a.2 b.2 else sLt a.1 b.1 := by
  have q : ∀ x y : Str, PyData.eqv (.str x) (.str y) = decide (x = y) := fun x y => by rw [PyData.eqv]; exact Bool.beq_eq_decide_eq x y
  unfold enc2
  rw [PySem.W.dataLt_pair (by simp [PySem.W.alike]) (by simp [PySem.W.alike]), q, q, PySem.W.dataLt_str, PySem.W.dataLt_str]
  by_cases c : a.1 = b.1
  · rw [if_pos (decide_eq_true c), if_pos c]
    by_cases c2 : a.2 = b.2
    · rw [if_pos (decide_eq_true c2), c2]
      exact (decide_eq_false (List.lt_irrefl _)).symm
    · rw [if_neg (by simpa using c2)]
      rfl
  · rw [if_neg (by simpa using c), if_neg c]
    rfl
theorem le2_eq (a b : Pr) : le2 a b = !(if b.1 = a.1 then sLt b.2 a.2 else sLt b.1 a.1) := by
  unfold le2
  rw [PySem.W.dataLe_eq]
  show (!PySem.W.dataLt (enc2 b) (enc2 a)) = _
  rw [lt2]
theorem le1_eq (a b : Str) : le1 a b = !sLt b a := by
  unfold le1
  rw [PySem.W.dataLe_eq]
  show (!PySem.W.dataLt (.str b) (.str a)) = _
  rw [PySem.W.dataLt_str]
  rfl
theorem le2_total : TotalLe le2 := by
  unfold le2 dataLe
  exact PySem.W.sortLe_total _ _ _
theorem le2_anti {a b : Pr} (h1 : le2 a b = true) (h2 : le2 b a = true) : a = b := by
  rw [le2_eq, Bool.not_eq_true'] at h1 h2
  by_cases c : a.1 = b.1
  · rw [if_pos c.symm] at h1
    rw [if_pos c] at h2
    exact Prod.ext c (sLt_tri h2 h1)
  · rw [if_neg (Ne.symm c)] at h1
    rw [if_neg c] at h2
    exact absurd (sLt_tri h2 h1) c
/-- the sorted list is one -/
theorem sort_perm {ps qs : List Pr} (h : ps.Perm qs) : ps.mergeSort le2 = qs.mergeSort le2 := by
  refine List.Perm.eq_of_pairwise (le := fun a b => le2 a b = true) (fun a b _ _ h1 h2 => le2_anti h1 h2) (PySem.W.sort_pairwise le2_total ps) (PySem.W.sort_pairwise le2_total qs) ?_
  exact ((List.mergeSort_perm ps le2).trans h).trans (List.mergeSort_perm qs le2).symm
/-- the first parts of the sorted rows are the sorted first parts -/
theorem sort_keys {ps : List Pr} (h : (ps.map Prod.fst).Nodup) : (ps.mergeSort le2).map Prod.fst = (ps.map Prod.fst).mergeSort le1 := by
  refine PySem.W.sort_maps (r := le2) (s := le1) Prod.fst fun a ha b hb => ?_
  rw [le2_eq, le1_eq]
  by_cases c : b.1 = a.1
  · have e : a = b := by
      have := List.pairwise_map.mp h
      exact Classical.byContradiction fun n => by
        have : ∀ (l : List Pr), l.Pairwise (fun x y => x.1 ≠ y.1) → ∀ x ∈ l, ∀ y ∈ l, x.1 = y.1 → x = y := by
          intro l hl
          induction hl with
          | nil => intro x hx; cases hx
          | cons h1 _ ih =>
            intro x hx y hy e
            rcases List.mem_cons.mp hx with rfl | hx
            · rcases List.mem_cons.mp hy with rfl | hy
              · rfl
              · exact absurd e (h1 y hy)
            · rcases List.mem_cons.mp hy with e2 | hy
              · rw [e2] at e; exact absurd e.symm (h1 x hx)
              · exact ih x hx y hy e
        exact n (this ps (List.pairwise_map.mp h) a ha b hb c.symm)
    rw [if_pos c, e]
    unfold sLt
    rw [decide_eq_false (List.lt_irrefl _), decide_eq_false (List.lt_irrefl _)]
  · rw [if_neg c]
theorem valV_mem {ps : List Pr} (h : (ps.map Prod.fst).Nodup) {p : Pr} (hp : p ∈ ps) : valV (kvP ps) (Sum.inr p.1) = some (.str p.2) := by
  induction ps with
  | nil => cases hp
  | cons q ps ih =>
    rw [List.map_cons, List.nodup_cons] at h
    show valV ((Sum.inr q.1, V.str q.2) :: kvP ps) _ = _
    rcases List.mem_cons.mp hp with rfl | hp
    · rw [valV_pos rfl]
    · rw [valV_neg, ih h.2 hp]
      intro e
      have e2 : q.1 = p.1 := Sum.inr.inj e
      exact h.1 (List.mem_map.mpr ⟨p, hp, e2.symm⟩)
theorem nodup_sort {ps : List Pr} (h : (ps.map Prod.fst).Nodup) : ((ps.mergeSort le2).map Prod.fst).Nodup := ((List.mergeSort_perm ps le2).map Prod.fst).nodup_iff.mpr h
theorem mem_sort {ps : List Pr} {p : Pr} : p ∈ ps.mergeSort le2 ↔ p ∈ ps := List.mem_mergeSort
theorem len_sort {ps : List Pr} : (ps.mergeSort le2).length = ps.length := List.length_mergeSort _
end Tb

set_option Elab.async false
set_option linter.all false
set_option maxRecDepth 100000
namespace Tb
open PySem PySem.Spec PyProof.Rows L2
abbrev sTInit : Stmt := inClass (topS 18) 0
theorem scTInit : FnScope ["self", "rows", "lanes", "prefix", "lane"] ["self", "rows"] (defScope sTInit) := ⟨rfl, rfl, rfl, by decide +kernel, rfl, by decide +kernel, by decide +kernel⟩
/-- rows in a list (lst) or a tuple: pairs of texts -/
structure RowsAt (H : Hp) (r : Addr) (lst : Bool) (ts : List (Addr × Pr)) : Prop where
  l : H r = some (if lst = true then .lst (ts.map fun t => V.ref t.1) else .tup (ts.map fun t => V.ref t.1))
  t : ∀ t ∈ ts, H t.1 = some (.tup [.str t.2.1, .str t.2.2])
  n : ts.length ≤ 1000
  z : ∀ t ∈ ts, t.2.1.length ≤ 1000 ∧ t.2.2.length ≤ 1000
theorem RowsAt.same {H H' : Hp} {r : Addr} {l : Bool} {ts : List (Addr × Pr)} (R : RowsAt H r l ts) (h : Same H H') : RowsAt H' r l ts := ⟨h _ _ R.l, fun t ht => h _ _ (R.t t ht), R.n, R.z⟩
def spInit (C CI : Addr) : Sp := fun vs H Q E => ∃ (x dx r : Addr) (lst : Bool) (ts : List (Addr × Pr)), vs = [.ref x, .ref r] ∧ H x = some (.ins C dx []) ∧ RowsAt H r lst ts ∧
  (Good (ts.map (·.2)) → ∀ d H', But x H H' → H d = none → H' x = some (.ins C dx [(wLanes, .ref d)]) → H' d = some (.dK (kvP ((ts.map (·.2)).mergeSort le2))) → Q .non H') ∧
  (¬ Good (ts.map (·.2)) → ∀ e H', Same H H' → H' e = some (.xd [(wWhat, .str wTable)]) → E (.ref CI) (some e) H')
/-- of the class Table itself -/
structure TCls (K : PySem.W.Frag) (C : Addr) : Prop where
  c : Cls K C
  no : NoAttr K C wLanes
section
variable {P : Program} {w : World} {K : PySem.W.Frag} {mg : Str → Option Value} {base : Heap}
theorem kvP_take {ps : List Pr} {i : Nat} : (kvP ps).take i = kvP (ps.take i) := by
  unfold kvP
  rw [List.map_take]
theorem kvP_len {ps : List Pr} : (kvP ps).length = ps.length := by
  unfold kvP
  rw [List.length_map]
end
end Tb

set_option Elab.async false
set_option linter.all false
set_option maxRecDepth 100000
namespace Tb
open PySem PySem.Spec PyProof.Rows L2
/-- a dict comprehension over a walk: Pv by the turn and the heap (the new dict at D within) -/
theorem dc_it {J : It} {n : Nat} {G : Hp → Prop} {Y : Nat → Hp → V → Hp → Prop} (w : Walk J n G Y) {g : TG} {tt : TT} {tk tv : TE} {vs : List Nat} {σ : L2.St} {H1 : Hp} {D : Addr} {Qd : Hp → Prop} (Pv : Nat → Hp → Prop) (h0 : Pv 0 (upd H1 D (.dK []))) (hG : ∀ i H, i ≤ n → Pv i H → G H)
    (hs : ∀ i x H H', i < n → Pv i H → Y i H x H' → g x (wipe σ vs) H' fun σ2 H2 => wipe σ2 vs = wipe σ vs ∧ tt σ2 H2 fun b H3 =>
      if b = true then tk σ2 H3 fun y H4 => tv σ2 H4 fun z H5 => ∃ kvs k, y = kV k ∧ H5 D = some (.dK kvs) ∧ kvs.length < sizeLine ∧ Pv (i + 1) (upd H5 D (.dK (putK kvs k z))) else Pv (i + 1) H3) (hd : ∀ H, Pv n H → Qd H) :
    ∃ W : Nat → Nat → Hp → Prop, (∃ m, W 0 m (upd H1 D (.dK []))) ∧ ∀ i m H, W i m H →
      (J.stop i H ∧ Qd H) ∨ (J.go i H ∧ ∃ Nx : Hp → Prop, (∀ H', Nx H' → ∃ m', m' < m ∧ W (i + 1) m' H') ∧ ∀ x H', J.yld i H x H' → g x (wipe σ vs) H' fun σ2 H2 => wipe σ2 vs = wipe σ vs ∧ tt σ2 H2 fun b H3 =>
        if b = true then tk σ2 H3 fun y H4 => tv σ2 H4 fun z H5 => ∃ kvs k, y = kV k ∧ H5 D = some (.dK kvs) ∧ kvs.length < sizeLine ∧ Nx (upd H5 D (.dK (putK kvs k z))) else Nx H3) := by
  refine ⟨fun i m H => m = n - i ∧ i ≤ n ∧ Pv i H, ⟨n, by simp, Nat.zero_le _, h0⟩, ?_⟩
  rintro i m H ⟨rfl, hi, p⟩
  have q := hG i H hi p
  by_cases hlt : i < n
  · exact .inr ⟨w.goes i H hlt q, Pv (i + 1), fun H' p' => ⟨n - (i + 1), by omega, rfl, hlt, p'⟩, fun x H' y => hs i x H H' hlt p (w.yields i H x H' hlt q y)⟩
  · have e : i = n := by omega
    subst e
    exact .inl ⟨w.stops H q, hd H p⟩
theorem good_nil : Good [] := ⟨fun p hp => (List.not_mem_nil hp).elim, List.nodup_nil⟩
/-- the sorted keys with their rows -/
theorem sorted_take {ps : List Pr} (h : (ps.map Prod.fst).Nodup) {i : Nat} {k : Str} (hk : ((ps.map Prod.fst).mergeSort le1)[i]? = some k) :
    ∃ p, (ps.mergeSort le2)[i]? = some p ∧ p.1 = k ∧ valV (kvP ps) (Sum.inr k) = some (.str p.2) ∧ valV (kvP ((ps.mergeSort le2).take i)) (Sum.inr k) = none := by
  rw [← sort_keys h, List.getElem?_map] at hk
  cases e : (ps.mergeSort le2)[i]? with
  | none => rw [e] at hk; cases hk
  | some p =>
    rw [e] at hk
    have ek : p.1 = k := Option.some.inj hk
    subst ek
    have m : p ∈ ps := mem_sort.mp (List.mem_of_getElem? e)
    refine ⟨p, rfl, rfl, valV_mem h m, ?_⟩
    cases e2 : valV (kvP ((ps.mergeSort le2).take i)) (Sum.inr p.1) with
    | none => rfl
    | some v =>
      exfalso
      have mm := (valV_kvP p.1 _).mp (by rw [e2]; rfl)
      have nd := nodup_sort h
      obtain ⟨q, hq, eq⟩ := List.mem_map.mp mm
      obtain ⟨j, hj⟩ := List.mem_iff_getElem?.mp hq
      rw [List.getElem?_take] at hj
      by_cases hji : j < i
      · rw [if_pos hji] at hj
        have a1 : ((ps.mergeSort le2).map Prod.fst)[j]? = some p.1 := by rw [List.getElem?_map, hj, ← eq]; rfl
        have a2 : ((ps.mergeSort le2).map Prod.fst)[i]? = some p.1 := by rw [List.getElem?_map, e]; rfl
        obtain ⟨l1, g1⟩ := List.getElem?_eq_some_iff.mp a1
        obtain ⟨l2, g2⟩ := List.getElem?_eq_some_iff.mp a2
        have np := List.pairwise_iff_getElem.mp nd j i l1 l2 hji
        exact np (g1.trans g2.symm)
      · rw [if_neg hji] at hj
        cases hj
section
variable {P : Program} {w : World} {K : PySem.W.Frag} {mg : Str → Option Value} {base : Heap}
theorem ok_init {f gA gL gI C CI : Addr} {fd gdA gdL gdI : FuncData} (F : Fun K "__init__" "Table.__init__" sTInit f fd) (B : Blt mg) (T : TCls K C) (R : EInv K mg CI gI gdI)
    (DA : Dd K mg "is_address" sIsAddr ["text"] gA gdA) (GA : FnOk P w K mg base CX0 3 gA gdA ["text"] (spT isAddr)) (DL : Dd K mg "_is_lane" sIsLane ["text"] gL gdL) (GL : FnOk P w K mg base CX0 3 gL gdL ["text"] (spT isLane)) :
    FnOk P w K mg base (L2.CX P w) 4 f fd ["self", "rows"] (spInit C CI) := by
  have GE : FnOk P w K mg base CX0 1 gI gdI ["self", "what"] (spErr K wWhat) := ok_inv R.M.F
  refine F.okX scTInit (fun vs H Q E h => ?_) (fun cdv A outer s H vs Q E hr h => ?_)
  · obtain ⟨x, dx, r, lst, ts, rfl, _⟩ := h
    rfl
  · obtain ⟨x, dx, r, lst, ts, rfl, hx, hR, qG, qB⟩ := h
    have hu := hu_of hr
    have hr2 : Room 2 _ := hr.mono (show 2 ≤ 3 by decide)
    have hz : sizeLine = 16777216 := rfl
    generalize eps : ts.map (·.2) = ps at qG qB
    have lps : ps.length = ts.length := by rw [← eps, List.length_map]
    cases lst with
    | true =>
      refine ⟨_, pss_cons (ps_set (i := 2) scTInit.nd rfl (.inr rfl) pe_dnewK)
        (pss_cons (ps_for (passes_of rfl) rfl (pi_list (pv 1)) (pg_tup rfl (pgs_cons (pg_name (i := 3) scTInit.nd rfl (.inl rfl)) (pgs_cons (pg_name (i := 4) scTInit.nd rfl (.inl rfl)) pgs_nil)))
          (pss_cons (ps_if (PW.pt (pw_or (pt_not (pt_val (pe_call GA hr (by rfl) DA.g DA.F.kp DA.b .nil pass0 (pa_cons (pv 3) pa_nil))))
            (pw_or (pt_not (pt_val (pe_call GL hr (by rfl) DL.g DL.F.kp DL.b .nil pass0 (pa_cons (pv 4) pa_nil)))) (pw_or1 (pt_cmp (pc_din hu (pv 3) (pv 2)))))))
            (pss_one (ps_raise rfl (takes_of rfl rfl rfl rfl) (pmk_oex R.T.ox R.T.iC R.T.tI GE hr2 R.M.b .nil pass0 (by rfl) R.g (pa_cons pe_str pa_nil)))) pss_nil)
          (pss_one (ps_dput hu (pv 2) (pv 3) (pv 4) (by rfl)))))
        (pss_one (ps_fld (pv 0) (pe_dc (own := [("prefix", 3)]) (g := gName 3) (by rfl) scTInit.nd (pi_list (pe_callB (cr_sortedDk rfl hr.units) (by rfl) B.sorted PyProof.Rows.boot_sorted (pa_cons (pv 2) pa_nil)))
          (blkOk_by (N := ["self", "rows", "lanes", "prefix", "lane"]) (sc := defScope sTInit) (by decide +kernel)) (fun _ _ _ _ _ => pg_name (i := 3) scTInit.nd rfl (Or.inl rfl)) (fun _ _ _ _ _ => pts_nil) (fun _ _ _ _ _ => pv 3)
          (fun _ _ _ _ _ => pe_dget hu (pv 2) (pv 3) (fun _ _ => rfl))) (by rfl)))), ?_⟩
      intro D nD
      have S0 : Same H (upd H D (.dK [])) := same_upd nD
      refine ⟨.ref r, rfl, r, rfl, ⟨_, sqOf (S0 _ _ hR.l)⟩, ?_⟩
      refine for_it (walk_list (a := r) (xs := ts.map fun t => V.ref t.1)) (fun i σ H' => ∃ y3 y4, σ = [some (.ref x), some (.ref r), some (.ref D), y3, y4] ∧ Same H H' ∧ H' D = some (.dK (kvP (ps.take i))) ∧ Good (ps.take i))
        ⟨none, none, rfl, S0, upd_same, good_nil⟩ (fun i σ H' _ hP => ?_) (fun i v σ H1 H2 hi hP hy => ?_) (fun σ H1 hP => ?_)
      · obtain ⟨_, _, _, S1, _⟩ := hP
        exact sqOf (S1 _ _ hR.l)
      · obtain ⟨y3, y4, rfl, S1, hD, hg⟩ := hP
        obtain ⟨rfl, ev⟩ := hy
        rw [List.getElem?_map] at ev
        cases et : ts[i]? with
        | none => rw [et] at ev; cases ev
        | some t =>
        rw [et] at ev
        cases (Option.some.inj ev)
        have mt : t ∈ ts := List.mem_of_getElem? et
        have ep : ps[i]? = some t.2 := by rw [← eps, List.getElem?_map, et]; rfl
        have li : i < ps.length := (List.getElem?_eq_some_iff.mp ep).1
        have spl : ps = ps.take i ++ t.2 :: ps.drop (i + 1) := by
          have e1 := (List.getElem?_eq_some_iff.mp ep).2
          rw [← e1, ← List.drop_eq_getElem_cons li, List.take_append_drop]
        have bad : ok1 (kvP (ps.take i)) t.2 = false → ¬ Good ps := fun e g => by
          rw [spl] at g
          rw [good_ok g] at e
          cases e
        refine ⟨t.1, _, rfl, .of (S1 _ _ (hR.t t mt)), rfl, .str t.2.1, _, rfl, .str t.2.2, _, rfl, rfl, ?_⟩
        have z := hR.z t mt
        refine ⟨.str t.2.1, rfl, t.2.1, rfl, z.1, fun H3 S3 => ⟨_, rfl, ?_⟩⟩
        have raise : ∀ H3, Same H2 H3 → ok1 (kvP (ps.take i)) t.2 = false → ∀ a, H3 a = none → spErr K wWhat [.ref a, .str wTable] (upd H3 a (exo a CI none)) (fun u H4 => u = .non ∧ ∃ (d : Addr) (fs : List (Str × V)), H4 a = some (exo a CI (some d)) ∧ H4 d = some (exd d fs) ∧ H3 d = none ∧ E (.ref CI) (some d) (upd (del H4 a) d (.xd fs))) (fun _ _ _ => False) :=
          fun H3 S3 e => err_made R.T (Q := E) fun d H4 S4 hd => qB (bad e) d H4 ((S1.trans S3).trans S4) hd
        cases eA : isAddr t.2.1 with
        | false => exact ⟨by decide, raise H3 S3 (by unfold ok1; rw [eA]; rfl)⟩
        | true =>
        refine ⟨.str t.2.2, rfl, t.2.2, rfl, z.2, fun H4 S4 => ⟨_, rfl, ?_⟩⟩
        cases eL : isLane t.2.2 with
        | false => exact ⟨by decide, raise H4 (S3.trans S4) (by unfold ok1; rw [eA, eL]; rfl)⟩
        | true =>
        have hD4 := S4 _ _ (S3 _ _ hD)
        refine ⟨.str t.2.1, rfl, .ref D, rfl, D, _, rfl, DGet.k (k := Sum.inr t.2.1) hD4, _, rfl, ?_⟩
        cases eV : (valV (kvP (ps.take i)) (Sum.inr t.2.1)).isSome with
        | true => exact ⟨by decide, raise H4 (S3.trans S4) (by unfold ok1; rw [eA, eL, Option.isNone_eq_false_iff.mpr eV]; rfl)⟩
        | false =>
        have ok : ok1 (kvP (ps.take i)) t.2 = true := by
          unfold ok1
          rw [eA, eL]
          exact Option.isNone_iff_eq_none.mpr (Option.isSome_eq_false_iff.mp eV |> Option.isNone_iff_eq_none.mp)
        refine ⟨.str t.2.2, rfl, .ref D, rfl, .str t.2.1, rfl, D, _, rfl, DPut.k (k := Sum.inr t.2.1) hD4 (by rw [kvP_len, List.length_take]; have := hR.n; omega), ?_⟩
        have tk : ps.take (i + 1) = ps.take i ++ [t.2] := by rw [List.take_add_one, ep]; rfl
        refine ⟨_, _, rfl, ?_, ?_, ?_⟩
        · exact fun b o hb => by rw [upd_ne (ne_of_none hb nD)]; exact S4 _ _ (S3 _ _ (S1 _ _ hb))
        · rw [upd_same, put_snoc ok, tk]
        · rw [tk]
          exact good_snoc hg ok
      · obtain ⟨y3, y4, rfl, S1, hD, hg⟩ := hP
        rw [List.length_map, ← lps, List.take_length] at hD hg
        refine ⟨.ref D, rfl, D, _, ps.map Prod.fst, rfl, .of hD, kvP_keys ps, by rw [List.length_map, lps]; exact hR.n, fun p np => ⟨p, rfl, ⟨_, sqOf upd_same⟩, fun D2 nD2 => ?_⟩⟩
        have nD2p : p ≠ D2 := fun e => by rw [e, upd_same] at nD2; cases nD2
        have nD2' : H1 D2 = none := by rw [upd_ne (Ne.symm nD2p)] at nD2; exact nD2
        have nDD : D ≠ D2 := fun e => by rw [e, nD2'] at hD; cases hD
        have nDp : D ≠ p := fun e => by rw [e, np] at hD; cases hD
        refine dc_it (walk_list (a := p) (xs := ((ps.map Prod.fst).mergeSort (PySem.W.dataLe false PyData.str)).map V.str)) (fun i H' => Same H1 H' ∧ H' p = some (.lst (((ps.map Prod.fst).mergeSort (PySem.W.dataLe false PyData.str)).map V.str)) ∧ H' D2 = some (.dK (kvP ((ps.mergeSort le2).take i))))
          ⟨(same_upd np).trans (same_upd nD2), by rw [upd_ne nD2p]; exact upd_same, upd_same⟩ (fun i H' _ hP => sqOf hP.2.1) (fun i v H2 H3 hi hP hy => ?_) (fun H2 hP => ?_)
        · obtain ⟨S2, hp, hD2⟩ := hP
          obtain ⟨rfl, ev⟩ := hy
          rw [List.getElem?_map] at ev
          cases ek : ((ps.map Prod.fst).mergeSort (PySem.W.dataLe false PyData.str))[i]? with
          | none => rw [ek] at ev; cases ev
          | some k =>
          rw [ek] at ev
          cases (Option.some.inj ev)
          obtain ⟨q, eq, rfl, evq, enq⟩ := sorted_take hg.2 ek
          refine ⟨rfl, .str q.1, rfl, .ref D, rfl, .str q.1, rfl, D, .str q.2, rfl, ?_, ?_⟩
          · rw [← evq]
            exact DGet.k (k := Sum.inr q.1) (S2 _ _ hD)
          · refine ⟨_, Sum.inr q.1, rfl, hD2, by rw [kvP_len, List.length_take]; have := hR.n; have := @len_sort ps; omega, ?_, ?_, ?_⟩
            · exact fun b o hb => by rw [upd_ne (ne_of_none hb nD2')]; exact S2 _ _ hb
            · rw [upd_ne nD2p]
              exact hp
            · rw [upd_same, putK_new _ enq, List.take_add_one, eq]
              unfold kvP
              rw [List.map_append]
              rfl
        · obtain ⟨S2, hp, hD2⟩ := hP
          have hl : (((ps.map Prod.fst).mergeSort (PySem.W.dataLe false PyData.str)).map V.str).length = (ps.mergeSort le2).length := by
            rw [List.length_map, List.length_mergeSort, List.length_map, len_sort]
          rw [hl, List.take_length] at hD2
          have hx2 := S2 _ _ (S1 _ _ hx)
          have nDx : x ≠ D2 := fun e => by rw [e] at hx; rw [S1 _ _ hx] at nD2'; cases nD2'
          have HD2 : H D2 = none := by
            cases e : H D2 with
            | none => rfl
            | some o => rw [S1 _ _ e] at nD2'; cases nD2'
          refine ⟨.ref x, rfl, x, C, dx, [], rfl, hx2, T.c, T.no, by decide, ?_⟩
          refine qG hg D2 _ (fun b o hb nb => by rw [upd_ne nb]; exact S2 _ _ (S1 _ _ hb)) HD2 upd_same ?_
          rw [upd_ne (Ne.symm nDx)]
          exact hD2
    | false =>
      refine ⟨_, pss_cons (ps_set (i := 2) scTInit.nd rfl (.inr rfl) pe_dnewK)
        (pss_cons (ps_for (passes_of rfl) rfl (pi_tup (pv 1)) (pg_tup rfl (pgs_cons (pg_name (i := 3) scTInit.nd rfl (.inl rfl)) (pgs_cons (pg_name (i := 4) scTInit.nd rfl (.inl rfl)) pgs_nil)))
          (pss_cons (ps_if (PW.pt (pw_or (pt_not (pt_val (pe_call GA hr (by rfl) DA.g DA.F.kp DA.b .nil pass0 (pa_cons (pv 3) pa_nil))))
            (pw_or (pt_not (pt_val (pe_call GL hr (by rfl) DL.g DL.F.kp DL.b .nil pass0 (pa_cons (pv 4) pa_nil)))) (pw_or1 (pt_cmp (pc_din hu (pv 3) (pv 2)))))))
            (pss_one (ps_raise rfl (takes_of rfl rfl rfl rfl) (pmk_oex R.T.ox R.T.iC R.T.tI GE hr2 R.M.b .nil pass0 (by rfl) R.g (pa_cons pe_str pa_nil)))) pss_nil)
          (pss_one (ps_dput hu (pv 2) (pv 3) (pv 4) (by rfl)))))
        (pss_one (ps_fld (pv 0) (pe_dc (own := [("prefix", 3)]) (g := gName 3) (by rfl) scTInit.nd (pi_list (pe_callB (cr_sortedDk rfl hr.units) (by rfl) B.sorted PyProof.Rows.boot_sorted (pa_cons (pv 2) pa_nil)))
          (blkOk_by (N := ["self", "rows", "lanes", "prefix", "lane"]) (sc := defScope sTInit) (by decide +kernel)) (fun _ _ _ _ _ => pg_name (i := 3) scTInit.nd rfl (Or.inl rfl)) (fun _ _ _ _ _ => pts_nil) (fun _ _ _ _ _ => pv 3)
          (fun _ _ _ _ _ => pe_dget hu (pv 2) (pv 3) (fun _ _ => rfl))) (by rfl)))), ?_⟩
      intro D nD
      have S0 : Same H (upd H D (.dK [])) := same_upd nD
      refine ⟨.ref r, rfl, r, rfl, ⟨_, .of (S0 _ _ hR.l)⟩, ?_⟩
      refine for_it (walk_tup (a := r) (xs := ts.map fun t => V.ref t.1)) (fun i σ H' => ∃ y3 y4, σ = [some (.ref x), some (.ref r), some (.ref D), y3, y4] ∧ Same H H' ∧ H' D = some (.dK (kvP (ps.take i))) ∧ Good (ps.take i))
        ⟨none, none, rfl, S0, upd_same, good_nil⟩ (fun i σ H' _ hP => ?_) (fun i v σ H1 H2 hi hP hy => ?_) (fun σ H1 hP => ?_)
      · obtain ⟨_, _, _, S1, _⟩ := hP
        exact .of (S1 _ _ hR.l)
      · obtain ⟨y3, y4, rfl, S1, hD, hg⟩ := hP
        obtain ⟨rfl, ev⟩ := hy
        rw [List.getElem?_map] at ev
        cases et : ts[i]? with
        | none => rw [et] at ev; cases ev
        | some t =>
        rw [et] at ev
        cases (Option.some.inj ev)
        have mt : t ∈ ts := List.mem_of_getElem? et
        have ep : ps[i]? = some t.2 := by rw [← eps, List.getElem?_map, et]; rfl
        have li : i < ps.length := (List.getElem?_eq_some_iff.mp ep).1
        have spl : ps = ps.take i ++ t.2 :: ps.drop (i + 1) := by
          have e1 := (List.getElem?_eq_some_iff.mp ep).2
          rw [← e1, ← List.drop_eq_getElem_cons li, List.take_append_drop]
        have bad : ok1 (kvP (ps.take i)) t.2 = false → ¬ Good ps := fun e g => by
          rw [spl] at g
          rw [good_ok g] at e
          cases e
        refine ⟨t.1, _, rfl, .of (S1 _ _ (hR.t t mt)), rfl, .str t.2.1, _, rfl, .str t.2.2, _, rfl, rfl, ?_⟩
        have z := hR.z t mt
        refine ⟨.str t.2.1, rfl, t.2.1, rfl, z.1, fun H3 S3 => ⟨_, rfl, ?_⟩⟩
        have raise : ∀ H3, Same H2 H3 → ok1 (kvP (ps.take i)) t.2 = false → ∀ a, H3 a = none → spErr K wWhat [.ref a, .str wTable] (upd H3 a (exo a CI none)) (fun u H4 => u = .non ∧ ∃ (d : Addr) (fs : List (Str × V)), H4 a = some (exo a CI (some d)) ∧ H4 d = some (exd d fs) ∧ H3 d = none ∧ E (.ref CI) (some d) (upd (del H4 a) d (.xd fs))) (fun _ _ _ => False) :=
          fun H3 S3 e => err_made R.T (Q := E) fun d H4 S4 hd => qB (bad e) d H4 ((S1.trans S3).trans S4) hd
        cases eA : isAddr t.2.1 with
        | false => exact ⟨by decide, raise H3 S3 (by unfold ok1; rw [eA]; rfl)⟩
        | true =>
        refine ⟨.str t.2.2, rfl, t.2.2, rfl, z.2, fun H4 S4 => ⟨_, rfl, ?_⟩⟩
        cases eL : isLane t.2.2 with
        | false => exact ⟨by decide, raise H4 (S3.trans S4) (by unfold ok1; rw [eA, eL]; rfl)⟩
        | true =>
        have hD4 := S4 _ _ (S3 _ _ hD)
        refine ⟨.str t.2.1, rfl, .ref D, rfl, D, _, rfl, DGet.k (k := Sum.inr t.2.1) hD4, _, rfl, ?_⟩
        cases eV : (valV (kvP (ps.take i)) (Sum.inr t.2.1)).isSome with
        | true => exact ⟨by decide, raise H4 (S3.trans S4) (by unfold ok1; rw [eA, eL, Option.isNone_eq_false_iff.mpr eV]; rfl)⟩
        | false =>
        have ok : ok1 (kvP (ps.take i)) t.2 = true := by
          unfold ok1
          rw [eA, eL]
          exact Option.isNone_iff_eq_none.mpr (Option.isSome_eq_false_iff.mp eV |> Option.isNone_iff_eq_none.mp)
        refine ⟨.str t.2.2, rfl, .ref D, rfl, .str t.2.1, rfl, D, _, rfl, DPut.k (k := Sum.inr t.2.1) hD4 (by rw [kvP_len, List.length_take]; have := hR.n; omega), ?_⟩
        have tk : ps.take (i + 1) = ps.take i ++ [t.2] := by rw [List.take_add_one, ep]; rfl
        refine ⟨_, _, rfl, ?_, ?_, ?_⟩
        · exact fun b o hb => by rw [upd_ne (ne_of_none hb nD)]; exact S4 _ _ (S3 _ _ (S1 _ _ hb))
        · rw [upd_same, put_snoc ok, tk]
        · rw [tk]
          exact good_snoc hg ok
      · obtain ⟨y3, y4, rfl, S1, hD, hg⟩ := hP
        rw [List.length_map, ← lps, List.take_length] at hD hg
        refine ⟨.ref D, rfl, D, _, ps.map Prod.fst, rfl, .of hD, kvP_keys ps, by rw [List.length_map, lps]; exact hR.n, fun p np => ⟨p, rfl, ⟨_, sqOf upd_same⟩, fun D2 nD2 => ?_⟩⟩
        have nD2p : p ≠ D2 := fun e => by rw [e, upd_same] at nD2; cases nD2
        have nD2' : H1 D2 = none := by rw [upd_ne (Ne.symm nD2p)] at nD2; exact nD2
        have nDD : D ≠ D2 := fun e => by rw [e, nD2'] at hD; cases hD
        have nDp : D ≠ p := fun e => by rw [e, np] at hD; cases hD
        refine dc_it (walk_list (a := p) (xs := ((ps.map Prod.fst).mergeSort (PySem.W.dataLe false PyData.str)).map V.str)) (fun i H' => Same H1 H' ∧ H' p = some (.lst (((ps.map Prod.fst).mergeSort (PySem.W.dataLe false PyData.str)).map V.str)) ∧ H' D2 = some (.dK (kvP ((ps.mergeSort le2).take i))))
          ⟨(same_upd np).trans (same_upd nD2), by rw [upd_ne nD2p]; exact upd_same, upd_same⟩ (fun i H' _ hP => sqOf hP.2.1) (fun i v H2 H3 hi hP hy => ?_) (fun H2 hP => ?_)
        · obtain ⟨S2, hp, hD2⟩ := hP
          obtain ⟨rfl, ev⟩ := hy
          rw [List.getElem?_map] at ev
          cases ek : ((ps.map Prod.fst).mergeSort (PySem.W.dataLe false PyData.str))[i]? with
          | none => rw [ek] at ev; cases ev
          | some k =>
          rw [ek] at ev
          cases (Option.some.inj ev)
          obtain ⟨q, eq, rfl, evq, enq⟩ := sorted_take hg.2 ek
          refine ⟨rfl, .str q.1, rfl, .ref D, rfl, .str q.1, rfl, D, .str q.2, rfl, ?_, ?_⟩
          · rw [← evq]
            exact DGet.k (k := Sum.inr q.1) (S2 _ _ hD)
          · refine ⟨_, Sum.inr q.1, rfl, hD2, by rw [kvP_len, List.length_take]; have := hR.n; have := @len_sort ps; omega, ?_, ?_, ?_⟩
            · exact fun b o hb => by rw [upd_ne (ne_of_none hb nD2')]; exact S2 _ _ hb
            · rw [upd_ne nD2p]
              exact hp
            · rw [upd_same, putK_new _ enq, List.take_add_one, eq]
              unfold kvP
              rw [List.map_append]
              rfl
        · obtain ⟨S2, hp, hD2⟩ := hP
          have hl : (((ps.map Prod.fst).mergeSort (PySem.W.dataLe false PyData.str)).map V.str).length = (ps.mergeSort le2).length := by
            rw [List.length_map, List.length_mergeSort, List.length_map, len_sort]
          rw [hl, List.take_length] at hD2
          have hx2 := S2 _ _ (S1 _ _ hx)
          have nDx : x ≠ D2 := fun e => by rw [e] at hx; rw [S1 _ _ hx] at nD2'; cases nD2'
          have HD2 : H D2 = none := by
            cases e : H D2 with
            | none => rfl
            | some o => rw [S1 _ _ e] at nD2'; cases nD2'
          refine ⟨.ref x, rfl, x, C, dx, [], rfl, hx2, T.c, T.no, by decide, ?_⟩
          refine qG hg D2 _ (fun b o hb nb => by rw [upd_ne nb]; exact S2 _ _ (S1 _ _ hb)) HD2 upd_same ?_
          rw [upd_ne (Ne.symm nDx)]
          exact hD2
end
end Tb

set_option Elab.async false
set_option linter.all false
set_option maxRecDepth 100000
namespace Tb
open PySem PySem.Spec PyProof.Rows L2
/-! ### rows put and dropped: the mirrors -/
def putP (ps : List Pr) (p l : Str) : List Pr := if (ps.any fun q => decide (q.1 = p)) = true then ps.map (fun q => if q.1 = p then (q.1, l) else q) else ps ++ [(p, l)]
def dropP (ps : List Pr) (p : Str) : List Pr := ps.filter fun q => decide (q.1 ≠ p)
/-- after the change -/
def aft (ps : List Pr) (p : Str) : Option Str → List Pr
  | none => dropP ps p
  | some l => putP ps p l
theorem any_kvP (ps : List Pr) (p : Str) : ((kvP ps).any fun kv => decide (kv.1 = Sum.inr p)) = ps.any fun q => decide (q.1 = p) := by
  unfold kvP
  rw [List.any_map]
  congr 1
  funext q
  show decide ((Sum.inr q.1 : Key) = Sum.inr p) = decide (q.1 = p)
  exact decide_eq_decide.mpr ⟨Sum.inr.inj, fun e => by rw [e]⟩
theorem put_kvP (ps : List Pr) (p l : Str) : putK (kvP ps) (Sum.inr p) (V.str l) = kvP (putP ps p l) := by
  unfold putK putP
  rw [any_kvP]
  by_cases c : (ps.any fun q => decide (q.1 = p)) = true
  · rw [if_pos c, if_pos c]
    unfold kvP
    rw [List.map_map, List.map_map]
    refine List.map_congr_left fun q _ => ?_
    show (if (Sum.inr q.1 : Key) = Sum.inr p then ((Sum.inr q.1 : Key), V.str l) else (Sum.inr q.1, V.str q.2)) = (Sum.inr (if q.1 = p then (q.1, l) else q).1, V.str (if q.1 = p then (q.1, l) else q).2)
    by_cases e : q.1 = p
    · rw [if_pos (by rw [e]), if_pos e]
    · rw [if_neg (fun x => e (Sum.inr.inj x)), if_neg e]
  · rw [if_neg c, if_neg c]
    unfold kvP
    rw [List.map_append]
    rfl
theorem drop_kvP (ps : List Pr) (p : Str) : dropK (kvP ps) (Sum.inr p) = kvP (dropP ps p) := by
  unfold dropK dropP kvP
  rw [List.filter_map]
  congr 1
  refine List.filter_congr fun q _ => ?_
  show decide ((Sum.inr q.1 : Key) ≠ Sum.inr p) = decide (q.1 ≠ p)
  exact decide_eq_decide.mpr ⟨fun e x => e (by rw [x]), fun e x => e (Sum.inr.inj x)⟩
theorem any_perm {ps qs : List Pr} (h : ps.Perm qs) (f : Pr → Bool) : ps.any f = qs.any f := by
  rw [Bool.eq_iff_iff, List.any_eq_true, List.any_eq_true]
  exact ⟨fun ⟨x, hx, e⟩ => ⟨x, h.mem_iff.mp hx, e⟩, fun ⟨x, hx, e⟩ => ⟨x, h.mem_iff.mpr hx, e⟩⟩
theorem put_perm {ps qs : List Pr} (h : ps.Perm qs) (p l : Str) : (putP ps p l).Perm (putP qs p l) := by
  unfold putP
  rw [any_perm h]
  by_cases c : (qs.any fun q => decide (q.1 = p)) = true
  · rw [if_pos c, if_pos c]
    exact h.map _
  · rw [if_neg c, if_neg c]
    exact h.append_right _
theorem aft_perm {ps qs : List Pr} (h : ps.Perm qs) (p : Str) (o : Option Str) : (aft ps p o).Perm (aft qs p o) := by
  cases o with
  | none => exact h.filter _
  | some l => exact put_perm h p l
theorem put_keys {ps : List Pr} {p l : Str} (h : (ps.any fun q => decide (q.1 = p)) = true) : (putP ps p l).map Prod.fst = ps.map Prod.fst := by
  unfold putP
  rw [if_pos h, List.map_map]
  refine List.map_congr_left fun q _ => ?_
  show (if q.1 = p then (q.1, l) else q).1 = q.1
  by_cases e : q.1 = p
  · rw [if_pos e]
  · rw [if_neg e]
theorem any_mem {ps : List Pr} {p : Str} : (ps.any fun q => decide (q.1 = p)) = true ↔ p ∈ ps.map Prod.fst := by
  rw [List.any_eq_true, List.mem_map]
  exact ⟨fun ⟨x, hx, e⟩ => ⟨x, hx, of_decide_eq_true e⟩, fun ⟨x, hx, e⟩ => ⟨x, hx, decide_eq_true e⟩⟩
theorem put_nodup {ps : List Pr} {p l : Str} (h : (ps.map Prod.fst).Nodup) : ((putP ps p l).map Prod.fst).Nodup := by
  by_cases c : (ps.any fun q => decide (q.1 = p)) = true
  · rw [put_keys c]
    exact h
  · have c2 : p ∉ ps.map Prod.fst := fun z => c (any_mem.mpr z)
    unfold putP
    rw [if_neg c, List.map_append, List.nodup_append]
    refine ⟨h, by simp, fun x hx y hy e => ?_⟩
    subst e
    rw [List.map_singleton, List.mem_singleton] at hy
    exact c2 (by rw [show x = p from hy] at hx; exact hx)
theorem mem_put {ps : List Pr} {p l : Str} {q : Pr} (h : q ∈ putP ps p l) : q ∈ ps ∨ q = (p, l) := by
  unfold putP at h
  by_cases c : (ps.any fun q => decide (q.1 = p)) = true
  · rw [if_pos c] at h
    obtain ⟨x, hx, e⟩ := List.mem_map.mp h
    by_cases e2 : x.1 = p
    · rw [if_pos e2] at e
      exact .inr (by rw [← e, e2])
    · rw [if_neg e2] at e
      exact .inl (by rw [← e]; exact hx)
  · rw [if_neg c] at h
    rcases List.mem_append.mp h with h | h
    · exact .inl h
    · exact .inr (List.mem_singleton.mp h)
theorem put_mem (ps : List Pr) (p l : Str) : (p, l) ∈ putP ps p l := by
  unfold putP
  by_cases c : (ps.any fun q => decide (q.1 = p)) = true
  · rw [if_pos c]
    obtain ⟨x, hx, e⟩ := List.any_eq_true.mp c
    have e := of_decide_eq_true e
    exact List.mem_map.mpr ⟨x, hx, by rw [if_pos e, e]⟩
  · rw [if_neg c]
    exact List.mem_append_right _ (List.mem_singleton.mpr rfl)
theorem put_good {ps : List Pr} {p l : Str} (h : Good ps) (h1 : isAddr p = true) (h2 : isLane l = true) : Good (putP ps p l) :=
  ⟨fun q hq => by
    rcases mem_put hq with hq | rfl
    · exact h.1 q hq
    · exact ⟨h1, h2⟩, put_nodup h.2⟩
theorem put_bad {ps : List Pr} {p l : Str} (h2 : isLane l = false) : ¬ Good (putP ps p l) := fun g => by
  have := (g.1 _ (put_mem ps p l)).2
  rw [h2] at this
  cases this
theorem drop_good {ps : List Pr} {p : Str} (h : Good ps) : Good (dropP ps p) :=
  ⟨fun q hq => h.1 q (List.mem_filter.mp hq).1, List.Nodup.sublist (List.filter_sublist.map Prod.fst) h.2⟩
theorem drop_len (ps : List Pr) (p : Str) : (dropP ps p).length ≤ ps.length := List.length_filter_le _ _
theorem put_len (ps : List Pr) (p l : Str) : (putP ps p l).length ≤ ps.length + 1 := by
  unfold putP
  by_cases c : (ps.any fun q => decide (q.1 = p)) = true
  · rw [if_pos c, List.length_map]
    omega
  · rw [if_neg c, List.length_append]
    exact Nat.le_refl _
theorem good_perm {ps qs : List Pr} (h : ps.Perm qs) (g : Good ps) : Good qs := ⟨fun p hp => g.1 p (h.mem_iff.mpr hp), (h.map Prod.fst).nodup_iff.mp g.2⟩
theorem good_sort {ps : List Pr} : Good (ps.mergeSort le2) ↔ Good ps := ⟨good_perm (List.mergeSort_perm ps le2), good_perm (List.mergeSort_perm ps le2).symm⟩
theorem addr_len {t : Str} (h : isAddr t = true) : t.length ≤ 8 := by
  unfold isAddr made at h
  rw [Bool.and_eq_true, Bool.and_eq_true] at h
  have := of_decide_eq_true h.1.2
  omega
theorem lane_len {t : Str} (h : isLane t = true) : t.length ≤ 12 := by
  unfold isLane at h
  rw [Bool.or_eq_true] at h
  rcases h with h | h
  · have e := of_decide_eq_true h
    rw [e]
    decide
  · unfold isName made at h
    rw [Bool.and_eq_true, Bool.and_eq_true, Bool.and_eq_true] at h
    have := of_decide_eq_true h.1.1.2
    omega
theorem valV_kvP_eq {ps : List Pr} {k : Str} : valV (kvP ps) (Sum.inr k) = (ps.find? fun q => decide (q.1 = k)).map fun q => V.str q.2 := by
  induction ps with
  | nil => rfl
  | cons p ps ih =>
    show valV ((Sum.inr p.1, V.str p.2) :: kvP ps) _ = _
    by_cases c : p.1 = k
    · rw [valV_pos (by rw [c]), List.find?_cons_of_pos (by exact decide_eq_true c)]
      rfl
    · rw [valV_neg (by intro e; exact c (Sum.inr.inj e)), ih, List.find?_cons_of_neg (by simpa using c)]
/-- a dict's rows in another order say the same -/
theorem valV_perm {ps qs : List Pr} (h : ps.Perm qs) (n : (ps.map Prod.fst).Nodup) (k : Str) : valV (kvP ps) (Sum.inr k) = valV (kvP qs) (Sum.inr k) := by
  by_cases c : k ∈ ps.map Prod.fst
  · obtain ⟨p, hp, e⟩ := List.mem_map.mp c
    subst e
    rw [valV_mem n hp, valV_mem ((h.map Prod.fst).nodup_iff.mp n) (h.mem_iff.mp hp)]
  · have c2 : k ∉ qs.map Prod.fst := fun z => c ((h.map Prod.fst).mem_iff.mpr z)
    have a1 : valV (kvP ps) (Sum.inr k) = none := by
      cases e : valV (kvP ps) (Sum.inr k) with
      | none => rfl
      | some v => exact absurd ((valV_kvP k ps).mp (by rw [e]; rfl)) c
    have a2 : valV (kvP qs) (Sum.inr k) = none := by
      cases e : valV (kvP qs) (Sum.inr k) with
      | none => rfl
      | some v => exact absurd ((valV_kvP k qs).mp (by rw [e]; rfl)) c2
    rw [a1, a2]
theorem lp_congr {kvs kvs' : Kvs} (h : ∀ k : Str, valV kvs (Sum.inr k) = valV kvs' (Sum.inr k)) (a : Str) : ∀ n, lp kvs a n = lp kvs' a n
  | 0 => rfl
  | n + 1 => by
    unfold lp
    rw [h, lp_congr h a n]
theorem laneV_congr {kvs kvs' : Kvs} (h : ∀ k : Str, valV kvs (Sum.inr k) = valV kvs' (Sum.inr k)) (a : Str) : laneV kvs a = laneV kvs' a := by
  unfold laneV long
  rw [lp_congr h]
  cases lp kvs' a a.length with
  | none => rfl
  | some p =>
    show (valV kvs (Sum.inr p)).getD _ = (valV kvs' (Sum.inr p)).getD _
    rw [h]
/-- what the table says of an address -/
theorem laneV_sort {own : List Pr} (n : (own.map Prod.fst).Nodup) (a : Str) : laneV (kvP (own.mergeSort le2)) a = laneV (kvP own) a :=
  laneV_congr (fun k => (valV_perm (List.mergeSort_perm own le2).symm n k).symm) a
end Tb

set_option Elab.async false
set_option linter.all false
set_option maxRecDepth 100000
namespace Tb
open PySem PySem.Spec PyProof.Rows L2
abbrev sTCall : Stmt := inClass (topS 18) 1
abbrev sTLen : Stmt := inClass (topS 18) 3
abbrev sTRows : Stmt := inClass (topS 18) 4
abbrev sTChanged : Stmt := inClass (topS 18) 7
theorem scTCall : FnScope ["self", "address"] ["self", "address"] (defScope sTCall) := ⟨rfl, rfl, rfl, by decide +kernel, rfl, by decide +kernel, by decide +kernel⟩
theorem scTLen : FnScope ["self"] ["self"] (defScope sTLen) := ⟨rfl, rfl, rfl, by decide +kernel, rfl, by decide +kernel, by decide +kernel⟩
theorem scTRows : FnScope ["self"] ["self"] (defScope sTRows) := ⟨rfl, rfl, rfl, by decide +kernel, rfl, by decide +kernel, by decide +kernel⟩
theorem scTChanged : FnScope ["self", "prefix", "lane", "lanes"] ["self", "prefix", "lane"] (defScope sTChanged) := ⟨rfl, rfl, rfl, by decide +kernel, rfl, by decide +kernel, by decide +kernel⟩
/-- at b: a table of these rows -/
structure TabOf (C : Addr) (H : Hp) (b : Addr) (own : List Pr) : Prop where
  ex : ∃ dx d, H b = some (.ins C dx [(wLanes, .ref d)]) ∧ H d = some (.dK (kvP (own.mergeSort le2)))
  g : Good own
  n : own.length ≤ 900
theorem TabOf.same {C : Addr} {H H' : Hp} {b : Addr} {own : List Pr} (T : TabOf C H b own) (h : Same H H') : TabOf C H' b own := by
  obtain ⟨⟨dx, d, h1, h2⟩, g, n⟩ := T
  exact ⟨⟨dx, d, h _ _ h1, h _ _ h2⟩, g, n⟩
theorem TabOf.but {C : Addr} {H H' : Hp} {b p : Addr} {own : List Pr} {xs : List V} (T : TabOf C H b own) (hp : H p = some (.lst xs)) (h : But p H H') : TabOf C H' b own := by
  obtain ⟨⟨dx, d, h1, h2⟩, g, n⟩ := T
  exact ⟨⟨dx, d, h _ _ h1 (fun e => by rw [e, hp] at h1; cases h1), h _ _ h2 (fun e => by rw [e, hp] at h2; cases h2)⟩, g, n⟩
theorem TabOf.perm {C : Addr} {H : Hp} {b : Addr} {own own' : List Pr} (T : TabOf C H b own) (h : own.Perm own') : TabOf C H b own' := by
  obtain ⟨⟨dx, d, h1, h2⟩, g, n⟩ := T
  exact ⟨⟨dx, d, h1, by rw [← sort_perm h]; exact h2⟩, good_perm h g, by rw [← h.length_eq]; exact n⟩
theorem lk1 {f : Str} {v : V} : List.lookup f [(f, v)] = some v := by
  rw [List.lookup_cons, beq_self_eq_true]
/-- Table(rows): from what __init__ says -/
theorem tab_made {C CI : Addr} {H : Hp} {r : Addr} {lst : Bool} {ts : List (Addr × Pr)} {Q : VK} {E : XK} (R : RowsAt H r lst ts) (hn : ts.length ≤ 900)
    (qG : Good (ts.map (·.2)) → ∀ b H', Same H H' → H b = none → TabOf C H' b (ts.map (·.2)) → Q (.ref b) H')
    (qB : ¬ Good (ts.map (·.2)) → ∀ e H', Same H H' → H' e = some (.xd [(wWhat, .str wTable)]) → E (.ref CI) (some e) H') :
    ∀ x dx, H x = none → H dx = none → dx ≠ x → spInit C CI (V.ref x :: ([V.ref r] ++ [])) (upd (upd H dx (.own x)) x (.ins C dx [])) (fun v H2 => v = .non ∧ Q (.ref x) H2) E := by
  intro x dx nx ndx hne
  have S0 : Same H (upd (upd H dx (.own x)) x (.ins C dx [])) := (same_upd ndx).trans (same_upd (by rw [upd_ne (Ne.symm hne)]; exact nx))
  refine ⟨x, dx, r, lst, ts, rfl, upd_same, R.same S0, fun g d H' S nd hx hd => ⟨rfl, ?_⟩, fun g e H' S he => qB g e H' (S0.trans S) he⟩
  refine qG g x H' (fun b o hb => ?_) nx ⟨⟨dx, d, hx, hd⟩, g, by rw [List.length_map]; exact hn⟩
  exact S b o (S0 _ _ hb) (fun e => by rw [e, nx] at hb; cases hb)
section
variable {P : Program} {w : World} {K : PySem.W.Frag} {mg : Str → Option Value} {base : Heap}
/-- __call__ -/
def spTCall (C : Addr) : Sp := fun vs H Q _ => ∃ (b : Addr) (own : List Pr) (a : Str), vs = [.ref b, .str a] ∧ TabOf C H b own ∧ a.length ≤ 1000 ∧ Q (laneV (kvP own) a) H
theorem ok_tcall {f g C : Addr} {fd gd : FuncData} (F : Fun K "__call__" "Table.__call__" sTCall f fd) (D : Dd K mg "_lane" sLane ["lanes", "address"] g gd) (G : FnOk P w K mg base CX0 2 g gd ["lanes", "address"] (spDA laneV)) (T : TCls K C) : FnOk P w K mg base CX0 3 f fd ["self", "address"] (spTCall C) := by
  refine F.ok scTCall (fun vs H Q E h => ?_) (fun cdv A outer s H vs Q E hr h => ?_)
  · obtain ⟨b, own, a, rfl, _⟩ := h
    rfl
  · obtain ⟨b, own, a, rfl, hT, hl, q⟩ := h
    obtain ⟨dx, d, h1, h2⟩ := hT.ex
    refine ⟨_, pss_one (ps_ret (pe_call G hr (by rfl) D.g D.F.kp D.b .nil pass0 (pa_cons (pe_fld (pv 0) (by rfl)) (pa_cons (pv 1) pa_nil)))), ?_⟩
    refine ⟨.ref b, rfl, b, C, dx, _, .ref d, rfl, h1, T.c, T.no, lk1, .str a, rfl, d, _, a, rfl, h2, hl, ?_⟩
    rw [laneV_sort hT.g.2]
    exact q
/-- __len__ -/
def spTLen (C : Addr) : Sp := fun vs H Q _ => ∃ (b : Addr) (own : List Pr), vs = [.ref b] ∧ TabOf C H b own ∧ Q (.int (own.length : Int)) H
theorem ok_tlen {f C : Addr} {fd : FuncData} {k : Nat} (F : Fun K "__len__" "Table.__len__" sTLen f fd) (B : Blt mg) (T : TCls K C) : FnOk P w K mg base CX0 (k + 1) f fd ["self"] (spTLen C) := by
  refine F.ok scTLen (fun vs H Q E h => ?_) (fun cdv A outer s H vs Q E hr h => ?_)
  · obtain ⟨b, own, rfl, _⟩ := h
    rfl
  · obtain ⟨b, own, rfl, hT, q⟩ := h
    obtain ⟨dx, d, h1, h2⟩ := hT.ex
    refine ⟨_, pss_one (ps_ret (pe_callB call_lenD (by rfl) B.len PySem.boot_len (pa_cons (pe_fld (pv 0) (by rfl)) pa_nil))), ?_⟩
    refine ⟨.ref b, rfl, b, C, dx, _, .ref d, rfl, h1, T.c, T.no, lk1, d, _, rfl, h2, ?_⟩
    rw [kvP_len, len_sort]
    exact q
/-- rows -/
def spTRows (C : Addr) : Sp := fun vs H Q _ => ∃ (b : Addr) (own : List Pr), vs = [.ref b] ∧ TabOf C H b own ∧ ∀ (p : Addr) (ts : List (Addr × Pr)) (H' : Hp), Same H H' → H p = none → H' p = some (.lst (ts.map fun t => V.ref t.1)) → (∀ t ∈ ts, H' t.1 = some (.tup [.str t.2.1, .str t.2.2])) → ts.map (·.2) = own.mergeSort le2 → Q (.ref p) H'
/-- the items of a dict of texts -/
theorem items_rows {H' : Hp} : ∀ {as : List Addr} {ps : List Pr}, Paired (fun (t : Addr) (q : Key × V) => H' t = some (.tup [kV q.1, q.2])) as (kvP ps) → ∃ ts : List (Addr × Pr), ts.map Prod.fst = as ∧ ts.map Prod.snd = ps ∧ ∀ t ∈ ts, H' t.1 = some (.tup [.str t.2.1, .str t.2.2])
  | _, [], .nil => ⟨[], rfl, rfl, fun t ht => (List.not_mem_nil ht).elim⟩
  | _, p :: ps, .cons (a := a) h t => by
    obtain ⟨ts, e1, e2, e3⟩ := items_rows t
    exact ⟨(a, p) :: ts, by rw [List.map_cons, e1], by rw [List.map_cons, e2], fun x hx => by
      rcases List.mem_cons.mp hx with rfl | hx
      · exact h
      · exact e3 x hx⟩
theorem ok_trows {f C : Addr} {fd : FuncData} {k : Nat} (F : Fun K "rows" "Table.rows" sTRows f fd) (B : Blt mg) (T : TCls K C) : FnOk P w K mg base CX0 (k + 1) f fd ["self"] (spTRows C) := by
  refine F.ok scTRows (fun vs H Q E h => ?_) (fun cdv A outer s H vs Q E hr h => ?_)
  · obtain ⟨b, own, rfl, _⟩ := h
    rfl
  · obtain ⟨b, own, rfl, hT, q⟩ := h
    obtain ⟨dx, d, h1, h2⟩ := hT.ex
    refine ⟨_, pss_one (ps_ret (LiI.pe_listItems rfl (pe_fld (pv 0) (by rfl)) (by rfl) B.list PyProof.Rows.boot_list)), ?_⟩
    refine ⟨.ref b, rfl, b, C, dx, _, .ref d, rfl, h1, T.c, T.no, lk1, d, _, rfl, h2, fun H' p as S np _ _ hp hpr => ?_⟩
    obtain ⟨ts, e1, e2, e3⟩ := items_rows hpr
    refine q p ts H' S np ?_ e3 e2
    rw [hp, ← e1, List.map_map]
    rfl
end
end Tb

set_option Elab.async false
set_option linter.all false
set_option maxRecDepth 100000
namespace Tb
open PySem PySem.Spec PyProof.Rows L2
/-- what `changed` answers -/
def spTChanged (C CI CU : Addr) : Sp := fun vs H Q E => ∃ (b : Addr) (own : List Pr) (p : Str) (o : Option Str), vs = [.ref b, .str p, oStr o] ∧ TabOf C H b own ∧ own.length < 900 ∧ p.length ≤ 1000 ∧ (∀ l, o = some l → l.length ≤ 1000) ∧
  ((isAddr p = false ∨ ∃ l, o = some l ∧ isLane l = false) → ∀ e H', Same H H' → H' e = some (.xd [(wWhat, .str wTable)]) → E (.ref CI) (some e) H') ∧
  (isAddr p = true → o = none → p ∉ own.map Prod.fst → ∀ e H', Same H H' → H' e = some (.xd [(wName, .str p)]) → E (.ref CU) (some e) H') ∧
  (isAddr p = true → (∀ l, o = some l → isLane l = true) → (o = none → p ∈ own.map Prod.fst) → ∀ b' H', Same H H' → TabOf C H' b' (aft own p o) → Q (.ref b') H')
theorem rows_z {own : List Pr} {p : Str} {o : Option Str} (g : Good own) (hp : p.length ≤ 1000) (ho : ∀ l, o = some l → l.length ≤ 1000) {q : Pr} (hq : q ∈ aft own p o) : q.1.length ≤ 1000 ∧ q.2.length ≤ 1000 := by
  have base : ∀ q ∈ own, q.1.length ≤ 1000 ∧ q.2.length ≤ 1000 := fun q hq => by
    have h := g.1 q hq
    have h1 := addr_len h.1
    have h2 := lane_len h.2
    omega
  cases o with
  | none => exact base q (List.mem_filter.mp hq).1
  | some l =>
    rcases mem_put hq with hq | rfl
    · exact base q hq
    · exact ⟨hp, ho l rfl⟩
theorem aft_len {own : List Pr} {p : Str} {o : Option Str} : (aft own p o).length ≤ own.length + 1 := by
  cases o with
  | none => exact Nat.le_trans (drop_len own p) (Nat.le_succ _)
  | some l => exact put_len own p l
theorem aft_good {own : List Pr} {p : Str} {o : Option Str} (g : Good own) (hp : isAddr p = true) : Good (aft own p o) ↔ ∀ l, o = some l → isLane l = true := by
  cases o with
  | none => exact ⟨fun _ l e => by (cases e), fun _ => drop_good g⟩
  | some l =>
    refine ⟨fun h l' e => ?_, fun h => put_good g hp (h l rfl)⟩
    cases e
    cases e2 : isLane l with
    | true => rfl
    | false => exact absurd h (put_bad e2)
section
variable {P : Program} {w : World} {K : PySem.W.Frag} {mg : Str → Option Value} {base : Heap}
theorem ok_tchanged {f gA gT gI gU C CI CU : Addr} {fd gdA gdT gdI gdU : FuncData} (F : Fun K "changed" "Table.changed" sTChanged f fd) (B : Blt mg) (T : TCls K C) (R : EInv K mg CI gI gdI) (U : EUnk K mg CU gU gdU)
    (DA : Dd K mg "is_address" sIsAddr ["text"] gA gdA) (GA : FnOk P w K mg base CX0 3 gA gdA ["text"] (spT isAddr))
    (MK : Mk K C gT) (gC : mg "Table" = some (.ref C)) (bT : Binds K gdT ["self", "rows"] []) (GT : FnOk P w K mg base (L2.CX P w) 4 gT gdT ["self", "rows"] (spInit C CI)) :
    FnOk P w K mg base (L2.CX P w) 6 f fd ["self", "prefix", "lane"] (spTChanged C CI CU) := by
  have GI : FnOk P w K mg base CX0 1 gI gdI ["self", "what"] (spErr K wWhat) := ok_inv R.M.F
  have GU : FnOk P w K mg base CX0 1 gU gdU ["self", "name"] (spErr K wName) := ok_unk U.M.F
  refine F.okX scTChanged (fun vs H Q E h => ?_) (fun cdv A outer s H vs Q E hr h => ?_)
  · obtain ⟨b, own, p, o, rfl, _⟩ := h
    rfl
  · obtain ⟨b, own, p, o, rfl, hT, hn, hp, ho, qI, qU, qT⟩ := h
    have hu := hu_of hr
    have hr2 : Room 2 _ := hr.mono (show 2 ≤ 5 by decide)
    have hr3 : Room 3 _ := hr.mono (show 3 ≤ 5 by decide)
    obtain ⟨dx, d, h1, h2⟩ := hT.ex
    refine ⟨_, pss_cons (ps_if (pt_not (pt_val (pe_call GA hr3 (by rfl) DA.g DA.F.kp DA.b .nil pass0 (pa_cons (pv 1) pa_nil))))
        (pss_one (ps_raise rfl (takes_of rfl rfl rfl rfl) (pmk_oex R.T.ox R.T.iC R.T.tI GI hr2 R.M.b .nil pass0 (by rfl) R.g (pa_cons pe_str pa_nil)))) pss_nil)
      (pss_cons (ps_set (i := 3) scTChanged.nd rfl (.inl rfl) (pe_callTy call_dictD (by rfl) B.dict PyProof.Rows.boot_dict (pa_cons (pe_fld (pv 0) (by rfl)) pa_nil)))
      (C8.pss_cut (ps_if (pt_cmp (pc_notN (pv 2))) (pss_one (ps_dput hu (pv 3) (pv 1) (pv 2) (by rfl)))
        (pss_one (ps_if (pt_cmp (pc_din hu (pv 1) (pv 3))) (pss_one (ps_ddel (pv 3) (pv 1))) (pss_one (ps_raise rfl (takes_of rfl rfl rfl rfl) (pmk_oex U.T.ox U.T.iC U.T.tI GU hr2 U.M.b .nil pass0 (by rfl) U.g (pa_cons (pv 1) pa_nil)))))))
      (pss_one (ps_ret (pe_make MK GT hr (by rfl) gC bT .nil (passes_call (takes_of rfl rfl rfl rfl) fun _ _ _ _ h => h) (pa_cons (LiI.pe_listItems rfl (pv 3) (by rfl) B.list PyProof.Rows.boot_list) pa_nil)))))), ?_⟩
    refine ⟨.str p, rfl, p, rfl, hp, fun H1 S1 => ⟨_, rfl, ?_⟩⟩
    cases eA : isAddr p with
    | false => exact ⟨by decide, err_made R.T (Q := E) fun e H4 S4 hd => qI (.inl eA) e H4 (S1.trans S4) hd⟩
    | true =>
    refine ⟨.ref b, rfl, b, C, dx, _, .ref d, rfl, S1 _ _ h1, T.c, T.no, lk1, d, _, rfl, .of (S1 _ _ h2), fun D nD => ?_⟩
    have S2 : Same H (upd H1 D (.dK (kvP (own.mergeSort le2)))) := S1.trans (same_upd nD)
    have HD : H D = none := by
      cases e : H D with
      | none => rfl
      | some z => rw [S1 _ _ e] at nD; cases nD
    refine ⟨fun σ' H' => σ' = [some (.ref b), some (.str p), some (oStr o), some (.ref D)] ∧ Same H H' ∧ H' D = some (.dK (kvP (aft (own.mergeSort le2) p o))) ∧ (o = none → p ∈ own.map Prod.fst), ?_, ?_⟩
    · cases o with
      | some l =>
        refine ⟨.str l, rfl, true, rfl, .str l, rfl, .ref D, rfl, .str p, rfl, D, _, rfl, DPut.k (k := Sum.inr p) upd_same ?_, rfl, fun c z hc => ?_, ?_, fun z => by (cases z)⟩
        · rw [kvP_len, len_sort]
          have hz : sizeLine = 16777216 := rfl
          omega
        · rw [upd_ne (ne_of_none hc HD)]
          exact S2 _ _ hc
        · rw [upd_same, put_kvP]
          rfl
      | none =>
        refine ⟨.non, rfl, false, rfl, .str p, rfl, .ref D, rfl, D, _, rfl, DGet.k (k := Sum.inr p) upd_same, _, rfl, ?_⟩
        cases eV : (valV (kvP (own.mergeSort le2)) (Sum.inr p)).isSome with
        | true =>
          have m : p ∈ own.map Prod.fst := ((List.mergeSort_perm own le2).map Prod.fst).mem_iff.mp ((valV_kvP p _).mp eV)
          refine ⟨.ref D, rfl, .str p, rfl, D, _, Sum.inr p, rfl, upd_same, rfl, eV, rfl, fun c z hc => ?_, ?_, fun _ => m⟩
          · rw [upd_ne (ne_of_none hc HD)]
            exact S2 _ _ hc
          · rw [upd_same, drop_kvP]
            rfl
        | false =>
          have m : p ∉ own.map Prod.fst := fun z => by
            have := (valV_kvP p _).mpr (((List.mergeSort_perm own le2).map Prod.fst).mem_iff.mpr z)
            rw [eV] at this
            cases this
          refine ⟨.str p, rfl, (by show 1 ≤ 1000; decide), err_made U.T (Q := E) fun e H4 S4 hd => qU eA rfl m e H4 (S2.trans S4) hd⟩
    · rintro σ' H' ⟨rfl, S3, hD, hm⟩
      refine ⟨.ref D, rfl, D, _, rfl, hD, fun H4 pr as S4 npr _ _ hpr hpd => ?_⟩
      obtain ⟨ts, e1, e2, e3⟩ := items_rows hpd
      have hl : ts.length ≤ 900 := by
        have e4 : ts.length = (aft (own.mergeSort le2) p o).length := by rw [← e2, List.length_map]
        have e5 := @aft_len (own.mergeSort le2) p o
        rw [len_sort] at e5
        omega
      have RA : RowsAt H4 pr true ts := ⟨by rw [hpr, ← e1, List.map_map]; rfl, e3, by omega, fun t ht => rows_z (good_sort.mpr hT.g) hp ho (by rw [← e2]; exact List.mem_map.mpr ⟨t, ht, rfl⟩)⟩
      have S5 : Same H H4 := S3.trans S4
      refine tab_made RA hl (fun g b' H5 S6 nb T5 => ?_) (fun g e H5 S6 he => ?_)
      · rw [e2] at g T5
        have ok := (aft_good (good_sort.mpr hT.g) eA).mp g
        exact qT eA ok hm b' H5 (S5.trans S6) (T5.perm (aft_perm (List.mergeSort_perm own le2) p o))
      · rw [e2] at g
        refine qI (.inr ?_) e H5 (S5.trans S6) he
        refine Classical.byContradiction fun n => g ((aft_good (good_sort.mpr hT.g) eA).mpr fun l el => ?_)
        cases e6 : isLane l with
        | true => rfl
        | false => exact absurd ⟨l, el, e6⟩ n
end
end Tb

set_option Elab.async false
set_option linter.all false
set_option maxRecDepth 100000
namespace Tb
open PySem PySem.Spec PyProof.Rows L2
theorem cut_hi (xs : List V) (k : Nat) : cutV xs none (some (k : Int)) = xs.take k := by
  unfold cutV
  rw [HT.sIx_nat, HT.sIx_none, List.drop_zero, Nat.sub_zero]
  by_cases h : k ≤ xs.length
  · rw [Nat.min_eq_left h]
  · rw [Nat.min_eq_right (by omega), List.take_length, List.take_of_length_le (by omega)]
abbrev sBag : Stmt := topS 20
abbrev sDraw : Stmt := topS 21
theorem scBag : FnScope ["script", "cell"] ["script"] (defScope sBag) := ⟨rfl, rfl, rfl, by decide +kernel, rfl, by decide +kernel, by decide +kernel⟩
theorem scDraw : FnScope ["bag", "size", "cell", "digit", "mixed"] ["bag", "size"] (defScope sDraw) := ⟨rfl, rfl, rfl, by decide +kernel, rfl, by decide +kernel, by decide +kernel⟩
abbrev MM : Int := 2147483647
/-- the bag of the draws -/
def bagL (n c m : Int) (ns : List Int) : HO := .lst (.int n :: .int c :: .int m :: ns.map V.int)
def Bag (H : Hp) (p : Addr) : Prop := ∃ (n c m : Int) (ns : List Int), H p = some (bagL n c m ns) ∧ 0 ≤ c ∧ 0 ≤ m ∧ m < MM ∧ ns.length ≤ 63
theorem Bag.same {H H' : Hp} {p : Addr} (B : Bag H p) (h : Same H H') : Bag H' p := by
  obtain ⟨n, c, m, ns, hp, rest⟩ := B
  exact ⟨n, c, m, ns, h _ _ hp, rest⟩
section
variable {P : Program} {w : World} {K : PySem.W.Frag} {mg : Str → Option Value} {base : Heap}
def spBag (K : PySem.W.Frag) : Sp := fun vs H Q _ => ∃ (a : Addr) (ns : List Int), vs = [.ref a] ∧ SqL K H a (ns.map V.int) ∧ ∀ (p : Addr) (H' : Hp), Same H H' → H p = none → Bag H' p → Q (.ref p) H'
theorem ok_bag {f : Addr} {fd : FuncData} {k : Nat} (F : Fun K "_law_bag" "_law_bag" sBag f fd) (B : Blt mg) : FnOk P w K mg base CX0 (k + 1) f fd ["script"] (spBag K) := by
  refine F.ok scBag (fun vs H Q E h => ?_) (fun cdv A outer s H vs Q E hr h => ?_)
  · obtain ⟨a, ns, rfl, _⟩ := h
    rfl
  · obtain ⟨a, ns, rfl, hS, q⟩ := h
    refine ⟨_, pss_one (ps_ret (pe_op op_cat (pe_lst (pa_cons pe_int (pa_cons pe_int (pa_cons pe_int pa_nil))))
      (pe_lc (own := [("cell", 1)]) (g := gName 1) (by rfl) scBag.nd (pi_list (pe_slice sl_list (pv 0) po_none (po_some pe_int))) (blkOk_by (N := ["script", "cell"]) (sc := defScope sBag) (by decide +kernel)) (fun _ _ _ _ _ => pg_name (i := 1) scBag.nd rfl (Or.inl rfl)) (fun _ _ _ _ _ => pts_nil)
        (fun _ _ _ _ _ => pe_callTy call_int1 (by rfl) B.int PyProof.Rows.boot_int (pa_cons (pv 1) pa_nil))))), ?_⟩
    refine ⟨by show 3 ≤ sizeLine; decide, fun l nl => ?_⟩
    have S1 : Same H (upd H l (.lst [V.int 0, V.int 0, V.int 0])) := same_upd nl
    refine ⟨.ref a, rfl, 63, rfl, a, ns.map V.int, rfl, S1.seq hS, fun p np => ?_⟩
    refine ⟨p, rfl, ⟨_, sqOf upd_same⟩, fun D nD => ?_⟩
    have hl : (upd (upd H l (.lst [V.int 0, V.int 0, V.int 0])) p (.lst (cutV (ns.map V.int) none (some 63)))) l = some (.lst [V.int 0, V.int 0, V.int 0]) := by
      rw [upd_ne (ne_of_none upd_same np)]
      exact upd_same
    have e63 : cutV (ns.map V.int) none (some 63) = (ns.take 63).map V.int := (cut_hi (ns.map V.int) 63).trans List.map_take.symm
    have hp : (upd (upd H l (.lst [V.int 0, V.int 0, V.int 0])) p (.lst (cutV (ns.map V.int) none (some 63)))) p = some (.lst ((ns.take 63).map V.int)) := by rw [upd_same, e63]
    have S2 : Same H (upd (upd H l (.lst [V.int 0, V.int 0, V.int 0])) p (.lst (cutV (ns.map V.int) none (some 63)))) := S1.trans (same_upd np)
    have l63 : (ns.take 63).length ≤ 63 := by rw [List.length_take]; exact Nat.min_le_left _ _
    generalize ns.take 63 = ks at *
    generalize eH : upd (upd H l (.lst [V.int 0, V.int 0, V.int 0])) p (.lst (cutV (ns.map V.int) none (some 63))) = H2 at *
    refine lc_it (walk_list (a := p) (xs := cutV (ns.map V.int) none (some 63))) (fun i H' => Same H2 H' ∧ H' D = some (.lst ((ks.take i).map V.int))) ⟨same_upd nD, upd_same⟩ (fun i H' _ hP => sqOf (by rw [e63]; exact hP.1 _ _ hp)) (fun i v H3 H4 hi hP hy => ?_) (fun H3 hP => ?_)
    · obtain ⟨S3, hD⟩ := hP
      obtain ⟨rfl, ev⟩ := hy
      rw [e63, List.getElem?_map] at ev
      cases ek : ks[i]? with
      | none => rw [ek] at ev; cases ev
      | some k =>
      rw [ek] at ev
      cases (Option.some.inj ev)
      refine ⟨rfl, .int k, rfl, .inl ⟨k, rfl, _, hD, ?_, fun b o hb => by rw [upd_ne (ne_of_none hb nD)]; exact S3 _ _ hb, ?_⟩⟩
      · rw [List.length_map, List.length_take]
        have hz : sizeLine = 16777216 := rfl
        omega
      · rw [upd_same, List.take_add_one, ek, List.map_append]
        rfl
    · obtain ⟨S3, hD⟩ := hP
      rw [e63, List.length_map, List.take_length] at hD
      refine ⟨l, D, _, _, rfl, rfl, S3 _ _ hl, hD, ?_, fun r nr => ?_⟩
      · rw [List.length_map]
        show 3 + ks.length ≤ sizeLine
        have hz : sizeLine = 16777216 := rfl
        omega
      · refine q r _ ((S2.trans S3).trans (same_upd nr)) ((S2.trans S3).free nr) ⟨0, 0, 0, ks, ?_, by decide, by decide, by decide, l63⟩
        rw [upd_same]
        rfl
theorem ixN_nat' {n j : Nat} (hj : j < n) : ixN n (j : Int) = some j := by
  unfold ixN
  rw [if_pos (by omega), if_pos (by omega)]
  rfl
theorem ix0 {a b c : V} {xs : List V} : ixN (a :: b :: c :: xs).length 0 = some 0 := ixN_nat' (n := (a :: b :: c :: xs).length) (j := 0) (by simp)
theorem ix1 {a b c : V} {xs : List V} : ixN (a :: b :: c :: xs).length 1 = some 1 := ixN_nat' (n := (a :: b :: c :: xs).length) (j := 1) (by simp)
theorem ix2 {a b c : V} {xs : List V} : ixN (a :: b :: c :: xs).length 2 = some 2 := ixN_nat' (n := (a :: b :: c :: xs).length) (j := 2) (by simp)
theorem six3 {a b c d : V} {xs : List V} : seqIndex? 3 (a :: b :: c :: d :: xs).length = some 3 := (ixN_seq (ixN_nat' (n := (a :: b :: c :: d :: xs).length) (j := 3) (by simp))).1
/-- `size` at least 1 -/
def spDraw : Sp := fun vs H Q _ => ∃ (p : Addr) (n : Int), vs = [.ref p, .int n] ∧ Bag H p ∧ 0 < n ∧ n < 2 ^ 60 ∧ ∀ (z : Int) (H' : Hp), 0 ≤ z → z < n → Bag H' p → But p H H' → Q (.int z) H'
theorem ok_draw {f : Addr} {fd : FuncData} {k : Nat} (F : Fun K "_law_draw" "_law_draw" sDraw f fd) (B : Blt mg) : FnOk P w K mg base CX0 (k + 1) f fd ["bag", "size"] spDraw := by
  refine F.ok scDraw (fun vs H Q E h => ?_) (fun cdv A outer s H vs Q E hr h => ?_)
  · obtain ⟨p, n, rfl, _⟩ := h
    rfl
  · obtain ⟨p, sz, rfl, hB, hn0, hn, q⟩ := h
    obtain ⟨n, c, m, ns, hp, c0, m0, m1, l63⟩ := hB
    have hz : sizeLine = 16777216 := rfl
    refine ⟨_, pss_cons (ps_asg (pe_op op_add (pe_ix ix_list (pv 0) pe_int (fun _ _ => rfl)) pe_int) (pg_sub (pv 0) pe_int set_list))
      (C8.pss_cut (ps_if (PW.pt (pw_and (pt_cmp (pc_eqI (pe_ix ix_list (pv 0) pe_int (fun _ _ => rfl)) pe_int)) (pw_and1 (pt_cmpR op_gt (pe_callB call_len_seq (by rfl) B.len PySem.boot_len (pa_cons (pv 0) pa_nil)) pe_int (nomark _)))))
        (pss_cons (ps_set (i := 2) scDraw.nd rfl (.inl rfl) (pe_bm PySem.F.plainAttrs_list PySem.F.slot_list_pop PySem.F.type_list_pop mt_popAt (pv 0) (pa_cons pe_int pa_nil)))
        (pss_cons (ps_asg (pe_op op_mod (pe_callTy call_int1 (by rfl) B.int PyProof.Rows.boot_int (pa_cons (pe_op op_add (pe_op op_add (pe_op op_mul (pe_ix ix_list (pv 0) pe_int (fun _ _ => rfl)) pe_int) (pv 2)) pe_int) pa_nil)) pe_int) (pg_sub (pv 0) pe_int set_list))
        (pss_one (ps_if (pt_cmpR op_ge (pv 2) (pe_op op_pow pe_int pe_int) (nomark _)) (pss_one (ps_asg (pv 2) (pg_sub (pv 0) pe_int set_list))) pss_nil)))) pss_nil)
      (pss_cons (ps_if (pt_cmpR op_gt (pe_ix ix_list (pv 0) pe_int (fun _ _ => rfl)) pe_int (nomark _))
        (pss_cons (ps_set (i := 3) scDraw.nd rfl (.inl rfl) (pe_op op_mod (pe_callTy call_int1 (by rfl) B.int PyProof.Rows.boot_int (pa_cons (pe_ix ix_list (pv 0) pe_int (fun _ _ => rfl)) pa_nil)) (pv 1)))
        (pss_cons (ps_asg (pe_op op_fdivW (pe_ix ix_list (pv 0) pe_int (fun _ _ => rfl)) (pv 1)) (pg_sub (pv 0) pe_int set_list))
        (pss_one (ps_ret (pv 3))))) pss_nil)
      (pss_cons (ps_set (i := 4) scDraw.nd rfl (.inl rfl) (pe_op op_mod (pe_callTy call_int1 (by rfl) B.int PyProof.Rows.boot_int (pa_cons (pe_op op_add (pe_op op_add (pe_op op_mul (pe_ix ix_list (pv 0) pe_int (fun _ _ => rfl)) pe_int) (pe_op op_mul (pe_ix ix_list (pv 0) pe_int (fun _ _ => rfl)) pe_int)) pe_int) pa_nil)) pe_int))
      (pss_cons (ps_set (i := 4) scDraw.nd rfl (.inl rfl) (pe_op op_mod (pe_callTy call_int1 (by rfl) B.int PyProof.Rows.boot_int (pa_cons (pe_op op_add (pe_op op_fdiv (pe_op op_mul (pv 4) (pv 4)) pe_int) (pe_op op_mul (pv 4) pe_int)) pa_nil)) pe_int))
      (pss_one (ps_ret (pe_op op_mod (pe_callTy call_int1 (by rfl) B.int PyProof.Rows.boot_int (pa_cons (pe_op op_fdiv (pv 4) pe_int) pa_nil)) (pv 1)))))))), ?_⟩
    -- bag[0] = bag[0] + 1
    refine ⟨.ref p, rfl, p, _, 0, .int n, rfl, rfl, sqOf hp, atI_nat (j := 0) rfl, n, 1, rfl, rfl, .ref p, rfl, p, _, 0, 0, rfl, rfl, hp, ix0, ?_⟩
    have B1 : But p H (upd H p (bagL (n + 1) c m ns)) := But.upd
    have hp1 : (upd H p (bagL (n + 1) c m ns)) p = some (bagL (n + 1) c m ns) := upd_same
    show ∃ Mid : L2.St → Hp → Prop, _ ∧ _
    refine ⟨fun σ' H' => ∃ (y : Option V) (n c m : Int) (ns : List Int), σ' = [some (.ref p), some (.int sz), y, none, none] ∧ H' p = some (bagL n c m ns) ∧ 0 ≤ c ∧ 0 ≤ m ∧ m < MM ∧ ns.length ≤ 63 ∧ But p H H', ?_, ?_⟩
    · change tIfS _ _ _ _ _ (upd H p (bagL (n + 1) c m ns))
      generalize upd H p (bagL (n + 1) c m ns) = H1 at B1 hp1
      refine ⟨.ref p, rfl, p, _, 1, .int c, rfl, rfl, sqOf hp1, atI_nat (j := 1) rfl, c, 0, rfl, rfl, _, rfl, ite2 (fun e1 => ?_) (fun e1 => ?_)⟩
      · refine ⟨.ref p, rfl, p, _, rfl, .inl (sqOf hp1), _, 3, rfl, rfl, _, rfl, ite2 (fun e2 => ?_) (fun e2 => ?_)⟩
        · cases ns with
          | nil => exact absurd (of_decide_eq_true e2) (by simp)
          | cons k ks =>
          have lk : ks.length ≤ 63 := Nat.le_of_succ_le l63
          refine ⟨.ref p, rfl, .inl ⟨rfl, _, sqOf hp1⟩, p, _, 3, 3, .int k, rfl, rfl, hp1, by decide, by decide, six3, rfl, ?_⟩
          refine ⟨.ref p, rfl, p, V.int (n + 1) :: V.int c :: V.int m :: ks.map V.int, 2, .int m, rfl, rfl, sqOf upd_same, atI_nat (j := 2) rfl, m, 48271, rfl, rfl, .inr ⟨by decide, by decide⟩, .int k, rfl, _, _, rfl, rfl, _, _, rfl, rfl, .inl ⟨_, rfl, _, MM, rfl, rfl, (by show (0 : Int) < MM; decide), .ref p, rfl, p, V.int (n + 1) :: V.int c :: V.int m :: ks.map V.int, 2, 2, rfl, rfl, upd_same, ix2, ?_⟩⟩
          have z0 : 0 ≤ (m * 48271 + k + 11) % MM := Int.emod_nonneg _ (by decide)
          have z1 : (m * 48271 + k + 11) % MM < MM := Int.emod_lt_of_pos _ (by decide)
          refine ⟨.int k, rfl, 10, 18, rfl, rfl, ⟨by decide, by decide, by decide⟩, k, _, rfl, rfl, _, rfl, ite2 (fun e3 => ?_) (fun e3 => ?_)⟩
          · have h1 : (10 : Int) ^ (18 : Int).toNat ≤ k := of_decide_eq_true e3
            have h0 : (0 : Int) ≤ (10 : Int) ^ (18 : Int).toNat := by decide
            refine ⟨.int k, rfl, .ref p, rfl, p, V.int (n + 1) :: V.int c :: V.int ((m * 48271 + k + 11) % MM) :: ks.map V.int, 1, 1, rfl, rfl, upd_same, ix1, ?_⟩
            exact ⟨some (.int k), n + 1, k, _, ks, rfl, upd_same, by omega, z0, z1, lk, ((B1.trans But.upd).trans But.upd).trans But.upd⟩
          · exact ⟨some (.int k), n + 1, c, _, ks, rfl, upd_same, c0, z0, z1, lk, (B1.trans But.upd).trans But.upd⟩
        · exact ⟨none, n + 1, c, m, ns, rfl, hp1, c0, m0, m1, l63, B1⟩
      · exact ⟨none, n + 1, c, m, ns, rfl, hp1, c0, m0, m1, l63, B1⟩
    · rintro σ' H2 ⟨y, n, c, m, ns, rfl, hp, c0, m0, m1, l63, B2⟩
      have hn9 : sz.natAbs < 2 ^ 61 := by omega
      refine ⟨.ref p, rfl, p, _, 1, .int c, rfl, rfl, sqOf hp, atI_nat (j := 1) rfl, c, 0, rfl, rfl, _, rfl, ite2 (fun e2 => ?_) (fun e2 => ?_)⟩
      · refine ⟨.ref p, rfl, p, _, 1, .int c, rfl, rfl, sqOf hp, atI_nat (j := 1) rfl, .inl ⟨_, rfl, .int sz, rfl, _, _, rfl, rfl, (by show (0 : Int) < sz; omega), ?_⟩⟩
        refine ⟨.ref p, rfl, p, _, 1, .int c, rfl, rfl, sqOf hp, atI_nat (j := 1) rfl, .int sz, rfl, c, sz, rfl, rfl, wide_div (by omega) hn9 (by decide) (by decide), .ref p, rfl, p, _, 1, 1, rfl, rfl, hp, ix1, ?_⟩
        exact ⟨_, rfl, q _ _ (Int.emod_nonneg _ (by omega)) (Int.emod_lt_of_pos _ (by omega)) ⟨n, c / sz, m, ns, upd_same, Int.ediv_nonneg c0 (by omega), m0, m1, l63⟩ (B2.trans But.upd)⟩
      · refine ⟨.ref p, rfl, p, _, 2, .int m, rfl, rfl, sqOf hp, atI_nat (j := 2) rfl, m, 69621, rfl, rfl, .inr ⟨by decide, by decide⟩, .ref p, rfl, p, _, 0, .int n, rfl, rfl, sqOf hp, atI_nat (j := 0) rfl, n, 40692, rfl, rfl, .inr ⟨by decide, by decide⟩, _, _, rfl, rfl, _, 7, rfl, rfl, .inl ⟨_, rfl, _, 2147483399, rfl, rfl, (by show (0 : Int) < 2147483399; decide), ?_⟩⟩
        have x0 : 0 ≤ (m * 69621 + n * 40692 + 7) % 2147483399 := Int.emod_nonneg _ (by decide)
        have x1 : (m * 69621 + n * 40692 + 7) % 2147483399 < 2147483399 := Int.emod_lt_of_pos _ (by decide)
        show tSeq _ _ _ ([some (.ref p), some (.int sz), y, none, some (.int ((m * 69621 + n * 40692 + 7) % 2147483399))] : L2.St) _
        generalize (m * 69621 + n * 40692 + 7) % 2147483399 = x at x0 x1
        refine ⟨.int x, rfl, .int x, rfl, x, x, rfl, rfl, .inl ⟨by omega, by omega⟩, _, 65537, rfl, rfl, ⟨by decide, by decide⟩, .int x, rfl, x, 48271, rfl, rfl, .inr ⟨by decide, by decide⟩, _, _, rfl, rfl, .inl ⟨_, rfl, _, MM, rfl, rfl, (by show (0 : Int) < MM; decide), ?_⟩⟩
        exact ⟨.int ((x * x / 65537 + x * 48271) % MM), rfl, _, 32, rfl, rfl, ⟨by decide, by decide⟩, .inl ⟨_, rfl, .int sz, rfl, _, _, rfl, rfl, (by show (0 : Int) < sz; omega), q _ _ (Int.emod_nonneg _ (by omega)) (Int.emod_lt_of_pos _ (by omega)) ⟨n, c, m, ns, hp, c0, m0, m1, l63⟩ B2⟩⟩
end
end Tb

set_option Elab.async false
set_option linter.all false
set_option maxRecDepth 100000
namespace Tb
open PySem PySem.Spec PyProof.Rows L2
/-! ### texts by their signs -/
abbrev tl (z : Str) : List Nat := z.cps.toList
theorem len_tl (z : Str) : z.length = (tl z).length := (Array.length_toList).symm
theorem tl_one (c : Nat) : tl ⟨#[c]⟩ = [c] := rfl
theorem tl_app (a b : Str) : tl (a ++ b) = tl a ++ tl b := by
  show (a.cps ++ b.cps).toList = _
  rw [Array.toList_append]
theorem tl_hi (z : Str) (k : Nat) : tl (cutS z none (some (k : Int))) = (tl z).take k := by
  show ((z.cps.toList.drop (HT.sIx z.length 0 none)).take (HT.sIx z.length z.length (some (k : Int)) - HT.sIx z.length 0 none)).toArray.toList = _
  rw [List.toList_toArray, HT.sIx_nat, HT.sIx_none, List.drop_zero, Nat.sub_zero]
  by_cases h : k ≤ z.length
  · rw [Nat.min_eq_left h]
  · have : z.cps.toList.length = z.length := Array.length_toList
    rw [Nat.min_eq_right (by omega), ← this, List.take_length, List.take_of_length_le (by show z.cps.toList.length ≤ k; omega)]
theorem tl_lo (z : Str) (k : Nat) : tl (cutS z (some (k : Int)) none) = (tl z).drop k := by
  show ((z.cps.toList.drop (HT.sIx z.length 0 (some (k : Int)))).take (HT.sIx z.length z.length none - HT.sIx z.length 0 (some (k : Int)))).toArray.toList = _
  have e0 : z.cps.toList.length = z.length := Array.length_toList
  have e1 : HT.sIx z.length 0 (some (k : Int)) = min k z.length := HT.sIx_nat _ _ _
  rw [List.toList_toArray, e1, HT.sIx_none]
  have e2 : z.cps.toList.drop (min k z.length) = z.cps.toList.drop k := by
    by_cases h : k ≤ z.length
    · rw [Nat.min_eq_left h]
    · rw [Nat.min_eq_right (by omega), List.drop_eq_nil_of_le (by omega), List.drop_eq_nil_of_le (by omega)]
  rw [e2, List.take_of_length_le (by rw [List.length_drop]; omega)]
theorem tl_inj {a b : Str} (h : tl a = tl b) : a = b := by
  cases a; cases b
  congr 1
  exact Array.ext' h
def Sg (z : Str) : Prop := ∀ c ∈ tl z, c < 1114112
structure Tx (z : Str) : Prop where
  len : z.length ≤ 100
  sg : Sg z
def Nm (l : List Nat) : Prop := l.length ≤ 12 ∧ (∀ d ∈ l, isIn (letters ++ digits) d = true) ∧ ∃ c, l[0]? = some c ∧ isIn letters c = true
def Ad (l : List Nat) : Prop := 1 ≤ l.length ∧ l.length ≤ 8 ∧ ∀ d ∈ l, isIn digits d = true
theorem isName_iff (t : Str) : isName t = true ↔ Nm (tl t) := by
  have e0 : t.cps.toList.length = t.length := Array.length_toList
  unfold isName made Nm
  rw [Bool.and_eq_true, Bool.and_eq_true, Bool.and_eq_true, List.all_eq_true, decide_eq_true_eq, decide_eq_true_eq, ← Array.getElem?_toList]
  constructor
  · rintro ⟨⟨⟨h1, h2⟩, h3⟩, h4⟩
    refine ⟨by show t.cps.toList.length ≤ 12; omega, h3, ?_⟩
    cases e : t.cps.toList[0]? with
    | none => rw [e] at h4; cases h4
    | some c => rw [e] at h4; exact ⟨c, rfl, h4⟩
  · rintro ⟨h1, h2, c, h3, h4⟩
    have h1 : t.cps.toList.length ≤ 12 := h1
    have h3 : t.cps.toList[0]? = some c := h3
    have := (List.getElem?_eq_some_iff.mp h3).1
    rw [h3]
    exact ⟨⟨⟨by omega, by omega⟩, h2⟩, h4⟩
theorem isAddr_iff (t : Str) : isAddr t = true ↔ Ad (tl t) := by
  have e0 : t.cps.toList.length = t.length := Array.length_toList
  unfold isAddr made Ad
  rw [Bool.and_eq_true, Bool.and_eq_true, List.all_eq_true, decide_eq_true_eq, decide_eq_true_eq]
  constructor
  · rintro ⟨⟨h1, h2⟩, h3⟩
    exact ⟨by show 1 ≤ t.cps.toList.length; omega, by show t.cps.toList.length ≤ 8; omega, h3⟩
  · rintro ⟨h1, h2, h3⟩
    have h1 : 1 ≤ t.cps.toList.length := h1
    have h2 : t.cps.toList.length ≤ 8 := h2
    exact ⟨⟨by omega, by omega⟩, h3⟩
theorem in_lt {s : Str} (hs : (tl s).all (fun c => decide (c < 1114112)) = true) {c : Nat} (h : isIn s c = true) : c < 1114112 :=
  of_decide_eq_true (List.all_eq_true.mp hs c (of_decide_eq_true h))
theorem nm_tx {t : Str} (h : Nm (tl t)) : Tx t :=
  ⟨by rw [len_tl]; have := h.1; omega, fun c hc => in_lt (by decide +kernel) (h.2.1 c hc)⟩
theorem ad_tx {t : Str} (h : Ad (tl t)) : Tx t :=
  ⟨by rw [len_tl]; have := h.2.1; omega, fun c hc => in_lt (by decide +kernel) (h.2.2 c hc)⟩
/-- a sign put in the place -/
def rep (l : List Nat) (s d : Nat) : List Nat := l.take s ++ [d] ++ l.drop (s + 1)
theorem rep_len {l : List Nat} {s d : Nat} (h : s < l.length) : (rep l s d).length = l.length := by
  unfold rep
  rw [List.length_append, List.length_append, List.length_take, List.length_drop, List.length_singleton]
  omega
theorem rep_mem {l : List Nat} {s d e : Nat} (h : e ∈ rep l s d) : e ∈ l ∨ e = d := by
  unfold rep at h
  rcases List.mem_append.mp h with h | h
  · rcases List.mem_append.mp h with h | h
    · exact .inl (List.mem_of_mem_take h)
    · exact .inr (List.mem_singleton.mp h)
  · exact .inl (List.mem_of_mem_drop h)
theorem rep_head {l : List Nat} {s d : Nat} (h : s < l.length) : (rep l s d)[0]? = if s = 0 then some d else l[0]? := by
  unfold rep
  cases s with
  | zero => rfl
  | succ s =>
    cases l with
    | nil => cases h
    | cons a l => rfl
theorem rep_tl (t : Str) (s d : Nat) : tl ((cutS t none (some (s : Int)) ++ ⟨#[d]⟩) ++ cutS t (some ((s : Int) + 1)) none) = rep (tl t) s d := by
  rw [tl_app, tl_app, tl_hi, show ((s : Int) + 1) = ((s + 1 : Nat) : Int) from rfl, tl_lo]
  rfl
theorem nm_rep {l : List Nat} {s d : Nat} (h : Nm l) (hs : s < l.length) (hd : isIn (letters ++ digits) d = true) (h0 : s = 0 → isIn letters d = true) : Nm (rep l s d) := by
  obtain ⟨h1, h2, c, h3, h4⟩ := h
  refine ⟨by rw [rep_len hs]; exact h1, fun e he => ?_, ?_⟩
  · rcases rep_mem he with he | rfl
    · exact h2 e he
    · exact hd
  · rw [rep_head hs]
    by_cases e : s = 0
    · exact ⟨d, by rw [if_pos e], h0 e⟩
    · exact ⟨c, by rw [if_neg e]; exact h3, h4⟩
theorem ad_rep {l : List Nat} {s d : Nat} (h : Ad l) (hs : s < l.length) (hd : isIn digits d = true) : Ad (rep l s d) := by
  obtain ⟨h1, h2, h3⟩ := h
  refine ⟨by rw [rep_len hs]; exact h1, by rw [rep_len hs]; exact h2, fun e he => ?_⟩
  rcases rep_mem he with he | rfl
  · exact h3 e he
  · exact hd
abbrev LD : Str := (("abcdefghijklmnopqrstuvwxyz0123456789" : String) : Str)
theorem ld_len : (LD.length : Int) = 36 := by decide +kernel
theorem ld_any {n c : Nat} (h : LD.cps[n]? = some c) : isIn (letters ++ digits) c = true := by
  have k : ∀ m : Fin 36, isIn (letters ++ digits) (LD.cps[m.val]?.getD 0) = true := by decide +kernel
  have hl : n < 36 := by
    have := (Array.getElem?_eq_some_iff.mp h).1
    have e : LD.cps.size = 36 := by decide +kernel
    omega
  have := k ⟨n, hl⟩
  rw [h] at this
  exact this
theorem ld_lo {n c : Nat} (h : LD.cps[n]? = some c) (hn : n < 26) : isIn letters c = true := by
  have k : ∀ m : Fin 26, isIn letters (LD.cps[m.val]?.getD 0) = true := by decide +kernel
  have := k ⟨n, hn⟩
  rw [h] at this
  exact this
theorem dg_any {n c : Nat} (h : digits.cps[n]? = some c) : isIn digits c = true := decide_eq_true (by
  rw [Array.mem_toList_iff]
  exact Array.mem_of_getElem? h)
theorem dg_len : (digits.length : Int) = 10 := by decide +kernel
theorem at_sign {z : Str} {i : Int} (h : i < z.length) (h0 : 0 ≤ i) : ∃ c, z.cps[i.toNat]? = some c := by
  have : i.toNat < z.cps.size := by
    show i.toNat < z.length
    omega
  exact ⟨_, Array.getElem?_eq_getElem this⟩
theorem nm_app {l m : List Nat} (h : Nm l) (hm : ∀ d ∈ m, isIn (letters ++ digits) d = true) (hl : l.length + m.length ≤ 12) : Nm (l ++ m) := by
  obtain ⟨h1, h2, c, h3, h4⟩ := h
  refine ⟨by rw [List.length_append]; exact hl, fun e he => ?_, c, ?_, h4⟩
  · rcases List.mem_append.mp he with he | he
    · exact h2 e he
    · exact hm e he
  · rw [List.getElem?_append_left (List.getElem?_eq_some_iff.mp h3).1]
    exact h3
theorem nm_take {l : List Nat} (h : Nm l) {k : Nat} (hk : 0 < k) : Nm (l.take k) := by
  obtain ⟨h1, h2, c, h3, h4⟩ := h
  refine ⟨by rw [List.length_take]; omega, fun e he => h2 e (List.mem_of_mem_take he), c, ?_, h4⟩
  rw [List.getElem?_take, if_pos hk]
  exact h3
theorem nm_pos {l : List Nat} (h : Nm l) : 0 < l.length := by
  obtain ⟨_, _, c, h3, _⟩ := h
  exact (List.getElem?_eq_some_iff.mp h3).1
theorem num100 {k : Nat} (h : k < 100) : (tl (Str.ofString (toString (k : Int)))).length ≤ 2 ∧ ∀ d ∈ tl (Str.ofString (toString (k : Int))), isIn (letters ++ digits) d = true := by
  have k1 : ∀ m : Fin 100, (decide ((tl (Str.ofString (toString (m.val : Int)))).length ≤ 2) && (tl (Str.ofString (toString (m.val : Int)))).all (isIn (letters ++ digits))) = true := by decide +kernel
  have := k1 ⟨k, h⟩
  rw [Bool.and_eq_true, List.all_eq_true] at this
  exact ⟨of_decide_eq_true this.1, this.2⟩
end Tb

set_option Elab.async false
set_option linter.all false
set_option maxRecDepth 100000
namespace Tb
open PySem PySem.Spec PyProof.Rows L2
abbrev sFresh : Stmt := topS 22
abbrev NF8 : List Str := ["bag", "known", "letters", "text", "spot", "sign", "size", "k", "base"]
theorem scFresh : FnScope NF8 ["bag", "known"] (defScope sFresh) := ⟨rfl, rfl, rfl, by decide +kernel, rfl, by decide +kernel, by decide +kernel⟩
/-- a list of texts -/
structure Txs (H : Hp) (l : Addr) (ks : List Str) : Prop where
  l : H l = some (.lst (ks.map V.str))
  n : ks.length ≤ 100
  t : ∀ x ∈ ks, Tx x
theorem Txs.off {H : Hp} {l p : Addr} {ks : List Str} (T : Txs H l ks) (B : Bag H p) : l ≠ p := fun e => by
  obtain ⟨n, c, m, ns, hp, _⟩ := B
  have h := T.l
  rw [e, hp] at h
  have e2 : V.int n :: V.int c :: V.int m :: ns.map V.int = ks.map V.str := HO.lst.inj (Option.some.inj h)
  cases ks with
  | nil => cases e2
  | cons k ks => cases e2
theorem Txs.but {H H' : Hp} {l p : Addr} {ks : List Str} (T : Txs H l ks) (B : Bag H p) (h : But p H H') : Txs H' l ks := ⟨h _ _ T.l (T.off B), T.n, T.t⟩
theorem Txs.same {H H' : Hp} {l : Addr} {ks : List Str} (T : Txs H l ks) (h : Same H H') : Txs H' l ks := ⟨h _ _ T.l, T.n, T.t⟩
theorem dp_strs {K : PySem.W.Frag} {H : Hp} : ∀ ks : List Str, DpAll K H (ks.map V.str) (ks.map PyData.str)
  | [] => .nil
  | k :: ks => .cons (.str k) (dp_strs ks)
theorem strOk_sg {z : Str} (h : Sg z) : PySem.PyData.strOk z = true := by
  unfold PySem.PyData.strOk
  rw [Array.all_eq_true']
  intro c hc
  exact decide_eq_true (h c (Array.mem_toList_iff.mpr hc))
theorem lay_strs : ∀ {ks : List Str}, (∀ x ∈ ks, Tx x) → PyData.canLayAll0 (ks.map PyData.str) = true ∧ PyData.depthAll (ks.map PyData.str) ≤ 1
  | [], _ => by simp [PyData.canLayAll0, PyData.depthAll]
  | k :: ks, h => by
    obtain ⟨b1, b2⟩ := lay_strs (ks := ks) fun q hq => h q (List.mem_cons_of_mem _ hq)
    have a1 := strOk_sg (h k List.mem_cons_self).sg
    refine ⟨?_, ?_⟩
    · simp only [List.map_cons, PyData.canLayAll0, PyData.canLay0, a1, b1, Bool.and_true]
    · simp only [List.map_cons, PyData.depthAll, PyData.depth]
      omega
theorem shaped_strs {ks : List Str} (h : ∀ x ∈ ks, Tx x) : SeqAt.shaped (.list (ks.map PyData.str)) = true := by
  obtain ⟨h1, h2⟩ := lay_strs h
  show (PyData.canLay0 (.list (ks.map PyData.str)) && decide (PyData.depth (.list (ks.map PyData.str)) ≤ 64)) = true
  rw [Bool.and_eq_true]
  refine ⟨by simp only [PyData.canLay0]; exact h1, decide_eq_true ?_⟩
  simp only [PyData.depth]
  omega
theorem eqv_nil {ds : List PyData} : PyData.eqv (.list ds) (.list []) = ds.isEmpty := by
  cases ds <;> simp [PyData.eqv, PyData.eqvAll]
theorem flat_strs (ks : List Str) : (ks.map V.str).all flatV = true := by
  rw [List.all_map, List.all_eq_true]
  exact fun _ _ => rfl
/-- draws that leave the rest -/
abbrev Drawn (p : Addr) (H H' : Hp) : Prop := Bag H' p ∧ But p H H'
theorem ifS_via {tc : TT} {t u : TS} {D : Ends} {σ : L2.St} {H : Hp} (R : Bool → Hp → Prop) (h : ∀ Q : Bool → Hp → Prop, (∀ b H1, R b H1 → Q b H1) → tc σ H Q) (k : ∀ b H1, R b H1 → (if b = true then t D σ H1 else u D σ H1)) : tIfS tc t u D σ H := h _ k
theorem at_nat {α : Type} {xs : List α} {i : Int} {v : α} (h0 : 0 ≤ i) (h : xs[i.toNat]? = some v) : atI xs i = some v := by
  have e : i = (i.toNat : Int) := by omega
  rw [e]
  exact atI_nat h
theorem pick {ks : List Str} {i : Int} (h0 : 0 ≤ i) (h1 : i < ((ks.map V.str).length : Int)) : ∃ x ∈ ks, atI (ks.map V.str) i = some (V.str x) := by
  rw [List.length_map] at h1
  have hl : i.toNat < ks.length := by omega
  refine ⟨ks[i.toNat], List.getElem_mem hl, at_nat h0 ?_⟩
  rw [List.getElem?_map, List.getElem?_eq_getElem hl]
  rfl
theorem app_len (a b : Str) : (a ++ b).length = a.length + b.length := by
  rw [len_tl, tl_app, List.length_append, ← len_tl, ← len_tl]
theorem one_len (c : Nat) : (⟨#[c]⟩ : Str).length = 1 := rfl
theorem cut_le (z : Str) (lo hi : Option Int) : (cutS z lo hi).length ≤ z.length := cutS_length z lo hi
section
variable {P : Program} {w : World} {K : PySem.W.Frag} {mg : Str → Option Value} {base : Heap}
def spFresh : Sp := fun vs H Q _ => ∃ (p l : Addr) (ks : List Str), vs = [.ref p, .ref l] ∧ Bag H p ∧ Txs H l ks ∧ (∀ x ∈ ks, Nm (tl x)) ∧ ∀ (z : Str) (H' : Hp), Nm (tl z) → Bag H' p → But p H H' → Q (.str z) H'
theorem ok_fresh {f g : Addr} {fd gd : FuncData} (F : Fun K "_law_fresh_name" "_law_fresh_name" sFresh f fd) (D : Dd K mg "_law_draw" sDraw ["bag", "size"] g gd) (B : Blt mg) : FnOk P w K mg base CX0 2 f fd ["bag", "known"] spFresh := by
  have GD : FnOk P w K mg base CX0 1 g gd ["bag", "size"] spDraw := ok_draw D.F B
  refine F.ok scFresh (fun vs H Q E h => ?_) (fun cdv A outer s H vs Q E hr h => ?_)
  · obtain ⟨p, l, ks, rfl, _⟩ := h
    rfl
  · obtain ⟨p, l, ks, rfl, hB, hT, hN, q⟩ := h
    have hz : sizeLine = 16777216 := rfl
    refine ⟨_, pss_cons (ps_set (i := 2) scFresh.nd rfl (.inl rfl) pe_str)
      (C8.pss_cut (ps_if (PW.pt (pw_and (pt_cmpR (op_neD hr.units) (pv 1) (pe_lst pa_nil) (nomark _)) (pw_and1 (pt_cmpR op_eq (pe_call GD hr (by rfl) D.g D.F.kp D.b .nil pass0 (pa_cons (pv 0) (pa_cons pe_int pa_nil))) pe_int (nomark _)))))
        (pss_cons (ps_set (i := 3) scFresh.nd rfl (.inl rfl) (pe_ix ix_list (pv 1) (pe_call GD hr (by rfl) D.g D.F.kp D.b .nil pass0 (pa_cons (pv 0) (pa_cons (pe_callB call_len_seq (by rfl) B.len PySem.boot_len (pa_cons (pv 1) pa_nil)) pa_nil))) (fun _ _ => rfl)))
        (pss_cons (ps_set (i := 4) scFresh.nd rfl (.inl rfl) (pe_call GD hr (by rfl) D.g D.F.kp D.b .nil pass0 (pa_cons (pv 0) (pa_cons (pe_callB call_len_str (by rfl) B.len PySem.boot_len (pa_cons (pv 3) pa_nil)) pa_nil))))
        (pss_cons (ps_set (i := 5) scFresh.nd rfl (.inl rfl) (pe_item_str (pv 2) (pe_call GD hr (by rfl) D.g D.F.kp D.b .nil pass0 (pa_cons (pv 0) (pa_cons (pe_op op_add pe_int (pe_op op_mul pe_int (pe_callTy call_int1 (by rfl) B.int PyProof.Rows.boot_int (pa_cons (pe_cmpR op_gt (pv 4) pe_int (nomark _)) pa_nil)))) pa_nil))) (fun _ _ => rfl)))
        (pss_one (ps_set (i := 3) scFresh.nd rfl (.inl rfl) (pe_op op_add_str (pe_op op_add_str (pe_slice sl_str (pv 3) po_none (po_some (pv 4))) (pv 5)) (pe_slice sl_str (pv 3) (po_some (pe_op op_add (pv 4) pe_int)) po_none)))))))
        (pss_cons (ps_set (i := 6) scFresh.nd rfl (.inl rfl) (pe_op op_add pe_int (pe_call GD hr (by rfl) D.g D.F.kp D.b .nil pass0 (pa_cons (pv 0) (pa_cons pe_int pa_nil)))))
        (C8.pss_cut (ps_if (pt_cmpR op_eq (pe_call GD hr (by rfl) D.g D.F.kp D.b .nil pass0 (pa_cons (pv 0) (pa_cons pe_int pa_nil))) pe_int (nomark _)) (pss_one (ps_set (i := 6) scFresh.nd rfl (.inl rfl) (pe_op op_add pe_int (pe_call GD hr (by rfl) D.g D.F.kp D.b .nil pass0 (pa_cons (pv 0) (pa_cons pe_int pa_nil)))))) pss_nil)
        (pss_cons (ps_set (i := 3) scFresh.nd rfl (.inl rfl) (pe_item_str (pv 2) (pe_call GD hr (by rfl) D.g D.F.kp D.b .nil pass0 (pa_cons (pv 0) (pa_cons pe_int pa_nil))) (fun _ _ => rfl)))
        (pss_one (ps_for PassesOwn.never rfl (pi_range1 (by rfl) B.range (pa_cons (pe_op op_sub (pv 6) pe_int) pa_nil)) (pg_name (i := 7) scFresh.nd rfl (.inl rfl)) (pss_one (ps_set (i := 3) scFresh.nd rfl (.inl rfl) (pe_op op_add_str (pv 3) (pe_item_str (pv 2) (pe_call GD hr (by rfl) D.g D.F.kp D.b .nil pass0 (pa_cons (pv 0) (pa_cons pe_int pa_nil))) (fun _ _ => rfl)))))))))))
      (pss_cons (ps_set (i := 8) scFresh.nd rfl (.inl rfl) (pe_slice sl_str (pv 3) po_none (po_some pe_int)))
      (pss_cons (ps_for PassesOwn.never rfl (pi_range1 (by rfl) B.range (pa_cons pe_int pa_nil)) (pg_name (i := 7) scFresh.nd rfl (.inl rfl))
        (pss_cons (ps_if (pt_cmpR op_notIn_seq (pv 3) (pv 1) (by rfl)) (pss_one ps_break) pss_nil)
        (pss_one (ps_set (i := 3) scFresh.nd rfl (.inl rfl) (pe_op op_add_str (pv 8) (pe_callTy call_str_int (by rfl) B.str PyProof.Rows.boot_str (pa_cons (pv 7) pa_nil)))))))
      (pss_one (ps_ret (pv 3)))))), ?_⟩
    refine ⟨fun σ' H' => ∃ (t : Str) (y4 y5 y6 y7 : Option V), σ' = [some (.ref p), some (.ref l), some (.str LD), some (.str t), y4, y5, y6, y7, none] ∧ Nm (tl t) ∧ Bag H' p ∧ But p H H', ?_, ?_⟩
    · refine ifS_via (fun b H1 => Bag H1 p ∧ But p H H1 ∧ (b = true → ks ≠ [])) (fun Q hQ => ?_) (fun b H1 hR => ?_)
      · refine ⟨.ref l, rfl, by decide, fun e ne => ⟨_, _, .lst (sqOf (same_upd ne _ _ hT.l)) (dp_strs ks), .lst (sqOf upd_same) .nil, shaped_strs hT.t, by decide, _, rfl, ?_⟩⟩
        rw [eqv_nil]
        cases ks with
        | nil => exact hQ _ _ ⟨hB.same (same_upd ne), Same.but (same_upd ne), fun z => by cases z⟩
        | cons x xs =>
          refine ⟨.ref p, rfl, p, 2, rfl, hB.same (same_upd ne), by decide, by decide, fun i H2 i0 i1 B2 b2 => ⟨rfl, _, rfl, ?_⟩⟩
          exact hQ _ _ ⟨B2, (Same.but (same_upd ne)).trans b2, fun _ => by simp⟩
      · obtain ⟨B1, b1, hne⟩ := hR
        have T1 := hT.but hB b1
        cases b with
        | true =>
          have kpos : 0 < ks.length := List.length_pos_iff.mpr (hne rfl)
          refine ⟨.ref l, rfl, .ref p, rfl, .ref l, rfl, l, _, rfl, .inl (sqOf T1.l), p, _, rfl, B1, by rw [List.length_map]; omega, by rw [List.length_map]; have := hT.n; omega, fun i H2 i0 i1 B2 b2 => ?_⟩
          obtain ⟨t, ht, et⟩ := pick i0 i1
          have N := hN t ht
          have tpos := nm_pos N
          have tmax := N.1
          have el : t.length = (tl t).length := len_tl t
          refine ⟨l, _, i, .str t, rfl, rfl, sqOf (T1.but B1 b2).l, et, ?_⟩
          refine ⟨.ref p, rfl, .str t, rfl, t, rfl, by omega, p, _, rfl, B2, by omega, by omega, fun s H3 s0 s1 B3 b3 => ?_⟩
          obtain ⟨s, rfl⟩ : ∃ k : Nat, s = (k : Int) := ⟨s.toNat, by omega⟩
          refine ⟨_, rfl, .ref p, rfl, .int (s : Int), rfl, (s : Int), 0, rfl, rfl, .inr ⟨_, rfl, 10, _, rfl, rfl, .inl ⟨by decide, by decide⟩, 26, _, rfl, rfl, ?_⟩⟩
          have lim : ∀ b : Bool, b = decide ((0 : Int) < (s : Int)) → (26 : Int) + 10 * (if b = true then 1 else 0) ≤ 36 ∧ 26 ≤ (26 : Int) + 10 * (if b = true then 1 else 0) ∧ (s = 0 → (26 : Int) + 10 * (if b = true then 1 else 0) = 26) := by
            intro b hb
            cases b with
            | true =>
              have := of_decide_eq_true hb.symm
              rw [if_pos rfl]
              omega
            | false => rw [if_neg Bool.false_ne_true]; omega
          obtain ⟨lm, h36, lim⟩ : ∃ lm, (26 : Int) + 10 * (if decide ((0 : Int) < (s : Int)) = true then 1 else 0) = lm ∧ lm ≤ 36 ∧ 26 ≤ lm ∧ (s = 0 → lm = 26) := ⟨_, rfl, lim _ rfl⟩
          refine ⟨p, lm, congrArg (fun z => [V.ref p, V.int z]) h36, B3, by omega, by omega, fun j H4 j0 j1 B4 b4 => ?_⟩
          have hz36 := ld_len
          obtain ⟨c, ec⟩ := at_sign (z := LD) (i := j) (by omega) j0
          refine ⟨LD, j, c, rfl, rfl, j0, by omega, by omega, ec, ?_⟩
          have l1 := cut_le t none (some (s : Int))
          have l2 := cut_le t (some ((s : Int) + 1)) none
          refine ⟨.str t, rfl, .int (s : Int), rfl, (s : Int), rfl, t, rfl, by omega, .str ⟨#[c]⟩, rfl, _, _, rfl, rfl, by rw [one_len]; omega, .str t, rfl, .int (s : Int), rfl, (s : Int), 1, rfl, rfl, (s : Int) + 1, rfl, t, rfl, by omega, _, _, rfl, rfl, by rw [app_len, one_len]; omega, ?_⟩
          refine ⟨_, _, _, _, _, rfl, ?_, B4, ((b1.trans b2).trans b3).trans b4⟩
          rw [rep_tl]
          exact nm_rep N (by omega) (ld_any ec) (fun z => ld_lo ec (by have := lim.2.2 z; omega))
        | false =>
          refine ⟨.ref p, rfl, p, 3, rfl, B1, by decide, by decide, fun i H2 i0 i1 B2 b2 => ⟨1, i, rfl, rfl, ?_⟩⟩
          refine ⟨fun σ' H' => ∃ (n : Int), σ' = [some (.ref p), some (.ref l), some (.str LD), none, none, none, some (.int n), none, none] ∧ 1 ≤ n ∧ n ≤ 12 ∧ Bag H' p ∧ But p H H', ?_, ?_⟩
          · refine ⟨.ref p, rfl, p, 4, rfl, B2, by decide, by decide, fun j H3 j0 j1 B3 b3 => ⟨rfl, _, rfl, ite2 (fun e => ?_) (fun e => ?_)⟩⟩
            · refine ⟨.ref p, rfl, p, 12, rfl, B3, by decide, by decide, fun k H4 k0 k1 B4 b4 => ⟨1, k, rfl, rfl, ?_⟩⟩
              exact ⟨1 + k, rfl, by omega, by omega, B4, ((b1.trans b2).trans b3).trans b4⟩
            · exact ⟨1 + i, rfl, by omega, by omega, B3, (b1.trans b2).trans b3⟩
          · rintro σ' H3 ⟨n, rfl, n1, n2, B3, b3⟩
            have hz36 := ld_len
            refine ⟨_, rfl, .ref p, rfl, p, 26, rfl, B3, by decide, by decide, fun j H4 j0 j1 B4 b4 => ?_⟩
            obtain ⟨c, ec⟩ := at_sign (z := LD) (i := j) (by omega) j0
            refine ⟨LD, j, c, rfl, rfl, j0, by omega, by omega, ec, ?_⟩
            refine ⟨.int n, rfl, n, 1, rfl, rfl, n - 1, rfl, by omega, by omega, ?_⟩
            refine for_it (walk_range (lo := 0) (n := (n - 1).toNat)) (fun i σ H' => ∃ (t : Str) (y7 : Option V), σ = [some (.ref p), some (.ref l), some (.str LD), some (.str t), none, none, some (.int n), y7, none] ∧ Nm (tl t) ∧ (tl t).length = i + 1 ∧ Bag H' p ∧ But p H H')
              ⟨_, none, rfl, ⟨by show 1 ≤ 12; decide, fun d hd => ?_, c, rfl, ld_lo ec (by omega)⟩, rfl, B4, b3.trans b4⟩ (fun _ _ _ _ _ => trivial) (fun i x σ H5 H6 hi hP hy => ?_) (fun σ H5 hP => ?_)
            · rw [show d = c from List.mem_singleton.mp hd]
              exact ld_any ec
            · obtain ⟨t, y7, rfl, N, tn, B5, b5⟩ := hP
              obtain ⟨rfl, rfl⟩ := hy
              refine ⟨.str t, rfl, _, rfl, .ref p, rfl, p, 36, rfl, B5, by decide, by decide, fun j H7 j0 j1 B7 b7 => ?_⟩
              obtain ⟨c2, ec2⟩ := at_sign (z := LD) (i := j) (by omega) j0
              have el : t.length = (tl t).length := len_tl t
              refine ⟨LD, j, c2, rfl, rfl, j0, by omega, by omega, ec2, t, _, rfl, rfl, by rw [one_len]; omega, ?_⟩
              refine ⟨t ++ ⟨#[c2]⟩, _, rfl, ?_, ?_, B7, b5.trans b7⟩
              · rw [tl_app]
                refine nm_app N (fun d hd => ?_) (by rw [tl_one, List.length_singleton]; omega)
                rw [show d = c2 from List.mem_singleton.mp hd]
                exact ld_any ec2
              · rw [tl_app, List.length_append, tn]
                rfl
            · obtain ⟨t, y7, rfl, N, tn, B5, b5⟩ := hP
              exact ⟨t, _, _, _, _, rfl, N, B5, b5⟩
    · rintro σ' H1 ⟨t, y4, y5, y6, y7, rfl, N, B1, b1⟩
      have el : t.length = (tl t).length := len_tl t
      have tmax := N.1
      have T1 := hT.but hB b1
      refine ⟨.str t, rfl, 10, rfl, t, rfl, by omega, ?_⟩
      have Nb : Nm (tl (cutS t none (some 10))) := by
        rw [show (10 : Int) = ((10 : Nat) : Int) from rfl, tl_hi]
        exact nm_take N (by decide)
      have Lb : (tl (cutS t none (some 10))).length ≤ 10 := by
        rw [show (10 : Int) = ((10 : Nat) : Int) from rfl, tl_hi, List.length_take]
        omega
      have elb : (cutS t none (some 10)).length = (tl (cutS t none (some 10))).length := len_tl _
      generalize cutS t none (some 10) = bs at Nb Lb elb
      refine ⟨100, rfl, by decide, by decide, ?_⟩
      refine for_it (walk_range (lo := 0) (n := (100 : Int).toNat)) (fun i σ H' => ∃ (t : Str) (y7 : Option V), σ = [some (.ref p), some (.ref l), some (.str LD), some (.str t), y4, y5, y6, y7, some (.str bs)] ∧ Nm (tl t) ∧ H' = H1)
        ⟨t, y7, rfl, N, rfl⟩ (fun _ _ _ _ _ => trivial) (fun i x σ H5 H6 hi hP hy => ?_) (fun σ H5 hP => ?_)
      · obtain ⟨t, y7, rfl, N, rfl⟩ := hP
        obtain ⟨rfl, ex⟩ := hy
        have ex2 : x = .int (i : Int) := by
          rw [ex]
          show V.int (0 + (i : Int)) = _
          rw [Int.zero_add]
        subst ex2
        refine ⟨.str t, rfl, .ref l, rfl, l, _, rfl, .inl (sqOf T1.l), rfl, flat_strs ks, _, rfl, ite2 (fun e => ?_) (fun e => ?_)⟩
        · exact ⟨.str t, rfl, q t _ N B1 b1⟩
        · have hi : i < 100 := hi
          have n100 := num100 hi
          refine ⟨.str bs, rfl, .int (i : Int), rfl, (i : Int), rfl, ?_, _, _, rfl, rfl, ?_, ?_⟩
          · show (i : Int).natAbs.log2 < 1920
            exact Nat.lt_of_le_of_lt (Nat.log2_le_self _) (by omega)
          · rw [len_tl (Str.ofString (toString (i : Int)))]
            omega
          · refine ⟨bs ++ Str.ofString (toString (i : Int)), _, rfl, ?_, rfl⟩
            rw [tl_app]
            exact nm_app Nb n100.2 (by omega)
      · obtain ⟨t, y7, rfl, N, rfl⟩ := hP
        exact ⟨.str t, rfl, q t _ N B1 b1⟩
end
end Tb

set_option Elab.async false
set_option linter.all false
set_option maxRecDepth 100000
namespace Tb
open PySem PySem.Spec PyProof.Rows L2
abbrev sPrefix : Stmt := topS 23
abbrev sText : Stmt := topS 24
abbrev NPf : List Str := ["bag", "known", "digits", "kind", "text", "spot", "sign", "size", "k"]
abbrev NTx : List Str := ["bag", "most", "plain", "wide", "reach", "size", "text", "k", "spot"]
theorem scPrefix : FnScope NPf ["bag", "known"] (defScope sPrefix) := ⟨rfl, rfl, rfl, by decide +kernel, rfl, by decide +kernel, by decide +kernel⟩
theorem scText : FnScope NTx ["bag", "most"] (defScope sText) := ⟨rfl, rfl, rfl, by decide +kernel, rfl, by decide +kernel, by decide +kernel⟩
theorem ad_take {l : List Nat} (h : Ad l) {k : Nat} (hk : 0 < k) : Ad (l.take k) := by
  obtain ⟨h1, h2, h3⟩ := h
  exact ⟨by rw [List.length_take]; omega, by rw [List.length_take]; omega, fun e he => h3 e (List.mem_of_mem_take he)⟩
theorem seqIf_via {tc : TT} {t u v : TS} {D : Ends} {σ : L2.St} {H : Hp} (R : Bool → Hp → Prop) (h : ∀ Q : Bool → Hp → Prop, (∀ b H1, R b H1 → Q b H1) → tc σ H Q) (k : ∀ b H1, R b H1 → (if b = true then t { D with nx := v D } σ H1 else u { D with nx := v D } σ H1)) : tSeq (tIfS tc t u) v D σ H := h _ k
section
variable {P : Program} {w : World} {K : PySem.W.Frag} {mg : Str → Option Value} {base : Heap}
def spPrefix : Sp := fun vs H Q _ => ∃ (p l : Addr) (ks : List Str), vs = [.ref p, .ref l] ∧ Bag H p ∧ Txs H l ks ∧ (∀ x ∈ ks, Ad (tl x)) ∧ ∀ (z : Str) (H' : Hp), Ad (tl z) → Bag H' p → But p H H' → Q (.str z) H'
theorem ok_prefix {f g : Addr} {fd gd : FuncData} (F : Fun K "_law_prefix" "_law_prefix" sPrefix f fd) (D : Dd K mg "_law_draw" sDraw ["bag", "size"] g gd) (B : Blt mg) : FnOk P w K mg base CX0 2 f fd ["bag", "known"] spPrefix := by
  have GD : FnOk P w K mg base CX0 1 g gd ["bag", "size"] spDraw := ok_draw D.F B
  refine F.ok scPrefix (fun vs H Q E h => ?_) (fun cdv A outer s H vs Q E hr h => ?_)
  · obtain ⟨p, l, ks, rfl, _⟩ := h
    rfl
  · obtain ⟨p, l, ks, rfl, hB, hT, hN, q⟩ := h
    have hz : sizeLine = 16777216 := rfl
    refine ⟨_, pss_cons (ps_set (i := 2) scPrefix.nd rfl (.inl rfl) pe_str)
      (C8.pss_cut (ps_set (i := 3) scPrefix.nd rfl (.inl rfl) (pe_call GD hr (by rfl) D.g D.F.kp D.b .nil pass0 (pa_cons (pv 0) (pa_cons pe_int pa_nil))))
      (pss_cons (ps_if (PW.pt (pw_and (pt_cmpR (op_neD hr.units) (pv 1) (pe_lst pa_nil) (nomark _)) (pw_and1 (pt_cmpR op_lt (pv 3) pe_int (nomark _)))))
        (pss_cons (ps_set (i := 4) scPrefix.nd rfl (.inl rfl) (pe_ix ix_list (pv 1) (pe_call GD hr (by rfl) D.g D.F.kp D.b .nil pass0 (pa_cons (pv 0) (pa_cons (pe_callB call_len_seq (by rfl) B.len PySem.boot_len (pa_cons (pv 1) pa_nil)) pa_nil))) (fun _ _ => rfl)))
        (pss_cons (ps_set (i := 5) scPrefix.nd rfl (.inl rfl) (pe_call GD hr (by rfl) D.g D.F.kp D.b .nil pass0 (pa_cons (pv 0) (pa_cons (pe_callB call_len_str (by rfl) B.len PySem.boot_len (pa_cons (pv 4) pa_nil)) pa_nil))))
        (pss_cons (ps_set (i := 6) scPrefix.nd rfl (.inl rfl) (pe_item_str (pv 2) (pe_call GD hr (by rfl) D.g D.F.kp D.b .nil pass0 (pa_cons (pv 0) (pa_cons pe_int pa_nil))) (fun _ _ => rfl)))
        (pss_cons (ps_if (pt_cmpR op_eq (pv 3) pe_int (nomark _)) (pss_one (ps_ret (pe_slice sl_str (pv 4) po_none (po_some (pe_op op_add (pv 5) pe_int))))) pss_nil)
        (pss_cons (ps_if (pt_cmpR op_eq (pv 3) pe_int (nomark _)) (pss_one (ps_ret (pe_op op_add_str (pe_op op_add_str (pe_slice sl_str (pv 4) po_none (po_some (pv 5))) (pv 6)) (pe_slice sl_str (pv 4) (po_some (pe_op op_add (pv 5) pe_int)) po_none)))) pss_nil)
        (pss_one (ps_ret (pe_op op_add_str (pe_slice sl_str (pv 4) po_none (po_some pe_int)) (pv 6))))))))) pss_nil)
      (pss_cons (ps_set (i := 7) scPrefix.nd rfl (.inl rfl) (pe_op op_add pe_int (pe_call GD hr (by rfl) D.g D.F.kp D.b .nil pass0 (pa_cons (pv 0) (pa_cons pe_int pa_nil)))))
      (C8.pss_cut (ps_if (pt_cmpR op_eq (pe_call GD hr (by rfl) D.g D.F.kp D.b .nil pass0 (pa_cons (pv 0) (pa_cons pe_int pa_nil))) pe_int (nomark _)) (pss_one (ps_set (i := 7) scPrefix.nd rfl (.inl rfl) (pe_op op_add pe_int (pe_call GD hr (by rfl) D.g D.F.kp D.b .nil pass0 (pa_cons (pv 0) (pa_cons pe_int pa_nil)))))) pss_nil)
      (pss_cons (ps_set (i := 4) scPrefix.nd rfl (.inl rfl) pe_str)
      (pss_cons (ps_for PassesOwn.never rfl (pi_range1 (by rfl) B.range (pa_cons (pv 7) pa_nil)) (pg_name (i := 8) scPrefix.nd rfl (.inl rfl)) (pss_one (ps_set (i := 4) scPrefix.nd rfl (.inl rfl) (pe_op op_add_str (pv 4) (pe_item_str (pv 2) (pe_call GD hr (by rfl) D.g D.F.kp D.b .nil pass0 (pa_cons (pv 0) (pa_cons pe_int pa_nil))) (fun _ _ => rfl))))))
      (pss_one (ps_ret (pv 4))))))))), ?_⟩
    refine ⟨fun σ' H' => ∃ kd : Int, σ' = [some (.ref p), some (.ref l), some (.str digits), some (.int kd), none, none, none, none, none] ∧ Bag H' p ∧ But p H H', ?_, ?_⟩
    · exact ⟨.ref p, rfl, p, 5, rfl, hB, by decide, by decide, fun kd H1 kd0 kd1 B1 b1 => ⟨kd, rfl, B1, b1⟩⟩
    rintro σ' H1 ⟨kd, rfl, B1, b1⟩
    have T1 := hT.but hB b1
    have hz10 := dg_len
    refine seqIf_via (fun b H2 => Bag H2 p ∧ But p H H2 ∧ (b = true → ks ≠ [])) (fun Q hQ => ?_) (fun b H2 hR => ?_)
    · refine ⟨.ref l, rfl, by decide, fun e ne => ⟨_, _, .lst (sqOf (same_upd ne _ _ T1.l)) (dp_strs ks), .lst (sqOf upd_same) .nil, shaped_strs hT.t, by decide, _, rfl, ?_⟩⟩
      rw [eqv_nil]
      cases ks with
      | nil => exact hQ _ _ ⟨B1.same (same_upd ne), b1.trans (Same.but (same_upd ne)), fun z => by cases z⟩
      | cons x xs =>
        refine ⟨.int kd, rfl, kd, 4, rfl, rfl, _, rfl, ?_⟩
        exact hQ _ _ ⟨B1.same (same_upd ne), b1.trans (Same.but (same_upd ne)), fun _ => by simp⟩
    · obtain ⟨B2, b2, hne⟩ := hR
      have T2 := hT.but hB b2
      cases b with
      | true =>
        have kpos : 0 < ks.length := List.length_pos_iff.mpr (hne rfl)
        refine ⟨.ref l, rfl, .ref p, rfl, .ref l, rfl, l, _, rfl, .inl (sqOf T2.l), p, _, rfl, B2, by rw [List.length_map]; omega, by rw [List.length_map]; have := hT.n; omega, fun i H3 i0 i1 B3 b3 => ?_⟩
        obtain ⟨t, ht, et⟩ := pick i0 i1
        have N := hN t ht
        obtain ⟨tpos, tmax, _⟩ := id N
        have el : t.length = (tl t).length := len_tl t
        refine ⟨l, _, i, .str t, rfl, rfl, sqOf (T2.but B2 b3).l, et, ?_⟩
        refine ⟨.ref p, rfl, .str t, rfl, t, rfl, by omega, p, _, rfl, B3, by omega, by omega, fun s H4 s0 s1 B4 b4 => ?_⟩
        obtain ⟨s, rfl⟩ : ∃ k : Nat, s = (k : Int) := ⟨s.toNat, by omega⟩
        refine ⟨_, rfl, .ref p, rfl, p, 10, rfl, B4, by decide, by decide, fun j H5 j0 j1 B5 b5 => ?_⟩
        obtain ⟨c, ec⟩ := at_sign (z := digits) (i := j) (by omega) j0
        have b5' := ((b2.trans b3).trans b4).trans b5
        refine ⟨digits, j, c, rfl, rfl, j0, by omega, by omega, ec, ?_⟩
        have l1 := cut_le t none (some (s : Int))
        have l2 := cut_le t (some ((s : Int) + 1)) none
        have l3 := cut_le t none (some 7)
        refine ⟨.int kd, rfl, rfl, _, rfl, ite2 (fun e1 => ?_) (fun e1 => ?_)⟩
        · refine ⟨.str t, rfl, .int (s : Int), rfl, (s : Int), 1, rfl, rfl, (s : Int) + 1, rfl, t, rfl, by omega, q _ _ ?_ B5 b5'⟩
          rw [show ((s : Int) + 1) = ((s + 1 : Nat) : Int) from rfl, tl_hi]
          exact ad_take N (Nat.succ_pos _)
        · refine ⟨.int kd, rfl, rfl, _, rfl, ite2 (fun e2 => ?_) (fun e2 => ?_)⟩
          · refine ⟨.str t, rfl, .int (s : Int), rfl, (s : Int), rfl, t, rfl, by omega, .str ⟨#[c]⟩, rfl, _, _, rfl, rfl, by rw [one_len]; omega, .str t, rfl, .int (s : Int), rfl, (s : Int), 1, rfl, rfl, (s : Int) + 1, rfl, t, rfl, by omega, _, _, rfl, rfl, by rw [app_len, one_len]; omega, q _ _ ?_ B5 b5'⟩
            rw [rep_tl]
            exact ad_rep N (by omega) (dg_any ec)
          · refine ⟨.str t, rfl, 7, rfl, t, rfl, by omega, .str ⟨#[c]⟩, rfl, _, _, rfl, rfl, by rw [one_len]; omega, q _ _ ?_ B5 b5'⟩
            rw [tl_app, show (7 : Int) = ((7 : Nat) : Int) from rfl, tl_hi, tl_one]
            obtain ⟨n1, n2, n3⟩ := N
            refine ⟨by rw [List.length_append, List.length_singleton]; omega, by rw [List.length_append, List.length_take, List.length_singleton]; omega, fun d hd => ?_⟩
            rcases List.mem_append.mp hd with hd | hd
            · exact n3 d (List.mem_of_mem_take hd)
            · rw [List.mem_singleton.mp hd]
              exact dg_any ec
      | false =>
        refine ⟨.ref p, rfl, p, 2, rfl, B2, by decide, by decide, fun i H3 i0 i1 B3 b3 => ⟨1, i, rfl, rfl, ?_⟩⟩
        refine ⟨fun σ' H' => ∃ (n : Int), σ' = [some (.ref p), some (.ref l), some (.str digits), some (.int kd), none, none, none, some (.int n), none] ∧ 1 ≤ n ∧ n ≤ 8 ∧ Bag H' p ∧ But p H H', ?_, ?_⟩
        · refine ⟨.ref p, rfl, p, 4, rfl, B3, by decide, by decide, fun j H4 j0 j1 B4 b4 => ⟨rfl, _, rfl, ite2 (fun e => ?_) (fun e => ?_)⟩⟩
          · refine ⟨.ref p, rfl, p, 8, rfl, B4, by decide, by decide, fun k H5 k0 k1 B5 b5 => ⟨1, k, rfl, rfl, ?_⟩⟩
            exact ⟨1 + k, rfl, by omega, by omega, B5, ((b2.trans b3).trans b4).trans b5⟩
          · exact ⟨1 + i, rfl, by omega, by omega, B4, (b2.trans b3).trans b4⟩
        · rintro σ' H4 ⟨n, rfl, n1, n2, B4, b4⟩
          refine ⟨.int n, rfl, n, rfl, by omega, by omega, ?_⟩
          refine for_it (walk_range (lo := 0) (n := n.toNat)) (fun i σ H' => ∃ (t : Str) (y8 : Option V), σ = [some (.ref p), some (.ref l), some (.str digits), some (.int kd), some (.str t), none, none, some (.int n), y8] ∧ (∀ d ∈ tl t, isIn digits d = true) ∧ (tl t).length = i ∧ Bag H' p ∧ But p H H')
            ⟨_, none, rfl, (fun d hd => by cases hd), rfl, B4, b4⟩ (fun _ _ _ _ _ => trivial) (fun i x σ H5 H6 hi hP hy => ?_) (fun σ H5 hP => ?_)
          · obtain ⟨t, y8, rfl, N, tn, B5, b5⟩ := hP
            obtain ⟨rfl, rfl⟩ := hy
            refine ⟨.str t, rfl, _, rfl, .ref p, rfl, p, 10, rfl, B5, by decide, by decide, fun j H7 j0 j1 B7 b7 => ?_⟩
            obtain ⟨c2, ec2⟩ := at_sign (z := digits) (i := j) (by omega) j0
            have el : t.length = (tl t).length := len_tl t
            refine ⟨digits, j, c2, rfl, rfl, j0, by omega, by omega, ec2, t, _, rfl, rfl, by rw [one_len]; omega, ?_⟩
            refine ⟨t ++ ⟨#[c2]⟩, _, rfl, fun d hd => ?_, ?_, B7, b5.trans b7⟩
            · rw [tl_app] at hd
              rcases List.mem_append.mp hd with hd | hd
              · exact N d hd
              · rw [show d = c2 from List.mem_singleton.mp hd]
                exact dg_any ec2
            · rw [tl_app, List.length_append, tn]
              rfl
          · obtain ⟨t, y8, rfl, N, tn, B5, b5⟩ := hP
            exact ⟨.str t, rfl, q t _ ⟨by omega, by omega, N⟩ B5 b5⟩
def spText : Sp := fun vs H Q _ => ∃ (p : Addr) (m : Int), vs = [.ref p, .int m] ∧ Bag H p ∧ 2 ≤ m ∧ m ≤ 20 ∧ ∀ (z : Str) (H' : Hp), Tx z → z.length ≤ 22 → Bag H' p → But p H H' → Q (.str z) H'
theorem ok_text {f g : Addr} {fd gd : FuncData} (F : Fun K "_law_text" "_law_text" sText f fd) (D : Dd K mg "_law_draw" sDraw ["bag", "size"] g gd) (B : Blt mg) : FnOk P w K mg base CX0 2 f fd ["bag", "most"] spText := by
  have GD : FnOk P w K mg base CX0 1 g gd ["bag", "size"] spDraw := ok_draw D.F B
  refine F.ok scText (fun vs H Q E h => ?_) (fun cdv A outer s H vs Q E hr h => ?_)
  · obtain ⟨p, m, rfl, _⟩ := h
    rfl
  · obtain ⟨p, m, rfl, hB, hm, hm2, q⟩ := h
    have hz : sizeLine = 16777216 := rfl
    refine ⟨_, pss_cons (ps_set (i := 2) scText.nd rfl (.inl rfl) pe_str)
      (pss_cons (ps_set (i := 3) scText.nd rfl (.inl rfl) (pe_op op_add_str pe_str (pv 2)))
      (pss_cons (ps_set (i := 4) scText.nd rfl (.inl rfl) (pe_op op_add pe_int (pe_op op_mul pe_int (pe_call GD hr (by rfl) D.g D.F.kp D.b .nil pass0 (pa_cons (pv 0) (pa_cons pe_int pa_nil))))))
      (pss_cons (ps_set (i := 5) scText.nd rfl (.inl rfl) (pe_call GD hr (by rfl) D.g D.F.kp D.b .nil pass0 (pa_cons (pv 0) (pa_cons (pe_op op_add (pv 1) pe_int) pa_nil))))
      (C8.pss_cut (ps_if (pt_cmpR op_eq (pe_call GD hr (by rfl) D.g D.F.kp D.b .nil pass0 (pa_cons (pv 0) (pa_cons pe_int pa_nil))) pe_int (nomark _)) (pss_one (ps_set (i := 5) scText.nd rfl (.inl rfl) (pe_op op_add (pe_op op_sub (pv 1) pe_int) (pe_call GD hr (by rfl) D.g D.F.kp D.b .nil pass0 (pa_cons (pv 0) (pa_cons pe_int pa_nil)))))) pss_nil)
      (pss_cons (ps_set (i := 6) scText.nd rfl (.inl rfl) pe_str)
      (pss_cons (ps_for PassesOwn.never rfl (pi_range1 (by rfl) B.range (pa_cons (pv 5) pa_nil)) (pg_name (i := 7) scText.nd rfl (.inl rfl)) (pss_one (ps_set (i := 6) scText.nd rfl (.inl rfl) (pe_op op_add_str (pv 6) (pe_item_str (pv 2) (pe_call GD hr (by rfl) D.g D.F.kp D.b .nil pass0 (pa_cons (pv 0) (pa_cons (pv 4) pa_nil))) (fun _ _ => rfl))))))
      (pss_cons (ps_if (PW.pt (pw_and (pt_cmpR op_gt (pv 5) pe_int (nomark _)) (pw_and1 (pt_cmpR op_eq (pe_call GD hr (by rfl) D.g D.F.kp D.b .nil pass0 (pa_cons (pv 0) (pa_cons pe_int pa_nil))) pe_int (nomark _)))))
        (pss_cons (ps_set (i := 8) scText.nd rfl (.inl rfl) (pe_call GD hr (by rfl) D.g D.F.kp D.b .nil pass0 (pa_cons (pv 0) (pa_cons (pv 5) pa_nil))))
        (pss_one (ps_set (i := 6) scText.nd rfl (.inl rfl) (pe_op op_add_str (pe_op op_add_str (pe_slice sl_str (pv 6) po_none (po_some (pv 8))) (pe_item_str (pv 3) (pe_call GD hr (by rfl) D.g D.F.kp D.b .nil pass0 (pa_cons (pv 0) (pa_cons (pe_callB call_len_str (by rfl) B.len PySem.boot_len (pa_cons (pv 3) pa_nil)) pa_nil))) (fun _ _ => rfl))) (pe_slice sl_str (pv 6) (po_some (pe_op op_add (pv 8) pe_int)) po_none))))) pss_nil)
      (pss_one (ps_ret (pv 6)))))))))), ?_⟩
    have hp : ((("0123456789abcdefghijklmnopqrstuvwxyz" : String) : Str).length : Int) = 36 := by decide +kernel
    have sp : Sg (("0123456789abcdefghijklmnopqrstuvwxyz" : String) : Str) := by unfold Sg; decide +kernel
    generalize hplain : (("0123456789abcdefghijklmnopqrstuvwxyz" : String) : Str) = plain at hp sp
    generalize hw0 : ((" !\"#$&'()*+,-./:;<=>?@ABCDEFGHIJKLMNOPQRSTUVWXYZ[\\]^_`{|}~" : String) : Str) = w0
    have hwl : w0.length ≤ 100 ∧ Sg w0 := by
      subst hw0
      exact ⟨by decide +kernel, by unfold Sg; decide +kernel⟩
    refine ⟨_, rfl, w0, plain, rfl, rfl, by omega, ?_⟩
    have sw : Sg (w0 ++ plain) := fun d hd => by
      rw [tl_app] at hd
      exact (List.mem_append.mp hd).elim (hwl.2 d) (sp d)
    have lw : 36 ≤ (w0 ++ plain).length ∧ (w0 ++ plain).length ≤ 200 := by
      rw [app_len]
      omega
    generalize w0 ++ plain = wide at sw lw
    refine ⟨.ref p, rfl, p, 2, rfl, hB, by decide, by decide, fun x H1 x0 x1 B1 b1 => ⟨26, x, rfl, rfl, .inl ⟨by decide, by decide⟩, 10, _, rfl, rfl, ?_⟩⟩
    refine ⟨.ref p, rfl, .int m, rfl, m, 1, rfl, rfl, p, _, rfl, B1, by omega, by omega, fun y H2 y0 y1 B2 b2 => ?_⟩
    refine ⟨fun σ' H' => ∃ (r n : Int), σ' = [some (.ref p), some (.int m), some (.str plain), some (.str wide), some (.int r), some (.int n), none, none, none] ∧ 1 ≤ r ∧ r ≤ 36 ∧ 0 ≤ n ∧ n ≤ 20 ∧ Bag H' p ∧ But p H H', ?_, ?_⟩
    · refine ⟨.ref p, rfl, p, 3, rfl, B2, by decide, by decide, fun j H3 j0 j1 B3 b3 => ⟨rfl, _, rfl, ite2 (fun e => ?_) (fun e => ?_)⟩⟩
      · refine ⟨.int m, rfl, m, 2, rfl, rfl, .ref p, rfl, p, 3, rfl, B3, by decide, by decide, fun k H4 k0 k1 B4 b4 => ⟨m - 2, k, rfl, rfl, ?_⟩⟩
        exact ⟨_, m - 2 + k, rfl, by omega, by omega, by omega, by omega, B4, ((b1.trans b2).trans b3).trans b4⟩
      · exact ⟨_, y, rfl, by omega, by omega, by omega, by omega, B3, (b1.trans b2).trans b3⟩
    · rintro σ' H3 ⟨r, n, rfl, r1, r2, n0, n1, B3, b3⟩
      refine ⟨.int n, rfl, n, rfl, by omega, by omega, ?_⟩
      refine for_it (walk_range (lo := 0) (n := n.toNat)) (fun i σ H' => ∃ (t : Str) (y7 : Option V), σ = [some (.ref p), some (.int m), some (.str plain), some (.str wide), some (.int r), some (.int n), some (.str t), y7, none] ∧ Sg t ∧ (tl t).length = i ∧ Bag H' p ∧ But p H H')
        ⟨_, none, rfl, (fun d hd => by cases hd), rfl, B3, b3⟩ (fun _ _ _ _ _ => trivial) (fun i x σ H5 H6 hi hP hy => ?_) (fun σ H5 hP => ?_)
      · obtain ⟨t, y7, rfl, N, tn, B5, b5⟩ := hP
        obtain ⟨rfl, rfl⟩ := hy
        refine ⟨.str t, rfl, _, rfl, .ref p, rfl, .int r, rfl, p, r, rfl, B5, by omega, by omega, fun j H7 j0 j1 B7 b7 => ?_⟩
        obtain ⟨c2, ec2⟩ := at_sign (z := plain) (i := j) (by omega) j0
        have el : t.length = (tl t).length := len_tl t
        refine ⟨plain, j, c2, rfl, rfl, j0, by omega, by omega, ec2, t, _, rfl, rfl, by rw [one_len]; omega, ?_⟩
        refine ⟨t ++ ⟨#[c2]⟩, _, rfl, fun d hd => ?_, ?_, B7, b5.trans b7⟩
        · rw [tl_app] at hd
          rcases List.mem_append.mp hd with hd | hd
          · exact N d hd
          · rw [show d = c2 from List.mem_singleton.mp hd]
            exact sp _ (by rw [Array.mem_toList_iff]; exact Array.mem_of_getElem? ec2)
        · rw [tl_app, List.length_append, tn]
          rfl
      · obtain ⟨t, y7, rfl, N, tn, B5, b5⟩ := hP
        have el : t.length = (tl t).length := len_tl t
        have fin0 : Tx t := ⟨by omega, N⟩
        refine ⟨.int n, rfl, n, 0, rfl, rfl, _, rfl, ite2 (fun e => ?_) (fun e => ?_)⟩
        · have np : 0 < n := of_decide_eq_true e
          refine ⟨.ref p, rfl, p, 2, rfl, B5, by decide, by decide, fun j H6 j0 j1 B6 b6 => ⟨rfl, _, rfl, ite2 (fun e2 => ?_) (fun e2 => ?_)⟩⟩
          · refine ⟨.ref p, rfl, .int n, rfl, p, n, rfl, B6, np, by omega, fun s H7 s0 s1 B7 b7 => ?_⟩
            obtain ⟨s, rfl⟩ : ∃ k : Nat, s = (k : Int) := ⟨s.toNat, by omega⟩
            have l1 := cut_le t none (some (s : Int))
            have l2 := cut_le t (some ((s : Int) + 1)) none
            refine ⟨.str t, rfl, .int (s : Int), rfl, (s : Int), rfl, t, rfl, by omega, .str wide, rfl, .ref p, rfl, .str wide, rfl, wide, rfl, by omega, p, _, rfl, B7, by omega, by omega, fun k H8 k0 k1 B8 b8 => ?_⟩
            obtain ⟨c, ec⟩ := at_sign (z := wide) (i := k) (by omega) k0
            refine ⟨wide, k, c, rfl, rfl, k0, by omega, by omega, ec, _, _, rfl, rfl, by rw [one_len]; omega, .str t, rfl, .int (s : Int), rfl, (s : Int), 1, rfl, rfl, (s : Int) + 1, rfl, t, rfl, by omega, _, _, rfl, rfl, by rw [app_len, one_len]; omega, ?_⟩
            have er := rep_tl t s c
            have lr := rep_len (l := tl t) (s := s) (d := c) (by omega)
            generalize (cutS t none (some (s : Int)) ++ ⟨#[c]⟩) ++ cutS t (some ((s : Int) + 1)) none = z at er
            have lz : z.length = (tl z).length := len_tl z
            refine ⟨.str z, rfl, q z _ ⟨by rw [lz, er]; omega, fun d hd => ?_⟩ (by rw [lz, er]; omega) B8 (((b5.trans b6).trans b7).trans b8)⟩
            rw [er] at hd
            rcases rep_mem hd with hd | rfl
            · exact N d hd
            · exact sw _ (by rw [Array.mem_toList_iff]; exact Array.mem_of_getElem? ec)
          · exact ⟨.str t, rfl, q t _ fin0 (by omega) B6 (b5.trans b6)⟩
        · exact ⟨.str t, rfl, q t _ fin0 (by omega) B5 b5⟩
end
end Tb

set_option Elab.async false
set_option linter.all false
set_option maxRecDepth 100000
namespace Tb
open PySem PySem.Spec PyProof.Rows L2
abbrev sLAddr : Stmt := topS 25
abbrev sLName : Stmt := topS 26
abbrev sLLane : Stmt := topS 27
abbrev sLAfter : Stmt := topS 28
theorem scLAddr : FnScope ["text", "sign"] ["text"] (defScope sLAddr) := ⟨rfl, rfl, rfl, by decide +kernel, rfl, by decide +kernel, by decide +kernel⟩
theorem scLName : FnScope ["text", "sign"] ["text"] (defScope sLName) := ⟨rfl, rfl, rfl, by decide +kernel, rfl, by decide +kernel, by decide +kernel⟩
theorem scLLane : FnScope ["own", "address", "size"] ["own", "address"] (defScope sLLane) := ⟨rfl, rfl, rfl, by decide +kernel, rfl, by decide +kernel, by decide +kernel⟩
theorem scLAfter : FnScope ["own", "prefix", "way", "found", "one"] ["own", "prefix", "way"] (defScope sLAfter) := ⟨rfl, rfl, rfl, by decide +kernel, rfl, by decide +kernel, by decide +kernel⟩
/-- a text in, a bool out, the heap as it was -/
def spT0 (g : Str → Bool) : Sp := fun vs H Q _ => ∃ (t : Str), vs = [.str t] ∧ t.length ≤ 1000 ∧ Q (.bl (g t)) H
theorem isAddr_no {t : Str} (h : ¬ Ad (tl t)) : isAddr t = false := by
  cases e : isAddr t with
  | false => rfl
  | true => exact absurd ((isAddr_iff t).mp e) h
theorem isName_no {t : Str} (h : ¬ Nm (tl t)) : isName t = false := by
  cases e : isName t with
  | false => rfl
  | true => exact absurd ((isName_iff t).mp e) h
theorem ld_eq : LD = letters ++ digits := tl_inj (by decide +kernel)
theorem let_dig {c : Nat} (h : isIn (letters ++ digits) c = true) : isIn letters c = !isIn digits c := by
  have hm : c ∈ tl (letters ++ digits) := of_decide_eq_true h
  have k : (tl (letters ++ digits)).all (fun c => isIn letters c == !isIn digits c) = true := by decide +kernel
  exact eq_of_beq (List.all_eq_true.mp k c hm)
section
variable {P : Program} {w : World} {K : PySem.W.Frag} {mg : Str → Option Value} {base : Heap}
theorem ok_laddr {f : Addr} {fd : FuncData} {k : Nat} (F : Fun K "_law_is_address" "_law_is_address" sLAddr f fd) (B : Blt mg) : FnOk P w K mg base CX0 (k + 1) f fd ["text"] (spT0 isAddr) := by
  refine F.ok scLAddr (fun vs H Q E h => ?_) (fun cdv A outer s H vs Q E hr h => ?_)
  · obtain ⟨t, rfl, _⟩ := h
    rfl
  · obtain ⟨t, rfl, hl, q⟩ := h
    have hz : sizeLine = 16777216 := rfl
    have el : t.length = (tl t).length := len_tl t
    refine ⟨_, pss_cons (ps_if (PW.pt (pw_or (pt_cmpR op_lt (pe_callB call_len_str (by rfl) B.len PySem.boot_len (pa_cons (pv 0) pa_nil)) pe_int (nomark _)) (pw_or1 (pt_cmpR op_gt (pe_callB call_len_str (by rfl) B.len PySem.boot_len (pa_cons (pv 0) pa_nil)) pe_int (nomark _))))) (pss_one (ps_ret pe_bl)) pss_nil)
      (pss_cons (ps_for PassesOwn.never rfl (pi_str (pv 0)) (pg_name (i := 1) scLAddr.nd rfl (.inl rfl)) (pss_one (ps_if (pt_cmpR op_notIn_sign (pv 1) pe_str (by rfl)) (pss_one (ps_ret pe_bl)) pss_nil)))
      (pss_one (ps_ret pe_bl))), ?_⟩
    refine ⟨.str t, rfl, t, rfl, by omega, _, 1, rfl, rfl, _, rfl, ite2 (fun e1 => ?_) (fun e1 => ?_)⟩
    · have : (t.length : Int) < 1 := of_decide_eq_true e1
      rw [isAddr_no (fun h => by have := h.1; omega)] at q
      exact q
    refine ⟨.str t, rfl, t, rfl, by omega, _, 8, rfl, rfl, _, rfl, ite2 (fun e2 => ?_) (fun e2 => ?_)⟩
    · have : 8 < (t.length : Int) := of_decide_eq_true e2
      rw [isAddr_no (fun h => by have := h.2.1; omega)] at q
      exact q
    have n1 : ¬ (t.length : Int) < 1 := fun z => e1 (decide_eq_true z)
    have n2 : ¬ 8 < (t.length : Int) := fun z => e2 (decide_eq_true z)
    refine ⟨.str t, rfl, t, rfl, ?_⟩
    refine for_it (walk_str (z := t)) (fun i σ H' => ∃ y, σ = [some (.str t), y] ∧ H' = H ∧ ∀ d ∈ (tl t).take i, isIn digits d = true) ⟨none, rfl, rfl, fun d hd => by cases hd⟩ (fun _ _ _ _ _ => trivial) (fun i x σ H5 H6 hi hP hy => ?_) (fun σ H5 hP => ?_)
    · obtain ⟨y, rfl, rfl, hall⟩ := hP
      obtain ⟨rfl, c, hc, rfl⟩ := hy
      have hc' : (tl t)[i]? = some c := by rw [Array.getElem?_toList]; exact hc
      refine ⟨_, rfl, c, digits, rfl, rfl, _, rfl, ite2 (fun e => ?_) (fun e => ?_)⟩
      · have e : ¬ c ∈ tl digits := by simpa using e
        rw [isAddr_no (fun h => e (of_decide_eq_true (h.2.2 c (List.mem_of_getElem? hc'))))] at q
        exact q
      · have e : c ∈ tl digits := by simpa using e
        refine ⟨_, rfl, rfl, fun d hd => ?_⟩
        rw [List.take_add_one, hc'] at hd
        rcases List.mem_append.mp hd with hd | hd
        · exact hall d hd
        · rw [show d = c from List.mem_singleton.mp hd]
          exact decide_eq_true e
    · obtain ⟨y, rfl, rfl, hall⟩ := hP
      have e : isAddr t = true := (isAddr_iff t).mpr ⟨by omega, by omega, fun d hd => hall d (by rw [show t.cps.size = (tl t).length from (Array.length_toList).symm, List.take_length]; exact hd)⟩
      rw [e] at q
      exact q
theorem ok_lname {f : Addr} {fd : FuncData} {k : Nat} (F : Fun K "_law_is_name" "_law_is_name" sLName f fd) (B : Blt mg) : FnOk P w K mg base CX0 (k + 1) f fd ["text"] (spT0 isName) := by
  refine F.ok scLName (fun vs H Q E h => ?_) (fun cdv A outer s H vs Q E hr h => ?_)
  · obtain ⟨t, rfl, _⟩ := h
    rfl
  · obtain ⟨t, rfl, hl, q⟩ := h
    have hz : sizeLine = 16777216 := rfl
    have el : t.length = (tl t).length := len_tl t
    refine ⟨_, pss_cons (ps_if (PW.pt (pw_or (pt_cmpR op_lt (pe_callB call_len_str (by rfl) B.len PySem.boot_len (pa_cons (pv 0) pa_nil)) pe_int (nomark _)) (pw_or1 (pt_cmpR op_gt (pe_callB call_len_str (by rfl) B.len PySem.boot_len (pa_cons (pv 0) pa_nil)) pe_int (nomark _))))) (pss_one (ps_ret pe_bl)) pss_nil)
      (pss_cons (ps_for PassesOwn.never rfl (pi_str (pv 0)) (pg_name (i := 1) scLName.nd rfl (.inl rfl)) (pss_one (ps_if (pt_cmpR op_notIn_sign (pv 1) pe_str (by rfl)) (pss_one (ps_ret pe_bl)) pss_nil)))
      (pss_one (ps_ret (pe_cmpR op_notIn_sign (pe_item_str (pv 0) pe_int (fun _ _ => rfl)) pe_str (by rfl))))), ?_⟩
    refine ⟨.str t, rfl, t, rfl, by omega, _, 1, rfl, rfl, _, rfl, ite2 (fun e1 => ?_) (fun e1 => ?_)⟩
    · have : (t.length : Int) < 1 := of_decide_eq_true e1
      rw [isName_no (fun h => by have := nm_pos h; omega)] at q
      exact q
    refine ⟨.str t, rfl, t, rfl, by omega, _, 12, rfl, rfl, _, rfl, ite2 (fun e2 => ?_) (fun e2 => ?_)⟩
    · have : 12 < (t.length : Int) := of_decide_eq_true e2
      rw [isName_no (fun h => by have := h.1; omega)] at q
      exact q
    have n1 : ¬ (t.length : Int) < 1 := fun z => e1 (decide_eq_true z)
    have n2 : ¬ 12 < (t.length : Int) := fun z => e2 (decide_eq_true z)
    refine ⟨.str t, rfl, t, rfl, ?_⟩
    refine for_it (walk_str (z := t)) (fun i σ H' => ∃ y, σ = [some (.str t), y] ∧ H' = H ∧ ∀ d ∈ (tl t).take i, isIn (letters ++ digits) d = true) ⟨none, rfl, rfl, fun d hd => by cases hd⟩ (fun _ _ _ _ _ => trivial) (fun i x σ H5 H6 hi hP hy => ?_) (fun σ H5 hP => ?_)
    · obtain ⟨y, rfl, rfl, hall⟩ := hP
      obtain ⟨rfl, c, hc, rfl⟩ := hy
      have hc' : (tl t)[i]? = some c := by rw [Array.getElem?_toList]; exact hc
      refine ⟨_, rfl, c, LD, rfl, rfl, _, rfl, ite2 (fun e => ?_) (fun e => ?_)⟩
      · have e : ¬ c ∈ tl LD := by simpa using e
        rw [ld_eq] at e
        rw [isName_no (fun h => e (of_decide_eq_true (h.2.1 c (List.mem_of_getElem? hc'))))] at q
        exact q
      · have e : c ∈ tl LD := by simpa using e
        rw [ld_eq] at e
        refine ⟨_, rfl, rfl, fun d hd => ?_⟩
        rw [List.take_add_one, hc'] at hd
        rcases List.mem_append.mp hd with hd | hd
        · exact hall d hd
        · rw [show d = c from List.mem_singleton.mp hd]
          exact decide_eq_true e
    · obtain ⟨y, rfl, rfl, hall⟩ := hP
      have hall : ∀ d ∈ tl t, isIn (letters ++ digits) d = true := fun d hd => hall d (by rw [show t.cps.size = (tl t).length from (Array.length_toList).symm, List.take_length]; exact hd)
      obtain ⟨c, ec⟩ := at_sign (z := t) (i := 0) (by omega) (by decide)
      have ec : t.cps[0]? = some c := ec
      have ec' : (tl t)[0]? = some c := by rw [Array.getElem?_toList]; exact ec
      refine ⟨.str t, rfl, t, 0, c, rfl, rfl, by decide, by decide, by omega, ec, c, digits, rfl, rfl, ?_⟩
      have hl := let_dig (hall c (List.mem_of_getElem? ec'))
      have e : isName t = !decide (c ∈ tl digits) := by
        show _ = !isIn digits c
        rw [← hl]
        cases e3 : isIn letters c with
        | true => exact (isName_iff t).mpr ⟨by omega, hall, c, ec', e3⟩
        | false =>
          refine isName_no fun h => ?_
          obtain ⟨_, _, c', e4, e5⟩ := h
          rw [ec'] at e4
          cases e4
          rw [e3] at e5
          cases e5
      rw [e] at q
      exact q
/-- the law's own lane -/
theorem ok_llane {f : Addr} {fd : FuncData} {k : Nat} (F : Fun K "_law_lane" "_law_lane" sLLane f fd) (B : Blt mg) : FnOk P w K mg base CX0 (k + 1) f fd ["own", "address"] (spDA laneV) := by
  refine F.ok scLLane (fun vs H Q E h => ?_) (fun cdv A outer s H vs Q E hr h => ?_)
  · obtain ⟨d, kvs, a, rfl, _⟩ := h
    rfl
  · obtain ⟨d, kvs, a, rfl, hd, hl, q⟩ := h
    have hu := hu_of hr
    refine ⟨_, pss_cons (ps_for PassesOwn.never rfl (pi_range3 (by rfl) B.range (pa_cons (pe_callB call_len_str (by rfl) B.len PySem.boot_len (pa_cons (pv 1) pa_nil)) (pa_cons pe_int (pa_cons (pe_un un_neg pe_int) pa_nil)))) (pg_name (i := 2) scLLane.nd rfl (.inl rfl))
        (pss_one (ps_if (pt_cmp (pc_din hu (pe_slice sl_str (pv 1) po_none (po_some (pv 2))) (pv 0))) (pss_one (ps_ret (pe_dget hu (pv 0) (pe_slice sl_str (pv 1) po_none (po_some (pv 2))) (fun _ _ => rfl)))) pss_nil)))
      (pss_one (ps_ret pe_non)), ?_⟩
    have hz : sizeLine = 16777216 := rfl
    refine ⟨.str a, rfl, a, rfl, by omega, 1, rfl, (a.length : Int), 0, -1, ((a.length : Int) - 0).toNat, rfl, RgC.neg (by omega) (by omega) (by omega) (by omega), ?_⟩
    refine for_rangeC (lo := (a.length : Int)) (c := -1) (n := ((a.length : Int) - 0).toNat) (fun i σ H' => ∃ y, σ = [some (.ref d), some (.str a), y] ∧ H' = H ∧ long kvs a = lp kvs a (a.length - i)) ⟨none, rfl, rfl, rfl⟩ ?_ ?_
    · rintro i σ H' hi ⟨y, rfl, rfl, e⟩
      have hi' : i < a.length := by omega
      have ei : (a.length : Int) + (i : Int) * -1 = ((a.length - i : Nat) : Int) := by omega
      rw [ei]
      refine ⟨.str a, rfl, .int ((a.length - i : Nat) : Int), rfl, ((a.length - i : Nat) : Int), rfl, a, rfl, by omega, .ref d, rfl, d, _, rfl, DGet.k (k := Sum.inr (pre a (a.length - i))) hd, ?_⟩
      obtain ⟨m, em⟩ : ∃ m, a.length - i = m + 1 := ⟨a.length - i - 1, by omega⟩
      by_cases c : (valV kvs (Sum.inr (pre a (a.length - i)))).isSome = true
      · refine ⟨_, rfl, ?_⟩
        rw [c]
        obtain ⟨v, ev⟩ := Option.isSome_iff_exists.mp c
        refine ⟨.ref d, rfl, .str a, rfl, .int ((a.length - i : Nat) : Int), rfl, ((a.length - i : Nat) : Int), rfl, a, rfl, by omega, d, v, rfl, ?_, ?_⟩
        · rw [← ev]
          exact DGet.k (k := Sum.inr (pre a (a.length - i))) hd
        · have : long kvs a = some (pre a (a.length - i)) := by
            rw [e, em]
            unfold lp
            rw [← em, if_pos c]
          have q : Q (laneV kvs a) H' := q
          unfold laneV at q
          rw [this] at q
          have q : Q ((valV kvs (Sum.inr (pre a (a.length - i)))).getD .non) H' := q
          rw [ev] at q
          exact q
      · refine ⟨_, rfl, ?_⟩
        rw [Bool.eq_false_iff.mpr c]
        refine ⟨_, rfl, rfl, ?_⟩
        rw [e, em]
        show (if (valV kvs (Sum.inr (pre a (m + 1)))).isSome = true then some (pre a (m + 1)) else lp kvs a m) = _
        rw [← em, if_neg c, show a.length - (i + 1) = m by omega]
    · rintro σ H' ⟨y, rfl, rfl, e⟩
      rw [show a.length - ((a.length : Int) - 0).toNat = 0 by omega] at e
      have q : Q (laneV kvs a) H' := q
      unfold laneV at q
      rw [e] at q
      exact q
end
end Tb

set_option Elab.async false
set_option linter.all false
set_option maxRecDepth 100000
namespace Tb
open PySem PySem.Spec PyProof.Rows L2
/-- what the loop keeps -/
def flt (p : Str) (o : Option Str) (q : Pr) : Bool := decide (q.1 ≠ p) || o.isSome
theorem nodup_take {own : List Pr} (h : (own.map Prod.fst).Nodup) {i : Nat} {q : Pr} (e : own[i]? = some q) (f : Pr → Bool) : valV (kvP ((own.take i).filter f)) (Sum.inr q.1) = none := by
  cases e2 : valV (kvP ((own.take i).filter f)) (Sum.inr q.1) with
  | none => rfl
  | some v =>
    exfalso
    have mm := (valV_kvP q.1 _).mp (by rw [e2]; rfl)
    obtain ⟨x, hx, ex⟩ := List.mem_map.mp mm
    have hx := (List.mem_filter.mp hx).1
    obtain ⟨j, hj⟩ := List.mem_iff_getElem?.mp hx
    rw [List.getElem?_take] at hj
    by_cases hji : j < i
    · rw [if_pos hji] at hj
      have a1 : (own.map Prod.fst)[j]? = some q.1 := by rw [List.getElem?_map, hj, ← ex]; rfl
      have a2 : (own.map Prod.fst)[i]? = some q.1 := by rw [List.getElem?_map, e]; rfl
      obtain ⟨l1, g1⟩ := List.getElem?_eq_some_iff.mp a1
      obtain ⟨l2, g2⟩ := List.getElem?_eq_some_iff.mp a2
      exact List.pairwise_iff_getElem.mp h j i l1 l2 hji (g1.trans g2.symm)
    · rw [if_neg hji] at hj
      cases hj
section
variable {P : Program} {w : World} {K : PySem.W.Frag} {mg : Str → Option Value} {base : Heap}
def spAfter : Sp := fun vs H Q _ => ∃ (d : Addr) (own : List Pr) (p : Str) (o : Option Str), vs = [.ref d, .str p, oStr o] ∧ H d = some (.dK (kvP own)) ∧ (own.map Prod.fst).Nodup ∧ own.length ≤ 1000 ∧
  ∀ (e : Addr) (H' : Hp), Same H H' → H e = none → H' e = some (.dK (kvP (aft own p o))) → Q (.ref e) H'
theorem ok_lafter {f : Addr} {fd : FuncData} {k : Nat} (F : Fun K "_law_after" "_law_after" sLAfter f fd) (B : Blt mg) : FnOk P w K mg base CX0 (k + 1) f fd ["own", "prefix", "way"] spAfter := by
  refine F.ok scLAfter (fun vs H Q E h => ?_) (fun cdv A outer s H vs Q E hr h => ?_)
  · obtain ⟨d, own, p, o, rfl, _⟩ := h
    rfl
  · obtain ⟨d, own, p, o, rfl, hd, hn, hl, q⟩ := h
    have hu := hu_of hr
    have hz : sizeLine = 16777216 := rfl
    refine ⟨_, pss_cons (ps_set (i := 3) scLAfter.nd rfl (.inl rfl) pe_dnewK)
      (pss_cons (ps_lock (ps_for PassesOwn.never rfl (pi_keys (pv 0)) (pg_name (i := 4) scLAfter.nd rfl (.inl rfl))
        (pss_one (ps_if (PW.pt (pw_or (pt_cmpR op_ne (pv 4) (pv 1) (nomark _)) (pw_or1 (pt_cmp (pc_notN (pv 2)))))) (pss_one (ps_dput hu (pv 3) (pv 4) (pe_dget hu (pv 0) (pv 4) (fun _ _ => rfl)) (by rfl))) pss_nil))))
      (pss_cons (ps_if (pt_cmp (pc_notN (pv 2))) (pss_one (ps_dput hu (pv 3) (pv 1) (pv 2) (by rfl))) pss_nil)
      (pss_one (ps_ret (pv 3))))), ?_⟩
    intro D nD
    have dD : d ≠ D := fun e => by rw [e, nD] at hd; cases hd
    refine ⟨d, .dK (kvP own), by rw [upd_ne dD]; exact hd, trivial, fun od => ?_⟩
    refine ⟨.ref d, rfl, d, od, rfl, .inl ⟨kvP own, upd_same, ?_⟩⟩
    refine for_it (walk_keys (d := d) (o := od) (kvs := kvP own)) (fun i σ H' => ∃ y, σ = [some (.ref d), some (.str p), some (oStr o), some (.ref D), y] ∧ But d H H' ∧ H' d = some (.frz od (.dK (kvP own))) ∧ H' D = some (.dK (kvP ((own.take i).filter (flt p o)))))
      ⟨none, rfl, ?_, upd_same, ?_⟩ (fun i σ H' _ hP => hP.choose_spec.2.2.1) (fun i x σ H5 H6 hi hP hy => ?_) (fun σ H5 hP => ?_)
    · exact fun b u hb nb => by rw [upd_ne nb, upd_ne (ne_of_none hb nD)]; exact hb
    · rw [upd_ne (Ne.symm dD)]
      exact upd_same
    · obtain ⟨y, rfl, b1, h1, h2⟩ := hP
      obtain ⟨rfl, k, v, ek, rfl⟩ := hy
      unfold kvP at ek
      rw [List.getElem?_map] at ek
      cases eq : own[i]? with
      | none => rw [eq] at ek; cases ek
      | some r =>
      rw [eq] at ek
      obtain ⟨rfl, rfl⟩ := Prod.mk.inj (Option.some.inj ek)
      have hm : valV (kvP own) (Sum.inr r.1) = some (.str r.2) := valV_mem hn (List.mem_of_getElem? eq)
      have tk : own.take (i + 1) = own.take i ++ [r] := by rw [List.take_add_one, eq]; rfl
      have li : i < own.length := (List.getElem?_eq_some_iff.mp eq).1
      have good : flt p o r = true → ∃ v, (DGet H6 d (.str r.1) (some v)) ∧ ∃ H7, DPut H6 D (.str r.1) v H7 ∧ (∃ y, ([some (.ref d), some (.str p), some (oStr o), some (.ref D), some (.str r.1)] : L2.St) = [some (.ref d), some (.str p), some (oStr o), some (.ref D), y] ∧ But d H H7 ∧ H7 d = some (.frz od (.dK (kvP own))) ∧ H7 D = some (.dK (kvP ((own.take (i + 1)).filter (flt p o))))) := fun hf => by
        refine ⟨.str r.2, ?_, _, DPut.k (k := Sum.inr r.1) h2 ?_, _, rfl, ?_, ?_, ?_⟩
        · exact .inl ⟨kvP own, Sum.inr r.1, .inr ⟨od, h1⟩, rfl, hm.symm⟩
        · rw [kvP_len]
          have := List.length_filter_le (flt p o) (own.take i)
          rw [List.length_take] at this
          omega
        · exact fun b u hb nb => by rw [upd_ne (ne_of_none hb nD)]; exact b1 b u hb nb
        · rw [upd_ne dD]
          exact h1
        · rw [upd_same, putK_new _ (nodup_take hn eq _), tk, List.filter_append, List.filter_cons, if_pos hf]
          unfold kvP
          rw [List.map_append]
          rfl
      refine ⟨.str r.1, rfl, .str p, rfl, rfl, _, rfl, ite2 (fun e1 => ?_) (fun e1 => ?_)⟩
      · have hf : flt p o r = true := by
          unfold flt
          rw [Bool.or_eq_true]
          refine .inl (decide_eq_true fun z => ?_)
          rw [z] at e1
          simp at e1
        obtain ⟨v, g1, H7, g2, g3⟩ := good hf
        exact ⟨.ref d, rfl, .str r.1, rfl, d, v, rfl, g1, .ref D, rfl, .str r.1, rfl, D, H7, rfl, g2, g3⟩
      · have hp : r.1 = p := by
          refine Classical.byContradiction fun z => e1 ?_
          rw [decide_eq_false (fun y => z (V.str.inj y))]
          rfl
        cases o with
        | some l =>
          obtain ⟨v, g1, H7, g2, g3⟩ := good (by unfold flt; rw [Bool.or_eq_true]; exact .inr rfl)
          exact ⟨.str l, rfl, true, rfl, .ref d, rfl, .str r.1, rfl, d, v, rfl, g1, .ref D, rfl, .str r.1, rfl, D, H7, rfl, g2, g3⟩
        | none =>
          refine ⟨.non, rfl, false, rfl, _, rfl, b1, h1, ?_⟩
          rw [tk, List.filter_append, List.filter_cons, if_neg (by unfold flt; rw [decide_eq_false (fun z => z hp)]; decide), List.filter_nil, List.append_nil]
          exact h2
    · obtain ⟨y, rfl, b1, h1, h2⟩ := hP
      rw [kvP_len, List.take_length] at h2
      have S5 : Same H (upd H5 d (.dK (kvP own))) := fun b u hb => by
        by_cases e : b = d
        · rw [e] at hb ⊢
          rw [upd_same]
          rw [hd] at hb
          exact hb
        · rw [upd_ne e]
          exact b1 b u hb e
      have hD5 : (upd H5 d (.dK (kvP own))) D = some (.dK (kvP (own.filter (flt p o)))) := by
        rw [upd_ne (Ne.symm dD)]
        exact h2
      refine ⟨h1, ?_⟩
      generalize upd H5 d (.dK (kvP own)) = H6 at S5 hD5
      cases o with
      | none =>
        refine ⟨.non, rfl, false, rfl, .ref D, rfl, q D H6 S5 nD ?_⟩
        rw [hD5]
        show some (HO.dK (kvP (own.filter (flt p none)))) = some (HO.dK (kvP (dropP own p)))
        unfold dropP
        have e : (flt p none) = fun q : Pr => decide (q.1 ≠ p) := funext fun q => by unfold flt; exact Bool.or_false _
        rw [e]
      | some l =>
        have e : own.filter (flt p (some l)) = own := List.filter_eq_self.mpr fun q _ => by unfold flt; exact Bool.or_true _
        rw [e] at hD5
        refine ⟨.str l, rfl, true, rfl, .str l, rfl, .ref D, rfl, .str p, rfl, D, _, rfl, DPut.k (k := Sum.inr p) hD5 (by rw [kvP_len]; omega), .ref D, rfl, q D _ (fun b u hb => ?_) nD ?_⟩
        · rw [upd_ne (ne_of_none hb nD)]
          exact S5 b u hb
        · rw [upd_same, put_kvP]
          rfl
end
end Tb

set_option Elab.async false
set_option linter.all false
set_option maxRecDepth 100000
namespace Tb
open PySem PySem.Spec PyProof.Rows L2
section
variable {X : Cx} {C g : Addr} {k : Nat} {sp : Sp}
/-- len(x), x an instance whose class has its own __len__ -/
theorem call_lenO (hs : PySem.W.findIn X.K (.ref C) "__len__" = some (some (.ref g))) (hf : PySem.W.isFn X.K (.ref g) = true) (F : FnR X.prog X.w X.K X.mg X.base CX0 k g sp) (hr : Room (k + 1) X.A) :
    CallR X (.builtin "len") (fun xs H Q => ∃ (a dx : Addr) (fs : List (Str × V)), xs = [.ref a] ∧ H a = some (.ins C dx fs) ∧ sp [.ref a] H (fun v H' => ∃ n : Nat, v = .int (n : Int) ∧ n ≤ 1000 ∧ Q v H') E0) := by
  intro pins s σ H xs us Q I r h
  obtain ⟨a, dx, fs, rfl, ea, q⟩ := h
  obtain ⟨u, rfl, rx⟩ := vals1 r
  cases rx
  obtain ⟨mA, O, _⟩ := ins_get I.hok ea
  obtain ⟨od, J, _⟩ := O.look
  refine Calls.call_function_entry PySem.kind_len PySem.plain_len PySem.entry_len (PySem.args_len1 _) ?_
  unfold Builtin.«len»
  refine wpAny_bind (m := oneArg "len" _) (wpAny_pure ?_)
  refine wpAny_bind (m := callSpecial? (.ref a) (Str.ofString "__len__")) (PySem.W.special_fn I.kIn J hs (beq_iff_eq.mp hf) (wpAny_call (codeAny_mono (F X.A.in1 X.stack s H [.ref a] [.ref a] _ E0 hr.in1 I.env0.in1 (.cons rfl .nil) q) fun r s' hq => ?_)))
  cases r with
  | error er => exact hq.elim
  | ok fl =>
    cases fl with
    | ret u =>
      obtain ⟨v, H', I3, rv, n, rfl, hn, q3⟩ := I.after hq
      obtain ⟨t, rfl⟩ := rv
      refine wpAny_bind (wpAny_holding (wpAny_pure ?_))
      refine wpAny_bind (wpAny_letGo ?_)
      show wpAny _ _ (if (n : Int) < 0 then _ else _) _ _ _
      rw [if_neg (by omega)]
      show wpAny _ _ (if (n : Int) ≥ 2 ^ 63 then _ else _) _ _ _
      rw [if_neg (by omega)]
      exact wpAny_bind (wpAny_mkInt (wpAny_pure ⟨_, rfl, .int (n : Int), H', I3.tok _, ⟨_, rfl⟩, q3⟩))
    | next => exact hq.elim
    | brk => exact hq.elim
    | cont => exact hq.elim
end
end Tb

set_option Elab.async false
set_option linter.all false
set_option maxRecDepth 100000
namespace Tb
open PySem PySem.Spec PyProof.Rows L2
/-- the class Table, its methods and what they keep -/
structure TabK (P : Program) (w : World) (K : PySem.W.Frag) (mg : Str → Option Value) (base : Heap) (C CI CU : Addr) : Prop where
  T : TCls K C
  g : mg "Table" = some (.ref C)
  ins : C8.InsC K C
  make : ∃ f fd, Mk K C f ∧ Binds K fd ["self", "rows"] [] ∧ FnOk P w K mg base (L2.CX P w) 4 f fd ["self", "rows"] (spInit C CI)
  rows : ∃ p f fd, PropOf K C "rows" p f ∧ Binds K fd ["self"] [] ∧ FnOk P w K mg base CX0 1 f fd ["self"] (spTRows C)
  len : ∃ f fd, PySem.W.findIn K (.ref C) "__len__" = some (some (.ref f)) ∧ PySem.W.isFn K (.ref f) = true ∧ Binds K fd ["self"] [] ∧ FnOk P w K mg base CX0 1 f fd ["self"] (spTLen C)
  call : ∃ f fd, StX.CallO K C f ∧ Binds K fd ["self", "address"] [] ∧ FnOk P w K mg base CX0 3 f fd ["self", "address"] (spTCall C)
  chg : ∃ f fd, Meth K C "changed" f ∧ Binds K fd ["self", "prefix", "lane"] [] ∧ FnOk P w K mg base (L2.CX P w) 6 f fd ["self", "prefix", "lane"] (spTChanged C CI CU)
abbrev sRowsAre : Stmt := topS 29
theorem scRowsAre : FnScope ["board", "due", "told", "k"] ["board", "due"] (defScope sRowsAre) := ⟨rfl, rfl, rfl, by decide +kernel, rfl, by decide +kernel, by decide +kernel⟩
theorem lane_sg {t : Str} (h : isLane t = true) : Sg t := by
  unfold isLane at h
  rw [Bool.or_eq_true] at h
  rcases h with h | h
  · rw [of_decide_eq_true h]
    unfold Sg
    decide +kernel
  · exact (nm_tx ((isName_iff t).mp h)).sg
theorem addr_sg {t : Str} (h : isAddr t = true) : Sg t := (ad_tx ((isAddr_iff t).mp h)).sg
def SgP (p : Pr) : Prop := Sg p.1 ∧ Sg p.2
theorem good_sg {ps : List Pr} (g : Good ps) : ∀ p ∈ ps, SgP p := fun p hp => ⟨addr_sg (g.1 p hp).1, lane_sg (g.1 p hp).2⟩
theorem lay_2 {p : Pr} (h : SgP p) : (enc2 p).canLay0 = true ∧ (enc2 p).depth ≤ 2 := by
  refine ⟨?_, depth2 p⟩
  simp only [enc2, PyData.canLay0, PyData.canLayAll0, strOk_sg h.1, strOk_sg h.2, Bool.and_true]
theorem shaped_2 {p : Pr} (h : SgP p) : SeqAt.shaped (enc2 p) = true := by
  obtain ⟨h1, h2⟩ := lay_2 h
  show (PyData.canLay0 (enc2 p) && decide (PyData.depth (enc2 p) ≤ 64)) = true
  rw [Bool.and_eq_true]
  exact ⟨h1, decide_eq_true (by omega)⟩
theorem lay_2s : ∀ {ps : List Pr}, (∀ p ∈ ps, SgP p) → PyData.canLayAll0 (ps.map enc2) = true ∧ PyData.depthAll (ps.map enc2) ≤ 2
  | [], _ => by simp [PyData.canLayAll0, PyData.depthAll]
  | p :: ps, h => by
    obtain ⟨a1, a2⟩ := lay_2 (h p (List.mem_cons_self ..))
    obtain ⟨b1, b2⟩ := lay_2s (ps := ps) fun q hq => h q (List.mem_cons_of_mem _ hq)
    refine ⟨?_, ?_⟩
    · simp only [List.map_cons, PyData.canLayAll0, a1, b1, Bool.and_true]
    · simp only [List.map_cons, PyData.depthAll]
      omega
theorem shaped_2s {ps : List Pr} (h : ∀ p ∈ ps, SgP p) : SeqAt.shaped (.list (ps.map enc2)) = true := by
  obtain ⟨h1, h2⟩ := lay_2s h
  show (PyData.canLay0 (.list (ps.map enc2)) && decide (PyData.depth (.list (ps.map enc2)) ≤ 64)) = true
  rw [Bool.and_eq_true]
  refine ⟨by simp only [PyData.canLay0]; exact h1, decide_eq_true ?_⟩
  simp only [PyData.depth]
  omega
theorem dp_2 {K : PySem.W.Frag} {H : Hp} {a : Addr} {p : Pr} (h : H a = some (.tup [.str p.1, .str p.2])) : Dp K H (.ref a) (enc2 p) := .tup (.of h) (.cons (.str _) (.cons (.str _) .nil))
theorem dp_2s {K : PySem.W.Frag} {H : Hp} : ∀ {ts : List (Addr × Pr)}, (∀ t ∈ ts, H t.1 = some (.tup [.str t.2.1, .str t.2.2])) → DpAll K H (ts.map fun t => V.ref t.1) ((ts.map (·.2)).map enc2)
  | [], _ => .nil
  | t :: ts, h => .cons (dp_2 (h t (List.mem_cons_self ..))) (dp_2s fun q hq => h q (List.mem_cons_of_mem _ hq))
theorem eqv_self {d : PyData} (h : SeqAt.shaped d = true) : PyData.eqv d d = true := SeqAt.eqv_refl _ (SeqAt.canLay_of_shaped h)
/-- the list of these rows -/
structure Prs (H : Hp) (r : Addr) (ts : List (Addr × Pr)) : Prop where
  l : H r = some (.lst (ts.map fun t => V.ref t.1))
  t : ∀ t ∈ ts, H t.1 = some (.tup [.str t.2.1, .str t.2.2])
theorem Prs.same {H H' : Hp} {r : Addr} {ts : List (Addr × Pr)} (R : Prs H r ts) (h : Same H H') : Prs H' r ts := ⟨h _ _ R.l, fun t ht => h _ _ (R.t t ht)⟩
theorem row_at {H : Hp} {ts : List (Addr × Pr)} {ps : List Pr} (e : ts.map (·.2) = ps) {i : Nat} (hi : i < ps.length) (ht : ∀ t ∈ ts, H t.1 = some (.tup [.str t.2.1, .str t.2.2])) :
    ∃ a p, (ts.map fun t => V.ref t.1)[i]? = some (.ref a) ∧ ps[i]? = some p ∧ H a = some (.tup [.str p.1, .str p.2]) := by
  have hl : i < ts.length := by rw [← e, List.length_map] at hi; exact hi
  refine ⟨ts[i].1, ts[i].2, ?_, ?_, ht _ (List.getElem_mem hl)⟩
  · rw [List.getElem?_map, List.getElem?_eq_getElem hl]
    rfl
  · rw [← e, List.getElem?_map, List.getElem?_eq_getElem hl]
    rfl
section
variable {P : Program} {w : World} {K : PySem.W.Frag} {mg : Str → Option Value} {base : Heap}
def spRowsAre (C : Addr) : Sp := fun vs H Q _ => ∃ (b l : Addr) (own : List Pr) (ts : List (Addr × Pr)), vs = [.ref b, .ref l] ∧ TabOf C H b own ∧ Prs H l ts ∧ ts.map (·.2) = own.mergeSort le2 ∧ ∀ H', Same H H' → Q (.bl true) H'
theorem ok_rowsAre {f C CI CU : Addr} {fd : FuncData} (F : Fun K "_law_rows_are" "_law_rows_are" sRowsAre f fd) (B : Blt mg) (TK : TabK P w K mg base C CI CU) : FnOk P w K mg base CX0 3 f fd ["board", "due"] (spRowsAre C) := by
  obtain ⟨pR, fR, fdR, hpR, bR, FR⟩ := TK.rows
  obtain ⟨fL, fdL, hs, hf, bL, FL⟩ := TK.len
  have FLr : FnR P w K mg base CX0 1 fL (spTLen C) := (FL.raw bL .nil).imp fun vs H Q E h => by rw [List.append_nil]; exact h
  refine F.ok scRowsAre (fun vs H Q E h => ?_) (fun cdv A outer s H vs Q E hr h => ?_)
  · obtain ⟨b, l, own, ts, rfl, _⟩ := h
    rfl
  · obtain ⟨b, l, own, ts, rfl, hT, hD, eD, q⟩ := h
    have hz : sizeLine = 16777216 := rfl
    have hn : own.length ≤ 900 := hT.n
    have ln : ts.length = own.length := by rw [← len_sort (ps := own), ← eD, List.length_map]
    have hsg := good_sg (good_sort.mpr hT.g)
    refine ⟨_, pss_cons (ps_set (i := 2) scRowsAre.nd rfl (.inl rfl) (pe_prop (pv 0) TK.T.c hpR FR hr bR .nil pass0 (by rfl)))
      (pss_cons (ps_if (PW.pt (pw_or (pt_not (pt_val (pe_callB call_isi (by rfl) B.isi (by decide +kernel) (pa_cons (pv 2) (pa_cons (pe_bltn (by rfl) B.list PyProof.Rows.boot_list (v := .ty "list") rfl) pa_nil))))) (pw_or1 (pt_cmpR op_ne (pe_callB call_len_seq (by rfl) B.len PySem.boot_len (pa_cons (pv 2) pa_nil)) (pe_callB call_len_seq (by rfl) B.len PySem.boot_len (pa_cons (pv 1) pa_nil)) (nomark _))))) (pss_one (ps_ret pe_bl)) pss_nil)
      (pss_cons (ps_for PassesOwn.never rfl (pi_range1 (by rfl) B.range (pa_cons (pe_callB call_len_seq (by rfl) B.len PySem.boot_len (pa_cons (pv 1) pa_nil)) pa_nil)) (pg_name (i := 3) scRowsAre.nd rfl (.inl rfl))
        (pss_one (ps_if (PW.pt (pw_or (pt_not (pt_val (pe_callB call_isi (by rfl) B.isi (by decide +kernel) (pa_cons (pe_ix ix_list (pv 2) (pv 3) (fun _ _ => rfl)) (pa_cons (pe_bltn (by rfl) B.tuple PyProof.Rows.boot_tuple (v := .ty "tuple") rfl) pa_nil))))) (pw_or1 (pt_cmpR (op_neD hr.units) (pe_ix ix_list (pv 2) (pv 3) (fun _ _ => rfl)) (pe_ix ix_list (pv 1) (pv 3) (fun _ _ => rfl)) (nomark _))))) (pss_one (ps_ret pe_bl)) pss_nil)))
      (pss_cons (ps_expr (pe_bm PySem.F.plainAttrs_list PySem.F.slot_list_append PySem.F.type_list_append mt_append (pv 2) (pa_cons (pe_tup (pa_cons pe_str (pa_cons pe_str pa_nil))) pa_nil)))
      (pss_cons (ps_expr (pe_bm0 PySem.F.plainAttrs_list PySem.F.slot_list_reverse PySem.F.type_list_reverse mt_reverse (pv 2)))
      (pss_one (ps_ret (pe_and (pe_cmpR op_eq (pe_callB (call_lenO hs hf FLr hr) (by rfl) B.len PySem.boot_len (pa_cons (pv 0) pa_nil)) (pe_callB call_len_seq (by rfl) B.len PySem.boot_len (pa_cons (pv 1) pa_nil)) (nomark _)) (pe_one (pe_cmpR (op_eqD hr.units) (pe_prop (pv 0) TK.T.c hpR FR hr bR .nil pass0 (by rfl)) (pv 1) (nomark _)))))))))), ?_⟩
    obtain ⟨dx, d, h1, h2⟩ := id hT.ex
    refine ⟨.ref b, rfl, b, dx, _, rfl, h1, b, own, rfl, hT, fun p us H1 S1 np hp hus eus => ?_⟩
    have lu : us.length = own.length := by rw [← len_sort (ps := own), ← eus, List.length_map]
    have D1 := hD.same S1
    refine ⟨.ref p, rfl, .ref p, .ty "list", .type "list", .type "list", true, rfl, .ty _, .base (.lst hp), kit_ty (by decide +kernel), true, rfl, ?_⟩
    refine ⟨.ref p, rfl, p, _, rfl, .inl (sqOf hp), .ref l, rfl, l, _, rfl, .inl (sqOf D1.l), rfl, _, rfl, ?_⟩
    rw [List.length_map, List.length_map, lu, ln, decide_eq_true rfl]
    refine ⟨.ref l, rfl, l, _, rfl, .inl (sqOf D1.l), _, rfl, by rw [List.length_map]; omega, by rw [List.length_map]; omega, ?_⟩
    rw [List.length_map, ln]
    refine for_it (walk_range (lo := 0) (n := ((own.length : Nat) : Int).toNat)) (fun i σ H' => ∃ y, σ = [some (.ref b), some (.ref l), some (.ref p), y] ∧ H' = H1) ⟨none, rfl, rfl⟩ (fun _ _ _ _ _ => trivial) (fun i x σ H5 H6 hi hP hy => ?_) (fun σ H5 hP => ?_)
    · obtain ⟨y, rfl, rfl⟩ := hP
      obtain ⟨rfl, ex⟩ := hy
      have ex2 : x = .int (i : Int) := by
        rw [ex]
        show V.int (0 + (i : Int)) = _
        rw [Int.zero_add]
      subst ex2
      have hi' : i < (own.mergeSort le2).length := by rw [len_sort]; omega
      obtain ⟨a1, p1, e1, e2, e3⟩ := row_at eus hi' hus
      obtain ⟨a2, p2, e4, e5, e6⟩ := row_at eD hi' D1.t
      rw [e2] at e5
      cases e5
      have sg := hsg p1 (List.mem_of_getElem? e2)
      refine ⟨.ref p, rfl, .int (i : Int), rfl, p, _, (i : Int), .ref a1, rfl, rfl, sqOf hp, atI_nat e1, .ref a1, .ty "tuple", .type "tuple", .type "tuple", true, rfl, .ty _, .base (.tup e3), kit_ty (by decide +kernel), true, rfl, ?_⟩
      refine ⟨.ref p, rfl, .int (i : Int), rfl, p, _, (i : Int), .ref a1, rfl, rfl, sqOf hp, atI_nat e1, .ref l, rfl, .int (i : Int), rfl, l, _, (i : Int), .ref a2, rfl, rfl, sqOf D1.l, atI_nat e4, _, _, dp_2 e3, dp_2 e6, shaped_2 sg, shaped_2 sg, _, rfl, ?_⟩
      rw [eqv_self (shaped_2 sg)]
      exact ⟨_, rfl, rfl⟩
    · obtain ⟨y, rfl, rfl⟩ := hP
      refine ⟨.ref p, rfl, .inl ⟨rfl, _, sqOf hp⟩, by decide, fun t nt => ⟨p, _, _, rfl, rfl, by rw [upd_ne (ne_of_none hp nt)]; exact hp, by rw [List.length_map]; omega, ?_⟩⟩
      refine ⟨.ref p, rfl, .inl ⟨rfl, _, sqOf upd_same⟩, p, _, rfl, rfl, upd_same, ?_⟩
      have S6 : ∀ o o' o'', Same H (upd (upd (upd H5 t o) p o') p o'') := fun o o' o'' c u hc => by
        have n1 : c ≠ p := ne_of_none hc np
        rw [upd_ne n1, upd_ne n1]
        exact (S1.trans (same_upd nt)) c u hc
      generalize hH7 : upd (upd (upd H5 t (.tup [V.str (Str.ofString "5"), V.str (Str.ofString "x")])) p _) p _ = H7
      have S7 : Same H H7 := by rw [← hH7]; exact S6 _ _ _
      have D7 := hD.same S7
      have T7 := hT.same S7
      refine ⟨.ref b, rfl, b, dx, _, rfl, S7 _ _ h1, b, own, rfl, T7, own.length, rfl, by omega, .ref l, rfl, l, _, rfl, .inl (sqOf D7.l), rfl, _, rfl, ?_⟩
      rw [List.length_map, ln, decide_eq_true rfl]
      refine ⟨.ref b, rfl, b, dx, _, rfl, S7 _ _ h1, b, own, rfl, T7, fun p2 us2 H8 S8 np2 hp2 hus2 eus2 => ?_⟩
      refine ⟨.ref l, rfl, _, _, .lst (sqOf hp2) (dp_2s hus2), .lst (sqOf (D7.same S8).l) (dp_2s (D7.same S8).t), by rw [eus2]; exact shaped_2s hsg, by rw [eD]; exact shaped_2s hsg, ?_⟩
      rw [eus2, eD, eqv_self (shaped_2s hsg)]
      exact q _ (S7.trans S8)
end
end Tb

set_option Elab.async false
set_option linter.all false
set_option maxRecDepth 100000
namespace Tb
open PySem PySem.Spec PyProof.Rows L2
abbrev sWays : Stmt := topS 30
abbrev sPairs : Stmt := topS 31
abbrev sCalls : Stmt := topS 33
theorem scWays : FnScope ["bag", "found", "k"] ["bag"] (defScope sWays) := ⟨rfl, rfl, rfl, by decide +kernel, rfl, by decide +kernel, by decide +kernel⟩
theorem scPairs : FnScope ["bag", "ways", "count", "found", "known", "k", "prefix"] ["bag", "ways", "count"] (defScope sPairs) := ⟨rfl, rfl, rfl, by decide +kernel, rfl, by decide +kernel, by decide +kernel⟩
theorem scCalls : FnScope ["board", "own", "addresses", "address", "due", "told"] ["board", "own", "addresses"] (defScope sCalls) := ⟨rfl, rfl, rfl, by decide +kernel, rfl, by decide +kernel, by decide +kernel⟩
/-- two addresses that hold unlike things -/
theorem ne_of {H : Hp} {a b : Addr} {x y : HO} (h1 : H a = some x) (h2 : H b = some y) (n : x ≠ y) : a ≠ b := fun e => by
  rw [e, h2] at h1
  cases h1
  exact n rfl
/-- the drawn lanes -/
structure Ways (H : Hp) (l : Addr) (ws : List Str) : Prop where
  l : H l = some (.lst (ws.map V.str))
  n : 1 ≤ ws.length ∧ ws.length ≤ 6
  g : ∀ x ∈ ws, isLane x = true
theorem lane_tx {x : Str} (h : isLane x = true) : Tx x := ⟨by have := lane_len h; omega, lane_sg h⟩
theorem Ways.txs {H : Hp} {l : Addr} {ws : List Str} (W : Ways H l ws) : Txs H l ws := ⟨W.l, by have := W.n; omega, fun x hx => lane_tx (W.g x hx)⟩
theorem Ways.but {H H' : Hp} {l p : Addr} {ws : List Str} (W : Ways H l ws) (B : Bag H p) (h : But p H H') : Ways H' l ws := ⟨h _ _ W.l (W.txs.off B), W.n, W.g⟩
theorem Ways.same {H H' : Hp} {l : Addr} {ws : List Str} (W : Ways H l ws) (h : Same H H') : Ways H' l ws := ⟨h _ _ W.l, W.n, W.g⟩
theorem lane_of_name {t : Str} (h : Nm (tl t)) : isLane t = true := by
  unfold isLane
  rw [Bool.or_eq_true]
  exact .inr ((isName_iff t).mpr h)
section
variable {P : Program} {w : World} {K : PySem.W.Frag} {mg : Str → Option Value} {base : Heap}
def spWays : Sp := fun vs H Q _ => ∃ (p : Addr), vs = [.ref p] ∧ Bag H p ∧ ∀ (l : Addr) (ws : List Str) (H' : Hp), Ways H' l ws → H l = none → Bag H' p → But p H H' → Q (.ref l) H'
theorem ok_ways {f g g2 : Addr} {fd gd gd2 : FuncData} (F : Fun K "_law_ways" "_law_ways" sWays f fd) (D : Dd K mg "_law_draw" sDraw ["bag", "size"] g gd) (D2 : Dd K mg "_law_fresh_name" sFresh ["bag", "known"] g2 gd2) (B : Blt mg) : FnOk P w K mg base CX0 3 f fd ["bag"] spWays := by
  have GD : FnOk P w K mg base CX0 1 g gd ["bag", "size"] spDraw := ok_draw D.F B
  have G2 : FnOk P w K mg base CX0 2 g2 gd2 ["bag", "known"] spFresh := ok_fresh D2.F D B
  refine F.ok scWays (fun vs H Q E h => ?_) (fun cdv A outer s H vs Q E hr h => ?_)
  · obtain ⟨p, rfl, _⟩ := h
    rfl
  · obtain ⟨p, rfl, hB, q⟩ := h
    have hz : sizeLine = 16777216 := rfl
    have hr1 : Room 1 _ := hr.mono (show 1 ≤ 2 by decide)
    refine ⟨_, pss_cons (ps_set (i := 1) scWays.nd rfl (.inl rfl) (pe_lst pa_nil))
      (pss_cons (ps_for PassesOwn.never rfl (pi_range1 (by rfl) B.range (pa_cons (pe_op op_add pe_int (pe_call GD hr1 (by rfl) D.g D.F.kp D.b .nil pass0 (pa_cons (pv 0) (pa_cons pe_int pa_nil)))) pa_nil)) (pg_name (i := 2) scWays.nd rfl (.inl rfl))
        (pss_one (ps_expr (pe_bm PySem.F.plainAttrs_list PySem.F.slot_list_append PySem.F.type_list_append mt_append (pv 1) (pa_cons (pe_call G2 hr (by rfl) D2.g D2.F.kp D2.b .nil pass0 (pa_cons (pv 0) (pa_cons (pv 1) pa_nil))) pa_nil)))))
      (pss_one (ps_ret (pe_op op_cat (pe_lst (pa_cons pe_str pa_nil)) (pv 1))))), ?_⟩
    refine ⟨by decide, fun F nF => ?_⟩
    refine ⟨.ref p, rfl, p, 4, rfl, hB.same (same_upd nF), by decide, by decide, fun n H1 n0 n1 B1 b1 => ⟨1, n, rfl, rfl, 1 + n, rfl, by omega, by omega, ?_⟩⟩
    have hF1 : H1 F = some (.lst ([] : List V)) := b1 _ _ upd_same (fun e => by obtain ⟨_, _, _, _, hp, _⟩ := hB; rw [e, hp] at nF; cases nF)
    have b01 : But p H H1 := (Same.but (same_upd nF)).trans b1
    refine for_it (walk_range (lo := 0) (n := (1 + n).toNat)) (fun i σ H' => ∃ (y : Option V) (ks : List Str), σ = [some (.ref p), some (.ref F), y] ∧ H' F = some (.lst (ks.map V.str)) ∧ ks.length = i ∧ (∀ x ∈ ks, Nm (tl x)) ∧ Bag H' p ∧ But p H H')
      ⟨none, [], rfl, hF1, rfl, (fun x hx => by cases hx), B1, b01⟩ (fun _ _ _ _ _ => trivial) (fun i x σ H5 H6 hi hP hy => ?_) (fun σ H5 hP => ?_)
    · obtain ⟨y, ks, rfl, hF, hl, hN, B5, b5⟩ := hP
      obtain ⟨rfl, rfl⟩ := hy
      have T5 : Txs H6 F ks := ⟨hF, by omega, fun x hx => nm_tx (hN x hx)⟩
      refine ⟨.ref F, rfl, .inl ⟨rfl, _, sqOf hF⟩, .ref p, rfl, .ref F, rfl, p, F, ks, rfl, B5, T5, hN, fun z H7 Nz B7 b7 => ?_⟩
      have hF7 := (T5.but B5 b7).l
      have nFp := T5.off B5
      refine ⟨F, _, .str z, rfl, rfl, hF7, by rw [List.length_map]; omega, ?_⟩
      refine ⟨_, ks ++ [z], rfl, by rw [upd_same, List.map_append]; rfl, by rw [List.length_append, hl]; rfl, fun x hx => ?_, ?_, fun c u hc nc => ?_⟩
      · rcases List.mem_append.mp hx with hx | hx
        · exact hN x hx
        · rw [List.mem_singleton.mp hx]
          exact Nz
      · obtain ⟨n, c, m, ns, hp, rest⟩ := B7
        exact ⟨n, c, m, ns, by rw [upd_ne (Ne.symm nFp)]; exact hp, rest⟩
      · rw [upd_ne (ne_of_none hc nF)]
        exact (b5.trans b7) c u hc nc
    · obtain ⟨y, ks, rfl, hF, hl, hN, B5, b5⟩ := hP
      refine ⟨by decide, fun E nE => ⟨.ref F, rfl, E, F, _, _, rfl, rfl, upd_same, by rw [upd_ne (ne_of_none hF nE)]; exact hF, ?_, fun l nl => ?_⟩⟩
      · rw [List.length_map]
        show 1 + ks.length ≤ sizeLine
        omega
      · have S : Same H5 (upd (upd H5 E (.lst [V.str (Str.ofString "")])) l (.lst ([V.str (Str.ofString "")] ++ ks.map V.str))) := (same_upd nE).trans (same_upd nl)
        have nl0 : H l = none := by
          cases e : H l with
          | none => rfl
          | some o =>
            exfalso
            by_cases elp : l = p
            · obtain ⟨_, _, _, _, hp, _⟩ := B5.same (same_upd (o := HO.lst [V.str (Str.ofString "")]) nE)
              rw [elp, hp] at nl
              cases nl
            · rw [(same_upd nE) _ _ (b5 _ _ e elp)] at nl
              cases nl
        refine q l (Str.ofString "" :: ks) _ ⟨upd_same, by rw [List.length_cons]; omega, fun x hx => ?_⟩ nl0 (B5.same S) (b5.trans (Same.but S))
        rcases List.mem_cons.mp hx with rfl | hx
        · unfold isLane
          rw [decide_eq_true rfl]
          rfl
        · exact lane_of_name (hN x hx)
/-- the lane of a dict of texts is a text or None -/
theorem laneV_kvP (own : List Pr) (a : Str) : laneV (kvP own) a = .non ∨ ∃ z, laneV (kvP own) a = .str z ∧ ∃ q ∈ own, q.2 = z := by
  unfold laneV
  cases long (kvP own) a with
  | none => exact .inl rfl
  | some p =>
    show (valV (kvP own) (Sum.inr p)).getD .non = .non ∨ ∃ z, (valV (kvP own) (Sum.inr p)).getD .non = .str z ∧ _
    rw [valV_kvP_eq]
    cases e : own.find? fun q => decide (q.1 = p) with
    | none => exact .inl rfl
    | some q => exact .inr ⟨q.2, rfl, q, List.mem_of_find?_eq_some e, rfl⟩
def spCalls (C : Addr) : Sp := fun vs H Q _ => ∃ (b d l : Addr) (own : List Pr) (as : List Str), vs = [.ref b, .ref d, .ref l] ∧ TabOf C H b own ∧ H d = some (.dK (kvP own)) ∧ H l = some (.lst (as.map V.str)) ∧ (∀ a ∈ as, a.length ≤ 1000) ∧ Q (.bl true) H
theorem ok_calls {f g C CI CU : Addr} {fd gd : FuncData} (F : Fun K "_law_calls_are" "_law_calls_are" sCalls f fd) (D : Dd K mg "_law_lane" sLLane ["own", "address"] g gd) (B : Blt mg) (TK : TabK P w K mg base C CI CU) : FnOk P w K mg base CX0 4 f fd ["board", "own", "addresses"] (spCalls C) := by
  obtain ⟨fC, fdC, hC, bC, FC⟩ := TK.call
  have GL : FnOk P w K mg base CX0 1 g gd ["own", "address"] (spDA laneV) := ok_llane D.F B
  have FCr : FnR P w K mg base CX0 3 fC (spTCall C) := (FC.raw bC .nil).imp fun vs H Q E h => by rw [List.append_nil]; exact h
  refine F.ok scCalls (fun vs H Q E h => ?_) (fun cdv A outer s H vs Q E hr h => ?_)
  · obtain ⟨b, d, l, own, as, rfl, _⟩ := h
    rfl
  · obtain ⟨b, d, l, own, as, rfl, hT, hd, hl, ha, q⟩ := h
    have hr1 : Room 1 _ := hr.mono (show 1 ≤ 3 by decide)
    refine ⟨_, pss_cons (ps_for PassesOwn.never rfl (pi_list (pv 2)) (pg_name (i := 3) scCalls.nd rfl (.inl rfl))
        (pss_cons (ps_set (i := 4) scCalls.nd rfl (.inl rfl) (pe_call GL hr1 (by rfl) D.g D.F.kp D.b .nil pass0 (pa_cons (pv 1) (pa_cons (pv 3) pa_nil))))
        (pss_cons (ps_set (i := 5) scCalls.nd rfl (.inl rfl) (StX.pe_callO (pv 0) hC FCr hr pass0 (pa_cons (pv 3) pa_nil)))
        (pss_cons (ps_if (PW.pt (pw_and (pt_cmpR op_isN (pv 4) pe_non (nomark _)) (pw_and1 (pt_cmp (pc_notN (pv 5)))))) (pss_one (ps_ret pe_bl)) pss_nil)
        (pss_one (ps_if (PW.pt (pw_and (pt_cmp (pc_notN (pv 4))) (pw_and1 (PW.pt (pw_or (pt_not (pt_val (pe_callB call_isi (by rfl) B.isi (by decide +kernel) (pa_cons (pv 5) (pa_cons (pe_bltn (by rfl) B.str PyProof.Rows.boot_str (v := .ty "str") rfl) pa_nil))))) (pw_or1 (pt_cmpR op_ne (pv 5) (pv 4) (nomark _)))))))) (pss_one (ps_ret pe_bl)) pss_nil))))))
      (pss_one (ps_ret pe_bl)), ?_⟩
    refine ⟨.ref l, rfl, l, rfl, ⟨_, sqOf hl⟩, ?_⟩
    refine for_it (walk_list (a := l) (xs := as.map V.str)) (fun i σ H' => ∃ y3 y4 y5, σ = [some (.ref b), some (.ref d), some (.ref l), y3, y4, y5] ∧ H' = H) ⟨none, none, none, rfl, rfl⟩ (fun i σ H' _ hP => by obtain ⟨_, _, _, _, rfl⟩ := hP; exact sqOf hl) (fun i x σ H5 H6 hi hP hy => ?_) (fun σ H5 hP => ?_)
    · obtain ⟨y3, y4, y5, rfl, rfl⟩ := hP
      obtain ⟨rfl, ex⟩ := hy
      rw [List.getElem?_map] at ex
      cases e : as[i]? with
      | none => rw [e] at ex; cases ex
      | some a =>
      rw [e] at ex
      cases (Option.some.inj ex)
      have la := ha a (List.mem_of_getElem? e)
      obtain ⟨dx, d', h1, h2⟩ := id hT.ex
      refine ⟨.ref d, rfl, .str a, rfl, d, _, a, rfl, hd, la, ?_⟩
      refine ⟨.ref b, rfl, b, rfl, .str a, rfl, .inr ⟨dx, _, h1⟩, b, own, a, rfl, hT, la, ?_⟩
      rcases laneV_kvP own a with e2 | ⟨z, e2, _⟩
      · rw [e2]
        refine ⟨.non, rfl, rfl, true, rfl, .non, rfl, false, rfl, ?_⟩
        exact ⟨.non, rfl, false, rfl, _, _, _, rfl, rfl⟩
      · rw [e2]
        refine ⟨.str z, rfl, rfl, false, rfl, ?_⟩
        refine ⟨.str z, rfl, true, rfl, .str z, rfl, .str z, .ty "str", .type "str", .type "str", true, rfl, .ty _, .base (.str _), kit_ty (by decide +kernel), true, rfl, ?_⟩
        refine ⟨.str z, rfl, .str z, rfl, rfl, false, ?_, _, _, _, rfl, rfl⟩
        rw [decide_eq_true rfl]
        rfl
    · obtain ⟨y3, y4, y5, rfl, rfl⟩ := hP
      exact q
end
end Tb

set_option Elab.async false
set_option linter.all false
set_option maxRecDepth 100000
namespace Tb
open PySem PySem.Spec PyProof.Rows L2
abbrev sAddrs : Stmt := topS 32
theorem scAddrs : FnScope ["bag", "own", "found", "prefix", "sign", "k"] ["bag", "own"] (defScope sAddrs) := ⟨rfl, rfl, rfl, by decide +kernel, rfl, by decide +kernel, by decide +kernel⟩
theorem Bag.off {H : Hp} {p a : Addr} {o : HO} (B : Bag H p) (h : H a = none) : a ≠ p := fun e => by
  obtain ⟨_, _, _, _, hp, _⟩ := B
  rw [e, hp] at h
  cases h
theorem Bag.put {H : Hp} {p a : Addr} {o : HO} (B : Bag H p) (h : a ≠ p) : Bag (L2.upd H a o) p := by
  obtain ⟨n, c, m, ns, hp, rest⟩ := B
  exact ⟨n, c, m, ns, by rw [upd_ne (Ne.symm h)]; exact hp, rest⟩
theorem But.put {p a : Addr} {H H' : Hp} {o : HO} (b : But p H H') (h : H a = none) : But p H (L2.upd H' a o) := fun c u hc nc => by
  rw [upd_ne (ne_of_none hc h)]
  exact b c u hc nc
theorem bag_free {H H' : Hp} {p a : Addr} (B : Bag H p) (b : But p H H') (B' : Bag H' p) (h : H' a = none) : H a = none := by
  cases e : H a with
  | none => rfl
  | some o =>
    by_cases c : a = p
    · obtain ⟨_, _, _, _, hp, _⟩ := B'
      rw [c, hp] at h
      cases h
    · rw [b _ _ e c] at h
      cases h
theorem bag_no {H : Hp} {p a : Addr} (B : Bag H p) (h : H a = none) : a ≠ p := fun e => by
  obtain ⟨_, _, _, _, hp, _⟩ := B
  rw [e, hp] at h
  cases h
theorem bag_tup {H : Hp} {p a : Addr} {xs : List V} (B : Bag H p) (h : H a = some (.tup xs)) : a ≠ p := fun e => by
  obtain ⟨_, _, _, _, hp, _⟩ := B
  rw [e, hp] at h
  cases h
theorem eqV_str (x z : Str) : eqV (.str x) (.str z) = (x == z) := rfl
theorem inV_strs {z : Str} {ks : List Str} (h : inV (.str z) (ks.map V.str) = false) : z ∉ ks := fun hm => by
  unfold inV at h
  rw [List.any_map, List.any_eq_false] at h
  exact h z hm (by show eqV (.str z) (.str z) = true; rw [eqV_str]; exact beq_self_eq_true z)
section
variable {P : Program} {w : World} {K : PySem.W.Frag} {mg : Str → Option Value} {base : Heap}
def spPairs : Sp := fun vs H Q _ => ∃ (p l : Addr) (ws : List Str) (n : Int), vs = [.ref p, .ref l, .int n] ∧ Bag H p ∧ Ways H l ws ∧ 0 ≤ n ∧ n ≤ 70 ∧ ∀ (F : Addr) (ts : List (Addr × Pr)) (H' : Hp), Prs H' F ts → Good (ts.map (·.2)) → ts.length ≤ 70 → H F = none → Bag H' p → But p H H' → Q (.ref F) H'
theorem ok_pairs {f g g2 : Addr} {fd gd gd2 : FuncData} (F : Fun K "_law_pairs" "_law_pairs" sPairs f fd) (D : Dd K mg "_law_draw" sDraw ["bag", "size"] g gd) (D2 : Dd K mg "_law_prefix" sPrefix ["bag", "known"] g2 gd2) (B : Blt mg) : FnOk P w K mg base CX0 3 f fd ["bag", "ways", "count"] spPairs := by
  have GD : FnOk P w K mg base CX0 1 g gd ["bag", "size"] spDraw := ok_draw D.F B
  have G2 : FnOk P w K mg base CX0 2 g2 gd2 ["bag", "known"] spPrefix := ok_prefix D2.F D B
  refine F.ok scPairs (fun vs H Q E h => ?_) (fun cdv A outer s H vs Q E hr h => ?_)
  · obtain ⟨p, l, ws, n, rfl, _⟩ := h
    rfl
  · obtain ⟨p, l, ws, n, rfl, hB, hW, n0, n1, q⟩ := h
    have hz : sizeLine = 16777216 := rfl
    have hr1 : Room 1 _ := hr.mono (show 1 ≤ 2 by decide)
    refine ⟨_, pss_cons (ps_set (i := 3) scPairs.nd rfl (.inl rfl) (pe_lst pa_nil))
      (pss_cons (ps_set (i := 4) scPairs.nd rfl (.inl rfl) (pe_lst pa_nil))
      (pss_cons (ps_for PassesOwn.never rfl (pi_range1 (by rfl) B.range (pa_cons (pv 2) pa_nil)) (pg_name (i := 5) scPairs.nd rfl (.inl rfl))
        (pss_cons (ps_set (i := 6) scPairs.nd rfl (.inl rfl) (pe_call G2 hr (by rfl) D2.g D2.F.kp D2.b .nil pass0 (pa_cons (pv 0) (pa_cons (pv 4) pa_nil))))
        (pss_one (ps_if (pt_cmpR op_notIn_seq (pv 6) (pv 4) (by rfl))
          (pss_cons (ps_expr (pe_bm PySem.F.plainAttrs_list PySem.F.slot_list_append PySem.F.type_list_append mt_append (pv 4) (pa_cons (pv 6) pa_nil)))
          (pss_one (ps_expr (pe_bm PySem.F.plainAttrs_list PySem.F.slot_list_append PySem.F.type_list_append mt_append (pv 3) (pa_cons (pe_tup (pa_cons (pv 6) (pa_cons (pe_ix ix_list (pv 1) (pe_call GD hr1 (by rfl) D.g D.F.kp D.b .nil pass0 (pa_cons (pv 0) (pa_cons (pe_callB call_len_seq (by rfl) B.len PySem.boot_len (pa_cons (pv 1) pa_nil)) pa_nil))) (fun _ _ => rfl)) pa_nil))) pa_nil))))) pss_nil))))
      (pss_one (ps_ret (pv 3))))), ?_⟩
    refine ⟨by decide, fun F nF => ⟨by decide, fun Kn nK => ?_⟩⟩
    have FK : F ≠ Kn := fun e => by rw [e, upd_same] at nK; cases nK
    have nK0 : H Kn = none := by rw [upd_ne (Ne.symm FK)] at nK; exact nK
    have S0 : Same H (upd (upd H F (.lst [])) Kn (.lst [])) := (same_upd nF).trans (same_upd nK)
    refine ⟨.int n, rfl, n, rfl, by omega, by omega, ?_⟩
    refine for_it (walk_range (lo := 0) (n := n.toNat)) (fun i σ H' => ∃ (y5 y6 : Option V) (ts : List (Addr × Pr)), σ = [some (.ref p), some (.ref l), some (.int n), some (.ref F), some (.ref Kn), y5, y6] ∧ Prs H' F ts ∧ H' Kn = some (.lst ((ts.map fun t => t.2.1).map V.str)) ∧ ts.length ≤ i ∧ Good (ts.map (·.2)) ∧ Bag H' p ∧ But p H H')
      ⟨none, none, [], rfl, ⟨by rw [upd_ne FK]; exact upd_same, fun t ht => by cases ht⟩, upd_same, Nat.le_refl _, good_nil, hB.same S0, Same.but S0⟩ (fun _ _ _ _ _ => trivial) (fun i x σ H5 H6 hi hP hy => ?_) (fun σ H5 hP => ?_)
    · obtain ⟨y5, y6, ts, rfl, hF, hK, hl, hg, B5, b5⟩ := hP
      obtain ⟨rfl, rfl⟩ := hy
      have hAd : ∀ x ∈ ts.map (fun t => t.2.1), Ad (tl x) := fun x hx => by
        obtain ⟨t, ht, rfl⟩ := List.mem_map.mp hx
        exact (isAddr_iff _).mp (hg.1 t.2 (List.mem_map.mpr ⟨t, ht, rfl⟩)).1
      have TK : Txs H6 Kn (ts.map fun t => t.2.1) := ⟨hK, by rw [List.length_map]; omega, fun x hx => ad_tx (hAd x hx)⟩
      refine ⟨.ref p, rfl, .ref Kn, rfl, p, Kn, _, rfl, B5, TK, hAd, fun z H7 Nz B7 b7 => ?_⟩
      have nFp : F ≠ p := fun e => bag_no hB nF e
      have nKp : Kn ≠ p := fun e => bag_no hB nK0 e
      have TK7 := TK.but B5 b7
      have hF7 : H7 F = some (.lst (ts.map fun t => V.ref t.1)) := b7 _ _ hF.l nFp
      have ht7 : ∀ t ∈ ts, H7 t.1 = some (.tup [.str t.2.1, .str t.2.2]) := fun t ht => b7 _ _ (hF.t t ht) (bag_tup B5 (hF.t t ht))
      have b57 := b5.trans b7
      refine ⟨.str z, rfl, .ref Kn, rfl, Kn, _, rfl, .inl (sqOf TK7.l), rfl, flat_strs _, _, rfl, ite2 (fun e => ?_) (fun e => ?_)⟩
      · have e : inV (.str z) ((ts.map fun t => t.2.1).map V.str) = false := by simpa using e
        have hz' : z ∉ ts.map fun t => t.2.1 := inV_strs e
        refine ⟨.ref Kn, rfl, .inl ⟨rfl, _, sqOf TK7.l⟩, .str z, rfl, Kn, _, .str z, rfl, rfl, TK7.l, by rw [List.length_map, List.length_map]; omega, ?_⟩
        have hF8 : (upd H7 Kn (.lst ((ts.map fun t => t.2.1).map V.str ++ [V.str z]))) F = some (.lst (ts.map fun t => V.ref t.1)) := by rw [upd_ne FK]; exact hF7
        have ht8 : ∀ t ∈ ts, (upd H7 Kn (.lst ((ts.map fun t => t.2.1).map V.str ++ [V.str z]))) t.1 = some (.tup [.str t.2.1, .str t.2.2]) := fun t ht => by
          rw [upd_ne (ne_of (ht7 t ht) TK7.l (fun z => by cases z))]
          exact ht7 t ht
        have B8 : Bag (upd H7 Kn (.lst ((ts.map fun t => t.2.1).map V.str ++ [V.str z]))) p := B7.put nKp
        have b8 : But p H (upd H7 Kn (.lst ((ts.map fun t => t.2.1).map V.str ++ [V.str z]))) := b57.put nK0
        have hK8 : (upd H7 Kn (.lst ((ts.map fun t => t.2.1).map V.str ++ [V.str z]))) Kn = some (.lst ((ts.map fun t => t.2.1).map V.str ++ [V.str z])) := upd_same
        generalize upd H7 Kn (.lst ((ts.map fun t => t.2.1).map V.str ++ [V.str z])) = H8 at hF8 ht8 B8 b8 hK8
        have W8 := hW.but hB b8
        have wn := W8.n
        refine ⟨.ref F, rfl, .inl ⟨rfl, _, sqOf hF8⟩, .str z, rfl, .ref l, rfl, .ref p, rfl, .ref l, rfl, l, _, rfl, .inl (sqOf W8.l), p, _, rfl, B8, by rw [List.length_map]; omega, by rw [List.length_map]; omega, fun j H9 j0 j1 B9 b9 => ?_⟩
        obtain ⟨x, hx, ex⟩ := pick j0 j1
        have W9 := W8.but B8 b9
        refine ⟨l, _, j, .str x, rfl, rfl, sqOf W9.l, ex, by show 2 ≤ sizeLine; decide, fun T nT => ?_⟩
        have hF9 := b9 _ _ hF8 nFp
        have hK9 := b9 _ _ hK8 nKp
        have ht9 : ∀ t ∈ ts, H9 t.1 = some (.tup [.str t.2.1, .str t.2.2]) := fun t ht => b9 _ _ (ht8 t ht) (bag_tup B8 (ht8 t ht))
        have nTp := bag_no B9 nT
        have nT0 := bag_free hB (b8.trans b9) B9 nT
        have TF : F ≠ T := ne_of_none hF9 nT
        have TKn : Kn ≠ T := ne_of_none hK9 nT
        refine ⟨F, _, .ref T, rfl, rfl, by rw [upd_ne TF]; exact hF9, by rw [List.length_map]; omega, ?_⟩
        refine ⟨_, _, ts ++ [(T, (z, x))], rfl, ⟨?_, fun t ht => ?_⟩, ?_, ?_, ?_, ?_, ?_⟩
        · rw [upd_same, List.map_append]
          rfl
        · rcases List.mem_append.mp ht with ht | ht
          · rw [upd_ne (ne_of (ht9 t ht) hF9 (fun z => by cases z)), upd_ne (ne_of_none (ht9 t ht) nT)]
            exact ht9 t ht
          · rw [List.mem_singleton.mp ht, upd_ne (Ne.symm TF)]
            exact upd_same
        · rw [upd_ne (Ne.symm FK), upd_ne TKn, hK9, List.map_append, List.map_append]
          rfl
        · rw [List.length_append]
          show ts.length + 1 ≤ i + 1
          omega
        · rw [List.map_append]
          refine good_snoc hg ?_
          unfold ok1
          rw [(isAddr_iff z).mpr Nz, hW.g x hx]
          have nn : valV (kvP (ts.map (·.2))) (Sum.inr z) = none := by
            cases e9 : valV (kvP (ts.map (·.2))) (Sum.inr z) with
            | none => rfl
            | some v =>
              have m := (valV_kvP z _).mp (by rw [e9]; rfl)
              rw [List.map_map] at m
              exact absurd m hz'
          show (true && true && (valV (kvP (ts.map (·.2))) (Sum.inr z)).isNone) = true
          rw [nn]
          rfl
        · exact (B9.put (Ne.symm (Ne.symm nTp))).put nFp
        · exact ((b8.trans b9).put nT0).put nF
      · exact ⟨_, _, ts, rfl, ⟨hF7, ht7⟩, TK7.l, by omega, hg, B7, b57⟩
    · obtain ⟨y5, y6, ts, rfl, hF, hK, hl, hg, B5, b5⟩ := hP
      exact ⟨.ref F, rfl, q F ts _ hF hg (by omega) nF B5 b5⟩
end
end Tb

set_option Elab.async false
set_option linter.all false
set_option maxRecDepth 100000
namespace Tb
open PySem PySem.Spec PyProof.Rows L2
section
variable {P : Program} {w : World} {K : PySem.W.Frag} {mg : Str → Option Value} {base : Heap}
/-- while the addresses are gathered -/
structure Gat (H0 H : Hp) (p d F : Addr) (u : HO) (ks : List Str) : Prop where
  fn : H F = some (.lst (ks.map V.str))
  dn : H d = some u
  bn : Bag H p
  rn : ∀ b o, H0 b = some o → b ≠ p → b ≠ d → H b = some o
  zn : ∀ x ∈ ks, x.length ≤ 1000
theorem Gat.put {H0 H : Hp} {p d F : Addr} {u : HO} {ks : List Str} (G : Gat H0 H p d F u ks) (nF : H0 F = none) (Fp : F ≠ p) (Fd : F ≠ d) {z : Str} (hz : z.length ≤ 1000) : Gat H0 (L2.upd H F (.lst (ks.map V.str ++ [V.str z]))) p d F u (ks ++ [z]) where
  fn := by rw [upd_same, List.map_append]; rfl
  dn := by rw [upd_ne (Ne.symm Fd)]; exact G.dn
  bn := G.bn.put Fp
  rn := fun c o hc n1 n2 => by rw [upd_ne (ne_of_none hc nF)]; exact G.rn c o hc n1 n2
  zn := fun x hx => by
    rcases List.mem_append.mp hx with hx | hx
    · exact G.zn x hx
    · rw [List.mem_singleton.mp hx]
      exact hz
theorem Gat.draw {H0 H H' : Hp} {p d F : Addr} {u : HO} {ks : List Str} (G : Gat H0 H p d F u ks) (Fp : F ≠ p) (dp : d ≠ p) (B : Bag H' p) (b : But p H H') : Gat H0 H' p d F u ks where
  fn := b _ _ G.fn Fp
  dn := b _ _ G.dn dp
  bn := B
  rn := fun c o hc n1 n2 => b _ _ (G.rn c o hc n1 n2) n1
  zn := G.zn
def spAddrs : Sp := fun vs H Q _ => ∃ (p d : Addr) (own : List Pr), vs = [.ref p, .ref d] ∧ Bag H p ∧ H d = some (.dK (kvP own)) ∧ Good own ∧ own.length ≤ 100 ∧ ∀ (F : Addr) (as : List Str) (H' : Hp), H' F = some (.lst (as.map V.str)) → (∀ a ∈ as, a.length ≤ 1000) → H F = none → Bag H' p → But p H H' → Q (.ref F) H'
theorem keys_txs {own : List Pr} (g : Good own) (hn : own.length ≤ 100) {H : Hp} {l : Addr} (h : H l = some (.lst ((kvP own).map fun kv => kV kv.1))) : Txs H l (own.map Prod.fst) ∧ ∀ x ∈ own.map Prod.fst, Ad (tl x) := by
  have e : ((kvP own).map fun kv => kV kv.1) = (own.map Prod.fst).map V.str := by
    unfold kvP
    rw [List.map_map, List.map_map]
    rfl
  have hA : ∀ x ∈ own.map Prod.fst, Ad (tl x) := fun x hx => by
    obtain ⟨q, hq, rfl⟩ := List.mem_map.mp hx
    exact (isAddr_iff _).mp (g.1 q hq).1
  exact ⟨⟨by rw [h, e], by rw [List.length_map]; exact hn, fun x hx => ad_tx (hA x hx)⟩, hA⟩
theorem ok_addrs {f g g2 : Addr} {fd gd gd2 : FuncData} (F : Fun K "_law_addresses" "_law_addresses" sAddrs f fd) (D : Dd K mg "_law_draw" sDraw ["bag", "size"] g gd) (D2 : Dd K mg "_law_prefix" sPrefix ["bag", "known"] g2 gd2) (B : Blt mg) : FnOk P w K mg base CX0 3 f fd ["bag", "own"] spAddrs := by
  have GD : FnOk P w K mg base CX0 1 g gd ["bag", "size"] spDraw := ok_draw D.F B
  have G2 : FnOk P w K mg base CX0 2 g2 gd2 ["bag", "known"] spPrefix := ok_prefix D2.F D B
  refine F.ok scAddrs (fun vs H Q E h => ?_) (fun cdv A outer s H vs Q E hr h => ?_)
  · obtain ⟨p, d, own, rfl, _⟩ := h
    rfl
  · obtain ⟨p, d, own, rfl, hB, hd, hg, hn, q⟩ := h
    have hz : sizeLine = 16777216 := rfl
    have hz10 := dg_len
    have hr1 : Room 1 _ := hr.mono (show 1 ≤ 2 by decide)
    refine ⟨_, pss_cons (ps_set (i := 2) scAddrs.nd rfl (.inl rfl) (pe_lst pa_nil))
      (pss_cons (ps_lock (ps_for PassesOwn.never rfl (pi_keys (pv 1)) (pg_name (i := 3) scAddrs.nd rfl (.inl rfl))
        (pss_cons (ps_set (i := 4) scAddrs.nd rfl (.inl rfl) (pe_item_str pe_str (pe_call GD hr1 (by rfl) D.g D.F.kp D.b .nil pass0 (pa_cons (pv 0) (pa_cons pe_int pa_nil))) (fun _ _ => rfl)))
        (pss_cons (ps_expr (pe_bm PySem.F.plainAttrs_list PySem.F.slot_list_append PySem.F.type_list_append mt_append (pv 2) (pa_cons (pv 3) pa_nil)))
        (pss_cons (ps_expr (pe_bm PySem.F.plainAttrs_list PySem.F.slot_list_append PySem.F.type_list_append mt_append (pv 2) (pa_cons (pe_slice sl_str (pe_op op_add_str (pv 3) (pv 4)) po_none (po_some pe_int)) pa_nil)))
        (pss_cons (ps_expr (pe_bm PySem.F.plainAttrs_list PySem.F.slot_list_append PySem.F.type_list_append mt_append (pv 2) (pa_cons (pe_slice sl_str (pe_op op_add_str (pe_op op_add_str (pv 3) (pv 4)) pe_str) po_none (po_some pe_int)) pa_nil)))
        (pss_one (ps_if (pt_cmpR op_gt (pe_callB call_len_str (by rfl) B.len PySem.boot_len (pa_cons (pv 3) pa_nil)) pe_int (nomark _))
          (pss_one (ps_expr (pe_bm PySem.F.plainAttrs_list PySem.F.slot_list_append PySem.F.type_list_append mt_append (pv 2) (pa_cons (pe_slice sl_str (pv 3) po_none (po_some (pe_un un_neg pe_int))) pa_nil)))) pss_nil))))))))
      (pss_cons (ps_for PassesOwn.never rfl (pi_range1 (by rfl) B.range (pa_cons pe_int pa_nil)) (pg_name (i := 5) scAddrs.nd rfl (.inl rfl))
        (pss_one (ps_expr (pe_bm PySem.F.plainAttrs_list PySem.F.slot_list_append PySem.F.type_list_append mt_append (pv 2) (pa_cons (pe_call G2 hr (by rfl) D2.g D2.F.kp D2.b .nil pass0 (pa_cons (pv 0) (pa_cons (pe_callTy (call_listD rfl) (by rfl) B.list PyProof.Rows.boot_list (pa_cons (pv 1) pa_nil)) pa_nil))) pa_nil)))))
      (pss_one (ps_ret (pv 2))))), ?_⟩
    refine ⟨by decide, fun F nF => ?_⟩
    have Fp := bag_no hB nF
    have dp : d ≠ p := fun e => by obtain ⟨_, _, _, _, hp, _⟩ := hB; rw [e, hp] at hd; cases hd
    have Fd : F ≠ d := fun e => by rw [e, hd] at nF; cases nF
    refine ⟨d, .dK (kvP own), by rw [upd_ne (Ne.symm Fd)]; exact hd, trivial, fun od => ?_⟩
    refine ⟨.ref d, rfl, d, od, rfl, .inl ⟨kvP own, upd_same, ?_⟩⟩
    refine for_it (walk_keys (d := d) (o := od) (kvs := kvP own)) (fun i σ H' => ∃ (y3 y4 : Option V) (ks : List Str), σ = [some (.ref p), some (.ref d), some (.ref F), y3, y4, none] ∧ Gat H H' p d F (.frz od (.dK (kvP own))) ks ∧ ks.length ≤ 4 * i)
      ⟨none, none, [], rfl, ⟨?_, upd_same, ?_, ?_, fun x hx => by cases hx⟩, Nat.le_refl _⟩ (fun i σ H' _ hP => by obtain ⟨_, _, _, _, G, _⟩ := hP; exact G.dn) (fun i x σ H5 H6 hi hP hy => ?_) (fun σ H5 hP => ?_)
    · rw [upd_ne Fd]
      exact upd_same
    · exact (hB.same (same_upd nF)).put dp
    · exact fun c o hc n1 n2 => by rw [upd_ne n2]; exact same_upd nF _ _ hc
    · obtain ⟨y3, y4, ks, rfl, G, lk⟩ := hP
      obtain ⟨rfl, k, v, ek, rfl⟩ := hy
      unfold kvP at ek
      rw [List.getElem?_map] at ek
      cases eq : own[i]? with
      | none => rw [eq] at ek; cases ek
      | some r =>
      rw [eq] at ek
      obtain ⟨rfl, rfl⟩ := Prod.mk.inj (Option.some.inj ek)
      have li : i < own.length := (List.getElem?_eq_some_iff.mp eq).1
      have lr : r.1.length ≤ 8 := addr_len (hg.1 r (List.mem_of_getElem? eq)).1
      refine ⟨.ref p, rfl, p, 10, rfl, G.bn, by decide, by decide, fun j H7 j0 j1 B7 b7 => ?_⟩
      obtain ⟨c, ec⟩ := at_sign (z := digits) (i := j) (by omega) j0
      have G7 := G.draw Fp dp B7 b7
      have l2 : (r.1 ++ (⟨#[c]⟩ : Str)).length ≤ 9 := by rw [app_len, one_len]; omega
      have l07 : (("07" : String) : Str).length = 2 := by decide +kernel
      have l3 : ((r.1 ++ (⟨#[c]⟩ : Str)) ++ (("07" : String) : Str)).length ≤ 11 := by rw [app_len]; omega
      have c2 := cut_le (r.1 ++ (⟨#[c]⟩ : Str)) none (some 8)
      have c3 := cut_le ((r.1 ++ (⟨#[c]⟩ : Str)) ++ (("07" : String) : Str)) none (some 8)
      have c4 := cut_le r.1 none (some (-1))
      have G8 := G7.put nF Fp Fd (z := r.1) (by omega)
      have G9 := G8.put nF Fp Fd (z := cutS (r.1 ++ (⟨#[c]⟩ : Str)) none (some 8)) (by omega)
      have G10 := G9.put nF Fp Fd (z := cutS ((r.1 ++ (⟨#[c]⟩ : Str)) ++ (("07" : String) : Str)) none (some 8)) (by omega)
      have G11 := G10.put nF Fp Fd (z := cutS r.1 none (some (-1))) (by omega)
      refine ⟨digits, j, c, rfl, rfl, j0, by omega, by omega, ec, ?_⟩
      refine ⟨.ref F, rfl, .inl ⟨rfl, _, sqOf G7.fn⟩, .str r.1, rfl, F, _, _, rfl, rfl, G7.fn, by rw [List.length_map]; omega, ?_⟩
      refine ⟨.ref F, rfl, .inl ⟨rfl, _, sqOf G8.fn⟩, .str r.1, rfl, .str ⟨#[c]⟩, rfl, _, _, rfl, rfl, by rw [one_len]; omega, 8, rfl, _, rfl, by omega, F, _, _, rfl, rfl, G8.fn, by simp only [List.length_map, List.length_append, List.length_cons, List.length_nil]; omega, ?_⟩
      refine ⟨.ref F, rfl, .inl ⟨rfl, _, sqOf G9.fn⟩, .str r.1, rfl, .str ⟨#[c]⟩, rfl, _, _, rfl, rfl, by rw [one_len]; omega, _, _, rfl, rfl, by omega, 8, rfl, _, rfl, by omega, F, _, _, rfl, rfl, G9.fn, by simp only [List.length_map, List.length_append, List.length_cons, List.length_nil]; omega, ?_⟩
      refine ⟨.str r.1, rfl, r.1, rfl, by omega, _, 1, rfl, rfl, _, rfl, ite2 (fun e => ?_) (fun e => ?_)⟩
      · refine ⟨.ref F, rfl, .inl ⟨rfl, _, sqOf G10.fn⟩, .str r.1, rfl, 1, rfl, -1, rfl, r.1, rfl, by omega, F, _, _, rfl, rfl, G10.fn, by simp only [List.length_map, List.length_append, List.length_cons, List.length_nil]; omega, ?_⟩
        exact ⟨_, _, _, rfl, G11, by simp only [List.length_map, List.length_append, List.length_cons, List.length_nil]; omega⟩
      · exact ⟨_, _, _, rfl, G10, by simp only [List.length_map, List.length_append, List.length_cons, List.length_nil]; omega⟩
    · obtain ⟨y3, y4, ks, rfl, G, lk⟩ := hP
      rw [kvP_len] at lk
      refine ⟨G.dn, ?_⟩
      have b6 : But p H (L2.upd H5 d (.dK (kvP own))) := fun c o hc n1 => by
        by_cases e : c = d
        · rw [e, upd_same]
          rw [e, hd] at hc
          exact hc
        · rw [upd_ne e]
          exact G.rn c o hc n1 e
      have B6 : Bag (L2.upd H5 d (.dK (kvP own))) p := G.bn.put dp
      have f6 : (L2.upd H5 d (.dK (kvP own))) F = some (.lst (ks.map V.str)) := by rw [upd_ne Fd]; exact G.fn
      have zs := G.zn
      generalize L2.upd H5 d (.dK (kvP own)) = H6 at b6 B6 f6
      refine ⟨4, rfl, by decide, by decide, ?_⟩
      refine for_it (walk_range (lo := 0) (n := (4 : Int).toNat)) (fun i σ H' => ∃ (y5 : Option V) (ks : List Str), σ = [some (.ref p), some (.ref d), some (.ref F), y3, y4, y5] ∧ H' F = some (.lst (ks.map V.str)) ∧ ks.length ≤ 400 + i ∧ (∀ x ∈ ks, x.length ≤ 1000) ∧ Bag H' p ∧ But p H H')
        ⟨none, ks, rfl, f6, by omega, zs, B6, b6⟩ (fun _ _ _ _ _ => trivial) (fun i x σ H7 H8 hi hP hy => ?_) (fun σ H7 hP => ?_)
      · obtain ⟨y5, ks, rfl, hF, lk, hz', B7, b7⟩ := hP
        obtain ⟨rfl, rfl⟩ := hy
        have hi : i < 4 := hi
        refine ⟨.ref F, rfl, .inl ⟨rfl, _, sqOf hF⟩, .ref p, rfl, .ref d, rfl, d, _, rfl, .of (b7 _ _ hd dp), fun l nl => ?_⟩
        obtain ⟨T9, hA⟩ := keys_txs hg hn (H := L2.upd H8 l (.lst ((kvP own).map fun kv => kV kv.1))) (l := l) upd_same
        refine ⟨p, l, _, rfl, B7.put (bag_no B7 nl), T9, hA, fun z H9 Nz B9 b9 => ?_⟩
        have hF9 : H9 F = some (.lst (ks.map V.str)) := b9 _ _ (by rw [upd_ne (ne_of_none hF nl)]; exact hF) Fp
        have lz : z.length ≤ 8 := addr_len ((isAddr_iff z).mpr Nz)
        refine ⟨F, _, .str z, rfl, rfl, hF9, by rw [List.length_map]; omega, ?_⟩
        refine ⟨_, ks ++ [z], rfl, by rw [upd_same, List.map_append]; rfl, by rw [List.length_append]; show ks.length + 1 ≤ _; omega, fun x hx => ?_, B9.put Fp, (b7.trans ((Same.but (same_upd nl)).trans b9)).put nF⟩
        rcases List.mem_append.mp hx with hx | hx
        · exact hz' x hx
        · rw [List.mem_singleton.mp hx]
          omega
      · obtain ⟨y5, ks, rfl, hF, lk, hz', B7, b7⟩ := hP
        exact ⟨.ref F, rfl, q F ks _ hF hz' nF B7 b7⟩
end
end Tb

set_option Elab.async false
set_option linter.all false
set_option maxRecDepth 100000
namespace Tb
open PySem PySem.Spec PyProof.Rows L2
/-! ### making and calling where the errors that may come depend on the slots (in a try) -/
section
variable {X : Cx} {CX : CXT} {k : Nat} {f C : Addr} {fd : FuncData} {ps : List Str} {sp : Sp} {E : L2.St → XK} {x m : Str} {p pos apos : Pos} {e o : Expr} {es : List Expr} {ta : TE} {t : TA}
theorem run_makeS {pins : List (Addr × Obj)} {σ : L2.St} {H : Hp} {s : Shared} {Q : VK} {us : List Value} {vs : List V} (M : Mk X.K C f) (F : FnR X.prog X.w X.K X.mg X.base CX k f sp) (hr : Room (k + 1) X.A) (hx : PassesAt CX X σ (E σ)) (I : Inv X pins σ H s) (r : Vals vs us)
    (h : ∀ x dx, H x = Option.none → H dx = Option.none → dx ≠ x → sp (V.ref x :: vs) (L2.upd (L2.upd H dx (.own x)) x (.ins C dx [])) (fun v H2 => v = .non ∧ Q (.ref x) H2) (E σ)) :
    wpAny (model X.prog X.w) X.A (call (.ref C) us) (EP X pins σ Q) X.xe s := by
  have hq := h (s.heap.objs.size + 1) s.heap.objs.size (I.hok.fresh (Nat.le_succ _)) (I.hok.fresh (Nat.le_refl _)) (Nat.ne_of_lt (Nat.lt_succ_self _))
  have I2 := Inv.made (C := C) I
  have r2 : Vals (V.ref (s.heap.objs.size + 1) :: vs) (Value.ref (s.heap.objs.size + 1) :: us) := .cons rfl r
  refine wpAny_call (make_map (f := f) I.kIn M.makes M.init (beq_iff_eq.mp M.fn) (codeAny_mono (F _ X.stack _ _ (Value.ref (s.heap.objs.size + 1) :: us) _ _ (E σ) (hr.make C us []) (I2.env0.make C us []) r2 hq) fun r s' hq' => ?_))
  cases r with
  | error e => exact hx pins _ _ e s' I2 hq'
  | ok fl =>
    cases fl with
    | ret u =>
      obtain ⟨v, H', I3, rv, ev, q3⟩ := I2.after hq'
      subst ev
      exact ⟨rv, ⟨V.ref (s.heap.objs.size + 1), H', I3, rfl, q3⟩⟩
    | next => exact False.elim hq'
    | brk => exact False.elim hq'
    | cont => exact False.elim hq'
def tMakeS (C : Addr) (sp : Sp) (E : L2.St → XK) (t : TA) : TE := fun σ H Q => t σ H fun vs H1 => ∀ x dx, H1 x = Option.none → H1 dx = Option.none → dx ≠ x →
  sp (V.ref x :: vs) (L2.upd (L2.upd H1 dx (.own x)) x (.ins C dx [])) (fun v H2 => v = .non ∧ Q (.ref x) H2) (E σ)
theorem pe_makeS (M : Mk X.K C f) (F : FnR X.prog X.w X.K X.mg X.base CX k f sp) (hr : Room (k + 1) X.A) (hg : Gl X x) (hm : X.mg x = some (.ref C)) (hx : ∀ σ, PassesAt CX X σ (E σ)) (ha : PA X (e :: es) t) (hdb : (x == ("__debug__" : Str)) = false := by decide)
    (he : starEach (e :: es) X.env = (false, eval e X.env) :: starEach es X.env := by rfl) (hpl : (backTo pos (starEach es X.env)).any (·.1) = false := by rfl) : PE X (.Call (.Name x p) (e :: es) [] pos) (tMakeS C sp E t) := by
  refine ⟨fun pins s σ H Q I h => ?_⟩
  refine wpAny_Call_Name_kw (ld_glob I hg hm ?_ hdb)
  refine PySem.W.callWith_K (h₀ := X.base) I.ok.mod.kin M.kp (thn (ha.run pos pins s σ H _ I h) fun us s1 ⟨vs, H1, I1, r, q⟩ => ⟨I1.kIn, ?_⟩) he hpl
  exact run_makeS M F hr (hx σ) I1 r q
def tMethS (C : Addr) (m : Str) (sp : Sp) (E : L2.St → XK) (ta : TE) (t : TA) : TE := fun σ H Q => ta σ H fun x H1 => ∃ a dx fs, x = .ref a ∧ H1 a = some (.ins C dx fs) ∧ fs.lookup m = none ∧
  t σ H1 fun vs H2 => sp (x :: vs) H2 Q (E σ)
theorem pe_methS {pl : Sem Bool} (he : PE X o ta) (c : Cls X.K C) (hm : Meth X.K C m f) (F : FnOk X.prog X.w X.K X.mg X.base CX k f fd ps sp) (hr : Room k X.A) (hb : Binds X.K fd ps []) (hx : ∀ σ, PassesAt CX X σ (E σ)) (ha : PA X (e :: es) t)
    (hst : starEach (e :: es) X.env = (false, eval e X.env) :: starEach es X.env := by rfl) (hpl : (backTo pos (starEach es X.env)).any (·.1) = false := by rfl)
    (ht : eval (.Call (.Attribute o m apos) (e :: es) [] pos) X.env = (do
      let ov ← eval o X.env
      standAt apos.atName
      let (f, first) ← holding [ov] (getMethod ov m pl)
      callWith pos f first (backTo pos (starEach (e :: es) X.env)) (backToKw pos (keywordEach [] X.env))) := by rfl) :
    PE X (.Call (.Attribute o m apos) (e :: es) [] pos) (tMethS C m sp E ta t) := by
  refine ⟨fun pins s σ H Q I h => ?_⟩
  refine PySem.W.methodCall_KW (pl := pl) (thn (he.run pins s σ H _ I h) fun u s1 ⟨x, H1, I1, rx, a, dx, fs, ex, ea, l, q⟩ => ?_) ht
  subst ex
  obtain rfl : u = Value.ref a := rx
  refine getmeth_ok I1 ea c hm l ?_
  refine PySem.W.callWith_K (first := [.ref a]) (h₀ := X.base) I.ok.mod.kin hm.kp (thn (ha.run pos pins s1 σ H1 _ I1 q) fun us s2 ⟨vs, H2, I2, r, q2⟩ => ⟨I2.kIn, ?_⟩) hst hpl
  exact run_fnS (us := .ref a :: us) (vs := .ref a :: vs) F hr hb (hx σ) I2 (.cons rfl r) q2
end
theorem tab_made2 {C CI : Addr} {H : Hp} {r x dx : Addr} {lst : Bool} {ts : List (Addr × Pr)} {R : VK} {E : XK} (RA : RowsAt H r lst ts) (hn : ts.length ≤ 900) (nx : H x = none) (ndx : H dx = none) (hne : dx ≠ x)
    (qG : Good (ts.map (·.2)) → ∀ H', Same H H' → TabOf C H' x (ts.map (·.2)) → R .non H')
    (qB : ¬ Good (ts.map (·.2)) → ∀ e H', Same H H' → H' e = some (.xd [(wWhat, .str wTable)]) → E (.ref CI) (some e) H') :
    spInit C CI [V.ref x, V.ref r] (L2.upd (L2.upd H dx (.own x)) x (.ins C dx [])) R E := by
  have S0 : Same H (L2.upd (L2.upd H dx (.own x)) x (.ins C dx [])) := (same_upd ndx).trans (same_upd (by rw [upd_ne (Ne.symm hne)]; exact nx))
  refine ⟨x, dx, r, lst, ts, rfl, upd_same, RA.same S0, fun g d H' S nd hx hd => ?_, fun g e H' S he => qB g e H' (S0.trans S) he⟩
  refine qG g H' (fun b o hb => ?_) ⟨⟨dx, d, hx, hd⟩, g, by rw [List.length_map]; exact hn⟩
  exact S b o (S0 _ _ hb) (fun e => by rw [e, nx] at hb; cases hb)
abbrev sTableOf : Stmt := topS 34
theorem scTableOf : FnScope ["pairs", "board", "e", "fine"] ["pairs"] (defScope sTableOf) := ⟨rfl, rfl, rfl, by decide +kernel, rfl, by decide +kernel, by decide +kernel⟩
/-- the errors' classes, as the module has them -/
structure Errs (K : PySem.W.Frag) (mg : Str → Option Value) (CI gI : Addr) (gdI : FuncData) (CU gU : Addr) (gdU : FuncData) (CP : Addr) : Prop where
  I : EInv K mg CI gI gdI
  U : EUnk K mg CU gU gdU
  gP : mg "ParcelError" = some (.ref CP)
  ve : mg "ValueError" = none
  kP : PySem.W.kitOne K (.ref CI) (.ref CP) = some true
  kV : PySem.W.kitOne K (.ref CI) (.type "ValueError") = some true
  kU : PySem.W.kitOne K (.ref CI) (.ref CU) = some false
  exI : PySem.W.exmOne K (.ref CI) (.ref CI) = some true
  exU : PySem.W.exmOne K (.ref CU) (.ref CU) = some true
  exN : PySem.W.exmOne K (.ref CU) (.ref CI) = some false
section
variable {P : Program} {w : World} {K : PySem.W.Frag} {mg : Str → Option Value} {base : Heap}
def spTableOf (C : Addr) : Sp := fun vs H Q _ => ∃ (r : Addr) (ts : List (Addr × Pr)), vs = [.ref r] ∧ RowsAt H r true ts ∧ ts.length ≤ 900 ∧
  (Good (ts.map (·.2)) → ∀ T b H', Same H H' → H' T = some (.tup [.str ("made" : String), .ref b]) → TabOf C H' b (ts.map (·.2)) → Q (.ref T) H') ∧
  (¬ Good (ts.map (·.2)) → ∀ T H', Same H H' → H' T = some (.tup [.str ("refused" : String), .bl true]) → Q (.ref T) H')
theorem ok_tableOf {f C CI gI CU gU CP : Addr} {fd gdI gdU : FuncData} (F : Fun K "_law_table_of" "_law_table_of" sTableOf f fd) (B : Blt mg) (TK : TabK P w K mg base C CI CU) (R : Errs K mg CI gI gdI CU gU gdU CP) : FnOk P w K mg base CX0 6 f fd ["pairs"] (spTableOf C) := by
  obtain ⟨fM, fdM, MK, bM, FM⟩ := TK.make
  have FMr : FnR P w K mg base (L2.CX P w) 4 fM (spInit C CI) := (FM.raw bM .nil).imp fun vs H Q E h => by rw [List.append_nil]; exact h
  refine F.ok scTableOf (fun vs H Q E h => ?_) (fun cdv A outer s H vs Q E hr h => ?_)
  · obtain ⟨r, ts, rfl, _⟩ := h
    rfl
  · obtain ⟨r, ts, rfl, hR, hn, q1, q2⟩ := h
    refine ⟨_, pss_cons (ps_try_as (i := 2) rfl rfl scTableOf.nd rfl rfl ⟨rfl, by decide, .inl R.I.g⟩ takes0
        (fun W pn xe tk _ => pss_one (ps_set (i := 1) scTableOf.nd rfl (.inl rfl) (pe_makeS MK FMr hr (by rfl) TK.g (fun σ => passAt tk σ) (pa_cons (pv 0) pa_nil))))
        (fun a oe cls d pn hz hf => pss_cons (ps_set (i := 3) scTableOf.nd rfl (.inl rfl) (pe_and (pe_cmpR op_eq (pe_xf R.I.T.xf R.I.T.no hz hf (pv 2)) pe_str (nomark _))
            (pe_and (pe_callB (id := "isinstance") (r := rIsX K CI a cls d) (call_isX R.I.T hz hf) (by rfl) B.isi (by decide +kernel) (pa_cons (pv 2) (pa_cons (pe_glob (by rfl) R.gP (v := .ref CP) rfl) pa_nil)))
            (pe_one (pe_callB (id := "isinstance") (r := rIsX K CI a cls d) (call_isX R.I.T hz hf) (by rfl) B.isi (by decide +kernel) (pa_cons (pv 2) (pa_cons (pe_bltn (by rfl) R.ve (by decide +kernel) (v := .ty "ValueError") (u := .type "ValueError") rfl) pa_nil)))))))
          (pss_one (ps_ret (pe_tup (pa_cons pe_str (pa_cons (pe_and (pv 3) (pe_one (pe_not (pe_callB (id := "isinstance") (r := rIsX K CI a cls d) (call_isX R.I.T hz hf) (by rfl) B.isi (by decide +kernel) (pa_cons (pv 2) (pa_cons (pe_glob (by rfl) R.U.g (v := .ref CU) rfl) pa_nil)))))) pa_nil)))))))
      (pss_one (ps_ret (pe_tup (pa_cons pe_str (pa_cons (pv 1) pa_nil))))), ?_⟩
    refine ⟨.ref r, rfl, ?_⟩
    intro x dx nx ndx hne
    refine tab_made2 hR hn nx ndx hne (fun g H' S T => ?_) (fun g d H' S hd => ?_)
    · exact ⟨rfl, .ref x, rfl, by show 2 ≤ sizeLine; decide, fun T' nT => q1 g T' x _ (S.trans (same_upd nT)) upd_same (T.same (same_upd nT))⟩
    · refine ⟨true, R.exI, fun _ a ha => ?_, fun z => by cases z⟩
      have lw : List.lookup wWhat [(wWhat, V.str wTable)] = some (.str wTable) := lk1
      refine ⟨.ref a, rfl, rfl, rfl, d, _, .str wTable, rfl, hd, lw, rfl, true, ?_, ?_⟩
      · rw [decide_eq_true rfl]
      refine ⟨.ref a, rfl, rfl, .ref CP, .ref CP, true, d, _, rfl, .own _, rfl, hd, R.kP, true, rfl, ?_⟩
      refine ⟨.ref a, rfl, rfl, .ty "ValueError", .type "ValueError", true, d, _, rfl, .ty _, rfl, hd, R.kV, ?_⟩
      refine ⟨.bl true, rfl, true, rfl, .ref a, rfl, rfl, .ref CU, .ref CU, false, d, _, rfl, .own _, rfl, hd, R.kU, false, rfl, by decide, fun T nT => ?_⟩
      exact q2 g T _ (S.trans (same_upd nT)) upd_same
end
end Tb

set_option Elab.async false
set_option linter.all false
set_option maxRecDepth 100000
set_option maxHeartbeats 2000000
namespace Tb
open PySem PySem.Spec PyProof.Rows L2
/-! ### a try with several clauses that name the error -/
abbrev Suite := Addr → Value → Option Addr → TS
/-- behind a clause its name is gone -/
def gone (D : Ends) (i : Nat) : Ends := ⟨fun a b => D.nx (a.set i none) b, D.rt, fun a b => D.bk (a.set i none) b, fun a b => D.ct (a.set i none) b⟩
def wClauses (K : PySem.W.Frag) (Wout : WX) (D : Ends) : List (Value × Nat × Suite) → WX
  | [] => Wout
  | h :: r => fun cls d σ H => ∃ b, PySem.W.exmOne K cls h.1 = some b ∧ (b = true → ∀ a, H a = none → h.2.2 a cls d (gone D h.2.1) (σ.set h.2.1 (some (.ref a))) H) ∧ (b = false → wClauses K Wout D r cls d σ H)
inductive Clauses (X : Cx) : List ExceptHandler → List (Value × Nat × Suite) → Prop
  | none : Clauses X [] []
  | more {x n : Str} {i : Nat} {c : Value} {ts : Suite} {b₀ : Stmt} {suite : List Stmt} {np pos' : Pos} {hds : List ExceptHandler} {l : List (Value × Nat × Suite)} (hc : Names X x c) (hi : X.N[i]? = some n) (hln : X.env.kindOf n = some .local)
      (run : ∀ (a : Addr) (oe : Obj) (cls : Value) (d : Option Addr) (pn : List (Addr × Obj)), Zc cls d oe → (∃ vs, oe.data = .fields vs) → PSs (X.suite a ((a, oe) :: pn)) (b₀ :: suite) (ts a cls d)) (r : Clauses X hds l) :
      Clauses X (.ExceptHandler (some (.Name x np)) (some n) (b₀ :: suite) pos' :: hds) ((c, i, ts) :: l)
section
variable {X : Cx} {body : List Stmt} {h₀ : ExceptHandler} {hds : List ExceptHandler} {l : List (Value × Nat × Suite)} {pos : Pos} {tb : WX → TS} {Wout : WX}
theorem ps_try_clauses (stk : X.stack = X.env :: X.outer) (frm : X.env.frame = some X.env.locals) (nod : X.N.Nodup) (tk : Takes X Wout)
    (walk : ∀ (W : WX) (pn : List (Addr × Obj)) (xe : Value → Shared → Prop), Takes (X.tr pn xe) W → PassesOwn (model X.prog X.w) X.A X.env xe → PSs (X.tr pn xe) body (tb W))
    (cl : Clauses X (h₀ :: hds) l) : PS X (.Try body (h₀ :: hds) [] [] pos) (fun D σ H => tb (wClauses X.K Wout D l) D σ H) := by
  constructor
  intro pins s σ H D I hw
  have good := I.ok
  have frames : X.A.frames = some (X.env :: X.outer) := good.frames.trans (congrArg some stk)
  refine wpAny_Try_except ?_
  have inside := walk (wClauses X.K Wout D l) (X.pn ++ pins) (fun e s₁ => wpAny (model X.prog X.w) X.A (noteFrame e X.env) (fun _ s₂ => wpAny (model X.prog X.w) X.A (setFlight e none) (fun _ s₃ =>
    wpAny (model X.prog X.w) X.A (handleBy e X.env (h₀ :: hds)) (SP X pins D) X.xe s₃) X.xe s₂) X.xe s₁)
  refine wpAny_mono ((inside (fun u t xx => ?caught) PassesOwn.looking).run [] s σ H D (I.toTry _) hw) (fun fl t st => ?ended) (fun _ _ z => z)
  case caught =>
    obtain ⟨a, B, sI, pins1, σ1, H1, cls, d, rfl, J0, nb, up, sky, na, os, ag, wd⟩ := xx
    have J : Inv X pins σ1 H1 sI := J0.ofTry good
    rw [show X.tr (X.pn ++ pins) _ = X.tr (X.pn ++ pins) _ from rfl] at sky
    have above : Sky B (X.env :: X.outer) a (Zc cls d) X.env.locals t.heap := by
      have := sky
      rw [← stk]
      exact this
    show wpAny (model X.prog X.w) X.A (noteFrame (.ref a) X.env) _ _ _
    refine Sky.land Zc.steady frames frm above fun g fl ug => ?_
    have Jg : Inv X pins σ1 H1 { t with heap := g } := J.landed nb fl.1 (up.trans ug) os ag
    obtain ⟨oe, vs, he, hz, hd⟩ := fl.there
    have apart : a ∉ frs (X.env :: X.outer) := fun hm => by
      obtain ⟨_, o', e', hnf⟩ := fl.2.2.1.mem hm
      rw [he] at e'
      cases e'
      exact hnf _ hd
    have nL : a ≠ X.env.locals := fun z => apart (List.mem_filterMap.mpr ⟨X.env, List.mem_cons_self, by rw [frm, z]⟩)
    have nF : a ∉ X.fs := fun hm => by
      obtain ⟨e, he2, q⟩ := List.mem_filterMap.mp hm
      exact apart (List.mem_filterMap.mpr ⟨e, List.mem_cons_of_mem _ he2, q⟩)
    have Sg := Jg.suite he hd na nL nF
    have each : ∀ {hs : List ExceptHandler} {ls : List (Value × Nat × Suite)}, Clauses X hs ls → wClauses X.K Wout D ls cls d σ1 H1 → wpAny (model X.prog X.w) X.A (handleBy (.ref a) X.env hs) (SP X pins D) X.xe { t with heap := g } := by
      intro hs ls hk
      induction hk with
      | none =>
        intro wo
        refine wpAny_handleBy_nil ?_
        obtain ⟨_, _, _, oe', vs', T, oT, ts', he', hz', hd', h1', hr'⟩ := id fl
        unfold PySem.passOn
        refine wpAny_bind (wpAny_field he' hd' h1' ?_)
        rw [if_neg (show ¬ ((Value.ref T == Value.none) = true) from by simp)]
        have out : wpAny (model X.prog X.w) X.A (setFlight (.ref a) X.env.frame) (fun _ s4 => wpAny (model X.prog X.w) X.A (throw (.ref a) : Sem Flow) (SP X pins D) X.xe s4) X.xe { t with heap := g } := by
          rw [frm]
          refine HandSPX.setFlight_upZ fl fun g4 hh up4 => wpAny_throw (tk _ _ ?_)
          exact ⟨a, B, sI, pins, σ1, H1, cls, d, rfl, J, nb, (up.trans ug).trans up4, .inr (.inr (by rw [stk]; exact hh)), na, os, ag, wo⟩
        first
          | exact wpAny_bind (wpAny_pure (wpAny_bind out))
          | exact wpAny_bind out
      | @more x n i c ts b₀ suite np pos' hds2 l2 hc hi hln run r ih =>
        intro wo
        obtain ⟨b, hb, yes, no⟩ := wo
        refine wpAny_handleBy_cons (codeAny_handlers_test ?_) (by intro q; cases q)
        have ty : PySem.W.Looks (model X.prog X.w) g (typeOf (.ref a)) cls := fun _ _ _ _ k q => wpAny_typeOf_ref (k _ _ he) (by rw [hz.1]; exact q)
        have name : ∀ {Q : Value → Shared → Prop} {E : Value → Shared → Prop}, Q c { t with heap := g } → wpAny (model X.prog X.w) (X.A.mark (some (.ref a))) (eval (.Name x np) X.env) Q E { t with heap := g } := fun {Q E} q => by
          obtain ⟨hg, hdbg, hm | ⟨hm, hv, hnn⟩⟩ := hc
          · exact ld_glob (X := X.suite a ((a, oe) :: (X.pn ++ pins))) Sg hg hm q hdbg
          · exact ld_blt (X := X.suite a ((a, oe) :: (X.pn ++ pins))) Sg hg hm hv q hnn hdbg
        refine name ((PySem.W.exm_one (M := model X.prog X.w) Jg.kIn ty hb).here ?_)
        cases b with
        | false => exact ih (no rfl)
        | true =>
          refine codeAny_handlers_suite_as ?_
          refine HandSPX.lands_againZ fl fun g4 fl4 up4 => ?_
          have J4 : Inv X pins σ1 H1 { t with heap := g4 } := J.landed nb fl4.1 ((up.trans ug).trans up4) os ag
          obtain ⟨oe4, vs4, he4, hz4, hd4⟩ := fl4.there
          have S4 := J4.suite he4 hd4 na nL nF
          refine store_ok (X := X.suite a ((a, oe4) :: (X.pn ++ pins))) (v := .ref a) S4 nod hi (.inl hln) rfl (fun s5 S5 => ?_) (.inr hln)
          refine wpAny_mono ((run a oe4 cls d (X.pn ++ pins) hz4 ⟨_, hd4⟩).run [] s5 _ H1 _ S5 (yes rfl a na)) (fun f s6 st => ?_) (fun _ _ z => False.elim z)
          have away : ∀ {σ6 : L2.St} {H6 : Hp} {Q : Shared → Prop}, Inv (X.suite a ((a, oe4) :: (X.pn ++ pins))) [] σ6 H6 s6 → (∀ s7, Inv X pins (σ6.set i none) H6 s7 → Q s7) →
              wpAny (model X.prog X.w) X.A (do bindName X.env n .none; unbindBehindTheSuite X.env n pos') (fun _ s7 => Q s7) X.xe s6 := fun S6 hq => gone_ok (S6.unsuite good) nod hi hln hq
          cases f with
          | ret u =>
            obtain ⟨v6, σ6, H6, S6, r6, q6⟩ := st
            exact away S6 fun s7 J7 => ⟨_, _, _, J7, r6, q6⟩
          | next =>
            obtain ⟨σ6, H6, S6, q6⟩ := st
            exact away S6 fun s7 J7 => ⟨_, _, J7, q6⟩
          | brk =>
            obtain ⟨σ6, H6, S6, q6⟩ := st
            exact away S6 fun s7 J7 => ⟨_, _, J7, q6⟩
          | cont =>
            obtain ⟨σ6, H6, S6, q6⟩ := st
            exact away S6 fun s7 J7 => ⟨_, _, J7, q6⟩
    exact each cl wd
  case ended =>
    cases fl with
    | ret u =>
      obtain ⟨v, σ1, H1, J1, r, q⟩ := st
      exact ⟨v, σ1, H1, J1.ofTry good, r, q⟩
    | next =>
      obtain ⟨σ1, H1, J1, q⟩ := st
      exact wpAny_execs_nil ⟨σ1, H1, J1.ofTry good, q⟩
    | brk =>
      obtain ⟨σ1, H1, J1, q⟩ := st
      exact ⟨σ1, H1, J1.ofTry good, q⟩
    | cont =>
      obtain ⟨σ1, H1, J1, q⟩ := st
      exact ⟨σ1, H1, J1.ofTry good, q⟩
end
end Tb

set_option Elab.async false
set_option linter.all false
set_option maxRecDepth 100000
namespace Tb
open PySem PySem.Spec PyProof.Rows L2
abbrev sLChanged : Stmt := topS 36
theorem scLChanged : FnScope ["board", "prefix", "way", "e", "f"] ["board", "prefix", "way"] (defScope sLChanged) := ⟨rfl, rfl, rfl, by decide +kernel, rfl, by decide +kernel, by decide +kernel⟩
theorem lkNo {f g : Str} {v : V} (h : (f == g) = false) : List.lookup f [(g, v)] = none := by
  rw [List.lookup_cons, h]
  rfl
section
variable {P : Program} {w : World} {K : PySem.W.Frag} {mg : Str → Option Value} {base : Heap}
def spLChanged (C : Addr) : Sp := fun vs H Q _ => ∃ (b : Addr) (own : List Pr) (p : Str) (o : Option Str), vs = [.ref b, .str p, oStr o] ∧ TabOf C H b own ∧ own.length < 900 ∧ p.length ≤ 1000 ∧ (∀ l, o = some l → l.length ≤ 1000) ∧
  ((isAddr p = false ∨ ∃ l, o = some l ∧ isLane l = false) → ∀ T H', Same H H' → H' T = some (.tup [.str ("invalid" : String), .str wTable]) → Q (.ref T) H') ∧
  (isAddr p = true → o = none → p ∉ own.map Prod.fst → ∀ T H', Same H H' → H' T = some (.tup [.str ("unknown" : String), .str p]) → Q (.ref T) H') ∧
  (isAddr p = true → (∀ l, o = some l → isLane l = true) → (o = none → p ∈ own.map Prod.fst) → ∀ T b' H', Same H H' → H' T = some (.tup [.str ("table" : String), .ref b']) → TabOf C H' b' (aft own p o) → Q (.ref T) H')
theorem ok_lchanged {f C CI gI CU gU CP : Addr} {fd gdI gdU : FuncData} (F : Fun K "_law_changed" "_law_changed" sLChanged f fd) (TK : TabK P w K mg base C CI CU) (R : Errs K mg CI gI gdI CU gU gdU CP) : FnOk P w K mg base CX0 7 f fd ["board", "prefix", "way"] (spLChanged C) := by
  obtain ⟨fX, fdX, me, bX, FX⟩ := TK.chg
  refine F.ok scLChanged (fun vs H Q E h => ?_) (fun cdv A outer s H vs Q E hr h => ?_)
  · obtain ⟨b, own, p, o, rfl, _⟩ := h
    rfl
  · obtain ⟨b, own, p, o, rfl, hT, hn, hp, ho, q1, q2, q3⟩ := h
    refine ⟨_, pss_one (ps_try_clauses rfl rfl scLChanged.nd takes0
      (fun W pn xe tk _ => pss_one (ps_ret (pe_tup (pa_cons pe_str (pa_cons (pe_methS (pv 0) TK.T.c me FX hr bX (fun σ => passAt tk σ) (pa_cons (pv 1) (pa_cons (pv 2) pa_nil))) pa_nil)))))
      (.more (i := 3) ⟨rfl, by decide, .inl R.I.g⟩ rfl rfl (fun a oe cls d pn hz hf => pss_one (ps_ret (pe_tup (pa_cons pe_str (pa_cons (pe_xf R.I.T.xf R.I.T.no hz hf (pv 3)) pa_nil)))))
      (.more (i := 4) ⟨rfl, by decide, .inl R.U.g⟩ rfl rfl (fun a oe cls d pn hz hf => pss_one (ps_ret (pe_tup (pa_cons pe_str (pa_cons (pe_xf R.U.T.xf R.U.T.no hz hf (pv 4)) pa_nil))))) .none))), ?_⟩
    obtain ⟨dx, d0, h1, h2⟩ := id hT.ex
    refine ⟨.ref b, rfl, b, dx, _, rfl, h1, lkNo (by decide), .str p, rfl, oStr o, rfl, ?_⟩
    refine ⟨b, own, p, o, rfl, hT, hn, hp, ho, fun hbad d H' S hd => ?_, fun ha hno hm d H' S hd => ?_, fun ha hl hm b' H' S T' => ?_⟩
    · refine ⟨true, R.exI, fun _ a na => ?_, fun z => by cases z⟩
      exact ⟨.ref a, rfl, rfl, rfl, d, _, .str wTable, rfl, hd, lk1, by show 2 ≤ sizeLine; decide, fun T nT => q1 hbad T _ (S.trans (same_upd nT)) upd_same⟩
    · refine ⟨false, R.exN, ⟨fun z => absurd z Bool.false_ne_true, fun _ => ⟨true, R.exU, ⟨fun _ a na => ?_, fun z => absurd z.symm Bool.false_ne_true⟩⟩⟩⟩
      exact ⟨.ref a, rfl, rfl, rfl, d, _, .str p, rfl, hd, lk1, by show 2 ≤ sizeLine; decide, fun T nT => q2 ha hno hm T _ (S.trans (same_upd nT)) upd_same⟩
    · exact ⟨by show 2 ≤ sizeLine; decide, fun T nT => q3 ha hl hm T b' _ (S.trans (same_upd nT)) upd_same (T'.same (same_upd nT))⟩
end
end Tb

set_option Elab.async false
set_option linter.all false
set_option maxRecDepth 100000
namespace Tb
open PySem PySem.Spec PyProof.Rows L2
open PySem.W (dataLe)
theorem cut_lo (xs : List V) (k : Nat) : cutV xs (some (k : Int)) none = xs.drop k := by
  unfold cutV
  rw [HT.sIx_nat, HT.sIx_none]
  have e2 : xs.drop (min k xs.length) = xs.drop k := by
    by_cases h : k ≤ xs.length
    · rw [Nat.min_eq_left h]
    · rw [Nat.min_eq_right (by omega), List.drop_eq_nil_of_le (Nat.le_refl _), List.drop_eq_nil_of_le (by omega)]
  rw [e2, List.take_of_length_le (by rw [List.length_drop]; omega)]
/-- sorted of rows -/
def rSortRows : List V → Hp → VK → Prop := fun vs H Q => ∃ (a : Addr) (ts : List (Addr × Pr)), vs = [.ref a] ∧ Prs H a ts ∧ ∀ (p : Addr) (ts2 : List (Addr × Pr)), H p = none → (∀ t ∈ ts2, t ∈ ts) → ts2.map (·.2) = (ts.map (·.2)).mergeSort le2 → Q (.ref p) (L2.upd H p (.lst (ts2.map fun t => V.ref t.1)))
theorem cr_sortRows {X : Cx} (hu : X.A.units + 64 < cLine) : CallR X (.builtin "sorted") rSortRows := by
  intro pins s σ H vs us Q I r h
  obtain ⟨a, ts, rfl, hp, q⟩ := h
  have e1 : ∀ l : List (Addr × Pr), (l.map fun t => (V.ref t.1, enc2 t.2)).map Prod.fst = l.map fun t => V.ref t.1 := fun l => by rw [List.map_map]; rfl
  have e2 : (ts.map fun t => (V.ref t.1, enc2 t.2)).map Prod.snd = (ts.map (·.2)).map enc2 := by rw [List.map_map, List.map_map]; rfl
  refine cr_sortedDt hu pins s σ H _ us Q I r ⟨a, ts.map fun t => (V.ref t.1, enc2 t.2), rfl, by rw [e1]; exact sqOf hp.l, fun b hb => ?_, by rw [e2]; exact alike2 _, by rw [e2]; exact sortable2 _, fun b hb => ?_, fun p np => ?_⟩
  · obtain ⟨t, ht, rfl⟩ := List.mem_map.mp hb
    exact dp_2 (hp.t t ht)
  · obtain ⟨t, ht, rfl⟩ := List.mem_map.mp hb
    exact Nat.le_trans (depth2 _) (by decide)
  · have m1 := PySem.W.sort_maps (r := dataLe false fun t : Addr × Pr => enc2 t.2) (s := dataLe false (Prod.snd : V × PyData → PyData)) (l := ts) (fun t : Addr × Pr => (V.ref t.1, enc2 t.2)) (fun _ _ _ _ => rfl)
    rw [← m1, e1]
    refine q p _ np (fun t ht => List.mem_mergeSort.mp ht) ?_
    exact PySem.W.sort_maps (r := dataLe false fun t : Addr × Pr => enc2 t.2) (s := le2) (l := ts) (fun t : Addr × Pr => t.2) (fun _ _ _ _ => rfl)
theorem Prs.sub {H : Hp} {a p : Addr} {ts ts2 : List (Addr × Pr)} (h : Prs H a ts) (np : H p = none) (m : ∀ t ∈ ts2, t ∈ ts) : Prs (L2.upd H p (.lst (ts2.map fun t => V.ref t.1))) p ts2 :=
  ⟨upd_same, fun t ht => same_upd np _ _ (h.t t (m t ht))⟩
/-- one row put in -/
theorem good_mid {ps qs : List Pr} {x : Pr} (g : Good (ps ++ qs)) : Good (ps ++ [x] ++ qs) ↔ ok1 (kvP (ps ++ qs)) x = true := by
  have hp : (ps ++ [x] ++ qs).Perm ((ps ++ qs) ++ [x]) := by
    rw [List.append_assoc, List.append_assoc]
    exact (List.perm_append_comm (l₁ := [x]) (l₂ := qs)).append_left ps
  constructor
  · intro h
    exact good_ok (qs := []) (good_perm hp h)
  · intro h
    exact good_perm hp.symm (good_snoc g h)
theorem inV_strs' {z : Str} {ks : List Str} : inV (.str z) (ks.map V.str) = decide (z ∈ ks) := by
  unfold inV
  rw [List.any_map]
  rw [Bool.eq_iff_iff, List.any_eq_true, decide_eq_true_iff]
  constructor
  · rintro ⟨x, hx, e⟩
    have e : (x == z) = true := e
    rw [← eq_of_beq e]
    exact hx
  · exact fun h => ⟨z, h, by show eqV (.str z) (.str z) = true; rw [eqV_str]; exact beq_self_eq_true z⟩
theorem ok1_eq (ps : List Pr) (z y : Str) : ok1 (kvP ps) (z, y) = (isAddr z && (isLane y && !decide (z ∈ ps.map Prod.fst))) := by
  unfold ok1
  have e : (valV (kvP ps) (Sum.inr z)).isNone = !decide (z ∈ ps.map Prod.fst) := by
    cases e2 : valV (kvP ps) (Sum.inr z) with
    | none =>
      rw [decide_eq_false (fun m => by have := (valV_kvP z ps).mpr m; rw [e2] at this; cases this)]
      rfl
    | some v =>
      rw [decide_eq_true ((valV_kvP z ps).mp (by rw [e2]; rfl))]
      rfl
  show (isAddr z && isLane y && (valV (kvP ps) (Sum.inr z)).isNone) = _
  rw [e, Bool.and_assoc]
end Tb

set_option Elab.async false
set_option linter.all false
set_option maxRecDepth 100000
namespace Tb
open PySem PySem.Spec PyProof.Rows L2
abbrev sRowMore : Stmt := topS 35
abbrev NRm : List Str := ["bag", "pairs", "ways", "kind", "known", "prefix", "way", "spot", "more", "told", "pair"]
theorem scRowMore : FnScope NRm ["bag", "pairs", "ways", "kind"] (defScope sRowMore) := ⟨rfl, rfl, rfl, by decide +kernel, rfl, by decide +kernel, by decide +kernel⟩
theorem Prs.but {H H' : Hp} {r p : Addr} {ts : List (Addr × Pr)} (R : Prs H r ts) (B : Bag H p) (n : r ≠ p) (h : But p H H') : Prs H' r ts :=
  ⟨h _ _ R.l n, fun t ht => h _ _ (R.t t ht) (bag_tup B (R.t t ht))⟩
section
variable {P : Program} {w : World} {K : PySem.W.Frag} {mg : Str → Option Value} {base : Heap}
def spRowMore : Sp := fun vs H Q _ => ∃ (p F l : Addr) (ts : List (Addr × Pr)) (ws : List Str) (kind : Int), vs = [.ref p, .ref F, .ref l, .int kind] ∧ Bag H p ∧ Prs H F ts ∧ F ≠ p ∧ Good (ts.map (·.2)) ∧ ts.length ≤ 70 ∧ Ways H l ws ∧ ∀ H', Bag H' p → But p H H' → Q (.bl true) H'
/-- the defs that row_more asks -/
structure RmD (P : Program) (w : World) (K : PySem.W.Frag) (mg : Str → Option Value) (base : Heap) (C : Addr) : Prop where
  draw : ∃ g gd, Dd K mg "_law_draw" sDraw ["bag", "size"] g gd
  pref : ∃ g gd, Dd K mg "_law_prefix" sPrefix ["bag", "known"] g gd
  text : ∃ g gd, Dd K mg "_law_text" sText ["bag", "most"] g gd
  isA : ∃ g gd, Dd K mg "is_address" sIsAddr ["text"] g gd ∧ FnOk P w K mg base CX0 3 g gd ["text"] (spT isAddr)
  lA : ∃ g gd, Dd K mg "_law_is_address" sLAddr ["text"] g gd
  lN : ∃ g gd, Dd K mg "_law_is_name" sLName ["text"] g gd
  tof : ∃ g gd, Dd K mg "_law_table_of" sTableOf ["pairs"] g gd ∧ FnOk P w K mg base CX0 6 g gd ["pairs"] (spTableOf C)
  rare : ∃ g gd, Dd K mg "_law_rows_are" sRowsAre ["board", "due"] g gd ∧ FnOk P w K mg base CX0 3 g gd ["board", "due"] (spRowsAre C)
theorem ok_rowMore {f C CI CU : Addr} {fd : FuncData} (F : Fun K "_law_row_more" "_law_row_more" sRowMore f fd) (B : Blt mg) (TK : TabK P w K mg base C CI CU) (DD : RmD P w K mg base C) : FnOk P w K mg base CX0 7 f fd ["bag", "pairs", "ways", "kind"] spRowMore := by
  obtain ⟨gd0, gdd, D⟩ := DD.draw
  obtain ⟨gp0, gpd, DP⟩ := DD.pref
  obtain ⟨gt0, gtd, DT⟩ := DD.text
  obtain ⟨ga0, gad, DA, GA⟩ := DD.isA
  obtain ⟨gl0, gld, DL⟩ := DD.lA
  obtain ⟨gn0, gnd, DN⟩ := DD.lN
  obtain ⟨go0, god, DO, GO⟩ := DD.tof
  obtain ⟨gr0, grd, DR, GR⟩ := DD.rare
  have GD : FnOk P w K mg base CX0 1 gd0 gdd ["bag", "size"] spDraw := ok_draw D.F B
  have GP : FnOk P w K mg base CX0 2 gp0 gpd ["bag", "known"] spPrefix := ok_prefix DP.F D B
  have GT : FnOk P w K mg base CX0 2 gt0 gtd ["bag", "most"] spText := ok_text DT.F D B
  have GL : FnOk P w K mg base CX0 1 gl0 gld ["text"] (spT0 isAddr) := ok_laddr DL.F B
  have GN : FnOk P w K mg base CX0 1 gn0 gnd ["text"] (spT0 isName) := ok_lname DN.F B
  refine F.ok scRowMore (fun vs H Q E h => ?_) (fun cdv A outer s H vs Q E hr h => ?_)
  · obtain ⟨p, F, l, ts, ws, kind, rfl, _⟩ := h
    rfl
  · obtain ⟨p, F, l, ts, ws, kind, rfl, hB, hF, Fp, hG, hn, hW, q⟩ := h
    have hz : sizeLine = 16777216 := rfl
    have r1 : Room 1 _ := hr.mono (show 1 ≤ 6 by decide)
    have r2 : Room 2 _ := hr.mono (show 2 ≤ 6 by decide)
    have r3 : Room 3 _ := hr.mono (show 3 ≤ 6 by decide)
    refine ⟨_, pss_cons (ps_setLc (i := 4) (own := [("pair", 10)]) (g := gName 10) (by rfl) scRowMore.nd rfl rfl (sw_true rfl rfl rfl (by decide +kernel)) (pi_list (pv 1)) (blkOk_by (N := NRm) (sc := defScope sRowMore) (by decide +kernel)) (fun _ _ _ _ _ => pg_name (i := 10) scRowMore.nd rfl (Or.inl rfl)) (fun _ _ _ _ _ => pts_nil) (fun _ _ _ _ _ => pe_ix (r := rIxT K) ix_tup (pv 10) pe_int (fun _ _ => rfl)))
      (pss_cons (ps_set (i := 5) scRowMore.nd rfl (.inl rfl) (pe_call GP r2 (by rfl) DP.g DP.F.kp DP.b .nil pass0 (pa_cons (pv 0) (pa_cons (pv 4) pa_nil))))
      (C8.pss_cut (ps_set (i := 6) scRowMore.nd rfl (.inl rfl) (pe_ix ix_list (pv 2) (pe_call GD r1 (by rfl) D.g D.F.kp D.b .nil pass0 (pa_cons (pv 0) (pa_cons (pe_callB call_len_seq (by rfl) B.len PySem.boot_len (pa_cons (pv 2) pa_nil)) pa_nil))) (fun _ _ => rfl)))
      (C8.pss_cut (ps_if (pt_cmpR op_eq (pv 3) pe_int (nomark _)) (pss_one (ps_set (i := 5) scRowMore.nd rfl (.inl rfl) (pe_call GT r2 (by rfl) DT.g DT.F.kp DT.b .nil pass0 (pa_cons (pv 0) (pa_cons pe_int pa_nil))))) pss_nil)
      (C8.pss_cut (ps_if (pt_cmpR op_eq (pv 3) pe_int (nomark _)) (pss_one (ps_set (i := 6) scRowMore.nd rfl (.inl rfl) (pe_call GT r2 (by rfl) DT.g DT.F.kp DT.b .nil pass0 (pa_cons (pv 0) (pa_cons pe_int pa_nil))))) pss_nil)
      (C8.pss_cut (ps_if (PW.pt (pw_and (pt_cmpR op_eq (pv 3) pe_int (nomark _)) (pw_and1 (pt_cmpR (op_neD hr.units) (pv 4) (pe_lst pa_nil) (nomark _))))) (pss_one (ps_set (i := 5) scRowMore.nd rfl (.inl rfl) (pe_ix ix_list (pv 4) (pe_call GD r1 (by rfl) D.g D.F.kp D.b .nil pass0 (pa_cons (pv 0) (pa_cons (pe_callB call_len_seq (by rfl) B.len PySem.boot_len (pa_cons (pv 4) pa_nil)) pa_nil))) (fun _ _ => rfl)))) pss_nil)
      (pss_cons (ps_set (i := 7) scRowMore.nd rfl (.inl rfl) (pe_call GD r1 (by rfl) D.g D.F.kp D.b .nil pass0 (pa_cons (pv 0) (pa_cons (pe_op op_add (pe_callB call_len_seq (by rfl) B.len PySem.boot_len (pa_cons (pv 1) pa_nil)) pe_int) pa_nil))))
      (C8.pss_cut (ps_set (i := 8) scRowMore.nd rfl (.inl rfl) (pe_op op_cat (pe_op op_cat (pe_slice sl_list (pv 1) po_none (po_some (pv 7))) (pe_lst (pa_cons (pe_tup (pa_cons (pv 5) (pa_cons (pv 6) pa_nil))) pa_nil))) (pe_slice sl_list (pv 1) (po_some (pv 7)) po_none)))
      (pss_cons (ps_if (PW.pt (pw_or (pt_not (pt_val (pe_callB call_isi (by rfl) B.isi (by decide +kernel) (pa_cons (pe_call GA r3 (by rfl) DA.g DA.F.kp DA.b .nil pass0 (pa_cons (pv 5) pa_nil)) (pa_cons (pe_bltn (by rfl) B.bool PyProof.Rows.boot_bool (v := .ty "bool") rfl) pa_nil)))))
          (pw_or1 (pt_cmpR op_ne (pe_call GA r3 (by rfl) DA.g DA.F.kp DA.b .nil pass0 (pa_cons (pv 5) pa_nil)) (pe_call GL r1 (by rfl) DL.g DL.F.kp DL.b .nil pass0 (pa_cons (pv 5) pa_nil)) (nomark _))))) (pss_one (ps_ret pe_bl)) pss_nil)
      (C8.pss_cut (ps_set (i := 9) scRowMore.nd rfl (.inl rfl) (pe_call GO hr (by rfl) DO.g DO.F.kp DO.b .nil pass0 (pa_cons (pe_callTy call_list_of (by rfl) B.list PyProof.Rows.boot_list (pa_cons (pv 8) pa_nil)) pa_nil)))
      (pss_cons (ps_if (PW.pt (pw_and (pt_val (pe_call GL r1 (by rfl) DL.g DL.F.kp DL.b .nil pass0 (pa_cons (pv 5) pa_nil))) (pw_and (PW.pt (pw_or (pt_cmpR op_eq (pv 6) pe_str (nomark _)) (pw_or1 (pt_val (pe_call GN r1 (by rfl) DN.g DN.F.kp DN.b .nil pass0 (pa_cons (pv 6) pa_nil)))))) (pw_and1 (pt_cmpR op_notIn_seq (pv 5) (pv 4) (by rfl))))))
        (pss_one (ps_ret (pe_and (pe_cmpR op_eq (pe_ix ix_tup (pv 9) pe_int (fun _ _ => rfl)) pe_str (nomark _)) (pe_and (pe_callB (C8.call_isC TK.ins) (by rfl) B.isi (by decide +kernel) (pa_cons (pe_ix ix_tup (pv 9) pe_int (fun _ _ => rfl)) (pa_cons (pe_glob (by rfl) TK.g (v := .ref C) rfl) pa_nil))) (pe_one (pe_call GR r3 (by rfl) DR.g DR.F.kp DR.b .nil pass0 (pa_cons (pe_ix ix_tup (pv 9) pe_int (fun _ _ => rfl)) (pa_cons (pe_callB (cr_sortRows hr.units) (by rfl) B.sorted PyProof.Rows.boot_sorted (pa_cons (pv 8) pa_nil)) pa_nil)))))))) pss_nil)
      (pss_one (ps_ret (pe_and (pe_cmpR op_eq (pe_ix ix_tup (pv 9) pe_int (fun _ _ => rfl)) pe_str (nomark _)) (pe_one (pe_ix ix_tup (pv 9) pe_int (fun _ _ => rfl)))))))))))))))), ?_⟩
    refine ⟨.ref F, rfl, F, rfl, ⟨_, sqOf hF.l⟩, fun Kn nK => ?_⟩
    have Kp := bag_no hB nK
    refine lc_it (walk_list (a := F) (xs := ts.map fun t => V.ref t.1)) (fun i H' => Same H H' ∧ H' Kn = some (.lst (((ts.take i).map fun t => t.2.1).map V.str))) ⟨same_upd nK, upd_same⟩ (fun i H' _ hP => sqOf (hP.1 _ _ hF.l)) (fun i v H1 H2 hi hP hy => ?_) (fun H1 hP => ?_)
    · obtain ⟨S1, hK⟩ := hP
      obtain ⟨rfl, ev⟩ := hy
      rw [List.getElem?_map] at ev
      cases et : ts[i]? with
      | none => rw [et] at ev; cases ev
      | some t =>
      rw [et] at ev
      cases (Option.some.inj ev)
      refine ⟨rfl, .ref t.1, rfl, t.1, _, 0, .str t.2.1, rfl, rfl, .of (S1 _ _ (hF.t t (List.mem_of_getElem? et))), atI_nat (j := 0) rfl, _, hK, ?_, fun b o hb => by rw [upd_ne (ne_of_none hb nK)]; exact S1 _ _ hb, ?_⟩
      · simp only [List.length_map, List.length_take]
        omega
      · rw [upd_same, List.take_add_one, et, List.map_append, List.map_append]
        rfl
    obtain ⟨S1, hK⟩ := hP
    rw [List.length_map, List.take_length] at hK
    have hAd : ∀ x ∈ ts.map (fun t => t.2.1), Ad (tl x) := fun x hx => by
      obtain ⟨t, ht, rfl⟩ := List.mem_map.mp hx
      exact (isAddr_iff _).mp (hG.1 t.2 (List.mem_map.mpr ⟨t, ht, rfl⟩)).1
    have lk : (ts.map fun t => t.2.1).length ≤ 70 := by rw [List.length_map]; exact hn
    have ek : ts.map (fun t => t.2.1) = (ts.map (·.2)).map Prod.fst := by rw [List.map_map]; rfl
    have TK0 : Txs H1 Kn (ts.map fun t => t.2.1) := ⟨hK, by omega, fun x hx => ad_tx (hAd x hx)⟩
    have B1 := hB.same S1
    have b1 : But p H H1 := Same.but S1
    generalize ts.map (fun t => t.2.1) = ks at hK hAd lk TK0 ek
    refine ⟨.ref p, rfl, .ref Kn, rfl, p, Kn, _, rfl, B1, TK0, hAd, fun z H2 Nz B2 b2 => ?_⟩
    have M : ∀ pr wy H', Tx pr → Tx wy → Bag H' p → But p H H' → H' Kn = some (.lst (ks.map V.str)) → ∃ pr wy, ([some (.ref p), some (.ref F), some (.ref l), some (.int kind), some (.ref Kn), some (.str pr), some (.str wy), none, none, none, none] : L2.St) = [some (.ref p), some (.ref F), some (.ref l), some (.int kind), some (.ref Kn), some (.str pr), some (.str wy), none, none, none, none] ∧ Tx pr ∧ Tx wy ∧ Bag H' p ∧ But p H H' ∧ H' Kn = some (.lst (ks.map V.str)) :=
      fun pr wy H' a b c d e => ⟨pr, wy, rfl, a, b, c, d, e⟩
    have b02 := b1.trans b2
    have W2 := hW.but hB b02
    have K2 := b2 _ _ hK Kp
    refine ⟨fun σ' H' => ∃ pr wy, σ' = [some (.ref p), some (.ref F), some (.ref l), some (.int kind), some (.ref Kn), some (.str pr), some (.str wy), none, none, none, none] ∧ Tx pr ∧ Tx wy ∧ Bag H' p ∧ But p H H' ∧ H' Kn = some (.lst (ks.map V.str)), ?_, ?_⟩
    · have wn := W2.n
      refine ⟨.ref l, rfl, .ref p, rfl, .ref l, rfl, l, _, rfl, .inl (sqOf W2.l), p, _, rfl, B2, by rw [List.length_map]; omega, by rw [List.length_map]; omega, fun j H3 j0 j1 B3 b3 => ?_⟩
      obtain ⟨x, hx, ex⟩ := pick j0 j1
      exact ⟨l, _, j, .str x, rfl, rfl, sqOf (W2.but B2 b3).l, ex, z, x, rfl, ad_tx Nz, lane_tx (hW.g x hx), B3, b02.trans b3, b3 _ _ K2 Kp⟩
    rintro σ1 H3 ⟨pr, wy, rfl, Tp, Tw, B3, b3, K3⟩
    refine ⟨fun σ' H' => ∃ pr wy, σ' = [some (.ref p), some (.ref F), some (.ref l), some (.int kind), some (.ref Kn), some (.str pr), some (.str wy), none, none, none, none] ∧ Tx pr ∧ Tx wy ∧ Bag H' p ∧ But p H H' ∧ H' Kn = some (.lst (ks.map V.str)), ?_, ?_⟩
    · refine ⟨.int kind, rfl, rfl, _, rfl, ite2 (fun e => ?_) (fun e => ?_)⟩
      · exact ⟨.ref p, rfl, p, 10, rfl, B3, by decide, by decide, fun z H4 Tz _ B4 b4 => ⟨z, wy, rfl, Tz, Tw, B4, b3.trans b4, b4 _ _ K3 Kp⟩⟩
      · exact ⟨pr, wy, rfl, Tp, Tw, B3, b3, K3⟩
    clear B3 b3 K3 Tp Tw pr wy H3
    rintro σ1 H3 ⟨pr, wy, rfl, Tp, Tw, B3, b3, K3⟩
    refine ⟨fun σ' H' => ∃ pr wy, σ' = [some (.ref p), some (.ref F), some (.ref l), some (.int kind), some (.ref Kn), some (.str pr), some (.str wy), none, none, none, none] ∧ Tx pr ∧ Tx wy ∧ Bag H' p ∧ But p H H' ∧ H' Kn = some (.lst (ks.map V.str)), ?_, ?_⟩
    · refine ⟨.int kind, rfl, rfl, _, rfl, ite2 (fun e => ?_) (fun e => ?_)⟩
      · exact ⟨.ref p, rfl, p, 14, rfl, B3, by decide, by decide, fun z H4 Tz _ B4 b4 => ⟨pr, z, rfl, Tp, Tz, B4, b3.trans b4, b4 _ _ K3 Kp⟩⟩
      · exact ⟨pr, wy, rfl, Tp, Tw, B3, b3, K3⟩
    clear B3 b3 K3 Tp Tw pr wy H3
    rintro σ1 H3 ⟨pr, wy, rfl, Tp, Tw, B3, b3, K3⟩
    refine ⟨fun σ' H' => ∃ pr wy, σ' = [some (.ref p), some (.ref F), some (.ref l), some (.int kind), some (.ref Kn), some (.str pr), some (.str wy), none, none, none, none] ∧ Tx pr ∧ Tx wy ∧ Bag H' p ∧ But p H H' ∧ H' Kn = some (.lst (ks.map V.str)), ?_, ?_⟩
    · refine ifS_via (fun b H' => Bag H' p ∧ But p H H' ∧ H' Kn = some (.lst (ks.map V.str)) ∧ (b = true → ks ≠ [])) (fun Q hQ => ?_) (fun b H4 hR => ?_)
      · refine ⟨.int kind, rfl, rfl, _, rfl, ite2 (fun e => ?_) (fun e => ?_)⟩
        · refine ⟨.ref Kn, rfl, by show 0 ≤ sizeLine; decide, fun e ne => ⟨_, _, .lst (sqOf (same_upd ne _ _ K3)) (dp_strs ks), .lst (sqOf upd_same) .nil, shaped_strs TK0.t, by decide, _, rfl, ?_⟩⟩
          rw [eqv_nil]
          refine hQ _ _ ⟨B3.same (same_upd ne), b3.trans (Same.but (same_upd ne)), same_upd ne _ _ K3, fun z y => ?_⟩
          rw [y] at z
          cases z
        · exact hQ _ _ ⟨B3, b3, K3, fun z => by cases z⟩
      · obtain ⟨B4, b4, K4, hne⟩ := hR
        cases b with
        | true =>
          have kpos : 0 < ks.length := List.length_pos_iff.mpr (hne rfl)
          refine ⟨.ref Kn, rfl, .ref p, rfl, .ref Kn, rfl, Kn, _, rfl, .inl (sqOf K4), p, _, rfl, B4, by rw [List.length_map]; omega, by rw [List.length_map]; omega, fun j H5 j0 j1 B5 b5 => ?_⟩
          obtain ⟨x, hx, ex⟩ := pick j0 j1
          exact ⟨Kn, _, j, .str x, rfl, rfl, sqOf (b5 _ _ K4 Kp), ex, x, wy, rfl, ad_tx (hAd x hx), Tw, B5, b4.trans b5, b5 _ _ K4 Kp⟩
        | false => exact ⟨pr, wy, rfl, Tp, Tw, B4, b4, K4⟩
    clear B3 b3 K3 Tp Tw pr wy H3
    rintro σ1 H3 ⟨pr, wy, rfl, Tp, Tw, B3, b3, K3⟩
    have F3 := hF.but hB Fp b3
    refine ⟨.ref p, rfl, .ref F, rfl, F, _, rfl, .inl (sqOf F3.l), _, 1, rfl, rfl, p, _, rfl, B3, by rw [List.length_map]; omega, by rw [List.length_map]; omega, fun s H4 s0 s1 B4 b4 => ?_⟩
    obtain ⟨s, rfl⟩ : ∃ k : Nat, s = (k : Int) := ⟨s.toNat, by omega⟩
    have F4 := F3.but B3 Fp b4
    have K4 := b4 _ _ K3 Kp
    have b04 := b3.trans b4
    refine ⟨fun σ' H' => ∃ (A : Addr) (us : List (Addr × Pr)), σ' = [some (.ref p), some (.ref F), some (.ref l), some (.int kind), some (.ref Kn), some (.str pr), some (.str wy), some (.int (s : Int)), some (.ref A), none, none] ∧ Prs H' A us ∧ us.map (·.2) = (ts.map (·.2)).take s ++ [(pr, wy)] ++ (ts.map (·.2)).drop s ∧ Same H4 H', ?_, ?_⟩
    · refine ⟨.ref F, rfl, .int (s : Int), rfl, (s : Int), rfl, F, _, rfl, sqOf F4.l, fun a1 n1 => ?_⟩
      have e1 := cut_hi (ts.map fun t => V.ref t.1) s
      have e4 := cut_lo (ts.map fun t => V.ref t.1) s
      rw [e1]
      have S1 : Same H4 (L2.upd H4 a1 (.lst ((ts.map fun t => V.ref t.1).take s))) := same_upd n1
      have h1 : (L2.upd H4 a1 (.lst ((ts.map fun t => V.ref t.1).take s))) a1 = some (.lst ((ts.map fun t => V.ref t.1).take s)) := upd_same
      generalize L2.upd H4 a1 (.lst ((ts.map fun t => V.ref t.1).take s)) = H5 at S1 h1
      refine ⟨.str pr, rfl, .str wy, rfl, by show 2 ≤ sizeLine; decide, fun T nT => ?_⟩
      have S2 : Same H5 (L2.upd H5 T (.tup [V.str pr, V.str wy])) := same_upd nT
      have h2 : (L2.upd H5 T (.tup [V.str pr, V.str wy])) T = some (.tup [V.str pr, V.str wy]) := upd_same
      generalize L2.upd H5 T (.tup [V.str pr, V.str wy]) = H6 at S2 h2
      refine ⟨by show 1 ≤ sizeLine; decide, fun a2 n2 => ?_⟩
      have S3 : Same H6 (L2.upd H6 a2 (.lst [V.ref T])) := same_upd n2
      have h3 : (L2.upd H6 a2 (.lst [V.ref T])) a2 = some (.lst [V.ref T]) := upd_same
      generalize L2.upd H6 a2 (.lst [V.ref T]) = H7 at S3 h3
      refine ⟨a1, a2, _, _, rfl, rfl, S3 _ _ (S2 _ _ h1), h3, by simp only [List.length_take, List.length_map, List.length_cons, List.length_nil]; omega, fun a3 n3 => ?_⟩
      have S4 : Same H7 (L2.upd H7 a3 (.lst ((ts.map fun t => V.ref t.1).take s ++ [V.ref T]))) := same_upd n3
      have h4 : (L2.upd H7 a3 (.lst ((ts.map fun t => V.ref t.1).take s ++ [V.ref T]))) a3 = some (.lst ((ts.map fun t => V.ref t.1).take s ++ [V.ref T])) := upd_same
      generalize L2.upd H7 a3 (.lst ((ts.map fun t => V.ref t.1).take s ++ [V.ref T])) = H8 at S4 h4
      have S08 : Same H4 H8 := ((S1.trans S2).trans S3).trans S4
      refine ⟨.ref F, rfl, .int (s : Int), rfl, (s : Int), rfl, F, _, rfl, sqOf (S08 _ _ F4.l), fun a4 n4 => ?_⟩
      rw [e4]
      have S5 : Same H8 (L2.upd H8 a4 (.lst ((ts.map fun t => V.ref t.1).drop s))) := same_upd n4
      have h5 : (L2.upd H8 a4 (.lst ((ts.map fun t => V.ref t.1).drop s))) a4 = some (.lst ((ts.map fun t => V.ref t.1).drop s)) := upd_same
      generalize L2.upd H8 a4 (.lst ((ts.map fun t => V.ref t.1).drop s)) = H9 at S5 h5
      refine ⟨a3, a4, _, _, rfl, rfl, S5 _ _ h4, h5, by simp only [List.length_append, List.length_take, List.length_drop, List.length_map, List.length_cons, List.length_nil]; omega, fun a5 n5 => ?_⟩
      have S09 := (S08.trans S5).trans (same_upd (o := HO.lst ((ts.map fun t => V.ref t.1).take s ++ [V.ref T] ++ (ts.map fun t => V.ref t.1).drop s)) n5)
      refine ⟨a5, ts.take s ++ [(T, (pr, wy))] ++ ts.drop s, rfl, ⟨?_, fun t ht => ?_⟩, ?_, S09⟩
      · rw [upd_same, List.map_append, List.map_append, List.map_take, List.map_drop]
        rfl
      · rcases List.mem_append.mp ht with ht | ht
        · rcases List.mem_append.mp ht with ht | ht
          · exact S09 _ _ (F4.t t (List.mem_of_mem_take ht))
          · rw [List.mem_singleton.mp ht]
            exact same_upd n5 _ _ (S5 _ _ (S4 _ _ (S3 _ _ h2)))
        · exact S09 _ _ (F4.t t (List.mem_of_mem_drop ht))
      · rw [List.map_append, List.map_append, List.map_take, List.map_drop]
        rfl
    rintro σ2 H5 ⟨A, us, rfl, hA, eus, S5⟩
    have B5 := B4.same S5
    have b05 := b04.trans (Same.but S5)
    have lp1 : pr.length ≤ 100 := Tp.len
    have lw1 : wy.length ≤ 100 := Tw.len
    have K5 := S5 _ _ K4
    refine ⟨.str pr, rfl, pr, rfl, by omega, fun H6 S6 => ⟨.bl (isAddr pr), .ty "bool", .type "bool", .type "bool", true, rfl, .ty _, .base (.bl _), kit_ty (by decide +kernel), true, rfl, ?_⟩⟩
    refine ⟨.str pr, rfl, pr, rfl, by omega, fun H7 S7 => ⟨.str pr, rfl, pr, rfl, by omega, rfl, false, ?_, ?_⟩⟩
    · rw [decide_eq_true rfl]
      rfl
    have hA7 : Prs H7 A us := (hA.same S6).same S7
    have B7 := (B5.same S6).same S7
    have b07 := (b05.trans (Same.but S6)).trans (Same.but S7)
    have K7 := S7 _ _ (S6 _ _ K5)
    have lus : us.length ≤ 71 := by
      have := congrArg List.length eus
      simp only [List.length_map, List.length_append, List.length_take, List.length_drop, List.length_cons, List.length_nil] at this
      omega
    have hz7 : ∀ t ∈ us, t.2.1.length ≤ 1000 ∧ t.2.2.length ≤ 1000 := fun t ht => by
      have m : t.2 ∈ us.map (·.2) := List.mem_map.mpr ⟨t, ht, rfl⟩
      rw [eus] at m
      have old : ∀ q ∈ ts.map (·.2), q.1.length ≤ 1000 ∧ q.2.length ≤ 1000 := fun q hq => by
        have h := hG.1 q hq
        have h1 := addr_len h.1
        have h2 := lane_len h.2
        omega
      rcases List.mem_append.mp m with m | m
      · rcases List.mem_append.mp m with m | m
        · exact old _ (List.mem_of_mem_take m)
        · rw [List.mem_singleton.mp m]
          exact ⟨by show pr.length ≤ 1000; omega, by show wy.length ≤ 1000; omega⟩
      · exact old _ (List.mem_of_mem_drop m)
    have ok : Good (us.map (·.2)) ↔ (isAddr pr && (isLane wy && !decide (pr ∈ ks))) = true := by
      rw [eus]
      have g0 : Good ((ts.map (·.2)).take s ++ (ts.map (·.2)).drop s) := by rw [List.take_append_drop]; exact hG
      refine (good_mid g0).trans ?_
      rw [List.take_append_drop, ok1_eq, ek]
    -- told
    refine ⟨fun σ' H' => ∃ T, σ' = [some (.ref p), some (.ref F), some (.ref l), some (.int kind), some (.ref Kn), some (.str pr), some (.str wy), some (.int (s : Int)), some (.ref A), some (.ref T), none] ∧ Same H7 H' ∧
      ((Good (us.map (·.2)) ∧ ∃ b, H' T = some (.tup [.str ("made" : String), .ref b]) ∧ TabOf C H' b (us.map (·.2))) ∨ (¬ Good (us.map (·.2)) ∧ H' T = some (.tup [.str ("refused" : String), .bl true]))), ?_, ?_⟩
    · refine ⟨.ref A, rfl, A, _, rfl, .inl (sqOf hA7.l), fun a6 n6 => ?_⟩
      have S6' := same_upd (o := HO.lst (us.map fun t => V.ref t.1)) n6
      exact ⟨a6, us, rfl, ⟨upd_same, fun t ht => S6' _ _ (hA7.t t ht), by omega, hz7⟩, by omega, fun g T b H' S hT hTab => ⟨T, rfl, S6'.trans S, .inl ⟨g, b, hT, hTab⟩⟩, fun g T H' S hT => ⟨T, rfl, S6'.trans S, .inr ⟨g, hT⟩⟩⟩
    rintro σ3 H8 ⟨T, rfl, S8, hT⟩
    have K8 := S8 _ _ K7
    have B8 := B7.same S8
    have b08 := b07.trans (Same.but S8)
    have hA8 := hA7.same S8
    refine ifS_via (fun b H' => H' = H8 ∧ b = (isAddr pr && (isLane wy && !decide (pr ∈ ks)))) (fun Q hQ => ?_) (fun b H9 hR => ?_)
    · refine ⟨.str pr, rfl, pr, rfl, by omega, _, rfl, ?_⟩
      cases eA : isAddr pr with
      | false => exact hQ _ _ ⟨rfl, by rw [eA]; rfl⟩
      | true =>
      have last : isLane wy = true → ∀ c, c = (!inV (.str pr) (ks.map V.str)) → Q c H8 := fun hl c hc => by
        refine hQ _ _ ⟨rfl, ?_⟩
        rw [eA, hl, hc, inV_strs', Bool.true_and, Bool.true_and]
      refine ⟨.str wy, rfl, rfl, _, rfl, ite2 (fun e => ?_) (fun e => ?_)⟩
      · have ew : V.str wy = V.str (Str.ofString "") := of_decide_eq_true e
        have hl : isLane wy = true := by
          unfold isLane
          rw [decide_eq_true (V.str.inj ew)]
          rfl
        exact ⟨.str pr, rfl, .ref Kn, rfl, Kn, _, rfl, .inl (sqOf K8), rfl, flat_strs ks, _, rfl, last hl _ rfl⟩
      · have ew : ¬ wy = Str.ofString "" := fun z => e (by rw [z]; exact decide_eq_true rfl)
        refine ⟨.str wy, rfl, wy, rfl, by omega, _, rfl, ?_⟩
        have hl : isLane wy = isName wy := by
          unfold isLane
          rw [decide_eq_false ew]
          rfl
        cases eN : isName wy with
        | false => exact hQ _ _ ⟨rfl, by rw [hl, eN, Bool.false_and, Bool.and_false]⟩
        | true => exact ⟨.str pr, rfl, .ref Kn, rfl, Kn, _, rfl, .inl (sqOf K8), rfl, flat_strs ks, _, rfl, last (hl.trans eN) _ rfl⟩
    · obtain ⟨rfl, eb⟩ := hR
      cases b with
      | true =>
        rcases hT with ⟨g, b, hT, hTab⟩ | ⟨g, _⟩
        · obtain ⟨dx, d0, h1, h2⟩ := id hTab.ex
          refine ⟨.ref T, rfl, T, _, 0, .str ("made" : String), rfl, rfl, .of hT, atI_nat (j := 0) rfl, rfl, true, ?_, ?_⟩
          · rw [decide_eq_true rfl]
          refine ⟨.ref T, rfl, T, _, 1, .ref b, rfl, rfl, .of hT, atI_nat (j := 1) rfl, b, dx, _, rfl, h1, true, rfl, ?_⟩
          refine ⟨.ref T, rfl, T, _, 1, .ref b, rfl, rfl, .of hT, atI_nat (j := 1) rfl, .ref A, rfl, A, us, rfl, hA8, fun a9 ts2 n9 m9 e9 => ?_⟩
          exact ⟨b, a9, _, ts2, rfl, hTab.same (same_upd n9), hA8.sub n9 m9, e9, fun H' S' => q H' ((B8.same (same_upd n9)).same S') ((b08.trans (Same.but (same_upd n9))).trans (Same.but S'))⟩
        · exact absurd (ok.mpr eb.symm) g
      | false =>
        rcases hT with ⟨g, _⟩ | ⟨g, hT⟩
        · have := ok.mp g
          rw [← eb] at this
          cases this
        · refine ⟨.ref T, rfl, T, _, 0, .str ("refused" : String), rfl, rfl, .of hT, atI_nat (j := 0) rfl, rfl, true, ?_, ?_⟩
          · rw [decide_eq_true rfl]
          exact ⟨.ref T, rfl, T, _, 1, .bl true, rfl, rfl, .of hT, atI_nat (j := 1) rfl, q _ B8 b08⟩
end
end Tb

set_option Elab.async false
set_option linter.all false
set_option maxRecDepth 100000
namespace Tb
open PySem PySem.Spec PyProof.Rows L2
section
variable {X : Cx}
/-- a dict and an empty one -/
def rNeD0 : R2 := fun x y H Q => ∃ (a b : Addr) (ks : Kvs), x = .ref a ∧ y = .ref b ∧ H a = some (.dK ks) ∧ H b = some (.dK []) ∧ Q (.bl (!ks.isEmpty)) H
theorem op_ne_dict0 (hu : X.A.units < cLine) : OpR X (compareOp .NotEq) rNeD0 := by
  intro pins s σ H x y v u Q I rx ry h
  obtain ⟨a, b, ks, rfl, rfl, ea, eb, q⟩ := h
  obtain rfl : v = Value.ref a := rx
  obtain rfl : u = Value.ref b := ry
  obtain ⟨_, ya, va, ra, da⟩ := (show ObjOk X.prog X.w H s.heap a (.dK ks) from I.hok a _ ea)
  obtain ⟨_, yb, vb, rb, db⟩ := (show ObjOk X.prog X.w H s.heap b (.dK []) from I.hok b _ eb)
  have la : ks.length = va.length := ra.length
  have lb : 0 = vb.length := rb.length
  cases ks with
  | nil =>
    have hl : va.length = vb.length := by rw [← la, ← lb]; rfl
    exact PySem.W.keq_ne (knd := mixKind X.prog X.w) (r := true) ya yb da db hu (fun _ => hits_all rb ra (fun p hp => by cases hp)) (fin_bl I q (by simp [hl]))
  | cons k ks =>
    have hl : ¬ va.length = vb.length := by rw [← la, ← lb]; simp
    exact PySem.W.keq_ne (knd := mixKind X.prog X.w) (r := true) ya yb da db hu (fun e => absurd e hl) (fin_bl I q (by simp [hl]))
end
abbrev sHold : Stmt := topS 37
abbrev NHo : List Str := ["bag", "board", "own", "ways", "kept", "turn", "prefix", "way", "told", "pair", "one"]
theorem scHold : FnScope NHo ["bag", "board", "own", "ways"] (defScope sHold) := ⟨rfl, rfl, rfl, by decide +kernel, rfl, by decide +kernel, by decide +kernel⟩
/-- a kept table: its pair, its rows as a dict -/
structure Ent (C : Addr) (H : Hp) (t b d : Addr) (own : List Pr) : Prop where
  t : H t = some (.tup [.ref b, .ref d])
  tab : TabOf C H b own
  dct : H d = some (.dK (kvP own))
theorem Ent.but {C : Addr} {H H' : Hp} {t b d p : Addr} {own : List Pr} {xs : List V} (E : Ent C H t b d own) (hp : H p = some (.lst xs)) (h : But p H H') : Ent C H' t b d own :=
  ⟨h _ _ E.t (ne_of E.t hp (fun z => by cases z)), E.tab.but hp h, h _ _ E.dct (ne_of E.dct hp (fun z => by cases z))⟩
theorem Ent.same {C : Addr} {H H' : Hp} {t b d : Addr} {own : List Pr} (E : Ent C H t b d own) (h : Same H H') : Ent C H' t b d own := ⟨h _ _ E.t, E.tab.same h, h _ _ E.dct⟩
theorem Bag.lst {H : Hp} {p : Addr} (B : Bag H p) : ∃ xs, H p = some (.lst xs) := by
  obtain ⟨n, c, m, ns, hp, _⟩ := B
  exact ⟨_, hp⟩
def offL : Option Str → Bool
  | none => false
  | some z => !isLane z
abbrev Es := List (Addr × Addr × Addr × List Pr)
/-- what the turns keep -/
structure LI (C : Addr) (H0 H : Hp) (p Kp b d : Addr) (own : List Pr) (es : Es) : Prop where
  bag : Bag H p
  but : But p H0 H
  kp : H Kp = some (.lst (es.map fun e => V.ref e.1))
  en : ∀ e ∈ es, Ent C H e.1 e.2.1 e.2.2.1 e.2.2.2
  tab : TabOf C H b own
  dct : H d = some (.dK (kvP own))
  ne : es ≠ []
theorem LI.draw {C : Addr} {H0 H H' : Hp} {p Kp b d : Addr} {own : List Pr} {es : Es} (L : LI C H0 H p Kp b d own es) (hk : Kp ≠ p) (B : Bag H' p) (h : But p H H') : LI C H0 H' p Kp b d own es := by
  obtain ⟨xs, hp⟩ := L.bag.lst
  exact ⟨B, L.but.trans h, h _ _ L.kp hk, fun e he => (L.en e he).but hp h, L.tab.but hp h, h _ _ L.dct (ne_of L.dct hp (fun z => by cases z)), L.ne⟩
theorem LI.same {C : Addr} {H0 H H' : Hp} {p Kp b d : Addr} {own : List Pr} {es : Es} (L : LI C H0 H p Kp b d own es) (h : Same H H') : LI C H0 H' p Kp b d own es :=
  ⟨L.bag.same h, L.but.trans (Same.but h), h _ _ L.kp, fun e he => (L.en e he).same h, L.tab.same h, h _ _ L.dct, L.ne⟩
theorem at_last {α : Type} (l : List α) (f : α → V) (h : l ≠ []) : ∃ x ∈ l, atI (l.map f) (-1) = some (f x) := by
  have hl : 0 < l.length := List.length_pos_iff.mpr h
  refine ⟨l[l.length - 1], List.getElem_mem _, ?_⟩
  unfold atI ixN
  rw [if_neg (by decide), List.length_map, if_pos (by omega)]
  show (l.map f)[(-1 + (l.length : Int)).toNat]? = _
  rw [show (-1 + (l.length : Int)).toNat = l.length - 1 by omega, List.getElem?_map, List.getElem?_eq_getElem (by omega)]
  rfl
theorem kv_keys (own : List Pr) : ((kvP own).map fun kv => kV kv.1) = (own.map Prod.fst).map V.str := by
  unfold kvP
  rw [List.map_map, List.map_map]
  rfl
section
variable {P : Program} {w : World} {K : PySem.W.Frag} {mg : Str → Option Value} {base : Heap}
def spHold (C : Addr) : Sp := fun vs H Q _ => ∃ (p b d l : Addr) (own : List Pr) (ws : List Str), vs = [.ref p, .ref b, .ref d, .ref l] ∧ Bag H p ∧ TabOf C H b own ∧ H d = some (.dK (kvP own)) ∧ own.length ≤ 70 ∧ Ways H l ws ∧ ∀ H', Bag H' p → But p H H' → Q (.bl true) H'
structure HoD (P : Program) (w : World) (K : PySem.W.Frag) (mg : Str → Option Value) (base : Heap) (C : Addr) : Prop where
  rm : RmD P w K mg base C
  chg : ∃ g gd, Dd K mg "_law_changed" sLChanged ["board", "prefix", "way"] g gd ∧ FnOk P w K mg base CX0 7 g gd ["board", "prefix", "way"] (spLChanged C)
  aft : ∃ g gd, Dd K mg "_law_after" sLAfter ["own", "prefix", "way"] g gd
  calls : ∃ g gd, Dd K mg "_law_calls_are" sCalls ["board", "own", "addresses"] g gd ∧ FnOk P w K mg base CX0 4 g gd ["board", "own", "addresses"] (spCalls C)
theorem ok_hold {f C CI CU : Addr} {fd : FuncData} (F : Fun K "_law_changes_hold" "_law_changes_hold" sHold f fd) (B : Blt mg) (TK : TabK P w K mg base C CI CU) (HD : HoD P w K mg base C) : FnOk P w K mg base CX0 8 f fd ["bag", "board", "own", "ways"] (spHold C) := by
  obtain ⟨gd0, gdd, D⟩ := HD.rm.draw
  obtain ⟨gp0, gpd, DP⟩ := HD.rm.pref
  obtain ⟨gt0, gtd, DT⟩ := HD.rm.text
  obtain ⟨gl0, gld, DL⟩ := HD.rm.lA
  obtain ⟨gn0, gnd, DN⟩ := HD.rm.lN
  obtain ⟨gr0, grd, DR, GR⟩ := HD.rm.rare
  obtain ⟨gc0, gcd, DC, GC⟩ := HD.chg
  obtain ⟨gf0, gfd, DF⟩ := HD.aft
  obtain ⟨gk0, gkd, DK, GK⟩ := HD.calls
  have GD : FnOk P w K mg base CX0 1 gd0 gdd ["bag", "size"] spDraw := ok_draw D.F B
  have GP : FnOk P w K mg base CX0 2 gp0 gpd ["bag", "known"] spPrefix := ok_prefix DP.F D B
  have GT : FnOk P w K mg base CX0 2 gt0 gtd ["bag", "most"] spText := ok_text DT.F D B
  have GL : FnOk P w K mg base CX0 1 gl0 gld ["text"] (spT0 isAddr) := ok_laddr DL.F B
  have GN : FnOk P w K mg base CX0 1 gn0 gnd ["text"] (spT0 isName) := ok_lname DN.F B
  have GF : FnOk P w K mg base CX0 1 gf0 gfd ["own", "prefix", "way"] spAfter := ok_lafter DF.F B
  refine F.ok scHold (fun vs H Q E h => ?_) (fun cdv A outer s H vs Q E hr h => ?_)
  · obtain ⟨p, b, d, l, own, ws, rfl, _⟩ := h
    rfl
  · obtain ⟨p, b, d, l, own, ws, rfl, hB, hT, hd, hn, hW, q⟩ := h
    have hu := hu_of hr
    have hz : sizeLine = 16777216 := rfl
    have r1 : Room 1 _ := hr.mono (show 1 ≤ 7 by decide)
    have r2 : Room 2 _ := hr.mono (show 2 ≤ 7 by decide)
    have r3 : Room 3 _ := hr.mono (show 3 ≤ 7 by decide)
    have r4 : Room 4 _ := hr.mono (show 4 ≤ 7 by decide)
    refine ⟨_, (pss_cons (ps_set (i := 4) scHold.nd rfl (.inl rfl) (pe_lst (pa_cons (pe_tup (pa_cons (pv 1) (pa_cons (pv 2) pa_nil))) pa_nil)))
        (C8.pss_cut (ps_for PassesOwn.never rfl (pi_range1 (by rfl) B.range (pa_cons (pe_op op_add pe_int (pe_call GD r1 (by rfl) D.g D.F.kp D.b .nil pass0 (pa_cons (pv 0) (pa_cons pe_int pa_nil)))) pa_nil)) (pg_name (i := 5) scHold.nd rfl (.inl rfl)) (C8.pss_cut (ps_set (i := 6) scHold.nd rfl (.inl rfl) (pe_call GP r2 (by rfl) DP.g DP.F.kp DP.b .nil pass0 (pa_cons (pv 0) (pa_cons (pe_callTy (call_listD rfl) (by rfl) B.list PyProof.Rows.boot_list (pa_cons (pv 2) pa_nil)) pa_nil))))
        (C8.pss_cut (ps_if (PW.pt (pw_and (pt_cmpR (op_ne_dict0 hr.units0) (pv 2) pe_dnewK (nomark _)) (pw_and1 (pt_cmpR op_eq (pe_call GD r1 (by rfl) D.g D.F.kp D.b .nil pass0 (pa_cons (pv 0) (pa_cons pe_int pa_nil))) pe_int (nomark _))))) (pss_one (ps_set (i := 6) scHold.nd rfl (.inl rfl) (pe_ix ix_list (pe_callTy (call_listD rfl) (by rfl) B.list PyProof.Rows.boot_list (pa_cons (pv 2) pa_nil)) (pe_call GD r1 (by rfl) D.g D.F.kp D.b .nil pass0 (pa_cons (pv 0) (pa_cons (pe_callB call_lenD (by rfl) B.len PySem.boot_len (pa_cons (pv 2) pa_nil)) pa_nil))) (fun _ _ => rfl)))) pss_nil)
        (pss_cons (ps_set (i := 7) scHold.nd rfl (.inl rfl) (pe_non))
        (C8.pss_cut (ps_if (pt_cmpR op_gt (pe_call GD r1 (by rfl) D.g D.F.kp D.b .nil pass0 (pa_cons (pv 0) (pa_cons pe_int pa_nil))) pe_int (nomark _)) (pss_one (ps_set (i := 7) scHold.nd rfl (.inl rfl) (pe_ix ix_list (pv 3) (pe_call GD r1 (by rfl) D.g D.F.kp D.b .nil pass0 (pa_cons (pv 0) (pa_cons (pe_callB call_len_seq (by rfl) B.len PySem.boot_len (pa_cons (pv 3) pa_nil)) pa_nil))) (fun _ _ => rfl)))) pss_nil)
        (C8.pss_cut (ps_if (pt_cmpR op_eq (pe_call GD r1 (by rfl) D.g D.F.kp D.b .nil pass0 (pa_cons (pv 0) (pa_cons pe_int pa_nil))) pe_int (nomark _)) (pss_one (ps_set (i := 6) scHold.nd rfl (.inl rfl) (pe_call GT r2 (by rfl) DT.g DT.F.kp DT.b .nil pass0 (pa_cons (pv 0) (pa_cons pe_int pa_nil))))) pss_nil)
        (C8.pss_cut (ps_if (pt_cmpR op_eq (pe_call GD r1 (by rfl) D.g D.F.kp D.b .nil pass0 (pa_cons (pv 0) (pa_cons pe_int pa_nil))) pe_int (nomark _)) (pss_one (ps_set (i := 7) scHold.nd rfl (.inl rfl) (pe_call GT r2 (by rfl) DT.g DT.F.kp DT.b .nil pass0 (pa_cons (pv 0) (pa_cons pe_int pa_nil))))) pss_nil)
        (C8.pss_cut (ps_set (i := 8) scHold.nd rfl (.inl rfl) (pe_call GC hr (by rfl) DC.g DC.F.kp DC.b .nil pass0 (pa_cons (pv 1) (pa_cons (pv 6) (pa_cons (pv 7) pa_nil)))))
        (pss_one (ps_if (PW.pt (pw_or (pt_not (pt_val (pe_call GL r1 (by rfl) DL.g DL.F.kp DL.b .nil pass0 (pa_cons (pv 6) pa_nil)))) (pw_or1 (PW.pt (pw_and (pt_cmp (pc_notN (pv 7))) (pw_and (pt_cmpR op_ne (pv 7) pe_str (nomark _)) (pw_and1 (pt_not (pt_val (pe_call GN r1 (by rfl) DN.g DN.F.kp DN.b .nil pass0 (pa_cons (pv 7) pa_nil))))))))))) (pss_one (ps_if (pt_cmpR (op_neD hr.units) (pv 8) (pe_tup (pa_cons pe_str (pa_cons pe_str pa_nil))) (nomark _)) (pss_one (ps_ret pe_bl)) pss_nil)) (pss_one (ps_if (PW.pt (pw_and (pt_cmpR op_isN (pv 7) pe_non (nomark _)) (pw_and1 (pt_cmp (pc_dnotin hu (pv 6) (pv 2)))))) (pss_one (ps_if (pt_cmpR (op_neD hr.units) (pv 8) (pe_tup (pa_cons pe_str (pa_cons (pv 6) pa_nil))) (nomark _)) (pss_one (ps_ret pe_bl)) pss_nil)) (pss_cons (ps_if (PW.pt (pw_or (pt_cmpR op_ne (pe_ix ix_tup (pv 8) pe_int (fun _ _ => rfl)) pe_str (nomark _)) (pw_or1 (pt_not (pt_val (pe_callB (C8.call_isC TK.ins) (by rfl) B.isi (by decide +kernel) (pa_cons (pe_ix ix_tup (pv 8) pe_int (fun _ _ => rfl)) (pa_cons (pe_glob (by rfl) TK.g (v := .ref C) rfl) pa_nil)))))))) (pss_one (ps_ret pe_bl)) pss_nil)
        (pss_cons (ps_set (i := 1) scHold.nd rfl (.inl rfl) (pe_ix ix_tup (pv 8) pe_int (fun _ _ => rfl)))
        (pss_cons (ps_set (i := 2) scHold.nd rfl (.inl rfl) (pe_call GF r1 (by rfl) DF.g DF.F.kp DF.b .nil pass0 (pa_cons (pv 2) (pa_cons (pv 6) (pa_cons (pv 7) pa_nil)))))
        (pss_cons (ps_expr (pe_bm PySem.F.plainAttrs_list PySem.F.slot_list_append PySem.F.type_list_append mt_append (pv 4) (pa_cons (pe_tup (pa_cons (pv 1) (pa_cons (pv 2) pa_nil))) pa_nil)))
        (pss_one (ps_if (pt_not (pt_val (pe_call GK r4 (by rfl) DK.g DK.F.kp DK.b .nil pass0 (pa_cons (pv 1) (pa_cons (pv 2) (pa_cons (pe_lst (pa_cons (pv 6) (pa_cons (pe_slice sl_str (pe_op op_add_str (pv 6) pe_str) po_none (po_some pe_int)) (pa_cons (pe_slice sl_str (pv 6) po_none (po_some pe_int)) pa_nil)))) pa_nil)))))) (pss_one (ps_ret pe_bl)) pss_nil))))))))))))))))))
        (pss_cons (ps_for PassesOwn.never rfl (pi_list (pv 4)) (pg_name (i := 9) scHold.nd rfl (.inl rfl)) (pss_cons (ps_if (pt_not (pt_val (pe_call GR r3 (by rfl) DR.g DR.F.kp DR.b .nil pass0 (pa_cons (pe_ix ix_tup (pv 9) pe_int (fun _ _ => rfl)) (pa_cons (pe_sortedItems rfl hr.units (pe_ix ix_tup (pv 9) pe_int (fun _ _ => rfl)) (by rfl) B.sorted) pa_nil))))) (pss_one (ps_ret pe_bl)) pss_nil)
        (pss_one (ps_if (pt_not (pt_val (pe_call GK r4 (by rfl) DK.g DK.F.kp DK.b .nil pass0 (pa_cons (pe_ix ix_tup (pv 9) pe_int (fun _ _ => rfl)) (pa_cons (pe_ix ix_tup (pv 9) pe_int (fun _ _ => rfl)) (pa_cons (pe_lock (pe_lc (own := [("one", 10)]) (g := gName 10) (by rfl) scHold.nd (pi_keys (pe_ix ix_tup (pe_ix ix_list (pv 4) (pe_un un_neg pe_int) (fun _ _ => rfl)) pe_int (fun _ _ => rfl))) (blkOk_by (N := NHo) (sc := defScope sHold) (by decide +kernel)) (fun _ _ _ _ _ => pg_name (i := 10) scHold.nd rfl (Or.inl rfl)) (fun _ _ _ _ _ => pts_nil) (fun _ _ _ _ _ => pe_slice sl_str (pv 10) po_none (po_some pe_int)))) pa_nil)))))) (pss_one (ps_ret pe_bl)) pss_nil))))
        (pss_one (ps_ret pe_bl))))), ?_⟩
    refine ⟨.ref b, rfl, .ref d, rfl, by show 2 ≤ sizeLine; decide, fun T0 nT0 => ⟨by show 1 ≤ sizeLine; decide, fun Kp nK => ?_⟩⟩
    have nK0 : H Kp = none := (same_upd nT0).free nK
    have hk := bag_no hB nK0
    have SS := (same_upd nT0).trans (same_upd (o := HO.lst [V.ref T0]) nK)
    have L0 : LI C H (L2.upd (L2.upd H T0 (.tup [V.ref b, V.ref d])) Kp (.lst [V.ref T0])) p Kp b d own [(T0, b, d, own)] := ⟨hB.same SS, Same.but SS, upd_same, fun e he => by
      rw [List.mem_singleton.mp he]
      exact ⟨same_upd nK _ _ upd_same, hT.same SS, SS _ _ hd⟩, hT.same SS, SS _ _ hd, by simp⟩
    generalize L2.upd (L2.upd H T0 (.tup [V.ref b, V.ref d])) Kp (.lst [V.ref T0]) = HA at L0
    refine ⟨fun σ' H' => ∃ (b d : Addr) (own : List Pr) (es : Es) (y5 y6 y7 y8 : Option V), σ' = [some (.ref p), some (.ref b), some (.ref d), some (.ref l), some (.ref Kp), y5, y6, y7, y8, none, none] ∧ LI C H H' p Kp b d own es, ?_, ?_⟩
    · refine ⟨.ref p, rfl, p, 5, rfl, L0.bag, by decide, by decide, fun n H1 n0 n1 B1 b1 => ⟨1, n, rfl, rfl, 1 + n, rfl, by omega, by omega, ?_⟩⟩
      have L1 := L0.draw hk B1 b1
      refine for_it (walk_range (lo := 0) (n := (1 + n).toNat)) (fun i σ H' => ∃ (b d : Addr) (own : List Pr) (es : Es) (y5 y6 y7 y8 : Option V), σ = [some (.ref p), some (.ref b), some (.ref d), some (.ref l), some (.ref Kp), y5, y6, y7, y8, none, none] ∧ LI C H H' p Kp b d own es ∧ own.length ≤ 70 + i ∧ es.length ≤ 1 + i)
        ⟨b, d, own, _, none, none, none, none, rfl, L1, hn, Nat.le_refl _⟩ (fun _ _ _ _ _ => trivial) (fun i x σ H2 H3 hi hP hy => ?_) (fun σ H2 hP => ?_)
      · clear L0 L1 hT hd hn B1 b1 SS nT0 nK HA
        obtain ⟨b, d, own, es, y5, y6, y7, y8, rfl, L, ln, le⟩ := hP
        obtain ⟨rfl, rfl⟩ := hy
        have hi5 : i < 6 := by omega
        have hW' : ∀ {H'}, LI C H H' p Kp b d own es → Ways H' l ws := fun L => hW.but hB L.but
        -- prefix
        refine ⟨fun σ' H' => ∃ pr, σ' = [some (.ref p), some (.ref b), some (.ref d), some (.ref l), some (.ref Kp), some (.int (0 + (i : Int))), some (.str pr), y7, y8, none, none] ∧ Tx pr ∧ LI C H H' p Kp b d own es, ?_, ?_⟩
        · refine ⟨.ref p, rfl, .ref d, rfl, d, _, rfl, .of L.dct, fun q nq => ?_⟩
          obtain ⟨T9, hA⟩ := keys_txs L.tab.g (by omega) (H := L2.upd H3 q (.lst ((kvP own).map fun kv => kV kv.1))) (l := q) upd_same
          exact ⟨p, q, _, rfl, L.bag.same (same_upd nq), T9, hA, fun z H4 Nz B4 b4 => ⟨z, rfl, ad_tx Nz, (L.same (same_upd nq)).draw hk B4 b4⟩⟩
        rintro σ1 H4 ⟨pr, rfl, Tp, L4⟩
        refine ⟨fun σ' H' => ∃ pr, σ' = [some (.ref p), some (.ref b), some (.ref d), some (.ref l), some (.ref Kp), some (.int (0 + (i : Int))), some (.str pr), y7, y8, none, none] ∧ Tx pr ∧ LI C H H' p Kp b d own es, ?_, ?_⟩
        · refine ifS_via (fun c H' => LI C H H' p Kp b d own es ∧ (c = true → own ≠ [])) (fun Q hQ => ?_) (fun c H5 hR => ?_)
          · refine ⟨.ref d, rfl, fun e ne => ⟨d, e, _, rfl, rfl, same_upd ne _ _ L4.dct, upd_same, _, rfl, ?_⟩⟩
            have L5 := L4.same (same_upd (o := HO.dK []) ne)
            cases own with
            | nil => exact hQ _ _ ⟨L5, fun z => by cases z⟩
            | cons o1 os => exact ⟨.ref p, rfl, p, 2, rfl, L5.bag, by decide, by decide, fun j H6 j0 j1 B6 b6 => ⟨rfl, _, rfl, hQ _ _ ⟨L5.draw hk B6 b6, fun _ => by simp⟩⟩⟩
          · obtain ⟨L5, hne⟩ := hR
            cases c with
            | false => exact ⟨pr, rfl, Tp, L5⟩
            | true =>
              have kpos : 0 < own.length := List.length_pos_iff.mpr (hne rfl)
              refine ⟨.ref d, rfl, d, _, rfl, .of L5.dct, fun q nq => ?_⟩
              have L6 := L5.same (same_upd (o := HO.lst ((kvP own).map fun kv => kV kv.1)) nq)
              have h6 : (L2.upd H5 q (.lst ((kvP own).map fun kv => kV kv.1))) q = some (.lst ((own.map Prod.fst).map V.str)) := by rw [upd_same, kv_keys]
              have qp := bag_no L5.bag nq
              refine ⟨.ref p, rfl, .ref d, rfl, d, _, rfl, L6.dct, p, _, rfl, L6.bag, by rw [kvP_len]; omega, by rw [kvP_len]; omega, fun j H7 j0 j1 B7 b7 => ?_⟩
              obtain ⟨x, hx, ex⟩ := pick (ks := own.map Prod.fst) (i := j) j0 (by rw [List.length_map, List.length_map]; rw [kvP_len] at j1; exact j1)
              obtain ⟨r, hr', rfl⟩ := List.mem_map.mp hx
              exact ⟨q, _, j, _, rfl, rfl, sqOf (b7 _ _ h6 qp), ex, r.1, rfl, ad_tx ((isAddr_iff _).mp (L.tab.g.1 r hr').1), L6.draw hk B7 b7⟩
        clear L4 Tp pr H4
        rintro σ1 H4 ⟨pr, rfl, Tp, L4⟩
        -- way
        refine ⟨fun σ' H' => ∃ o, σ' = [some (.ref p), some (.ref b), some (.ref d), some (.ref l), some (.ref Kp), some (.int (0 + (i : Int))), some (.str pr), some (oStr o), y8, none, none] ∧ (∀ z, o = some z → Tx z) ∧ LI C H H' p Kp b d own es, ?_, ?_⟩
        · refine ⟨.ref p, rfl, p, 3, rfl, L4.bag, by decide, by decide, fun j H5 j0 j1 B5 b5 => ⟨j, 0, rfl, rfl, _, rfl, ite2 (fun e => ?_) (fun e => ?_)⟩⟩
          · have L5 := L4.draw hk B5 b5
            have W5 := hW' L5
            have wn := W5.n
            refine ⟨.ref l, rfl, .ref p, rfl, .ref l, rfl, l, _, rfl, .inl (sqOf W5.l), p, _, rfl, L5.bag, by rw [List.length_map]; omega, by rw [List.length_map]; omega, fun j2 H6 k0 k1 B6 b6 => ?_⟩
            obtain ⟨x, hx, ex⟩ := pick k0 k1
            have L6 := L5.draw hk B6 b6
            exact ⟨l, _, j2, .str x, rfl, rfl, sqOf (hW' L6).l, ex, some x, rfl, fun z hz => by cases hz; exact lane_tx (hW.g x hx), L6⟩
          · exact ⟨none, rfl, (by intro z hz; cases hz), L4.draw hk B5 b5⟩
        rintro σ1 H5 ⟨o, rfl, To, L5⟩
        refine ⟨fun σ' H' => ∃ pr, σ' = [some (.ref p), some (.ref b), some (.ref d), some (.ref l), some (.ref Kp), some (.int (0 + (i : Int))), some (.str pr), some (oStr o), y8, none, none] ∧ Tx pr ∧ LI C H H' p Kp b d own es, ?_, ?_⟩
        · refine ⟨.ref p, rfl, p, 5, rfl, L5.bag, by decide, by decide, fun j H6 j0 j1 B6 b6 => ⟨rfl, _, rfl, ite2 (fun e => ?_) (fun e => ?_)⟩⟩
          · exact ⟨.ref p, rfl, p, 10, rfl, B6, by decide, by decide, fun z H7 Tz _ B7 b7 => ⟨z, rfl, Tz, (L5.draw hk B6 b6).draw hk B7 b7⟩⟩
          · exact ⟨pr, rfl, Tp, L5.draw hk B6 b6⟩
        clear L5 Tp pr H5 L4 H4
        rintro σ1 H4 ⟨pr, rfl, Tp, L4⟩
        refine ⟨fun σ' H' => ∃ o, σ' = [some (.ref p), some (.ref b), some (.ref d), some (.ref l), some (.ref Kp), some (.int (0 + (i : Int))), some (.str pr), some (oStr o), y8, none, none] ∧ (∀ z, o = some z → Tx z) ∧ LI C H H' p Kp b d own es, ?_, ?_⟩
        · refine ⟨.ref p, rfl, p, 6, rfl, L4.bag, by decide, by decide, fun j H6 j0 j1 B6 b6 => ⟨rfl, _, rfl, ite2 (fun e => ?_) (fun e => ?_)⟩⟩
          · exact ⟨.ref p, rfl, p, 14, rfl, B6, by decide, by decide, fun z H7 Tz _ B7 b7 => ⟨some z, rfl, fun z' hz => by cases hz; exact Tz, (L4.draw hk B6 b6).draw hk B7 b7⟩⟩
          · exact ⟨o, rfl, To, L4.draw hk B6 b6⟩
        clear L4 To o H4
        rintro σ1 H4 ⟨o, rfl, To, L4⟩
        have lp : pr.length ≤ 100 := Tp.len
        -- told
        refine ⟨fun σ' H' => ∃ T, σ' = [some (.ref p), some (.ref b), some (.ref d), some (.ref l), some (.ref Kp), some (.int (0 + (i : Int))), some (.str pr), some (oStr o), some (.ref T), none, none] ∧ LI C H H' p Kp b d own es ∧
          (((isAddr pr = false ∨ ∃ z, o = some z ∧ isLane z = false) ∧ H' T = some (.tup [.str ("invalid" : String), .str wTable])) ∨
          (isAddr pr = true ∧ o = none ∧ pr ∉ own.map Prod.fst ∧ H' T = some (.tup [.str ("unknown" : String), .str pr])) ∨
          (isAddr pr = true ∧ (∀ z, o = some z → isLane z = true) ∧ (o = none → pr ∈ own.map Prod.fst) ∧ ∃ b', H' T = some (.tup [.str ("table" : String), .ref b']) ∧ TabOf C H' b' (aft own pr o))), ?_, ?_⟩
        · refine ⟨.ref b, rfl, .str pr, rfl, oStr o, rfl, b, own, pr, o, rfl, L4.tab, by omega, by omega, fun z hz => by have := (To z hz).len; omega, fun hbad T H' S hT => ?_, fun ha ho hm T H' S hT => ?_, fun ha hl hm T b' H' S hT hTab => ?_⟩
          · exact ⟨T, rfl, L4.same S, .inl ⟨hbad, hT⟩⟩
          · exact ⟨T, rfl, L4.same S, .inr (.inl ⟨ha, ho, hm, hT⟩)⟩
          · exact ⟨T, rfl, L4.same S, .inr (.inr ⟨ha, hl, hm, b', hT, hTab⟩)⟩
        clear L4 H4
        rintro σ1 H4 ⟨T, rfl, L4, cs⟩
        have sgT : SgP ((("invalid" : String) : Str), wTable) := ⟨show Sg (("invalid" : String) : Str) by unfold Sg; decide +kernel, show Sg wTable by unfold Sg; decide +kernel⟩
        have sgU : SgP ((("unknown" : String) : Str), pr) := ⟨show Sg (("unknown" : String) : Str) by unfold Sg; decide +kernel, Tp.sg⟩
        have hu7 := hr.units
        refine ifS_via (fun c H' => H' = H4 ∧ c = (!isAddr pr || offL o)) (fun Q hQ => ?_) (fun c H5 hR => ?_)
        · refine ⟨.str pr, rfl, pr, rfl, by omega, _, rfl, ?_⟩
          cases eA : isAddr pr with
          | false => exact hQ _ _ ⟨rfl, by rw [eA]; rfl⟩
          | true =>
          cases o with
          | none => exact ⟨.non, rfl, false, rfl, hQ _ _ ⟨rfl, by rw [eA]; rfl⟩⟩
          | some z =>
          have lz : z.length ≤ 100 := (To z rfl).len
          refine ⟨.str z, rfl, true, rfl, .str z, rfl, rfl, _, rfl, ite2 (fun e => ?_) (fun e => ?_)⟩
          · have ez : ¬ z = Str.ofString "" := fun y => by rw [y] at e; simp at e
            have hl : isLane z = isName z := by
              unfold isLane
              rw [decide_eq_false ez]
              rfl
            exact ⟨.str z, rfl, z, rfl, by omega, _, rfl, hQ _ _ ⟨rfl, by rw [eA, ← hl]; rfl⟩⟩
          · have ez : z = Str.ofString "" := by
              refine Classical.byContradiction fun y => e ?_
              rw [decide_eq_false (fun q => y (V.str.inj q))]
              rfl
            have hl : isLane z = true := by
              unfold isLane
              rw [decide_eq_true ez]
              rfl
            exact hQ _ _ ⟨rfl, by rw [eA]; show false = (!true || !isLane z); rw [hl]; rfl⟩
        · obtain ⟨rfl, ec⟩ := hR
          rcases cs with ⟨hbad, hT⟩ | ⟨ha, ho, hm, hT⟩ | ⟨ha, hl, hm, b', hT, hTab⟩
          · have e1 : c = true := by
              rw [ec]
              rcases hbad with h | ⟨z, rfl, h⟩
              · rw [h]; rfl
              · show (!isAddr pr || !isLane z) = true
                rw [h]
                exact Bool.or_true _
            subst e1
            refine ⟨.ref T, rfl, by show 2 ≤ sizeLine; decide, fun T2 nT2 => ⟨_, _, dp_2 (p := ((("invalid" : String) : Str), wTable)) (same_upd nT2 _ _ hT), dp_2 (p := ((("invalid" : String) : Str), wTable)) upd_same, shaped_2 sgT, shaped_2 sgT, _, rfl, ?_⟩⟩
            rw [eqv_self (shaped_2 sgT)]
            exact ⟨b, d, own, es, _, _, _, _, rfl, L4.same (same_upd nT2), by omega, by omega⟩
          · have e1 : c = false := by
              rw [ec, ha, ho]
              rfl
            subst e1
            subst ho
            refine ⟨.non, rfl, rfl, true, rfl, .str pr, rfl, .ref d, rfl, d, _, rfl, DGet.k (k := Sum.inr pr) L4.dct, _, rfl, ?_⟩
            have ev : (valV (kvP own) (Sum.inr pr)).isSome = false := by
              cases e2 : (valV (kvP own) (Sum.inr pr)).isSome with
              | false => rfl
              | true => exact absurd ((valV_kvP pr own).mp e2) hm
            rw [ev]
            refine ⟨.ref T, rfl, .str pr, rfl, by show 2 ≤ sizeLine; decide, fun T2 nT2 => ⟨_, _, dp_2 (p := ((("unknown" : String) : Str), pr)) (same_upd nT2 _ _ hT), dp_2 (p := ((("unknown" : String) : Str), pr)) upd_same, shaped_2 sgU, shaped_2 sgU, _, rfl, ?_⟩⟩
            rw [eqv_self (shaped_2 sgU)]
            exact ⟨b, d, own, es, _, _, _, _, rfl, L4.same (same_upd nT2), by omega, by omega⟩
          · have e1 : c = false := by
              rw [ec, ha]
              cases o with
              | none => rfl
              | some z => show (!true || !isLane z) = false; rw [hl z rfl]; rfl
            subst e1
            rw [if_neg Bool.false_ne_true]
            refine ifS_via (fun c H' => H' = H5 ∧ c = false) (fun Q hQ => ?_) (fun c H6 hR => ?_)
            · cases o with
              | some z => exact ⟨.str z, rfl, rfl, false, rfl, hQ _ _ ⟨rfl, rfl⟩⟩
              | none =>
                refine ⟨.non, rfl, rfl, true, rfl, .str pr, rfl, .ref d, rfl, d, _, rfl, DGet.k (k := Sum.inr pr) L4.dct, _, rfl, hQ _ _ ⟨rfl, ?_⟩⟩
                rw [(valV_kvP pr own).mpr (hm rfl)]
                rfl
            obtain ⟨rfl, rfl⟩ := hR
            obtain ⟨dx, d0, h1, h2⟩ := id hTab.ex
            have lk1 : ("table" : String) = ("table" : String) := rfl
            refine ⟨.ref T, rfl, T, _, 0, .str wTable, rfl, rfl, .of hT, atI_nat (j := 0) rfl, rfl, false, ?_, .ref T, rfl, T, _, 1, .ref b', rfl, rfl, .of hT, atI_nat (j := 1) rfl, b', dx, _, rfl, h1, true, rfl, ?_⟩
            · rw [decide_eq_true rfl]
              rfl
            refine ⟨.ref T, rfl, T, _, 1, .ref b', rfl, rfl, .of hT, atI_nat (j := 1) rfl, ?_⟩
            refine ⟨.ref d, rfl, .str pr, rfl, oStr o, rfl, d, own, pr, o, rfl, L4.dct, L4.tab.g.2, by omega, fun dn H7 S7 nd hdn => ?_⟩
            have L7 := L4.same S7
            refine ⟨.ref Kp, rfl, .inl ⟨rfl, _, sqOf L7.kp⟩, .ref b', rfl, .ref dn, rfl, by show 2 ≤ sizeLine; decide, fun T3 nT3 => ⟨Kp, _, .ref T3, rfl, rfl, same_upd nT3 _ _ L7.kp, by rw [List.length_map]; omega, ?_⟩⟩
            have L8 := L7.same (same_upd (o := HO.tup [V.ref b', V.ref dn]) nT3)
            have t8 : (L2.upd H7 T3 (.tup [V.ref b', V.ref dn])) T3 = some (.tup [V.ref b', V.ref dn]) := upd_same
            have S8 := S7.trans (same_upd (o := HO.tup [V.ref b', V.ref dn]) nT3)
            have tab8 := hTab.same S8
            have d8 : (L2.upd H7 T3 (.tup [V.ref b', V.ref dn])) dn = some (.dK (kvP (aft own pr o))) := same_upd nT3 _ _ hdn
            generalize L2.upd H7 T3 (.tup [V.ref b', V.ref dn]) = H8 at L8 t8 tab8 d8
            have kpH : H Kp = none := nK0
            have L9 : LI C H (L2.upd H8 Kp (.lst (es.map (fun e => V.ref e.1) ++ [V.ref T3]))) p Kp b' dn (aft own pr o) (es ++ [(T3, b', dn, aft own pr o)]) := by
              have bt : But Kp H8 (L2.upd H8 Kp (.lst (es.map (fun e => V.ref e.1) ++ [V.ref T3]))) := But.upd
              refine ⟨L8.bag.put hk, L8.but.put kpH, by rw [upd_same, List.map_append]; rfl, fun e he => ?_, tab8.but L8.kp bt, bt _ _ d8 (ne_of d8 L8.kp (fun z => by cases z)), by simp⟩
              rcases List.mem_append.mp he with he | he
              · exact (L8.en e he).but L8.kp bt
              · rw [List.mem_singleton.mp he]
                exact (⟨t8, tab8, d8⟩ : Ent C H8 T3 b' dn (aft own pr o)).but L8.kp bt
            generalize L2.upd H8 Kp (.lst (es.map (fun e => V.ref e.1) ++ [V.ref T3])) = H9 at L9
            have l4 : ((("4" : String) : Str)).length = 1 := by decide +kernel
            have c1 := cut_le (pr ++ (("4" : String) : Str)) none (some 8)
            have c2 := cut_le pr none (some 1)
            have c3 : (pr ++ (("4" : String) : Str)).length ≤ 101 := by rw [app_len]; omega
            refine ⟨.ref b', rfl, .ref dn, rfl, .str pr, rfl, .str pr, rfl, _, _, rfl, rfl, by omega, 8, rfl, _, rfl, by omega, .str pr, rfl, 1, rfl, _, rfl, by omega, by show 3 ≤ sizeLine; decide, fun q nq => ?_⟩
            have L10 := L9.same (same_upd (o := HO.lst [V.str pr, V.str (cutS (pr ++ (("4" : String) : Str)) none (some 8)), V.str (cutS pr none (some 1))]) nq)
            refine ⟨b', dn, q, aft own pr o, [pr, cutS (pr ++ (("4" : String) : Str)) none (some 8), cutS pr none (some 1)], rfl, L10.tab, L10.dct, upd_same, fun a ha => ?_, true, rfl, ?_⟩
            · rcases List.mem_cons.mp ha with rfl | ha
              · omega
              rcases List.mem_cons.mp ha with rfl | ha
              · omega
              rw [List.mem_singleton.mp ha]
              omega
            · have la := @aft_len own pr o
              exact ⟨b', dn, _, _, _, _, _, _, rfl, L10, by omega, by rw [List.length_append]; show es.length + 1 ≤ _; omega⟩
      · obtain ⟨b, d, own, es, y5, y6, y7, y8, rfl, L, _⟩ := hP
        exact ⟨b, d, own, es, y5, y6, y7, y8, rfl, L⟩
    · clear L0 hT hd hn SS nT0 nK HA
      rintro σ1 H1 ⟨b, d, own, es, y5, y6, y7, y8, rfl, L⟩
      refine ⟨.ref Kp, rfl, Kp, rfl, ⟨_, sqOf L.kp⟩, ?_⟩
      refine for_it (walk_list (a := Kp) (xs := es.map fun e => V.ref e.1)) (fun i σ H' => ∃ y9, σ = [some (.ref p), some (.ref b), some (.ref d), some (.ref l), some (.ref Kp), y5, y6, y7, y8, y9, none] ∧ Same H1 H') ⟨none, rfl, Same.refl _⟩ (fun i σ H' _ hP => by obtain ⟨_, _, S⟩ := hP; exact sqOf (S _ _ L.kp)) (fun i x σ H2 H3 hi hP hy => ?_) (fun σ H2 hP => ?_)
      · obtain ⟨y9, rfl, S2⟩ := hP
        obtain ⟨rfl, ex⟩ := hy
        rw [List.getElem?_map] at ex
        cases ee : es[i]? with
        | none => rw [ee] at ex; cases ex
        | some e =>
        rw [ee] at ex
        cases (Option.some.inj ex)
        have E3 := (L.en e (List.mem_of_getElem? ee)).same S2
        have en : e.2.2.2.length ≤ 900 := E3.tab.n
        refine ⟨.ref e.1, rfl, e.1, _, 0, .ref e.2.1, rfl, rfl, .of E3.t, atI_nat (j := 0) rfl, .ref e.1, rfl, e.1, _, 1, .ref e.2.2.1, rfl, rfl, .of E3.t, atI_nat (j := 1) rfl, e.2.2.1, e.2.2.2, rfl, E3.dct, by omega, fun H4 q ts S4 nq hq hts ets => ?_⟩
        refine ⟨e.2.1, q, e.2.2.2, ts, rfl, E3.tab.same S4, ⟨hq, hts⟩, ets, fun H5 S5 => ⟨true, rfl, ?_⟩⟩
        have S25 := (S2.trans S4).trans S5
        have E5 := (L.en e (List.mem_of_getElem? ee)).same S25
        have L5 := L.same S25
        obtain ⟨z, hz', ez⟩ := at_last es (fun e => V.ref e.1) L.ne
        have Z5 := L5.en z hz'
        refine ⟨.ref e.1, rfl, e.1, _, 0, .ref e.2.1, rfl, rfl, .of E5.t, atI_nat (j := 0) rfl, .ref e.1, rfl, e.1, _, 1, .ref e.2.2.1, rfl, rfl, .of E5.t, atI_nat (j := 1) rfl, ?_⟩
        refine ⟨z.2.2.1, .dK (kvP z.2.2.2), Z5.dct, trivial, fun od => ?_⟩
        have nKz : Kp ≠ z.2.2.1 := ne_of L5.kp Z5.dct (fun y => by cases y)
        have nTz : z.1 ≠ z.2.2.1 := ne_of Z5.t Z5.dct (fun y => by cases y)
        refine ⟨.ref Kp, rfl, 1, rfl, Kp, _, -1, .ref z.1, rfl, rfl, sqOf (by rw [upd_ne nKz]; exact L5.kp), ez, z.1, _, 1, .ref z.2.2.1, rfl, rfl, .of (by rw [upd_ne nTz]; exact Z5.t), atI_nat (j := 1) rfl, z.2.2.1, od, rfl, .inl ⟨kvP z.2.2.2, upd_same, fun D nD => ?_⟩⟩
        have nDz : D ≠ z.2.2.1 := fun y => by rw [y, upd_same] at nD; cases nD
        have nD5 : H5 D = none := by rw [upd_ne nDz] at nD; exact nD
        refine lc_it (walk_keys (d := z.2.2.1) (o := od) (kvs := kvP z.2.2.2)) (fun i H' => But z.2.2.1 H5 H' ∧ H' z.2.2.1 = some (.frz od (.dK (kvP z.2.2.2))) ∧ ∃ as : List Str, H' D = some (.lst (as.map V.str)) ∧ as.length ≤ i ∧ ∀ a ∈ as, a.length ≤ 1000)
          ⟨fun c o hc nc => by rw [upd_ne (ne_of_none hc nD5), upd_ne nc]; exact hc, by rw [upd_ne (Ne.symm nDz)]; exact upd_same, [], upd_same, Nat.le_refl _, fun a ha => by cases ha⟩ (fun i H' _ hP => hP.2.1) (fun j v H6 H7 hj hP hy => ?_) (fun H6 hP => ?_)
        · obtain ⟨b6, h6, as, hD, la, ha⟩ := hP
          obtain ⟨rfl, k, v', ek, rfl⟩ := hy
          unfold kvP at ek
          rw [List.getElem?_map] at ek
          cases er : z.2.2.2[j]? with
          | none => rw [er] at ek; cases ek
          | some r =>
          rw [er] at ek
          obtain ⟨rfl, rfl⟩ := Prod.mk.inj (Option.some.inj ek)
          have lr : r.1.length ≤ 8 := addr_len (Z5.tab.g.1 r (List.mem_of_getElem? er)).1
          have lj : j < z.2.2.2.length := (List.getElem?_eq_some_iff.mp er).1
          have lz := Z5.tab.n
          have c5 := cut_le r.1 none (some 5)
          refine ⟨rfl, .str r.1, rfl, 5, rfl, r.1, rfl, by omega, _, hD, by rw [List.length_map]; omega, fun c o hc nc => by rw [upd_ne (ne_of_none hc nD5)]; exact b6 c o hc nc, by rw [upd_ne (Ne.symm nDz)]; exact h6, as ++ [cutS r.1 none (some 5)], by rw [upd_same, List.map_append]; rfl, by rw [List.length_append]; show as.length + 1 ≤ _; omega, fun a h => ?_⟩
          rcases List.mem_append.mp h with h | h
          · exact ha a h
          · rw [List.mem_singleton.mp h]
            omega
        · obtain ⟨b6, h6, as, hD, la, ha⟩ := hP
          refine ⟨h6, ?_⟩
          have S6 : Same H5 (L2.upd H6 z.2.2.1 (.dK (kvP z.2.2.2))) := fun c o hc => by
            by_cases y : c = z.2.2.1
            · rw [y, upd_same]
              rw [y, Z5.dct] at hc
              exact hc
            · rw [upd_ne y]
              exact b6 c o hc y
          have E6 := E5.same S6
          exact ⟨e.2.1, e.2.2.1, D, e.2.2.2, as, rfl, E6.tab, E6.dct, by rw [upd_ne nDz]; exact hD, ha, true, rfl, _, rfl, S25.trans S6⟩
      · obtain ⟨y9, rfl, S2⟩ := hP
        exact q _ (L.bag.same S2) (L.but.trans (Same.but S2))
end
end Tb

set_option Elab.async false
set_option linter.all false
set_option maxRecDepth 100000
namespace Tb
open PySem PySem.Spec PyProof.Rows L2
abbrev sLaw : Stmt := topS 40
abbrev sWritten : Stmt := topS 38
abbrev sWWrong : Stmt := topS 39
abbrev NLw : List Str := ["script", "bag", "ways", "count", "pairs", "own", "handed", "board", "other", "addresses", "kind", "one", "two", "form", "made"]
theorem scLaw : FnScope NLw ["script"] (defScope sLaw) := ⟨rfl, rfl, rfl, by decide +kernel, rfl, by decide +kernel, by decide +kernel⟩
def spWritten (C : Addr) : Sp := fun vs H Q _ => ∃ (form : Int) (one two three : Str), vs = [.int form, .str one, .str two, .str three] ∧ isLane one = true ∧ isLane two = true ∧ isLane three = true ∧ 0 ≤ form ∧ form < 5 ∧
  ∀ (T b l : Addr) (ts : List (Addr × Pr)) (own : List Pr) (H' : Hp), Same H H' → H' T = some (.tup [.ref b, .ref l]) → TabOf C H' b own → Prs H' l ts → ts.map (·.2) = own.mergeSort le2 → Q (.ref T) H'
def spWWrong : Sp := fun vs H Q _ => ∃ (form : Int) (one two : Str), vs = [.int form, .str one, .str two] ∧ isLane one = true ∧ isLane two = true ∧ 0 ≤ form ∧ form < 8 ∧ ∀ H', Same H H' → Q (.bl true) H'
def spLaw (K : PySem.W.Frag) : Sp := fun vs H Q _ => ∃ (a : Addr) (ns : List Int), vs = [.ref a] ∧ SqL K H a (ns.map V.int) ∧ ∀ H', Q (.bl true) H'
/-- what stands while the law runs -/
structure LZ (C : Addr) (H : Hp) (p F l D b b2 : Addr) (ts : List (Addr × Pr)) (ws : List Str) (ps : List Pr) : Prop where
  bag : Bag H p
  ways : Ways H l ws
  prs : Prs H F ts
  dct : H D = some (.dK (kvP ps))
  tab : TabOf C H b ps
  tab2 : TabOf C H b2 ps
theorem LZ.same {C : Addr} {H H' : Hp} {p F l D b b2 : Addr} {ts : List (Addr × Pr)} {ws : List Str} {ps : List Pr} (Z : LZ C H p F l D b b2 ts ws ps) (h : Same H H') : LZ C H' p F l D b b2 ts ws ps :=
  ⟨Z.bag.same h, Z.ways.same h, Z.prs.same h, h _ _ Z.dct, Z.tab.same h, Z.tab2.same h⟩
theorem LZ.draw {C : Addr} {H H' : Hp} {p F l D b b2 : Addr} {ts : List (Addr × Pr)} {ws : List Str} {ps : List Pr} (Z : LZ C H p F l D b b2 ts ws ps) (n : F ≠ p) (B : Bag H' p) (h : But p H H') : LZ C H' p F l D b b2 ts ws ps := by
  obtain ⟨xs, hp⟩ := Z.bag.lst
  exact ⟨B, Z.ways.but Z.bag h, Z.prs.but Z.bag n h, h _ _ Z.dct (ne_of Z.dct hp (fun z => by cases z)), Z.tab.but hp h, Z.tab2.but hp h⟩
theorem paired_rows {K : PySem.W.Frag} {H : Hp} : ∀ {ts : List (Addr × Pr)}, (∀ t ∈ ts, H t.1 = some (.tup [.str t.2.1, .str t.2.2])) → Paired (fun (p : Addr) (kv : Key × V) => SqT K H p [kV kv.1, kv.2]) (ts.map Prod.fst) (kvP (ts.map (·.2)))
  | [], _ => .nil
  | t :: ts, h => .cons (.of (h t List.mem_cons_self)) (paired_rows fun x hx => h x (List.mem_cons_of_mem _ hx))
theorem merge_from (qs : List Pr) : ∀ ps : List Pr, ((ps ++ qs).map Prod.fst).Nodup → mergeK (kvP ps) (kvP qs) = kvP (ps ++ qs) := by
  induction qs with
  | nil => intro ps _; rw [List.append_nil]; rfl
  | cons r qs ih =>
    intro ps h
    show mergeK (putK (kvP ps) (Sum.inr r.1) (V.str r.2)) (kvP qs) = _
    have hn : valV (kvP ps) (Sum.inr r.1) = none := by
      cases e : valV (kvP ps) (Sum.inr r.1) with
      | none => rfl
      | some v =>
        exfalso
        have m := (valV_kvP r.1 ps).mp (by rw [e]; rfl)
        rw [List.map_append, List.nodup_append] at h
        exact h.2.2 _ m _ (by simp) rfl
    have e : putK (kvP ps) (Sum.inr r.1) (V.str r.2) = kvP (ps ++ [r]) := by
      rw [putK_new _ hn]
      unfold kvP
      rw [List.map_append]
      rfl
    rw [e, ih (ps ++ [r]) (by rw [List.append_assoc]; exact h), List.append_assoc]
    rfl
theorem merge_kvP {ps : List Pr} (h : (ps.map Prod.fst).Nodup) : mergeK [] (kvP ps) = kvP ps := merge_from ps [] h
section
variable {P : Program} {w : World} {K : PySem.W.Frag} {mg : Str → Option Value} {base : Heap}
structure LaD (P : Program) (w : World) (K : PySem.W.Frag) (mg : Str → Option Value) (base : Heap) (C : Addr) : Prop where
  ho : HoD P w K mg base C
  bag : ∃ g gd, Dd K mg "_law_bag" sBag ["script"] g gd
  fresh : ∃ g gd, Dd K mg "_law_fresh_name" sFresh ["bag", "known"] g gd
  ways : ∃ g gd, Dd K mg "_law_ways" sWays ["bag"] g gd
  pairs : ∃ g gd, Dd K mg "_law_pairs" sPairs ["bag", "ways", "count"] g gd
  addrs : ∃ g gd, Dd K mg "_law_addresses" sAddrs ["bag", "own"] g gd
  more : ∃ g gd, Dd K mg "_law_row_more" sRowMore ["bag", "pairs", "ways", "kind"] g gd
  hold : ∃ g gd, Dd K mg "_law_changes_hold" sHold ["bag", "board", "own", "ways"] g gd
  wr : ∃ g gd, Dd K mg "_law_written" sWritten ["form", "one", "two", "three"] g gd ∧ FnOk P w K mg base CX0 7 g gd ["form", "one", "two", "three"] (spWritten C)
  ww : ∃ g gd, Dd K mg "_law_written_wrong" sWWrong ["form", "one", "two"] g gd ∧ FnOk P w K mg base CX0 7 g gd ["form", "one", "two"] spWWrong
theorem ok_law {f C CI CU : Addr} {fd : FuncData} (F : Fun K "law" "law" sLaw f fd) (B : Blt mg) (TK : TabK P w K mg base C CI CU) (LD0 : LaD P w K mg base C) : FnOk P w K mg base CX0 9 f fd ["script"] (spLaw K) := by
  obtain ⟨g1, gd1, D⟩ := LD0.ho.rm.draw
  obtain ⟨g2, gd2, DPf⟩ := LD0.ho.rm.pref
  obtain ⟨g3, gd3, DR, GR⟩ := LD0.ho.rm.rare
  obtain ⟨g4, gd4, DK, GK⟩ := LD0.ho.calls
  obtain ⟨g5, gd5, DB⟩ := LD0.bag
  obtain ⟨g6, gd6, DFr⟩ := LD0.fresh
  obtain ⟨g7, gd7, DW⟩ := LD0.ways
  obtain ⟨g8, gd8, DP⟩ := LD0.pairs
  obtain ⟨g9, gd9, DA⟩ := LD0.addrs
  obtain ⟨g10, gd10, DM⟩ := LD0.more
  obtain ⟨g11, gd11, DH⟩ := LD0.hold
  obtain ⟨g12, gd12, DX, GX⟩ := LD0.wr
  obtain ⟨g13, gd13, DY, GY⟩ := LD0.ww
  obtain ⟨fM, fdM, MK, bM, FM⟩ := TK.make
  have GD : FnOk P w K mg base CX0 1 g1 gd1 ["bag", "size"] spDraw := ok_draw D.F B
  have GB : FnOk P w K mg base CX0 1 g5 gd5 ["script"] (spBag K) := ok_bag DB.F B
  have GW : FnOk P w K mg base CX0 3 g7 gd7 ["bag"] spWays := ok_ways DW.F D DFr B
  have GP : FnOk P w K mg base CX0 3 g8 gd8 ["bag", "ways", "count"] spPairs := ok_pairs DP.F D DPf B
  have GA : FnOk P w K mg base CX0 3 g9 gd9 ["bag", "own"] spAddrs := ok_addrs DA.F D DPf B
  have GM : FnOk P w K mg base CX0 7 g10 gd10 ["bag", "pairs", "ways", "kind"] spRowMore := ok_rowMore DM.F B TK LD0.ho.rm
  have GH : FnOk P w K mg base CX0 8 g11 gd11 ["bag", "board", "own", "ways"] (spHold C) := ok_hold DH.F B TK LD0.ho
  refine F.ok scLaw (fun vs H Q E h => ?_) (fun cdv A outer s H vs Q E hr h => ?_)
  · obtain ⟨a, ns, rfl, _⟩ := h
    rfl
  · obtain ⟨a, ns, rfl, hS, q⟩ := h
    have hz : sizeLine = 16777216 := rfl
    have r1 : Room 1 _ := hr.mono (show 1 ≤ 8 by decide)
    have r3 : Room 3 _ := hr.mono (show 3 ≤ 8 by decide)
    have r4 : Room 4 _ := hr.mono (show 4 ≤ 8 by decide)
    have r5 : Room 5 _ := hr.mono (show 5 ≤ 8 by decide)
    have r7 : Room 7 _ := hr.mono (show 7 ≤ 8 by decide)
    refine ⟨_, (pss_cons (ps_set (i := 1) scLaw.nd rfl (.inl rfl) (pe_call GB r1 (by rfl) DB.g DB.F.kp DB.b .nil pass0 (pa_cons (pv 0) pa_nil)))
        (pss_cons (ps_set (i := 2) scLaw.nd rfl (.inl rfl) (pe_call GW r3 (by rfl) DW.g DW.F.kp DW.b .nil pass0 (pa_cons (pv 1) pa_nil)))
        (pss_cons (ps_set (i := 3) scLaw.nd rfl (.inl rfl) (pe_call GD r1 (by rfl) D.g D.F.kp D.b .nil pass0 (pa_cons (pv 1) (pa_cons pe_int pa_nil))))
        (C8.pss_cut (ps_if (pt_cmpR op_eq (pe_call GD r1 (by rfl) D.g D.F.kp D.b .nil pass0 (pa_cons (pv 1) (pa_cons pe_int pa_nil))) pe_int (nomark _)) (pss_one (ps_set (i := 3) scLaw.nd rfl (.inl rfl) (pe_op op_add pe_int (pe_call GD r1 (by rfl) D.g D.F.kp D.b .nil pass0 (pa_cons (pv 1) (pa_cons pe_int pa_nil)))))) pss_nil)
        (C8.pss_cut (ps_set (i := 4) scLaw.nd rfl (.inl rfl) (pe_call GP r3 (by rfl) DP.g DP.F.kp DP.b .nil pass0 (pa_cons (pv 1) (pa_cons (pv 2) (pa_cons (pv 3) pa_nil)))))
        (C8.pss_cut (ps_set (i := 5) scLaw.nd rfl (.inl rfl) (pe_callTy (call_dictP rfl) (by rfl) B.dict PyProof.Rows.boot_dict (pa_cons (pv 4) pa_nil)))
        (pss_cons (ps_set (i := 6) scLaw.nd rfl (.inl rfl) (pe_callTy call_list_of (by rfl) B.list PyProof.Rows.boot_list (pa_cons (pv 4) pa_nil)))
        (C8.pss_cut (ps_set (i := 7) scLaw.nd rfl (.inl rfl) (pe_make MK FM r5 (by rfl) TK.g bM .nil passL (pa_cons (pv 6) pa_nil)))
        (pss_cons (ps_if (PW.pt (pw_or (pt_cmpR op_ne (pe_txt (by rfl) B.hr) pe_str (nomark _)) (pw_or1 (pt_cmpR (op_neD hr.units) (pv 6) (pv 4) (nomark _))))) (pss_one (ps_ret pe_bl)) pss_nil)
        (pss_cons (ps_expr (pe_bm0 PySem.F.plainAttrs_list PySem.F.slot_list_clear PySem.F.type_list_clear mt_clear (pv 6)))
        (pss_cons (ps_expr (pe_bm PySem.F.plainAttrs_list PySem.F.slot_list_append PySem.F.type_list_append mt_append (pv 6) (pa_cons (pe_tup (pa_cons pe_str (pa_cons pe_str pa_nil))) pa_nil)))
        (C8.pss_cut (ps_set (i := 8) scLaw.nd rfl (.inl rfl) (pe_make MK FM r5 (by rfl) TK.g bM .nil passL (pa_cons (pe_tupleOf (by rfl) B.tuple (pe_revL (pv 4))) pa_nil)))
        (C8.pss_cut (ps_set (i := 9) scLaw.nd rfl (.inl rfl) (pe_call GA r3 (by rfl) DA.g DA.F.kp DA.b .nil pass0 (pa_cons (pv 1) (pa_cons (pv 5) pa_nil))))
        (pss_cons (ps_if (PW.pt (pw_or (pt_not (pt_val (pe_call GR r3 (by rfl) DR.g DR.F.kp DR.b .nil pass0 (pa_cons (pv 7) (pa_cons (pe_callB (cr_sortRows hr.units) (by rfl) B.sorted PyProof.Rows.boot_sorted (pa_cons (pv 4) pa_nil)) pa_nil))))) (pw_or1 (pt_not (pt_val (pe_call GR r3 (by rfl) DR.g DR.F.kp DR.b .nil pass0 (pa_cons (pv 8) (pa_cons (pe_callB (cr_sortRows hr.units) (by rfl) B.sorted PyProof.Rows.boot_sorted (pa_cons (pv 4) pa_nil)) pa_nil)))))))) (pss_one (ps_ret pe_bl)) pss_nil)
        (C8.pss_cut (ps_if (PW.pt (pw_or (pt_not (pt_val (pe_call GK r4 (by rfl) DK.g DK.F.kp DK.b .nil pass0 (pa_cons (pv 7) (pa_cons (pv 5) (pa_cons (pv 9) pa_nil)))))) (pw_or1 (pt_not (pt_val (pe_call GK r4 (by rfl) DK.g DK.F.kp DK.b .nil pass0 (pa_cons (pv 8) (pa_cons (pv 5) (pa_cons (pv 9) pa_nil))))))))) (pss_one (ps_ret pe_bl)) pss_nil)
        (C8.pss_cut (ps_for PassesOwn.never rfl (pi_range1 (by rfl) B.range (pa_cons pe_int pa_nil)) (pg_name (i := 10) scLaw.nd rfl (.inl rfl)) (pss_one (ps_if (pt_not (pt_val (pe_call GM r7 (by rfl) DM.g DM.F.kp DM.b .nil pass0 (pa_cons (pv 1) (pa_cons (pv 4) (pa_cons (pv 2) (pa_cons (pv 10) pa_nil))))))) (pss_one (ps_ret pe_bl)) pss_nil)))
        (C8.pss_cut (ps_if (pt_not (pt_val (pe_call GH hr (by rfl) DH.g DH.F.kp DH.b .nil pass0 (pa_cons (pv 1) (pa_cons (pv 7) (pa_cons (pv 5) (pa_cons (pv 2) pa_nil))))))) (pss_one (ps_ret pe_bl)) pss_nil)
        (pss_cons (ps_set (i := 11) scLaw.nd rfl (.inl rfl) (pe_ix ix_list (pv 2) (pe_call GD r1 (by rfl) D.g D.F.kp D.b .nil pass0 (pa_cons (pv 1) (pa_cons (pe_callB call_len_seq (by rfl) B.len PySem.boot_len (pa_cons (pv 2) pa_nil)) pa_nil))) (fun _ _ => rfl)))
        (C8.pss_cut (ps_set (i := 12) scLaw.nd rfl (.inl rfl) (pe_ix ix_list (pv 2) (pe_call GD r1 (by rfl) D.g D.F.kp D.b .nil pass0 (pa_cons (pv 1) (pa_cons (pe_callB call_len_seq (by rfl) B.len PySem.boot_len (pa_cons (pv 2) pa_nil)) pa_nil))) (fun _ _ => rfl)))
        (C8.pss_cut (ps_for PassesOwn.never rfl (pi_range1 (by rfl) B.range (pa_cons pe_int pa_nil)) (pg_name (i := 13) scLaw.nd rfl (.inl rfl)) (pss_cons (ps_set (i := 14) scLaw.nd rfl (.inl rfl) (pe_call GX r7 (by rfl) DX.g DX.F.kp DX.b .nil pass0 (pa_cons (pv 13) (pa_cons (pv 11) (pa_cons (pv 12) (pa_cons (pe_ix ix_list (pv 2) (pe_un un_neg pe_int) (fun _ _ => rfl)) pa_nil))))))
        (pss_cons (ps_if (PW.pt (pw_or (pt_not (pt_val (pe_callB (C8.call_isC TK.ins) (by rfl) B.isi (by decide +kernel) (pa_cons (pe_ix ix_tup (pv 14) pe_int (fun _ _ => rfl)) (pa_cons (pe_glob (by rfl) TK.g (v := .ref C) rfl) pa_nil))))) (pw_or1 (pt_not (pt_val (pe_call GR r3 (by rfl) DR.g DR.F.kp DR.b .nil pass0 (pa_cons (pe_ix ix_tup (pv 14) pe_int (fun _ _ => rfl)) (pa_cons (pe_ix ix_tup (pv 14) pe_int (fun _ _ => rfl)) pa_nil)))))))) (pss_one (ps_ret pe_bl)) pss_nil)
        (pss_one (ps_if (pt_not (pt_val (pe_call GK r4 (by rfl) DK.g DK.F.kp DK.b .nil pass0 (pa_cons (pe_ix ix_tup (pv 14) pe_int (fun _ _ => rfl)) (pa_cons (pe_callTy (call_dictP rfl) (by rfl) B.dict PyProof.Rows.boot_dict (pa_cons (pe_ix ix_tup (pv 14) pe_int (fun _ _ => rfl)) pa_nil)) (pa_cons (pe_lst (pa_cons pe_str (pa_cons pe_str (pa_cons pe_str (pa_cons pe_str (pa_cons pe_str (pa_cons pe_str (pa_cons pe_str pa_nil)))))))) pa_nil)))))) (pss_one (ps_ret pe_bl)) pss_nil)))))
        (C8.pss_cut (ps_for PassesOwn.never rfl (pi_range1 (by rfl) B.range (pa_cons pe_int pa_nil)) (pg_name (i := 13) scLaw.nd rfl (.inl rfl)) (pss_one (ps_if (pt_not (pt_val (pe_call GY r7 (by rfl) DY.g DY.F.kp DY.b .nil pass0 (pa_cons (pv 13) (pa_cons (pv 11) (pa_cons (pv 12) pa_nil)))))) (pss_one (ps_ret pe_bl)) pss_nil)))
        (pss_one (ps_ret (pe_call GK r4 (by rfl) DK.g DK.F.kp DK.b .nil pass0 (pa_cons (pv 7) (pa_cons (pv 5) (pa_cons (pv 9) pa_nil))))))))))))))))))))))))))), ?_⟩
    refine ⟨.ref a, rfl, a, ns, rfl, hS, fun p H1 S1 np B1 => ?_⟩
    refine ⟨.ref p, rfl, p, rfl, B1, fun l ws H2 W2 nl B2 b2 => ?_⟩
    refine ⟨.ref p, rfl, p, 7, rfl, B2, by decide, by decide, fun c H3 c0 c1 B3 b3 => ?_⟩
    refine ⟨fun σ' H' => ∃ c : Int, σ' = [some (.ref a), some (.ref p), some (.ref l), some (.int c), none, none, none, none, none, none, none, none, none, none, none] ∧ 0 ≤ c ∧ c ≤ 70 ∧ Bag H' p ∧ Ways H' l ws, ?_, ?_⟩
    · refine ⟨.ref p, rfl, p, 8, rfl, B3, by decide, by decide, fun j H4 j0 j1 B4 b4 => ⟨rfl, _, rfl, ite2 (fun e => ?_) (fun e => ?_)⟩⟩
      · exact ⟨.ref p, rfl, p, 41, rfl, B4, by decide, by decide, fun k H5 k0 k1 B5 b5 => ⟨20, k, rfl, rfl, 20 + k, rfl, by omega, by omega, B5, ((W2.but B2 b3).but B3 b4).but B4 b5⟩⟩
      · exact ⟨c, rfl, c0, by omega, B4, (W2.but B2 b3).but B3 b4⟩
    clear B1 B2 B3 W2 b2 b3 S1 c0 c1 c
    rintro σ1 H4 ⟨c, rfl, c0, c1, B4, W4⟩
    refine ⟨fun σ' H' => ∃ (F : Addr) (ts : List (Addr × Pr)), σ' = [some (.ref a), some (.ref p), some (.ref l), some (.int c), some (.ref F), none, none, none, none, none, none, none, none, none, none] ∧ Bag H' p ∧ Ways H' l ws ∧ Prs H' F ts ∧ F ≠ p ∧ Good (ts.map (·.2)) ∧ ts.length ≤ 70, ?_, ?_⟩
    · exact ⟨.ref p, rfl, .ref l, rfl, .int c, rfl, p, l, ws, c, rfl, B4, W4, c0, c1, fun F ts H' hF hG hn nF B' b' => ⟨F, ts, rfl, B', W4.but B4 b', hF, bag_no B4 nF, hG, hn⟩⟩
    clear B4 W4
    rintro σ2 H5 ⟨F, ts, rfl, B5, W5, hF, Fp, hG, hn⟩
    have nd := hG.2
    generalize eps : ts.map (·.2) = ps at hG nd
    have lps : ps.length ≤ 70 := by rw [← eps, List.length_map]; exact hn
    refine ⟨fun σ' H' => ∃ D : Addr, σ' = [some (.ref a), some (.ref p), some (.ref l), some (.int c), some (.ref F), some (.ref D), none, none, none, none, none, none, none, none, none] ∧ Same H5 H' ∧ H' D = some (.dK (kvP ps)), ?_, ?_⟩
    · refine ⟨.ref F, rfl, F, ts.map Prod.fst, kvP ps, rfl, sqOf (by rw [List.map_map]; exact hF.l), by rw [← eps]; exact paired_rows hF.t, fun D nD => ⟨D, rfl, same_upd nD, ?_⟩⟩
      rw [upd_same, merge_kvP nd]
    rintro σ3 H6 ⟨D, rfl, S6, hD⟩
    have B6 := B5.same S6
    have W6 := W5.same S6
    have F6 := hF.same S6
    have sg := good_sg hG
    refine ⟨.ref F, rfl, F, _, rfl, .inl (sqOf F6.l), fun h nh => ?_⟩
    have S7 : Same H6 (L2.upd H6 h (.lst (ts.map fun t => V.ref t.1))) := same_upd nh
    have h7 : (L2.upd H6 h (.lst (ts.map fun t => V.ref t.1))) h = some (.lst (ts.map fun t => V.ref t.1)) := upd_same
    generalize L2.upd H6 h (.lst (ts.map fun t => V.ref t.1)) = H7 at S7 h7
    have zrow : ∀ t ∈ ts, t.2.1.length ≤ 1000 ∧ t.2.2.length ≤ 1000 := fun t ht => by
      have := hG.1 t.2 (by rw [← eps]; exact List.mem_map.mpr ⟨t, ht, rfl⟩)
      have h1 := addr_len this.1
      have h2 := lane_len this.2
      omega
    refine ⟨fun σ' H' => ∃ b : Addr, σ' = [some (.ref a), some (.ref p), some (.ref l), some (.int c), some (.ref F), some (.ref D), some (.ref h), some (.ref b), none, none, none, none, none, none, none] ∧ Same H7 H' ∧ TabOf C H' b ps, ?_, ?_⟩
    · refine ⟨.ref h, rfl, ?_⟩
      intro x dx nx ndx hne
      refine tab_made2 (lst := true) (ts := ts) ⟨h7, fun t ht => S7 _ _ (F6.t t ht), by omega, zrow⟩ (by omega) nx ndx hne (fun _ H' S T => ⟨rfl, x, rfl, S, by rw [← eps]; exact T⟩) (fun g => absurd (by rw [eps]; exact hG) g)
    rintro σ4 H8 ⟨b, rfl, S8, T8⟩
    have h8 := S8 _ _ h7
    have F8 := (F6.same S7).same S8
    refine ⟨rfl, false, by rw [decide_eq_true rfl]; rfl, ?_⟩
    refine ⟨.ref h, rfl, .ref F, rfl, _, _, .lst (sqOf h8) (dp_2s F8.t), .lst (sqOf F8.l) (dp_2s F8.t), by rw [eps]; exact shaped_2s sg, by rw [eps]; exact shaped_2s sg, _, rfl, ?_⟩
    rw [eps, eqv_self (shaped_2s sg)]
    refine ⟨.ref h, rfl, .inl ⟨rfl, _, sqOf h8⟩, h, _, rfl, rfl, h8, ?_⟩
    refine ⟨.ref h, rfl, .inl ⟨rfl, _, sqOf upd_same⟩, by show 2 ≤ sizeLine; decide, fun T nT => ?_⟩
    have hT : h ≠ T := fun e => by rw [← e, upd_same] at nT; cases nT
    refine ⟨h, _, .ref T, rfl, rfl, by rw [upd_ne hT]; exact upd_same, by show 0 < sizeLine; decide, ?_⟩
    have S9 : Same H6 (L2.upd (L2.upd (L2.upd H8 h (.lst [])) T (.tup [V.str (Str.ofString "7"), V.str (Str.ofString "x")])) h (.lst ([] ++ [V.ref T]))) := fun u o hu => by
      have n1 : u ≠ h := ne_of_none hu nh
      have n2 := S8 _ _ (S7 _ _ hu)
      have n3 : u ≠ T := fun e => by rw [← e, upd_ne n1, n2] at nT; cases nT
      rw [upd_ne n1, upd_ne n3, upd_ne n1]
      exact n2
    have T9 : TabOf C (L2.upd (L2.upd (L2.upd H8 h (.lst [])) T (.tup [V.str (Str.ofString "7"), V.str (Str.ofString "x")])) h (.lst ([] ++ [V.ref T]))) b ps := by
      have t1 := T8.but h8 (But.upd (o := HO.lst []))
      have t2 := t1.same (same_upd (o := HO.tup [V.str (Str.ofString "7"), V.str (Str.ofString "x")]) nT)
      exact t2.but (p := h) (xs := []) (by rw [upd_ne hT]; exact upd_same) But.upd
    generalize L2.upd (L2.upd (L2.upd H8 h (.lst [])) T (.tup [V.str (Str.ofString "7"), V.str (Str.ofString "x")])) h (.lst ([] ++ [V.ref T])) = H9 at S9 T9
    have F9 := F6.same S9
    refine ⟨fun σ' H' => ∃ b2 : Addr, σ' = [some (.ref a), some (.ref p), some (.ref l), some (.int c), some (.ref F), some (.ref D), some (.ref h), some (.ref b), some (.ref b2), none, none, none, none, none, none] ∧ Same H9 H' ∧ TabOf C H' b2 ps, ?_, ?_⟩
    · refine ⟨.ref F, rfl, F, _, rfl, sqOf F9.l, fun rv nrv => .inl ⟨rv, _, rfl, sqOf upd_same, fun tq ntq => ?_⟩⟩
      have Sr := (same_upd (o := HO.lst (ts.map fun t => V.ref t.1).reverse) nrv).trans (same_upd (o := HO.tup (ts.map fun t => V.ref t.1).reverse) ntq)
      intro x dx nx ndx hne
      have er : (ts.reverse).map (·.2) = ps.reverse := by rw [List.map_reverse, eps]
      have pr : (ps.reverse).Perm ps := List.reverse_perm ps
      refine tab_made2 (lst := false) (ts := ts.reverse) ⟨by rw [upd_same, List.map_reverse]; rfl, fun t ht => Sr _ _ (F9.t t (List.mem_reverse.mp ht)), by rw [List.length_reverse]; omega, fun t ht => zrow t (List.mem_reverse.mp ht)⟩ (by rw [List.length_reverse]; omega) nx ndx hne
        (fun _ H' S T => ⟨rfl, x, rfl, Sr.trans S, (by rw [er] at T; exact T.perm pr)⟩) (fun g => absurd (by rw [er]; exact good_perm pr.symm hG) g)
    rintro σ5 H10 ⟨b2, rfl, S10, T10⟩
    have Z10 : LZ C H10 p F l D b b2 ts ws ps := ⟨B6.same (S9.trans S10), (W6.same (S9.trans S10)), F9.same S10, (S9.trans S10) _ _ hD, T9.same S10, T10⟩
    clear T10 S10 T9 S9 F8 F9 h8 h7 S7 S8 T8 F6 W6 B6 hD S6 hF W5 B5
    refine ⟨fun σ' H' => ∃ (A : Addr) (as : List Str), σ' = [some (.ref a), some (.ref p), some (.ref l), some (.int c), some (.ref F), some (.ref D), some (.ref h), some (.ref b), some (.ref b2), some (.ref A), none, none, none, none, none] ∧ LZ C H' p F l D b b2 ts ws ps ∧ A ≠ p ∧ H' A = some (.lst (as.map V.str)) ∧ ∀ x ∈ as, x.length ≤ 1000, ?_, ?_⟩
    · exact ⟨.ref p, rfl, .ref D, rfl, p, D, ps, rfl, Z10.bag, Z10.dct, hG, by omega, fun A as H' hA hl nA B' b' => ⟨A, as, rfl, Z10.draw Fp B' b', bag_no Z10.bag nA, hA, hl⟩⟩
    clear Z10
    rintro σ6 H11 ⟨A, as, rfl, Z, Ap, hA, hl⟩
    refine ⟨.ref b, rfl, .ref F, rfl, F, ts, rfl, Z.prs, fun q1 ts1 n1 m1 e1 => ⟨b, q1, ps, ts1, rfl, Z.tab.same (same_upd n1), Z.prs.sub n1 m1, by rw [e1, eps], fun H12 S12 => ⟨true, rfl, ?_⟩⟩⟩
    have Sa := (same_upd (o := HO.lst (ts1.map fun t => V.ref t.1)) n1).trans S12
    have Z12 := Z.same Sa
    refine ⟨.ref b2, rfl, .ref F, rfl, F, ts, rfl, Z12.prs, fun q2 ts2 n2 m2 e2 => ⟨b2, q2, ps, ts2, rfl, Z12.tab2.same (same_upd n2), Z12.prs.sub n2 m2, by rw [e2, eps], fun H13 S13 => ⟨true, rfl, ?_⟩⟩⟩
    have Sb := (same_upd (o := HO.lst (ts2.map fun t => V.ref t.1)) n2).trans S13
    have Z13 := Z12.same Sb
    have A13 := Sb _ _ (Sa _ _ hA)
    clear Z12 Sa Sb S12 S13
    let M : L2.St → Hp → Prop := fun σ' H' => ∃ (yk : Option V) (y1 y2 yf ym : Option V), σ' = [some (.ref a), some (.ref p), some (.ref l), some (.int c), some (.ref F), some (.ref D), some (.ref h), some (.ref b), some (.ref b2), some (.ref A), yk, y1, y2, yf, ym] ∧ LZ C H' p F l D b b2 ts ws ps ∧ H' A = some (.lst (as.map V.str))
    refine ⟨M, ?_, ?_⟩
    · refine ⟨.ref b, rfl, .ref D, rfl, .ref A, rfl, b, D, A, ps, as, rfl, Z13.tab, Z13.dct, A13, hl, true, rfl, ?_⟩
      exact ⟨.ref b2, rfl, .ref D, rfl, .ref A, rfl, b2, D, A, ps, as, rfl, Z13.tab2, Z13.dct, A13, hl, true, rfl, none, none, none, none, none, rfl, Z13, A13⟩
    rintro σ7 H14 ⟨yk, y1, y2, yf, ym, rfl, Z14, A14⟩
    refine ⟨M, ?_, ?_⟩
    · refine ⟨4, rfl, by decide, by decide, ?_⟩
      refine for_it (walk_range (lo := 0) (n := (4 : Int).toNat)) (fun i σ H' => M σ H') ⟨yk, y1, y2, yf, ym, rfl, Z14, A14⟩ (fun _ _ _ _ _ => trivial) (fun i x σ H2 H3 hi hP hy => ?_) (fun σ H2 hP => hP)
      obtain ⟨yk, y1, y2, yf, ym, rfl, Z3, A3⟩ := hP
      obtain ⟨rfl, rfl⟩ := hy
      exact ⟨.ref p, rfl, .ref F, rfl, .ref l, rfl, _, rfl, p, F, l, ts, ws, _, rfl, Z3.bag, Z3.prs, Fp, by rw [eps]; exact hG, hn, Z3.ways, fun H' B' b' => ⟨true, rfl, _, _, _, _, _, rfl, Z3.draw Fp B' b', b' _ _ A3 Ap⟩⟩
    clear Z14 A14 H14 yk y1 y2 yf ym Z13 A13
    rintro σ7 H14 ⟨yk, y1, y2, yf, ym, rfl, Z14, A14⟩
    refine ⟨M, ?_, ?_⟩
    · exact ⟨.ref p, rfl, .ref b, rfl, .ref D, rfl, .ref l, rfl, p, b, D, l, ps, ws, rfl, Z14.bag, Z14.tab, Z14.dct, lps, Z14.ways, fun H' B' b' => ⟨true, rfl, _, _, _, _, _, rfl, Z14.draw Fp B' b', b' _ _ A14 Ap⟩⟩
    clear Z14 A14 H14 yk y1 y2 yf ym
    rintro σ7 H14 ⟨yk, y1, y2, yf, ym, rfl, Z14, A14⟩
    have wn := Z14.ways.n
    have wg := Z14.ways.g
    refine ⟨.ref l, rfl, .ref p, rfl, .ref l, rfl, l, _, rfl, .inl (sqOf Z14.ways.l), p, _, rfl, Z14.bag, by rw [List.length_map]; omega, by rw [List.length_map]; omega, fun j H15 j0 j1 B15 b15 => ?_⟩
    obtain ⟨one, h1, e1⟩ := pick j0 j1
    have Z15 := Z14.draw Fp B15 b15
    have A15 := b15 _ _ A14 Ap
    refine ⟨l, _, j, .str one, rfl, rfl, sqOf Z15.ways.l, e1, ?_⟩
    let M2 : L2.St → Hp → Prop := fun σ' H' => ∃ (two : Str) (yf ym : Option V), σ' = [some (.ref a), some (.ref p), some (.ref l), some (.int c), some (.ref F), some (.ref D), some (.ref h), some (.ref b), some (.ref b2), some (.ref A), yk, some (.str one), some (.str two), yf, ym] ∧ isLane two = true ∧ LZ C H' p F l D b b2 ts ws ps ∧ H' A = some (.lst (as.map V.str))
    refine ⟨M2, ?_, ?_⟩
    · refine ⟨.ref l, rfl, .ref p, rfl, .ref l, rfl, l, _, rfl, .inl (sqOf Z15.ways.l), p, _, rfl, Z15.bag, by rw [List.length_map]; omega, by rw [List.length_map]; omega, fun j2 H16 k0 k1 B16 b16 => ?_⟩
      obtain ⟨two, h2, e2⟩ := pick k0 k1
      have Z16 := Z15.draw Fp B16 b16
      exact ⟨l, _, j2, .str two, rfl, rfl, sqOf Z16.ways.l, e2, two, yf, ym, rfl, wg two h2, Z16, b16 _ _ A15 Ap⟩
    clear Z14 A14 H14 Z15 A15 B15 b15
    rintro σ8 H14 ⟨two, yf, ym, rfl, l2, Z14, A14⟩
    have l1 := wg one h1
    refine ⟨M2, ?_, ?_⟩
    · refine ⟨5, rfl, by decide, by decide, ?_⟩
      refine for_it (walk_range (lo := 0) (n := (5 : Int).toNat)) (fun i σ H' => ∃ (yf ym : Option V), σ = [some (.ref a), some (.ref p), some (.ref l), some (.int c), some (.ref F), some (.ref D), some (.ref h), some (.ref b), some (.ref b2), some (.ref A), yk, some (.str one), some (.str two), yf, ym] ∧ LZ C H' p F l D b b2 ts ws ps ∧ H' A = some (.lst (as.map V.str))) ⟨yf, ym, rfl, Z14, A14⟩ (fun _ _ _ _ _ => trivial) (fun i x σ H2 H3 hi hP hy => ?_) (fun σ H2 hP => ?_)
      · obtain ⟨yf, ym, rfl, Z3, A3⟩ := hP
        obtain ⟨rfl, rfl⟩ := hy
        have hi5 : i < 5 := hi
        obtain ⟨x3, h3, e3⟩ := at_last ws V.str (by intro z; rw [z] at wn; exact absurd wn.1 (by decide))
        refine ⟨_, rfl, .str one, rfl, .str two, rfl, .ref l, rfl, 1, rfl, l, _, -1, .str x3, rfl, rfl, sqOf Z3.ways.l, e3, _, one, two, x3, rfl, l1, l2, wg x3 h3, by omega, by omega, fun T t q tr own H4 S4 hT hTab hPr eo => ?_⟩
        obtain ⟨dx, d0, g1, g2⟩ := id hTab.ex
        have own_n := hTab.n
        refine ⟨.ref T, rfl, T, _, 0, .ref t, rfl, rfl, .of hT, atI_nat (j := 0) rfl, t, dx, _, rfl, g1, true, rfl, ?_⟩
        refine ⟨.ref T, rfl, T, _, 0, .ref t, rfl, rfl, .of hT, atI_nat (j := 0) rfl, .ref T, rfl, T, _, 1, .ref q, rfl, rfl, .of hT, atI_nat (j := 1) rfl, t, q, own, tr, rfl, hTab, hPr, eo, fun H5 S5 => ⟨true, rfl, ?_⟩⟩
        have hT5 := S5 _ _ hT
        have P5 := hPr.same S5
        refine ⟨.ref T, rfl, T, _, 0, .ref t, rfl, rfl, .of hT5, atI_nat (j := 0) rfl, .ref T, rfl, T, _, 1, .ref q, rfl, rfl, .of hT5, atI_nat (j := 1) rfl, q, tr.map Prod.fst, kvP (tr.map (·.2)), rfl, sqOf (by rw [List.map_map]; exact P5.l), paired_rows P5.t, fun dn ndn => ?_⟩
        rw [merge_kvP (by rw [eo]; exact nodup_sort hTab.g.2)]
        have S6 := S5.trans (same_upd (o := HO.dK (kvP (tr.map (·.2)))) ndn)
        have d6 : (L2.upd H5 dn (.dK (kvP (tr.map (·.2))))) dn = some (.dK (kvP (tr.map (·.2)))) := upd_same
        generalize L2.upd H5 dn (.dK (kvP (tr.map (·.2)))) = H6 at S6 d6
        refine ⟨by show 7 ≤ sizeLine; decide, fun q7 n7 => ?_⟩
        refine ⟨t, dn, q7, own.mergeSort le2, ["1", "123", "0", "004", "98765432", "2", "00000000"].map Str.ofString, rfl, ((hTab.same S6).same (same_upd n7)).perm (List.mergeSort_perm own le2).symm, ?_, by rw [upd_same]; rfl, by decide +kernel, true, rfl, ?_⟩
        · rw [same_upd n7 _ _ d6, eo]
        have S7 := S4.trans (S6.trans (same_upd (o := HO.lst [V.str (Str.ofString "1"), V.str (Str.ofString "123"), V.str (Str.ofString "0"), V.str (Str.ofString "004"), V.str (Str.ofString "98765432"), V.str (Str.ofString "2"), V.str (Str.ofString "00000000")]) n7))
        exact ⟨_, _, rfl, Z3.same S7, S7 _ _ A3⟩
      · obtain ⟨yf, ym, rfl, Z3, A3⟩ := hP
        exact ⟨two, yf, ym, rfl, l2, Z3, A3⟩
    clear Z14 A14 H14 l2 yf ym two
    rintro σ8 H14 ⟨two, yf, ym, rfl, l2, Z14, A14⟩
    refine ⟨M2, ?_, ?_⟩
    · refine ⟨8, rfl, by decide, by decide, ?_⟩
      refine for_it (walk_range (lo := 0) (n := (8 : Int).toNat)) (fun i σ H' => ∃ (yf ym : Option V), σ = [some (.ref a), some (.ref p), some (.ref l), some (.int c), some (.ref F), some (.ref D), some (.ref h), some (.ref b), some (.ref b2), some (.ref A), yk, some (.str one), some (.str two), yf, ym] ∧ LZ C H' p F l D b b2 ts ws ps ∧ H' A = some (.lst (as.map V.str))) ⟨yf, ym, rfl, Z14, A14⟩ (fun _ _ _ _ _ => trivial) (fun i x σ H2 H3 hi hP hy => ?_) (fun σ H2 hP => ?_)
      · obtain ⟨yf, ym, rfl, Z3, A3⟩ := hP
        obtain ⟨rfl, rfl⟩ := hy
        have hi8 : i < 8 := hi
        exact ⟨_, rfl, .str one, rfl, .str two, rfl, _, one, two, rfl, l1, l2, by omega, by omega, fun H' S' => ⟨true, rfl, _, _, rfl, Z3.same S', S' _ _ A3⟩⟩
      · obtain ⟨yf, ym, rfl, Z3, A3⟩ := hP
        exact ⟨two, yf, ym, rfl, l2, Z3, A3⟩
    rintro σ9 H15 ⟨two, yf, ym, rfl, _, Z, A15⟩
    exact ⟨.ref b, rfl, .ref D, rfl, .ref A, rfl, b, D, A, ps, as, rfl, Z.tab, Z.dct, A15, hl, q _⟩
end
end Tb

set_option Elab.async false
set_option linter.all false
set_option maxRecDepth 100000
namespace Tb
open PySem PySem.Spec PyProof.Rows L2
section
variable {prog : Program} {w : World} {A : Around} {E : Value → Shared → Prop} {s : Shared} {d : Addr} {kvs : List (Key × Value)} {name : Str} {v : Value} {Q : Unit → Shared → Prop}
theorem keyIs_isStr {e : Value} (h : e.isStr name = true) : keyIs (.inr name) e = true := by
  cases e with
  | str x t =>
    have e : x = name := eq_of_beq h
    rw [e]
    exact keyIs_str name t
  | _ => cases h
/-- a new name in a dict, told of its entries -/
theorem nsSet_new (hm : s.heap.DictOf (mixKind prog w) d kvs) (hn : (Sum.inr name : Key) ∉ kvs.map (·.1))
    (hQ : ∀ h', h'.DictOf (mixKind prog w) d (kvs ++ [(Sum.inr name, v)]) → Heap.SameBut d s.heap h' → Q () { s with heap := h', toks := s.toks + 1 }) : wpAny (model prog w) A (nsSet d name v) Q E s := by
  obtain ⟨o, es, ep, ho, hc, hd, hk, hp, hnd⟩ := hm
  have nokey : ∀ e ∈ es, e.key.isStr name = false := fun e he => by
    cases q : e.key.isStr name with
    | false => rfl
    | true =>
      exfalso
      have h1 := hp.findIdx (Sum.inr name)
      have h2 : kvs.findIdx? (fun kv => decide (kv.1 = Sum.inr name)) = none := by
        rw [List.findIdx?_eq_none_iff]
        exact fun kv hkv => decide_eq_false fun z => hn (List.mem_map.mpr ⟨kv, hkv, z⟩)
      rw [h2, List.findIdx?_eq_none_iff] at h1
      have := h1 e (Array.mem_toList_iff.mpr he)
      rw [show (mixKind prog w).is (Sum.inr name) e.key = keyIs (.inr name) e.key from rfl, keyIs_isStr q] at this
      cases this
  have hi : es.findIdx? (·.key.isStr name) = none := by
    rw [Array.findIdx?_eq_none_iff]
    exact nokey
  have hany : es.any (·.refKey) = false := by
    rw [Array.any_eq_false']
    intro e he
    obtain ⟨k, h1, _⟩ := hk e he
    rcases keyIs_shape h1 with ⟨i, t, rfl, h⟩ | ⟨x, t, rfl, h⟩ <;> simp [DictEntry.refKey, h]
  have hkey : ∀ t, (mixKind prog w).is (Sum.inr name) (.str name t) = true := fun t => keyIs_str name t
  unfold nsSet strHash
  refine wpAny_bind (wpAny_bind (wpAny_askSetting (wpAny_pure ?_)))
  refine wpAny_bind (wpAny_mkText ?_)
  refine wpAny_bind (wpAny_loadPart (s := { s with toks := s.toks + 1 }) ho ?_)
  rw [hd]
  simp only [aRefKeyMayBeTheName_eq, aRefKeyMayBeTheNameByArray, hany, Bool.and_false, Bool.false_eq_true, if_false]
  have hput : ∀ (h : Int) (key : Value), Obj.putName name h key v o = o.mapDictKeys (·.push ⟨h, key, v⟩) := fun h key => by
    obtain ⟨c, dd, dt, sl⟩ := o
    simp only at hd
    subst hd
    rw [Obj.putName_eq]
    simp only [Obj.putNameByArray, hi]
    rfl
  refine wpAny_updatePart (s := { s with toks := s.toks + 1 }) ho (hQ _ ⟨o.mapDictKeys (·.push ⟨hashStr w name, .str name s.toks, v⟩), _, ep + 1, ?_, hc.mapDictKeys _, Obj.data_mapDictKeys hd _, hk.push (hkey _) _, ?_, ?_⟩ (Heap.SameBut.update ..))
  · have e : o.mapDictKeys (·.push ⟨hashStr w name, .str name s.toks, v⟩) = Obj.putName name (hashStr w name) (.str name s.toks) v o := (hput _ _).symm
    rw [e]
    refine Heap.get?_update_self _ ho ?_
    rw [hput]
    exact Obj.isFreed_of_dict (Obj.data_mapDictKeys hd _)
  · have := hp.append (hkey s.toks) (hashStr w name) v
    obtain ⟨l⟩ := es
    simpa using this
  · rw [List.map_append, List.nodup_append]
    refine ⟨hnd, by simp, ?_⟩
    intro a ha b hb
    simp only [List.map_cons, List.map_nil, List.mem_singleton] at hb
    subst hb
    exact fun e => hn (e ▸ ha)
end
end Tb

set_option Elab.async false
set_option linter.all false
set_option maxRecDepth 100000
namespace Tb
open PySem PySem.Spec PyProof.Rows L2
abbrev sTWritten : Stmt := inClass (topS 18) 8
/-- the names set one behind another -/
def nsAll (d : Addr) (l : List (Str × Value)) : Sem PUnit := forIn l PUnit.unit (fun (q : Str × Value) (_ : PUnit) => do nsSet d q.1 q.2; pure (ForInStep.yield PUnit.unit))
def bindTo (kws : List (Str × Value)) : Sem (List (Str × Value)) := (alloc ({ cls := .type "dict", data := .dict #[] } : Obj) : Sem Addr) >>= fun d => nsAll d kws >>= fun _ => pure [(Str.ofString "lanes", Value.ref d)]
abbrev fnW (kV doc pm cdv ct : Value) (an : Option Addr) : FuncData := PySem.W.fnOf "written" "Table.written" (defArgs sTWritten) (defBody sTWritten) (defScope sTWritten) .none kV doc pm an cdv ct
theorem bind_kw0 {kV doc pm cdv ct : Value} {an : Option Addr} : bindArgs (fnW kV doc pm cdv ct an) ⟨[], []⟩ = bindTo [] := rfl
theorem bind_kw1 {kV doc pm cdv ct : Value} {an : Option Addr} (k : Str) (v : Value) : bindArgs (fnW kV doc pm cdv ct an) ⟨[], [(k, v)]⟩ = bindTo [(k, v)] := rfl
theorem bind_kw2 {kV doc pm cdv ct : Value} {an : Option Addr} (k k2 : Str) (v v2 : Value) : bindArgs (fnW kV doc pm cdv ct an) ⟨[], [(k, v), (k2, v2)]⟩ = bindTo [(k, v), (k2, v2)] := rfl
theorem bind_kw3 {kV doc pm cdv ct : Value} {an : Option Addr} (k k2 k3 : Str) (v v2 v3 : Value) : bindArgs (fnW kV doc pm cdv ct an) ⟨[], [(k, v), (k2, v2), (k3, v3)]⟩ = bindTo [(k, v), (k2, v2), (k3, v3)] := rfl
end Tb

set_option Elab.async false
set_option linter.all false
set_option maxRecDepth 100000
namespace Tb
open PySem PySem.Spec PyProof.Rows L2
section
variable {prog : Program} {w : World}
theorem nsAll_wp {A : Around} {E : Value → Shared → Prop} {d : Addr} : ∀ {l : List (Str × Value)} {s : Shared} {kvs : List (Key × Value)} {Q : PUnit → Shared → Prop}, s.heap.DictOf (mixKind prog w) d kvs → (kvs.map (·.1) ++ l.map fun q => (Sum.inr q.1 : Key)).Nodup →
    (∀ h' tk, h'.DictOf (mixKind prog w) d (kvs ++ l.map fun q => ((Sum.inr q.1 : Key), q.2)) → Heap.SameBut d s.heap h' → Q PUnit.unit { s with heap := h', toks := tk }) → wpAny (model prog w) A (nsAll d l) Q E s
  | [], s, kvs, Q, hm, _, hQ => by
    show wpAny _ _ (pure PUnit.unit) _ _ _
    refine wpAny_pure ?_
    have := hQ s.heap s.toks (by rw [List.map_nil, List.append_nil]; exact hm) ⟨rfl, fun _ _ => rfl⟩
    exact this
  | q :: l, s, kvs, Q, hm, hn, hQ => by
    unfold nsAll
    rw [List.forIn_cons]
    have hn1 : (Sum.inr q.1 : Key) ∉ kvs.map (·.1) := fun hm => by
      rw [List.nodup_append] at hn
      exact hn.2.2 _ hm _ (by simp) rfl
    refine wpAny_bind (wpAny_bind (nsSet_new hm hn1 fun h' hm' sb => wpAny_pure ?_))
    refine nsAll_wp (l := l) (s := { s with heap := h', toks := s.toks + 1 }) hm' (by rw [List.map_append, List.append_assoc]; exact hn) fun h2 tk hm2 sb2 => ?_
    refine hQ h2 tk (by rw [List.append_assoc] at hm2; exact hm2) ⟨sb2.1.trans sb.1, fun b hb => (sb2.2 b hb).trans (sb.2 b hb)⟩
end
section
variable {P : Program} {w : World} {K : PySem.W.Frag} {mg : Str → Option Value} {base : Heap} {A : Around} {outer : List Env} {s : Shared} {H : Hp}
/-- an object laid anyhow ahead of a def's body -/
theorem env0_to {h' : Heap} {tk : Nat} {u : HO} (e0 : Env0 P w K mg base A outer s H) (kp : ∀ b x, s.heap.get? b = some x → h'.get? b = some x) (sz : s.heap.objs.size ≤ h'.objs.size) (new : ObjOk P w (L2.upd H s.heap.objs.size u) h' s.heap.objs.size u) :
    Env0 P w K mg base A outer { s with heap := h', toks := tk } (L2.upd H s.heap.objs.size u) := by
  refine ⟨e0.frames, e0.mod, fun b x e => ⟨kp b x (e0.bs b x e).1, ?_⟩, Nat.le_trans e0.bsz sz, Heap.FunFrames.of_keeps (fun b x e _ => ⟨x, kp b x e, rfl⟩) e0.funs, fun b hb => ?_, e0.hok.laid kp (Nat.le_refl _) new, e0.bare⟩
  · rw [upd_ne (Nat.ne_of_lt (Heap.lt_size (e0.bs b x e).1))]
    exact (e0.bs b x e).2
  · obtain ⟨_, x, hx, _⟩ := e0.funs.mem hb
    rw [upd_ne (Nat.ne_of_lt (Heap.lt_size hx))]
    exact e0.frf b hb
end
end Tb

set_option Elab.async false
set_option linter.all false
set_option maxRecDepth 100000
namespace Tb
open PySem PySem.Spec PyProof.Rows L2
def kvK (ks : List Str) (zs : List V) : Kvs := (ks.zip zs).map fun q => (Sum.inr q.1, q.2)
theorem kv_zip : ∀ {ks : List Str} {zs : List V} {ws : List Value}, Vals zs ws → KV (kvK ks zs) ((ks.zip ws).map fun q => ((Sum.inr q.1 : Key), q.2))
  | [], _, _, _ => .nil
  | _ :: _, _, _, .nil => .nil
  | k :: ks, _, _, .cons h t => .cons ⟨rfl, h⟩ (kv_zip t)
/-- the promise of the def under keywords alone: the dict that it gets -/
def FnKw (P : Program) (w : World) (K : PySem.W.Frag) (mg : Str → Option Value) (base : Heap) (CX : CXT) (k : Nat) (f : Addr) (ok : List Str → Prop) (sp : Sp) : Prop :=
  ∀ (A : Around) (outer : List Env) (s : Shared) (H : Hp) (ks : List Str) (ws : List Value) (zs : List V) (Q : VK) (E : XK), ok ks → Room k A → Env0 P w K mg base A outer s H → Vals zs ws → zs.length = ks.length →
    (∀ p, H p = none → sp [.ref p] (L2.upd H p (.dK (kvK ks zs))) Q E) → codeAny (model P w) A (.call (.ref f) ⟨[], ks.zip ws⟩) (CR CX outer P w H s Q E) s
section
variable {P : Program} {w : World} {K : PySem.W.Frag} {mg : Str → Option Value} {base : Heap} {CX : CXT} {k : Nat} {f : Addr} {name qual : Str} {params : Arguments} {body : List Stmt} {scope : Scope} {dV kV' doc pm cdv ct oc : Value} {an od : Option Addr} {osl : Array (Option Value)} {N : List Str} {sp : Sp} {ok : List Str → Prop}
theorem fn_kw (lk : K.lookup f = some ⟨oc, od, .func (PySem.W.fnOf name qual params body scope dV kV' doc pm an cdv ct), osl⟩) (hcd : PySem.W.codeIn K cdv qual = true) (S : FnScope N ["lanes"] scope) (hCX : StX.CXUp CX)
    (hok : ∀ ks, ok ks → ks.Nodup ∧ ks.length ≤ 1000) (hb : ∀ (ks : List Str) (ws : List Value), ok ks → ws.length = ks.length → bindArgs (PySem.W.fnOf name qual params body scope dV kV' doc pm an cdv ct) ⟨[], ks.zip ws⟩ = bindTo (ks.zip ws))
    (hbody : ∀ (A : Around) (outer : List Env) (s : Shared) (H : Hp) (vs : List V) (Q : VK) (E : XK), Room k (A.deeper (envOfC qual scope s.heap.objs.size f cdv)) → sp vs H Q E →
      ∃ t, PSs (cxOf CX P w K mg base N qual scope f cdv A outer s H E) body t ∧ t { nx := fun _ H' => Q .non H', rt := Q } (start N vs) H) :
    FnKw P w K mg base CX (k + 1) f ok sp := by
  intro A outer s H ks ws zs Q E hks hr e0 r hl hsp
  obtain ⟨nd, l1000⟩ := hok ks hks
  have lw : ws.length = ks.length := r.length.symm.trans hl
  have hz : sizeLine = 16777216 := rfl
  refine StX.run_bnd lk hcd S hr e0 (G := fun xs H2 => ∃ p, H p = none ∧ xs = [V.ref p] ∧ H2 = L2.upd H p (.dK (kvK ks zs))) (fun A' Ex Q' h => ?_) fun s2 H2 xs ⟨p, hp, ex, eH⟩ hr' => ?_
  · rw [hb ks ws hks lw]
    unfold bindTo
    refine wpAny_bind (wpAny_alloc ?_)
    have hn : H s.heap.objs.size = none := e0.hok.fresh (Nat.le_refl _)
    have ek : (ks.zip ws).map (fun q => (Sum.inr q.1 : Key)) = ks.map Sum.inr := by
      have : ∀ (ks : List Str) (ws : List Value), ws.length = ks.length → (ks.zip ws).map (fun q => (Sum.inr q.1 : Key)) = ks.map Sum.inr := by
        intro ks
        induction ks with
        | nil => intro ws _; rfl
        | cons k ks ih =>
          intro ws hw
          cases ws with
          | nil => cases hw
          | cons u ws =>
            rw [List.zip_cons_cons, List.map_cons, List.map_cons, ih ws (Nat.succ.inj hw)]
      exact this ks ws lw
    refine wpAny_bind (nsAll_wp (s := { s with heap := s.heap.push { cls := .type "dict", data := .dict #[] } }) (Heap.DictOf.new s.heap) (by rw [List.map_nil, List.nil_append, ek]; exact List.pairwise_map.mpr (nd.imp fun hne z => hne (Sum.inr.inj z))) fun h' tk hd sb => wpAny_pure ?_)
    have kp : ∀ b x, s.heap.get? b = some x → h'.get? b = some x := fun b x e => by
      rw [sb.2 b (Nat.ne_of_lt (Heap.lt_size e))]
      exact Heap.get?_push_of_some _ e
    have sz : s.heap.objs.size ≤ h'.objs.size := by
      rw [sb.1]
      show _ ≤ (s.heap.push _).objs.size
      rw [Heap.size_push]
      exact Nat.le_succ _
    have big := StX.env0_big e0
    have lz : (kvK ks zs).length ≤ sizeLine := by
      unfold kvK
      rw [List.length_map, List.length_zip]
      omega
    have new : ObjOk P w (L2.upd H s.heap.objs.size (.dK (kvK ks zs))) h' s.heap.objs.size (.dK (kvK ks zs)) := dk_new lz (beq_eq_false_iff_ne.mpr (Ne.symm (Nat.ne_of_lt big))) (kv_zip r) hd
    have un : Un (frs outer) [] H (L2.upd H s.heap.objs.size (.dK (kvK ks zs))) s.heap h' := Un.laid kp (Nat.le_refl _) hn
    have E2 : Env0 P w K mg base A outer { s with heap := h', toks := tk } (L2.upd H s.heap.objs.size (.dK (kvK ks zs))) := env0_to e0 kp sz new
    have z := h { s with heap := h', toks := tk } (L2.upd H s.heap.objs.size (.dK (kvK ks zs))) [V.ref s.heap.objs.size] [Value.ref s.heap.objs.size] E2 un rfl (fun e s' => hCX outer s H _ _ E e s' un kp rfl) (.cons rfl .nil) rfl ⟨_, hn, rfl, rfl⟩
    exact z
  · subst ex eH
    exact hbody A outer s2 _ _ Q E hr' (hsp p hp)
end
end Tb

set_option Elab.async false
set_option linter.all false
set_option maxRecDepth 100000
namespace Tb
open PySem PySem.Spec PyProof.Rows L2
/-- C.m is a static method: its record at p, its def at g -/
structure SMet (K : PySem.W.Frag) (C : Addr) (mc : Value) (m : Str) (p g : Addr) : Prop where
  rd : PySem.W.readsIn K C mc = true
  ga : PySem.W.specialIn K (.ref C) "__getattribute__" = some (some (.builtin "type.__getattribute__"))
  at_ : PySem.W.findCls K (.ref C) mc m = some (.get (.builtin "staticmethod.__get__") (.ref p) .none (.ref C))
  rc : ∃ rest, PySem.W.recIn K p "staticmethod" = some (.ref g :: rest)
  kp : PySem.W.keepIn K (.ref g) = true
/-- C.m(k = v, ..) -/
def tSmK (C : Addr) (n : Nat) (ks : List Str) (sp : Sp) (E : L2.St → XK) (to : TE) (tk : TA) : TE := fun σ H Q => to σ H fun x H1 => x = .ref C ∧ tk σ H1 fun zs H2 => zs.length = ks.length ∧ ∀ p, H2 p = none → sp [.ref p] (L2.upd H2 p (.dK (kvK ks zs))) Q (E σ)
section
variable {X : Cx} {CX : CXT} {k : Nat} {g C p : Addr} {mc : Value} {ks : List Str} {ok : List Str → Prop} {sp : Sp} {E : L2.St → XK} {m : Str} {pos apos : Pos} {o : Expr} {kws : List Keyword} {to : TE} {tk : TA}
theorem pe_smK {pl : Sem Bool} (he : PE X o to) (c : SMet X.K C mc m p g) (F : FnKw X.prog X.w X.K X.mg X.base CX k g ok sp) (hr : Room k X.A) (hx : ∀ σ, PassesAt CX X σ (E σ)) (hok : ok ks) (hkw : PK X kws tk)
    (hall : (backToKw pos (keywordEach kws X.env)).all (·.1.isSome) = true := by rfl) (hks : (backToKw pos (keywordEach kws X.env)).filterMap (·.1) = ks := by rfl)
    (hpl : ((backTo pos (starEach [] X.env)).any (·.1) || (backToKw pos (keywordEach kws X.env)).any (·.1.isNone)) = false := by rfl)
    (ht : eval (.Call (.Attribute o m apos) [] kws pos) X.env = (do
      let ov ← eval o X.env
      standAt apos.atName
      let (f, first) ← holding [ov] (getMethod ov m pl)
      callWith pos f first (backTo pos (starEach [] X.env)) (backToKw pos (keywordEach kws X.env))) := by rfl) :
    PE X (.Call (.Attribute o m apos) [] kws pos) (tSmK C k ks sp E to tk) := by
  refine ⟨fun pins s σ H Q I h => ?_⟩
  obtain ⟨rest, hp⟩ := c.rc
  refine PySem.W.methodCall_KW (pl := pl) (thn (he.run pins s σ H _ I h) fun u s1 ⟨x, H1, I1, rx, ex, q⟩ => ?_) ht
  subst ex
  obtain rfl : u = Value.ref C := rx
  refine PySem.W.method_cls I1.kIn c.ga (PySem.W.cls_bind I1.kIn c.rd c.at_ ?_)
  refine wpAny_call (PySem.W.sm_get (s := { s1 with toks := s1.toks + 1 }) I1.kIn hp (PySem.W.handed_on rfl ?_))
  have I2 := I1.tok (s1.toks + 1)
  refine PySem.W.callWith_KW0 (h₀ := X.base) I2.ok.mod.kin c.kp hall ?_ hpl
  refine thn (hkw.run pos pins _ σ H1 _ I2 q) fun ws s2 ⟨zs, H2, I3, rz, l2, q2⟩ => ⟨I3.kIn, ?_⟩
  rw [hks]
  show wpAny _ _ (call (.ref g) [] (ks.zip ws)) _ _ _
  refine wpAny_call (codeAny_mono (F X.A X.stack s2 H2 ks ws zs Q (E σ) hok hr I3.env0 rz l2 q2) fun r s' hq => ?_)
  cases r with
  | error e => exact hx σ pins H2 s2 e s' I3 hq
  | ok fl =>
    cases fl with
    | ret u => exact I3.after hq
    | next => exact False.elim hq
    | brk => exact False.elim hq
    | cont => exact False.elim hq
end
end Tb

set_option Elab.async false
set_option linter.all false
set_option maxRecDepth 100000
namespace Tb
open PySem PySem.Spec PyProof.Rows L2
theorem scTWritten : FnScope ["lanes", "word", "lane"] ["lanes"] (defScope sTWritten) := ⟨rfl, rfl, rfl, by decide +kernel, rfl, by decide +kernel, by decide +kernel⟩
abbrev pP : Str := Str.ofString "p"
def cut1 (q : Pr) : Pr := (cutS q.1 (some (1 : Int)) none, q.2)
def allP (ps : List Pr) : Bool := (ps.map fun q => Txt.startswith q.1 pP).all id
/-- a dict of keywords in: a table, or the error -/
def spWr (C CI : Addr) : Sp := fun vs H Q E => ∃ (d : Addr) (ps : List Pr), vs = [.ref d] ∧ H d = some (.dK (kvP ps)) ∧ ps.length ≤ 100 ∧ (∀ q ∈ ps, q.1.length ≤ 1000 ∧ q.2.length ≤ 1000) ∧
  (allP ps = true → Good (ps.map cut1) → ∀ b H', Same H H' → TabOf C H' b (ps.map cut1) → Q (.ref b) H') ∧
  ((allP ps = false ∨ ¬ Good (ps.map cut1)) → ∀ e H', Same H H' → H' e = some (.xd [(wWhat, .str wTable)]) → E (.ref CI) (some e) H')
section
variable {P : Program} {w : World} {K : PySem.W.Frag} {mg : Str → Option Value} {base : Heap}
theorem body_wr {f gI C CI CU : Addr} {gdI : FuncData} (B : Blt mg) (ml : mg "all" = none) (TK : TabK P w K mg base C CI CU) (R : EInv K mg CI gI gdI) {cdv : Value} {A : Around} {outer : List Env} {s : Shared} {H : Hp} {vs : List V} {Q : VK} {E : XK}
    (hr : Room 5 (A.deeper (envOfC "Table.written" (defScope sTWritten) s.heap.objs.size f cdv))) (h : spWr C CI vs H Q E) :
    ∃ t, PSs (cxOf (L2.CX P w) P w K mg base ["lanes", "word", "lane"] "Table.written" (defScope sTWritten) f cdv A outer s H E) (defBody sTWritten) t ∧ t { nx := fun _ H' => Q .non H', rt := Q } (start ["lanes", "word", "lane"] vs) H := by
  obtain ⟨fM, fdM, MK, bM, FM⟩ := TK.make
  have GI : FnOk P w K mg base CX0 1 gI gdI ["self", "what"] (spErr K wWhat) := ok_inv R.M.F
  have r2 : Room 2 _ := hr.mono (show 2 ≤ 5 by decide)
  obtain ⟨d, ps, rfl, hd, hn, hl, qT, qE⟩ := h
  have hz : sizeLine = 16777216 := rfl
  refine ⟨_, pss_cons (ps_if (pt_not (pt_val (pe_callB (cr_all rfl) (by rfl) ml (by decide +kernel) (pa_cons (pe_lock (pe_lc (own := [("word", 1)]) (g := gName 1) (by rfl) scTWritten.nd (pi_keys (pv 0)) (blkOk_by (N := ["lanes", "word", "lane"]) (sc := defScope sTWritten) (by decide +kernel)) (fun _ _ _ _ _ => pg_name (i := 1) scTWritten.nd rfl (Or.inl rfl)) (fun _ _ _ _ _ => pts_nil) (fun _ _ _ _ _ => pe_m1 PySem.F.slot_str_startswith PySem.F.type_str_startswith mt_startswith (pv 1) pe_str))) pa_nil))))
      (pss_one (ps_raise rfl (takes_of rfl rfl rfl rfl) (pmk_oex R.T.ox R.T.iC R.T.tI GI r2 R.M.b .nil pass0 (by rfl) R.g (pa_cons pe_str pa_nil)))) pss_nil)
    (pss_one (ps_ret (pe_make MK FM hr (by rfl) TK.g bM .nil (passes_call (takes_of rfl rfl rfl rfl) fun _ _ _ _ h => h) (pa_cons (pe_lock (pe_lc (own := [("word", 1), ("lane", 2)]) (g := gTup K 2 (gCons (gName 1) (gCons (gName 2) gNil))) (by rfl) scTWritten.nd (pi_items (pv 0)) (blkOk_by (N := ["lanes", "word", "lane"]) (sc := defScope sTWritten) (by decide +kernel)) (fun _ _ _ _ _ => pg_tup rfl (pgs_cons (pg_name (i := 1) scTWritten.nd rfl (Or.inl rfl)) (pgs_cons (pg_name (i := 2) scTWritten.nd rfl (Or.inl rfl)) pgs_nil))) (fun _ _ _ _ _ => pts_nil)
      (fun _ _ _ _ _ => pe_tup (pa_cons (pe_slice sl_str (pv 1) (po_some pe_int) po_none) (pa_cons (pv 2) pa_nil))))) pa_nil)))), ?_⟩
  -- the words
  refine ⟨d, .dK (kvP ps), hd, trivial, fun od => ⟨.ref d, rfl, d, od, rfl, .inl ⟨kvP ps, upd_same, fun D nD => ?_⟩⟩⟩
  have nDd : D ≠ d := fun y => by rw [y, upd_same] at nD; cases nD
  have nD0 : H D = none := by rw [upd_ne nDd] at nD; exact nD
  refine lc_it (walk_keys (d := d) (o := od) (kvs := kvP ps)) (fun i H' => But d H H' ∧ H' d = some (.frz od (.dK (kvP ps))) ∧ H' D = some (.lst (((ps.take i).map fun q => Txt.startswith q.1 pP).map V.bl)))
    ⟨fun c o hc nc => by rw [upd_ne (ne_of_none hc nD0), upd_ne nc]; exact hc, by rw [upd_ne (Ne.symm nDd)]; exact upd_same, upd_same⟩ (fun i H' _ hP => hP.2.1) (fun j v H6 H7 hj hP hy => ?_) (fun H6 hP => ?_)
  · obtain ⟨b6, h6, hD⟩ := hP
    obtain ⟨rfl, k, v', ek, rfl⟩ := hy
    unfold kvP at ek
    rw [List.getElem?_map] at ek
    cases er : ps[j]? with
    | none => rw [er] at ek; cases ek
    | some r =>
    rw [er] at ek
    obtain ⟨rfl, rfl⟩ := Prod.mk.inj (Option.some.inj ek)
    refine ⟨rfl, .str r.1, rfl, ⟨r.1, rfl⟩, r.1, pP, rfl, rfl, _, hD, ?_, fun c o hc nc => by rw [upd_ne (ne_of_none hc nD0)]; exact b6 c o hc nc, by rw [upd_ne (Ne.symm nDd)]; exact h6, ?_⟩
    · simp only [List.length_map, List.length_take]
      omega
    · rw [upd_same, List.take_add_one, er, List.map_append, List.map_append]
      rfl
  obtain ⟨b6, h6, hD⟩ := hP
  rw [kvP_len, List.take_length] at hD
  have S6 : Same H (L2.upd H6 d (.dK (kvP ps))) := fun c o hc => by
    by_cases y : c = d
    · rw [y, upd_same]
      rw [y, hd] at hc
      exact hc
    · rw [upd_ne y]
      exact b6 c o hc y
  refine ⟨h6, D, ps.map fun q => Txt.startswith q.1 pP, rfl, sqOf (by rw [upd_ne nDd]; exact hD), _, rfl, ?_⟩
  show if (!allP ps) = true then _ else _
  have d6 : (L2.upd H6 d (.dK (kvP ps))) d = some (.dK (kvP ps)) := upd_same
  generalize L2.upd H6 d (.dK (kvP ps)) = H8 at S6 d6
  cases eP : allP ps with
  | false => exact ⟨by show 1 ≤ 1000; decide, err_made R.T (Q := E) fun e H4 S4 he => qE (.inl eP) e H4 (S6.trans S4) he⟩
  | true =>
  -- the rows
  refine ⟨d, .dK (kvP ps), d6, trivial, fun od => ⟨.ref d, rfl, d, od, kvP ps, rfl, upd_same, fun D nD => ?_⟩⟩
  have nDd : D ≠ d := fun y => by rw [y, upd_same] at nD; cases nD
  have nD0 : H8 D = none := by rw [upd_ne nDd] at nD; exact nD
  refine lc_it (walk_items (d := d) (o := od) (kvs := kvP ps)) (fun i H' => But d H8 H' ∧ H' d = some (.frz od (.dK (kvP ps))) ∧ ∃ us : List (Addr × Pr), H' D = some (.lst (us.map fun t => V.ref t.1)) ∧ us.map (·.2) = (ps.take i).map cut1 ∧ ∀ t ∈ us, H' t.1 = some (.tup [.str t.2.1, .str t.2.2]))
    ⟨fun c o hc nc => by rw [upd_ne (ne_of_none hc nD0), upd_ne nc]; exact hc, by rw [upd_ne (Ne.symm nDd)]; exact upd_same, [], upd_same, rfl, fun t ht => by cases ht⟩ (fun i H' _ hP => hP.2.1) (fun j v H9 H10 hj hP hy => ?_) (fun H9 hP => ?_)
  · obtain ⟨b9, h9, us, hU, eu, tu⟩ := hP
    obtain ⟨T, x, y, rfl, nT, rfl, ex, ey⟩ := hy
    have ex : (kvP ps)[j]?.map (fun kv => kV kv.1) = some x := ex
    have ey : (kvP ps)[j]?.map Prod.snd = some y := ey
    unfold kvP at ex ey
    rw [List.getElem?_map] at ex ey
    cases er : ps[j]? with
    | none => rw [er] at ex; cases ex
    | some r =>
    rw [er] at ex ey
    cases (Option.some.inj ex)
    cases (Option.some.inj ey)
    have lr := hl r (List.mem_of_getElem? er)
    have nT8 : ∀ c o, H9 c = some o → c ≠ T := fun c o hc => ne_of_none hc nT
    refine ⟨T, _, rfl, .of upd_same, rfl, .str r.1, _, rfl, .str r.2, _, rfl, rfl, ⟨rfl, ?_⟩⟩
    refine ⟨.str r.1, rfl, 1, rfl, r.1, rfl, by omega, .str r.2, rfl, by show 2 ≤ sizeLine; decide, fun T2 nT2 => ?_⟩
    have S9 := (same_upd (o := HO.tup [V.str r.1, V.str r.2]) nT).trans (same_upd (o := HO.tup [V.str (cutS r.1 (some (1 : Int)) none), V.str r.2]) nT2)
    have hU2 := S9 _ _ hU
    have t2 : (L2.upd (L2.upd H9 T (.tup [V.str r.1, V.str r.2])) T2 (.tup [V.str (cutS r.1 (some (1 : Int)) none), V.str r.2])) T2 = some (.tup [V.str (cutS r.1 (some (1 : Int)) none), V.str r.2]) := upd_same
    have lj : j < ps.length := (List.getElem?_eq_some_iff.mp er).1
    have lu : us.length ≤ 100 := by
      have := congrArg List.length eu
      rw [List.length_map, List.length_map, List.length_take] at this
      omega
    refine ⟨_, hU2, by rw [List.length_map]; omega, fun c o hc nc => ?_, ?_, us ++ [(T2, cut1 r)], ?_, ?_, fun t ht => ?_⟩
    · have := b9 c o hc nc
      rw [upd_ne (ne_of_none hc nD0)]
      exact S9 _ _ this
    · rw [upd_ne (Ne.symm nDd)]
      exact S9 _ _ h9
    · rw [upd_same, List.map_append]
      rfl
    · rw [List.map_append, eu, List.take_add_one, er, List.map_append]
      rfl
    · rcases List.mem_append.mp ht with ht | ht
      · have e1 := S9 _ _ (tu t ht)
        rw [upd_ne (ne_of e1 hU2 (fun z => by cases z))]
        exact e1
      · rw [List.mem_singleton.mp ht]
        rw [upd_ne (ne_of t2 hU2 (fun z => by cases z))]
        exact t2
  obtain ⟨b9, h9, us, hU, eu, tu⟩ := hP
  rw [kvP_len, List.take_length] at eu
  have lu : us.length = ps.length := by
    have := congrArg List.length eu
    rw [List.length_map, List.length_map] at this
    exact this
  have S9 : Same H8 (L2.upd H9 d (.dK (kvP ps))) := fun c o hc => by
    by_cases y : c = d
    · rw [y, upd_same]
      rw [y, d6] at hc
      exact hc
    · rw [upd_ne y]
      exact b9 c o hc y
  refine ⟨h9, ?_⟩
  intro x dx nx ndx hne
  have RA : RowsAt (L2.upd H9 d (.dK (kvP ps))) D true us := ⟨by rw [upd_ne nDd]; exact hU, fun t ht => by rw [upd_ne (ne_of (tu t ht) h9 (fun z => by cases z))]; exact tu t ht, by omega, fun t ht => by
    have m : t.2 ∈ us.map (·.2) := List.mem_map.mpr ⟨t, ht, rfl⟩
    rw [eu] at m
    obtain ⟨r, hr', e⟩ := List.mem_map.mp m
    have lr := hl r hr'
    have c1 := cut_le r.1 (some (1 : Int)) none
    rw [← e]
    exact ⟨by show (cutS r.1 (some (1 : Int)) none).length ≤ 1000; omega, lr.2⟩⟩
  refine tab_made2 RA (by omega) nx ndx hne (fun g H' S T => ⟨rfl, ?_⟩) (fun g e H' S he => ?_)
  · rw [eu] at g T
    exact qT eP g x H' ((S6.trans S9).trans S) T
  · rw [eu] at g
    exact qE (.inr g) e H' ((S6.trans S9).trans S) he
end
end Tb

set_option Elab.async false
set_option linter.all false
set_option maxRecDepth 100000
namespace Tb
open PySem PySem.Spec PyProof.Rows L2
def okW (ks : List Str) : Prop := ks.Nodup ∧ ks.length ≤ 3
section
variable {P : Program} {w : World} {K : PySem.W.Frag} {mg : Str → Option Value} {base : Heap}
theorem ok_wr {f gI C CI CU : Addr} {fd gdI : FuncData} (F : Fun K "written" "Table.written" sTWritten f fd) (B : Blt mg) (ml : mg "all" = none) (TK : TabK P w K mg base C CI CU) (R : EInv K mg CI gI gdI) : FnKw P w K mg base (L2.CX P w) 6 f okW (spWr C CI) := by
  obtain ⟨oc, od, kV, doc, pm, an, cdv, ct, osl, rfl, lk, hcd⟩ := F.ex
  refine fn_kw lk hcd scTWritten StX.cxUp (fun ks h => ⟨h.1, by have := h.2; omega⟩) (fun ks ws h hw => ?_) (fun A outer s H vs Q E hr hsp => body_wr B ml TK R hr hsp)
  obtain ⟨_, h3⟩ := h
  match ks, ws, hw, h3 with
  | [], [], _, _ => exact bind_kw0
  | [k], [v], _, _ => exact bind_kw1 k v
  | [k, k2], [v, v2], _, _ => exact bind_kw2 k k2 v v2
  | [k, k2, k3], [v, v2, v3], _, _ => exact bind_kw3 k k2 k3 v v2 v3
  | _ :: _ :: _ :: _ :: _, _, _, h => exact absurd h (by simp)
end
/-! ### concrete rows -/
theorem sLt_irrefl (a : Str) : sLt a a = false := decide_eq_false (List.lt_irrefl _)
theorem sLt_asymm {a b : Str} (h : sLt a b = true) : sLt b a = false := by
  have h : a.cps.toList < b.cps.toList := of_decide_eq_true h
  exact decide_eq_false fun z => List.lt_irrefl _ (List.lt_trans h z)
/-- rows with ascending prefixes are sorted -/
theorem sort_is {own ds : List Pr} (p : ds.Perm own) (h : (ds.map Prod.fst).Pairwise fun a b => sLt a b = true) : own.mergeSort le2 = ds := by
  have hd : ds.Pairwise fun a b => le2 a b = true := (List.pairwise_map.mp h).imp fun {a b} h => by
    rw [le2_eq]
    have ne : ¬ b.1 = a.1 := fun z => by rw [z, sLt_irrefl] at h; cases h
    rw [if_neg ne, sLt_asymm h]
    rfl
  refine List.Perm.eq_of_pairwise (le := fun a b => le2 a b = true) (fun a b _ _ h1 h2 => le2_anti h1 h2) (PySem.W.sort_pairwise le2_total own) hd ?_
  exact (List.mergeSort_perm own le2).trans p.symm
theorem kvK_str : ∀ (ks zs : List Str), kvK ks (zs.map V.str) = kvP (ks.zip zs)
  | [], _ => rfl
  | _ :: _, [] => rfl
  | k :: ks, z :: zs => by
    show (Sum.inr k, V.str z) :: kvK ks (zs.map V.str) = (Sum.inr k, V.str z) :: kvP (ks.zip zs)
    rw [kvK_str ks zs]
/-- words that are good: their rows -/
theorem good_words : ∀ (ks as zs : List Str), ks.map (fun k => cutS k (some (1 : Int)) none) = as → ks.length = zs.length → (ks.zip zs).map cut1 = as.zip zs
  | [], _, _, h, _ => by subst h; rfl
  | _ :: _, _, [], _, hl => by cases hl
  | k :: ks, as, z :: zs, h, hl => by
    subst h
    show (cutS k (some (1 : Int)) none, z) :: (ks.zip zs).map cut1 = (cutS k (some (1 : Int)) none, z) :: _
    rw [good_words ks _ zs rfl (Nat.succ.inj hl)]
    rfl
theorem allP_zip : ∀ (ks zs : List Str), ks.length = zs.length → allP (ks.zip zs) = ks.all fun k => Txt.startswith k pP
  | [], _, _ => rfl
  | _ :: _, [], h => by cases h
  | k :: ks, z :: zs, h => by
    have ih := allP_zip ks zs (Nat.succ.inj h)
    unfold allP at ih ⊢
    rw [List.zip_cons_cons, List.map_cons, List.all_cons, List.all_cons, ih]
    rfl
theorem good_zip {as zs : List Str} (ha : ∀ a ∈ as, isAddr a = true) (hz : ∀ z ∈ zs, isLane z = true) (hn : as.Nodup) (hl : as.length = zs.length) : Good (as.zip zs) := by
  refine ⟨fun p hp => ⟨ha _ (List.of_mem_zip hp).1, hz _ (List.of_mem_zip hp).2⟩, ?_⟩
  rw [List.map_fst_zip (Nat.le_of_eq hl)]
  exact hn
end Tb

set_option Elab.async false
set_option linter.all false
set_option maxRecDepth 100000
namespace Tb
open PySem PySem.Spec PyProof.Rows L2
theorem scW : FnScope ["form", "one", "two", "three", "due"] ["form", "one", "two", "three"] (defScope sWritten) := ⟨rfl, rfl, rfl, by decide +kernel, rfl, by decide +kernel, by decide +kernel⟩
theorem lanes3 {a b c : Str} (h1 : isLane a = true) (h2 : isLane b = true) (h3 : isLane c = true) : ∀ z ∈ [a, b, c], isLane z = true := fun z hz => by
  rcases List.mem_cons.mp hz with rfl | hz
  · exact h1
  rcases List.mem_cons.mp hz with rfl | hz
  · exact h2
  rw [List.mem_singleton.mp hz]
  exact h3
theorem perm3s (a b c : Pr) : [b, c, a].Perm [a, b, c] := List.perm_append_comm (l₁ := [b, c]) (l₂ := [a])
theorem perm3r (a b c : Pr) : [c, b, a].Perm [a, b, c] := (List.reverse_perm [a, b, c])
theorem wr_ok {C CI : Addr} {H : Hp} {ks as zs : List Str} {Q : VK} {E : XK} (hk : ks.map (fun k => cutS k (some (1 : Int)) none) = as) (hall : (ks.all fun k => Txt.startswith k pP) = true) (ha : ∀ a ∈ as, isAddr a = true) (hz : ∀ z ∈ zs, isLane z = true) (nd : as.Nodup) (hl : ks.length = zs.length) (n : ks.length ≤ 3) (kl : ∀ k ∈ ks, k.length ≤ 1000)
    (q : ∀ b H', Same H H' → TabOf C H' b (as.zip zs) → Q (.ref b) H') : ∀ p, H p = none → spWr C CI [.ref p] (L2.upd H p (.dK (kvK ks (zs.map V.str)))) Q E := by
  intro p np
  have e := good_words ks as zs hk hl
  have la : as.length = zs.length := by rw [← hk, List.length_map]; exact hl
  have g := good_zip ha hz nd la
  refine ⟨p, ks.zip zs, rfl, by rw [upd_same, kvK_str], by rw [List.length_zip]; omega, fun r hr => ⟨kl _ (List.of_mem_zip hr).1, ?_⟩, fun _ _ b H' S T => ?_, fun h => ?_⟩
  · have := lane_len (hz _ (List.of_mem_zip hr).2)
    omega
  · rw [e] at T
    exact q b H' ((same_upd np).trans S) T
  · rw [e, allP_zip ks zs hl, hall] at h
    exact absurd h (by simp [g])
section
variable {P : Program} {w : World} {K : PySem.W.Frag} {mg : Str → Option Value} {base : Heap}
theorem ok_written {f g p C CI CU : Addr} {mc : Value} {fd : FuncData} (F : Fun K "_law_written" "_law_written" sWritten f fd) (B : Blt mg) (TK : TabK P w K mg base C CI CU) (SM : SMet K C mc "written" p g) (FW : FnKw P w K mg base (L2.CX P w) 6 g okW (spWr C CI)) : FnOk P w K mg base CX0 7 f fd ["form", "one", "two", "three"] (spWritten C) := by
  refine F.ok scW (fun vs H Q E h => ?_) (fun cdv A outer s H vs Q E hr h => ?_)
  · obtain ⟨form, one, two, three, rfl, _⟩ := h
    rfl
  · obtain ⟨form, one, two, three, rfl, l1, l2, l3, f0, f5, q⟩ := h
    refine ⟨_, (pss_cons (ps_if (pt_cmpR op_eq (pv 0) pe_int (nomark _)) (pss_one (ps_ret (pe_tup (pa_cons (pe_smK (ks := []) (E := fun _ => E0) (pe_glob (by rfl) TK.g (v := .ref C) rfl) SM FW hr (fun σ pins H s e s' I c => passL pins σ H s e s' I c) (by unfold okW; decide +kernel) pk_nil) (pa_cons (pe_lst pa_nil) pa_nil))))) pss_nil)
        (pss_cons (ps_if (pt_cmpR op_eq (pv 0) pe_int (nomark _)) (pss_one (ps_ret (pe_tup (pa_cons (pe_smK (ks := [Str.ofString "p9", Str.ofString "p12", Str.ofString "p1"]) (E := fun _ => E0) (pe_glob (by rfl) TK.g (v := .ref C) rfl) SM FW hr (fun σ pins H s e s' I c => passL pins σ H s e s' I c) (by unfold okW; decide +kernel) (pk_cons (pv 1) (pk_cons (pv 2) (pk_cons (pv 3) pk_nil)))) (pa_cons (pe_lst (pa_cons (pe_tup (pa_cons pe_str (pa_cons (pv 3) pa_nil))) (pa_cons (pe_tup (pa_cons pe_str (pa_cons (pv 2) pa_nil))) (pa_cons (pe_tup (pa_cons pe_str (pa_cons (pv 1) pa_nil))) pa_nil)))) pa_nil))))) pss_nil)
        (pss_cons (ps_if (pt_cmpR op_eq (pv 0) pe_int (nomark _)) (pss_cons (ps_set (i := 4) scW.nd rfl (.inl rfl) (pe_lst (pa_cons (pe_tup (pa_cons pe_str (pa_cons (pv 2) pa_nil))) (pa_cons (pe_tup (pa_cons pe_str (pa_cons (pv 3) pa_nil))) (pa_cons (pe_tup (pa_cons pe_str (pa_cons (pv 1) pa_nil))) pa_nil)))))
        (pss_one (ps_ret (pe_tup (pa_cons (pe_smK (ks := [Str.ofString "p00000000", Str.ofString "p0", Str.ofString "p00"]) (E := fun _ => E0) (pe_glob (by rfl) TK.g (v := .ref C) rfl) SM FW hr (fun σ pins H s e s' I c => passL pins σ H s e s' I c) (by unfold okW; decide +kernel) (pk_cons (pv 1) (pk_cons (pv 2) (pk_cons (pv 3) pk_nil)))) (pa_cons (pv 4) pa_nil)))))) pss_nil)
        (pss_cons (ps_if (pt_cmpR op_eq (pv 0) pe_int (nomark _)) (pss_one (ps_ret (pe_tup (pa_cons (pe_smK (ks := [Str.ofString "p10", Str.ofString "p1", Str.ofString "p01"]) (E := fun _ => E0) (pe_glob (by rfl) TK.g (v := .ref C) rfl) SM FW hr (fun σ pins H s e s' I c => passL pins σ H s e s' I c) (by unfold okW; decide +kernel) (pk_cons (pv 1) (pk_cons (pv 2) (pk_cons (pv 3) pk_nil)))) (pa_cons (pe_lst (pa_cons (pe_tup (pa_cons pe_str (pa_cons (pv 3) pa_nil))) (pa_cons (pe_tup (pa_cons pe_str (pa_cons (pv 2) pa_nil))) (pa_cons (pe_tup (pa_cons pe_str (pa_cons (pv 1) pa_nil))) pa_nil)))) pa_nil))))) pss_nil)
        (pss_one (ps_ret (pe_tup (pa_cons (pe_smK (ks := [Str.ofString "p98765432", Str.ofString "p2"]) (E := fun _ => E0) (pe_glob (by rfl) TK.g (v := .ref C) rfl) SM FW hr (fun σ pins H s e s' I c => passL pins σ H s e s' I c) (by unfold okW; decide +kernel) (pk_cons (pv 1) (pk_cons (pv 2) pk_nil))) (pa_cons (pe_lst (pa_cons (pe_tup (pa_cons pe_str (pa_cons (pv 2) pa_nil))) (pa_cons (pe_tup (pa_cons pe_str (pa_cons (pv 1) pa_nil))) pa_nil))) pa_nil))))))))), ?_⟩
    have hz : sizeLine = 16777216 := rfl
    have fin : ∀ (b l T1 T2 T3 : Addr) (p1 p2 p3 : Pr) (own : List Pr) (H1 Ha : Hp), Same H H1 → TabOf C H1 b own → Same H1 Ha → Ha l = some (.lst [.ref T1, .ref T2, .ref T3]) → Ha T1 = some (.tup [.str p1.1, .str p1.2]) → Ha T2 = some (.tup [.str p2.1, .str p2.2]) → Ha T3 = some (.tup [.str p3.1, .str p3.2]) → own.mergeSort le2 = [p1, p2, p3] → ∀ T, Ha T = none → Q (.ref T) (L2.upd Ha T (.tup [.ref b, .ref l])) := by
      intro b l T1 T2 T3 p1 p2 p3 own H1 Ha S1 T S2 hl h1 h2 h3 eo T0 n0
      have S3 := same_upd (o := HO.tup [V.ref b, V.ref l]) n0
      refine q T0 b l [(T1, p1), (T2, p2), (T3, p3)] own _ ((S1.trans S2).trans S3) upd_same ((T.same S2).same S3) ⟨S3 _ _ hl, fun t ht => S3 _ _ ?_⟩ eo.symm
      rcases List.mem_cons.mp ht with rfl | ht
      · exact h1
      rcases List.mem_cons.mp ht with rfl | ht
      · exact h2
      rw [List.mem_singleton.mp ht]
      exact h3
    refine ⟨.int form, rfl, rfl, _, rfl, ite2 (fun e0 => ?_) (fun e0 => ?_)⟩
    · refine ⟨rfl, rfl, wr_ok (zs := []) (as := []) rfl rfl (fun a h => by cases h) (fun a h => by cases h) .nil rfl (by decide) (fun a h => by cases h) (fun b H1 S1 T => ?_)⟩
      exact ⟨by show 0 ≤ sizeLine; decide, fun l nl => ⟨by show 2 ≤ sizeLine; decide, fun T0 n0 => q T0 b l [] [] _ ((S1.trans (same_upd nl)).trans (same_upd n0)) upd_same ((T.same (same_upd nl)).same (same_upd n0)) ⟨same_upd n0 _ _ upd_same, fun t ht => by cases ht⟩ (by rw [List.mergeSort_nil]; rfl)⟩⟩
    refine ⟨.int form, rfl, rfl, _, rfl, ite2 (fun e1 => ?_) (fun e1 => ?_)⟩
    · refine ⟨rfl, .str one, rfl, .str two, rfl, .str three, rfl, rfl, wr_ok (zs := [one, two, three]) (as := ["9", "12", "1"].map Str.ofString) (by decide +kernel) (by decide +kernel) (by decide +kernel) (lanes3 l1 l2 l3) (by decide +kernel) rfl (by show 3 ≤ 3; decide) (by decide +kernel) (fun b H1 S1 T => ?_)⟩
      refine ⟨.str three, rfl, by show 2 ≤ sizeLine; decide, fun T1 n1 => ⟨.str two, rfl, by show 2 ≤ sizeLine; decide, fun T2 n2 => ⟨.str one, rfl, by show 2 ≤ sizeLine; decide, fun T3 n3 => ⟨by show 3 ≤ sizeLine; decide, fun l nl => ⟨by show 2 ≤ sizeLine; decide, ?_⟩⟩⟩⟩⟩
      exact fin b l T1 T2 T3 (Str.ofString "1", three) (Str.ofString "12", two) (Str.ofString "9", one) _ H1 _ S1 T (((same_upd n1).trans (same_upd n2)).trans ((same_upd n3).trans (same_upd nl))) upd_same (same_upd nl _ _ (same_upd n3 _ _ (same_upd n2 _ _ upd_same))) (same_upd nl _ _ (same_upd n3 _ _ upd_same)) (same_upd nl _ _ upd_same) (sort_is (perm3r _ _ _) (show ([Str.ofString "1", Str.ofString "12", Str.ofString "9"] : List Str).Pairwise (fun a b => sLt a b = true) by decide +kernel))
    refine ⟨.int form, rfl, rfl, _, rfl, ite2 (fun e2 => ?_) (fun e2 => ?_)⟩
    · refine ⟨.str two, rfl, by show 2 ≤ sizeLine; decide, fun T1 n1 => ⟨.str three, rfl, by show 2 ≤ sizeLine; decide, fun T2 n2 => ⟨.str one, rfl, by show 2 ≤ sizeLine; decide, fun T3 n3 => ⟨by show 3 ≤ sizeLine; decide, fun l nl => ?_⟩⟩⟩⟩
      have Sd := (((same_upd (o := HO.tup [V.str (Str.ofString "0"), V.str two]) n1).trans (same_upd (o := HO.tup [V.str (Str.ofString "00"), V.str three]) n2)).trans ((same_upd (o := HO.tup [V.str (Str.ofString "00000000"), V.str one]) n3).trans (same_upd (o := HO.lst [V.ref T1, V.ref T2, V.ref T3]) nl)))
      have g1 := same_upd (o := HO.lst [V.ref T1, V.ref T2, V.ref T3]) nl _ _ (same_upd (o := HO.tup [V.str (Str.ofString "00000000"), V.str one]) n3 _ _ (same_upd (o := HO.tup [V.str (Str.ofString "00"), V.str three]) n2 T1 (HO.tup [V.str (Str.ofString "0"), V.str two]) upd_same))
      have g2 := same_upd (o := HO.lst [V.ref T1, V.ref T2, V.ref T3]) nl _ _ (same_upd (o := HO.tup [V.str (Str.ofString "00000000"), V.str one]) n3 T2 (HO.tup [V.str (Str.ofString "00"), V.str three]) upd_same)
      have g3 := same_upd (o := HO.lst [V.ref T1, V.ref T2, V.ref T3]) nl T3 (HO.tup [V.str (Str.ofString "00000000"), V.str one]) upd_same
      refine ⟨rfl, .str one, rfl, .str two, rfl, .str three, rfl, rfl, wr_ok (zs := [one, two, three]) (as := ["00000000", "0", "00"].map Str.ofString) (by decide +kernel) (by decide +kernel) (by decide +kernel) (lanes3 l1 l2 l3) (by decide +kernel) rfl (by show 3 ≤ 3; decide) (by decide +kernel) (fun b H1 S1 T => ?_)⟩
      refine ⟨.ref l, rfl, by show 2 ≤ sizeLine; decide, ?_⟩
      exact fin b l T1 T2 T3 (Str.ofString "0", two) (Str.ofString "00", three) (Str.ofString "00000000", one) _ H1 H1 (Sd.trans S1) T (Same.refl _) (S1 _ _ upd_same) (S1 _ _ g1) (S1 _ _ g2) (S1 _ _ g3) (sort_is (perm3s _ _ _) (show ([Str.ofString "0", Str.ofString "00", Str.ofString "00000000"] : List Str).Pairwise (fun a b => sLt a b = true) by decide +kernel))
    refine ⟨.int form, rfl, rfl, _, rfl, ite2 (fun e3 => ?_) (fun e3 => ?_)⟩
    · refine ⟨rfl, .str one, rfl, .str two, rfl, .str three, rfl, rfl, wr_ok (zs := [one, two, three]) (as := ["10", "1", "01"].map Str.ofString) (by decide +kernel) (by decide +kernel) (by decide +kernel) (lanes3 l1 l2 l3) (by decide +kernel) rfl (by show 3 ≤ 3; decide) (by decide +kernel) (fun b H1 S1 T => ?_)⟩
      refine ⟨.str three, rfl, by show 2 ≤ sizeLine; decide, fun T1 n1 => ⟨.str two, rfl, by show 2 ≤ sizeLine; decide, fun T2 n2 => ⟨.str one, rfl, by show 2 ≤ sizeLine; decide, fun T3 n3 => ⟨by show 3 ≤ sizeLine; decide, fun l nl => ⟨by show 2 ≤ sizeLine; decide, ?_⟩⟩⟩⟩⟩
      exact fin b l T1 T2 T3 (Str.ofString "01", three) (Str.ofString "1", two) (Str.ofString "10", one) _ H1 _ S1 T (((same_upd n1).trans (same_upd n2)).trans ((same_upd n3).trans (same_upd nl))) upd_same (same_upd nl _ _ (same_upd n3 _ _ (same_upd n2 _ _ upd_same))) (same_upd nl _ _ (same_upd n3 _ _ upd_same)) (same_upd nl _ _ upd_same) (sort_is (perm3r _ _ _) (show ([Str.ofString "01", Str.ofString "1", Str.ofString "10"] : List Str).Pairwise (fun a b => sLt a b = true) by decide +kernel))
    refine ⟨rfl, .str one, rfl, .str two, rfl, rfl, wr_ok (zs := [one, two]) (as := ["98765432", "2"].map Str.ofString) (by decide +kernel) (by decide +kernel) (by decide +kernel) (fun z h => lanes3 l1 l2 l2 z (by rcases List.mem_cons.mp h with rfl | h; exact List.mem_cons_self; exact List.mem_cons_of_mem _ (List.mem_cons_of_mem _ h))) (by decide +kernel) rfl (by show 2 ≤ 3; decide) (by decide +kernel) (fun b H1 S1 T => ?_)⟩
    refine ⟨.str two, rfl, by show 2 ≤ sizeLine; decide, fun T1 n1 => ⟨.str one, rfl, by show 2 ≤ sizeLine; decide, fun T2 n2 => ⟨by show 2 ≤ sizeLine; decide, fun l nl => ⟨by show 2 ≤ sizeLine; decide, fun T0 n0 => ?_⟩⟩⟩⟩
    have Sx := (same_upd (o := HO.tup [V.str (Str.ofString "2"), V.str two]) n1).trans ((same_upd (o := HO.tup [V.str (Str.ofString "98765432"), V.str one]) n2).trans (same_upd (o := HO.lst [V.ref T1, V.ref T2]) nl))
    have S0 := same_upd (o := HO.tup [V.ref b, V.ref l]) n0
    refine q T0 b l [(T1, (Str.ofString "2", two)), (T2, (Str.ofString "98765432", one))] _ _ ((S1.trans Sx).trans S0) upd_same ((T.same Sx).same S0) ⟨S0 _ _ upd_same, fun t ht => S0 _ _ ?_⟩ (sort_is (List.reverse_perm [(Str.ofString "98765432", one), (Str.ofString "2", two)]) (show ([Str.ofString "2", Str.ofString "98765432"] : List Str).Pairwise (fun a b => sLt a b = true) by decide +kernel)).symm
    rcases List.mem_cons.mp ht with rfl | ht
    · exact same_upd nl _ _ (same_upd n2 _ _ upd_same)
    rw [List.mem_singleton.mp ht]
    exact same_upd nl _ _ upd_same
end
end Tb

set_option Elab.async false
set_option linter.all false
set_option maxRecDepth 100000
namespace Tb
open PySem PySem.Spec PyProof.Rows L2
theorem scWW : FnScope ["form", "one", "two", "e"] ["form", "one", "two"] (defScope sWWrong) := ⟨rfl, rfl, rfl, by decide +kernel, rfl, by decide +kernel, by decide +kernel⟩
theorem lens1 {a : Str} (h : a.length ≤ 1000) : ∀ z ∈ [a], z.length ≤ 1000 := fun z hz => by rw [List.mem_singleton.mp hz]; exact h
theorem lens2 {a b : Str} (h : a.length ≤ 1000) (h2 : b.length ≤ 1000) : ∀ z ∈ [a, b], z.length ≤ 1000 := fun z hz => by
  rcases List.mem_cons.mp hz with rfl | hz
  · exact h
  rw [List.mem_singleton.mp hz]
  exact h2
theorem bad_addr {ks zs : List Str} (hl : ks.length = zs.length) (h : (ks.all fun k => isAddr (cutS k (some (1 : Int)) none)) = false) : ¬ Good ((ks.zip zs).map cut1) := fun g => by
  rw [good_words ks _ zs rfl hl] at g
  have : (ks.all fun k => isAddr (cutS k (some (1 : Int)) none)) = true := List.all_eq_true.mpr fun k hk => by
    have m : cutS k (some (1 : Int)) none ∈ ((ks.map fun k => cutS k (some (1 : Int)) none).zip zs).map Prod.fst := by
      rw [List.map_fst_zip (by rw [List.length_map]; omega)]
      exact List.mem_map.mpr ⟨k, hk, rfl⟩
    obtain ⟨p, hp, e⟩ := List.mem_map.mp m
    have := (g.1 p hp).1
    rw [e] at this
    exact this
  rw [h] at this
  cases this
theorem bad_lane {one two : Str} (h : isLane two = true) : ¬ Good (([Str.ofString "p1", Str.ofString "p2"].zip [one, two ++ Str.ofString "A"]).map cut1) := fun g => by
  have := (g.1 (cut1 (Str.ofString "p2", two ++ Str.ofString "A")) (by simp)).2
  have this : isLane (two ++ Str.ofString "A") = true := this
  have hA : (65 : Nat) ∈ tl (two ++ Str.ofString "A") := by
    rw [tl_app]
    exact List.mem_append_right _ (by decide +kernel)
  unfold isLane at this
  rw [Bool.or_eq_true] at this
  rcases this with t | t
  · have e := of_decide_eq_true t
    rw [e] at hA
    exact absurd hA (by decide +kernel)
  · have n := (isName_iff _).mp t
    have := n.2.1 65 hA
    exact absurd this (by decide +kernel)
theorem wr_bad {C CI : Addr} {H : Hp} {ks zs : List Str} {Q : VK} {E : XK} (hb : allP (ks.zip zs) = false ∨ ¬ Good ((ks.zip zs).map cut1)) (n : ks.length ≤ 3) (kl : ∀ k ∈ ks, k.length ≤ 1000) (zl : ∀ z ∈ zs, z.length ≤ 1000)
    (q : ∀ e H', Same H H' → H' e = some (.xd [(wWhat, .str wTable)]) → E (.ref CI) (some e) H') : ∀ p, H p = none → spWr C CI [.ref p] (L2.upd H p (.dK (kvK ks (zs.map V.str)))) Q E := by
  intro p np
  refine ⟨p, ks.zip zs, rfl, by rw [upd_same, kvK_str], by rw [List.length_zip]; omega, fun r hr => ⟨kl _ (List.of_mem_zip hr).1, zl _ (List.of_mem_zip hr).2⟩, fun h g => ?_, fun _ e H' S he => q e H' ((same_upd np).trans S) he⟩
  rcases hb with hb | hb
  · rw [hb] at h
    cases h
  · exact absurd g hb
section
variable {P : Program} {w : World} {K : PySem.W.Frag} {mg : Str → Option Value} {base : Heap}
theorem ok_wwrong {f g p C CI gI CU gU CP : Addr} {mc : Value} {fd gdI gdU : FuncData} (F : Fun K "_law_written_wrong" "_law_written_wrong" sWWrong f fd) (B : Blt mg) (TK : TabK P w K mg base C CI CU) (R : Errs K mg CI gI gdI CU gU gdU CP) (SM : SMet K C mc "written" p g) (FW : FnKw P w K mg base (L2.CX P w) 6 g okW (spWr C CI)) : FnOk P w K mg base CX0 7 f fd ["form", "one", "two"] spWWrong := by
  refine F.ok scWW (fun vs H Q E h => ?_) (fun cdv A outer s H vs Q E hr h => ?_)
  · obtain ⟨form, one, two, rfl, _⟩ := h
    rfl
  · obtain ⟨form, one, two, rfl, l1, l2, f0, f8, q⟩ := h
    have n1 := lane_len l1
    have n2 := lane_len l2
    have hz : sizeLine = 16777216 := rfl
    have lA : (Str.ofString "A").length = 1 := by decide +kernel
    refine ⟨_, pss_cons (ps_try_as (i := 3) rfl rfl scWW.nd rfl rfl ⟨rfl, by decide, .inl R.I.g⟩ takes0
        (fun W pn xe tk _ => (pss_one (ps_if (pt_cmpR op_eq (pv 0) pe_int (nomark _)) (pss_one (ps_expr (pe_smK (ks := [Str.ofString "p1", Str.ofString "q2"]) (E := WE W) (pe_glob (by rfl) TK.g (v := .ref C) rfl) SM FW hr (fun σ => passAt tk σ) (by unfold okW; decide +kernel) (pk_cons (pv 1) (pk_cons (pv 2) pk_nil))))) (pss_one (ps_if (pt_cmpR op_eq (pv 0) pe_int (nomark _)) (pss_one (ps_expr (pe_smK (ks := [Str.ofString "p", Str.ofString "p1"]) (E := WE W) (pe_glob (by rfl) TK.g (v := .ref C) rfl) SM FW hr (fun σ => passAt tk σ) (by unfold okW; decide +kernel) (pk_cons (pv 1) (pk_cons (pv 2) pk_nil))))) (pss_one (ps_if (pt_cmpR op_eq (pv 0) pe_int (nomark _)) (pss_one (ps_expr (pe_smK (ks := [Str.ofString "p123456789"]) (E := WE W) (pe_glob (by rfl) TK.g (v := .ref C) rfl) SM FW hr (fun σ => passAt tk σ) (by unfold okW; decide +kernel) (pk_cons (pv 1) pk_nil)))) (pss_one (ps_if (pt_cmpR op_eq (pv 0) pe_int (nomark _)) (pss_one (ps_expr (pe_smK (ks := [Str.ofString "p1", Str.ofString "p2a"]) (E := WE W) (pe_glob (by rfl) TK.g (v := .ref C) rfl) SM FW hr (fun σ => passAt tk σ) (by unfold okW; decide +kernel) (pk_cons (pv 1) (pk_cons (pv 2) pk_nil))))) (pss_one (ps_if (pt_cmpR op_eq (pv 0) pe_int (nomark _)) (pss_one (ps_expr (pe_smK (ks := [Str.ofString "P1", Str.ofString "p2"]) (E := WE W) (pe_glob (by rfl) TK.g (v := .ref C) rfl) SM FW hr (fun σ => passAt tk σ) (by unfold okW; decide +kernel) (pk_cons (pv 1) (pk_cons (pv 2) pk_nil))))) (pss_one (ps_if (pt_cmpR op_eq (pv 0) pe_int (nomark _)) (pss_one (ps_expr (pe_smK (ks := [Str.ofString "p1", Str.ofString "pp2"]) (E := WE W) (pe_glob (by rfl) TK.g (v := .ref C) rfl) SM FW hr (fun σ => passAt tk σ) (by unfold okW; decide +kernel) (pk_cons (pv 1) (pk_cons (pv 2) pk_nil))))) (pss_one (ps_if (pt_cmpR op_eq (pv 0) pe_int (nomark _)) (pss_one (ps_expr (pe_smK (ks := [Str.ofString "x1"]) (E := WE W) (pe_glob (by rfl) TK.g (v := .ref C) rfl) SM FW hr (fun σ => passAt tk σ) (by unfold okW; decide +kernel) (pk_cons (pv 1) pk_nil)))) (pss_one (ps_expr (pe_smK (ks := [Str.ofString "p1", Str.ofString "p2"]) (E := WE W) (pe_glob (by rfl) TK.g (v := .ref C) rfl) SM FW hr (fun σ => passAt tk σ) (by unfold okW; decide +kernel) (pk_cons (pv 1) (pk_cons (pe_op op_add_str (pv 2) pe_str) pk_nil))))))))))))))))))))
        (fun a oe cls d pn hz hf => pss_one (ps_ret (pe_and (pe_cmpR op_eq (pe_xf R.I.T.xf R.I.T.no hz hf (pv 3)) pe_str (nomark _)) (pe_and (pe_callB (id := "isinstance") (r := rIsX K CI a cls d) (call_isX R.I.T hz hf) (by rfl) B.isi (by decide +kernel) (pa_cons (pv 3) (pa_cons (pe_glob (by rfl) R.gP (v := .ref CP) rfl) pa_nil))) (pe_one (pe_not (pe_callB (id := "isinstance") (r := rIsX K CI a cls d) (call_isX R.I.T hz hf) (by rfl) B.isi (by decide +kernel) (pa_cons (pv 3) (pa_cons (pe_glob (by rfl) R.U.g (v := .ref CU) rfl) pa_nil)))))))))) (pss_one (ps_ret pe_bl)), ?_⟩
    refine ⟨.int form, rfl, rfl, _, rfl, ite2 (fun e => ?_) (fun e => ?_)⟩
    · exact ⟨rfl, .str one, rfl, .str two, rfl, rfl, wr_bad (ks := [Str.ofString "p1", Str.ofString "q2"]) (zs := [one, two]) (.inl ((allP_zip [Str.ofString "p1", Str.ofString "q2"] [one, two] rfl).trans (by decide +kernel))) (by decide) (by decide +kernel) (lens2 (by omega) (by omega)) (fun e H' S he => ⟨true, R.exI, fun _ a na => ⟨.ref a, rfl, rfl, rfl, e, _, .str wTable, rfl, he, lk1, rfl, true, by rw [decide_eq_true rfl], .ref a, rfl, rfl, .ref CP, .ref CP, true, e, _, rfl, .own _, rfl, he, R.kP, true, rfl, .ref a, rfl, rfl, .ref CU, .ref CU, false, e, _, rfl, .own _, rfl, he, R.kU, false, rfl, q H' S⟩, fun z => absurd z.symm Bool.false_ne_true⟩)⟩
    refine ⟨.int form, rfl, rfl, _, rfl, ite2 (fun e => ?_) (fun e => ?_)⟩
    · exact ⟨rfl, .str one, rfl, .str two, rfl, rfl, wr_bad (ks := [Str.ofString "p", Str.ofString "p1"]) (zs := [one, two]) (.inr (bad_addr (ks := [Str.ofString "p", Str.ofString "p1"]) (zs := [one, two]) rfl (by decide +kernel))) (by decide) (by decide +kernel) (lens2 (by omega) (by omega)) (fun e H' S he => ⟨true, R.exI, fun _ a na => ⟨.ref a, rfl, rfl, rfl, e, _, .str wTable, rfl, he, lk1, rfl, true, by rw [decide_eq_true rfl], .ref a, rfl, rfl, .ref CP, .ref CP, true, e, _, rfl, .own _, rfl, he, R.kP, true, rfl, .ref a, rfl, rfl, .ref CU, .ref CU, false, e, _, rfl, .own _, rfl, he, R.kU, false, rfl, q H' S⟩, fun z => absurd z.symm Bool.false_ne_true⟩)⟩
    refine ⟨.int form, rfl, rfl, _, rfl, ite2 (fun e => ?_) (fun e => ?_)⟩
    · exact ⟨rfl, .str one, rfl, rfl, wr_bad (ks := [Str.ofString "p123456789"]) (zs := [one]) (.inr (bad_addr (ks := [Str.ofString "p123456789"]) (zs := [one]) rfl (by decide +kernel))) (by decide) (by decide +kernel) (lens1 (by omega)) (fun e H' S he => ⟨true, R.exI, fun _ a na => ⟨.ref a, rfl, rfl, rfl, e, _, .str wTable, rfl, he, lk1, rfl, true, by rw [decide_eq_true rfl], .ref a, rfl, rfl, .ref CP, .ref CP, true, e, _, rfl, .own _, rfl, he, R.kP, true, rfl, .ref a, rfl, rfl, .ref CU, .ref CU, false, e, _, rfl, .own _, rfl, he, R.kU, false, rfl, q H' S⟩, fun z => absurd z.symm Bool.false_ne_true⟩)⟩
    refine ⟨.int form, rfl, rfl, _, rfl, ite2 (fun e => ?_) (fun e => ?_)⟩
    · exact ⟨rfl, .str one, rfl, .str two, rfl, rfl, wr_bad (ks := [Str.ofString "p1", Str.ofString "p2a"]) (zs := [one, two]) (.inr (bad_addr (ks := [Str.ofString "p1", Str.ofString "p2a"]) (zs := [one, two]) rfl (by decide +kernel))) (by decide) (by decide +kernel) (lens2 (by omega) (by omega)) (fun e H' S he => ⟨true, R.exI, fun _ a na => ⟨.ref a, rfl, rfl, rfl, e, _, .str wTable, rfl, he, lk1, rfl, true, by rw [decide_eq_true rfl], .ref a, rfl, rfl, .ref CP, .ref CP, true, e, _, rfl, .own _, rfl, he, R.kP, true, rfl, .ref a, rfl, rfl, .ref CU, .ref CU, false, e, _, rfl, .own _, rfl, he, R.kU, false, rfl, q H' S⟩, fun z => absurd z.symm Bool.false_ne_true⟩)⟩
    refine ⟨.int form, rfl, rfl, _, rfl, ite2 (fun e => ?_) (fun e => ?_)⟩
    · exact ⟨rfl, .str one, rfl, .str two, rfl, rfl, wr_bad (ks := [Str.ofString "P1", Str.ofString "p2"]) (zs := [one, two]) (.inl ((allP_zip [Str.ofString "P1", Str.ofString "p2"] [one, two] rfl).trans (by decide +kernel))) (by decide) (by decide +kernel) (lens2 (by omega) (by omega)) (fun e H' S he => ⟨true, R.exI, fun _ a na => ⟨.ref a, rfl, rfl, rfl, e, _, .str wTable, rfl, he, lk1, rfl, true, by rw [decide_eq_true rfl], .ref a, rfl, rfl, .ref CP, .ref CP, true, e, _, rfl, .own _, rfl, he, R.kP, true, rfl, .ref a, rfl, rfl, .ref CU, .ref CU, false, e, _, rfl, .own _, rfl, he, R.kU, false, rfl, q H' S⟩, fun z => absurd z.symm Bool.false_ne_true⟩)⟩
    refine ⟨.int form, rfl, rfl, _, rfl, ite2 (fun e => ?_) (fun e => ?_)⟩
    · exact ⟨rfl, .str one, rfl, .str two, rfl, rfl, wr_bad (ks := [Str.ofString "p1", Str.ofString "pp2"]) (zs := [one, two]) (.inr (bad_addr (ks := [Str.ofString "p1", Str.ofString "pp2"]) (zs := [one, two]) rfl (by decide +kernel))) (by decide) (by decide +kernel) (lens2 (by omega) (by omega)) (fun e H' S he => ⟨true, R.exI, fun _ a na => ⟨.ref a, rfl, rfl, rfl, e, _, .str wTable, rfl, he, lk1, rfl, true, by rw [decide_eq_true rfl], .ref a, rfl, rfl, .ref CP, .ref CP, true, e, _, rfl, .own _, rfl, he, R.kP, true, rfl, .ref a, rfl, rfl, .ref CU, .ref CU, false, e, _, rfl, .own _, rfl, he, R.kU, false, rfl, q H' S⟩, fun z => absurd z.symm Bool.false_ne_true⟩)⟩
    refine ⟨.int form, rfl, rfl, _, rfl, ite2 (fun e => ?_) (fun e => ?_)⟩
    · exact ⟨rfl, .str one, rfl, rfl, wr_bad (ks := [Str.ofString "x1"]) (zs := [one]) (.inl ((allP_zip [Str.ofString "x1"] [one] rfl).trans (by decide +kernel))) (by decide) (by decide +kernel) (lens1 (by omega)) (fun e H' S he => ⟨true, R.exI, fun _ a na => ⟨.ref a, rfl, rfl, rfl, e, _, .str wTable, rfl, he, lk1, rfl, true, by rw [decide_eq_true rfl], .ref a, rfl, rfl, .ref CP, .ref CP, true, e, _, rfl, .own _, rfl, he, R.kP, true, rfl, .ref a, rfl, rfl, .ref CU, .ref CU, false, e, _, rfl, .own _, rfl, he, R.kU, false, rfl, q H' S⟩, fun z => absurd z.symm Bool.false_ne_true⟩)⟩
    exact ⟨rfl, .str one, rfl, .str two, rfl, two, Str.ofString "A", rfl, rfl, by rw [lA]; omega, rfl, wr_bad (ks := [Str.ofString "p1", Str.ofString "p2"]) (zs := [one, two ++ Str.ofString "A"]) (.inr (bad_lane l2)) (by decide) (by decide +kernel) (lens2 (by omega) (by rw [app_len, lA]; omega)) (fun e H' S he => ⟨true, R.exI, fun _ a na => ⟨.ref a, rfl, rfl, rfl, e, _, .str wTable, rfl, he, lk1, rfl, true, by rw [decide_eq_true rfl], .ref a, rfl, rfl, .ref CP, .ref CP, true, e, _, rfl, .own _, rfl, he, R.kP, true, rfl, .ref a, rfl, rfl, .ref CU, .ref CU, false, e, _, rfl, .own _, rfl, he, R.kU, false, rfl, q H' S⟩, fun z => absurd z.symm Bool.false_ne_true⟩)⟩
end
end Tb

set_option Elab.async false
set_option linter.all false
set_option maxRecDepth 100000
set_option maxHeartbeats 0
namespace Tb
open PySem PySem.Spec PyProof.Rows L2
theorem cls_some {K : PySem.W.Frag} {C : Addr} (h : PySem.W.hasDictIn K C = true) : (PySem.W.clsIn K C).isSome = true := by
  obtain ⟨cd, hc, _⟩ := PySem.W.any_some h
  rw [hc]
  rfl
theorem kit_refC {K : PySem.W.Frag} {t : Value} {C : Addr} {b : Bool} (hd : PySem.W.hasDictIn K C = true) (ht : PySem.W.typeIn K (.ref C) = some (.type "type")) (hs : PySem.W.subIn K t (.ref C) = some b) : PySem.W.kitCls K t (.ref C) = some b := by
  have e2 : ((PySem.W.clsIn K C).isSome && PySem.W.typeIn K (.ref C) == some (.type "type")) = true := by rw [cls_some hd, ht]; rfl
  show (if ((PySem.W.clsIn K C).isSome && PySem.W.typeIn K (.ref C) == some (.type "type")) = true then PySem.W.subIn K t (.ref C) else none) = some b
  rw [if_pos e2]
  exact hs
theorem kit_tyC {K : PySem.W.Frag} {t : Value} {T : String} {b : Bool} (hT : PySem.W.kitMeta T = true) (hs : PySem.W.subIn K t (.type T) = some b) : PySem.W.kitCls K t (.type T) = some b := by
  show (if PySem.W.kitMeta T = true then PySem.W.subIn K t (.type T) else none) = some b
  rw [if_pos hT]
  exact hs
theorem kit_t {K : PySem.W.Frag} {t c : Value} (h : PySem.W.kitCls K t c = some true) : PySem.W.kitOne K t c = some true := by
  unfold PySem.W.kitOne
  by_cases e : (t == c) = true
  · rw [if_pos e]
  · rw [if_neg e]
    exact h
theorem kit_f {K : PySem.W.Frag} {t c : Value} (e : (t == c) = false) (h : PySem.W.kitCls K t c = some false) : PySem.W.kitOne K t c = some false := by
  unfold PySem.W.kitOne
  rw [if_neg (by rw [e]; exact Bool.false_ne_true)]
  exact h
theorem all_mk {l : PySem.W.OpenLaw} {w : World} {K : PySem.W.Frag} {h : Heap} {mg : Str → Option Value} {fa f1 f2 f3 f4 f5 f6 f7 f8 f9 f10 f11 f12 f13 f14 f15 f16 f17 f18 f19 f20 f21 f22 f23 f24 f25 f26 f27 f28 C CI CU CP pR pW mI mC mL mR mX mW mV mU : Addr} (X : K.In h) (G : h.Ns mainGlobals mg) (hfa : mg "law" = some (.ref fa))
    {od1 an1 od2 an2 od3 an3 od4 an4 od5 an5 od6 an6 od7 an7 od8 an8 od9 an9 od10 an10 od11 an11 od12 an12 od13 an13 od14 an14 od15 an15 od16 an16 od17 an17 od18 an18 od19 an19 od20 an20 od21 an21 od22 an22 od23 an23 od24 an24 od25 an25 od26 an26 od27 an27 od28 an28 odmI anmI odmC anmC odmL anmL odmR anmR odmX anmX odmW anmW odmV anmV odmU anmU : Option Addr} {sl1 sl2 sl3 sl4 sl5 sl6 sl7 sl8 sl9 sl10 sl11 sl12 sl13 sl14 sl15 sl16 sl17 sl18 sl19 sl20 sl21 sl22 sl23 sl24 sl25 sl26 sl27 sl28 slmI slmC slmL slmR slmX slmW slmV slmU : Array (Option Value)} {oc1 kV1 dc1 pm1 cd1 ct1 oc2 kV2 dc2 pm2 cd2 ct2 oc3 kV3 dc3 pm3 cd3 ct3 oc4 kV4 dc4 pm4 cd4 ct4 oc5 kV5 dc5 pm5 cd5 ct5 oc6 kV6 dc6 pm6 cd6 ct6 oc7 kV7 dc7 pm7 cd7 ct7 oc8 kV8 dc8 pm8 cd8 ct8 oc9 kV9 dc9 pm9 cd9 ct9 oc10 kV10 dc10 pm10 cd10 ct10 oc11 kV11 dc11 pm11 cd11 ct11 oc12 kV12 dc12 pm12 cd12 ct12 oc13 kV13 dc13 pm13 cd13 ct13 oc14 kV14 dc14 pm14 cd14 ct14 oc15 kV15 dc15 pm15 cd15 ct15 oc16 kV16 dc16 pm16 cd16 ct16 oc17 kV17 dc17 pm17 cd17 ct17 oc18 kV18 dc18 pm18 cd18 ct18 oc19 kV19 dc19 pm19 cd19 ct19 oc20 kV20 dc20 pm20 cd20 ct20 oc21 kV21 dc21 pm21 cd21 ct21 oc22 kV22 dc22 pm22 cd22 ct22 oc23 kV23 dc23 pm23 cd23 ct23 oc24 kV24 dc24 pm24 cd24 ct24 oc25 kV25 dc25 pm25 cd25 ct25 oc26 kV26 dc26 pm26 cd26 ct26 oc27 kV27 dc27 pm27 cd27 ct27 oc28 kV28 dc28 pm28 cd28 ct28 ocmI kVmI dcmI pmmI cdmI ctmI ocmC kVmC dcmC pmmC cdmC ctmC ocmL kVmL dcmL pmmL cdmL ctmL ocmR kVmR dcmR pmmR cdmR ctmR ocmX kVmX dcmX pmmX cdmX ctmX ocmW kVmW dcmW pmmW cdmW ctmW ocmV kVmV dcmV pmmV cdmV ctmV ocmU kVmU dcmU pmmU cdmU ctmU : Value} {mc : Value} {restR restW : List Value} {tDG tLT tHR : Tok}
    {nmI qI} {NI} {bsI} {bmI} {snI} {subI} {abI} {colI} {ddI} {k0I} {k1I} {k2I} {k3I} {k5I}
    {nmU qU} {NU} {bsU} {bmU} {snU} {subU} {abU} {colU} {ddU} {k0U} {k1U} {k2U} {k3U} {k5U}
    (a1 : PySem.W.nsIn K mainGlobals "made_of" = some (some (.ref f1)))
    (l1 : K.lookup f1 = some ⟨oc1, od1, .func (PySem.W.fnOf "made_of" "made_of" (defArgs sMade) (defBody sMade) (defScope sMade) .none kV1 dc1 pm1 an1 cd1 ct1), sl1⟩)
    (c1 : PySem.W.codeIn K cd1 "made_of" = true)
    (k1 : PySem.W.keepIn K (.ref f1) = true)
    (a2 : PySem.W.nsIn K mainGlobals "spells_address" = some (some (.ref f2)))
    (l2 : K.lookup f2 = some ⟨oc2, od2, .func (PySem.W.fnOf "spells_address" "spells_address" (defArgs sSpells) (defBody sSpells) (defScope sSpells) .none kV2 dc2 pm2 an2 cd2 ct2), sl2⟩)
    (c2 : PySem.W.codeIn K cd2 "spells_address" = true)
    (k2 : PySem.W.keepIn K (.ref f2) = true)
    (a3 : PySem.W.nsIn K mainGlobals "is_name" = some (some (.ref f3)))
    (l3 : K.lookup f3 = some ⟨oc3, od3, .func (PySem.W.fnOf "is_name" "is_name" (defArgs sIsName) (defBody sIsName) (defScope sIsName) .none kV3 dc3 pm3 an3 cd3 ct3), sl3⟩)
    (c3 : PySem.W.codeIn K cd3 "is_name" = true)
    (k3 : PySem.W.keepIn K (.ref f3) = true)
    (a4 : PySem.W.nsIn K mainGlobals "is_address" = some (some (.ref f4)))
    (l4 : K.lookup f4 = some ⟨oc4, od4, .func (PySem.W.fnOf "is_address" "is_address" (defArgs sIsAddr) (defBody sIsAddr) (defScope sIsAddr) .none kV4 dc4 pm4 an4 cd4 ct4), sl4⟩)
    (c4 : PySem.W.codeIn K cd4 "is_address" = true)
    (k4 : PySem.W.keepIn K (.ref f4) = true)
    (a5 : PySem.W.nsIn K mainGlobals "longest_prefix" = some (some (.ref f5)))
    (l5 : K.lookup f5 = some ⟨oc5, od5, .func (PySem.W.fnOf "longest_prefix" "longest_prefix" (defArgs sLong) (defBody sLong) (defScope sLong) .none kV5 dc5 pm5 an5 cd5 ct5), sl5⟩)
    (c5 : PySem.W.codeIn K cd5 "longest_prefix" = true)
    (k5 : PySem.W.keepIn K (.ref f5) = true)
    (a6 : PySem.W.nsIn K mainGlobals "_is_lane" = some (some (.ref f6)))
    (l6 : K.lookup f6 = some ⟨oc6, od6, .func (PySem.W.fnOf "_is_lane" "_is_lane" (defArgs sIsLane) (defBody sIsLane) (defScope sIsLane) .none kV6 dc6 pm6 an6 cd6 ct6), sl6⟩)
    (c6 : PySem.W.codeIn K cd6 "_is_lane" = true)
    (k6 : PySem.W.keepIn K (.ref f6) = true)
    (a7 : PySem.W.nsIn K mainGlobals "_lane" = some (some (.ref f7)))
    (l7 : K.lookup f7 = some ⟨oc7, od7, .func (PySem.W.fnOf "_lane" "_lane" (defArgs sLane) (defBody sLane) (defScope sLane) .none kV7 dc7 pm7 an7 cd7 ct7), sl7⟩)
    (c7 : PySem.W.codeIn K cd7 "_lane" = true)
    (k7 : PySem.W.keepIn K (.ref f7) = true)
    (a8 : PySem.W.nsIn K mainGlobals "_law_bag" = some (some (.ref f8)))
    (l8 : K.lookup f8 = some ⟨oc8, od8, .func (PySem.W.fnOf "_law_bag" "_law_bag" (defArgs sBag) (defBody sBag) (defScope sBag) .none kV8 dc8 pm8 an8 cd8 ct8), sl8⟩)
    (c8 : PySem.W.codeIn K cd8 "_law_bag" = true)
    (k8 : PySem.W.keepIn K (.ref f8) = true)
    (a9 : PySem.W.nsIn K mainGlobals "_law_draw" = some (some (.ref f9)))
    (l9 : K.lookup f9 = some ⟨oc9, od9, .func (PySem.W.fnOf "_law_draw" "_law_draw" (defArgs sDraw) (defBody sDraw) (defScope sDraw) .none kV9 dc9 pm9 an9 cd9 ct9), sl9⟩)
    (c9 : PySem.W.codeIn K cd9 "_law_draw" = true)
    (k9 : PySem.W.keepIn K (.ref f9) = true)
    (a10 : PySem.W.nsIn K mainGlobals "_law_fresh_name" = some (some (.ref f10)))
    (l10 : K.lookup f10 = some ⟨oc10, od10, .func (PySem.W.fnOf "_law_fresh_name" "_law_fresh_name" (defArgs sFresh) (defBody sFresh) (defScope sFresh) .none kV10 dc10 pm10 an10 cd10 ct10), sl10⟩)
    (c10 : PySem.W.codeIn K cd10 "_law_fresh_name" = true)
    (k10 : PySem.W.keepIn K (.ref f10) = true)
    (a11 : PySem.W.nsIn K mainGlobals "_law_prefix" = some (some (.ref f11)))
    (l11 : K.lookup f11 = some ⟨oc11, od11, .func (PySem.W.fnOf "_law_prefix" "_law_prefix" (defArgs sPrefix) (defBody sPrefix) (defScope sPrefix) .none kV11 dc11 pm11 an11 cd11 ct11), sl11⟩)
    (c11 : PySem.W.codeIn K cd11 "_law_prefix" = true)
    (k11 : PySem.W.keepIn K (.ref f11) = true)
    (a12 : PySem.W.nsIn K mainGlobals "_law_text" = some (some (.ref f12)))
    (l12 : K.lookup f12 = some ⟨oc12, od12, .func (PySem.W.fnOf "_law_text" "_law_text" (defArgs sText) (defBody sText) (defScope sText) .none kV12 dc12 pm12 an12 cd12 ct12), sl12⟩)
    (c12 : PySem.W.codeIn K cd12 "_law_text" = true)
    (k12 : PySem.W.keepIn K (.ref f12) = true)
    (a13 : PySem.W.nsIn K mainGlobals "_law_is_address" = some (some (.ref f13)))
    (l13 : K.lookup f13 = some ⟨oc13, od13, .func (PySem.W.fnOf "_law_is_address" "_law_is_address" (defArgs sLAddr) (defBody sLAddr) (defScope sLAddr) .none kV13 dc13 pm13 an13 cd13 ct13), sl13⟩)
    (c13 : PySem.W.codeIn K cd13 "_law_is_address" = true)
    (k13 : PySem.W.keepIn K (.ref f13) = true)
    (a14 : PySem.W.nsIn K mainGlobals "_law_is_name" = some (some (.ref f14)))
    (l14 : K.lookup f14 = some ⟨oc14, od14, .func (PySem.W.fnOf "_law_is_name" "_law_is_name" (defArgs sLName) (defBody sLName) (defScope sLName) .none kV14 dc14 pm14 an14 cd14 ct14), sl14⟩)
    (c14 : PySem.W.codeIn K cd14 "_law_is_name" = true)
    (k14 : PySem.W.keepIn K (.ref f14) = true)
    (a15 : PySem.W.nsIn K mainGlobals "_law_lane" = some (some (.ref f15)))
    (l15 : K.lookup f15 = some ⟨oc15, od15, .func (PySem.W.fnOf "_law_lane" "_law_lane" (defArgs sLLane) (defBody sLLane) (defScope sLLane) .none kV15 dc15 pm15 an15 cd15 ct15), sl15⟩)
    (c15 : PySem.W.codeIn K cd15 "_law_lane" = true)
    (k15 : PySem.W.keepIn K (.ref f15) = true)
    (a16 : PySem.W.nsIn K mainGlobals "_law_after" = some (some (.ref f16)))
    (l16 : K.lookup f16 = some ⟨oc16, od16, .func (PySem.W.fnOf "_law_after" "_law_after" (defArgs sLAfter) (defBody sLAfter) (defScope sLAfter) .none kV16 dc16 pm16 an16 cd16 ct16), sl16⟩)
    (c16 : PySem.W.codeIn K cd16 "_law_after" = true)
    (k16 : PySem.W.keepIn K (.ref f16) = true)
    (a17 : PySem.W.nsIn K mainGlobals "_law_rows_are" = some (some (.ref f17)))
    (l17 : K.lookup f17 = some ⟨oc17, od17, .func (PySem.W.fnOf "_law_rows_are" "_law_rows_are" (defArgs sRowsAre) (defBody sRowsAre) (defScope sRowsAre) .none kV17 dc17 pm17 an17 cd17 ct17), sl17⟩)
    (c17 : PySem.W.codeIn K cd17 "_law_rows_are" = true)
    (k17 : PySem.W.keepIn K (.ref f17) = true)
    (a18 : PySem.W.nsIn K mainGlobals "_law_ways" = some (some (.ref f18)))
    (l18 : K.lookup f18 = some ⟨oc18, od18, .func (PySem.W.fnOf "_law_ways" "_law_ways" (defArgs sWays) (defBody sWays) (defScope sWays) .none kV18 dc18 pm18 an18 cd18 ct18), sl18⟩)
    (c18 : PySem.W.codeIn K cd18 "_law_ways" = true)
    (k18 : PySem.W.keepIn K (.ref f18) = true)
    (a19 : PySem.W.nsIn K mainGlobals "_law_pairs" = some (some (.ref f19)))
    (l19 : K.lookup f19 = some ⟨oc19, od19, .func (PySem.W.fnOf "_law_pairs" "_law_pairs" (defArgs sPairs) (defBody sPairs) (defScope sPairs) .none kV19 dc19 pm19 an19 cd19 ct19), sl19⟩)
    (c19 : PySem.W.codeIn K cd19 "_law_pairs" = true)
    (k19 : PySem.W.keepIn K (.ref f19) = true)
    (a20 : PySem.W.nsIn K mainGlobals "_law_addresses" = some (some (.ref f20)))
    (l20 : K.lookup f20 = some ⟨oc20, od20, .func (PySem.W.fnOf "_law_addresses" "_law_addresses" (defArgs sAddrs) (defBody sAddrs) (defScope sAddrs) .none kV20 dc20 pm20 an20 cd20 ct20), sl20⟩)
    (c20 : PySem.W.codeIn K cd20 "_law_addresses" = true)
    (k20 : PySem.W.keepIn K (.ref f20) = true)
    (a21 : PySem.W.nsIn K mainGlobals "_law_calls_are" = some (some (.ref f21)))
    (l21 : K.lookup f21 = some ⟨oc21, od21, .func (PySem.W.fnOf "_law_calls_are" "_law_calls_are" (defArgs sCalls) (defBody sCalls) (defScope sCalls) .none kV21 dc21 pm21 an21 cd21 ct21), sl21⟩)
    (c21 : PySem.W.codeIn K cd21 "_law_calls_are" = true)
    (k21 : PySem.W.keepIn K (.ref f21) = true)
    (a22 : PySem.W.nsIn K mainGlobals "_law_table_of" = some (some (.ref f22)))
    (l22 : K.lookup f22 = some ⟨oc22, od22, .func (PySem.W.fnOf "_law_table_of" "_law_table_of" (defArgs sTableOf) (defBody sTableOf) (defScope sTableOf) .none kV22 dc22 pm22 an22 cd22 ct22), sl22⟩)
    (c22 : PySem.W.codeIn K cd22 "_law_table_of" = true)
    (k22 : PySem.W.keepIn K (.ref f22) = true)
    (a23 : PySem.W.nsIn K mainGlobals "_law_row_more" = some (some (.ref f23)))
    (l23 : K.lookup f23 = some ⟨oc23, od23, .func (PySem.W.fnOf "_law_row_more" "_law_row_more" (defArgs sRowMore) (defBody sRowMore) (defScope sRowMore) .none kV23 dc23 pm23 an23 cd23 ct23), sl23⟩)
    (c23 : PySem.W.codeIn K cd23 "_law_row_more" = true)
    (k23 : PySem.W.keepIn K (.ref f23) = true)
    (a24 : PySem.W.nsIn K mainGlobals "_law_changed" = some (some (.ref f24)))
    (l24 : K.lookup f24 = some ⟨oc24, od24, .func (PySem.W.fnOf "_law_changed" "_law_changed" (defArgs sLChanged) (defBody sLChanged) (defScope sLChanged) .none kV24 dc24 pm24 an24 cd24 ct24), sl24⟩)
    (c24 : PySem.W.codeIn K cd24 "_law_changed" = true)
    (k24 : PySem.W.keepIn K (.ref f24) = true)
    (a25 : PySem.W.nsIn K mainGlobals "_law_changes_hold" = some (some (.ref f25)))
    (l25 : K.lookup f25 = some ⟨oc25, od25, .func (PySem.W.fnOf "_law_changes_hold" "_law_changes_hold" (defArgs sHold) (defBody sHold) (defScope sHold) .none kV25 dc25 pm25 an25 cd25 ct25), sl25⟩)
    (c25 : PySem.W.codeIn K cd25 "_law_changes_hold" = true)
    (k25 : PySem.W.keepIn K (.ref f25) = true)
    (a26 : PySem.W.nsIn K mainGlobals "_law_written" = some (some (.ref f26)))
    (l26 : K.lookup f26 = some ⟨oc26, od26, .func (PySem.W.fnOf "_law_written" "_law_written" (defArgs sWritten) (defBody sWritten) (defScope sWritten) .none kV26 dc26 pm26 an26 cd26 ct26), sl26⟩)
    (c26 : PySem.W.codeIn K cd26 "_law_written" = true)
    (k26 : PySem.W.keepIn K (.ref f26) = true)
    (a27 : PySem.W.nsIn K mainGlobals "_law_written_wrong" = some (some (.ref f27)))
    (l27 : K.lookup f27 = some ⟨oc27, od27, .func (PySem.W.fnOf "_law_written_wrong" "_law_written_wrong" (defArgs sWWrong) (defBody sWWrong) (defScope sWWrong) .none kV27 dc27 pm27 an27 cd27 ct27), sl27⟩)
    (c27 : PySem.W.codeIn K cd27 "_law_written_wrong" = true)
    (k27 : PySem.W.keepIn K (.ref f27) = true)
    (a28 : PySem.W.nsIn K mainGlobals "law" = some (some (.ref f28)))
    (l28 : K.lookup f28 = some ⟨oc28, od28, .func (PySem.W.fnOf "law" "law" (defArgs sLaw) (defBody sLaw) (defScope sLaw) .none kV28 dc28 pm28 an28 cd28 ct28), sl28⟩)
    (c28 : PySem.W.codeIn K cd28 "law" = true)
    (k28 : PySem.W.keepIn K (.ref f28) = true)
    (z1 : PySem.W.nsIn K mainGlobals "len" = some none)
    (z2 : PySem.W.nsIn K mainGlobals "int" = some none)
    (z3 : PySem.W.nsIn K mainGlobals "str" = some none)
    (z4 : PySem.W.nsIn K mainGlobals "list" = some none)
    (z5 : PySem.W.nsIn K mainGlobals "tuple" = some none)
    (z6 : PySem.W.nsIn K mainGlobals "dict" = some none)
    (z7 : PySem.W.nsIn K mainGlobals "bool" = some none)
    (z8 : PySem.W.nsIn K mainGlobals "range" = some none)
    (z9 : PySem.W.nsIn K mainGlobals "sorted" = some none)
    (z10 : PySem.W.nsIn K mainGlobals "all" = some none)
    (z11 : PySem.W.nsIn K mainGlobals "isinstance" = some none)
    (z12 : PySem.W.nsIn K mainGlobals "ValueError" = some none)
    (gDG : PySem.W.nsIn K mainGlobals "DIGITS" = some (some (.str ("0123456789" : String) tDG)))
    (gLT : PySem.W.nsIn K mainGlobals "LETTERS" = some (some (.str ("abcdefghijklmnopqrstuvwxyz" : String) tLT)))
    (gHR : PySem.W.nsIn K mainGlobals "HERE" = some (some (.str ("" : String) tHR)))
    (aT : PySem.W.nsIn K mainGlobals "Table" = some (some (.ref C)))
    (aI : PySem.W.nsIn K mainGlobals "Invalid" = some (some (.ref CI)))
    (aU : PySem.W.nsIn K mainGlobals "Unknown" = some (some (.ref CU)))
    (aP : PySem.W.nsIn K mainGlobals "ParcelError" = some (some (.ref CP)))
    (tI : PySem.W.findIn K (.ref C) "__init__" = some (some (.ref mI)))
    (tC : PySem.W.findIn K (.ref C) "__call__" = some (some (.ref mC)))
    (tL : PySem.W.findIn K (.ref C) "__len__" = some (some (.ref mL)))
    (tX : PySem.W.findIn K (.ref C) "changed" = some (some (.ref mX)))
    (tR : PySem.W.findIn K (.ref C) "rows" = some (some (.ref pR)))
    (tRg : PySem.W.specialIn K (.ref pR) "__get__" = some (some (.builtin "property.__get__")))
    (tRt : PySem.W.takesIn K (.ref pR) = some true)
    (tRr : PySem.W.recIn K pR "property" = some (.ref mR :: restR))
    (tTy : PySem.W.typeIn K (.ref C) = some mc)
    (tRd : PySem.W.readsIn K C mc = true)
    (tGa : PySem.W.specialIn K (.ref C) "__getattribute__" = some (some (.builtin "type.__getattribute__")))
    (tW : PySem.W.findCls K (.ref C) mc "written" = some (.get (.builtin "staticmethod.__get__") (.ref pW) .none (.ref C)))
    (tWr : PySem.W.recIn K pW "staticmethod" = some (.ref mW :: restW))
    (tPg : PySem.W.plainGet K C Str.empty = true)
    (tHd : PySem.W.hasDictIn K C = true)
    (tPo : PySem.W.plainOver K C = true)
    (tSa : PySem.W.findIn K (.ref C) "__setattr__" = some (some (.builtin "object.__setattr__")))
    (tNo : PySem.W.findIn K (.ref C) "_lanes" = some none)
    (tMk : PySem.W.makesIn K C = true)
    (tKp : PySem.W.keepIn K (.ref C) = true)
    (tHa : PySem.W.findIn K (.ref C) "__class__" = some (some (.builtin "object.__class__")))
    (tMr : PySem.W.mroIn K C (.type "object") = some true)
    (oHn : PySem.W.specialIn K (.builtin "object.__class__") "__get__" = some (some (.builtin "getset_descriptor.__get__")))
    (oTk : PySem.W.takesIn K (.builtin "object.__class__") = some true)
    (xIl : K.lookup CI = some (excClassObj nmI qI CI NI bsI bmI true snI subI abI colI ddI k0I k1I k2I k3I k5I "ValueError.__new__"))
    (xIv : PySem.HandSPX.refsVE bmI = true)
    (xIi : PySem.W.findIn K (.ref CI) "__init__" = some (some (.ref mV)))
    (xIs : PySem.W.findIn K (.ref CI) "__setattr__" = some (some (.builtin "object.__setattr__")))
    (xIe : PySem.W.subIn K (.ref CI) (.type "BaseException") = some true)
    (xIt : PySem.W.typeIn K (.ref CI) = some (.type "type"))
    (xIk : PySem.W.keepIn K (.ref CI) = true)
    (xIg : PySem.W.findIn K (.ref CI) "__getattribute__" = some (some (.builtin "BaseException.__getattribute__")))
    (xIa : PySem.W.findIn K (.ref CI) "__getattr__" = some none)
    (xIh : PySem.W.hasDictIn K CI = true)
    (xIn : PySem.W.findIn K (.ref CI) "what" = some none)
    (xIy : PySem.W.typeIn K (.ref mV) = some (.type "function"))
    (xIo : PySem.W.findIn K (.ref CI) "__class__" = some (some (.builtin "object.__class__")))
    (xIm : PySem.W.mroIn K CI (.type "object") = some true)
    (xUl : K.lookup CU = some (excClassObj nmU qU CU NU bsU bmU true snU subU abU colU ddU k0U k1U k2U k3U k5U "ValueError.__new__"))
    (xUv : PySem.HandSPX.refsVE bmU = true)
    (xUi : PySem.W.findIn K (.ref CU) "__init__" = some (some (.ref mU)))
    (xUs : PySem.W.findIn K (.ref CU) "__setattr__" = some (some (.builtin "object.__setattr__")))
    (xUe : PySem.W.subIn K (.ref CU) (.type "BaseException") = some true)
    (xUt : PySem.W.typeIn K (.ref CU) = some (.type "type"))
    (xUk : PySem.W.keepIn K (.ref CU) = true)
    (xUg : PySem.W.findIn K (.ref CU) "__getattribute__" = some (some (.builtin "BaseException.__getattribute__")))
    (xUa : PySem.W.findIn K (.ref CU) "__getattr__" = some none)
    (xUh : PySem.W.hasDictIn K CU = true)
    (xUn : PySem.W.findIn K (.ref CU) "name" = some none)
    (xUy : PySem.W.typeIn K (.ref mU) = some (.type "function"))
    (xUo : PySem.W.findIn K (.ref CU) "__class__" = some (some (.builtin "object.__class__")))
    (xUm : PySem.W.mroIn K CU (.type "object") = some true)
    (pHd : PySem.W.hasDictIn K CP = true)
    (pTy : PySem.W.typeIn K (.ref CP) = some (.type "type"))
    (sIP : PySem.W.subIn K (.ref CI) (.ref CP) = some true)
    (sIV : PySem.W.subIn K (.ref CI) (.type "ValueError") = some true)
    (sIU : PySem.W.subIn K (.ref CI) (.ref CU) = some false)
    (sII : PySem.W.subIn K (.ref CI) (.ref CI) = some true)
    (sUU : PySem.W.subIn K (.ref CU) (.ref CU) = some true)
    (sUI : PySem.W.subIn K (.ref CU) (.ref CI) = some false)
    (nIU : (Value.ref CI == Value.ref CU) = false)
    (lmI : K.lookup mI = some ⟨ocmI, odmI, .func (PySem.W.fnOf "__init__" "Table.__init__" (defArgs sTInit) (defBody sTInit) (defScope sTInit) .none kVmI dcmI pmmI anmI cdmI ctmI), slmI⟩)
    (cmI : PySem.W.codeIn K cdmI "Table.__init__" = true)
    (kmI : PySem.W.keepIn K (.ref mI) = true)
    (nmI : PySem.W.isFn K (.ref mI) = true)
    (lmC : K.lookup mC = some ⟨ocmC, odmC, .func (PySem.W.fnOf "__call__" "Table.__call__" (defArgs sTCall) (defBody sTCall) (defScope sTCall) .none kVmC dcmC pmmC anmC cdmC ctmC), slmC⟩)
    (cmC : PySem.W.codeIn K cdmC "Table.__call__" = true)
    (kmC : PySem.W.keepIn K (.ref mC) = true)
    (nmC : PySem.W.isFn K (.ref mC) = true)
    (lmL : K.lookup mL = some ⟨ocmL, odmL, .func (PySem.W.fnOf "__len__" "Table.__len__" (defArgs sTLen) (defBody sTLen) (defScope sTLen) .none kVmL dcmL pmmL anmL cdmL ctmL), slmL⟩)
    (cmL : PySem.W.codeIn K cdmL "Table.__len__" = true)
    (kmL : PySem.W.keepIn K (.ref mL) = true)
    (nmL : PySem.W.isFn K (.ref mL) = true)
    (lmR : K.lookup mR = some ⟨ocmR, odmR, .func (PySem.W.fnOf "rows" "Table.rows" (defArgs sTRows) (defBody sTRows) (defScope sTRows) .none kVmR dcmR pmmR anmR cdmR ctmR), slmR⟩)
    (cmR : PySem.W.codeIn K cdmR "Table.rows" = true)
    (kmR : PySem.W.keepIn K (.ref mR) = true)
    (nmR : PySem.W.isFn K (.ref mR) = true)
    (lmX : K.lookup mX = some ⟨ocmX, odmX, .func (PySem.W.fnOf "changed" "Table.changed" (defArgs sTChanged) (defBody sTChanged) (defScope sTChanged) .none kVmX dcmX pmmX anmX cdmX ctmX), slmX⟩)
    (cmX : PySem.W.codeIn K cdmX "Table.changed" = true)
    (kmX : PySem.W.keepIn K (.ref mX) = true)
    (nmX : PySem.W.isFn K (.ref mX) = true)
    (lmW : K.lookup mW = some ⟨ocmW, odmW, .func (PySem.W.fnOf "written" "Table.written" (defArgs sTWritten) (defBody sTWritten) (defScope sTWritten) .none kVmW dcmW pmmW anmW cdmW ctmW), slmW⟩)
    (cmW : PySem.W.codeIn K cdmW "Table.written" = true)
    (kmW : PySem.W.keepIn K (.ref mW) = true)
    (nmW : PySem.W.isFn K (.ref mW) = true)
    (lmV : K.lookup mV = some ⟨ocmV, odmV, .func (PySem.W.fnOf "__init__" "Invalid.__init__" (defArgs sInv) (defBody sInv) (defScope sInv) .none kVmV dcmV pmmV anmV cdmV ctmV), slmV⟩)
    (cmV : PySem.W.codeIn K cdmV "Invalid.__init__" = true)
    (kmV : PySem.W.keepIn K (.ref mV) = true)
    (nmV : PySem.W.isFn K (.ref mV) = true)
    (lmU : K.lookup mU = some ⟨ocmU, odmU, .func (PySem.W.fnOf "__init__" "Unknown.__init__" (defArgs sUnk) (defBody sUnk) (defScope sUnk) .none kVmU dcmU pmmU anmU cdmU ctmU), slmU⟩)
    (cmU : PySem.W.codeIn K cdmU "Unknown.__init__" = true)
    (kmU : PySem.W.keepIn K (.ref mU) = true)
    (nmU : PySem.W.isFn K (.ref mU) = true)
    (fnC : PySem.W.fnIn K mC = true)
    : ∃ fd : FuncData, (∀ (s : Shared) (v : Value), BindsTo s fd ⟨[v], []⟩ [("script", v)]) ∧ ∀ base : Heap, K.In base → base.Ns mainGlobals mg → FnOk l.prog w K mg base CX0 9 fa fd ["script"] (spLaw K) := by
  have e := hfa.symm.trans (PySem.W.mg_of X G a28)
  cases e
  have F1 := fun_mk (st := sMade) l1 c1 k1
  have b1 := F1.binds (ps := ["text", "signs", "most"]) fun _ _ _ _ _ _ us hl => match us, hl with | [_, _, _], _ => rfl
  have D1 : Dd K mg "made_of" sMade ["text", "signs", "most"] f1 _ := ⟨F1, b1, PySem.W.mg_of X G a1⟩
  have F2 := fun_mk (st := sSpells) l2 c2 k2
  have b2 := F2.binds (ps := ["text"]) fun _ _ _ _ _ _ us hl => match us, hl with | [_], _ => rfl
  have D2 : Dd K mg "spells_address" sSpells ["text"] f2 _ := ⟨F2, b2, PySem.W.mg_of X G a2⟩
  have F3 := fun_mk (st := sIsName) l3 c3 k3
  have b3 := F3.binds (ps := ["text"]) fun _ _ _ _ _ _ us hl => match us, hl with | [_], _ => rfl
  have D3 : Dd K mg "is_name" sIsName ["text"] f3 _ := ⟨F3, b3, PySem.W.mg_of X G a3⟩
  have F4 := fun_mk (st := sIsAddr) l4 c4 k4
  have b4 := F4.binds (ps := ["text"]) fun _ _ _ _ _ _ us hl => match us, hl with | [_], _ => rfl
  have D4 : Dd K mg "is_address" sIsAddr ["text"] f4 _ := ⟨F4, b4, PySem.W.mg_of X G a4⟩
  have F5 := fun_mk (st := sLong) l5 c5 k5
  have b5 := F5.binds (ps := ["prefixes", "address"]) fun _ _ _ _ _ _ us hl => match us, hl with | [_, _], _ => rfl
  have D5 : Dd K mg "longest_prefix" sLong ["prefixes", "address"] f5 _ := ⟨F5, b5, PySem.W.mg_of X G a5⟩
  have F6 := fun_mk (st := sIsLane) l6 c6 k6
  have b6 := F6.binds (ps := ["text"]) fun _ _ _ _ _ _ us hl => match us, hl with | [_], _ => rfl
  have D6 : Dd K mg "_is_lane" sIsLane ["text"] f6 _ := ⟨F6, b6, PySem.W.mg_of X G a6⟩
  have F7 := fun_mk (st := sLane) l7 c7 k7
  have b7 := F7.binds (ps := ["lanes", "address"]) fun _ _ _ _ _ _ us hl => match us, hl with | [_, _], _ => rfl
  have D7 : Dd K mg "_lane" sLane ["lanes", "address"] f7 _ := ⟨F7, b7, PySem.W.mg_of X G a7⟩
  have F8 := fun_mk (st := sBag) l8 c8 k8
  have b8 := F8.binds (ps := ["script"]) fun _ _ _ _ _ _ us hl => match us, hl with | [_], _ => rfl
  have D8 : Dd K mg "_law_bag" sBag ["script"] f8 _ := ⟨F8, b8, PySem.W.mg_of X G a8⟩
  have F9 := fun_mk (st := sDraw) l9 c9 k9
  have b9 := F9.binds (ps := ["bag", "size"]) fun _ _ _ _ _ _ us hl => match us, hl with | [_, _], _ => rfl
  have D9 : Dd K mg "_law_draw" sDraw ["bag", "size"] f9 _ := ⟨F9, b9, PySem.W.mg_of X G a9⟩
  have F10 := fun_mk (st := sFresh) l10 c10 k10
  have b10 := F10.binds (ps := ["bag", "known"]) fun _ _ _ _ _ _ us hl => match us, hl with | [_, _], _ => rfl
  have D10 : Dd K mg "_law_fresh_name" sFresh ["bag", "known"] f10 _ := ⟨F10, b10, PySem.W.mg_of X G a10⟩
  have F11 := fun_mk (st := sPrefix) l11 c11 k11
  have b11 := F11.binds (ps := ["bag", "known"]) fun _ _ _ _ _ _ us hl => match us, hl with | [_, _], _ => rfl
  have D11 : Dd K mg "_law_prefix" sPrefix ["bag", "known"] f11 _ := ⟨F11, b11, PySem.W.mg_of X G a11⟩
  have F12 := fun_mk (st := sText) l12 c12 k12
  have b12 := F12.binds (ps := ["bag", "most"]) fun _ _ _ _ _ _ us hl => match us, hl with | [_, _], _ => rfl
  have D12 : Dd K mg "_law_text" sText ["bag", "most"] f12 _ := ⟨F12, b12, PySem.W.mg_of X G a12⟩
  have F13 := fun_mk (st := sLAddr) l13 c13 k13
  have b13 := F13.binds (ps := ["text"]) fun _ _ _ _ _ _ us hl => match us, hl with | [_], _ => rfl
  have D13 : Dd K mg "_law_is_address" sLAddr ["text"] f13 _ := ⟨F13, b13, PySem.W.mg_of X G a13⟩
  have F14 := fun_mk (st := sLName) l14 c14 k14
  have b14 := F14.binds (ps := ["text"]) fun _ _ _ _ _ _ us hl => match us, hl with | [_], _ => rfl
  have D14 : Dd K mg "_law_is_name" sLName ["text"] f14 _ := ⟨F14, b14, PySem.W.mg_of X G a14⟩
  have F15 := fun_mk (st := sLLane) l15 c15 k15
  have b15 := F15.binds (ps := ["own", "address"]) fun _ _ _ _ _ _ us hl => match us, hl with | [_, _], _ => rfl
  have D15 : Dd K mg "_law_lane" sLLane ["own", "address"] f15 _ := ⟨F15, b15, PySem.W.mg_of X G a15⟩
  have F16 := fun_mk (st := sLAfter) l16 c16 k16
  have b16 := F16.binds (ps := ["own", "prefix", "way"]) fun _ _ _ _ _ _ us hl => match us, hl with | [_, _, _], _ => rfl
  have D16 : Dd K mg "_law_after" sLAfter ["own", "prefix", "way"] f16 _ := ⟨F16, b16, PySem.W.mg_of X G a16⟩
  have F17 := fun_mk (st := sRowsAre) l17 c17 k17
  have b17 := F17.binds (ps := ["board", "due"]) fun _ _ _ _ _ _ us hl => match us, hl with | [_, _], _ => rfl
  have D17 : Dd K mg "_law_rows_are" sRowsAre ["board", "due"] f17 _ := ⟨F17, b17, PySem.W.mg_of X G a17⟩
  have F18 := fun_mk (st := sWays) l18 c18 k18
  have b18 := F18.binds (ps := ["bag"]) fun _ _ _ _ _ _ us hl => match us, hl with | [_], _ => rfl
  have D18 : Dd K mg "_law_ways" sWays ["bag"] f18 _ := ⟨F18, b18, PySem.W.mg_of X G a18⟩
  have F19 := fun_mk (st := sPairs) l19 c19 k19
  have b19 := F19.binds (ps := ["bag", "ways", "count"]) fun _ _ _ _ _ _ us hl => match us, hl with | [_, _, _], _ => rfl
  have D19 : Dd K mg "_law_pairs" sPairs ["bag", "ways", "count"] f19 _ := ⟨F19, b19, PySem.W.mg_of X G a19⟩
  have F20 := fun_mk (st := sAddrs) l20 c20 k20
  have b20 := F20.binds (ps := ["bag", "own"]) fun _ _ _ _ _ _ us hl => match us, hl with | [_, _], _ => rfl
  have D20 : Dd K mg "_law_addresses" sAddrs ["bag", "own"] f20 _ := ⟨F20, b20, PySem.W.mg_of X G a20⟩
  have F21 := fun_mk (st := sCalls) l21 c21 k21
  have b21 := F21.binds (ps := ["board", "own", "addresses"]) fun _ _ _ _ _ _ us hl => match us, hl with | [_, _, _], _ => rfl
  have D21 : Dd K mg "_law_calls_are" sCalls ["board", "own", "addresses"] f21 _ := ⟨F21, b21, PySem.W.mg_of X G a21⟩
  have F22 := fun_mk (st := sTableOf) l22 c22 k22
  have b22 := F22.binds (ps := ["pairs"]) fun _ _ _ _ _ _ us hl => match us, hl with | [_], _ => rfl
  have D22 : Dd K mg "_law_table_of" sTableOf ["pairs"] f22 _ := ⟨F22, b22, PySem.W.mg_of X G a22⟩
  have F23 := fun_mk (st := sRowMore) l23 c23 k23
  have b23 := F23.binds (ps := ["bag", "pairs", "ways", "kind"]) fun _ _ _ _ _ _ us hl => match us, hl with | [_, _, _, _], _ => rfl
  have D23 : Dd K mg "_law_row_more" sRowMore ["bag", "pairs", "ways", "kind"] f23 _ := ⟨F23, b23, PySem.W.mg_of X G a23⟩
  have F24 := fun_mk (st := sLChanged) l24 c24 k24
  have b24 := F24.binds (ps := ["board", "prefix", "way"]) fun _ _ _ _ _ _ us hl => match us, hl with | [_, _, _], _ => rfl
  have D24 : Dd K mg "_law_changed" sLChanged ["board", "prefix", "way"] f24 _ := ⟨F24, b24, PySem.W.mg_of X G a24⟩
  have F25 := fun_mk (st := sHold) l25 c25 k25
  have b25 := F25.binds (ps := ["bag", "board", "own", "ways"]) fun _ _ _ _ _ _ us hl => match us, hl with | [_, _, _, _], _ => rfl
  have D25 : Dd K mg "_law_changes_hold" sHold ["bag", "board", "own", "ways"] f25 _ := ⟨F25, b25, PySem.W.mg_of X G a25⟩
  have F26 := fun_mk (st := sWritten) l26 c26 k26
  have b26 := F26.binds (ps := ["form", "one", "two", "three"]) fun _ _ _ _ _ _ us hl => match us, hl with | [_, _, _, _], _ => rfl
  have D26 : Dd K mg "_law_written" sWritten ["form", "one", "two", "three"] f26 _ := ⟨F26, b26, PySem.W.mg_of X G a26⟩
  have F27 := fun_mk (st := sWWrong) l27 c27 k27
  have b27 := F27.binds (ps := ["form", "one", "two"]) fun _ _ _ _ _ _ us hl => match us, hl with | [_, _, _], _ => rfl
  have D27 : Dd K mg "_law_written_wrong" sWWrong ["form", "one", "two"] f27 _ := ⟨F27, b27, PySem.W.mg_of X G a27⟩
  have F28 := fun_mk (st := sLaw) l28 c28 k28
  have FmI := fun_mk (st := sTInit) lmI cmI kmI
  have bmI := FmI.binds (ps := ["self", "rows"]) fun _ _ _ _ _ _ us hl => match us, hl with | [_, _], _ => rfl
  have FmC := fun_mk (st := sTCall) lmC cmC kmC
  have bmC := FmC.binds (ps := ["self", "address"]) fun _ _ _ _ _ _ us hl => match us, hl with | [_, _], _ => rfl
  have FmL := fun_mk (st := sTLen) lmL cmL kmL
  have bmL := FmL.binds (ps := ["self"]) fun _ _ _ _ _ _ us hl => match us, hl with | [_], _ => rfl
  have FmR := fun_mk (st := sTRows) lmR cmR kmR
  have bmR := FmR.binds (ps := ["self"]) fun _ _ _ _ _ _ us hl => match us, hl with | [_], _ => rfl
  have FmX := fun_mk (st := sTChanged) lmX cmX kmX
  have bmX := FmX.binds (ps := ["self", "prefix", "lane"]) fun _ _ _ _ _ _ us hl => match us, hl with | [_, _, _], _ => rfl
  have FmW := fun_mk (st := sTWritten) lmW cmW kmW
  have FmV := fun_mk (st := sInv) lmV cmV kmV
  have bmV := FmV.binds (ps := ["self", "what"]) fun _ _ _ _ _ _ us hl => match us, hl with | [_, _], _ => rfl
  have FmU := fun_mk (st := sUnk) lmU cmU kmU
  have bmU := FmU.binds (ps := ["self", "name"]) fun _ _ _ _ _ _ us hl => match us, hl with | [_, _], _ => rfl
  have B : Blt mg := ⟨PySem.W.mg_none_of X G z1, PySem.W.mg_none_of X G z2, PySem.W.mg_none_of X G z3, PySem.W.mg_none_of X G z4, PySem.W.mg_none_of X G z5, PySem.W.mg_none_of X G z6, PySem.W.mg_none_of X G z7, PySem.W.mg_none_of X G z8, PySem.W.mg_none_of X G z9, PySem.W.mg_none_of X G z10, PySem.W.mg_none_of X G z11, ⟨_, PySem.W.mg_of X G gDG⟩, ⟨_, PySem.W.mg_of X G gLT⟩, ⟨_, PySem.W.mg_of X G gHR⟩⟩
  have RI : EInv K mg CI mV _ := ⟨⟨⟨⟨_, _, _, _, _, _, _, _, _, _, _, _, _, _, _, xIl, xIv⟩, xIs, xIe, xIt, xIk⟩, ⟨xIg, xIa, xIe, xIh⟩, xIn, xIi, xIy, cls_some xIh, xIo, xIm, oHn, oTk⟩, ⟨FmV, bmV⟩, PySem.W.mg_of X G aI⟩
  have RU : EUnk K mg CU mU _ := ⟨⟨⟨⟨_, _, _, _, _, _, _, _, _, _, _, _, _, _, _, xUl, xUv⟩, xUs, xUe, xUt, xUk⟩, ⟨xUg, xUa, xUe, xUh⟩, xUn, xUi, xUy, cls_some xUh, xUo, xUm, oHn, oTk⟩, ⟨FmU, bmU⟩, PySem.W.mg_of X G aU⟩
  have RE : Errs K mg CI mV _ CU mU _ CP := ⟨RI, RU, PySem.W.mg_of X G aP, PySem.W.mg_none_of X G z12, kit_t (kit_refC pHd pTy sIP), kit_t (kit_tyC rfl sIV), kit_f nIU (kit_refC xUh xUt sIU), PySem.W.exm_ref xIe xIh xIt sII, PySem.W.exm_ref xUe xUh xUt sUU, PySem.W.exm_ref xIe xIh xIt sUI⟩
  have TC : TCls K C := ⟨⟨tPg, tHd, tPo, tSa⟩, tNo⟩
  have SM : SMet K C mc "written" pW mW := ⟨tRd, tGa, tW, ⟨_, tWr⟩, kmW⟩
  refine ⟨PySem.W.fnOf "law" "law" (defArgs sLaw) (defBody sLaw) (defScope sLaw) .none kV28 dc28 pm28 an28 cd28 ct28, fun s v => .of_eq rfl, fun base _ _ => ?_⟩
  have GIA : FnOk l.prog w K mg base CX0 3 _ _ ["text"] (spT isAddr) := ok_isAddr D4.F D2 D1 B
  have GIL : FnOk l.prog w K mg base CX0 3 _ _ ["text"] (spT isLane) := ok_isLane D6.F D3 D1 B
  have GLn : FnOk l.prog w K mg base CX0 2 _ _ ["lanes", "address"] (spDA laneV) := ok_lane D7.F D5 B
  have GMI : FnOk l.prog w K mg base (L2.CX l.prog w) 4 mI _ ["self", "rows"] (spInit C CI) := ok_init FmI B TC RI D4 GIA D6 GIL
  have MK : Mk K C mI := ⟨tMk, tI, nmI, tKp⟩
  have TK : TabK l.prog w K mg base C CI CU := ⟨TC, PySem.W.mg_of X G aT, ⟨TC.c, tHa, oHn, oTk, tMr, if_pos (beq_self_eq_true _)⟩, ⟨_, _, MK, bmI, GMI⟩, ⟨_, _, _, ⟨tR, tRg, tRt, ⟨_, tRr⟩⟩, bmR, ok_trows FmR B TC⟩, ⟨_, _, tL, nmL, bmL, ok_tlen FmL B TC⟩, ⟨_, _, ⟨tC, nmC, fnC⟩, bmC, ok_tcall FmC D7 GLn TC⟩, ⟨_, _, ⟨tX, nmX, kmX⟩, bmX, ok_tchanged FmX B TC RI RU D4 GIA MK (PySem.W.mg_of X G aT) bmI GMI⟩⟩
  have FW : FnKw l.prog w K mg base (L2.CX l.prog w) 6 mW okW (spWr C CI) := ok_wr FmW B (PySem.W.mg_none_of X G z10) TK RI
  have rm : RmD l.prog w K mg base C := ⟨⟨_, _, D9⟩, ⟨_, _, D11⟩, ⟨_, _, D12⟩, ⟨_, _, D4, GIA⟩, ⟨_, _, D13⟩, ⟨_, _, D14⟩, ⟨_, _, D22, ok_tableOf D22.F B TK RE⟩, ⟨_, _, D17, ok_rowsAre D17.F B TK⟩⟩
  have ho : HoD l.prog w K mg base C := ⟨rm, ⟨_, _, D24, ok_lchanged D24.F TK RE⟩, ⟨_, _, D16⟩, ⟨_, _, D21, ok_calls D21.F D15 B TK⟩⟩
  exact ok_law F28 B TK ⟨ho, ⟨_, _, D8⟩, ⟨_, _, D10⟩, ⟨_, _, D18⟩, ⟨_, _, D19⟩, ⟨_, _, D20⟩, ⟨_, _, D23⟩, ⟨_, _, D25⟩, ⟨_, _, D26, ok_written D26.F B TK SM FW⟩, ⟨_, _, D27, ok_wwrong D27.F B TK RE SM FW⟩⟩
end Tb
open PySem PySem.W PyProof.Rows
set_option maxRecDepth 100000 in
set_option maxHeartbeats 0 in
theorem PySem.Challenge.cw_everyparcel_k04_lane_of_the_longest_pref_holds : PySem.Challenge.rw_everyparcel_k04_lane_of_the_longest_pref.Holds := by
  w_on; o_law; k_head; (case hw => w_witness2)
  k_fill
  refine L2.walk_of (l := PySem.Challenge.rw_everyparcel_k04_lane_of_the_longest_pref) (n := 63) (k := 9) (x := "script") (CX := fun _ => L2.CX0) (sp := fun w => Tb.spLaw _) rfl (by decide) rfl ⟨rfl, by decide, by decide⟩ (fun w h Y => PySem.W.kIn_of Y) ?F (fun _ _ a ns hl _ hS => ⟨a, ns, rfl, hS, fun _ => rfl⟩) (fun _ _ _ _ _ h => h)
  case F =>
    intro w mg fa h KX G hmg
    refine' Tb.all_mk KX G hmg ?a1 ?l1 ?c1 ?k1 ?a2 ?l2 ?c2 ?k2 ?a3 ?l3 ?c3 ?k3 ?a4 ?l4 ?c4 ?k4 ?a5 ?l5 ?c5 ?k5 ?a6 ?l6 ?c6 ?k6 ?a7 ?l7 ?c7 ?k7 ?a8 ?l8 ?c8 ?k8 ?a9 ?l9 ?c9 ?k9 ?a10 ?l10 ?c10 ?k10 ?a11 ?l11 ?c11 ?k11 ?a12 ?l12 ?c12 ?k12 ?a13 ?l13 ?c13 ?k13 ?a14 ?l14 ?c14 ?k14 ?a15 ?l15 ?c15 ?k15 ?a16 ?l16 ?c16 ?k16 ?a17 ?l17 ?c17 ?k17 ?a18 ?l18 ?c18 ?k18 ?a19 ?l19 ?c19 ?k19 ?a20 ?l20 ?c20 ?k20 ?a21 ?l21 ?c21 ?k21 ?a22 ?l22 ?c22 ?k22 ?a23 ?l23 ?c23 ?k23 ?a24 ?l24 ?c24 ?k24 ?a25 ?l25 ?c25 ?k25 ?a26 ?l26 ?c26 ?k26 ?a27 ?l27 ?c27 ?k27 ?a28 ?l28 ?c28 ?k28 ?z1 ?z2 ?z3 ?z4 ?z5 ?z6 ?z7 ?z8 ?z9 ?z10 ?z11 ?z12 ?gDG ?gLT ?gHR ?aT ?aI ?aU ?aP ?tI ?tC ?tL ?tX ?tR ?tRg ?tRt ?tRr ?tTy ?tRd ?tGa ?tW ?tWr ?tPg ?tHd ?tPo ?tSa ?tNo ?tMk ?tKp ?tHa ?tMr ?oHn ?oTk ?xIl ?xIv ?xIi ?xIs ?xIe ?xIt ?xIk ?xIg ?xIa ?xIh ?xIn ?xIy ?xIo ?xIm ?xUl ?xUv ?xUi ?xUs ?xUe ?xUt ?xUk ?xUg ?xUa ?xUh ?xUn ?xUy ?xUo ?xUm ?pHd ?pTy ?sIP ?sIV ?sIU ?sII ?sUU ?sUI ?nIU ?lmI ?cmI ?kmI ?nmI ?lmC ?cmC ?kmC ?nmC ?lmL ?cmL ?kmL ?nmL ?lmR ?cmR ?kmR ?nmR ?lmX ?cmX ?kmX ?nmX ?lmW ?cmW ?kmW ?nmW ?lmV ?cmV ?kmV ?nmV ?lmU ?cmU ?kmU ?nmU ?fnC
    (case a1 => k_is); (case l1 => k_is); (case c1 => k_is); (case k1 => k_is); (case a2 => k_is); (case l2 => k_is)
    (case c2 => k_is); (case k2 => k_is); (case a3 => k_is); (case l3 => k_is); (case c3 => k_is); (case k3 => k_is)
    (case a4 => k_is); (case l4 => k_is); (case c4 => k_is); (case k4 => k_is); (case a5 => k_is); (case l5 => k_is)
    (case c5 => k_is); (case k5 => k_is); (case a6 => k_is); (case l6 => k_is); (case c6 => k_is); (case k6 => k_is)
    (case a7 => k_is); (case l7 => k_is); (case c7 => k_is); (case k7 => k_is); (case a8 => k_is); (case l8 => k_is)
    (case c8 => k_is); (case k8 => k_is); (case a9 => k_is); (case l9 => k_is); (case c9 => k_is); (case k9 => k_is)
    (case a10 => k_is); (case l10 => k_is); (case c10 => k_is); (case k10 => k_is); (case a11 => k_is); (case l11 => k_is)
    (case c11 => k_is); (case k11 => k_is); (case a12 => k_is); (case l12 => k_is); (case c12 => k_is); (case k12 => k_is)
    (case a13 => k_is); (case l13 => k_is); (case c13 => k_is); (case k13 => k_is); (case a14 => k_is); (case l14 => k_is)
    (case c14 => k_is); (case k14 => k_is); (case a15 => k_is); (case l15 => k_is); (case c15 => k_is); (case k15 => k_is)
    (case a16 => k_is); (case l16 => k_is); (case c16 => k_is); (case k16 => k_is); (case a17 => k_is); (case l17 => k_is)
    (case c17 => k_is); (case k17 => k_is); (case a18 => k_is); (case l18 => k_is); (case c18 => k_is); (case k18 => k_is)
    (case a19 => k_is); (case l19 => k_is); (case c19 => k_is); (case k19 => k_is); (case a20 => k_is); (case l20 => k_is)
    (case c20 => k_is); (case k20 => k_is); (case a21 => k_is); (case l21 => k_is); (case c21 => k_is); (case k21 => k_is)
    (case a22 => k_is); (case l22 => k_is); (case c22 => k_is); (case k22 => k_is); (case a23 => k_is); (case l23 => k_is)
    (case c23 => k_is); (case k23 => k_is); (case a24 => k_is); (case l24 => k_is); (case c24 => k_is); (case k24 => k_is)
    (case a25 => k_is); (case l25 => k_is); (case c25 => k_is); (case k25 => k_is); (case a26 => k_is); (case l26 => k_is)
    (case c26 => k_is); (case k26 => k_is); (case a27 => k_is); (case l27 => k_is); (case c27 => k_is); (case k27 => k_is)
    (case a28 => k_is); (case l28 => k_is); (case c28 => k_is); (case k28 => k_is); (case z1 => k_is); (case z2 => k_is)
    (case z3 => k_is); (case z4 => k_is); (case z5 => k_is); (case z6 => k_is); (case z7 => k_is); (case z8 => k_is)
    (case z9 => k_is); (case z10 => k_is); (case z11 => k_is); (case z12 => k_is); (case gDG => k_is); (case gLT => k_is)
    (case gHR => k_is); (case aT => k_is); (case aI => k_is); (case aU => k_is); (case aP => k_is); (case tI => k_is)
    (case tC => k_is); (case tL => k_is); (case tX => k_is); (case tR => k_is); (case tRg => k_is); (case tRt => k_is)
    (case tRr => k_is); (case tTy => k_is); (case tRd => k_is); (case tGa => k_is); (case tW => k_is); (case tWr => k_is)
    (case tPg => k_is); (case tHd => k_is); (case tPo => k_is); (case tSa => k_is); (case tNo => k_is); (case tMk => k_is)
    (case tKp => k_is); (case tHa => k_is); (case tMr => k_is); (case oHn => k_is); (case oTk => k_is); (case xIl => k_is)
    (case xIv => first | rfl | decide +kernel); (case xIi => k_is); (case xIs => k_is); (case xIe => k_is); (case xIt => k_is); (case xIk => k_is)
    (case xIg => k_is); (case xIa => k_is); (case xIh => k_is); (case xIn => k_is); (case xIy => k_is); (case xIo => k_is)
    (case xIm => k_is); (case xUl => k_is); (case xUv => first | rfl | decide +kernel); (case xUi => k_is); (case xUs => k_is); (case xUe => k_is)
    (case xUt => k_is); (case xUk => k_is); (case xUg => k_is); (case xUa => k_is); (case xUh => k_is); (case xUn => k_is)
    (case xUy => k_is); (case xUo => k_is); (case xUm => k_is); (case pHd => k_is); (case pTy => k_is); (case sIP => k_is)
    (case sIV => k_is); (case sIU => k_is); (case sII => k_is); (case sUU => k_is); (case sUI => k_is); (case nIU => first | rfl | decide +kernel)
    (case lmI => k_is); (case cmI => k_is); (case kmI => k_is); (case nmI => k_is); (case lmC => k_is); (case cmC => k_is)
    (case kmC => k_is); (case nmC => k_is); (case lmL => k_is); (case cmL => k_is); (case kmL => k_is); (case nmL => k_is)
    (case lmR => k_is); (case cmR => k_is); (case kmR => k_is); (case nmR => k_is); (case lmX => k_is); (case cmX => k_is)
    (case kmX => k_is); (case nmX => k_is); (case lmW => k_is); (case cmW => k_is); (case kmW => k_is); (case nmW => k_is)
    (case lmV => k_is); (case cmV => k_is); (case kmV => k_is); (case nmV => k_is); (case lmU => k_is); (case cmU => k_is)
    (case kmU => k_is); (case nmU => k_is); (case fnC => k_is)
#print axioms PySem.Challenge.cw_everyparcel_k04_lane_of_the_longest_pref_holds

