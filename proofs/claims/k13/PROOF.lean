import PyProof.Rows.All
import Wide.All
import OpenK.AllK
import Wide.FinOn
import HandS.ForMost
import HandS.Wide
import HandS.StrMore
import HandS.IsInst
import HandS.Codes
import HandS.Walk
import HandS.More
import HandS.Conv
import HandS.DictComp
import HandS.ListItems
import HandS.Property
import HandS.Star
import HandS.Exc
import HandS.TryOnly
import HandS.TryMany
import HandS.ExcOwn
import HandS.WordsExc
import HandS.ExcInit
import HandS.ExcField
import HandS.ExcIs
import HandS.RaiseMore
import HandS.Zip
import HandS.Defaults
import HandS.Style
import PySem.Challenge.RW_everyparcel_k13_whole_origin_papers
set_option Elab.async false
set_option linter.all false
set_option maxRecDepth 100000
namespace Tb
open PySem PySem.Spec PyProof.Rows L2
def topS (i : Nat) : Stmt := PySem.Challenge.pw_everyparcel_k13_whole_origin_papers.main.body.getD i (.Pass ⟨0, 0, 0, 0⟩)
abbrev sMof : Stmt := topS 6
abbrev sSpells : Stmt := topS 7
abbrev sIsName : Stmt := topS 9
abbrev sIsAddr : Stmt := topS 11
/-- a def of the text: it stands, its arguments bind, its global is it -/
structure Dd (K : PySem.W.Frag) (mg : Str → Option Value) (x : Str) (st : Stmt) (ps : List Str) (f : Addr) (fd : FuncData) : Prop where
  F : Fun K x x st f fd
  b : Binds K fd ps []
  g : mg x = some (.ref f)
/-- the globals that are the built-ins, and the two texts -/
structure Blt (mg : Str → Option Value) : Prop where
  len : mg "len" = none
  int : mg "int" = none
  str : mg "str" = none
  list : mg "list" = none
  tuple : mg "tuple" = none
  bool : mg "bool" = none
  range : mg "range" = none
  all : mg "all" = none
  isi : mg "isinstance" = none
  zip : mg "zip" = none
  sum : mg "sum" = none
  max : mg "max" = none
  dg : ∃ t, mg "DIGITS" = some (.str ("0123456789" : String) t)
  lt : ∃ t, mg "LETTERS" = some (.str ("abcdefghijklmnopqrstuvwxyz" : String) t)
theorem sqOf {K : PySem.W.Frag} {H : Hp} {p : Addr} {xs : List V} (h : H p = some (.lst xs)) : SqL K H p xs := .inl (.inl h)
theorem same_upd {H : Hp} {p : Addr} {o : HO} (h : H p = none) : Same H (upd H p o) := fun b x e => by
  rw [upd_ne (ne_of_none e h)]
  exact e
def digits : Str := ("0123456789" : String)
def letters : Str := ("abcdefghijklmnopqrstuvwxyz" : String)
/-- a module's name that holds a text -/
theorem pe_txt {X : Cx} {x z : Str} {pos : Pos} (hg : Gl X x) (h : ∃ t, X.mg x = some (.str z t)) (hd : (x == ("__debug__" : Str)) = false := by decide) : PE X (.Name x pos) (tC (.str z)) := by
  obtain ⟨t, h⟩ := h
  exact pe_glob hg h (show RelV (.str z) (.str z t) from ⟨t, rfl⟩) hd
/-! ### the mirrors -/
def isIn (signs : Str) (c : Nat) : Bool := decide (c ∈ signs.cps.toList)
def made (t signs : Str) (most : Int) : Bool := decide (1 ≤ (t.length : Int)) && decide ((t.length : Int) ≤ most) && t.cps.toList.all (isIn signs)
def isAddr (t : Str) : Bool := made t digits 8
def isName (t : Str) : Bool := made t (letters ++ digits) 12 && (match t.cps[0]? with | some c => isIn letters c | none => false)
section
variable {P : Program} {w : World} {K : PySem.W.Frag} {mg : Str → Option Value} {base : Heap}
theorem scMof : FnScope ["text", "signs", "most", "sign"] ["text", "signs", "most"] (defScope sMof) := ⟨rfl, rfl, rfl, by decide +kernel, rfl, by decide +kernel, by decide +kernel⟩
def spMade : Sp := fun vs H Q _ => ∃ (t signs : Str) (most : Int), vs = [.str t, .str signs, .int most] ∧ t.length ≤ 1000 ∧ ∀ H', Same H H' → Q (.bl (made t signs most)) H'
theorem ok_made {f : Addr} {fd : FuncData} {k : Nat} (F : Fun K "made_of" "made_of" sMof f fd) (B : Blt mg) : FnOk P w K mg base CX0 (k + 1) f fd ["text", "signs", "most"] spMade := by
  refine F.ok scMof (fun vs H Q E h => ?_) (fun cdv A outer s H vs Q E hr h => ?_)
  · obtain ⟨t, sg, m, rfl, _⟩ := h
    rfl
  · obtain ⟨t, sg, m, rfl, hl, q⟩ := h
    refine ⟨_, pss_one (ps_ret (pe_and (pe_chain op_le op_le pe_int (pe_callB call_len_str (by rfl) B.len PySem.boot_len (pa_cons (pv 0) pa_nil)) (pv 2))
      (pe_one (pe_callB (cr_all rfl) (by rfl) B.all (by decide +kernel) (pa_cons (pe_lc (own := [("sign", 3)]) (g := gName 3) (by rfl) scMof.nd (pi_str (pv 0)) (blkOk_by (N := ["text", "signs", "most", "sign"]) (sc := defScope sMof) (by decide +kernel)) (fun _ _ _ _ _ => pg_name (i := 3) scMof.nd rfl (Or.inl rfl)) (fun _ _ _ _ _ => pts_nil) (fun _ _ _ _ _ => pe_cmpR op_in_sign (pv 3) (pv 1) (by rfl))) pa_nil))))), ?_⟩
    refine ⟨.str t, rfl, t, rfl, Nat.le_trans hl (by decide), 1, (t.length : Int), rfl, rfl, _, rfl, ?_⟩
    have h0 : ∀ c : Bool, c = false → Q (.bl c) H → made t sg m = false → Q (.bl (made t sg m)) H := fun c e q e2 => by rw [e2, ← e]; exact q
    refine ite2 (fun e1 => ?_) (fun e1 => ?_)
    · refine ⟨.int m, rfl, (t.length : Int), m, rfl, rfl, _, rfl, ite2 (fun e2 => ?_) (fun e2 => ?_)⟩
      · refine ⟨.str t, rfl, t, rfl, fun D nD => lc_it (walk_str (z := t)) (fun i H' => Same H H' ∧ H' D = some (.lst (((t.cps.toList.take i).map (isIn sg)).map V.bl))) ⟨same_upd nD, upd_same⟩ (fun _ _ _ _ => trivial) (fun i x H1 H2 hi hP hy => ?_) (fun H1 hP => ?_)⟩
        · obtain ⟨hS, hD⟩ := hP
          obtain ⟨rfl, c, hc, rfl⟩ := hy
          refine ⟨rfl, ?_⟩
          have hi' : i < t.cps.toList.length := by rw [Array.length_toList]; exact hi
          have hc' : t.cps.toList[i]? = some c := by rw [Array.getElem?_toList]; exact hc
          refine ⟨_, rfl, .str sg, rfl, c, sg, rfl, rfl, _, hD, ?_, ?_, ?_⟩
          · rw [List.length_map, List.length_map, List.length_take, Array.length_toList]
            exact small1000 (Nat.le_trans (Nat.min_le_right _ _) hl)
          · intro b o hb
            rw [upd_ne (ne_of_none hb nD)]
            exact hS _ _ hb
          · rw [upd_same, List.take_add_one, hc', List.map_append, List.map_append]
            rfl
        · obtain ⟨hS, hD⟩ := hP
          refine ⟨D, (t.cps.toList.map (isIn sg)), rfl, sqOf (by rw [hD, ← Array.length_toList, List.take_length]), ?_⟩
          have e : (t.cps.toList.map (isIn sg)).all id = made t sg m := by
            unfold made
            rw [of_decide_eq_true e1 |> decide_eq_true, of_decide_eq_true e2 |> decide_eq_true, List.all_map]
            rfl
          rw [e]
          exact q _ hS
      · have e : made t sg m = false := by
          unfold made
          rw [Bool.eq_false_iff.mpr e2, Bool.and_false, Bool.false_and]
        have := q H (Same.refl _)
        rw [e] at this
        exact this
    · have e : made t sg m = false := by
        unfold made
        rw [Bool.eq_false_iff.mpr e1, Bool.false_and, Bool.false_and]
      have := q H (Same.refl _)
      rw [e] at this
      exact ⟨false, rfl, this⟩
theorem scSpells : FnScope ["text"] ["text"] (defScope sSpells) := ⟨rfl, rfl, rfl, by decide +kernel, rfl, by decide +kernel, by decide +kernel⟩
theorem scIsName : FnScope ["text"] ["text"] (defScope sIsName) := ⟨rfl, rfl, rfl, by decide +kernel, rfl, by decide +kernel, by decide +kernel⟩
theorem scIsAddr : FnScope ["text"] ["text"] (defScope sIsAddr) := ⟨rfl, rfl, rfl, by decide +kernel, rfl, by decide +kernel, by decide +kernel⟩
/-- one text in, a bool out -/
def spT (g : Str → Bool) : Sp := fun vs H Q _ => ∃ (t : Str), vs = [.str t] ∧ t.length ≤ 1000 ∧ ∀ H', Same H H' → Q (.bl (g t)) H'
theorem ok_spells {f g : Addr} {fd gd : FuncData} (F : Fun K "spells_address" "spells_address" sSpells f fd) (D : Dd K mg "made_of" sMof ["text", "signs", "most"] g gd) (B : Blt mg) : FnOk P w K mg base CX0 2 f fd ["text"] (spT isAddr) := by
  have G : FnOk P w K mg base CX0 1 g gd ["text", "signs", "most"] spMade := ok_made D.F B
  refine F.ok scSpells (fun vs H Q E h => ?_) (fun cdv A outer s H vs Q E hr h => ?_)
  · obtain ⟨t, rfl, _⟩ := h
    rfl
  · obtain ⟨t, rfl, hl, q⟩ := h
    refine ⟨_, pss_one (ps_ret (pe_call G hr (by rfl) D.g D.F.kp D.b .nil pass0 (pa_cons (pv 0) (pa_cons (pe_txt (by rfl) B.dg) (pa_cons pe_int pa_nil))))), ?_⟩
    exact ⟨.str t, rfl, t, digits, 8, rfl, hl, q⟩
theorem ok_isAddr {f g g2 : Addr} {fd gd gd2 : FuncData} (F : Fun K "is_address" "is_address" sIsAddr f fd) (D : Dd K mg "spells_address" sSpells ["text"] g gd) (D2 : Dd K mg "made_of" sMof ["text", "signs", "most"] g2 gd2) (B : Blt mg) : FnOk P w K mg base CX0 3 f fd ["text"] (spT isAddr) := by
  have G : FnOk P w K mg base CX0 2 g gd ["text"] (spT isAddr) := ok_spells D.F D2 B
  refine F.ok scIsAddr (fun vs H Q E h => ?_) (fun cdv A outer s H vs Q E hr h => ?_)
  · obtain ⟨t, rfl, _⟩ := h
    rfl
  · obtain ⟨t, rfl, hl, q⟩ := h
    refine ⟨_, pss_one (ps_ret (pe_call G hr (by rfl) D.g D.F.kp D.b .nil pass0 (pa_cons (pv 0) pa_nil))), ?_⟩
    exact ⟨.str t, rfl, t, rfl, hl, q⟩
theorem ok_isName {f g : Addr} {fd gd : FuncData} (F : Fun K "is_name" "is_name" sIsName f fd) (D : Dd K mg "made_of" sMof ["text", "signs", "most"] g gd) (B : Blt mg) : FnOk P w K mg base CX0 2 f fd ["text"] (spT isName) := by
  have G : FnOk P w K mg base CX0 1 g gd ["text", "signs", "most"] spMade := ok_made D.F B
  refine F.ok scIsName (fun vs H Q E h => ?_) (fun cdv A outer s H vs Q E hr h => ?_)
  · obtain ⟨t, rfl, _⟩ := h
    rfl
  · obtain ⟨t, rfl, hl, q⟩ := h
    refine ⟨_, pss_one (ps_ret (pe_and (pe_call G hr (by rfl) D.g D.F.kp D.b .nil pass0 (pa_cons (pv 0) (pa_cons (pe_op op_add_str (pe_txt (by rfl) B.lt) (pe_txt (by rfl) B.dg)) (pa_cons pe_int pa_nil))))
      (pe_one (pe_cmpR op_in_sign (pe_item_str (pv 0) pe_int (fun _ _ => rfl)) (pe_txt (by rfl) B.lt) (by rfl))))), ?_⟩
    refine ⟨.str t, rfl, _, _, rfl, rfl, by decide +kernel, t, letters ++ digits, 12, rfl, hl, fun H1 S1 => ⟨_, rfl, ite2 (fun e => ?_) (fun e => ?_)⟩⟩
    · have e' : (decide (1 ≤ (t.length : Int)) && decide ((t.length : Int) ≤ 12) && t.cps.toList.all (isIn (letters ++ digits))) = true := e
      rw [Bool.and_eq_true, Bool.and_eq_true] at e'
      have h1 : 1 ≤ (t.length : Int) := of_decide_eq_true e'.1.1
      have h2 : 0 < t.cps.size := by
        show 0 < t.length
        omega
      have hc : t.cps[0]? = some t.cps[0] := Array.getElem?_eq_getElem h2
      refine ⟨.str t, rfl, t, 0, t.cps[0], rfl, rfl, by decide, by decide, by omega, hc, t.cps[0], letters, rfl, rfl, ?_⟩
      have en : isName t = decide (t.cps[0] ∈ letters.cps.toList) := by
        unfold isName
        rw [show made t (letters ++ digits) 12 = true from e, hc, Bool.true_and]
        rfl
      rw [← en]
      exact q _ S1
    · have en : isName t = false := by
        unfold isName
        rw [show made t (letters ++ digits) 12 = false from Bool.eq_false_iff.mpr e, Bool.false_and]
      have := q _ S1
      rw [en] at this
      exact this
end
end Tb
namespace Tb
open PySem PySem.Spec PyProof.Rows L2
/-! ### texts by their signs -/
abbrev tl (z : Str) : List Nat := z.cps.toList
theorem len_tl (z : Str) : z.length = (tl z).length := (Array.length_toList).symm
theorem tl_one (c : Nat) : tl ⟨#[c]⟩ = [c] := rfl
theorem tl_app (a b : Str) : tl (a ++ b) = tl a ++ tl b := by
  show (a.cps ++ b.cps).toList = _
  rw [Array.toList_append]
theorem tl_hi (z : Str) (k : Nat) : tl (cutS z none (some (k : Int))) = (tl z).take k := by
  show ((z.cps.toList.drop (HT.sIx z.length 0 none)).take (HT.sIx z.length z.length (some (k : Int)) - HT.sIx z.length 0 none)).toArray.toList = _
  rw [List.toList_toArray, HT.sIx_nat, HT.sIx_none, List.drop_zero, Nat.sub_zero]
  by_cases h : k ≤ z.length
  · rw [Nat.min_eq_left h]
  · have : z.cps.toList.length = z.length := Array.length_toList
    rw [Nat.min_eq_right (by omega), ← this, List.take_length, List.take_of_length_le (by show z.cps.toList.length ≤ k; omega)]
theorem tl_lo (z : Str) (k : Nat) : tl (cutS z (some (k : Int)) none) = (tl z).drop k := by
  show ((z.cps.toList.drop (HT.sIx z.length 0 (some (k : Int)))).take (HT.sIx z.length z.length none - HT.sIx z.length 0 (some (k : Int)))).toArray.toList = _
  have e0 : z.cps.toList.length = z.length := Array.length_toList
  have e1 : HT.sIx z.length 0 (some (k : Int)) = min k z.length := HT.sIx_nat _ _ _
  rw [List.toList_toArray, e1, HT.sIx_none]
  have e2 : z.cps.toList.drop (min k z.length) = z.cps.toList.drop k := by
    by_cases h : k ≤ z.length
    · rw [Nat.min_eq_left h]
    · rw [Nat.min_eq_right (by omega), List.drop_eq_nil_of_le (by omega), List.drop_eq_nil_of_le (by omega)]
  rw [e2, List.take_of_length_le (by rw [List.length_drop]; omega)]
theorem tl_inj {a b : Str} (h : tl a = tl b) : a = b := by
  cases a; cases b
  congr 1
  exact Array.ext' h
def Sg (z : Str) : Prop := ∀ c ∈ tl z, c < 1114112
structure Tx (z : Str) : Prop where
  len : z.length ≤ 100
  sg : Sg z
def Nm (l : List Nat) : Prop := l.length ≤ 12 ∧ (∀ d ∈ l, isIn (letters ++ digits) d = true) ∧ ∃ c, l[0]? = some c ∧ isIn letters c = true
def Ad (l : List Nat) : Prop := 1 ≤ l.length ∧ l.length ≤ 8 ∧ ∀ d ∈ l, isIn digits d = true
theorem isName_iff (t : Str) : isName t = true ↔ Nm (tl t) := by
  have e0 : t.cps.toList.length = t.length := Array.length_toList
  unfold isName made Nm
  rw [Bool.and_eq_true, Bool.and_eq_true, Bool.and_eq_true, List.all_eq_true, decide_eq_true_eq, decide_eq_true_eq, ← Array.getElem?_toList]
  constructor
  · rintro ⟨⟨⟨h1, h2⟩, h3⟩, h4⟩
    refine ⟨by show t.cps.toList.length ≤ 12; omega, h3, ?_⟩
    cases e : t.cps.toList[0]? with
    | none => rw [e] at h4; cases h4
    | some c => rw [e] at h4; exact ⟨c, rfl, h4⟩
  · rintro ⟨h1, h2, c, h3, h4⟩
    have h1 : t.cps.toList.length ≤ 12 := h1
    have h3 : t.cps.toList[0]? = some c := h3
    have := (List.getElem?_eq_some_iff.mp h3).1
    rw [h3]
    exact ⟨⟨⟨by omega, by omega⟩, h2⟩, h4⟩
theorem isAddr_iff (t : Str) : isAddr t = true ↔ Ad (tl t) := by
  have e0 : t.cps.toList.length = t.length := Array.length_toList
  unfold isAddr made Ad
  rw [Bool.and_eq_true, Bool.and_eq_true, List.all_eq_true, decide_eq_true_eq, decide_eq_true_eq]
  constructor
  · rintro ⟨⟨h1, h2⟩, h3⟩
    exact ⟨by show 1 ≤ t.cps.toList.length; omega, by show t.cps.toList.length ≤ 8; omega, h3⟩
  · rintro ⟨h1, h2, h3⟩
    have h1 : 1 ≤ t.cps.toList.length := h1
    have h2 : t.cps.toList.length ≤ 8 := h2
    exact ⟨⟨by omega, by omega⟩, h3⟩
theorem in_lt {s : Str} (hs : (tl s).all (fun c => decide (c < 1114112)) = true) {c : Nat} (h : isIn s c = true) : c < 1114112 :=
  of_decide_eq_true (List.all_eq_true.mp hs c (of_decide_eq_true h))
theorem nm_tx {t : Str} (h : Nm (tl t)) : Tx t :=
  ⟨by rw [len_tl]; have := h.1; omega, fun c hc => in_lt (by decide +kernel) (h.2.1 c hc)⟩
theorem ad_tx {t : Str} (h : Ad (tl t)) : Tx t :=
  ⟨by rw [len_tl]; have := h.2.1; omega, fun c hc => in_lt (by decide +kernel) (h.2.2 c hc)⟩
/-- a sign put in the place -/
def rep (l : List Nat) (s d : Nat) : List Nat := l.take s ++ [d] ++ l.drop (s + 1)
theorem rep_len {l : List Nat} {s d : Nat} (h : s < l.length) : (rep l s d).length = l.length := by
  unfold rep
  rw [List.length_append, List.length_append, List.length_take, List.length_drop, List.length_singleton]
  omega
theorem rep_mem {l : List Nat} {s d e : Nat} (h : e ∈ rep l s d) : e ∈ l ∨ e = d := by
  unfold rep at h
  rcases List.mem_append.mp h with h | h
  · rcases List.mem_append.mp h with h | h
    · exact .inl (List.mem_of_mem_take h)
    · exact .inr (List.mem_singleton.mp h)
  · exact .inl (List.mem_of_mem_drop h)
theorem rep_head {l : List Nat} {s d : Nat} (h : s < l.length) : (rep l s d)[0]? = if s = 0 then some d else l[0]? := by
  unfold rep
  cases s with
  | zero => rfl
  | succ s =>
    cases l with
    | nil => cases h
    | cons a l => rfl
theorem rep_tl (t : Str) (s d : Nat) : tl ((cutS t none (some (s : Int)) ++ ⟨#[d]⟩) ++ cutS t (some ((s : Int) + 1)) none) = rep (tl t) s d := by
  rw [tl_app, tl_app, tl_hi, show ((s : Int) + 1) = ((s + 1 : Nat) : Int) from rfl, tl_lo]
  rfl
theorem nm_rep {l : List Nat} {s d : Nat} (h : Nm l) (hs : s < l.length) (hd : isIn (letters ++ digits) d = true) (h0 : s = 0 → isIn letters d = true) : Nm (rep l s d) := by
  obtain ⟨h1, h2, c, h3, h4⟩ := h
  refine ⟨by rw [rep_len hs]; exact h1, fun e he => ?_, ?_⟩
  · rcases rep_mem he with he | rfl
    · exact h2 e he
    · exact hd
  · rw [rep_head hs]
    by_cases e : s = 0
    · exact ⟨d, by rw [if_pos e], h0 e⟩
    · exact ⟨c, by rw [if_neg e]; exact h3, h4⟩
theorem ad_rep {l : List Nat} {s d : Nat} (h : Ad l) (hs : s < l.length) (hd : isIn digits d = true) : Ad (rep l s d) := by
  obtain ⟨h1, h2, h3⟩ := h
  refine ⟨by rw [rep_len hs]; exact h1, by rw [rep_len hs]; exact h2, fun e he => ?_⟩
  rcases rep_mem he with he | rfl
  · exact h3 e he
  · exact hd
abbrev LD : Str := (("abcdefghijklmnopqrstuvwxyz0123456789" : String) : Str)
theorem ld_len : (LD.length : Int) = 36 := by decide +kernel
theorem ld_any {n c : Nat} (h : LD.cps[n]? = some c) : isIn (letters ++ digits) c = true := by
  have k : ∀ m : Fin 36, isIn (letters ++ digits) (LD.cps[m.val]?.getD 0) = true := by decide +kernel
  have hl : n < 36 := by
    have := (Array.getElem?_eq_some_iff.mp h).1
    have e : LD.cps.size = 36 := by decide +kernel
    omega
  have := k ⟨n, hl⟩
  rw [h] at this
  exact this
theorem ld_lo {n c : Nat} (h : LD.cps[n]? = some c) (hn : n < 26) : isIn letters c = true := by
  have k : ∀ m : Fin 26, isIn letters (LD.cps[m.val]?.getD 0) = true := by decide +kernel
  have := k ⟨n, hn⟩
  rw [h] at this
  exact this
theorem dg_any {n c : Nat} (h : digits.cps[n]? = some c) : isIn digits c = true := decide_eq_true (by
  rw [Array.mem_toList_iff]
  exact Array.mem_of_getElem? h)
theorem dg_len : (digits.length : Int) = 10 := by decide +kernel
theorem at_sign {z : Str} {i : Int} (h : i < z.length) (h0 : 0 ≤ i) : ∃ c, z.cps[i.toNat]? = some c := by
  have : i.toNat < z.cps.size := by
    show i.toNat < z.length
    omega
  exact ⟨_, Array.getElem?_eq_getElem this⟩
theorem nm_app {l m : List Nat} (h : Nm l) (hm : ∀ d ∈ m, isIn (letters ++ digits) d = true) (hl : l.length + m.length ≤ 12) : Nm (l ++ m) := by
  obtain ⟨h1, h2, c, h3, h4⟩ := h
  refine ⟨by rw [List.length_append]; exact hl, fun e he => ?_, c, ?_, h4⟩
  · rcases List.mem_append.mp he with he | he
    · exact h2 e he
    · exact hm e he
  · rw [List.getElem?_append_left (List.getElem?_eq_some_iff.mp h3).1]
    exact h3
theorem nm_take {l : List Nat} (h : Nm l) {k : Nat} (hk : 0 < k) : Nm (l.take k) := by
  obtain ⟨h1, h2, c, h3, h4⟩ := h
  refine ⟨by rw [List.length_take]; omega, fun e he => h2 e (List.mem_of_mem_take he), c, ?_, h4⟩
  rw [List.getElem?_take, if_pos hk]
  exact h3
theorem nm_pos {l : List Nat} (h : Nm l) : 0 < l.length := by
  obtain ⟨_, _, c, h3, _⟩ := h
  exact (List.getElem?_eq_some_iff.mp h3).1
theorem num100 {k : Nat} (h : k < 100) : (tl (Str.ofString (toString (k : Int)))).length ≤ 2 ∧ ∀ d ∈ tl (Str.ofString (toString (k : Int))), isIn (letters ++ digits) d = true := by
  have k1 : ∀ m : Fin 100, (decide ((tl (Str.ofString (toString (m.val : Int)))).length ≤ 2) && (tl (Str.ofString (toString (m.val : Int)))).all (isIn (letters ++ digits))) = true := by decide +kernel
  have := k1 ⟨k, h⟩
  rw [Bool.and_eq_true, List.all_eq_true] at this
  exact ⟨of_decide_eq_true this.1, this.2⟩
end Tb
namespace Tb
open PySem PySem.Spec PyProof.Rows L2
structure C1 (P : Program) (w : World) (K : PySem.W.Frag) (mg : Str → Option Value) (base : Heap) (x : Str) (st : Stmt) (ps : List Str) (l : Nat) (sp : Sp) (g : Addr) (gd : FuncData) : Prop where
  D : Dd K mg x st ps g gd
  G : FnOk P w K mg base CX0 l g gd ps sp
theorem at_nat {α : Type} {xs : List α} {i : Int} {v : α} (h0 : 0 ≤ i) (h : xs[i.toNat]? = some v) : atI xs i = some v := by
  have e : i = (i.toNat : Int) := by omega
  rw [e]
  exact atI_nat h
theorem cut_hi (xs : List V) (k : Nat) : cutV xs none (some (k : Int)) = xs.take k := by
  unfold cutV
  rw [HT.sIx_nat, HT.sIx_none, List.drop_zero, Nat.sub_zero]
  by_cases h : k ≤ xs.length
  · rw [Nat.min_eq_left h]
  · rw [Nat.min_eq_right (by omega), List.take_length, List.take_of_length_le (by omega)]
abbrev sCell : Stmt := topS 19
abbrev sBox : Stmt := topS 20
abbrev sDraw : Stmt := topS 21
theorem scCell : FnScope ["script", "k"] ["script", "k"] (defScope sCell) := ⟨rfl, rfl, rfl, by decide +kernel, rfl, by decide +kernel, by decide +kernel⟩
theorem scBox : FnScope ["script", "k", "cell", "rest"] ["script", "k"] (defScope sBox) := ⟨rfl, rfl, rfl, by decide +kernel, rfl, by decide +kernel, by decide +kernel⟩
theorem scDraw : FnScope ["box", "size", "digit"] ["box", "size"] (defScope sDraw) := ⟨rfl, rfl, rfl, by decide +kernel, rfl, by decide +kernel, by decide +kernel⟩
abbrev MA : Int := 2147483629
abbrev MB : Int := 2147483549
def But (p : Addr) (H H' : Hp) : Prop := ∀ b o, H b = some o → b ≠ p → H' b = some o
theorem But.refl (p : Addr) (H : Hp) : But p H H := fun _ _ h _ => h
theorem But.trans {p : Addr} {H H1 H2 : Hp} (a : But p H H1) (b : But p H1 H2) : But p H H2 := fun c o h n => b c o (a c o h n) n
theorem But.upd {p : Addr} {H : Hp} {o : HO} : But p H (upd H p o) := fun b x e n => by rw [upd_ne n]; exact e
theorem Same.but {p : Addr} {H H' : Hp} (h : Same H H') : But p H H' := fun b o e _ => h b o e
/-- the box of the draws -/
def Box (H : Hp) (p : Addr) : Prop := ∃ (r a b c : Int), H p = some (.lst [.int r, .int a, .int b, .int c]) ∧ 0 ≤ r ∧ 0 ≤ a ∧ a < MA ∧ 0 ≤ b ∧ b < MB ∧ 0 ≤ c
theorem Box.same {H H' : Hp} {p : Addr} (B : Box H p) (h : Same H H') : Box H' p := by
  obtain ⟨r, a, b, c, hp, rest⟩ := B
  exact ⟨r, a, b, c, h _ _ hp, rest⟩
section
variable {P : Program} {w : World} {K : PySem.W.Frag} {mg : Str → Option Value} {base : Heap}
def spCell (K : PySem.W.Frag) : Sp := fun vs H Q _ => ∃ (a : Addr) (ns : List Int) (k : Nat), vs = [.ref a, .int (k : Int)] ∧ SqL K H a (ns.map V.int) ∧ k ≤ 10 ∧ ∀ (z : Int) (H' : Hp), Same H H' → Q (.int z) H'
theorem ok_cell {f : Addr} {fd : FuncData} {k : Nat} (F : Fun K "_law_cell" "_law_cell" sCell f fd) (B : Blt mg) : FnOk P w K mg base CX0 (k + 1) f fd ["script", "k"] (spCell K) := by
  refine F.ok scCell (fun vs H Q E h => ?_) (fun cdv A outer s H vs Q E hr h => ?_)
  · obtain ⟨a, ns, k, rfl, _⟩ := h
    rfl
  · obtain ⟨a, ns, k, rfl, hS, hk, q⟩ := h
    refine ⟨_, pss_cons (ps_if (pt_cmpR op_lt (pv 1) (pe_callB call_len_seq (by rfl) B.len PySem.boot_len (pa_cons (pv 0) pa_nil)) (nomark _)) (pss_one (ps_ret (pe_ix ix_list (pv 0) (pv 1) (fun _ _ => rfl)))) pss_nil)
      (pss_one (ps_ret (pe_op op_add (pe_op op_mod (pe_callB (cr_sum rfl) (by rfl) B.sum (by decide +kernel) (pa_cons (pe_slice sl_list (pv 0) po_none (po_some pe_int)) pa_nil)) pe_int) (pe_op op_mul pe_int (pe_op op_add (pv 1) pe_int))))), ?_⟩
    refine ⟨.int (k : Int), rfl, .ref a, rfl, a, _, rfl, .inl hS, k, _, rfl, rfl, _, rfl, ite2 (fun e => ?_) (fun e => ?_)⟩
    · have hl : k < ns.length := by
        have := of_decide_eq_true e
        rw [List.length_map] at this
        omega
      refine ⟨.ref a, rfl, .int (k : Int), rfl, a, _, k, .int ns[k], rfl, rfl, hS, atI_nat ?_, q _ H (Same.refl _)⟩
      rw [List.getElem?_map, List.getElem?_eq_getElem hl]
      rfl
    · refine ⟨.ref a, rfl, 2, rfl, a, _, rfl, hS, fun p np => ?_⟩
      refine ⟨p, ns.take 2, rfl, sqOf ?_, _, 1000003, rfl, rfl, (by show (0 : Int) < 1000003; decide), .int (k : Int), rfl, k, 1, rfl, rfl, 7919, _, rfl, rfl, .inl ⟨by decide, by decide⟩, _, _, rfl, rfl, q _ _ (same_upd np)⟩
      rw [upd_same, List.map_take]
      exact congrArg (fun l => some (HO.lst l)) (cut_hi _ 2)
def spBox (K : PySem.W.Frag) : Sp := fun vs H Q _ => ∃ (a : Addr) (ns : List Int) (k : Nat), vs = [.ref a, .int (k : Int)] ∧ SqL K H a (ns.map V.int) ∧ k ≤ 10 ∧ ∀ (p : Addr) (H' : Hp), H p = none → Box H' p → Same H H' → Q (.ref p) H'
theorem ok_box {f g : Addr} {fd gd : FuncData} (F : Fun K "_law_box" "_law_box" sBox f fd) (D : Dd K mg "_law_cell" sCell ["script", "k"] g gd) (B : Blt mg) : FnOk P w K mg base CX0 2 f fd ["script", "k"] (spBox K) := by
  have G : FnOk P w K mg base CX0 1 g gd ["script", "k"] (spCell K) := ok_cell D.F B
  refine F.ok scBox (fun vs H Q E h => ?_) (fun cdv A outer s H vs Q E hr h => ?_)
  · obtain ⟨a, ns, k, rfl, _⟩ := h
    rfl
  · obtain ⟨a, ns, k, rfl, hS, hk, q⟩ := h
    refine ⟨_, pss_cons (ps_set (i := 2) scBox.nd rfl (.inl rfl) (pe_callTy call_int1 (by rfl) B.int PyProof.Rows.boot_int (pa_cons (pe_call G hr (by rfl) D.g D.F.kp D.b .nil pass0 (pa_cons (pv 0) (pa_cons (pv 1) pa_nil))) pa_nil)))
      (pss_cons (ps_set (i := 3) scBox.nd rfl (.inl rfl) pe_int)
      (C8.pss_cut (ps_if (pt_cmpR op_ge (pv 2) (pe_op op_pow pe_int pe_int) (nomark _)) (pss_one (ps_set (i := 3) scBox.nd rfl (.inl rfl) (pv 2))) pss_nil)
      (pss_one (ps_ret (pe_lst (pa_cons (pv 3) (pa_cons (pe_op op_mod (pe_callTy call_int1 (by rfl) B.int PyProof.Rows.boot_int (pa_cons (pv 2) pa_nil)) pe_int) (pa_cons (pe_op op_mod (pe_callTy call_int1 (by rfl) B.int PyProof.Rows.boot_int (pa_cons (pe_op op_fdiv (pv 2) pe_int) pa_nil)) pe_int) (pa_cons pe_int pa_nil))))))))), ?_⟩
    refine ⟨.ref a, rfl, .int (k : Int), rfl, a, ns, k, rfl, hS, hk, fun z H1 S1 => .inl ⟨z, rfl, ?_⟩⟩
    refine ⟨fun σ' H' => ∃ r : Int, 0 ≤ r ∧ σ' = [some (.ref a), some (.int (k : Int)), some (.int z), some (.int r)] ∧ H' = H1, ?_, ?_⟩
    · refine ⟨.int z, rfl, 10, 18, rfl, rfl, ⟨by decide, by decide, by decide⟩, z, _, rfl, rfl, _, rfl, ite2 (fun e => ?_) (fun e => ?_)⟩
      · have h1 : (10 : Int) ^ (18 : Int).toNat ≤ z := of_decide_eq_true e
        have h0 : (0 : Int) ≤ (10 : Int) ^ (18 : Int).toNat := by decide
        exact ⟨.int z, rfl, z, by omega, rfl, rfl⟩
      · exact (⟨0, by decide, rfl, rfl⟩ : ∃ r : Int, 0 ≤ r ∧ ([some (.ref a), some (.int (k : Int)), some (.int z), some (.int 0)] : L2.St) = [some (.ref a), some (.int (k : Int)), some (.int z), some (.int r)] ∧ H1 = H1)
    · rintro σ' H' ⟨r, r0, rfl, rfl⟩
      refine ⟨.int r, rfl, .int z, rfl, .inl ⟨z, rfl, z, MA, rfl, rfl, (by show (0 : Int) < MA; decide), .int z, rfl, z, 7, rfl, rfl, ⟨by decide, by decide⟩, .inl ⟨_, rfl, _, MB, rfl, rfl, (by show (0 : Int) < MB; decide), by show 4 ≤ sizeLine; decide, fun p np => ?_⟩⟩⟩
      refine q p _ (S1.free np) ⟨r, _, _, 0, upd_same, r0, Int.emod_nonneg _ (by decide), Int.emod_lt_of_pos _ (by decide), Int.emod_nonneg _ (by decide), Int.emod_lt_of_pos _ (by decide), by decide⟩ (S1.trans (same_upd np))
def spDraw : Sp := fun vs H Q _ => ∃ (p : Addr) (n : Int), vs = [.ref p, .int n] ∧ Box H p ∧ n < 2 ^ 60 ∧ ∀ (z : Int) (H' : Hp), 0 ≤ z → (z < n ∨ z = 0) → Box H' p → But p H H' → Q (.int z) H'
theorem ok_draw {f : Addr} {fd : FuncData} {k : Nat} (F : Fun K "_law_draw" "_law_draw" sDraw f fd) (B : Blt mg) : FnOk P w K mg base CX0 (k + 1) f fd ["box", "size"] spDraw := by
  refine F.ok scDraw (fun vs H Q E h => ?_) (fun cdv A outer s H vs Q E hr h => ?_)
  · obtain ⟨p, n, rfl, _⟩ := h
    rfl
  · obtain ⟨p, n, rfl, hB, hn, q⟩ := h
    obtain ⟨r, a, b, c, hp, r0, a0, a1, b0, b1, c0⟩ := id hB
    refine ⟨_, pss_cons (ps_if (pt_cmpR op_lt (pv 1) pe_int (nomark _)) (pss_one (ps_ret pe_int)) pss_nil)
      (pss_cons (ps_if (pt_cmpR op_gt (pe_ix ix_list (pv 0) pe_int (fun _ _ => rfl)) pe_int (nomark _))
        (pss_cons (ps_set (i := 2) scDraw.nd rfl (.inl rfl) (pe_op op_mod (pe_callTy call_int1 (by rfl) B.int PyProof.Rows.boot_int (pa_cons (pe_ix ix_list (pv 0) pe_int (fun _ _ => rfl)) pa_nil)) (pv 1)))
        (pss_cons (ps_asg (pe_op op_fdivW (pe_ix ix_list (pv 0) pe_int (fun _ _ => rfl)) (pv 1)) (pg_sub (pv 0) pe_int set_list))
        (pss_one (ps_ret (pv 2))))) pss_nil)
      (pss_cons (ps_asg (pe_op op_add (pe_ix ix_list (pv 0) pe_int (fun _ _ => rfl)) pe_int) (pg_sub (pv 0) pe_int set_list))
      (pss_cons (ps_asg (pe_op op_mod (pe_callTy call_int1 (by rfl) B.int PyProof.Rows.boot_int (pa_cons (pe_op op_add (pe_op op_add (pe_op op_mul (pe_ix ix_list (pv 0) pe_int (fun _ _ => rfl)) pe_int) (pe_op op_mul (pe_ix ix_list (pv 0) pe_int (fun _ _ => rfl)) pe_int)) pe_int) pa_nil)) pe_int) (pg_sub (pv 0) pe_int set_list))
      (pss_cons (ps_asg (pe_op op_mod (pe_callTy call_int1 (by rfl) B.int PyProof.Rows.boot_int (pa_cons (pe_op op_add (pe_op op_add (pe_op op_mul (pe_ix ix_list (pv 0) pe_int (fun _ _ => rfl)) pe_int) (pe_op op_fdiv (pe_ix ix_list (pv 0) pe_int (fun _ _ => rfl)) pe_int)) (pe_ix ix_list (pv 0) pe_int (fun _ _ => rfl))) pa_nil)) pe_int) (pg_sub (pv 0) pe_int set_list))
      (pss_one (ps_ret (pe_op op_mod (pe_callTy call_int1 (by rfl) B.int PyProof.Rows.boot_int (pa_cons (pe_op op_add (pe_ix ix_list (pv 0) pe_int (fun _ _ => rfl)) (pe_ix ix_list (pv 0) pe_int (fun _ _ => rfl))) pa_nil)) (pv 1)))))))), ?_⟩
    refine ⟨.int n, rfl, n, 2, rfl, rfl, _, rfl, ite2 (fun e1 => ?_) (fun e1 => ?_)⟩
    · exact q 0 H (by decide) (.inr rfl) hB (But.refl _ _)
    have n2 : ¬ n < 2 := fun z => e1 (decide_eq_true z)
    have hn9 : n.natAbs < 2 ^ 61 := by omega
    refine ⟨.ref p, rfl, p, _, 0, .int r, rfl, rfl, sqOf hp, atI_nat (j := 0) rfl, r, 0, rfl, rfl, _, rfl, ite2 (fun e2 => ?_) (fun e2 => ?_)⟩
    · refine ⟨.ref p, rfl, p, _, 0, .int r, rfl, rfl, sqOf hp, atI_nat (j := 0) rfl, .inl ⟨_, rfl, .int n, rfl, _, _, rfl, rfl, (by show (0 : Int) < n; omega), ?_⟩⟩
      refine ⟨.ref p, rfl, p, _, 0, .int r, rfl, rfl, sqOf hp, atI_nat (j := 0) rfl, .int n, rfl, r, n, rfl, rfl, wide_div (by omega) hn9 (by decide) (by decide), .ref p, rfl, p, _, 0, 0, rfl, rfl, hp, rfl, ?_⟩
      exact ⟨_, rfl, q _ _ (Int.emod_nonneg _ (by omega)) (.inl (Int.emod_lt_of_pos _ (by omega))) ⟨r / n, a, b, c, upd_same, Int.ediv_nonneg r0 (by omega), a0, a1, b0, b1, c0⟩ But.upd⟩
    · have hp' : ∀ H xs, (upd H p (.lst xs)) p = some (.lst xs) := fun H xs => upd_same
      refine ⟨.ref p, rfl, p, _, 3, .int c, rfl, rfl, sqOf hp, atI_nat (j := 3) rfl, c, 1, rfl, rfl, .ref p, rfl, p, _, 3, 3, rfl, rfl, hp, rfl, ?_⟩
      refine ⟨.ref p, rfl, p, _, 1, .int a, rfl, rfl, sqOf (hp' _ _), atI_nat (j := 1) rfl, a, 48271, rfl, rfl, .inr ⟨by decide, by decide⟩, .ref p, rfl, p, _, 3, .int (c + 1), rfl, rfl, sqOf (hp' _ _), atI_nat (j := 3) rfl, c + 1, 7919, rfl, rfl, .inr ⟨by decide, by decide⟩, _, _, rfl, rfl, _, _, rfl, rfl, .inl ⟨_, rfl, _, MA, rfl, rfl, (by show (0 : Int) < MA; decide), .ref p, rfl, p, _, 1, 1, rfl, rfl, hp' _ _, rfl, ?_⟩⟩
      refine ⟨.ref p, rfl, p, _, 2, .int b, rfl, rfl, sqOf (hp' _ _), atI_nat (j := 2) rfl, b, 40692, rfl, rfl, .inr ⟨by decide, by decide⟩, .ref p, rfl, p, _, 1, _, rfl, rfl, sqOf (hp' _ _), atI_nat (j := 1) rfl, _, 5, rfl, rfl, ⟨by decide, by decide⟩, _, _, rfl, rfl, .ref p, rfl, p, _, 3, .int (c + 1), rfl, rfl, sqOf (hp' _ _), atI_nat (j := 3) rfl, _, _, rfl, rfl, .inl ⟨_, rfl, _, MB, rfl, rfl, (by show (0 : Int) < MB; decide), .ref p, rfl, p, _, 2, 2, rfl, rfl, hp' _ _, rfl, ?_⟩⟩
      refine ⟨.ref p, rfl, p, _, 1, _, rfl, rfl, sqOf (hp' _ _), atI_nat (j := 1) rfl, .ref p, rfl, p, _, 2, _, rfl, rfl, sqOf (hp' _ _), atI_nat (j := 2) rfl, _, _, rfl, rfl, .inl ⟨_, rfl, .int n, rfl, _, _, rfl, rfl, (by show (0 : Int) < n; omega), ?_⟩⟩
      exact q _ _ (Int.emod_nonneg _ (by omega)) (.inl (Int.emod_lt_of_pos _ (by omega))) ⟨r, _, _, c + 1, upd_same, r0, Int.emod_nonneg _ (by decide), Int.emod_lt_of_pos _ (by decide), Int.emod_nonneg _ (by decide), Int.emod_lt_of_pos _ (by decide), by omega⟩ ((But.upd.trans But.upd).trans But.upd)
end
end Tb
namespace Tb
open PySem PySem.Spec PyProof.Rows L2
abbrev sShare : Stmt := topS 22
abbrev NShare : List Str := ["box", "way"]
theorem scShare : FnScope NShare ["box"] (defScope sShare) := ⟨rfl, rfl, rfl, by decide +kernel, rfl, by decide +kernel, by decide +kernel⟩
abbrev sDigits : Stmt := topS 23
abbrev NDigits : List Str := ["box", "size", "text", "k"]
theorem scDigits : FnScope NDigits ["box", "size"] (defScope sDigits) := ⟨rfl, rfl, rfl, by decide +kernel, rfl, by decide +kernel, by decide +kernel⟩
abbrev sName : Stmt := topS 24
abbrev NName : List Str := ["box", "text", "k"]
theorem scName : FnScope NName ["box"] (defScope sName) := ⟨rfl, rfl, rfl, by decide +kernel, rfl, by decide +kernel, by decide +kernel⟩
abbrev sHeading : Stmt := topS 26
abbrev NHeading : List Str := ["box", "leads", "text"]
theorem scHeading : FnScope NHeading ["box", "leads"] (defScope sHeading) := ⟨rfl, rfl, rfl, by decide +kernel, rfl, by decide +kernel, by decide +kernel⟩
abbrev sAmount : Stmt := topS 27
abbrev NAmount : List Str := ["box", "way"]
theorem scAmount : FnScope NAmount ["box"] (defScope sAmount) := ⟨rfl, rfl, rfl, by decide +kernel, rfl, by decide +kernel, by decide +kernel⟩
abbrev sLands : Stmt := topS 25
abbrev NLands : List Str := ["box", "lands", "k", "way"]
theorem scLands : FnScope NLands ["box"] (defScope sLands) := ⟨rfl, rfl, rfl, by decide +kernel, rfl, by decide +kernel, by decide +kernel⟩
theorem sign_in {s : Str} {n c : Nat} (h : s.cps[n]? = some c) : isIn s c = true := decide_eq_true (by
  rw [Array.mem_toList_iff]
  exact Array.mem_of_getElem? h)
theorem lt_len : (letters.length : Int) = 26 := by decide +kernel
theorem app_len (a b : Str) : (a ++ b).length = a.length + b.length := by
  show (a.cps ++ b.cps).size = _
  rw [Array.size_append]
  rfl
theorem one_len (c : Nat) : (⟨#[c]⟩ : Str).length = 1 := rfl
def DgT (z : Str) : Prop := ∀ d ∈ tl z, isIn digits d = true
theorem dg_snoc {z : Str} {c : Nat} (h : DgT z) (hc : isIn digits c = true) : DgT (z ++ ⟨#[c]⟩) := fun d hd => by
  rw [tl_app, tl_one, List.mem_append] at hd
  rcases hd with hd | hd
  · exact h d hd
  · rw [List.mem_singleton.mp hd]
    exact hc
section
variable {P : Program} {w : World} {K : PySem.W.Frag} {mg : Str → Option Value} {base : Heap}
abbrev CDraw (P : Program) (w : World) (K : PySem.W.Frag) (mg : Str → Option Value) (base : Heap) (g : Addr) (gd : FuncData) := C1 P w K mg base "_law_draw" sDraw ["box", "size"] 1 spDraw g gd
def spInt (ok : Int → Prop) : Sp := fun vs H Q _ => ∃ (p : Addr), vs = [.ref p] ∧ Box H p ∧ ∀ (z : Int) (H' : Hp), ok z → Box H' p → But p H H' → Q (.int z) H'
theorem ok_share {f g : Addr} {fd gd : FuncData} (F : Fun K "_law_share" "_law_share" sShare f fd) (cDraw : CDraw P w K mg base g gd) : FnOk P w K mg base CX0 2 f fd ["box"] (spInt fun z => 0 ≤ z ∧ z ≤ 100) := by
  refine F.ok scShare (fun vs H Q E h => ?_) (fun cdv A outer s H vs Q E hr h => ?_)
  · obtain ⟨p, rfl, _⟩ := h
    rfl
  · obtain ⟨p, rfl, hB, q⟩ := h
    refine ⟨_, (pss_cons (ps_set (i := 1) scShare.nd rfl (.inl rfl) (pe_call cDraw.G (hr.mono (by decide)) (by rfl) cDraw.D.g cDraw.D.F.kp cDraw.D.b .nil pass0 (pa_cons (pv 0) (pa_cons pe_int pa_nil))))
      (pss_cons (ps_if (pt_cmpR op_eq (pv 1) pe_int (nomark _))
        (pss_one (ps_ret pe_int))
        pss_nil)
      (pss_cons (ps_if (pt_cmpR op_eq (pv 1) pe_int (nomark _))
        (pss_one (ps_ret (pe_op op_mul pe_int (pe_call cDraw.G (hr.mono (by decide)) (by rfl) cDraw.D.g cDraw.D.F.kp cDraw.D.b .nil pass0 (pa_cons (pv 0) (pa_cons pe_int pa_nil))))))
        pss_nil)
      (pss_one (ps_ret (pe_call cDraw.G (hr.mono (by decide)) (by rfl) cDraw.D.g cDraw.D.F.kp cDraw.D.b .nil pass0 (pa_cons (pv 0) (pa_cons pe_int pa_nil)))))))), ?_⟩
    refine ⟨.ref p, rfl, p, 4, rfl, hB, by decide, fun y H1 y0 y1 B1 b1 => ?_⟩
    refine ⟨.int y, rfl, rfl, _, rfl, ite2 (fun _ => ?_) (fun _ => ?_)⟩
    · exact q 50 H1 (by decide) B1 b1
    refine ⟨.int y, rfl, rfl, _, rfl, ite2 (fun _ => ?_) (fun _ => ?_)⟩
    · exact ⟨.ref p, rfl, p, 2, rfl, B1, by decide, fun x H2 x0 x1 B2 b2 => ⟨100, x, rfl, rfl, .inl ⟨by decide, by decide⟩, q _ H2 (by omega) B2 (b1.trans b2)⟩⟩
    · exact ⟨.ref p, rfl, p, 101, rfl, B1, by decide, fun x H2 x0 x1 B2 b2 => q _ H2 (by omega) B2 (b1.trans b2)⟩
theorem ok_amount {f g : Addr} {fd gd : FuncData} (F : Fun K "_law_amount" "_law_amount" sAmount f fd) (cDraw : CDraw P w K mg base g gd) : FnOk P w K mg base CX0 2 f fd ["box"] (spInt fun z => 0 ≤ z) := by
  refine F.ok scAmount (fun vs H Q E h => ?_) (fun cdv A outer s H vs Q E hr h => ?_)
  · obtain ⟨p, rfl, _⟩ := h
    rfl
  · obtain ⟨p, rfl, hB, q⟩ := h
    refine ⟨_, (pss_cons (ps_set (i := 1) scAmount.nd rfl (.inl rfl) (pe_call cDraw.G (hr.mono (by decide)) (by rfl) cDraw.D.g cDraw.D.F.kp cDraw.D.b .nil pass0 (pa_cons (pv 0) (pa_cons pe_int pa_nil))))
      (pss_cons (ps_if (pt_cmpR op_lt (pv 1) pe_int (nomark _))
        (pss_one (ps_ret (pe_call cDraw.G (hr.mono (by decide)) (by rfl) cDraw.D.g cDraw.D.F.kp cDraw.D.b .nil pass0 (pa_cons (pv 0) (pa_cons pe_int pa_nil)))))
        pss_nil)
      (pss_cons (ps_if (pt_cmpR op_eq (pv 1) pe_int (nomark _))
        (pss_one (ps_ret (pe_op op_mul pe_int (pe_call cDraw.G (hr.mono (by decide)) (by rfl) cDraw.D.g cDraw.D.F.kp cDraw.D.b .nil pass0 (pa_cons (pv 0) (pa_cons pe_int pa_nil))))))
        pss_nil)
      (pss_cons (ps_if (pt_cmpR op_lt (pv 1) pe_int (nomark _))
        (pss_one (ps_ret (pe_call cDraw.G (hr.mono (by decide)) (by rfl) cDraw.D.g cDraw.D.F.kp cDraw.D.b .nil pass0 (pa_cons (pv 0) (pa_cons pe_int pa_nil)))))
        pss_nil)
      (pss_one (ps_ret (pe_op op_add (pe_op op_mul (pe_call cDraw.G (hr.mono (by decide)) (by rfl) cDraw.D.g cDraw.D.F.kp cDraw.D.b .nil pass0 (pa_cons (pv 0) (pa_cons (pe_op op_pow pe_int pe_int) pa_nil))) (pe_op op_pow pe_int pe_int)) (pe_call cDraw.G (hr.mono (by decide)) (by rfl) cDraw.D.g cDraw.D.F.kp cDraw.D.b .nil pass0 (pa_cons (pv 0) (pa_cons (pe_op op_pow pe_int pe_int) pa_nil)))))))))), ?_⟩
    refine ⟨.ref p, rfl, p, 6, rfl, hB, by decide, fun y H1 y0 y1 B1 b1 => ?_⟩
    refine ⟨.int y, rfl, y, 2, rfl, rfl, _, rfl, ite2 (fun _ => ?_) (fun _ => ?_)⟩
    · exact ⟨.ref p, rfl, p, 4, rfl, B1, by decide, fun x H2 x0 x1 B2 b2 => q _ H2 x0 B2 (b1.trans b2)⟩
    refine ⟨.int y, rfl, rfl, _, rfl, ite2 (fun _ => ?_) (fun _ => ?_)⟩
    · exact ⟨.ref p, rfl, p, 20, rfl, B1, by decide, fun x H2 x0 x1 B2 b2 => ⟨50, x, rfl, rfl, .inl ⟨by decide, by decide⟩, q _ H2 (by omega) B2 (b1.trans b2)⟩⟩
    refine ⟨.int y, rfl, y, 5, rfl, rfl, _, rfl, ite2 (fun _ => ?_) (fun _ => ?_)⟩
    · exact ⟨.ref p, rfl, p, 1000, rfl, B1, by decide, fun x H2 x0 x1 B2 b2 => q _ H2 x0 B2 (b1.trans b2)⟩
    have e : (10 : Int) ^ (9 : Int).toNat = 1000000000 := by decide
    refine ⟨.ref p, rfl, 10, 9, rfl, rfl, ⟨by decide, by decide, by decide⟩, p, _, rfl, B1, by decide, fun x H2 x0 x1 B2 b2 => ⟨10, 9, rfl, rfl, ⟨by decide, by decide, by decide⟩, x, _, rfl, rfl, .inl ⟨by omega, by omega⟩, .ref p, rfl, 10, 9, rfl, rfl, ⟨by decide, by decide, by decide⟩, p, _, rfl, B2, by decide, fun v H3 v0 v1 B3 b3 => ⟨_, v, rfl, rfl, ?_⟩⟩⟩
    refine q _ H3 ?_ B3 ((b1.trans b2).trans b3)
    have := Int.mul_nonneg x0 (show (0 : Int) ≤ (10 : Int) ^ (9 : Int).toNat by decide)
    omega
def spDigits : Sp := fun vs H Q _ => ∃ (p : Addr) (n : Nat), vs = [.ref p, .int (n : Int)] ∧ Box H p ∧ n ≤ 8 ∧ ∀ (z : Str) (H' : Hp), z.length = n → DgT z → Box H' p → But p H H' → Q (.str z) H'
theorem ok_digits {f g : Addr} {fd gd : FuncData} (F : Fun K "_law_digits" "_law_digits" sDigits f fd) (cDraw : CDraw P w K mg base g gd) (B : Blt mg) : FnOk P w K mg base CX0 2 f fd ["box", "size"] spDigits := by
  refine F.ok scDigits (fun vs H Q E h => ?_) (fun cdv A outer s H vs Q E hr h => ?_)
  · obtain ⟨p, n, rfl, _⟩ := h
    rfl
  · obtain ⟨p, n, rfl, hB, hn, q⟩ := h
    refine ⟨_, (pss_cons (ps_set (i := 2) scDigits.nd rfl (.inl rfl) pe_str)
      (pss_cons (ps_for PassesOwn.never rfl (pi_range1 (by rfl) B.range (pa_cons (pv 1) pa_nil)) (pg_name (i := 3) scDigits.nd rfl (.inl rfl))
        (pss_one (ps_set (i := 2) scDigits.nd rfl (.inl rfl) (pe_op op_add_str (pv 2) (pe_item_str pe_str (pe_call cDraw.G (hr.mono (by decide)) (by rfl) cDraw.D.g cDraw.D.F.kp cDraw.D.b .nil pass0 (pa_cons (pv 0) (pa_cons pe_int pa_nil))) (fun _ _ => rfl))))))
      (pss_one (ps_ret (pv 2))))), ?_⟩
    have hz : sizeLine = 16777216 := rfl
    refine ⟨.int (n : Int), rfl, n, rfl, by omega, by omega, ?_⟩
    refine for_range (lo := 0) (n := (n : Int).toNat) (fun i σ H1 => ∃ z y3, σ = [some (.ref p), some (.int (n : Int)), some (.str z), y3] ∧ Box H1 p ∧ But p H H1 ∧ z.length = i ∧ DgT z) ⟨Str.ofString "", none, rfl, hB, But.refl _ _, by decide +kernel, fun d hd => by cases hd⟩ ?_ ?_
    · rintro i σ H1 hi ⟨z, y3, rfl, B1, b1, hl, hd⟩
      refine ⟨.str z, rfl, .ref p, rfl, p, 10, rfl, B1, by decide, fun v H2 v0 v1 B2 b2 => ?_⟩
      have dl := dg_len
      obtain ⟨c, e⟩ := at_sign (z := digits) (i := v) (by omega) v0
      refine ⟨digits, v, c, rfl, rfl, v0, by omega, by omega, e, _, _, rfl, rfl, by rw [one_len]; omega, ?_⟩
      exact ⟨_, _, rfl, B2, b1.trans b2, by rw [app_len, hl, one_len], dg_snoc hd (dg_any e)⟩
    · rintro σ H1 ⟨z, y3, rfl, B1, b1, hl, hd⟩
      exact ⟨.str z, rfl, q z H1 (by omega) hd B1 b1⟩
def spName : Sp := fun vs H Q _ => ∃ (p : Addr), vs = [.ref p] ∧ Box H p ∧ ∀ (z : Str) (H' : Hp), Nm (tl z) → Box H' p → But p H H' → Q (.str z) H'
theorem nm_one {c : Nat} (h : isIn letters c = true) (h2 : isIn (letters ++ digits) c = true) : Nm [c] := ⟨by show 1 ≤ 12; decide, fun d hd => by rw [List.mem_singleton.mp hd]; exact h2, c, rfl, h⟩
theorem lt_ld {c : Nat} (h : isIn letters c = true) : isIn (letters ++ digits) c = true := decide_eq_true (by
  show c ∈ tl (letters ++ digits)
  rw [tl_app, List.mem_append]
  exact .inl (of_decide_eq_true h))
theorem ok_name {f g : Addr} {fd gd : FuncData} (F : Fun K "_law_name" "_law_name" sName f fd) (cDraw : CDraw P w K mg base g gd) (B : Blt mg) : FnOk P w K mg base CX0 2 f fd ["box"] spName := by
  refine F.ok scName (fun vs H Q E h => ?_) (fun cdv A outer s H vs Q E hr h => ?_)
  · obtain ⟨p, rfl, _⟩ := h
    rfl
  · obtain ⟨p, rfl, hB, q⟩ := h
    refine ⟨_, (pss_cons (ps_set (i := 1) scName.nd rfl (.inl rfl) (pe_item_str pe_str (pe_call cDraw.G (hr.mono (by decide)) (by rfl) cDraw.D.g cDraw.D.F.kp cDraw.D.b .nil pass0 (pa_cons (pv 0) (pa_cons pe_int pa_nil))) (fun _ _ => rfl)))
      (pss_cons (ps_for PassesOwn.never rfl (pi_range1 (by rfl) B.range (pa_cons (pe_call cDraw.G (hr.mono (by decide)) (by rfl) cDraw.D.g cDraw.D.F.kp cDraw.D.b .nil pass0 (pa_cons (pv 0) (pa_cons pe_int pa_nil))) pa_nil)) (pg_name (i := 2) scName.nd rfl (.inl rfl))
        (pss_one (ps_set (i := 1) scName.nd rfl (.inl rfl) (pe_op op_add_str (pv 1) (pe_item_str pe_str (pe_call cDraw.G (hr.mono (by decide)) (by rfl) cDraw.D.g cDraw.D.F.kp cDraw.D.b .nil pass0 (pa_cons (pv 0) (pa_cons pe_int pa_nil))) (fun _ _ => rfl))))))
      (pss_one (ps_ret (pv 1))))), ?_⟩
    have hz : sizeLine = 16777216 := rfl
    have ll := lt_len
    have dl := ld_len
    refine ⟨.ref p, rfl, p, 26, rfl, hB, by decide, fun v H1 v0 v1 B1 b1 => ?_⟩
    obtain ⟨c, e⟩ := at_sign (z := letters) (i := v) (by omega) v0
    refine ⟨letters, v, c, rfl, rfl, v0, by omega, by omega, e, ?_⟩
    refine ⟨.ref p, rfl, p, 12, rfl, B1, by decide, fun n H2 n0 n1 B2 b2 => ⟨n, rfl, by omega, by omega, ?_⟩⟩
    refine for_range (lo := 0) (n := n.toNat) (fun i σ H3 => ∃ z y2, σ = [some (.ref p), some (.str z), y2] ∧ Box H3 p ∧ But p H H3 ∧ z.length = i + 1 ∧ Nm (tl z)) ⟨_, none, rfl, B2, b1.trans b2, rfl, nm_one (sign_in e) (lt_ld (sign_in e))⟩ ?_ ?_
    · rintro i σ H3 hi ⟨z, y2, rfl, B3, b3, hl, hm⟩
      refine ⟨.str z, rfl, .ref p, rfl, p, 36, rfl, B3, by decide, fun u H4 u0 u1 B4 b4 => ?_⟩
      obtain ⟨d, e2⟩ := at_sign (z := LD) (i := u) (by omega) u0
      refine ⟨LD, u, d, rfl, rfl, u0, by omega, by omega, e2, _, _, rfl, rfl, by rw [one_len]; omega, ?_⟩
      refine ⟨_, _, rfl, B4, b3.trans b4, by rw [app_len, hl, one_len], ?_⟩
      rw [tl_app, tl_one]
      refine nm_app hm (fun x hx => ?_) ?_
      · rw [List.mem_singleton.mp hx]
        exact ld_any e2
      · rw [← len_tl, hl]
        show i + 1 + 1 ≤ 12
        omega
    · rintro σ H3 ⟨z, y2, rfl, B3, b3, hl, hm⟩
      exact ⟨.str z, rfl, q z H3 hm B3 b3⟩
end
end Tb
namespace Tb
open PySem PySem.Spec PyProof.Rows L2
/-! all but lists that begin with an int stays -/
def IntL (o : HO) : Prop := ∃ i xs, o = .lst (.int i :: xs)
def Kp (H H' : Hp) : Prop := ∀ b o, H b = some o → ¬ IntL o → H' b = some o
theorem Kp.refl (H : Hp) : Kp H H := fun _ _ h _ => h
theorem Kp.trans {H H1 H2 : Hp} (a : Kp H H1) (b : Kp H1 H2) : Kp H H2 := fun c o h n => b c o (a c o h n) n
theorem Same.kp {H H' : Hp} (h : Same H H') : Kp H H' := fun b o e _ => h b o e
theorem Box.intl {H : Hp} {p : Addr} (B : Box H p) {o : HO} (h : H p = some o) : IntL o := by
  obtain ⟨r, a, b, c, hp, _⟩ := B
  rw [hp] at h
  cases h
  exact ⟨_, _, rfl⟩
theorem But.kp {H H' : Hp} {p : Addr} (B : Box H p) (h : But p H H') : Kp H H' := fun b o e n => h b o e fun z => n (B.intl (z ▸ e))
theorem ni_tup (xs : List V) : ¬ IntL (.tup xs) := fun ⟨_, _, e⟩ => by cases e
theorem ni_strs (ks : List Str) : ¬ IntL (.lst (ks.map V.str)) := fun ⟨_, _, e⟩ => by
  cases ks <;> cases e
theorem ni_refs (as : List Addr) : ¬ IntL (.lst (as.map V.ref)) := fun ⟨_, _, e⟩ => by
  cases as <;> cases e
theorem ni_ins {C dx : Addr} {fs : List (Str × V)} : ¬ IntL (.ins C dx fs) := fun ⟨_, _, e⟩ => by cases e
theorem Box.ne {H : Hp} {p b : Addr} {o : HO} (B : Box H p) (h : H b = some o) (n : ¬ IntL o) : b ≠ p := fun e => n (B.intl (e ▸ h))
theorem strs_at {ks : List Str} {i : Nat} (h : i < ks.length) : (ks.map V.str)[i]? = some (.str ks[i]) := by
  rw [List.getElem?_map, List.getElem?_eq_getElem h]
  rfl
theorem tl_butlast (z : Str) (h : 1 ≤ z.length) : tl (cutS z none (some (-1))) = (tl z).take ((tl z).length - 1) := by
  show ((z.cps.toList.drop (HT.sIx z.length 0 none)).take (HT.sIx z.length z.length (some (-1)) - HT.sIx z.length 0 none)).toArray.toList = _
  have e : HT.sIx z.length z.length (some (-1)) = z.length - 1 := by
    unfold HT.sIx
    first
      | omega
      | (simp; omega)
      | (split <;> omega)
  rw [List.toList_toArray, e, HT.sIx_none, List.drop_zero, Nat.sub_zero, len_tl]
section
variable {P : Program} {w : World} {K : PySem.W.Frag} {mg : Str → Option Value} {base : Heap}
abbrev CDigits (P : Program) (w : World) (K : PySem.W.Frag) (mg : Str → Option Value) (base : Heap) (g : Addr) (gd : FuncData) := C1 P w K mg base "_law_digits" sDigits ["box", "size"] 2 spDigits g gd
abbrev CName (P : Program) (w : World) (K : PySem.W.Frag) (mg : Str → Option Value) (base : Heap) (g : Addr) (gd : FuncData) := C1 P w K mg base "_law_name" sName ["box"] 2 spName g gd
/-- two leads -/
structure Leads (H : Hp) (l : Addr) (ks : List Str) : Prop where
  l : H l = some (.lst (ks.map V.str))
  n : ks.length = 2
  d : ∀ x ∈ ks, DgT x ∧ x.length = 2
theorem Leads.kp {H H' : Hp} {l : Addr} {ks : List Str} (L : Leads H l ks) (h : Kp H H') : Leads H' l ks := ⟨h _ _ L.l (ni_strs ks), L.n, L.d⟩
def spHeading : Sp := fun vs H Q _ => ∃ (p l : Addr) (ks : List Str), vs = [.ref p, .ref l] ∧ Box H p ∧ Leads H l ks ∧ ∀ (z : Str) (H' : Hp), Ad (tl z) → Box H' p → But p H H' → Q (.str z) H'
theorem ok_heading {f g g2 : Addr} {fd gd gd2 : FuncData} (F : Fun K "_law_heading" "_law_heading" sHeading f fd) (cDraw : CDraw P w K mg base g gd) (cDigits : CDigits P w K mg base g2 gd2) (B : Blt mg) : FnOk P w K mg base CX0 3 f fd ["box", "leads"] spHeading := by
  refine F.ok scHeading (fun vs H Q E h => ?_) (fun cdv A outer s H vs Q E hr h => ?_)
  · obtain ⟨p, l, ks, rfl, _⟩ := h
    rfl
  · obtain ⟨p, l, ks, rfl, hB, hL, q⟩ := h
    refine ⟨_, (pss_cons (ps_set (i := 2) scHeading.nd rfl (.inl rfl) (pe_call cDigits.G (hr.mono (by decide)) (by rfl) cDigits.D.g cDigits.D.F.kp cDigits.D.b .nil pass0 (pa_cons (pv 0) (pa_cons (pe_op op_add pe_int (pe_call cDraw.G (hr.mono (by decide)) (by rfl) cDraw.D.g cDraw.D.F.kp cDraw.D.b .nil pass0 (pa_cons (pv 0) (pa_cons pe_int pa_nil)))) pa_nil))))
      (pss_cons (ps_if (pt_cmpR op_gt (pe_call cDraw.G (hr.mono (by decide)) (by rfl) cDraw.D.g cDraw.D.F.kp cDraw.D.b .nil pass0 (pa_cons (pv 0) (pa_cons pe_int pa_nil))) pe_int (nomark _))
        (pss_one (ps_ret (pe_slice sl_str (pe_op op_add_str (pe_ix ix_list (pv 1) (pe_call cDraw.G (hr.mono (by decide)) (by rfl) cDraw.D.g cDraw.D.F.kp cDraw.D.b .nil pass0 (pa_cons (pv 0) (pa_cons (pe_callB call_len_seq (by rfl) B.len PySem.boot_len (pa_cons (pv 1) pa_nil)) pa_nil))) (fun _ _ => rfl)) (pv 2)) po_none (po_some (pe_callB call_len_str (by rfl) B.len PySem.boot_len (pa_cons (pv 2) pa_nil))))))
        pss_nil)
      (pss_one (ps_ret (pv 2))))), ?_⟩
    have hz : sizeLine = 16777216 := rfl
    refine ⟨.ref p, rfl, .ref p, rfl, p, 8, rfl, hB, by decide, fun v H1 v0 v1 B1 b1 => ⟨1, v, rfl, rfl, ?_⟩⟩
    obtain ⟨m, hm⟩ : ∃ m : Nat, 1 + v = (m : Int) := ⟨(1 + v).toNat, by omega⟩
    refine ⟨p, m, by show [V.ref p, V.int (1 + v)] = [V.ref p, V.int (m : Int)]; rw [hm], B1, by omega, fun z H2 hzl hd B2 b2 => ?_⟩
    refine ⟨.ref p, rfl, p, 8, rfl, B2, by decide, fun u H3 u0 u1 B3 b3 => ⟨u, 0, rfl, rfl, _, rfl, ite2 (fun _ => ?_) (fun _ => ?_)⟩⟩
    · have L3 := ((hL.kp (But.kp hB b1)).kp (But.kp B1 b2)).kp (But.kp B2 b3)
      refine ⟨.ref l, rfl, .ref p, rfl, .ref l, rfl, l, _, rfl, .inl (sqOf L3.l), p, _, rfl, B3, ?_, fun x H4 x0 x1 B4 b4 => ?_⟩
      · rw [List.length_map, L3.n]
        decide
      rw [List.length_map, L3.n] at x1
      have L4 := L3.kp (But.kp B3 b4)
      have hx : x.toNat < ks.length := by rw [L4.n]; omega
      refine ⟨l, _, x, _, rfl, rfl, sqOf L4.l, at_nat x0 (strs_at hx), .str z, rfl, _, _, rfl, rfl, ?_, .str z, rfl, z, rfl, by omega, _, rfl, _, rfl, ?_, ?_⟩
      · rw [(L4.d _ (List.getElem_mem hx)).2]; omega
      · rw [app_len, (L4.d _ (List.getElem_mem hx)).2]; omega
      refine q _ H4 ?_ B4 (((b1.trans b2).trans b3).trans b4)
      rw [tl_hi]
      have hl := (L4.d _ (List.getElem_mem hx)).2
      rw [len_tl] at hl
      have hzl' := hzl
      rw [len_tl] at hzl'
      refine ⟨?_, ?_, fun d hd2 => ?_⟩
      · rw [List.length_take, tl_app, List.length_append, hl]; omega
      · rw [List.length_take]; omega
      · have := List.mem_of_mem_take hd2
        rw [tl_app, List.mem_append] at this
        exact this.elim ((L4.d _ (List.getElem_mem hx)).1 d) (hd d)
    · refine ⟨.str z, rfl, q z H3 ⟨?_, ?_, hd⟩ B3 ((b1.trans b2).trans b3)⟩
      · rw [← len_tl]; omega
      · rw [← len_tl]; omega
/-- the lands -/
structure Lns (H : Hp) (l : Addr) (ks : List Str) : Prop where
  l : H l = some (.lst (ks.map V.str))
  n1 : 1 ≤ ks.length
  n2 : ks.length ≤ 10
  d : ∀ x ∈ ks, Nm (tl x)
theorem Lns.kp {H H' : Hp} {l : Addr} {ks : List Str} (L : Lns H l ks) (h : Kp H H') : Lns H' l ks := ⟨h _ _ L.l (ni_strs ks), L.n1, L.n2, L.d⟩
def spLands : Sp := fun vs H Q _ => ∃ (p : Addr), vs = [.ref p] ∧ Box H p ∧ ∀ (l : Addr) (ks : List Str) (H' : Hp), H l = none → Lns H' l ks → Box H' p → But p H H' → Q (.ref l) H'
theorem nm_first {l : List Nat} (h : Nm l) : ∃ c r, l = c :: r ∧ isIn letters c = true := by
  obtain ⟨_, _, c, h3, h4⟩ := h
  cases l with
  | nil => cases h3
  | cons d r => cases h3; exact ⟨_, _, rfl, h4⟩
theorem ok_lands {f g g2 : Addr} {fd gd gd2 : FuncData} (F : Fun K "_law_lands" "_law_lands" sLands f fd) (cDraw : CDraw P w K mg base g gd) (cName : CName P w K mg base g2 gd2) (B : Blt mg) : FnOk P w K mg base CX0 3 f fd ["box"] spLands := by
  refine F.ok scLands (fun vs H Q E h => ?_) (fun cdv A outer s H vs Q E hr h => ?_)
  · obtain ⟨p, rfl, _⟩ := h
    rfl
  · obtain ⟨p, rfl, hB, q⟩ := h
    refine ⟨_, (pss_cons (ps_set (i := 1) scLands.nd rfl (.inl rfl) (pe_lst (pa_cons (pe_call cName.G (hr.mono (by decide)) (by rfl) cName.D.g cName.D.F.kp cName.D.b .nil pass0 (pa_cons (pv 0) pa_nil)) pa_nil)))
      (pss_cons (ps_for PassesOwn.never rfl (pi_range1 (by rfl) B.range (pa_cons (pe_op op_add pe_int (pe_call cDraw.G (hr.mono (by decide)) (by rfl) cDraw.D.g cDraw.D.F.kp cDraw.D.b .nil pass0 (pa_cons (pv 0) (pa_cons pe_int pa_nil)))) pa_nil)) (pg_name (i := 2) scLands.nd rfl (.inl rfl))
        (pss_cons (ps_set (i := 3) scLands.nd rfl (.inl rfl) (pe_call cDraw.G (hr.mono (by decide)) (by rfl) cDraw.D.g cDraw.D.F.kp cDraw.D.b .nil pass0 (pa_cons (pv 0) (pa_cons pe_int pa_nil))))
        (pss_one (ps_if (pt_cmpR op_eq (pv 3) pe_int (nomark _))
          (pss_one (ps_expr (pe_bm PySem.F.plainAttrs_list PySem.F.slot_list_append PySem.F.type_list_append mt_append (pv 1) (pa_cons (pe_call cName.G (hr.mono (by decide)) (by rfl) cName.D.g cName.D.F.kp cName.D.b .nil pass0 (pa_cons (pv 0) pa_nil)) pa_nil))))
          (pss_one (ps_if (pt_cmpR op_eq (pv 3) pe_int (nomark _))
            (pss_one (ps_expr (pe_bm PySem.F.plainAttrs_list PySem.F.slot_list_append PySem.F.type_list_append mt_append (pv 1) (pa_cons (pe_op op_add_str (pe_slice sl_str (pe_ix ix_list (pv 1) pe_int (fun _ _ => rfl)) po_none (po_some pe_int)) (pe_item_str pe_str (pe_call cDraw.G (hr.mono (by decide)) (by rfl) cDraw.D.g cDraw.D.F.kp cDraw.D.b .nil pass0 (pa_cons (pv 0) (pa_cons pe_int pa_nil))) (fun _ _ => rfl))) pa_nil))))
            (pss_one (ps_expr (pe_bm PySem.F.plainAttrs_list PySem.F.slot_list_append PySem.F.type_list_append mt_append (pv 1) (pa_cons (pe_op op_add_str (pe_slice sl_str (pe_ix ix_list (pv 1) pe_int (fun _ _ => rfl)) po_none (po_some (pe_un un_neg pe_int))) (pe_item_str pe_str (pe_call cDraw.G (hr.mono (by decide)) (by rfl) cDraw.D.g cDraw.D.F.kp cDraw.D.b .nil pass0 (pa_cons (pv 0) (pa_cons pe_int pa_nil))) (fun _ _ => rfl))) pa_nil))))))))))
      (pss_one (ps_ret (pv 1))))), ?_⟩
    have hz : sizeLine = 16777216 := rfl
    refine ⟨.ref p, rfl, p, rfl, hB, fun x0 H1 n0 B1 b1 => ⟨by show 1 ≤ sizeLine; decide, fun D nD => ?_⟩⟩
    have B1' : Box (upd H1 D (.lst [.str x0])) p := B1.same (same_upd nD)
    have hD0 : H D = none := by
      cases e : H D with
      | none => rfl
      | some o =>
        by_cases c : D = p
        · obtain ⟨_, _, _, _, hp, _⟩ := B1
          rw [c, hp] at nD
          cases nD
        · rw [b1 D o e c] at nD
          cases nD
    have L1 : Lns (upd H1 D (.lst [.str x0])) D [x0] := ⟨upd_same, Nat.le_refl _, by show 1 ≤ 10; decide, fun x hx => by rw [List.mem_singleton.mp hx]; exact n0⟩
    refine ⟨.ref p, rfl, p, 3, rfl, B1', by decide, fun v H2 v0 v1 B2 b2 => ⟨1, v, rfl, rfl, 1 + v, rfl, by omega, by omega, ?_⟩⟩
    refine for_range (lo := 0) (n := (1 + v).toNat) (fun i σ H3 => ∃ y2 y3 ks, σ = [some (.ref p), some (.ref D), y2, y3] ∧ Box H3 p ∧ But p H H3 ∧ Lns H3 D ks ∧ ks.length = i + 1) ⟨none, none, [x0], rfl, B2, (b1.trans (Same.but (same_upd nD))).trans b2, L1.kp (But.kp B1' b2), rfl⟩ ?_ ?_
    · rintro i σ H3 hi ⟨y2, y3, ks, rfl, B3, b3, L3, hn⟩
      refine ⟨.ref p, rfl, p, 3, rfl, B3, by decide, fun w0 H4 w1 w2 B4 b4 => ?_⟩
      have L4 := L3.kp (But.kp B3 b4)
      have fin : ∀ (x : Str) (H5 : Hp), Nm (tl x) → Box H5 p → But p H H5 → Lns H5 D ks → ∃ y2 y3 ks', ([some (.ref p), some (.ref D), some (.int (0 + (i : Int))), some (.int w0)] : L2.St) = [some (V.ref p), some (V.ref D), y2, y3] ∧ Box (upd H5 D (.lst (ks.map V.str ++ [.str x]))) p ∧ But p H (upd H5 D (.lst (ks.map V.str ++ [.str x]))) ∧ Lns (upd H5 D (.lst (ks.map V.str ++ [.str x]))) D ks' ∧ ks'.length = i + 1 + 1 := fun x H5 hx B5 b5 L5 => by
        have hDp := B5.ne L5.l (ni_strs ks)
        refine ⟨_, _, ks ++ [x], rfl, ?_, fun b o hb hbp => ?_, ⟨by rw [upd_same, List.map_append]; rfl, by rw [List.length_append]; exact Nat.le_add_left _ _, by rw [List.length_append, hn]; show i + 1 + 1 ≤ 10; omega, fun y hy => ?_⟩, by rw [List.length_append, hn]; rfl⟩
        · obtain ⟨r, a, b, c, hp, rest⟩ := B5
          exact ⟨r, a, b, c, by rw [upd_ne hDp.symm]; exact hp, rest⟩
        · rw [upd_ne (ne_of_none hb hD0)]
          exact b5 b o hb hbp
        · rcases List.mem_append.mp hy with hy | hy
          · exact L5.d y hy
          · rw [List.mem_singleton.mp hy]; exact hx
      have hk0 : 0 < ks.length := by omega
      have hm0 := L4.d _ (List.getElem_mem hk0)
      have hk12 : (tl ks[0]).length ≤ 12 := hm0.1
      have lk : ks[0].length ≤ 12 := by rw [len_tl]; exact hk12
      have b34 := b3.trans b4
      refine ⟨.int w0, rfl, rfl, _, rfl, ite2 (fun _ => ?_) (fun _ => ?_)⟩
      · refine ⟨.ref D, rfl, .inl ⟨rfl, _, sqOf L4.l⟩, .ref p, rfl, p, rfl, B4, fun x H5 hx B5 b5 => ?_⟩
        have L5 := L4.kp (But.kp B4 b5)
        exact ⟨D, _, _, rfl, rfl, L5.l, by rw [List.length_map]; exact small1000 (by omega), fin x H5 hx B5 (b34.trans b5) L5⟩
      refine ⟨.int w0, rfl, rfl, _, rfl, ite2 (fun _ => ?_) (fun _ => ?_)⟩
      · refine ⟨.ref D, rfl, .inl ⟨rfl, _, sqOf L4.l⟩, .ref D, rfl, D, _, 0, .str ks[0], rfl, rfl, sqOf L4.l, atI_nat (strs_at hk0), 11, rfl, _, rfl, by omega, .ref p, rfl, p, 36, rfl, B4, by decide, fun u H5 u0 u1 B5 b5 => ?_⟩
        have dl := ld_len
        obtain ⟨d, e2⟩ := at_sign (z := LD) (i := u) (by omega) u0
        have L5 := L4.kp (But.kp B4 b5)
        have ec : tl (cutS ks[0] none (some (11 : Int))) = (tl ks[0]).take 11 := tl_hi ks[0] 11
        have lc : (cutS ks[0] none (some (11 : Int))).length ≤ 11 := by rw [len_tl, ec, List.length_take]; omega
        refine ⟨LD, u, d, rfl, rfl, u0, by omega, by omega, e2, _, _, rfl, rfl, by rw [one_len]; omega, D, _, _, rfl, rfl, L5.l, by rw [List.length_map]; exact small1000 (by omega), fin _ H5 ?_ B5 (b34.trans b5) L5⟩
        rw [tl_app, ec, tl_one]
        refine nm_app (nm_take hm0 (by decide)) (fun x hx => ?_) ?_
        · rw [List.mem_singleton.mp hx]; exact ld_any e2
        · rw [List.length_take]; show min 11 _ + 1 ≤ 12; omega
      · refine ⟨.ref D, rfl, .inl ⟨rfl, _, sqOf L4.l⟩, .ref D, rfl, D, _, 0, .str ks[0], rfl, rfl, sqOf L4.l, atI_nat (strs_at hk0), 1, rfl, _, rfl, _, rfl, by omega, .ref p, rfl, p, 26, rfl, B4, by decide, fun u H5 u0 u1 B5 b5 => ?_⟩
        have dl := lt_len
        obtain ⟨d, e2⟩ := at_sign (z := letters) (i := u) (by omega) u0
        have L5 := L4.kp (But.kp B4 b5)
        have p1 := nm_pos hm0
        have ec : tl (cutS ks[0] none (some (-1))) = (tl ks[0]).take ((tl ks[0]).length - 1) := tl_butlast ks[0] (by rw [len_tl]; omega)
        have lc : (cutS ks[0] none (some (-1))).length ≤ 11 := by rw [len_tl, ec, List.length_take]; omega
        refine ⟨letters, u, d, rfl, rfl, u0, by omega, by omega, e2, _, _, rfl, rfl, ?_, D, _, _, rfl, rfl, L5.l, by rw [List.length_map]; exact small1000 (by omega), fin _ H5 ?_ B5 (b34.trans b5) L5⟩
        · rw [one_len]
          show (cutS ks[0] none (some (-1))).length + 1 ≤ _
          omega
        show Nm (tl (cutS ks[0] none (some (-1)) ++ ⟨#[d]⟩))
        rw [tl_app, ec, tl_one]
        by_cases c1 : (tl ks[0]).length = 1
        · rw [c1]
          exact nm_one (sign_in e2) (lt_ld (sign_in e2))
        · refine nm_app (nm_take hm0 (by omega)) (fun x hx => ?_) ?_
          · rw [List.mem_singleton.mp hx]; exact lt_ld (sign_in e2)
          · rw [List.length_take]; show min _ _ + 1 ≤ 12; omega
    · rintro σ H3 ⟨y2, y3, ks, rfl, B3, b3, L3, hn⟩
      exact ⟨.ref D, rfl, q D ks H3 hD0 L3 B3 b3⟩
end
end Tb
set_option maxHeartbeats 1000000
/-! zip of a tuple and a list: the rule that the library lacks, after its rules of two lists and of two tuples -/
namespace ZM
open PySem PySem.Spec PyProof.Rows L2
open PySem.Sem (wp)
section
variable {pr : Program} {wd : World} {Ar : Around} {Ex : Value → Shared → Prop} {sh : Shared}
theorem zipT_next_item {zo oI oO j1 j2 m1 m2 : Addr} {n1 n2 : Nat} {us ws : Array Value} {u0 w0 a0 b0 : Value} {Wi : Value → Shared → Prop} (Ap : ZipApart zo oI oO j1 j2 m1 m2)
    (ez : IsZip sh.heap zo oI oO .none) (eI : IsPair sh.heap oI (.ref j1) (.ref j2)) (eO : IsPair sh.heap oO a0 b0)
    (t1 : sh.heap.IsTupleIter j1 m1 n1) (t2 : sh.heap.IsListIter j2 m2 n2) (w1 : sh.heap.IsTuple m1 us) (w2 : sh.heap.IsList m2 ws) (fx : us[n1]? = some u0) (fy : ws[n2]? = some w0)
    (wish : ∀ hp', IsZip hp' zo oI oO (rawInt sh.heap.objs.size) → IsPair hp' oO u0 w0 → hp'.IsTupleIter j1 m1 (n1 + 1) → hp'.IsListIter j2 m2 (n2 + 1) → IsPair hp' sh.heap.objs.size u0 w0 → hp'.objs.size = sh.heap.objs.size + 1 →
      (∀ c0 o0, c0 ≠ zo → c0 ≠ oO → c0 ≠ j1 → c0 ≠ j2 → sh.heap.get? c0 = some o0 → hp'.get? c0 = some o0) → Wi (.ref sh.heap.objs.size) { sh with heap := hp' }) :
    wpAny (model pr wd) Ar (Builtin.«zip.__next__» ⟨[.ref zo], []⟩) (fun fin s' => ∃ vv, fin = .done (.ret vv) ∧ Wi vv s') Ex sh := by
  show wpAny _ _ (field (.ref zo) 2 >>= _) _ _ _
  refine wpAny_bind (wpAny_field ez rfl (x := .bool false) rfl ?_)
  show wpAny _ _ (field (.ref zo) 3 >>= _) _ _ _
  refine wpAny_bind (wpAny_field ez rfl (x := .ref oI) rfl ?_)
  refine wpAny_bind (wpAny_seqItems eI rfl ?_)
  show wpAny _ _ (Builtin.SmallTypes.ownedTupleIsFree (.ref zo) >>= _) _ _ _
  refine wpAny_bind ?_
  unfold Builtin.SmallTypes.ownedTupleIsFree
  refine wpAny_bind (wpAny_field ez rfl (x := .none) rfl (wpAny_pure ?_))
  simp only [if_true]
  refine wpAny_bind (wpAny_rule ?_)
  refine wpAny_bind (wpAny_field ez rfl (x := .ref oO) rfl ?_)
  refine wpAny_bind (wpAny_setField_rec ez (by simp) fun g₁ ez₁ es₁ => ?_)
  replace ez₁ : IsZip g₁ zo oI oO .ellipsis := ez₁
  refine wpAny_bind ?_
  simp only [List.zipIdx_cons, List.zipIdx_nil, List.forIn_cons, List.forIn_nil]

  refine wpAny_bind (wpAny_bind (wpAny_onRaise ?_))
  show wpAny _ _ (Builtin.SmallTypes.nextOf (.ref j1) >>= _) _ _ _
  refine wpAny_bind (RZ.nextOf_tuple_item (t1.extBut es₁.extBut Ap.i1z) (w1.extBut es₁.extBut Ap.l1z) fx fun g₂ t1₂ es₂ => wpAny_pure ?_)
  have eO₂ : IsPair g₂ oO a0 b0 := es₂.extBut _ _ Ap.TOi1 (es₁.extBut _ _ Ap.TOz eO)
  refine wpAny_bind (wpAny_seqItems eO₂ rfl ?_)
  refine wpAny_bind (wpAny_updateSeq_pair eO₂ fun g₃ eO₃ es₃ => ?_)
  replace eO₃ : IsPair g₃ oO u0 b0 := eO₃
  refine wpAny_bind (wpAny_letGo (wpAny_pure ?_))

  refine wpAny_bind (wpAny_bind (wpAny_onRaise ?_))
  show wpAny _ _ (Builtin.SmallTypes.nextOf (.ref j2) >>= _) _ _ _
  refine wpAny_bind (wpAny_nextOf_list_item (((t2.extBut es₁.extBut Ap.i2z).extBut es₂.extBut Ap.i12.symm).extBut es₃.extBut Ap.TOi2.symm)
    (((w2.extBut es₁.extBut Ap.l2z).extBut es₂.extBut Ap.l2i1).extBut es₃.extBut Ap.l2TO) fy fun g₄ t2₄ es₄ => wpAny_pure ?_)
  have eO₄ : IsPair g₄ oO u0 b0 := es₄.extBut _ _ Ap.TOi2 eO₃
  refine wpAny_bind (wpAny_seqItems eO₄ rfl ?_)
  refine wpAny_bind (wpAny_updateSeq_pair eO₄ fun g₅ eO₅ es₅ => ?_)
  replace eO₅ : IsPair g₅ oO u0 w0 := eO₅
  refine wpAny_bind (wpAny_letGo (wpAny_pure (wpAny_pure ?_)))

  refine wpAny_bind (wpAny_seqItems eO₅ rfl ?_)
  refine wpAny_bind (wpAny_newTuple ?_)
  have esz : g₅.objs.size = sh.heap.objs.size := by rw [es₅.1, es₄.1, es₃.1, es₂.1, es₁.1]
  have ez₅ : IsZip g₅ zo oI oO .ellipsis := es₅.extBut _ _ Ap.TOz.symm (es₄.extBut _ _ Ap.i2z.symm (es₃.extBut _ _ Ap.TOz.symm (es₂.extBut _ _ Ap.i1z.symm ez₁)))
  have kk₅ : ∀ c0 o0, c0 ≠ zo → c0 ≠ oO → c0 ≠ j1 → c0 ≠ j2 → sh.heap.get? c0 = some o0 → g₅.get? c0 = some o0 := fun c0 o0 d1 d2 d3 d4 e0 =>
    es₅.extBut _ _ d2 (es₄.extBut _ _ d4 (es₃.extBut _ _ d2 (es₂.extBut _ _ d3 (es₁.extBut _ _ d1 e0))))
  have t1₅ : g₅.IsTupleIter j1 m1 (n1 + 1) := ((t1₂.extBut es₃.extBut Ap.TOi1.symm).extBut es₄.extBut Ap.i12).extBut es₅.extBut Ap.TOi1.symm
  have t2₅ : g₅.IsListIter j2 m2 (n2 + 1) := t2₄.extBut es₅.extBut Ap.TOi2.symm
  have zlt : zo < g₅.objs.size := Heap.lt_size ez₅
  have oOlt : oO < g₅.objs.size := Heap.lt_size eO₅
  have j1lt : j1 < g₅.objs.size := by obtain ⟨_, e0, _⟩ := t1₅; exact Heap.lt_size e0
  have j2lt : j2 < g₅.objs.size := by obtain ⟨_, e0, _⟩ := t2₅; exact Heap.lt_size e0
  show wpAny _ _ (Builtin.SmallTypes.ownedTupleHandOut (.ref zo) (.ref g₅.objs.size) >>= _) _ _ _
  refine wpAny_bind ?_
  unfold Builtin.SmallTypes.ownedTupleHandOut
  have ez₆ : IsZip (g₅.push { cls := .type "tuple", data := .seq #[u0, w0] }) zo oI oO .ellipsis := Heap.get?_push_of_some _ ez₅
  refine wpAny_bind (wpAny_setField_rec ez₆ (by simp) fun g₇ ez₇ es₇ => ?_)
  replace ez₇ : IsZip g₇ zo oI oO (rawInt g₅.objs.size) := ez₇
  refine wpAny_setField_rec ez₇ (by simp) fun g₈ ez₈ es₈ => ?_
  replace ez₈ : IsZip g₈ zo oI oO (rawInt g₅.objs.size) := ez₈
  have upp : ∀ c0 o0, c0 ≠ zo → g₅.get? c0 = some o0 → g₈.get? c0 = some o0 := fun c0 o0 d1 e0 => es₈.extBut _ _ d1 (es₇.extBut _ _ d1 (Heap.get?_push_of_some _ e0))
  have eT₈ : IsPair g₈ g₅.objs.size u0 w0 := es₈.extBut _ _ (Nat.ne_of_gt zlt) (es₇.extBut _ _ (Nat.ne_of_gt zlt) (Heap.get?_push_size _ rfl))
  have hz8 : g₈.objs.size = g₅.objs.size + 1 := by rw [es₈.1, es₇.1, Heap.size_push]
  rw [esz] at ez₈ eT₈ hz8
  refine wpAny_pure ⟨_, rfl, ?_⟩
  show Wi (.ref g₅.objs.size) _
  rw [esz]
  exact wish g₈ ez₈ (upp _ _ Ap.TOz eO₅) (t1₅.at fun o0 e0 => upp _ o0 Ap.i1z e0) (t2₅.at fun o0 e0 => upp _ o0 Ap.i2z e0) eT₈ hz8 fun c0 o0 d1 d2 d3 d4 e0 => upp c0 o0 d1 (kk₅ c0 o0 d1 d2 d3 d4 e0)

theorem zipT_next_end {zo oI oO j1 j2 m1 m2 : Addr} {n1 n2 : Nat} {us ws : Array Value} {a0 b0 : Value} {Wi : Fin → Shared → Prop} (nh : Ar.handled = none) (Ap : ZipApart zo oI oO j1 j2 m1 m2)
    (ez : IsZip sh.heap zo oI oO .none) (eI : IsPair sh.heap oI (.ref j1) (.ref j2)) (eO : IsPair sh.heap oO a0 b0)
    (t1 : sh.heap.IsTupleIter j1 m1 n1) (t2 : sh.heap.IsListIter j2 m2 n2) (w1 : sh.heap.IsTuple m1 us) (w2 : sh.heap.IsList m2 ws) (fend : us[n1]? = none ∨ ws[n2]? = none)
    (wishE : ∀ hp' e0, (∀ c0 o0, c0 ≠ zo → c0 ≠ oO → c0 ≠ j1 → c0 ≠ j2 → sh.heap.get? c0 = some o0 → hp'.get? c0 = some o0) → (∃ o0, hp'.get? e0 = some o0 ∧ o0.cls = .type "StopIteration") → Ex (.ref e0) { sh with heap := hp' }) :
    wpAny (model pr wd) Ar (Builtin.«zip.__next__» ⟨[.ref zo], []⟩) Wi Ex sh := by
  show wpAny _ _ (field (.ref zo) 2 >>= _) _ _ _
  refine wpAny_bind (wpAny_field ez rfl (x := .bool false) rfl ?_)
  show wpAny _ _ (field (.ref zo) 3 >>= _) _ _ _
  refine wpAny_bind (wpAny_field ez rfl (x := .ref oI) rfl ?_)
  refine wpAny_bind (wpAny_seqItems eI rfl ?_)
  show wpAny _ _ (Builtin.SmallTypes.ownedTupleIsFree (.ref zo) >>= _) _ _ _
  refine wpAny_bind ?_
  unfold Builtin.SmallTypes.ownedTupleIsFree
  refine wpAny_bind (wpAny_field ez rfl (x := .none) rfl (wpAny_pure ?_))
  simp only [if_true]
  refine wpAny_bind (wpAny_rule ?_)
  refine wpAny_bind (wpAny_field ez rfl (x := .ref oO) rfl ?_)
  refine wpAny_bind (wpAny_setField_rec ez (by simp) fun g₁ ez₁ es₁ => ?_)
  replace ez₁ : IsZip g₁ zo oI oO .ellipsis := ez₁
  refine wpAny_bind ?_
  simp only [List.zipIdx_cons, List.zipIdx_nil, List.forIn_cons, List.forIn_nil]
  refine wpAny_bind (wpAny_bind (wpAny_onRaise ?_))
  show wpAny _ _ (Builtin.SmallTypes.nextOf (.ref j1) >>= _) _ _ _
  cases fx : us[n1]? with
  | none =>
    refine wpAny_bind (RZ.nextOf_tuple_end nh (t1.extBut es₁.extBut Ap.i1z) (w1.extBut es₁.extBut Ap.l1z) fx fun g₂ e0 es₂ ee => ?_)
    obtain ⟨oe0, eoe, ece⟩ := ee
    have ez₂ : IsZip g₂ zo oI oO .ellipsis := es₂ _ _ Ap.i1z.symm ez₁
    have ezz : e0 ≠ zo := fun u0 => by subst u0; rw [ez₂] at eoe; cases eoe; simp at ece
    refine wpAny_setField_rec ez₂ (by simp) fun g₃ _ es₃ => wishE g₃ e0 (fun c0 o0 d1 _ d3 _ u0 => es₃.extBut _ _ d1 (es₂ _ _ d3 (es₁.extBut _ _ d1 u0))) ⟨oe0, es₃.extBut _ _ ezz eoe, ece⟩
  | some u0 =>
    have fy : ws[n2]? = none := by rcases fend with hp | hp; rw [fx] at hp; cases hp; exact hp
    refine wpAny_bind (RZ.nextOf_tuple_item (t1.extBut es₁.extBut Ap.i1z) (w1.extBut es₁.extBut Ap.l1z) fx fun g₂ t1₂ es₂ => wpAny_pure ?_)
    have eO₂ : IsPair g₂ oO a0 b0 := es₂.extBut _ _ Ap.TOi1 (es₁.extBut _ _ Ap.TOz eO)
    refine wpAny_bind (wpAny_seqItems eO₂ rfl ?_)
    refine wpAny_bind (wpAny_updateSeq_pair eO₂ fun g₃ eO₃ es₃ => ?_)
    refine wpAny_bind (wpAny_letGo (wpAny_pure ?_))
    refine wpAny_bind (wpAny_bind (wpAny_onRaise ?_))
    show wpAny _ _ (Builtin.SmallTypes.nextOf (.ref j2) >>= _) _ _ _
    refine wpAny_bind (wpAny_nextOf_list_end nh (((t2.extBut es₁.extBut Ap.i2z).extBut es₂.extBut Ap.i12.symm).extBut es₃.extBut Ap.TOi2.symm)
      (((w2.extBut es₁.extBut Ap.l2z).extBut es₂.extBut Ap.l2i1).extBut es₃.extBut Ap.l2TO) fy fun g₄ e0 es₄ ee => ?_)
    obtain ⟨oe0, eoe, ece⟩ := ee
    have ez₄ : IsZip g₄ zo oI oO .ellipsis := es₄ _ _ Ap.i2z.symm (es₃.extBut _ _ Ap.TOz.symm (es₂.extBut _ _ Ap.i1z.symm ez₁))
    have ezz : e0 ≠ zo := fun u0 => by subst u0; rw [ez₄] at eoe; cases eoe; simp at ece
    refine wpAny_setField_rec ez₄ (by simp) fun g₅ _ es₅ => wishE g₅ e0 (fun c0 o0 d1 d2 d3 d4 u0 => es₅.extBut _ _ d1 (es₄ _ _ d4 (es₃.extBut _ _ d2 (es₂.extBut _ _ d3 (es₁.extBut _ _ d1 u0))))) ⟨oe0, es₅.extBut _ _ ezz eoe, ece⟩

theorem pyNext_zipT_item {zo oI oO j1 j2 m1 m2 : Addr} {n1 n2 : Nat} {us ws : Array Value} {u0 w0 a0 b0 : Value} {Wi : Option Value → Shared → Prop} (Ap : ZipApart zo oI oO j1 j2 m1 m2)
    (ez : IsZip sh.heap zo oI oO .none) (eI : IsPair sh.heap oI (.ref j1) (.ref j2)) (eO : IsPair sh.heap oO a0 b0)
    (t1 : sh.heap.IsTupleIter j1 m1 n1) (t2 : sh.heap.IsListIter j2 m2 n2) (w1 : sh.heap.IsTuple m1 us) (w2 : sh.heap.IsList m2 ws) (fx : us[n1]? = some u0) (fy : ws[n2]? = some w0)
    (wish : ∀ hp', IsZip hp' zo oI oO (rawInt sh.heap.objs.size) → IsPair hp' oO u0 w0 → hp'.IsTupleIter j1 m1 (n1 + 1) → hp'.IsListIter j2 m2 (n2 + 1) → IsPair hp' sh.heap.objs.size u0 w0 → hp'.objs.size = sh.heap.objs.size + 1 →
      (∀ c0 o0, c0 ≠ zo → c0 ≠ oO → c0 ≠ j1 → c0 ≠ j2 → sh.heap.get? c0 = some o0 → hp'.get? c0 = some o0) → Wi (some (.ref sh.heap.objs.size)) { sh with heap := hp' }) :
    wpAny (model pr wd) Ar (pyNext (.ref zo)) Wi Ex sh := by
  have eT : sh.TypeIs (.ref zo) "zip" := ⟨_, ez, rfl⟩
  unfold pyNext
  exact wpAny_bind (wpAny_attempt (wpAny_callSpecial?_slot (name := Str.ofString "__next__") eT F.slot_zip_next
    (wpAny_call_entry F.slot_zip_next eT F.entry_zip_next
      (zipT_next_item Ap ez eI eO t1 t2 w1 w2 fx fy fun hp' a1 a2 a3 a4 a5 a6 a7 => wpAny_pure (wish hp' a1 a2 a3 a4 a5 a6 a7)) (F.args_zip_next_1 _))))

theorem pyNext_zipT_end {zo oI oO j1 j2 m1 m2 : Addr} {n1 n2 : Nat} {us ws : Array Value} {a0 b0 : Value} {Wi : Option Value → Shared → Prop} (nh : Ar.handled = none) (Ap : ZipApart zo oI oO j1 j2 m1 m2)
    (ez : IsZip sh.heap zo oI oO .none) (eI : IsPair sh.heap oI (.ref j1) (.ref j2)) (eO : IsPair sh.heap oO a0 b0)
    (t1 : sh.heap.IsTupleIter j1 m1 n1) (t2 : sh.heap.IsListIter j2 m2 n2) (w1 : sh.heap.IsTuple m1 us) (w2 : sh.heap.IsList m2 ws) (fend : us[n1]? = none ∨ ws[n2]? = none)
    (wish : ∀ hp', (∀ c0 o0, c0 ≠ zo → c0 ≠ oO → c0 ≠ j1 → c0 ≠ j2 → sh.heap.get? c0 = some o0 → hp'.get? c0 = some o0) → Wi none { sh with heap := hp' }) : wpAny (model pr wd) Ar (pyNext (.ref zo)) Wi Ex sh := by
  have eT : sh.TypeIs (.ref zo) "zip" := ⟨_, ez, rfl⟩
  unfold pyNext
  refine wpAny_bind (wpAny_attempt (wpAny_callSpecial?_slot (name := Str.ofString "__next__") eT F.slot_zip_next
    (wpAny_call_entry F.slot_zip_next eT F.entry_zip_next (zipT_next_end nh Ap ez eI eO t1 t2 w1 w2 fend fun hp' e0 kk0 ee => ?_) (F.args_zip_next_1 _))))
  obtain ⟨o0, ho, hcm0⟩ := ee
  refine wpAny_bind (wpAny_isInstance (T := "StopIteration") (b := true) ⟨o0, ho, hcm0⟩ isSubtype_stop ?_)
  exact wpAny_pure (wish _ kk0)
end
abbrev zm1 (hp : Heap) (m1 : Addr) : Heap := hp.push { cls := .type "tuple_iterator", data := .fields #[.ref m1, .int 0 0] }
abbrev zm2 (hp : Heap) (m1 m2 : Addr) : Heap := (zm1 hp m1).push { cls := .type "list_iterator", data := .fields #[.ref m2, .int 0 0] }
abbrev zm3 (hp : Heap) (m1 m2 : Addr) : Heap := (zm2 hp m1 m2).push { cls := .type "tuple", data := .seq #[.ref hp.objs.size, .ref (zm1 hp m1).objs.size] }
abbrev zm4 (hp : Heap) (m1 m2 : Addr) : Heap := (zm3 hp m1 m2).push { cls := .type "tuple", data := .seq #[.none, .none] }
abbrev zm5 (hp : Heap) (m1 m2 : Addr) : Heap := (zm4 hp m1 m2).push { cls := .type "zip", data := .fields #[.none, .bool false, .bool false, .ref (zm2 hp m1 m2).objs.size, .ref (zm3 hp m1 m2).objs.size] }

theorem meets_zipT_new (m1 m2 : Addr) (us ws : Array Value) :
    Meets (Builtin.«zip.__new__» ⟨[.type "zip", .ref m1, .ref m2], []⟩) (fun _ R sh => sh.heap.IsTuple m1 us ∧ sh.heap.IsList m2 ws ∧
      R (.ok (.ret (.ref (zm4 sh.heap m1 m2).objs.size))) { sh with heap := zm5 sh.heap m1 m2 }) :=
  .of_wp fun pr wd Ar R sh hp => by
    obtain ⟨hp9, g0, dd, tk0, os0⟩ := sh; obtain ⟨w1, w2, hp⟩ := hp
    have sb0 := sub_zip
    have L1 : Heap.IsTuple (Shared.heap ⟨hp9, g0, dd, tk0, os0⟩) m1 us := w1
    have L2x : Heap.IsList (Shared.heap ⟨hp9.push { cls := .type "tuple_iterator", data := .fields #[.ref m1, .int 0 0] }, g0, dd, tk0, os0⟩) m2 ws := Heap.IsList.push w2 _
    wp_walk using wpAny_pyIter_tuple L1, wpAny_pyIter_list L2x
    exact ⟨_, rfl, hp⟩

section
variable {pr : Program} {wd : World} {Ar : Around} {Ex : Value → Shared → Prop} {sh : Shared}
theorem call_zipT {m1 m2 : Addr} {us ws : Array Value} {Wi : Value → Shared → Prop} (w1 : sh.heap.IsTuple m1 us) (w2 : sh.heap.IsList m2 ws)
    (hp : ∀ hp', IsZip hp' (sh.heap.objs.size + 4) (sh.heap.objs.size + 2) (sh.heap.objs.size + 3) .none → IsPair hp' (sh.heap.objs.size + 2) (.ref sh.heap.objs.size) (.ref (sh.heap.objs.size + 1)) →
      IsPair hp' (sh.heap.objs.size + 3) .none .none → hp'.IsTupleIter sh.heap.objs.size m1 0 → hp'.IsListIter (sh.heap.objs.size + 1) m2 0 → hp'.objs.size = sh.heap.objs.size + 5 →
      (∀ c0 o0, sh.heap.get? c0 = some o0 → hp'.get? c0 = some o0) → Wi (.ref (sh.heap.objs.size + 4)) { sh with heap := hp' }) :
    wpAny (model pr wd) Ar (call (.type "zip") [.ref m1, .ref m2]) Wi Ex sh := by
  refine callType_new F.called_zip (by decide) (F.typeCall_zip_2 _ _) (F.newCall_zip_2 _ _) (fun obj => F.args_object_init_3 obj _ _) F.entry_zip_new
    (meets_zipT_new m1 m2 us ws) ⟨w1, w2, ?_⟩
  have z1 : (zm1 sh.heap m1).objs.size = sh.heap.objs.size + 1 := Heap.size_push ..
  have z2 : (zm2 sh.heap m1 m2).objs.size = sh.heap.objs.size + 2 := by rw [Heap.size_push, z1]
  have z3 : (zm3 sh.heap m1 m2).objs.size = sh.heap.objs.size + 3 := by rw [Heap.size_push, z2]
  have z4 : (zm4 sh.heap m1 m2).objs.size = sh.heap.objs.size + 4 := by rw [Heap.size_push, z3]
  have z5 : (zm5 sh.heap m1 m2).objs.size = sh.heap.objs.size + 5 := by rw [Heap.size_push, z4]
  have g5 : (zm5 sh.heap m1 m2).get? (zm4 sh.heap m1 m2).objs.size = some _ := Heap.get?_push_size _ rfl
  have g4 : (zm5 sh.heap m1 m2).get? (zm3 sh.heap m1 m2).objs.size = some _ := Heap.get?_push_of_some _ (Heap.get?_push_size _ rfl)
  have g3 : (zm5 sh.heap m1 m2).get? (zm2 sh.heap m1 m2).objs.size = some _ := Heap.get?_push_of_some _ (Heap.get?_push_of_some _ (Heap.get?_push_size _ rfl))
  have g2 : (zm5 sh.heap m1 m2).get? (zm1 sh.heap m1).objs.size = some _ := Heap.get?_push_of_some _ (Heap.get?_push_of_some _ (Heap.get?_push_of_some _ (Heap.get?_push_size _ rfl)))
  have g1 : (zm5 sh.heap m1 m2).get? sh.heap.objs.size = some _ := Heap.get?_push_of_some _ (Heap.get?_push_of_some _ (Heap.get?_push_of_some _ (Heap.get?_push_of_some _ (Heap.get?_push_size _ rfl))))
  show _ ∧ _
  rw [z2, z3, z4] at g5
  rw [z1, z2] at g3
  rw [z3] at g4
  rw [z1] at g2
  rw [z4]
  exact ⟨⟨_, g5, rfl⟩, hp _ g5 g3 g4 ⟨_, g1, rfl, rfl⟩ ⟨_, g2, rfl, rfl⟩ z5 fun c0 o0 u0 =>
    Heap.get?_push_of_some _ (Heap.get?_push_of_some _ (Heap.get?_push_of_some _ (Heap.get?_push_of_some _ (Heap.get?_push_of_some _ u0))))⟩
end
def ItzT (Kf : PySem.W.Frag) (a0 b0 : Addr) : It :=
  ⟨fun ii Hp0 => ∃ (us ws : List V) (u0 w0 : V), SqT Kf Hp0 a0 us ∧ SqL Kf Hp0 b0 ws ∧ us[ii]? = some u0 ∧ ws[ii]? = some w0,
    fun ii Hp0 vv H' => ∃ T u0 w0, vv = .ref T ∧ Hp0 T = none ∧ H' = upd Hp0 T (.tup [u0, w0]) ∧ (∀ us, SqT Kf Hp0 a0 us → us[ii]? = some u0) ∧ ∀ ws, SqL Kf Hp0 b0 ws → ws[ii]? = some w0,
    fun ii Hp0 => ∃ us ws : List V, SqT Kf Hp0 a0 us ∧ SqL Kf Hp0 b0 ws ∧ (us.length ≤ ii ∨ ws.length ≤ ii)⟩
theorem turn_zipT {Pg : Program} {wd : World} {Kf : PySem.W.Frag} {es : List Expr} {nk : Nat} {tp : Pos} {a0 b0 zo oI oO j1 j2 : Addr} (Ap : ZipApart zo oI oO j1 j2 a0 b0) :
    Turn Pg wd Kf (.Tuple es nk tp) (ItzT Kf a0 b0) [zo, oI, oO, j1, j2] zo (fun ii hp => IsZip hp zo oI oO .none ∧ IsPair hp oI (.ref j1) (.ref j2) ∧ (∃ u0 w0, IsPair hp oO u0 w0) ∧ hp.IsTupleIter j1 a0 ii ∧ hp.IsListIter j2 b0 ii) where
  mem := by simp
  obj := fun ii hp stt c0 hcm0 => by
    obtain ⟨ez, eI, ⟨u0, w0, eO⟩, ⟨o1, e1, _, d1⟩, ⟨o2, e2, _, d2⟩⟩ := stt
    have ef : c0 = zo ∨ c0 = oI ∨ c0 = oO ∨ c0 = j1 ∨ c0 = j2 := by simpa using hcm0
    rcases ef with qe | qe | qe | qe | qe
    · rw [qe]; exact ⟨_, ez, fun vv qe => nomatch qe⟩
    · rw [qe]; exact ⟨_, eI, fun vv qe => nomatch qe⟩
    · rw [qe]; exact ⟨_, eO, fun vv qe => nomatch qe⟩
    · rw [qe]; exact ⟨o1, e1, fun vv qe => by rw [d1] at qe; cases qe⟩
    · rw [qe]; exact ⟨o2, e2, fun vv qe => by rw [d2] at qe; cases qe⟩
  keep := fun ii hp hp' stt ks => by
    obtain ⟨ez, eI, ⟨u0, w0, eO⟩, t1, t2⟩ := stt
    exact ⟨ks zo (by simp) _ ez, ks oI (by simp) _ eI, ⟨u0, w0, ks oO (by simp) _ eO⟩, t1.at fun o0 qe => ks j1 (by simp) o0 qe, t2.at fun o0 qe => ks j2 (by simp) o0 qe⟩
  item := by
    intro Xc eP ew eK hcm0 ii pns sh sig Hp0 Ex In hfp stt hgo
    subst eP ew eK
    obtain ⟨ez, eI, ⟨x0, y0, eO⟩, t1, t2⟩ := stt
    obtain ⟨us, ws, u0, w0, sx, sy, fx, fy⟩ := hgo
    obtain ⟨itx, rvx, px, _⟩ := In.tuple sx
    obtain ⟨ity, rvy, py, _⟩ := In.list sy
    obtain ⟨va, eva, rva⟩ := rvx.get fx
    obtain ⟨vb, evb, rvb⟩ := rvy.get fy
    have zl : zo < sh.heap.objs.size := Heap.lt_size ez
    refine pyNext_zipT_item Ap ez eI eO t1 t2 px py.isList (u0 := va) (w0 := vb) (by simpa using eva) (by simpa using evb) fun hp' z' TO' h1' h2' eT esz kk0 => ?_
    refine ⟨_, rfl, wpAny_letOwnedTupleGo_zip (s := { sh with heap := hp' }) z' fun h'' z'' sbt => ?_⟩
    have hT2 : h''.get? sh.heap.objs.size = some { cls := .type "tuple", data := .seq #[va, vb] } := (sbt.2 _ (Nat.ne_of_gt zl)).trans eT
    have nw : ObjOk Xc.prog Xc.w (upd Hp0 sh.heap.objs.size (.tup [u0, w0])) h'' sh.heap.objs.size (.tup [u0, w0]) :=
      ⟨by show 2 ≤ sizeLine; decide, [va, vb], .cons rva (.cons rvb .nil), ⟨_, hT2, rfl, _, rfl⟩⟩
    have In1 : Inv Xc pns sig (upd Hp0 sh.heap.objs.size (.tup [u0, w0])) { sh with heap := h'' } :=
      In.turnedNew (t' := sh.toks) (ch := [zo, oI, oO, j1, j2]) (fun c0 o0 hb qe => (sbt.2 c0 (fun qf => hb (by simp [qf]))).trans (kk0 c0 o0 (fun qf => hb (by simp [qf])) (fun qf => hb (by simp [qf])) (fun qf => hb (by simp [qf])) (fun qf => hb (by simp [qf])) qe)) hfp (Nat.le_refl _) nw
    refine ⟨.ref sh.heap.objs.size, _, In1, rfl, ⟨_, u0, w0, rfl, In.hok.fresh (Nat.le_refl _), rfl, fun l hl => by rw [In.tuple_inj hl sx]; exact fx, fun l hl => by rw [In.list_inj hl sy]; exact fy⟩, ⟨z'', ?_, ⟨va, vb, ?_⟩, ?_, ?_⟩, fun c0 cmem => ?_⟩
    · exact (sbt.2 _ Ap.TIz).trans (kk0 _ _ Ap.TIz Ap.TITO Ap.TIi1 Ap.TIi2 eI)
    · exact (sbt.2 _ Ap.TOz).trans TO'
    · exact h1'.at fun o0 qe => (sbt.2 _ Ap.i1z).trans qe
    · exact h2'.at fun o0 qe => (sbt.2 _ Ap.i2z).trans qe
    · have clt : c0 < sh.heap.objs.size := by
        have ef : c0 = zo ∨ c0 = oI ∨ c0 = oO ∨ c0 = j1 ∨ c0 = j2 := by simpa using cmem
        rcases ef with qe | qe | qe | qe | qe
        · rw [qe]; exact zl
        · rw [qe]; exact Heap.lt_size eI
        · rw [qe]; exact Heap.lt_size eO
        · rw [qe]; obtain ⟨_, e1, _⟩ := t1; exact Heap.lt_size e1
        · rw [qe]; obtain ⟨_, e2, _⟩ := t2; exact Heap.lt_size e2
      rw [upd_ne (Nat.ne_of_lt clt)]
      exact (hfp c0 cmem).1
  done := by
    intro Xc eP ew eK hcm0 ii pns sh sig Hp0 Ex In hfp stt hgo
    subst eP ew eK
    obtain ⟨ez, eI, ⟨x0, y0, eO⟩, t1, t2⟩ := stt
    obtain ⟨us, ws, sx, sy, fend⟩ := hgo
    obtain ⟨itx, rvx, px, _⟩ := In.tuple sx
    obtain ⟨ity, rvy, py, _⟩ := In.list sy
    have m1 := rvx.length
    have m2 := rvy.length
    have ee : itx.toArray[ii]? = none ∨ ity.toArray[ii]? = none := by
      rcases fend with qe | qe
      · exact .inl (by simp; omega)
      · exact .inr (by simp; omega)
    exact pyNext_zipT_end (In.ok.hd hcm0) Ap ez eI eO t1 t2 px py.isList ee fun hp' kk0 => ⟨rfl, In.turnedL (t' := sh.toks) (ch := [zo, oI, oO, j1, j2]) (fun c0 o0 hb qe =>
      kk0 c0 o0 (fun qf => hb (by simp [qf])) (fun qf => hb (by simp [qf])) (fun qf => hb (by simp [qf])) (fun qf => hb (by simp [qf])) qe) hfp⟩
  self := fun Ar ii sh Wi Ex stt hp => wpAny_pyIter_zip stt.1 hp


def iZipM (K : PySem.W.Frag) (ta : TA) : TI := fun st hp Rr => ta st hp fun vs hq => ∃ a b xs ys, vs = [.ref a, .ref b] ∧ SqT K hq a xs ∧ SqL K hq b ys ∧ Rr (ItzT K a b) hq
theorem pi_zipM {X : Cx} {e e2 : Expr} {ta : TA} {p pos tpos : Pos} {es : List Expr} {nk : Nat} (gl : Gl X "zip") (no : X.mg "zip" = none) (pa : PA X [e, e2] ta)
    (st2 : starEach [e, e2] X.env = (false, eval e X.env) :: starEach [e2] X.env := by rfl) (pl : (backTo pos (starEach [e2] X.env)).any (·.1) = false := by rfl) :
    PI X (.Tuple es nk tpos) (.Call (.Name "zip" p) [e, e2] [] pos) (iZipM X.K ta) := by
  refine ⟨fun pins s0 st hp Rr I0 want => ?_⟩
  refine Call_ (ld_blt I0 gl no PyProof.Rows.boot_zip (PyProof.Rows.callWith_type1 (thn (pa.run pos pins s0 st hp _ I0 want) fun us s1 ⟨vs, H1, I1, rr, qq⟩ => ?_) st2 pl))
  obtain ⟨a, b, xs, ys, rfl, qa, qb, qq⟩ := qq
  obtain ⟨ua, ub, rfl, ra, rb⟩ : ∃ ua ub, us = [ua, ub] ∧ RelV (.ref a) ua ∧ RelV (.ref b) ub := by
    cases rr with
    | cons r1 rr => cases rr with
      | cons r2 rr =>
        cases rr
        exact ⟨_, _, rfl, r1, r2⟩
  cases ra
  cases rb
  obtain ⟨ia, va, pa1, _⟩ := I1.tuple qa
  obtain ⟨ib, vb, pb1, _⟩ := I1.list qb
  obtain ⟨oa, hoa, _⟩ := id pa1
  refine call_zipT (show s1.heap.IsTuple a ia.toArray from pa1) pb1.isList fun hh ez eI eO e1 e2 hsz hk => wpAny_pyIter_zip ez ?_
  have I2 : Inv X pins st H1 { s1 with heap := hh } := I1.kept (t' := s1.toks) hk
  refine ⟨_, [s1.heap.objs.size + 4, s1.heap.objs.size + 2, s1.heap.objs.size + 3, s1.heap.objs.size, s1.heap.objs.size + 1], _, _, H1, rfl, I2, turn_zipT (PySem.W.ktu_apart _ a b (Heap.lt_size hoa) pb1.lt), ⟨ez, eI, ⟨_, _, eO⟩, e1, e2⟩, fun c hc => ?_, qq⟩
  have le : s1.heap.objs.size ≤ c := by
    simp at hc
    rcases hc with q | q | q | q | q <;> rw [q] <;> first | exact Nat.le_add_right _ _ | exact Nat.le_refl _
  exact I1.fpOk le (I1.hok.fresh le)
end ZM
namespace Tb
open PySem PySem.Spec PyProof.Rows L2
/-- a good of the law, a certificate -/
inductive Nd where
  | mk (h : Str) (w : Int) (l : Str) (ks : List Nd)
inductive Pp where
  | mk (r l : Str) (ps : List Pp)
def Nd.h : Nd → Str | .mk h _ _ _ => h
def Nd.w : Nd → Int | .mk _ w _ _ => w
def Nd.l : Nd → Str | .mk _ _ l _ => l
def Nd.ks : Nd → List Nd | .mk _ _ _ ks => ks
def Pp.r : Pp → Str | .mk r _ _ => r
def Pp.l : Pp → Str | .mk _ l _ => l
def Pp.ps : Pp → List Pp | .mk _ _ ps => ps
/-! the law's five rules -/
def chap (h : Str) : Str := cutS h none (some (2 : Int))
structure Row where
  c : Str
  w : Int
  l : Str
def farOf (l : Str) (xs : List Row) : List Row := xs.filter fun x => !decide (x.l = l)
def best : List Row → Row → Row
  | [], b => b
  | x :: xs, b => best xs (if b.w < x.w then x else b)
def sumOf : List Int → Int
  | [] => 0
  | x :: xs => x + sumOf xs
def ruled (h : Str) (w : Int) (l : Str) (s : Int) (xs : List Row) : Str × Str :=
  match xs with
  | [] => ("made", l)
  | _ => match farOf l xs with
    | [] => ("wholly", l)
    | f :: fs => if (f :: fs).all (fun x => !decide (x.c = chap h)) then ("changed", l)
      else if 100 * sumOf ((f :: fs).map Row.w) ≤ s * w then ("value", l)
      else ("taken", (best fs f).l)
mutual
def certOf (s : Int) : Nd → Pp
  | .mk h w l ks => .mk (ruled h w l s (rowsOf s ks)).1 (ruled h w l s (rowsOf s ks)).2 (certsOf s ks)
def certsOf (s : Int) : List Nd → List Pp
  | [] => []
  | k :: ks => certOf s k :: certsOf s ks
def rowsOf (s : Int) : List Nd → List Row
  | [] => []
  | k :: ks => ⟨chap k.h, k.w, (certOf s k).l⟩ :: rowsOf s ks
end
mutual
def Nd.d : Nd → Nat
  | .mk _ _ _ ks => Nd.ds ks + 1
def Nd.ds : List Nd → Nat
  | [] => 0
  | k :: ks => max (Nd.d k) (Nd.ds ks)
end
mutual
def Pp.d : Pp → Nat
  | .mk _ _ ps => Pp.ds ps + 1
def Pp.ds : List Pp → Nat
  | [] => 0
  | p :: ps => max (Pp.d p) (Pp.ds ps)
end
mutual
def Nd.enc : Nd → PyData
  | .mk h w l ks => .tuple [.str h, .int w, .str l, .list (Nd.encs ks)]
def Nd.encs : List Nd → List PyData
  | [] => []
  | k :: ks => Nd.enc k :: Nd.encs ks
end
mutual
def Pp.enc : Pp → PyData
  | .mk r l ps => .tuple [.str r, .str l, .list (Pp.encs ps)]
def Pp.encs : List Pp → List PyData
  | [] => []
  | p :: ps => Pp.enc p :: Pp.encs ps
end
/-! where they stand in the heap, at addresses of S -/
abbrev AS := Addr → Prop
mutual
def NdAt (S : AS) (H : Hp) : Nd → V → Prop
  | .mk h w l ks, v => ∃ (t L : Addr) (vs : List V), v = .ref t ∧ S t ∧ H t = some (.tup [.str h, .int w, .str l, .ref L]) ∧ S L ∧ H L = some (.lst vs) ∧ NdsAt S H ks vs
def NdsAt (S : AS) (H : Hp) : List Nd → List V → Prop
  | [], vs => vs = []
  | k :: ks, vs => ∃ v us, vs = v :: us ∧ NdAt S H k v ∧ NdsAt S H ks us
end
mutual
def PpAt (S : AS) (H : Hp) : Pp → V → Prop
  | .mk r l ps, v => ∃ (t L : Addr) (vs : List V), v = .ref t ∧ S t ∧ H t = some (.tup [.str r, .str l, .ref L]) ∧ S L ∧ H L = some (.lst vs) ∧ PpsAt S H ps vs
def PpsAt (S : AS) (H : Hp) : List Pp → List V → Prop
  | [], vs => vs = []
  | p :: ps, vs => ∃ v us, vs = v :: us ∧ PpAt S H p v ∧ PpsAt S H ps us
end
theorem NdAt.mk_ {S : AS} {H : Hp} {h l : Str} {w : Int} {ks : List Nd} {v : V} : NdAt S H (.mk h w l ks) v = ∃ (t L : Addr) (vs : List V), v = .ref t ∧ S t ∧ H t = some (.tup [.str h, .int w, .str l, .ref L]) ∧ S L ∧ H L = some (.lst vs) ∧ NdsAt S H ks vs := rfl
/-- the objects that are no lists of ints stay at S, and S goes into S' -/
def Ks (S S' : AS) (H H' : Hp) : Prop := ∀ b o, S b → H b = some o → ¬ IntL o → S' b ∧ H' b = some o
mutual
theorem NdsAt.ni {S : AS} {H : Hp} : ∀ {ks : List Nd} {vs : List V}, NdsAt S H ks vs → ¬ IntL (.lst vs)
  | [], _, h => by
    have e : _ = _ := h
    subst e
    exact fun ⟨_, _, e⟩ => by cases e
  | .mk _ _ _ _ :: _, _, h => by
    obtain ⟨v, us, rfl, ⟨t, L, vs, rfl, _⟩, _⟩ := h
    exact fun ⟨_, _, e⟩ => by cases e
end
mutual
theorem NdAt.go {S S' : AS} {H H' : Hp} (K : Ks S S' H H') : ∀ {k : Nd} {v : V}, NdAt S H k v → NdAt S' H' k v
  | .mk h w l ks, v, ⟨t, L, vs, e, st, ht, sL, hL, r⟩ => ⟨t, L, vs, e, (K t _ st ht (ni_tup _)).1, (K t _ st ht (ni_tup _)).2, (K L _ sL hL r.ni).1, (K L _ sL hL r.ni).2, NdsAt.go K r⟩
theorem NdsAt.go {S S' : AS} {H H' : Hp} (K : Ks S S' H H') : ∀ {ks : List Nd} {vs : List V}, NdsAt S H ks vs → NdsAt S' H' ks vs
  | [], _, h => h
  | _ :: _, _, ⟨v, us, e, r, t⟩ => ⟨v, us, e, NdAt.go K r, NdsAt.go K t⟩
end
theorem PpsAt.ni {S : AS} {H : Hp} : ∀ {ks : List Pp} {vs : List V}, PpsAt S H ks vs → ¬ IntL (.lst vs)
  | [], _, h => by
    have e : _ = _ := h
    subst e
    exact fun ⟨_, _, e⟩ => by cases e
  | .mk _ _ _ :: _, _, h => by
    obtain ⟨v, us, rfl, ⟨t, L, vs, rfl, _⟩, _⟩ := h
    exact fun ⟨_, _, e⟩ => by cases e
mutual
theorem PpAt.go {S S' : AS} {H H' : Hp} (K : Ks S S' H H') : ∀ {k : Pp} {v : V}, PpAt S H k v → PpAt S' H' k v
  | .mk r l ks, v, ⟨t, L, vs, e, st, ht, sL, hL, q⟩ => ⟨t, L, vs, e, (K t _ st ht (ni_tup _)).1, (K t _ st ht (ni_tup _)).2, (K L _ sL hL q.ni).1, (K L _ sL hL q.ni).2, PpsAt.go K q⟩
theorem PpsAt.go {S S' : AS} {H H' : Hp} (K : Ks S S' H H') : ∀ {ks : List Pp} {vs : List V}, PpsAt S H ks vs → PpsAt S' H' ks vs
  | [], _, h => h
  | _ :: _, _, ⟨v, us, e, r, t⟩ => ⟨v, us, e, PpAt.go K r, PpsAt.go K t⟩
end
mutual
theorem NdAt.dp {K : PySem.W.Frag} {S : AS} {H : Hp} : ∀ {k : Nd} {v : V}, NdAt S H k v → Dp K H v k.enc
  | .mk h w l ks, v, ⟨t, L, vs, e, st, ht, sL, hL, q⟩ => by
    subst e
    exact .tup (.inl (.inl ht)) (.cons (.str _) (.cons (.int _) (.cons (.str _) (.cons (.lst (sqOf hL) (NdsAt.dp q)) .nil))))
theorem NdsAt.dp {K : PySem.W.Frag} {S : AS} {H : Hp} : ∀ {ks : List Nd} {vs : List V}, NdsAt S H ks vs → DpAll K H vs (Nd.encs ks)
  | [], _, h => by
    have e : _ = _ := h
    subst e
    exact .nil
  | k :: ks, _, ⟨v, us, e, r, t⟩ => by
    subst e
    exact .cons (NdAt.dp r) (NdsAt.dp t)
end
mutual
theorem PpAt.dp {K : PySem.W.Frag} {S : AS} {H : Hp} : ∀ {k : Pp} {v : V}, PpAt S H k v → Dp K H v k.enc
  | .mk r l ks, v, ⟨t, L, vs, e, st, ht, sL, hL, q⟩ => by
    subst e
    exact .tup (.inl (.inl ht)) (.cons (.str _) (.cons (.str _) (.cons (.lst (sqOf hL) (PpsAt.dp q)) .nil)))
theorem PpsAt.dp {K : PySem.W.Frag} {S : AS} {H : Hp} : ∀ {ks : List Pp} {vs : List V}, PpsAt S H ks vs → DpAll K H vs (Pp.encs ks)
  | [], _, h => by
    have e : _ = _ := h
    subst e
    exact .nil
  | k :: ks, _, ⟨v, us, e, r, t⟩ => by
    subst e
    exact .cons (PpAt.dp r) (PpsAt.dp t)
end
/-! lists of them, by index -/
theorem NdsAt.len {S : AS} {H : Hp} : ∀ {ks : List Nd} {vs : List V}, NdsAt S H ks vs → vs.length = ks.length
  | [], _, h => by
    have e : _ = _ := h
    subst e
    rfl
  | _ :: _, _, ⟨v, us, e, _, t⟩ => by
    subst e
    exact congrArg (· + 1) (NdsAt.len t)
theorem NdsAt.at {S : AS} {H : Hp} : ∀ {ks : List Nd} {vs : List V} {i : Nat} {v : V}, NdsAt S H ks vs → vs[i]? = some v → ∃ k, ks[i]? = some k ∧ NdAt S H k v
  | [], _, _, _, h, e => by
    have e2 : _ = _ := h
    subst e2
    cases e
  | k :: ks, _, 0, v, ⟨_, us, e, r, t⟩, q => by
    subst e
    cases q
    exact ⟨k, rfl, r⟩
  | k :: ks, _, i + 1, v, ⟨_, us, e, r, t⟩, q => by
    subst e
    exact NdsAt.at (ks := ks) (i := i) t q
theorem NdsAt.get {S : AS} {H : Hp} {ks : List Nd} {vs : List V} {i : Nat} {k : Nd} (h : NdsAt S H ks vs) (e : ks[i]? = some k) : ∃ v, vs[i]? = some v ∧ NdAt S H k v := by
  have hl : i < vs.length := by
    rw [h.len]
    exact (List.getElem?_eq_some_iff.mp e).1
  obtain ⟨k2, e2, r⟩ := h.at (List.getElem?_eq_getElem hl)
  rw [e] at e2
  cases e2
  exact ⟨_, List.getElem?_eq_getElem hl, r⟩
theorem NdsAt.snoc {S : AS} {H : Hp} : ∀ {ks : List Nd} {vs : List V} {k : Nd} {v : V}, NdsAt S H ks vs → NdAt S H k v → NdsAt S H (ks ++ [k]) (vs ++ [v])
  | [], _, _, _, h, r => by
    have e : _ = _ := h
    subst e
    exact ⟨_, _, rfl, r, rfl⟩
  | _ :: _, _, _, _, ⟨v, us, e, r0, t⟩, r => by
    subst e
    exact ⟨_, _, rfl, r0, NdsAt.snoc t r⟩
theorem PpsAt.len {S : AS} {H : Hp} : ∀ {ks : List Pp} {vs : List V}, PpsAt S H ks vs → vs.length = ks.length
  | [], _, h => by
    have e : _ = _ := h
    subst e
    rfl
  | _ :: _, _, ⟨v, us, e, _, t⟩ => by
    subst e
    exact congrArg (· + 1) (PpsAt.len t)
theorem PpsAt.at {S : AS} {H : Hp} : ∀ {ks : List Pp} {vs : List V} {i : Nat} {v : V}, PpsAt S H ks vs → vs[i]? = some v → ∃ k, ks[i]? = some k ∧ PpAt S H k v
  | [], _, _, _, h, e => by
    have e2 : _ = _ := h
    subst e2
    cases e
  | k :: ks, _, 0, v, ⟨_, us, e, r, t⟩, q => by
    subst e
    cases q
    exact ⟨k, rfl, r⟩
  | k :: ks, _, i + 1, v, ⟨_, us, e, r, t⟩, q => by
    subst e
    exact PpsAt.at (ks := ks) (i := i) t q
theorem PpsAt.get {S : AS} {H : Hp} {ks : List Pp} {vs : List V} {i : Nat} {k : Pp} (h : PpsAt S H ks vs) (e : ks[i]? = some k) : ∃ v, vs[i]? = some v ∧ PpAt S H k v := by
  have hl : i < vs.length := by
    rw [h.len]
    exact (List.getElem?_eq_some_iff.mp e).1
  obtain ⟨k2, e2, r⟩ := h.at (List.getElem?_eq_getElem hl)
  rw [e] at e2
  cases e2
  exact ⟨_, List.getElem?_eq_getElem hl, r⟩
theorem PpsAt.of {S : AS} {H : Hp} : ∀ {ks : List Pp} {vs : List V}, vs.length = ks.length → (∀ (i : Nat) (k : Pp) (v : V), ks[i]? = some k → vs[i]? = some v → PpAt S H k v) → PpsAt S H ks vs
  | [], [], _, _ => rfl
  | [], _ :: _, e, _ => by cases e
  | _ :: _, [], e, _ => by cases e
  | k :: ks, v :: vs, e, h => ⟨v, vs, rfl, h 0 k v rfl rfl, PpsAt.of (Nat.succ.inj e) fun i k v a b => h (i + 1) k v a b⟩
theorem PpsAt.snoc {S : AS} {H : Hp} : ∀ {ks : List Pp} {vs : List V} {k : Pp} {v : V}, PpsAt S H ks vs → PpAt S H k v → PpsAt S H (ks ++ [k]) (vs ++ [v])
  | [], _, _, _, h, r => by
    have e : _ = _ := h
    subst e
    exact ⟨_, _, rfl, r, rfl⟩
  | _ :: _, _, _, _, ⟨v, us, e, r0, t⟩, r => by
    subst e
    exact ⟨_, _, rfl, r0, PpsAt.snoc t r⟩
theorem NdAt.ref {S : AS} {H : Hp} : ∀ {k : Nd} {v : V}, NdAt S H k v → ∃ (t L : Addr) (vs : List V), v = .ref t ∧ S t ∧ H t = some (.tup [.str k.h, .int k.w, .str k.l, .ref L]) ∧ S L ∧ H L = some (.lst vs) ∧ NdsAt S H k.ks vs
  | .mk _ _ _ _, _, h => h
theorem PpAt.ref {S : AS} {H : Hp} : ∀ {k : Pp} {v : V}, PpAt S H k v → ∃ (t L : Addr) (vs : List V), v = .ref t ∧ S t ∧ H t = some (.tup [.str k.r, .str k.l, .ref L]) ∧ S L ∧ H L = some (.lst vs) ∧ PpsAt S H k.ps vs
  | .mk _ _ _, _, h => h
/-! what they keep -/
mutual
def Nd.ok : Nd → Prop
  | .mk h w l ks => Ad (tl h) ∧ Nm (tl l) ∧ 0 ≤ w ∧ sumOf (ks.map Nd.w) ≤ w ∧ ks.length ≤ 8 ∧ Nd.oks ks
def Nd.oks : List Nd → Prop
  | [] => True
  | k :: ks => Nd.ok k ∧ Nd.oks ks
end
mutual
def Pp.ok : Pp → Prop
  | .mk r l ps => Sg r ∧ Sg l ∧ ps.length ≤ 40 ∧ Pp.oks ps
def Pp.oks : List Pp → Prop
  | [] => True
  | p :: ps => Pp.ok p ∧ Pp.oks ps
end
theorem Nd.oks_mem : ∀ {ks : List Nd}, Nd.oks ks → ∀ k ∈ ks, k.ok
  | [], _, _, h => by cases h
  | _ :: _, ⟨a, b⟩, x, hx => (List.mem_cons.mp hx).elim (fun e => e ▸ a) (Nd.oks_mem b x)
theorem Nd.oks_of : ∀ {ks : List Nd}, (∀ k ∈ ks, k.ok) → Nd.oks ks
  | [], _ => trivial
  | k :: ks, h => ⟨h k (List.mem_cons_self ..), Nd.oks_of fun x hx => h x (List.mem_cons_of_mem _ hx)⟩
theorem Pp.oks_mem : ∀ {ks : List Pp}, Pp.oks ks → ∀ k ∈ ks, k.ok
  | [], _, _, h => by cases h
  | _ :: _, ⟨a, b⟩, x, hx => (List.mem_cons.mp hx).elim (fun e => e ▸ a) (Pp.oks_mem b x)
theorem Pp.oks_of : ∀ {ks : List Pp}, (∀ k ∈ ks, k.ok) → Pp.oks ks
  | [], _ => trivial
  | k :: ks, h => ⟨h k (List.mem_cons_self ..), Pp.oks_of fun x hx => h x (List.mem_cons_of_mem _ hx)⟩
theorem strOk_sg {z : Str} (h : Sg z) : PyData.strOk z = true := by
  show z.cps.all _ = true
  rw [← Array.all_toList, List.all_eq_true]
  exact fun c hc => decide_eq_true (h c hc)
/-! == of them -/
mutual
theorem Nd.lay : ∀ (k : Nd), k.ok → PyData.canLay0 k.enc = true
  | .mk h w l ks, ⟨a, b, _, _, _, o⟩ => by
    show (PyData.strOk h && (true && (PyData.strOk l && (PyData.canLayAll0 (Nd.encs ks) && true)))) = true
    rw [strOk_sg (ad_tx a).sg, strOk_sg (nm_tx b).sg, Nd.lays ks o]
    rfl
theorem Nd.lays : ∀ (ks : List Nd), Nd.oks ks → PyData.canLayAll0 (Nd.encs ks) = true
  | [], _ => rfl
  | k :: ks, ⟨a, b⟩ => by
    show (PyData.canLay0 k.enc && PyData.canLayAll0 (Nd.encs ks)) = true
    rw [Nd.lay k a, Nd.lays ks b]
    rfl
end
mutual
theorem Pp.lay : ∀ (k : Pp), k.ok → PyData.canLay0 k.enc = true
  | .mk r l ks, ⟨a, b, _, o⟩ => by
    show (PyData.strOk r && (PyData.strOk l && (PyData.canLayAll0 (Pp.encs ks) && true))) = true
    rw [strOk_sg a, strOk_sg b, Pp.lays ks o]
    rfl
theorem Pp.lays : ∀ (ks : List Pp), Pp.oks ks → PyData.canLayAll0 (Pp.encs ks) = true
  | [], _ => rfl
  | k :: ks, ⟨a, b⟩ => by
    show (PyData.canLay0 k.enc && PyData.canLayAll0 (Pp.encs ks)) = true
    rw [Pp.lay k a, Pp.lays ks b]
    rfl
end
mutual
theorem Nd.dep : ∀ (k : Nd), k.enc.depth = 2 * k.d
  | .mk h w l ks => by
    show max 0 (max 0 (max 0 (max (PyData.depthAll (Nd.encs ks) + 1) 0))) + 1 = 2 * (Nd.ds ks + 1)
    have := Nd.deps ks
    omega
theorem Nd.deps : ∀ (ks : List Nd), PyData.depthAll (Nd.encs ks) = 2 * Nd.ds ks
  | [] => rfl
  | k :: ks => by
    show max k.enc.depth (PyData.depthAll (Nd.encs ks)) = 2 * max k.d (Nd.ds ks)
    have := Nd.dep k
    have := Nd.deps ks
    omega
end
mutual
theorem Pp.dep : ∀ (k : Pp), k.enc.depth = 2 * k.d
  | .mk r l ks => by
    show max 0 (max 0 (max (PyData.depthAll (Pp.encs ks) + 1) 0)) + 1 = 2 * (Pp.ds ks + 1)
    have := Pp.deps ks
    omega
theorem Pp.deps : ∀ (ks : List Pp), PyData.depthAll (Pp.encs ks) = 2 * Pp.ds ks
  | [] => rfl
  | k :: ks => by
    show max k.enc.depth (PyData.depthAll (Pp.encs ks)) = 2 * max k.d (Pp.ds ks)
    have := Pp.dep k
    have := Pp.deps ks
    omega
end
theorem shaped_nd {k : Nd} (h : k.ok) (hd : k.d ≤ 20) : SeqAt.shaped k.enc = true := by
  unfold SeqAt.shaped
  rw [Nd.lay k h, Nd.dep k, Bool.true_and]
  exact decide_eq_true (by omega)
theorem shaped_pp {k : Pp} (h : k.ok) (hd : k.d ≤ 20) : SeqAt.shaped k.enc = true := by
  unfold SeqAt.shaped
  rw [Pp.lay k h, Pp.dep k, Bool.true_and]
  exact decide_eq_true (by omega)
mutual
theorem Pp.eqv_eq : ∀ (a b : Pp), PyData.eqv a.enc b.enc = true → a = b
  | .mk r l ps, .mk r' l' ps', h => by
    have h : (r == r' && (l == l' && (PyData.eqvAll (Pp.encs ps) (Pp.encs ps') && true))) = true := h
    rw [Bool.and_true, Bool.and_eq_true, Bool.and_eq_true] at h
    obtain ⟨h1, h2, h3⟩ := h
    rw [eq_of_beq h1, eq_of_beq h2, Pp.eqvs_eq ps ps' h3]
theorem Pp.eqvs_eq : ∀ (a b : List Pp), PyData.eqvAll (Pp.encs a) (Pp.encs b) = true → a = b
  | [], [], _ => rfl
  | [], _ :: _, h => by cases h
  | _ :: _, [], h => by cases h
  | a :: as, b :: bs, h => by
    have h : (PyData.eqv a.enc b.enc && PyData.eqvAll (Pp.encs as) (Pp.encs bs)) = true := h
    rw [Bool.and_eq_true] at h
    rw [Pp.eqv_eq a b h.1, Pp.eqvs_eq as bs h.2]
end
mutual
theorem Nd.eqv_eq : ∀ (a b : Nd), PyData.eqv a.enc b.enc = true → a = b
  | .mk r w l ps, .mk r' w' l' ps', h => by
    have h : (r == r' && (w == w' && (l == l' && (PyData.eqvAll (Nd.encs ps) (Nd.encs ps') && true)))) = true := h
    rw [Bool.and_true, Bool.and_eq_true, Bool.and_eq_true, Bool.and_eq_true] at h
    obtain ⟨h1, h2, h3, h4⟩ := h
    rw [eq_of_beq h1, eq_of_beq h2, eq_of_beq h3, Nd.eqvs_eq ps ps' h4]
theorem Nd.eqvs_eq : ∀ (a b : List Nd), PyData.eqvAll (Nd.encs a) (Nd.encs b) = true → a = b
  | [], [], _ => rfl
  | [], _ :: _, h => by cases h
  | _ :: _, [], h => by cases h
  | a :: as, b :: bs, h => by
    have h : (PyData.eqv a.enc b.enc && PyData.eqvAll (Nd.encs as) (Nd.encs bs)) = true := h
    rw [Bool.and_eq_true] at h
    rw [Nd.eqv_eq a b h.1, Nd.eqvs_eq as bs h.2]
end
theorem Pp.eqv_refl {a : Pp} (h : a.ok) : PyData.eqv a.enc a.enc = true := SeqAt.eqv_refl _ (Pp.lay a h)
end Tb
namespace Tb
open PySem PySem.Spec PyProof.Rows L2
def inClass (st : Stmt) (i : Nat) : Stmt := match st with
  | .ClassDef _ _ _ body .. => body.getD i (.Pass ⟨0, 0, 0, 0⟩)
  | _ => .Pass ⟨0, 0, 0, 0⟩
abbrev sGoodInit : Stmt := inClass (topS 13) 0
abbrev NGoodInit : List Str := ["self", "heading", "worth", "land", "parts", "part"]
theorem scGoodInit : FnScope NGoodInit ["self", "heading", "worth", "land", "parts"] (defScope sGoodInit) := ⟨rfl, rfl, rfl, by decide +kernel, rfl, by decide +kernel, by decide +kernel⟩
abbrev sGoodWorth : Stmt := inClass (topS 13) 1
abbrev NGoodWorth : List Str := ["self"]
theorem scGoodWorth : FnScope NGoodWorth ["self"] (defScope sGoodWorth) := ⟨rfl, rfl, rfl, by decide +kernel, rfl, by decide +kernel, by decide +kernel⟩
theorem sqT_ins {K : PySem.W.Frag} {C2 dx x T : Addr} {fs : List (Str × V)} {us : List V} {H : Hp} {o : HO} (hx : H x = some (.ins C2 dx fs)) (h : SqT K H T us) : SqT K (upd H x o) T us := by
  have ne : ∀ {u : HO}, H T = some u → (∀ q, u ≠ .ins C2 dx q) → T ≠ x := fun hT n e => by
    rw [e, hx] at hT
    exact n _ (Option.some.inj hT).symm
  rcases h with (h | ⟨o2, h⟩) | h
  · exact .inl (.inl (by rw [upd_ne (ne h fun q z => by cases z)]; exact h))
  · exact .inl (.inr ⟨o2, by rw [upd_ne (ne h fun q z => by cases z)]; exact h⟩)
  · exact .inr h
/-- a def with defaults -/
abbrev FunDf (K : PySem.W.Frag) (x qual : Str) (st : Stmt) (dvs : List V) (f : Addr) (fd : FuncData) : Prop := FunD K x qual (defArgs st) (defBody st) (defScope st) dvs [] f fd
theorem funD_ok {P : Program} {w : World} {K : PySem.W.Frag} {mg : Str → Option Value} {base : Heap} {x qual : Str} {st : Stmt} {dvs : List V} {f : Addr} {fd : FuncData} {N ps : List Str} {k : Nat} {sp : Sp} (F : FunDf K x qual st dvs f fd) (S : FnScope N ps (defScope st)) (len : ∀ vs H Q E, sp vs H Q E → vs.length = ps.length)
    (hbody : ∀ (cdv : Value) (A : Around) (outer : List Env) (s : Shared) (H : Hp) (vs : List V) (Q : VK) (E : XK), Room k (A.deeper (envOfC qual (defScope st) s.heap.objs.size f cdv)) → sp vs H Q E →
      ∃ t, PSs (cxOf CX0 P w K mg base N qual (defScope st) f cdv A outer s H E).nox (defBody st) t ∧ t { nx := fun _ H' => Q .non H', rt := Q } (start N vs) H) : FnOk P w K mg base CX0 (k + 1) f fd ps sp :=
  F.ok S len fun cdv A outer s H vs Q E hr hs => (hbody cdv A outer s H vs Q E hr hs).elim fun t q => ⟨t, q.1.nox, q.2⟩
/-- a def of the text that has defaults: it may be called with them or without -/
structure DdD (K : PySem.W.Frag) (mg : Str → Option Value) (x : Str) (st : Stmt) (ps : List Str) (dvs : List V) (f : Addr) (fd : FuncData) : Prop where
  F : FunDf K x x st dvs f fd
  b : Binds K fd ps []
  d : ∃ ds, Vals dvs ds ∧ Binds K fd ps ds
  g : mg x = some (.ref f)
structure C1D (P : Program) (w : World) (K : PySem.W.Frag) (mg : Str → Option Value) (base : Heap) (x : Str) (st : Stmt) (ps : List Str) (dvs : List V) (l : Nat) (sp : Sp) (g : Addr) (gd : FuncData) : Prop where
  D : DdD K mg x st ps dvs g gd
  G : FnOk P w K mg base CX0 l g gd ps sp
/-- what a good has -/
def goodF (h l : Str) (w : Int) (T : Addr) : List (Str × V) := [("heading", .str h), ("land", .str l), ("parts", .ref T), ("chapter", .str (chap h)), ("_worth", .int w)]
structure GCls (K : PySem.W.Frag) (C pw fw : Addr) (gdw : FuncData) : Prop where
  c : Cls K C
  nh : NoAttr K C "heading"
  nl : NoAttr K C "land"
  np : NoAttr K C "parts"
  nc : NoAttr K C "chapter"
  nw : NoAttr K C "_worth"
  pw : PropOf K C "worth" pw fw
  Fw : Fun K "worth" "Good.worth" sGoodWorth fw gdw
  bw : Binds K gdw ["self"] []
section
variable {P : Program} {w : World} {K : PySem.W.Frag} {mg : Str → Option Value} {base : Heap} {C pw fw : Addr} {gdw : FuncData}
theorem GCls.Gw (T : GCls K C pw fw gdw) : FnOk P w K mg base CX0 1 fw gdw ["self"] (getSp C "_worth") := by
  refine T.Fw.ok scGoodWorth (fun vs H Q E h => ?_) (fun cdv A outer s H vs Q E hr h => ?_)
  · obtain ⟨a, dx, fs, v, rfl, _⟩ := h
    rfl
  · obtain ⟨a, dx, fs, v, rfl, ha, hl, q⟩ := h
    refine ⟨_, (pss_one (ps_ret (pe_fld (pv 0) rfl))), ?_⟩
    exact ⟨.ref a, rfl, a, C, dx, fs, v, rfl, ha, T.c, T.nw, hl, q⟩
end
/-! where goods stand -/
mutual
def GdAt (K : PySem.W.Frag) (C : Addr) (H : Hp) : Nd → V → Prop
  | .mk h w l ks, v => ∃ (a dx T : Addr) (vs : List V), v = .ref a ∧ H a = some (.ins C dx (goodF h l w T)) ∧ SqT K H T vs ∧ GdsAt K C H ks vs
def GdsAt (K : PySem.W.Frag) (C : Addr) (H : Hp) : List Nd → List V → Prop
  | [], vs => vs = []
  | k :: ks, vs => ∃ v us, vs = v :: us ∧ GdAt K C H k v ∧ GdsAt K C H ks us
end
/-- all but lists stays -/
def Kg (H H' : Hp) : Prop := ∀ b o, H b = some o → (∀ xs, o ≠ .lst xs) → H' b = some o
theorem Kg.refl (H : Hp) : Kg H H := fun _ _ h _ => h
theorem Kg.trans {H H1 H2 : Hp} (a : Kg H H1) (b : Kg H1 H2) : Kg H H2 := fun c o h n => b c o (a c o h n) n
theorem Same.kg {H H' : Hp} (h : Same H H') : Kg H H' := fun b o e _ => h b o e
theorem Kp.kg {H H' : Hp} (h : Kp H H') : Kg H H' := fun b o e n => h b o e fun ⟨_, _, z⟩ => n _ z
theorem But.kg {H H' : Hp} {p : Addr} {xs : List V} (hp : H p = some (.lst xs)) (h : But p H H') : Kg H H' := fun b o e n => h b o e fun z => by
  rw [z, hp] at e
  exact n xs (Option.some.inj e).symm
theorem Kg.upd {H : Hp} {p : Addr} {xs : List V} {o : HO} (hp : H p = some (.lst xs)) : Kg H (upd H p o) := But.kg hp But.upd
theorem SqT.kg {K : PySem.W.Frag} {H H' : Hp} {T : Addr} {vs : List V} (h : SqT K H T vs) (k : Kg H H') : SqT K H' T vs := by
  rcases h with (h | ⟨o, h⟩) | h
  · exact .inl (.inl (k _ _ h fun _ e => by cases e))
  · exact .inl (.inr ⟨o, k _ _ h fun _ e => by cases e⟩)
  · exact .inr h
/-- goods and tuples stay -/
structure Kd (K : PySem.W.Frag) (C : Addr) (H H' : Hp) : Prop where
  g : ∀ (a dx : Addr) (h l : Str) (w : Int) (T : Addr), H a = some (.ins C dx (goodF h l w T)) → H' a = some (.ins C dx (goodF h l w T))
  t : ∀ (T : Addr) (vs : List V), SqT K H T vs → SqT K H' T vs
theorem Kg.kd {K : PySem.W.Frag} {C : Addr} {H H' : Hp} (k : Kg H H') : Kd K C H H' :=
  ⟨fun a _ _ _ _ _ h => k a _ h (fun _ e => by cases e), fun _ _ h => SqT.kg h k⟩
mutual
theorem GdAt.go {K : PySem.W.Frag} {C : Addr} {H H' : Hp} (k : Kd K C H H') : ∀ {n : Nd} {v : V}, GdAt K C H n v → GdAt K C H' n v
  | .mk h w l ks, v, ⟨a, dx, T, vs, e, ha, hT, r⟩ => ⟨a, dx, T, vs, e, k.g _ _ _ _ _ _ ha, k.t _ _ hT, GdsAt.go k r⟩
theorem GdsAt.go {K : PySem.W.Frag} {C : Addr} {H H' : Hp} (k : Kd K C H H') : ∀ {ns : List Nd} {vs : List V}, GdsAt K C H ns vs → GdsAt K C H' ns vs
  | [], _, h => h
  | _ :: _, _, ⟨v, us, e, r, t⟩ => ⟨v, us, e, GdAt.go k r, GdsAt.go k t⟩
end
theorem GdAt.kg {K : PySem.W.Frag} {C : Addr} {H H' : Hp} {n : Nd} {v : V} (h : GdAt K C H n v) (k : Kg H H') : GdAt K C H' n v := h.go k.kd
theorem GdsAt.kg {K : PySem.W.Frag} {C : Addr} {H H' : Hp} {n : List Nd} {v : List V} (h : GdsAt K C H n v) (k : Kg H H') : GdsAt K C H' n v := h.go k.kd
/-- all but x, a new instance -/
def Bx (x : Addr) (H H' : Hp) : Prop := ∀ b o, H b = some o → b ≠ x → H' b = some o
theorem Bx.kd {K : PySem.W.Frag} {C C2 dx x : Addr} {H H' : Hp} (hx : H x = some (.ins C2 dx [])) (k : Bx x H H') : Kd K C H H' := by
  refine ⟨fun a d h l w T ha => k a _ ha fun e => ?_, fun T vs h => ?_⟩
  · rw [e, hx] at ha
    cases ha
  · rcases h with (h | ⟨o, h⟩) | h
    · exact .inl (.inl (k _ _ h fun e => by rw [e, hx] at h; cases h))
    · exact .inl (.inr ⟨o, k _ _ h fun e => by rw [e, hx] at h; cases h⟩)
    · exact .inr h
theorem Bx.sqL {K : PySem.W.Frag} {C2 dx x p : Addr} {us : List V} {H H' : Hp} (hx : H x = some (.ins C2 dx [])) (k : Bx x H H') (h : SqL K H p us) : SqL K H' p us := by
  rcases h with (h | ⟨o, h⟩) | h
  · exact .inl (.inl (k _ _ h fun e => by rw [e, hx] at h; cases h))
  · exact .inl (.inr ⟨o, k _ _ h fun e => by rw [e, hx] at h; cases h⟩)
  · exact .inr h
theorem Bx.upd {x : Addr} {H H' : Hp} {o : HO} (k : Bx x H H') : Bx x H (upd H' x o) := fun b u h n => by
  rw [upd_ne n]
  exact k b u h n
theorem Bx.new {x D : Addr} {H H' : Hp} {o : HO} (k : Bx x H H') (nD : H' D = none) : Bx x H (L2.upd H' D o) := fun b u h n => by
  rw [upd_ne (ne_of_none (k b u h n) nD)]
  exact k b u h n
theorem GdAt.ref {K : PySem.W.Frag} {C : Addr} {H : Hp} : ∀ {n : Nd} {v : V}, GdAt K C H n v → ∃ (a dx T : Addr) (vs : List V), v = .ref a ∧ H a = some (.ins C dx (goodF n.h n.l n.w T)) ∧ SqT K H T vs ∧ GdsAt K C H n.ks vs
  | .mk _ _ _ _, _, h => h
theorem GdsAt.len {K : PySem.W.Frag} {C : Addr} {H : Hp} : ∀ {ks : List Nd} {vs : List V}, GdsAt K C H ks vs → vs.length = ks.length
  | [], _, h => by
    have e : _ = _ := h
    subst e
    rfl
  | _ :: _, _, ⟨v, us, e, _, t⟩ => by
    subst e
    exact congrArg (· + 1) (GdsAt.len t)
theorem GdsAt.at {K : PySem.W.Frag} {C : Addr} {H : Hp} : ∀ {ks : List Nd} {vs : List V} {i : Nat} {v : V}, GdsAt K C H ks vs → vs[i]? = some v → ∃ k, ks[i]? = some k ∧ GdAt K C H k v
  | [], _, _, _, h, e => by
    have e2 : _ = _ := h
    subst e2
    cases e
  | k :: ks, _, 0, v, ⟨_, us, e, r, t⟩, q => by
    subst e
    cases q
    exact ⟨k, rfl, r⟩
  | k :: ks, _, i + 1, v, ⟨_, us, e, r, t⟩, q => by
    subst e
    exact GdsAt.at (ks := ks) (i := i) t q
theorem GdsAt.snoc {K : PySem.W.Frag} {C : Addr} {H : Hp} : ∀ {ks : List Nd} {vs : List V} {k : Nd} {v : V}, GdsAt K C H ks vs → GdAt K C H k v → GdsAt K C H (ks ++ [k]) (vs ++ [v])
  | [], _, _, _, h, r => by
    have e : _ = _ := h
    subst e
    exact ⟨_, _, rfl, r, rfl⟩
  | _ :: _, _, _, _, ⟨v, us, e, r0, t⟩, r => by
    subst e
    exact ⟨_, _, rfl, r0, GdsAt.snoc t r⟩
theorem sumOf_sum : ∀ xs : List Int, xs.sum = sumOf xs
  | [] => rfl
  | x :: xs => by
    rw [List.sum_cons, sumOf_sum xs]
    rfl
/-- [part.worth for part in ..]: one reading -/
theorem fld_nd {T : Addr} {h l : Str} {w : Int} : (goodF h l w T).lookup ("heading" : Str) = some (V.str h) ∧ (goodF h l w T).lookup ("land" : Str) = some (V.str l) ∧ (goodF h l w T).lookup ("parts" : Str) = some (V.ref T) ∧ (goodF h l w T).lookup ("chapter" : Str) = some (V.str (chap h)) ∧ (goodF h l w T).lookup ("_worth" : Str) = some (V.int w) :=
  ⟨rfl, rfl, rfl, rfl, rfl⟩
theorem putF_ne {f g : Str} {v x : V} {r : List (Str × V)} (h : g ≠ f) : putF f v ((g, x) :: r) = (g, x) :: putF f v r := by
  show (if g = f then _ else _) = _
  rw [if_neg h]
theorem putF_nil {f : Str} {v : V} : putF f v [] = [(f, v)] := rfl
section
variable {P : Program} {w : World} {K : PySem.W.Frag} {mg : Str → Option Value} {base : Heap} {C pw fw : Addr} {gdw : FuncData}
abbrev CIsAddr (P : Program) (w : World) (K : PySem.W.Frag) (mg : Str → Option Value) (base : Heap) (g : Addr) (gd : FuncData) := C1 P w K mg base "is_address" sIsAddr ["text"] 3 (spT isAddr) g gd
abbrev CIsName (P : Program) (w : World) (K : PySem.W.Frag) (mg : Str → Option Value) (base : Heap) (g : Addr) (gd : FuncData) := C1 P w K mg base "is_name" sIsName ["text"] 3 (spT isName) g gd
def spInit (K : PySem.W.Frag) (C : Addr) : Sp := fun vs H Q _ => ∃ (x dx p : Addr) (n : Nd) (us : List V), vs = [.ref x, .str n.h, .int n.w, .str n.l, .ref p] ∧ H x = some (.ins C dx []) ∧ n.ok ∧ (SqL K H p us ∨ SqT K H p us) ∧ GdsAt K C H n.ks us ∧
  ∀ (H' : Hp), (∀ b o, H b = some o → b ≠ x → H' b = some o) → GdAt K C H' n (.ref x) → Q .non H'
theorem ok_goodInit {f g g2 : Addr} {fd gd gd2 : FuncData} {dvs : List V} (F : FunDf K "__init__" "Good.__init__" sGoodInit dvs f fd) (T : GCls K C pw fw gdw) (cIsAddr : CIsAddr P w K mg base g gd) (cIsName : CIsName P w K mg base g2 gd2) (B : Blt mg) : FnOk P w K mg base CX0 4 f fd ["self", "heading", "worth", "land", "parts"] (spInit K C) := by
  refine funD_ok F scGoodInit (fun vs H Q E h => ?_) (fun cdv A outer s H vs Q E hr h => ?_)
  · obtain ⟨x, dx, p, n, us, rfl, _⟩ := h
    rfl
  · obtain ⟨x, dx, p, n, us, rfl, hx, hok, hp, hks, q⟩ := h
    refine ⟨_, (pss_cons (ps_fld (pv 0) (pv 1) rfl)
      (pss_cons (ps_fld (pv 0) (pv 3) rfl)
      (pss_cons (ps_fld (pv 0) (pe_callTy call_tuple_of (by rfl) B.tuple PyProof.Rows.boot_tuple (pa_cons (pv 4) pa_nil)) rfl)
      (pss_cons (ps_fld (pv 0) (pe_slice sl_str (pv 1) po_none (po_some pe_int)) rfl)
      (pss_cons (ps_fld (pv 0) (pv 2) rfl)
      (pss_cons (ps_if (PW.pt (pw_or (pt_not (pt_val (pe_call cIsAddr.G (hr.mono (by first | decide | omega)) (by rfl) cIsAddr.D.g cIsAddr.D.F.kp cIsAddr.D.b .nil pass0 (pa_cons (pv 1) pa_nil)))) (pw_or (pt_cmpR op_lt (pv 2) pe_int (nomark _)) (pw_or1 (pt_not (pt_val (pe_call cIsName.G (hr.mono (by first | decide | omega)) (by rfl) cIsName.D.g cIsName.D.F.kp cIsName.D.b .nil pass0 (pa_cons (pv 3) pa_nil))))))))
        (pss_one ps_never)
        pss_nil)
      (pss_one (ps_if (pt_cmpR op_gt (pe_callB (cr_sum rfl) (by rfl) B.sum (by decide +kernel) (pa_cons (pe_lc (own := [("part", 5)]) (g := gName 5) (by rfl) scGoodInit.nd (pi_tup (pe_fld (pv 0) rfl)) (blkOk_by (N := NGoodInit) (sc := defScope sGoodInit) (by decide +kernel)) (fun _ _ _ _ _ => pg_name (i := 5) scGoodInit.nd rfl (Or.inl rfl)) (fun _ _ _ _ _ => pts_nil) (fun _ _ _ _ _ => pe_prop (pv 5) T.c T.pw T.Gw (hr.mono (by first | decide | omega)) T.bw .nil pass0 rfl)) pa_nil)) (pv 2) (nomark _))
        (pss_one ps_never)
        pss_nil)))))))), ?_⟩
    refine ⟨.str n.h, rfl, .ref x, rfl, x, C, dx, _, rfl, hx, T.c, T.nh, by decide, ?_⟩
    refine ⟨.str n.l, rfl, .ref x, rfl, x, C, dx, _, rfl, upd_same, T.c, T.nl, ?_, ?_⟩
    · exact (by decide : 1 < 1000)
    have hz : sizeLine = 16777216 := rfl
    obtain ⟨nh, nw, nl, nks⟩ := n
    obtain ⟨a1, a2, a3, a4, a5, a6⟩ := hok
    have hA : isAddr nh = true := (isAddr_iff _).mpr a1
    have hN : isName nl = true := (isName_iff _).mpr a2
    have lA := (ad_tx a1).len
    have lN := (nm_tx a2).len
    generalize hH2 : upd (upd H x _) x _ = H2
    have b2 : Bx x H H2 := by
      rw [← hH2]
      exact (Bx.upd (fun _ _ h _ => h)).upd
    have hx2 : H2 x = some (.ins C dx [("heading", .str nh), ("land", .str nl)]) := by
      rw [← hH2]
      exact upd_same
    refine ⟨.ref p, rfl, p, us, rfl, ?_⟩
    rcases hp with hp | hp
    refine .inl ⟨b2.sqL hx hp, fun Tp nT => ?_⟩
    have b3 := b2.new (o := .tup us) nT
    have hx3 := same_upd (o := .tup us) nT _ _ hx2
    have hT : SqT K (upd H2 Tp (.tup us)) Tp us := .inl (.inl upd_same)
    revert b3 hx3 hT
    generalize upd H2 Tp _ = H3
    intro b3 hx3 hT
    rotate_left
    refine .inr ⟨(b2.kd (C := C) hx).t _ _ hp, ?_⟩
    have b3 := b2
    have hx3 := hx2
    have hT := (b2.kd (C := C) hx).t _ _ hp
    revert b3 hx3 hT
    generalize H2 = H3
    intro b3 hx3 hT
    all_goals
      refine ⟨.ref x, rfl, x, C, dx, _, rfl, hx3, T.c, T.np, ?_, ?_⟩
      · exact (by decide : 2 < 1000)
      refine ⟨.str nh, rfl, 2, rfl, nh, rfl, by omega, .ref x, rfl, x, C, dx, _, rfl, upd_same, T.c, T.nc, ?_, ?_⟩
      · exact (by decide : 3 < 1000)
      refine ⟨.int nw, rfl, .ref x, rfl, x, C, dx, _, rfl, upd_same, T.c, T.nw, ?_, ?_⟩
      · exact (by decide : 4 < 1000)
      generalize hH4 : upd (upd (upd H3 x _) x _) x _ = H4
      have b4 : Bx x H H4 := by
        rw [← hH4]
        exact ((b3.upd).upd).upd
      have hT4 : ∃ Tp, SqT K H4 Tp us ∧ H4 x = some (.ins C dx (goodF nh nl nw Tp)) := by
        rw [← hH4]
        exact ⟨_, sqT_ins upd_same (sqT_ins upd_same (sqT_ins hx3 hT)), upd_same⟩
      clear hT hx3 b3 hH4 hH2 hx2 b2 hp
      obtain ⟨Tp, hT4, hx4⟩ := hT4
      refine ⟨.str nh, rfl, nh, rfl, by omega, fun H5 S5 => ⟨_, rfl, ?_⟩⟩
      rw [hA]
      refine ⟨.int nw, rfl, nw, 0, rfl, rfl, _, rfl, ?_⟩
      rw [decide_eq_false (show ¬ nw < 0 by omega)]
      refine ⟨.str nl, rfl, nl, rfl, by omega, fun H6 S6 => ⟨_, rfl, ?_⟩⟩
      rw [hN]
      have S46 : Same H4 H6 := Same.trans S5 S6
      have hks4 : GdsAt K C H4 nks us := GdsAt.go (b4.kd hx) hks
      have hks6 : GdsAt K C H6 nks us := hks4.kg (Same.kg S46)
      refine ⟨.ref x, rfl, x, C, dx, _, .ref Tp, rfl, S46 _ _ hx4, T.c, T.np, fld_nd.2.2.1, Tp, rfl, ⟨us, SqT.kg hT4 (Same.kg S46)⟩, fun D nD => lc_it (walk_tup (K := K) (a := Tp) (xs := us)) (fun i H7 => Same H6 H7 ∧ H7 D = some (.lst (((nks.take i).map Nd.w).map V.int))) ⟨same_upd nD, upd_same⟩ (fun i H7 _ hP => SqT.kg hT4 (Same.kg (Same.trans S46 hP.1))) (fun i v H7 H8 hi hP hy => ?_) (fun H7 hP => ?_)⟩
      · obtain ⟨S7, hD⟩ := hP
        obtain ⟨rfl, ev⟩ := hy
        obtain ⟨k, ek, gk⟩ := (hks6.kg (Same.kg S7)).at ev
        obtain ⟨a, d2, T2, vs2, rfl, ha, _, _⟩ := gk.ref
        refine ⟨rfl, _, rfl, a, d2, _, rfl, ha, a, d2, _, _, rfl, ha, fld_nd.2.2.2.2, _, hD, ?_, ?_, ?_⟩
        · rw [List.length_map, List.length_map, List.length_take]
          omega
        · intro b o hb
          rw [upd_ne (ne_of_none hb nD)]
          exact S7 _ _ hb
        · rw [upd_same, List.take_add_one, ek, List.map_append, List.map_append]
          rfl
      · obtain ⟨S7, hD⟩ := hP
        rw [hks6.len, List.take_length] at hD
        refine ⟨D, nks.map Nd.w, rfl, sqOf hD, .int nw, rfl, _, _, rfl, rfl, _, rfl, ?_⟩
        rw [decide_eq_false (by rw [sumOf_sum]; omega)]
        exact q H7 (fun b o hb hn => S7 _ _ (S46 _ _ (b4 b o hb hn))) ⟨x, dx, Tp, us, rfl, S7 _ _ (S46 _ _ hx4), SqT.kg hT4 (Same.kg (Same.trans S46 S7)), hks6.kg (Same.kg S7)⟩
end
end Tb
namespace Tb
open PySem PySem.Spec PyProof.Rows L2
open ZM (pi_zipM)
theorem pe_fldK {X : Cx} {K : PySem.W.Frag} {e : Expr} {f : Str} {pos : Pos} {ta : TE} (hK : X.K = K) (he : PE X e ta) (hb : attributeBase e f X.env (eval e X.env) = eval e X.env) : PE X (.Attribute e f pos) (tFld K ta f) := by
  subst hK
  exact pe_fld he hb
abbrev sRuling : Stmt := topS 14
abbrev NRuling : List Str := ["good", "share", "lands", "foreign", "greatest", "taken", "part", "land"]
theorem scRuling : FnScope NRuling ["good", "share", "lands"] (defScope sRuling) := ⟨rfl, rfl, rfl, by decide +kernel, rfl, by decide +kernel, by decide +kernel⟩
theorem str_dec {a b : Str} : decide (V.str a = V.str b) = decide (a = b) := by
  rw [Bool.eq_iff_iff, decide_eq_true_eq, decide_eq_true_eq]
  exact ⟨fun h => V.str.inj h, fun h => congrArg V.str h⟩
theorem int_dec {a b : Int} : decide (V.int a = V.int b) = decide (a = b) := by
  rw [Bool.eq_iff_iff, decide_eq_true_eq, decide_eq_true_eq]
  exact ⟨fun h => V.int.inj h, fun h => congrArg V.int h⟩
/-! pairs of a part and a land -/
abbrev Z := V × Nd × Str
def zrow (z : Z) : Row := ⟨chap z.2.1.h, z.2.1.w, z.2.2⟩
def FzAt (H : Hp) : List Z → List V → Prop
  | [], vs => vs = []
  | z :: zs, vs => ∃ t us, vs = .ref t :: us ∧ H t = some (.tup [z.1, .str z.2.2]) ∧ FzAt H zs us
theorem FzAt.same {H H' : Hp} (S : Same H H') : ∀ {zs : List Z} {vs : List V}, FzAt H zs vs → FzAt H' zs vs
  | [], _, h => h
  | _ :: _, _, ⟨t, us, e, h, r⟩ => ⟨t, us, e, S _ _ h, FzAt.same S r⟩
theorem FzAt.kg {H H' : Hp} (k : Kg H H') : ∀ {zs : List Z} {vs : List V}, FzAt H zs vs → FzAt H' zs vs
  | [], _, h => h
  | _ :: _, _, ⟨t, us, e, h, r⟩ => ⟨t, us, e, k _ _ h (fun _ z => by cases z), FzAt.kg k r⟩
theorem FzAt.len {H : Hp} : ∀ {zs : List Z} {vs : List V}, FzAt H zs vs → vs.length = zs.length
  | [], _, h => by
    have e : _ = _ := h
    subst e
    rfl
  | _ :: _, _, ⟨t, us, e, h, r⟩ => by
    subst e
    exact congrArg (· + 1) (FzAt.len r)
theorem FzAt.at {H : Hp} : ∀ {zs : List Z} {vs : List V} {i : Nat} {v : V}, FzAt H zs vs → vs[i]? = some v → ∃ z t, zs[i]? = some z ∧ v = .ref t ∧ H t = some (.tup [z.1, .str z.2.2])
  | [], _, _, _, h, e => by
    have e2 : _ = _ := h
    subst e2
    cases e
  | z :: zs, _, 0, v, ⟨t, us, e, h, r⟩, q => by
    subst e
    cases q
    exact ⟨z, t, rfl, rfl, h⟩
  | z :: zs, _, i + 1, v, ⟨t, us, e, h, r⟩, q => by
    subst e
    exact FzAt.at (zs := zs) (i := i) r q
theorem FzAt.snoc {H : Hp} : ∀ {zs : List Z} {vs : List V} {z : Z} {t : Addr}, FzAt H zs vs → H t = some (.tup [z.1, .str z.2.2]) → FzAt H (zs ++ [z]) (vs ++ [.ref t])
  | [], _, _, _, h, r => by
    have e : _ = _ := h
    subst e
    exact ⟨_, _, rfl, r, rfl⟩
  | _ :: _, _, _, _, ⟨t0, us, e, h, r0⟩, r => by
    subst e
    exact ⟨_, _, rfl, h, FzAt.snoc r0 r⟩
theorem filter_take {α : Type} (p : α → Bool) (xs : List α) {i : Nat} {x : α} (h : xs[i]? = some x) : (xs.take (i + 1)).filter p = (xs.take i).filter p ++ (if p x = true then [x] else []) := by
  rw [List.take_add_one, h, List.filter_append]
  by_cases c : p x = true
  · rw [if_pos c]
    show _ ++ [x].filter p = _
    rw [List.filter_cons_of_pos c, List.filter_nil]
  · rw [if_neg c]
    show _ ++ [x].filter p = _
    rw [List.filter_cons_of_neg c, List.filter_nil]
/-- a comprehension over such a list: [f for part, land in .. if p] -/
theorem lc_F {K : PySem.W.Frag} {a D : Addr} {i j : Nat} {fz : List Z} {vs : List V} {H1 : Hp} {Qd : Hp → Prop} {σ : L2.St} {tt : TT} {te : TE} (p : Z → Bool) (f : Z → V) (ha : H1 a = some (.lst vs)) (hz : FzAt H1 fz vs) (nD : H1 D = none) (hlen : fz.length ≤ 1000)
    (hw : ∀ x y, wipe (((wipe σ [i, j]).set i (some x)).set j (some y)) [i, j] = wipe σ [i, j])
    (ht : ∀ z ∈ fz, ∀ H2, Same H1 H2 → ∀ R : Bool → Hp → Prop, R (p z) H2 → tt (((wipe σ [i, j]).set i (some z.1)).set j (some (.str z.2.2))) H2 R)
    (he : ∀ z ∈ fz, ∀ H2, Same H1 H2 → ∀ R : V → Hp → Prop, R (f z) H2 → te (((wipe σ [i, j]).set i (some z.1)).set j (some (.str z.2.2))) H2 R)
    (hd : ∀ H3, Same H1 H3 → H3 D = some (.lst ((fz.filter p).map f)) → Qd H3) :
    ∃ W : Nat → Nat → Hp → Prop, (∃ m, W 0 m (upd H1 D (.lst []))) ∧ ∀ n m H, W n m H →
      ((Itl K a).stop n H ∧ Qd H) ∨ ((Itl K a).go n H ∧ ∃ Nx : Hp → Prop, (∀ H', Nx H' → ∃ m', m' < m ∧ W (n + 1) m' H') ∧ ∀ x H', (Itl K a).yld n H x H' → gTup K 2 (gCons (gName i) (gCons (gName j) gNil)) x (wipe σ [i, j]) H' fun σ2 H2 => wipe σ2 [i, j] = wipe σ [i, j] ∧ tt σ2 H2 fun b H3 =>
        if b = true then te σ2 H3 fun y H4 => ∃ acc, H4 D = some (.lst acc) ∧ acc.length < sizeLine ∧ Nx (upd H4 D (.lst (acc ++ [y]))) else Nx H3) := by
  refine lc_it (walk_list (K := K) (a := a) (xs := vs)) (fun n H3 => Same H1 H3 ∧ H3 D = some (.lst (((fz.take n).filter p).map f))) ⟨same_upd nD, upd_same⟩ (fun n H3 _ hP => sqOf (hP.1 _ _ ha)) (fun n v H3 H4 hn hP hy => ?_) (fun H3 hP => hd H3 hP.1 ?_)
  · obtain ⟨S3, hD⟩ := hP
    obtain ⟨rfl, ev⟩ := hy
    obtain ⟨z, t, ez, rfl, h4⟩ := (FzAt.same S3 hz).at ev
    have mz : z ∈ fz := List.mem_of_getElem? ez
    refine ⟨t, _, rfl, .inl (.inl h4), rfl, z.1, _, rfl, .str z.2.2, _, rfl, rfl, hw _ _, ht z mz _ S3 _ ?_⟩
    have ft := filter_take p fz ez
    by_cases c : p z = true
    · rw [if_pos c] at ft
      rw [if_pos c]
      refine he z mz _ S3 _ ⟨_, hD, ?_, ?_, ?_⟩
      · rw [List.length_map]
        exact small1000 (Nat.le_trans (List.length_filter_le _ _) (by rw [List.length_take]; omega))
      · intro b o hb
        rw [upd_ne (ne_of_none hb nD)]
        exact S3 _ _ hb
      · rw [upd_same, ft, List.map_append]
        rfl
    · rw [if_neg c] at ft
      rw [if_neg c]
      refine ⟨S3, ?_⟩
      rw [hD, ft, List.append_nil]
  · rw [hP.2, hz.len, List.take_length]
/-! the first of the greatest -/
theorem best_is : ∀ (fs : List Row) (b : Row) (M : Int), (∀ x ∈ b :: fs, x.w ≤ M) → (∃ x ∈ b :: fs, x.w = M) → ((b :: fs).filter fun x => decide (x.w = M)).head? = some (best fs b)
  | [], b, M, h, ⟨x, hx, e⟩ => by
    rw [List.mem_singleton.mp hx] at e
    rw [List.filter_cons_of_pos (p := fun x : Row => decide (x.w = M)) (decide_eq_true e)]
    rfl
  | y :: fs, b, M, h, hx => by
    show _ = some (best fs (if b.w < y.w then y else b))
    by_cases c : b.w < y.w
    · rw [if_pos c]
      have hy := h y (List.mem_cons_of_mem _ (List.mem_cons_self ..))
      rw [List.filter_cons_of_neg (by simp; omega)]
      refine best_is fs y M (fun x q => h x (List.mem_cons_of_mem _ q)) ?_
      obtain ⟨x, hx, e⟩ := hx
      rcases List.mem_cons.mp hx with z | z
      · rw [z] at e
        omega
      · exact ⟨x, z, e⟩
    · rw [if_neg c]
      have ih := best_is fs b M (fun x q => (List.mem_cons.mp q).elim (fun z => h x (z ▸ List.mem_cons_self ..)) fun z => h x (List.mem_cons_of_mem _ (List.mem_cons_of_mem _ z)))
      by_cases e : b.w = M
      · have := ih ⟨b, List.mem_cons_self .., e⟩
        rw [List.filter_cons_of_pos (p := fun x : Row => decide (x.w = M)) (decide_eq_true e)] at this ⊢
        exact this
      · have hb := h b (List.mem_cons_self ..)
        have hy : ¬ y.w = M := by omega
        rw [List.filter_cons_of_neg (by simp; exact e)] at ih ⊢
        rw [List.filter_cons_of_neg (by simp; exact hy)]
        refine ih ?_
        obtain ⟨x, hx, e2⟩ := hx
        rcases List.mem_cons.mp hx with z | z
        · rw [z] at e2; exact absurd e2 e
        · rcases List.mem_cons.mp z with z | z
          · rw [z] at e2; exact absurd e2 hy
          · exact ⟨x, List.mem_cons_of_mem _ z, e2⟩
theorem sqL_same {K : PySem.W.Frag} {H H' : Hp} {a : Addr} {xs : List V} (h : SqL K H a xs) (S : Same H H') : SqL K H' a xs := by
  rcases h with (h | ⟨o, h⟩) | h
  · exact .inl (.inl (S _ _ h))
  · exact .inl (.inr ⟨o, S _ _ h⟩)
  · exact .inr h
def rowsL (ks : List Nd) (ls : List Str) : List Row := (ks.zip ls).map fun p => ⟨chap p.1.h, p.1.w, p.2⟩
theorem rowsL_cert (s : Int) : ∀ ks : List Nd, rowsL ks ((certsOf s ks).map Pp.l) = rowsOf s ks
  | [] => rfl
  | k :: ks => by
    show _ :: rowsL ks ((certsOf s ks).map Pp.l) = _ :: rowsOf s ks
    rw [rowsL_cert s ks]
theorem zip_rows : ∀ {us : List V} {ks : List Nd} {ls : List Str}, us.length = ks.length → ls.length = ks.length → (us.zip (ks.zip ls)).map zrow = rowsL ks ls
  | [], [], [], _, _ => rfl
  | u :: us, k :: ks, l :: ls, h1, h2 => by
    show _ :: (us.zip (ks.zip ls)).map zrow = _ :: rowsL ks ls
    rw [zip_rows (Nat.succ.inj h1) (Nat.succ.inj h2)]
    rfl
  | [], _ :: _, _, h, _ => by cases h
  | _ :: _, [], _, h, _ => by cases h
  | [], [], _ :: _, _, h => by cases h
  | _ :: _, _ :: _, [], _, h => by cases h
theorem far_rows (l : Str) (zs : List Z) : farOf l (zs.map zrow) = (zs.filter fun z => !decide (z.2.2 = l)).map zrow := by
  unfold farOf
  rw [List.filter_map]
  rfl
theorem walk_zipM {K : PySem.W.Frag} {a b : Addr} {xs ys : List V} {n : Nat} (hx : n = xs.length) (hy : n = ys.length) : Walk (ZM.ItzT K a b) n (fun H => SqT K H a xs ∧ SqL K H b ys) (YPair (fun i => xs[i]?) (fun i => ys[i]?)) := by
  refine ⟨fun i _ hi q => ?_, fun _ q => ⟨xs, ys, q.1, q.2, .inl (by omega)⟩, fun i H v H' _ q y => ?_⟩
  · have h1 : i < xs.length := by omega
    have h2 : i < ys.length := by omega
    exact ⟨xs, ys, xs[i], ys[i], q.1, q.2, List.getElem?_eq_getElem h1, List.getElem?_eq_getElem h2⟩
  · obtain ⟨T, x, z, h1, h2, h3, h4, h5⟩ := y
    exact ⟨T, x, z, h1, h2, h3, h4 xs q.1, h5 ys q.2⟩
theorem ruled_wholly {h l : Str} {w s : Int} {xs : List Row} (hx : xs ≠ []) (hf : farOf l xs = []) : ruled h w l s xs = (("wholly" : Str), l) := by
  cases xs with
  | nil => exact absurd rfl hx
  | cons x xs =>
    unfold ruled
    rw [hf]
theorem ruled_far {h l : Str} {w s : Int} {xs : List Row} {f : Row} {fs : List Row} (hx : xs ≠ []) (hf : farOf l xs = f :: fs) : ruled h w l s xs = if (f :: fs).all (fun x => !decide (x.c = chap h)) then (("changed" : Str), l) else if 100 * sumOf ((f :: fs).map Row.w) ≤ s * w then (("value" : Str), l) else (("taken" : Str), (best fs f).l) := by
  cases xs with
  | nil => exact absurd rfl hx
  | cons x xs =>
    unfold ruled
    rw [hf]
theorem filt_true {α : Type} (xs : List α) : (xs.filter fun _ => true) = xs := List.filter_eq_self.mpr fun _ _ => rfl
section
variable {P : Program} {w : World} {K : PySem.W.Frag} {mg : Str → Option Value} {base : Heap} {C pw fw : Addr} {gdw : FuncData}
def spRuling (K : PySem.W.Frag) (C : Addr) : Sp := fun vs H Q _ => ∃ (a : V) (n : Nd) (s : Int) (L : Addr) (ls : List Str), vs = [a, .int s, .ref L] ∧ GdAt K C H n a ∧ n.ok ∧ 0 ≤ s ∧ s ≤ 100 ∧ SqL K H L (ls.map V.str) ∧ ls.length = n.ks.length ∧
  ∀ (t : Addr) (H' : Hp), Same H H' → H t = none → H' t = some (.tup [.str (ruled n.h n.w n.l s (rowsL n.ks ls)).1, .str (ruled n.h n.w n.l s (rowsL n.ks ls)).2]) → Q (.ref t) H'
theorem ok_ruling {f : Addr} {fd : FuncData} (F : Fun K "_ruling" "_ruling" sRuling f fd) (T : GCls K C pw fw gdw) (B : Blt mg) : FnOk P w K mg base CX0 3 f fd ["good", "share", "lands"] (spRuling K C) := by
  refine F.ok scRuling (fun vs H Q E h => ?_) (fun cdv A outer s H vs Q E hr h => ?_)
  · obtain ⟨a, n, sh, L, ls, rfl, _⟩ := h
    rfl
  · obtain ⟨v, n, sh, L, ls, rfl, hv, hok, h0, h1, hL, hl, q⟩ := h
    obtain ⟨a, dx, Tp, us, rfl, ha, hT, hks⟩ := hv.ref
    obtain ⟨nh, nw, nl, ks⟩ := n
    obtain ⟨a1, a2, a3, a4, a5, a6⟩ := hok
    have lu : us.length = ks.length := hks.len
    have hl : ls.length = ks.length := hl
    refine ⟨_, (pss_cons (ps_setLc (i := 3) (own := [("part", 6), ("land", 7)]) (g := gTup K 2 (gCons (gName 6) (gCons (gName 7) gNil))) (by rfl) scRuling.nd rfl rfl (sw_true rfl rfl rfl (by decide +kernel)) (pi_zipM (by rfl) B.zip (pa_cons (pe_fld (pv 0) rfl) (pa_cons (pv 2) pa_nil))) (blkOk_by (N := NRuling) (sc := defScope sRuling) (by decide +kernel)) (fun _ _ _ _ _ => pg_tup (by rfl) (pgs_cons (pg_name (i := 6) scRuling.nd rfl (Or.inl rfl)) (pgs_cons (pg_name (i := 7) scRuling.nd rfl (Or.inl rfl)) pgs_nil))) (fun _ _ _ _ _ => pts_one (pt_cmpR op_ne (pv 7) (pe_fldK (K := K) rfl (pv 0) rfl) (nomark _))) (fun _ _ _ _ _ => pe_tup (pa_cons (pv 6) (pa_cons (pv 7) pa_nil))))
      (pss_cons (ps_if (pt_not (pt_truth (pe_fld (pv 0) rfl) (by intro _; rfl)))
        (pss_one (ps_ret (pe_tup (pa_cons pe_str (pa_cons (pe_fld (pv 0) rfl) pa_nil)))))
        pss_nil)
      (pss_cons (ps_if (pt_not (pt_truth (pv 3) (by intro _; rfl)))
        (pss_one (ps_ret (pe_tup (pa_cons pe_str (pa_cons (pe_fld (pv 0) rfl) pa_nil)))))
        pss_nil)
      (pss_cons (ps_if (pt_val (pe_callB (cr_all rfl) (by rfl) B.all (by decide +kernel) (pa_cons (pe_lc (own := [("part", 6), ("land", 7)]) (g := gTup K 2 (gCons (gName 6) (gCons (gName 7) gNil))) (by rfl) scRuling.nd (pi_list (pv 3)) (blkOk_by (N := NRuling) (sc := defScope sRuling) (by decide +kernel)) (fun _ _ _ _ _ => pg_tup (by rfl) (pgs_cons (pg_name (i := 6) scRuling.nd rfl (Or.inl rfl)) (pgs_cons (pg_name (i := 7) scRuling.nd rfl (Or.inl rfl)) pgs_nil))) (fun _ _ _ _ _ => pts_nil) (fun _ _ _ _ _ => pe_cmpR op_ne (pe_fldK (K := K) rfl (pv 6) rfl) (pe_fldK (K := K) rfl (pv 0) rfl) (nomark _))) pa_nil)))
        (pss_one (ps_ret (pe_tup (pa_cons pe_str (pa_cons (pe_fld (pv 0) rfl) pa_nil)))))
        pss_nil)
      (pss_cons (ps_if (pt_cmpR op_le (pe_op op_mul (pe_callB (cr_sum rfl) (by rfl) B.sum (by decide +kernel) (pa_cons (pe_lc (own := [("part", 6), ("land", 7)]) (g := gTup K 2 (gCons (gName 6) (gCons (gName 7) gNil))) (by rfl) scRuling.nd (pi_list (pv 3)) (blkOk_by (N := NRuling) (sc := defScope sRuling) (by decide +kernel)) (fun _ _ _ _ _ => pg_tup (by rfl) (pgs_cons (pg_name (i := 6) scRuling.nd rfl (Or.inl rfl)) (pgs_cons (pg_name (i := 7) scRuling.nd rfl (Or.inl rfl)) pgs_nil))) (fun _ _ _ _ _ => pts_nil) (fun _ _ _ _ _ => pe_prop (pv 6) T.c T.pw T.Gw (hr.mono (by first | decide | omega)) T.bw .nil pass0 rfl)) pa_nil)) pe_int) (pe_op op_mul (pv 1) (pe_prop (pv 0) T.c T.pw T.Gw (hr.mono (by first | decide | omega)) T.bw .nil pass0 rfl)) (nomark _))
        (pss_one (ps_ret (pe_tup (pa_cons pe_str (pa_cons (pe_fld (pv 0) rfl) pa_nil)))))
        pss_nil)
      (pss_cons (ps_set (i := 4) scRuling.nd rfl (.inr rfl) (pe_callB (cr_max rfl) (by rfl) B.max (by decide +kernel) (pa_cons (pe_lc (own := [("part", 6), ("land", 7)]) (g := gTup K 2 (gCons (gName 6) (gCons (gName 7) gNil))) (by rfl) scRuling.nd (pi_list (pv 3)) (blkOk_by (N := NRuling) (sc := defScope sRuling) (by decide +kernel)) (fun _ _ _ _ _ => pg_tup (by rfl) (pgs_cons (pg_name (i := 6) scRuling.nd rfl (Or.inl rfl)) (pgs_cons (pg_name (i := 7) scRuling.nd rfl (Or.inl rfl)) pgs_nil))) (fun _ _ _ _ _ => pts_nil) (fun _ _ _ _ _ => pe_prop (pv 6) T.c T.pw T.Gw (hr.mono (by first | decide | omega)) T.bw .nil pass0 rfl)) pa_nil)))
      (pss_cons (ps_setLc (i := 5) (own := [("part", 6), ("land", 7)]) (g := gTup K 2 (gCons (gName 6) (gCons (gName 7) gNil))) (by rfl) scRuling.nd rfl rfl (sw_true rfl rfl rfl (by decide +kernel)) (pi_list (pv 3)) (blkOk_by (N := NRuling) (sc := defScope sRuling) (by decide +kernel)) (fun _ _ _ _ _ => pg_tup (by rfl) (pgs_cons (pg_name (i := 6) scRuling.nd rfl (Or.inl rfl)) (pgs_cons (pg_name (i := 7) scRuling.nd rfl (Or.inl rfl)) pgs_nil))) (fun _ _ _ _ _ => pts_one (pt_cmpR op_eq (pe_prop (pv 6) T.c T.pw T.Gw (hr.mono (by first | decide | omega)) T.bw .nil pass0 rfl) (pv 4) (nomark _))) (fun _ _ _ _ _ => pv 7))
      (pss_one (ps_ret (pe_tup (pa_cons pe_str (pa_cons (pe_ix ix_list (pv 5) pe_int (fun _ _ => rfl)) pa_nil)))))))))))), ?_⟩
    obtain ⟨zs, hzs⟩ : ∃ zs : List Z, zs = us.zip (ks.zip ls) := ⟨_, rfl⟩
    have rz : zs.map zrow = rowsL ks ls := by rw [hzs]; exact zip_rows lu hl
    refine ⟨.ref a, rfl, a, C, dx, _, _, rfl, ha, T.c, T.np, fld_nd.2.2.1, .ref L, rfl, Tp, L, us, _, rfl, hT, hL, fun D nD => ?_⟩
    have ez : ∀ {i : Nat} {x : V} {y : V}, us[i]? = some x → (ls.map V.str)[i]? = some y → ∃ k l, y = .str l ∧ zs[i]? = some (x, k, l) := fun {i x y} hx hy => by
      rw [List.getElem?_map] at hy
      cases hl2 : ls[i]? with
      | none => rw [hl2] at hy; cases hy
      | some l =>
        rw [hl2] at hy
        have hi : i < ks.length := by
          rw [← lu]
          exact (List.getElem?_eq_some_iff.mp hx).1
        refine ⟨ks[i], l, (Option.some.inj hy).symm, ?_⟩
        rw [hzs, List.getElem?_zip_eq_some]
        refine ⟨hx, ?_⟩
        rw [List.getElem?_zip_eq_some]
        exact ⟨List.getElem?_eq_getElem hi, hl2⟩
    have lz : zs.length = ks.length := by
      rw [hzs, List.length_zip, List.length_zip]
      omega
    refine lc_it (walk_zipM (K := K) (a := Tp) (b := L) (xs := us) (ys := ls.map V.str) (n := ks.length) lu.symm (by rw [List.length_map]; exact hl.symm)) (fun i H1 => Same H H1 ∧ ∃ ws, H1 D = some (.lst ws) ∧ FzAt H1 ((zs.take i).filter fun z => !decide (z.2.2 = nl)) ws) ⟨same_upd nD, [], upd_same, rfl⟩ (fun i H1 _ hP => ⟨SqT.kg hT (Same.kg hP.1), sqL_same hL hP.1⟩) (fun i v H1 H2 hi hP hy => ?_) (fun H1 hP => ?_)
    · obtain ⟨S1, ws, hD, hF⟩ := hP
      obtain ⟨T1, x, y, rfl, n1, rfl, ex, ey⟩ := hy
      obtain ⟨k, l, rfl, ez⟩ := ez ex ey
      have S2 : Same H (upd H1 T1 (.tup [x, .str l])) := Same.trans S1 (same_upd n1)
      have ft := filter_take (fun z : Z => !decide (z.2.2 = nl)) zs ez
      refine ⟨T1, _, rfl, .inl (.inl upd_same), rfl, x, _, rfl, .str l, _, rfl, rfl, rfl, ?_⟩
      refine ⟨.str l, rfl, .ref a, rfl, a, C, dx, _, _, rfl, S2 _ _ ha, T.c, T.nl, fld_nd.2.1, rfl, _, rfl, ?_⟩
      rw [str_dec]
      refine ite2 (fun c => ?_) (fun c => ?_)
      · rw [if_pos (show (!decide ((x, k, l).2.2 = nl)) = true from c)] at ft
        refine ⟨x, rfl, .str l, rfl, by show 2 ≤ sizeLine; decide, fun t nt => ⟨ws, ?_, ?_, ?_, ws ++ [.ref t], upd_same, ?_⟩⟩
        · rw [upd_ne (ne_of_none (same_upd n1 _ _ hD) nt)]
          exact same_upd n1 _ _ hD
        · rw [hF.len]
          exact small1000 (Nat.le_trans (List.length_filter_le _ _) (by rw [List.length_take]; omega))
        · intro b o hb
          rw [upd_ne (ne_of_none hb nD)]
          exact same_upd nt _ _ (S2 _ _ hb)
        · rw [ft]
          have hDt : ¬ D = t := ne_of_none (same_upd n1 _ _ hD) nt
          refine FzAt.snoc ?_ ?_
          · exact FzAt.kg (Kg.upd (same_upd nt _ _ (same_upd n1 _ _ hD))) (FzAt.same (same_upd nt) (FzAt.same (same_upd n1) hF))
          · rw [upd_ne (Ne.symm hDt)]
            exact upd_same
      · rw [if_neg (show ¬ (!decide ((x, k, l).2.2 = nl)) = true from c), List.append_nil] at ft
        refine ⟨S2, ws, ?_, ?_⟩
        · rw [upd_ne (ne_of_none hD n1)]
          exact hD
        · rw [ft]
          exact FzAt.same (same_upd n1) hF
    obtain ⟨S1, ws, hD, hF⟩ := hP
    rw [← lz, List.take_length] at hF
    obtain ⟨fz, hfz⟩ : ∃ fz : List Z, fz = zs.filter fun z => !decide (z.2.2 = nl) := ⟨_, rfl⟩
    rw [← hfz] at hF
    have far : farOf nl (rowsL ks ls) = fz.map zrow := by rw [← rz, far_rows, hfz]
    have lf : fz.length ≤ 1000 := by rw [hfz]; exact Nat.le_trans (List.length_filter_le _ _) (by omega)
    have gz : ∀ z ∈ fz, GdAt K C H z.2.1 z.1 := fun z hz => by
      rw [hfz] at hz
      have hz := (List.mem_filter.mp hz).1
      rw [hzs] at hz
      obtain ⟨i, hi⟩ := List.mem_iff_getElem?.mp hz
      rw [List.getElem?_zip_eq_some] at hi
      obtain ⟨hi1, hi2⟩ := hi
      rw [List.getElem?_zip_eq_some] at hi2
      obtain ⟨k, e1, e2⟩ := GdsAt.at hks hi1
      have e3 : ks[i]? = some k := e1
      rw [hi2.1] at e3
      cases e3
      exact e2
    refine ⟨.ref a, rfl, a, C, dx, _, _, rfl, S1 _ _ ha, T.c, T.np, fld_nd.2.2.1, !us.isEmpty, .inr (.inl ⟨us, SqT.kg hT (Same.kg S1), rfl⟩), ?_⟩
    have xs0 : rowsL ks ls ≠ [] ↔ us.isEmpty = false := by
      have l1 : (rowsL ks ls).length = ks.length := by
        unfold rowsL
        rw [List.length_map, List.length_zip]
        omega
      constructor
      · intro hx
        cases us with
        | nil => exact absurd (List.length_eq_zero_iff.mp (by rw [l1, ← lu]; rfl)) hx
        | cons => rfl
      · intro hx e
        rw [e] at l1
        cases us with
        | nil => cases hx
        | cons u us => rw [← lu] at l1; cases l1
    have hret : ∀ {H2 : Hp} {t : Addr} {r l : Str}, Same H H2 → H2 t = none → ruled nh nw nl sh (rowsL ks ls) = (r, l) → Q (.ref t) (upd H2 t (.tup [.str r, .str l])) := fun {H2 t r l} S2 nt e => by
      refine q t _ (Same.trans S2 (same_upd nt)) ?_ ?_
      · cases e2 : H t with
        | none => rfl
        | some o => rw [S2 _ _ e2] at nt; cases nt
      · show _ = some (HO.tup [.str (ruled nh nw nl sh (rowsL ks ls)).1, .str (ruled nh nw nl sh (rowsL ks ls)).2])
        rw [upd_same, e]
    refine ite2 (fun c => ?_) (fun c => ?_)
    · refine ⟨.ref a, rfl, a, C, dx, _, _, rfl, S1 _ _ ha, T.c, T.nl, fld_nd.2.1, by show 2 ≤ sizeLine; decide, fun t nt => hret S1 nt ?_⟩
      have hx : rowsL ks ls = [] := Classical.byContradiction fun z => by
        rw [xs0.mp z] at c
        cases c
      rw [hx]
      rfl
    have hx : rowsL ks ls ≠ [] := xs0.mpr (by
      cases e : us.isEmpty with
      | false => rfl
      | true => rw [e] at c; exact absurd rfl c)
    refine ⟨.ref D, rfl, !ws.isEmpty, .inl ⟨ws, sqOf hD, rfl⟩, ?_⟩
    refine ite2 (fun c2 => ?_) (fun c2 => ?_)
    · refine ⟨.ref a, rfl, a, C, dx, _, _, rfl, S1 _ _ ha, T.c, T.nl, fld_nd.2.1, by show 2 ≤ sizeLine; decide, fun t nt => hret S1 nt (ruled_wholly hx ?_)⟩
      rw [far]
      cases fz with
      | nil => rfl
      | cons z zs2 =>
        obtain ⟨t2, us2, e2, _⟩ := hF
        rw [e2] at c2
        cases c2
    obtain ⟨f0, fs0, ef⟩ : ∃ f fs, fz = f :: fs := by
      cases fz with
      | nil =>
        have e2 : ws = [] := hF
        rw [e2] at c2
        exact absurd rfl c2
      | cons z zs2 => exact ⟨_, _, rfl⟩
    have hru := ruled_far (h := nh) (w := nw) (s := sh) hx (far.trans (by rw [ef]; rfl))
    have cz : ∀ z ∈ fz, ∀ H2, Same H1 H2 → ∃ (a2 d2 T2 : Addr), z.1 = .ref a2 ∧ H2 a2 = some (.ins C d2 (goodF z.2.1.h z.2.1.l z.2.1.w T2)) := fun z hz H2 S2 => by
      obtain ⟨a2, d2, T2, _, e2, h2, _⟩ := (gz z hz).ref
      exact ⟨a2, d2, T2, e2, S2 _ _ (S1 _ _ h2)⟩
    refine ⟨.ref D, rfl, D, rfl, ⟨ws, sqOf hD⟩, fun D2 n2 => lc_F (K := K) (i := 6) (j := 7) (fun _ => true) (fun z => .bl (!decide (chap z.2.1.h = chap nh))) hD hF n2 lf (fun _ _ => rfl) (fun z _ H2 _ R h => h) (fun z hz H2 S2 R h => ?_) (fun H2 S2 hD2 => ?_)⟩
    · obtain ⟨a2, d2, T2, e2, h2⟩ := cz z hz H2 S2
      refine ⟨z.1, rfl, a2, C, d2, _, _, e2, h2, T.c, T.nc, fld_nd.2.2.2.1, .ref a, rfl, a, C, dx, _, _, rfl, S2 _ _ (S1 _ _ ha), T.c, T.nc, fld_nd.2.2.2.1, rfl, ?_⟩
      rw [str_dec]
      exact h
    refine ⟨D2, fz.map (fun z => !decide (chap z.2.1.h = chap nh)), rfl, sqOf ?_, _, rfl, ite2 (fun c3 => ?_) (fun c3 => ?_)⟩
    · rw [hD2, filt_true, List.map_map]
      rfl
    · refine ⟨.ref a, rfl, a, C, dx, _, _, rfl, S2 _ _ (S1 _ _ ha), T.c, T.nl, fld_nd.2.1, by show 2 ≤ sizeLine; decide, fun t nt => hret (Same.trans S1 S2) nt ?_⟩
      have e3 : ((zrow f0 :: fs0.map zrow).all fun x => !decide (x.c = chap nh)) = true := by
        show ((f0 :: fs0).map zrow).all _ = _
        rw [← ef, List.all_map, ← c3, List.all_map]
        rfl
      exact hru.trans (if_pos e3)
    have esum : (zrow f0 :: fs0.map zrow).map Row.w = fz.map (fun z => z.2.1.w) := by
      show ((f0 :: fs0).map zrow).map Row.w = _
      rw [← ef, List.map_map]
      rfl
    have c3' : ¬ ((zrow f0 :: fs0.map zrow).all fun x => !decide (x.c = chap nh)) = true := fun z => c3 (by
      rw [← z]
      show _ = ((f0 :: fs0).map zrow).all _
      rw [← ef, List.all_map, List.all_map]
      rfl)
    rw [if_neg c3'] at hru
    have S12 := Same.trans S1 S2
    have hD' := S2 _ _ hD
    have hF' := FzAt.same S2 hF
    have wz : ∀ z ∈ fz, ∀ H3, Same H2 H3 → ∀ R : V → Hp → Prop, R (.int z.2.1.w) H3 → ∃ (a2 d2 : Addr) (fs : List (Str × V)), z.1 = .ref a2 ∧ H3 a2 = some (.ins C d2 fs) ∧ getSp C "_worth" [.ref a2] H3 R E0 := fun z hz H3 S3 R h => by
      obtain ⟨a2, d2, T2, e2, h2⟩ := cz z hz H3 (Same.trans S2 S3)
      exact ⟨a2, d2, _, e2, h2, a2, d2, _, _, rfl, h2, fld_nd.2.2.2.2, h⟩
    refine ⟨.ref D, rfl, D, rfl, ⟨ws, sqOf hD'⟩, fun D3 n3 => lc_F (K := K) (i := 6) (j := 7) (fun _ => true) (fun z => .int z.2.1.w) hD' hF' n3 lf (fun _ _ => rfl) (fun z _ H3 _ R h => h) (fun z hz H3 S3 R h => ⟨z.1, rfl, wz z hz H3 S3 R h⟩) (fun H3 S3 hD3 => ?_)⟩
    refine ⟨D3, fz.map (fun z => z.2.1.w), rfl, sqOf ?_, _, 100, rfl, rfl, .inr ⟨by decide, by decide⟩, ?_⟩
    · rw [hD3, filt_true, List.map_map]
      rfl
    have S13 := Same.trans S12 S3
    refine ⟨.int sh, rfl, .ref a, rfl, a, dx, _, rfl, S13 _ _ ha, a, dx, _, _, rfl, S13 _ _ ha, fld_nd.2.2.2.2, sh, nw, rfl, rfl, .inl ⟨by omega, by omega⟩, _, _, rfl, rfl, _, rfl, ite2 (fun c4 => ?_) (fun c4 => ?_)⟩
    · refine ⟨.ref a, rfl, a, C, dx, _, _, rfl, S13 _ _ ha, T.c, T.nl, fld_nd.2.1, by show 2 ≤ sizeLine; decide, fun t nt => hret S13 nt ?_⟩
      refine hru.trans (if_pos ?_)
      rw [esum]
      have := of_decide_eq_true c4
      rw [sumOf_sum] at this
      omega
    have c4' : ¬ 100 * sumOf ((zrow f0 :: fs0.map zrow).map Row.w) ≤ sh * nw := fun z => c4 (decide_eq_true (by
      rw [esum] at z
      rw [sumOf_sum]
      omega))
    rw [if_neg c4'] at hru
    have hD'' := S3 _ _ hD'
    have hF'' := FzAt.same S3 hF'
    refine ⟨.ref D, rfl, D, rfl, ⟨ws, sqOf hD''⟩, fun D4 n4 => lc_F (K := K) (i := 6) (j := 7) (fun _ => true) (fun z => .int z.2.1.w) hD'' hF'' n4 lf (fun _ _ => rfl) (fun z _ H4 _ R h => h) (fun z hz H4 S4 R h => ⟨z.1, rfl, wz z hz H4 (Same.trans S3 S4) R h⟩) (fun H4 S4 hD4 => ?_)⟩
    refine ⟨D4, fz.map (fun z => z.2.1.w), rfl, sqOf ?_, ?_, fun M mM hM => ?_⟩
    · rw [hD4, filt_true, List.map_map]
      rfl
    · rw [ef]
      exact Nat.succ_pos _
    have S14 := Same.trans S13 S4
    have hD5 := S4 _ _ hD''
    have hF5 := FzAt.same S4 hF''
    have S24 := Same.trans S3 S4
    refine ⟨.ref D, rfl, D, rfl, ⟨ws, sqOf hD5⟩, fun D5 n5 => lc_F (K := K) (i := 6) (j := 7) (fun z => decide (z.2.1.w = M)) (fun z => .str z.2.2) hD5 hF5 n5 lf (fun _ _ => rfl) (fun z hz H5 S5 R h => ⟨z.1, rfl, wz z hz H5 (Same.trans S24 S5) _ ⟨.int M, rfl, rfl, _, rfl, ?_⟩⟩) (fun z hz H5 S5 R h => ⟨_, rfl, h⟩) (fun H5 S5 hDz => ?_)⟩
    · rw [int_dec]
      exact h
    have S15 := Same.trans S14 S5
    have hb : ((fz.filter fun z => decide (z.2.1.w = M)).map zrow).head? = some (best (fs0.map zrow) (zrow f0)) := by
      have b := best_is (fs0.map zrow) (zrow f0) M ?_ ?_
      · rw [← b, ef]
        show _ = (((f0 :: fs0).map zrow).filter _).head?
        rw [List.filter_map]
        rfl
      · intro x hx
        obtain ⟨z, hz, e⟩ := List.mem_map.mp (show x ∈ (f0 :: fs0).map zrow from hx)
        rw [← e]
        exact hM _ (List.mem_map.mpr ⟨z, ef ▸ hz, rfl⟩)
      · obtain ⟨z, hz, e⟩ := List.mem_map.mp mM
        refine ⟨zrow z, ?_, e⟩
        show zrow z ∈ (f0 :: fs0).map zrow
        rw [ef] at hz
        exact List.mem_map.mpr ⟨z, hz, rfl⟩
    cases eg : fz.filter fun z => decide (z.2.1.w = M) with
    | nil => rw [eg] at hb; cases hb
    | cons z zs2 =>
      rw [eg] at hb hDz
      have hb : zrow z = best (fs0.map zrow) (zrow f0) := Option.some.inj hb
      refine ⟨.ref D5, rfl, D5, _, 0, .str z.2.2, rfl, rfl, sqOf hDz, atI_nat (j := 0) rfl, by show 2 ≤ sizeLine; decide, fun t nt => hret S15 nt ?_⟩
      rw [hru, ← hb]
      rfl
end
end Tb
namespace Tb
open PySem PySem.Spec PyProof.Rows L2
open ZM (pi_zipM)
abbrev sOPaper : Stmt := topS 16
abbrev NOPaper : List Str := ["good", "share", "papers", "rule", "land", "part", "paper"]
theorem scOPaper : FnScope NOPaper ["good", "share"] (defScope sOPaper) := ⟨rfl, rfl, rfl, by decide +kernel, rfl, by decide +kernel, by decide +kernel⟩
abbrev sOrigin : Stmt := topS 15
abbrev NOrigin : List Str := ["good", "share"]
theorem scOrigin : FnScope NOrigin ["good", "share"] (defScope sOrigin) := ⟨rfl, rfl, rfl, by decide +kernel, rfl, by decide +kernel, by decide +kernel⟩
abbrev sCheck : Stmt := topS 17
abbrev NCheck : List Str := ["good", "share", "paper", "rule", "land", "papers", "part", "one"]
theorem scCheck : FnScope NCheck ["good", "share", "paper"] (defScope sCheck) := ⟨rfl, rfl, rfl, by decide +kernel, rfl, by decide +kernel, by decide +kernel⟩
theorem certsOf_map (s : Int) : ∀ ks : List Nd, certsOf s ks = ks.map (certOf s)
  | [] => rfl
  | k :: ks => congrArg (certOf s k :: ·) (certsOf_map s ks)
/-! a certificate that shares no list -/
mutual
def PpU (S : AS) (H : Hp) : Pp → V → Prop
  | .mk r l ps, v => ∃ (t L : Addr) (vs : List V), v = .ref t ∧ S t ∧ H t = some (.tup [.str r, .str l, .ref L]) ∧ S L ∧ H L = some (.lst vs) ∧ PsU (fun a => S a ∧ a ≠ L) H ps vs
def PsU (S : AS) (H : Hp) : List Pp → List V → Prop
  | [], vs => vs = []
  | p :: ps, vs => ∃ (v : V) (us : List V) (S1 : AS), vs = v :: us ∧ (∀ a, S1 a → S a) ∧ PpU S1 H p v ∧ PsU (fun a => S a ∧ ¬ S1 a) H ps us
end
mutual
theorem PpU.go {S S' : AS} {H H' : Hp} (i : ∀ a, S a → S' a) (k : ∀ b o, S b → H b = some o → H' b = some o) : ∀ {p : Pp} {v : V}, PpU S H p v → PpU S' H' p v
  | .mk r l ps, v, ⟨t, L, vs, e, st, ht, sL, hL, q⟩ => ⟨t, L, vs, e, i _ st, k _ _ st ht, i _ sL, k _ _ sL hL, PsU.go (fun a h => ⟨i _ h.1, h.2⟩) (fun b o h => k b o h.1) q⟩
theorem PsU.go {S S' : AS} {H H' : Hp} (i : ∀ a, S a → S' a) (k : ∀ b o, S b → H b = some o → H' b = some o) : ∀ {ps : List Pp} {vs : List V}, PsU S H ps vs → PsU S' H' ps vs
  | [], _, h => h
  | _ :: _, _, ⟨v, us, S1, e, h, r, t⟩ => ⟨v, us, S1, e, fun a z => i _ (h _ z), PpU.go (fun _ z => z) (fun b o z => k b o (h _ z)) r, PsU.go (fun a z => ⟨i _ z.1, z.2⟩) (fun b o z => k b o z.1) t⟩
end
mutual
theorem PpU.at {S S' : AS} {H : Hp} (i : ∀ a, S a → S' a) : ∀ {p : Pp} {v : V}, PpU S H p v → PpAt S' H p v
  | .mk r l ps, v, ⟨t, L, vs, e, st, ht, sL, hL, q⟩ => ⟨t, L, vs, e, i _ st, ht, i _ sL, hL, PsU.at (fun a h => i _ h.1) q⟩
theorem PsU.at {S S' : AS} {H : Hp} (i : ∀ a, S a → S' a) : ∀ {ps : List Pp} {vs : List V}, PsU S H ps vs → PpsAt S' H ps vs
  | [], _, h => h
  | _ :: _, _, ⟨v, us, S1, e, h, r, t⟩ => ⟨v, us, e, PpU.at (fun a z => i _ (h _ z)) r, PsU.at (fun a z => i _ z.1) t⟩
end
theorem PsU.snoc : ∀ {S S1 S' : AS} {H : Hp} {ps : List Pp} {vs : List V} {p : Pp} {v : V}, PsU S H ps vs → PpU S1 H p v → (∀ a, S1 a → ¬ S a) → (∀ a, S a → S' a) → (∀ a, S1 a → S' a) → PsU S' H (ps ++ [p]) (vs ++ [v])
  | S, S1, S', H, [], vs, p, v, h, r, d, i, j => by
    have e : vs = [] := h
    subst e
    exact ⟨v, [], S1, rfl, j, r, rfl⟩
  | S, S1, S', H, p0 :: ps, vs, p, v, ⟨v0, us, S0, e, h, r0, t⟩, r, d, i, j => by
    subst e
    exact ⟨v0, us ++ [v], S0, rfl, fun a z => i _ (h _ z), r0, PsU.snoc t r (fun a z q => d a z q.1) (fun a z => ⟨i _ z.1, z.2⟩) (fun a z => ⟨j _ z, fun q => d a z (h _ q)⟩)⟩
theorem PsU.len {S : AS} {H : Hp} {ps : List Pp} {vs : List V} (h : PsU S H ps vs) : vs.length = ps.length := (PsU.at (S' := S) (fun _ z => z) h).len
/-- made meanwhile -/
def New (H H' : Hp) : AS := fun a => H a = none ∧ H' a ≠ none
theorem some_ne {H : Hp} {a : Addr} {o : HO} (h : H a = some o) : H a ≠ none := fun e => by
  rw [e] at h
  cases h
theorem same_none {H H' : Hp} (S : Same H H') {a : Addr} (h : H' a = none) : H a = none := by
  cases e : H a with
  | none => rfl
  | some o =>
    rw [S _ _ e] at h
    cases h
theorem same_some {H H' : Hp} (S : Same H H') {a : Addr} (h : H a ≠ none) : H' a ≠ none := fun e => h (same_none S e)
/-! how deep -/
theorem Nd.d_mem : ∀ {ks : List Nd} {k : Nd}, k ∈ ks → k.d ≤ Nd.ds ks
  | k0 :: ks, k, h => by
    show k.d ≤ max k0.d (Nd.ds ks)
    rcases List.mem_cons.mp h with e | e
    · rw [e]
      omega
    · have := Nd.d_mem e
      omega
theorem Nd.d_eq (k : Nd) : k.d = Nd.ds k.ks + 1 := by
  cases k
  rfl
theorem certs_len (s : Int) (ks : List Nd) : (certsOf s ks).length = ks.length := by
  rw [certsOf_map, List.length_map]
section
variable {P : Program} {w : World} {K : PySem.W.Frag} {mg : Str → Option Value} {base : Heap} {C pw fw : Addr} {gdw : FuncData}
abbrev CRuling (P : Program) (w : World) (K : PySem.W.Frag) (mg : Str → Option Value) (base : Heap) (C : Addr) (g : Addr) (gd : FuncData) := C1 P w K mg base "_ruling" sRuling ["good", "share", "lands"] 3 (spRuling K C) g gd
def spOPaper (K : PySem.W.Frag) (C : Addr) (d : Nat) : Sp := fun vs H Q _ => ∃ (v : V) (n : Nd) (s : Int), vs = [v, .int s] ∧ GdAt K C H n v ∧ n.ok ∧ n.d ≤ d ∧ 0 ≤ s ∧ s ≤ 100 ∧ ∀ (t : Addr) (H' : Hp), Same H H' → PpU (New H H') H' (certOf s n) (.ref t) → Q (.ref t) H'
theorem ok_opaper {f g : Addr} {fd gd : FuncData} {dvs : List V} (D0 : DdD K mg "origin_paper" sOPaper ["good", "share"] dvs f fd) (T : GCls K C pw fw gdw) (cRuling : CRuling P w K mg base C g gd) (B : Blt mg) : ∀ d, FnOk P w K mg base CX0 (4 + d) f fd ["good", "share"] (spOPaper K C d)
  | 0 => by
    refine funD_ok D0.F scOPaper (fun vs H Q E h => ?_) (fun cdv A outer s H vs Q E hr h => ?_)
    · obtain ⟨v, n, sh, rfl, _⟩ := h
      rfl
    · obtain ⟨v, n, sh, rfl, _, _, hd, _⟩ := h
      rw [Nd.d_eq] at hd
      exact absurd hd (by omega)
  | d + 1 => by
    have cOPaper : C1D P w K mg base "origin_paper" sOPaper ["good", "share"] dvs (4 + d) (spOPaper K C d) f fd := ⟨D0, ok_opaper D0 T cRuling B d⟩
    refine funD_ok D0.F scOPaper (fun vs H Q E h => ?_) (fun cdv A outer s H vs Q E hr h => ?_)
    · obtain ⟨v, n, sh, rfl, _⟩ := h
      rfl
    · obtain ⟨v, n, sh, rfl, hv, hok, hd, h0, h1, q⟩ := h
      obtain ⟨a, dx, Tp, us, rfl, ha, hT, hks⟩ := hv.ref
      have hr : Room (4 + d) _ := hr
      refine ⟨_, (pss_cons (ps_setLc (i := 2) (own := [("part", 5)]) (g := gName 5) (by rfl) scOPaper.nd rfl rfl (sw_true rfl rfl rfl (by decide +kernel)) (pi_tup (pe_fld (pv 0) rfl)) (blkOk_by (N := NOPaper) (sc := defScope sOPaper) (by decide +kernel)) (fun _ _ _ _ _ => pg_name (i := 5) scOPaper.nd rfl (Or.inl rfl)) (fun _ _ _ _ _ => pts_nil) (fun _ _ _ _ _ => pe_call cOPaper.G (hr.mono (by first | decide | omega)) (by rfl) cOPaper.D.g cOPaper.D.F.kp cOPaper.D.b .nil pass0 (pa_cons (pv 5) (pa_cons (pv 1) pa_nil))))
      (pss_cons (ps_asg (pe_call cRuling.G (hr.mono (by first | decide | omega)) (by rfl) cRuling.D.g cRuling.D.F.kp cRuling.D.b .nil pass0 (pa_cons (pv 0) (pa_cons (pv 1) (pa_cons (pe_lc (own := [("paper", 6)]) (g := gName 6) (by rfl) scOPaper.nd (pi_list (pv 2)) (blkOk_by (N := NOPaper) (sc := defScope sOPaper) (by decide +kernel)) (fun _ _ _ _ _ => pg_name (i := 6) scOPaper.nd rfl (Or.inl rfl)) (fun _ _ _ _ _ => pts_nil) (fun _ _ _ _ _ => pe_ix (r := rIxT K) ix_tup (pv 6) pe_int (fun _ _ => rfl))) pa_nil)))) (pg_tup (by rfl) (pgs_cons (pg_name (i := 3) scOPaper.nd rfl (.inl rfl)) (pgs_cons (pg_name (i := 4) scOPaper.nd rfl (.inl rfl)) pgs_nil))))
      (pss_one (ps_ret (pe_tup (pa_cons (pv 3) (pa_cons (pv 4) (pa_cons (pv 2) pa_nil)))))))), ?_⟩
      obtain ⟨nh, nw, nl, ks⟩ := n
      have hok' := hok
      obtain ⟨a1, a2, a3, a4, a5, a6⟩ := hok'
      have lu : us.length = ks.length := hks.len
      have hd : Nd.ds ks + 1 ≤ d + 1 := hd
      refine ⟨.ref a, rfl, a, C, dx, _, _, rfl, ha, T.c, T.np, fld_nd.2.2.1, Tp, rfl, ⟨us, hT⟩, fun D nD => lc_it (walk_tup (K := K) (a := Tp) (xs := us)) (fun i H1 => Same H H1 ∧ ∃ vs, H1 D = some (.lst vs) ∧ PsU (fun b => (H b = none ∧ b ≠ D) ∧ H1 b ≠ none) H1 ((ks.take i).map (certOf sh)) vs) ⟨same_upd nD, [], upd_same, rfl⟩ (fun i H1 _ hP => SqT.kg hT (Same.kg hP.1)) (fun i v H1 H2 hi hP hy => ?_) (fun H1 hP => ?_)⟩
      · obtain ⟨S1, vs, hD, hU⟩ := hP
        obtain ⟨rfl, ev⟩ := hy
        obtain ⟨k, ek, gk⟩ := GdsAt.at hks ev
        have ek : ks[i]? = some k := ek
        have mk := List.mem_of_getElem? ek
        refine ⟨rfl, v, rfl, .int sh, rfl, v, k, sh, rfl, gk.kg (Same.kg S1), Nd.oks_mem a6 k mk, by have := Nd.d_mem mk; omega, h0, h1, fun t H3 S3 U3 => ⟨vs, S3 _ _ hD, ?_, ?_, vs ++ [.ref t], upd_same, ?_⟩⟩
        · rw [hU.len, List.length_map, List.length_take]
          exact small1000 (by omega)
        · intro b o hb
          rw [upd_ne (ne_of_none hb nD)]
          exact S3 _ _ (S1 _ _ hb)
        · rw [List.take_add_one, ek, List.map_append]
          refine PsU.snoc (S := fun b => (H b = none ∧ b ≠ D) ∧ H2 b ≠ none) (S1 := New H2 H3) ?_ ?_ ?_ ?_ ?_
          · exact PsU.go (fun _ z => z) (fun b o z e => by rw [upd_ne z.1.2]; exact S3 _ _ e) hU
          · exact PpU.go (fun _ z => z) (fun b o z e => by
              rw [upd_ne (fun e2 => by rw [e2] at z; exact absurd hD (by rw [z.1]; exact fun q => by cases q))]
              exact e) U3
          · exact fun b z q => q.2 z.1
          · exact fun b z => ⟨z.1, by rw [upd_ne z.1.2]; exact same_some S3 z.2⟩
          · intro b z
            have hb : b ≠ D := fun e2 => by
              rw [e2] at z
              rw [z.1] at hD
              cases hD
            exact ⟨⟨same_none S1 z.1, hb⟩, by rw [upd_ne hb]; exact z.2⟩
      · obtain ⟨S1, vs, hD, hU⟩ := hP
        rw [lu, List.take_length, ← certsOf_map] at hU
        have hA := PsU.at (S' := fun _ => True) (fun _ _ => trivial) hU
        have lv : vs.length = ks.length := by rw [hU.len, certs_len]
        refine ⟨.ref a, rfl, .int sh, rfl, .ref D, rfl, D, rfl, ⟨vs, sqOf hD⟩, fun D2 n2 => lc_it (walk_list (K := K) (a := D) (xs := vs)) (fun i H2 => Same H1 H2 ∧ H2 D2 = some (.lst ((((certsOf sh ks).take i).map Pp.l).map V.str))) ⟨same_upd n2, upd_same⟩ (fun i H2 _ hP => sqOf (hP.1 _ _ hD)) (fun i v H2 H3 hi hP hy => ?_) (fun H2 hP => ?_)⟩
        · obtain ⟨S2, hD2⟩ := hP
          obtain ⟨rfl, ev⟩ := hy
          obtain ⟨p, ep, gp⟩ := hA.at ev
          obtain ⟨t, L, ws, rfl, _, ht, _⟩ := gp.ref
          refine ⟨rfl, _, rfl, t, _, 1, .str p.l, rfl, rfl, .inl (.inl (S2 _ _ ht)), atI_nat (j := 1) rfl, _, hD2, ?_, ?_, ?_⟩
          · rw [List.length_map, List.length_map, List.length_take]
            exact small1000 (by rw [certs_len]; omega)
          · intro b o hb
            rw [upd_ne (ne_of_none hb n2)]
            exact S2 _ _ hb
          · rw [upd_same, List.take_add_one, ep, List.map_append, List.map_append]
            rfl
        · obtain ⟨S2, hD2⟩ := hP
          rw [lv, ← certs_len sh ks, List.take_length] at hD2
          have S12 := Same.trans S1 S2
          refine ⟨.ref a, .mk nh nw nl ks, sh, D2, (certsOf sh ks).map Pp.l, rfl, hv.kg (Same.kg S12), hok, h0, h1, sqOf hD2, by rw [List.length_map, certs_len]; rfl, fun t H3 S3 nt ht => ?_⟩
          have S13 := Same.trans S12 S3
          have er : rowsL (Nd.mk nh nw nl ks).ks ((certsOf sh ks).map Pp.l) = rowsOf sh ks := rowsL_cert sh ks
          rw [er] at ht
          refine ⟨t, _, rfl, .inl (.inl ht), rfl, _, _, rfl, _, _, rfl, rfl, ?_⟩
          refine ⟨_, rfl, _, rfl, .ref D, rfl, by show 3 ≤ sizeLine; decide, fun t2 nt2 => ?_⟩
          refine q t2 _ (Same.trans S13 (same_upd nt2)) ⟨t2, D, vs, rfl, ⟨same_none S13 nt2, some_ne upd_same⟩, upd_same, ⟨nD, ?_⟩, ?_, ?_⟩
          · exact some_ne (same_upd nt2 _ _ (S3 _ _ (S2 _ _ hD)))
          · exact same_upd nt2 _ _ (S3 _ _ (S2 _ _ hD))
          · exact PsU.go (fun b z => ⟨⟨z.1.1, same_some (same_upd nt2) (same_some S3 (same_some S2 z.2))⟩, z.1.2⟩) (fun b o z e => same_upd nt2 _ _ (S3 _ _ (S2 _ _ e))) hU
def spOrigin (K : PySem.W.Frag) (C : Addr) (d : Nat) : Sp := fun vs H Q _ => ∃ (v : V) (n : Nd) (s : Int), vs = [v, .int s] ∧ GdAt K C H n v ∧ n.ok ∧ n.d ≤ d ∧ 0 ≤ s ∧ s ≤ 100 ∧ ∀ (H' : Hp), Same H H' → Q (.str (certOf s n).l) H'
theorem ok_origin {f g : Addr} {fd gd : FuncData} {dvs dvs2 : List V} {d : Nat} (F : FunDf K "origin" "origin" sOrigin dvs f fd) (cOPaper : C1D P w K mg base "origin_paper" sOPaper ["good", "share"] dvs2 (4 + d) (spOPaper K C d) g gd) : FnOk P w K mg base CX0 (5 + d) f fd ["good", "share"] (spOrigin K C d) := by
  have e5 : 5 + d = (4 + d) + 1 := by omega
  rw [e5]
  refine funD_ok F scOrigin (fun vs H Q E h => ?_) (fun cdv A outer s H vs Q E hr h => ?_)
  · obtain ⟨v, n, sh, rfl, _⟩ := h
    rfl
  · obtain ⟨v, n, sh, rfl, hv, hok, hd, h0, h1, q⟩ := h
    refine ⟨_, (pss_one (ps_ret (pe_ix ix_tup (pe_call cOPaper.G (hr.mono (by first | decide | omega)) (by rfl) cOPaper.D.g cOPaper.D.F.kp cOPaper.D.b .nil pass0 (pa_cons (pv 0) (pa_cons (pv 1) pa_nil))) pe_int (fun _ _ => rfl)))), ?_⟩
    refine ⟨v, rfl, .int sh, rfl, v, n, sh, rfl, hv, hok, hd, h0, h1, fun t H' S U => ?_⟩
    obtain ⟨t2, L, vs, e, _, ht, _⟩ := (PpU.at (S' := fun _ => True) (fun _ _ => trivial) U).ref
    cases e
    exact ⟨t, _, 1, _, rfl, rfl, .inl (.inl ht), atI_nat (j := 1) rfl, q H' S⟩
open Classical in
noncomputable def isCert (s : Int) (n : Nd) (p : Pp) : Bool := decide (p = certOf s n)
open Classical in
theorem isCert_iff {s : Int} {n : Nd} {p : Pp} : isCert s n p = true ↔ p = certOf s n := by
  unfold isCert
  rw [decide_eq_true_eq]
theorem isCert_no {s : Int} {n : Nd} {p : Pp} (h : p ≠ certOf s n) : isCert s n p = false := by
  cases e : isCert s n p with
  | false => rfl
  | true => exact absurd (isCert_iff.mp e) h
theorem cert_ps {s : Int} {n : Nd} : (certOf s n).ps = certsOf s n.ks := by
  cases n
  rfl
theorem all_certs {s : Int} : ∀ {ks : List Nd} {ps : List Pp}, ps.length = ks.length → (((ks.zip ps).map fun z => isCert s z.1 z.2).all id = true ↔ ps = certsOf s ks)
  | [], [], _ => ⟨fun _ => rfl, fun _ => rfl⟩
  | [], _ :: _, h => by cases h
  | _ :: _, [], h => by cases h
  | k :: ks, p :: ps, h => by
    have ih := all_certs (s := s) (ks := ks) (ps := ps) (Nat.succ.inj h)
    show ((isCert s k p && ((ks.zip ps).map fun z => isCert s z.1 z.2).all id) = true) ↔ p :: ps = certOf s k :: certsOf s ks
    rw [Bool.and_eq_true, ih, isCert_iff]
    exact ⟨fun ⟨a, b⟩ => by rw [a, b], fun e => ⟨List.cons.inj e |>.1, List.cons.inj e |>.2⟩⟩
theorem pair_shaped {a b : Str} (ha : Sg a) (hb : Sg b) : SeqAt.shaped (.tuple [.str a, .str b]) = true := by
  show ((PyData.strOk a && (PyData.strOk b && true)) && decide (_ ≤ 64)) = true
  rw [strOk_sg ha, strOk_sg hb]
  rfl
theorem pair_eqv {a b c d : Str} : PyData.eqv (.tuple [.str a, .str b]) (.tuple [.str c, .str d]) = decide (a = c ∧ b = d) := by
  show (a == c && (b == d && true)) = _
  rw [Bool.eq_iff_iff, Bool.and_eq_true, Bool.and_true, decide_eq_true_eq, beq_iff_eq, beq_iff_eq]
theorem ruled_sg {h l : Str} {w s : Int} {xs : List Row} (hl : Sg l) (hx : ∀ x ∈ xs, Sg x.l) : Sg (ruled h w l s xs).1 ∧ Sg (ruled h w l s xs).2 := by
  have lit : ∀ z : Str, (tl z).all (fun c => decide (c < 1114112)) = true → Sg z := fun z e c hc => of_decide_eq_true (List.all_eq_true.mp e c hc)
  cases xs with
  | nil => exact ⟨lit ("made" : Str) (by decide +kernel), hl⟩
  | cons x xs =>
    cases hf : farOf l (x :: xs) with
    | nil =>
      rw [ruled_wholly (List.cons_ne_nil _ _) hf]
      exact ⟨lit ("wholly" : Str) (by decide +kernel), hl⟩
    | cons f fs =>
      rw [ruled_far (List.cons_ne_nil _ _) hf]
      split
      · exact ⟨lit ("changed" : Str) (by decide +kernel), hl⟩
      split
      · exact ⟨lit ("value" : Str) (by decide +kernel), hl⟩
      · refine ⟨lit ("taken" : Str) (by decide +kernel), ?_⟩
        have hall : ∀ y ∈ f :: fs, Sg y.l := fun y hy => by
          rw [← hf] at hy
          exact hx y (List.mem_filter.mp hy).1
        have : ∀ (fs : List Row) (b : Row), (∀ y ∈ b :: fs, Sg y.l) → Sg (best fs b).l := fun fs => by
          induction fs with
          | nil => exact fun b hb => hb b (List.mem_cons_self ..)
          | cons y fs ih =>
            intro b hb
            refine ih _ fun z hz => ?_
            rcases List.mem_cons.mp hz with e | e
            · rw [e]
              split
              · exact hb y (List.mem_cons_of_mem _ (List.mem_cons_self ..))
              · exact hb b (List.mem_cons_self ..)
            · exact hb z (List.mem_cons_of_mem _ (List.mem_cons_of_mem _ e))
        exact this fs f hall
mutual
theorem cert_ok (s : Int) : ∀ n : Nd, n.ok → (certOf s n).ok
  | .mk h w l ks, ⟨a, b, c, d, e, f⟩ => by
    have g := ruled_sg (h := h) (w := w) (s := s) (xs := rowsOf s ks) (nm_tx b).sg fun x hx => (rows_sg s ks f x hx)
    exact ⟨g.1, g.2, by rw [certs_len]; omega, certs_ok s ks f⟩
theorem certs_ok (s : Int) : ∀ ks : List Nd, Nd.oks ks → Pp.oks (certsOf s ks)
  | [], _ => trivial
  | k :: ks, ⟨a, b⟩ => ⟨cert_ok s k a, certs_ok s ks b⟩
theorem rows_sg (s : Int) : ∀ ks : List Nd, Nd.oks ks → ∀ x ∈ rowsOf s ks, Sg x.l
  | [], _, _, hx => by cases hx
  | k :: ks, ⟨a, b⟩, x, hx => by
    rcases List.mem_cons.mp (show x ∈ _ :: rowsOf s ks from hx) with e | e
    · rw [e]
      have := cert_ok s k a
      show Sg (certOf s k).l
      revert this
      cases certOf s k
      exact fun q => q.2.1
    · exact rows_sg s ks b x e
end
def spCheck (K : PySem.W.Frag) (C : Addr) (d : Nat) : Sp := fun vs H Q _ => ∃ (v u : V) (n : Nd) (p : Pp) (s : Int) (S : AS), vs = [v, .int s, u] ∧ GdAt K C H n v ∧ n.ok ∧ n.d ≤ d ∧ 0 ≤ s ∧ s ≤ 100 ∧ PpAt S H p u ∧ p.ok ∧ ∀ (H' : Hp), Same H H' → Q (.bl (isCert s n p)) H'
theorem PpAt.same {S : AS} {H H' : Hp} {p : Pp} {v : V} (h : PpAt S H p v) (k : Same H H') : PpAt S H' p v := PpAt.go (fun b o z e _ => ⟨z, k _ _ e⟩) h
theorem PpsAt.same {S : AS} {H H' : Hp} {p : List Pp} {v : List V} (h : PpsAt S H p v) (k : Same H H') : PpsAt S H' p v := PpsAt.go (fun b o z e _ => ⟨z, k _ _ e⟩) h
theorem ok_check {f g : Addr} {fd gd : FuncData} (D0 : Dd K mg "check_origin" sCheck ["good", "share", "paper"] f fd) (T : GCls K C pw fw gdw) (cRuling : CRuling P w K mg base C g gd) (B : Blt mg) : ∀ d, FnOk P w K mg base CX0 (4 + d) f fd ["good", "share", "paper"] (spCheck K C d)
  | 0 => by
    refine D0.F.ok scCheck (fun vs H Q E h => ?_) (fun cdv A outer s H vs Q E hr h => ?_)
    · obtain ⟨v, u, n, p, sh, S, rfl, _⟩ := h
      rfl
    · obtain ⟨v, u, n, p, sh, S, rfl, _, _, hd, _⟩ := h
      rw [Nd.d_eq] at hd
      exact absurd hd (by omega)
  | d + 1 => by
    have cCheck : C1 P w K mg base "check_origin" sCheck ["good", "share", "paper"] (4 + d) (spCheck K C d) f fd := ⟨D0, ok_check D0 T cRuling B d⟩
    refine D0.F.ok scCheck (fun vs H Q E h => ?_) (fun cdv A outer s H vs Q E hr h => ?_)
    · obtain ⟨v, u, n, p, sh, S, rfl, _⟩ := h
      rfl
    · obtain ⟨v, u, n, p, sh, S, rfl, hv, hok, hd, h0, h1, hp, pok, q⟩ := h
      obtain ⟨a, dx, Tp, us, rfl, ha, hT, hks⟩ := hv.ref
      obtain ⟨tp, L, vs, rfl, _, htp, _, hL, hps⟩ := hp.ref
      have hr : Room (4 + d) _ := hr
      refine ⟨_, (pss_cons (ps_asg (pv 2) (pg_tup (by rfl) (pgs_cons (pg_name (i := 3) scCheck.nd rfl (.inl rfl)) (pgs_cons (pg_name (i := 4) scCheck.nd rfl (.inl rfl)) (pgs_cons (pg_name (i := 5) scCheck.nd rfl (.inl rfl)) pgs_nil)))))
      (pss_cons (ps_if (pt_cmpR op_ne (pe_callB call_len_seq (by rfl) B.len PySem.boot_len (pa_cons (pv 5) pa_nil)) (pe_callB call_len_seq (by rfl) B.len PySem.boot_len (pa_cons (pe_fld (pv 0) rfl) pa_nil)) (nomark _))
        (pss_one (ps_ret pe_bl))
        pss_nil)
      (pss_cons (ps_if (pt_not (pt_val (pe_callB (cr_all rfl) (by rfl) B.all (by decide +kernel) (pa_cons (pe_lc (own := [("part", 6), ("one", 7)]) (g := gTup K 2 (gCons (gName 6) (gCons (gName 7) gNil))) (by rfl) scCheck.nd (pi_zipM (by rfl) B.zip (pa_cons (pe_fld (pv 0) rfl) (pa_cons (pv 5) pa_nil))) (blkOk_by (N := NCheck) (sc := defScope sCheck) (by decide +kernel)) (fun _ _ _ _ _ => pg_tup (by rfl) (pgs_cons (pg_name (i := 6) scCheck.nd rfl (Or.inl rfl)) (pgs_cons (pg_name (i := 7) scCheck.nd rfl (Or.inl rfl)) pgs_nil))) (fun _ _ _ _ _ => pts_nil) (fun _ _ _ _ _ => pe_call cCheck.G (hr.mono (by first | decide | omega)) (by rfl) cCheck.D.g cCheck.D.F.kp cCheck.D.b .nil pass0 (pa_cons (pv 6) (pa_cons (pv 1) (pa_cons (pv 7) pa_nil))))) pa_nil))))
        (pss_one (ps_ret pe_bl))
        pss_nil)
      (pss_one (ps_ret (pe_cmpR (op_eqD hr.units) (pe_tup (pa_cons (pv 3) (pa_cons (pv 4) pa_nil))) (pe_call cRuling.G (hr.mono (by first | decide | omega)) (by rfl) cRuling.D.g cRuling.D.F.kp cRuling.D.b .nil pass0 (pa_cons (pv 0) (pa_cons (pv 1) (pa_cons (pe_lc (own := [("one", 7)]) (g := gName 7) (by rfl) scCheck.nd (pi_list (pv 5)) (blkOk_by (N := NCheck) (sc := defScope sCheck) (by decide +kernel)) (fun _ _ _ _ _ => pg_name (i := 7) scCheck.nd rfl (Or.inl rfl)) (fun _ _ _ _ _ => pts_nil) (fun _ _ _ _ _ => pe_ix (r := rIxT K) ix_tup (pv 7) pe_int (fun _ _ => rfl))) pa_nil)))) (nomark _))))))), ?_⟩
      obtain ⟨nh, nw, nl, ks⟩ := n
      obtain ⟨pr, pl, ps⟩ := p
      have hok' := hok
      obtain ⟨a1, a2, a3, a4, a5, a6⟩ := hok'
      obtain ⟨p1, p2, p3, p4⟩ := pok
      have lu : us.length = ks.length := hks.len
      have lv : vs.length = ps.length := hps.len
      have hd : Nd.ds ks + 1 ≤ d + 1 := hd
      refine ⟨.ref tp, rfl, tp, _, rfl, .inl (.inl htp), rfl, _, _, rfl, _, _, rfl, _, _, rfl, rfl, ?_⟩
      refine ⟨.ref L, rfl, L, _, rfl, .inl (sqOf hL), .ref a, rfl, a, C, dx, _, _, rfl, ha, T.c, T.np, fld_nd.2.2.1, Tp, us, rfl, .inr hT, rfl, _, rfl, ite2 (fun c => ?_) (fun c => ?_)⟩
      · have : isCert sh (.mk nh nw nl ks) (.mk pr pl ps) = false := isCert_no fun e => by
          have e2 : ps = certsOf sh ks := (congrArg Pp.ps e).trans cert_ps
          have e3 : vs.length = us.length := by rw [lv, e2, certs_len, lu]
          rw [int_dec, e3, decide_eq_true rfl] at c
          cases c
        have := this ▸ q H (Same.refl _)
        exact this
      have ll : ps.length = ks.length := by
        have : ¬ (!decide (V.int (vs.length : Int) = V.int (us.length : Int))) = true := c
        rw [int_dec] at this
        by_cases e : (vs.length : Int) = us.length
        · omega
        · rw [decide_eq_false e] at this
          exact absurd rfl this
      refine ⟨.ref a, rfl, a, C, dx, _, _, rfl, ha, T.c, T.np, fld_nd.2.2.1, .ref L, rfl, Tp, L, us, vs, rfl, hT, sqOf hL, fun D nD => ?_⟩
      refine lc_it (walk_zipM (K := K) (a := Tp) (b := L) (xs := us) (ys := vs) (n := ks.length) lu.symm (by omega)) (fun i H1 => Same H H1 ∧ H1 D = some (.lst ((((ks.zip ps).take i).map fun z => isCert sh z.1 z.2).map V.bl))) ⟨same_upd nD, upd_same⟩ (fun i H1 _ hP => ⟨SqT.kg hT (Same.kg hP.1), sqOf (hP.1 _ _ hL)⟩) (fun i v H1 H2 hi hP hy => ?_) (fun H1 hP => ?_)
      · obtain ⟨S1, hD⟩ := hP
        obtain ⟨T1, x, y, rfl, n1, rfl, ex, ey⟩ := hy
        have S2 : Same H (upd H1 T1 (.tup [x, y])) := Same.trans S1 (same_upd n1)
        obtain ⟨k, ek, gk⟩ := GdsAt.at hks ex
        obtain ⟨p, ep, gp⟩ := hps.at ey
        have ek : ks[i]? = some k := ek
        have ep : ps[i]? = some p := ep
        have mk := List.mem_of_getElem? ek
        refine ⟨T1, _, rfl, .inl (.inl upd_same), rfl, x, _, rfl, y, _, rfl, rfl, rfl, ?_⟩
        refine ⟨x, rfl, .int sh, rfl, y, rfl, x, y, k, p, sh, S, rfl, gk.kg (Same.kg S2), Nd.oks_mem a6 k mk, by have := Nd.d_mem mk; omega, h0, h1, PpAt.same gp S2, Pp.oks_mem p4 p (List.mem_of_getElem? ep), fun H3 S3 => ⟨_, S3 _ _ (same_upd n1 _ _ hD), ?_, ?_, ?_⟩⟩
        · rw [List.length_map, List.length_map, List.length_take, List.length_zip]
          exact small1000 (by omega)
        · intro b o hb
          rw [upd_ne (ne_of_none hb nD)]
          exact S3 _ _ (S2 _ _ hb)
        · have ez : (ks.zip ps)[i]? = some (k, p) := by
            rw [List.getElem?_zip_eq_some]
            exact ⟨ek, ep⟩
          rw [upd_same, List.take_add_one, ez, List.map_append, List.map_append]
          rfl
      · obtain ⟨S1, hD⟩ := hP
        have lz : (ks.zip ps).length = ks.length := by rw [List.length_zip]; omega
        rw [← lz, List.take_length] at hD
        refine ⟨D, _, rfl, sqOf hD, _, rfl, ite2 (fun c2 => ?_) (fun c2 => ?_)⟩
        · have : isCert sh (.mk nh nw nl ks) (.mk pr pl ps) = false := isCert_no fun e => by
            have e2 : ps = certsOf sh ks := (congrArg Pp.ps e).trans cert_ps
            rw [(all_certs ll).mpr e2] at c2
            cases c2
          have := this ▸ q H1 S1
          exact this
        have hrl := rows_sg sh ks a6
        have eps : ps = certsOf sh ks := (all_certs ll).mp (by
          cases e : ((ks.zip ps).map fun z => isCert sh z.1 z.2).all id with
          | true => rfl
          | false => rw [e] at c2; exact absurd rfl c2)
        have hL1 := S1 _ _ hL
        refine ⟨_, rfl, _, rfl, by show 2 ≤ sizeLine; decide, fun t1 m1 => ?_⟩
        generalize hH2 : upd H1 t1 _ = H2
        have S2 : Same H H2 := by rw [← hH2]; exact Same.trans S1 (same_upd m1)
        have ht1 : H2 t1 = some (.tup [.str pr, .str pl]) := by rw [← hH2]; exact upd_same
        have hL2 := S2 _ _ hL
        refine ⟨.ref a, rfl, .int sh, rfl, .ref L, rfl, L, rfl, ⟨vs, sqOf hL2⟩, fun D2 n2 => lc_it (walk_list (K := K) (a := L) (xs := vs)) (fun i H3 => Same H2 H3 ∧ H3 D2 = some (.lst (((ps.take i).map Pp.l).map V.str))) ⟨same_upd n2, upd_same⟩ (fun i H3 _ hP => sqOf (hP.1 _ _ hL2)) (fun i v H3 H4 hi hP hy => ?_) (fun H3 hP => ?_)⟩
        · obtain ⟨S3, hD2⟩ := hP
          obtain ⟨rfl, ev⟩ := hy
          obtain ⟨p, ep, gp⟩ := hps.at ev
          have ep : ps[i]? = some p := ep
          obtain ⟨t, L3, ws, rfl, _, ht, _⟩ := gp.ref
          refine ⟨rfl, _, rfl, t, _, 1, .str p.l, rfl, rfl, .inl (.inl (S3 _ _ (S2 _ _ ht))), atI_nat (j := 1) rfl, _, hD2, ?_, ?_, ?_⟩
          · rw [List.length_map, List.length_map, List.length_take]
            exact small1000 (by omega)
          · intro b o hb
            rw [upd_ne (ne_of_none hb n2)]
            exact S3 _ _ hb
          · rw [upd_same, List.take_add_one, ep, List.map_append, List.map_append]
            rfl
        · obtain ⟨S3, hD2⟩ := hP
          rw [lv, List.take_length] at hD2
          have S13 := Same.trans S2 S3
          refine ⟨.ref a, .mk nh nw nl ks, sh, D2, ps.map Pp.l, rfl, hv.kg (Same.kg S13), hok, h0, h1, sqOf hD2, by rw [List.length_map]; exact ll, fun t H4 S4 nt ht => ?_⟩
          have S14 := Same.trans S13 S4
          have er : rowsL (Nd.mk nh nw nl ks).ks (ps.map Pp.l) = rowsOf sh ks := by rw [eps]; exact rowsL_cert sh ks
          rw [er] at ht
          refine ⟨.tuple [.str pr, .str pl], .tuple [.str (ruled nh nw nl sh (rowsOf sh ks)).1, .str (ruled nh nw nl sh (rowsOf sh ks)).2], .tup (.inl (.inl (S4 _ _ (S3 _ _ ht1)))) (.cons (.str _) (.cons (.str _) .nil)), .tup (.inl (.inl ht)) (.cons (.str _) (.cons (.str _) .nil)), ?_, ?_, ?_⟩
          · exact pair_shaped p1 p2
          · exact pair_shaped (ruled_sg (nm_tx a2).sg hrl).1 (ruled_sg (nm_tx a2).sg hrl).2
          · have e : PyData.eqv (.tuple [.str pr, .str pl]) (.tuple [.str (ruled nh nw nl sh (rowsOf sh ks)).1, .str (ruled nh nw nl sh (rowsOf sh ks)).2]) = isCert sh (.mk nh nw nl ks) (.mk pr pl ps) := by
              rw [pair_eqv]
              cases e2 : isCert sh (.mk nh nw nl ks) (.mk pr pl ps) with
              | true =>
                have e3 := isCert_iff.mp e2
                rw [decide_eq_true_eq]
                exact ⟨congrArg Pp.r e3, congrArg Pp.l e3⟩
              | false =>
                rw [decide_eq_false_iff_not]
                rintro ⟨e3, e4⟩
                have e5 : isCert sh (.mk nh nw nl ks) (.mk pr pl ps) = true := isCert_iff.mpr (by rw [e3, e4, eps]; rfl)
                rw [e5] at e2
                cases e2
            have := e ▸ q H4 S14
            rw [e]
            exact q H4 S14
end
end Tb
namespace Tb
open PySem PySem.Spec PyProof.Rows L2
abbrev sSize : Stmt := topS 28
abbrev NSize : List Str := ["node", "kid"]
theorem scSize : FnScope NSize ["node"] (defScope sSize) := ⟨rfl, rfl, rfl, by decide +kernel, rfl, by decide +kernel, by decide +kernel⟩
abbrev sRuled : Stmt := topS 29
abbrev NRuled : List Str := ["node", "share", "papers", "k", "far", "best"]
theorem scRuled : FnScope NRuled ["node", "share", "papers"] (defScope sRuled) := ⟨rfl, rfl, rfl, by decide +kernel, rfl, by decide +kernel, by decide +kernel⟩
/-- a comprehension whose parts leave all that stands as it is -/
theorem lc_G {α : Type} {J : It} {n : Nat} {G : Hp → Prop} {Y : Nat → Hp → V → Hp → Prop} (wk : Walk J n G Y) {D : Addr} {i : Nat} {H1 : Hp} {Qd : Hp → Prop} {σ : L2.St} {tt : TT} {te : TE} (as : List α) (val : α → V) (p : α → Bool) (f : α → V) (hn : as.length = n) (nD : H1 D = none) (hlen : n ≤ 1000)
    (hY : ∀ k x H H', k < n → Y k H x H' → H' = H ∧ ∃ z, as[k]? = some z ∧ x = val z) (hG : ∀ H, Same H1 H → G H)
    (hw : ∀ x, wipe ((wipe σ [i]).set i (some x)) [i] = wipe σ [i])
    (ht : ∀ z ∈ as, ∀ H2, Same H1 H2 → ∀ R : Bool → Hp → Prop, R (p z) H2 → tt ((wipe σ [i]).set i (some (val z))) H2 R)
    (he : ∀ z ∈ as, p z = true → ∀ H2, Same H1 H2 → ∀ R : V → Hp → Prop, (∀ H3, Same H2 H3 → R (f z) H3) → te ((wipe σ [i]).set i (some (val z))) H2 R)
    (hd : ∀ H3, Same H1 H3 → H3 D = some (.lst ((as.filter p).map f)) → Qd H3) :
    ∃ W : Nat → Nat → Hp → Prop, (∃ m, W 0 m (upd H1 D (.lst []))) ∧ ∀ n m H, W n m H →
      (J.stop n H ∧ Qd H) ∨ (J.go n H ∧ ∃ Nx : Hp → Prop, (∀ H', Nx H' → ∃ m', m' < m ∧ W (n + 1) m' H') ∧ ∀ x H', J.yld n H x H' → gName i x (wipe σ [i]) H' fun σ2 H2 => wipe σ2 [i] = wipe σ [i] ∧ tt σ2 H2 fun b H3 =>
        if b = true then te σ2 H3 fun y H4 => ∃ acc, H4 D = some (.lst acc) ∧ acc.length < sizeLine ∧ Nx (upd H4 D (.lst (acc ++ [y]))) else Nx H3) := by
  refine lc_it wk (fun k H3 => Same H1 H3 ∧ H3 D = some (.lst (((as.take k).filter p).map f))) ⟨same_upd nD, upd_same⟩ (fun k H3 _ hP => hG H3 hP.1) (fun k v H3 H4 hk hP hy => ?_) (fun H3 hP => hd H3 hP.1 ?_)
  · obtain ⟨S3, hD⟩ := hP
    obtain ⟨rfl, z, ez, rfl⟩ := hY _ _ _ _ hk hy
    have mz : z ∈ as := List.mem_of_getElem? ez
    refine ⟨hw _, ht z mz _ S3 _ ?_⟩
    have ft := filter_take p as ez
    by_cases c : p z = true
    · rw [if_pos c] at ft
      rw [if_pos c]
      refine he z mz c _ S3 _ fun H5 S5 => ⟨_, S5 _ _ hD, ?_, ?_, ?_⟩
      · rw [List.length_map]
        exact small1000 (Nat.le_trans (List.length_filter_le _ _) (by rw [List.length_take]; omega))
      · intro b o hb
        rw [upd_ne (ne_of_none hb nD)]
        exact S5 _ _ (S3 _ _ hb)
      · rw [upd_same, ft, List.map_append]
        rfl
    · rw [if_neg c] at ft
      rw [if_neg c]
      refine ⟨S3, ?_⟩
      rw [hD, ft, List.append_nil]
  · rw [hP.2, ← hn, List.take_length]
theorem yAt_val {α : Type} {as : List α} {val : α → V} {n : Nat} : ∀ k x H H', k < n → YAt (as.map val) k H x H' → H' = H ∧ ∃ z, as[k]? = some z ∧ x = val z := by
  rintro k x H H' _ ⟨rfl, e⟩
  rw [List.getElem?_map] at e
  cases e2 : as[k]? with
  | none => rw [e2] at e; cases e
  | some z => rw [e2] at e; exact ⟨rfl, z, rfl, (Option.some.inj e).symm⟩
theorem yRange_val {n : Nat} : ∀ k x H H', k < n → YFn (fun i => V.int ((0 : Int) + i)) k H x H' → H' = H ∧ ∃ z, (List.range n)[k]? = some z ∧ x = V.int (z : Int) := by
  rintro k x H H' hk ⟨rfl, rfl⟩
  refine ⟨rfl, k, ?_, by show V.int ((0 : Int) + k) = V.int k; rw [Int.zero_add]⟩
  rw [List.getElem?_range hk]
mutual
def Nd.sz : Nd → Int
  | .mk _ _ _ ks => 1 + Nd.szs ks
def Nd.szs : List Nd → Int
  | [] => 0
  | k :: ks => Nd.sz k + Nd.szs ks
end
theorem Nd.szs_sum : ∀ ks : List Nd, (ks.map Nd.sz).sum = Nd.szs ks
  | [] => rfl
  | k :: ks => by
    rw [List.map_cons, List.sum_cons, Nd.szs_sum ks]
    rfl
theorem Nd.sz_eq (n : Nd) : n.sz = 1 + (n.ks.map Nd.sz).sum := by
  cases n
  rw [Nd.szs_sum]
  rfl
theorem NdAt.same {S : AS} {H H' : Hp} {p : Nd} {v : V} (h : NdAt S H p v) (k : Same H H') : NdAt S H' p v := NdAt.go (fun b o z e _ => ⟨z, k _ _ e⟩) h
theorem NdsAt.same {S : AS} {H H' : Hp} {p : List Nd} {v : List V} (h : NdsAt S H p v) (k : Same H H') : NdsAt S H' p v := NdsAt.go (fun b o z e _ => ⟨z, k _ _ e⟩) h
theorem Nd.ok_len {n : Nd} (h : n.ok) : n.ks.length ≤ 8 := by
  cases n
  exact h.2.2.2.2.1
theorem Nd.ok_ks {n : Nd} (h : n.ok) : Nd.oks n.ks := by
  cases n
  exact h.2.2.2.2.2
/-- the values with what they are -/
def tagN (ks : List Nd) (vs : List V) : List (V × Nd) := vs.zip ks
theorem tag_map {ks : List Nd} {vs : List V} (h : vs.length = ks.length) : (tagN ks vs).map Prod.fst = vs := List.map_fst_zip (by omega)
theorem tag_snd {ks : List Nd} {vs : List V} (h : vs.length = ks.length) : (tagN ks vs).map Prod.snd = ks := List.map_snd_zip (by omega)
theorem tag_at {S : AS} {H : Hp} {ks : List Nd} {vs : List V} (h : NdsAt S H ks vs) {z : V × Nd} (m : z ∈ tagN ks vs) : NdAt S H z.2 z.1 ∧ z.2 ∈ ks := by
  obtain ⟨i, hi⟩ := List.mem_iff_getElem?.mp m
  have hi : (vs.zip ks)[i]? = some z := hi
  rw [List.getElem?_zip_eq_some] at hi
  obtain ⟨k, e1, e2⟩ := h.at hi.1
  rw [hi.2] at e1
  cases e1
  exact ⟨e2, List.mem_of_getElem? hi.2⟩
section
variable {P : Program} {w : World} {K : PySem.W.Frag} {mg : Str → Option Value} {base : Heap} {C pw fw : Addr} {gdw : FuncData}
def spSize (d : Nat) : Sp := fun vs H Q _ => ∃ (v : V) (n : Nd) (S : AS), vs = [v] ∧ NdAt S H n v ∧ n.ok ∧ n.d ≤ d ∧ ∀ (H' : Hp), Same H H' → Q (.int n.sz) H'
theorem ok_size {f : Addr} {fd : FuncData} (D0 : Dd K mg "_law_size" sSize ["node"] f fd) (B : Blt mg) : ∀ d, FnOk P w K mg base CX0 (1 + d) f fd ["node"] (spSize d)
  | 0 => by
    refine D0.F.ok scSize (fun vs H Q E h => ?_) (fun cdv A outer s H vs Q E hr h => ?_)
    · obtain ⟨v, n, S, rfl, _⟩ := h
      rfl
    · obtain ⟨v, n, S, rfl, _, _, hd, _⟩ := h
      rw [Nd.d_eq] at hd
      exact absurd hd (by omega)
  | d + 1 => by
    have cSize : C1 P w K mg base "_law_size" sSize ["node"] (1 + d) (spSize d) f fd := ⟨D0, ok_size D0 B d⟩
    refine D0.F.ok scSize (fun vs H Q E h => ?_) (fun cdv A outer s H vs Q E hr h => ?_)
    · obtain ⟨v, n, S, rfl, _⟩ := h
      rfl
    · obtain ⟨v, n, S, rfl, hv, hok, hd, q⟩ := h
      obtain ⟨t, L, vs, rfl, _, ht, _, hL, hks⟩ := hv.ref
      have hr : Room (1 + d) _ := hr
      have hd : Nd.ds n.ks + 1 ≤ d + 1 := by rw [← Nd.d_eq]; exact hd
      have lk := Nd.ok_len hok
      have lv := hks.len
      refine ⟨_, (pss_one (ps_ret (pe_op op_add pe_int (pe_callB (cr_sum rfl) (by rfl) B.sum (by decide +kernel) (pa_cons (pe_lc (own := [("kid", 1)]) (g := gName 1) (by rfl) scSize.nd (pi_list (pe_ix ix_tup (pv 0) pe_int (fun _ _ => rfl))) (blkOk_by (N := NSize) (sc := defScope sSize) (by decide +kernel)) (fun _ _ _ _ _ => pg_name (i := 1) scSize.nd rfl (Or.inl rfl)) (fun _ _ _ _ _ => pts_nil) (fun _ _ _ _ _ => pe_call cSize.G (hr.mono (by first | decide | omega)) (by rfl) cSize.D.g cSize.D.F.kp cSize.D.b .nil pass0 (pa_cons (pv 1) pa_nil))) pa_nil))))), ?_⟩
      refine ⟨.ref t, rfl, t, _, 3, .ref L, rfl, rfl, .inl (.inl ht), atI_nat (j := 3) rfl, L, rfl, ⟨vs, sqOf hL⟩, fun D nD => ?_⟩
      refine lc_G (walk_list (K := K) (a := L) (xs := (tagN n.ks vs).map Prod.fst)) (i := 1) (tagN n.ks vs) Prod.fst (fun _ => true) (fun z => .int z.2.sz) (List.length_map _).symm nD (by rw [tag_map lv]; omega) yAt_val (fun H2 S2 => sqOf (by rw [tag_map lv]; exact S2 _ _ hL)) (fun _ => rfl) (fun z _ H2 _ R h => h) (fun z hz _ H2 S2 R h => ?_) (fun H2 S2 hD2 => ?_)
      · obtain ⟨a1, a2⟩ := tag_at hks hz
        exact ⟨z.1, rfl, z.1, z.2, S, rfl, a1.same S2, Nd.oks_mem (Nd.ok_ks hok) _ a2, by have := Nd.d_mem a2; omega, h⟩
      · have e2 : ((tagN n.ks vs).filter fun _ => true).map (fun z => V.int z.2.sz) = (n.ks.map Nd.sz).map V.int := by
          have e3 : n.ks.map Nd.sz = (tagN n.ks vs).map fun z => z.2.sz := by
            rw [← congrArg (List.map Nd.sz) (tag_snd lv), List.map_map]
            rfl
          rw [filt_true, e3, List.map_map]
          rfl
        rw [e2] at hD2
        refine ⟨D, n.ks.map Nd.sz, rfl, sqOf hD2, 1, _, rfl, rfl, ?_⟩
        have := q H2 S2
        rw [Nd.sz_eq] at this
        exact this
end
end Tb
namespace Tb
open PySem PySem.Spec PyProof.Rows L2
theorem Nd.ok_h {n : Nd} (h : n.ok) : Tx n.h ∧ Tx n.l := by
  cases n
  exact ⟨ad_tx h.1, nm_tx h.2.1⟩
def row0 : Row := ⟨"", 0, ""⟩
theorem range_getD {α : Type} (xs : List α) (d : α) : (List.range xs.length).map (fun k => xs.getD k d) = xs := by
  apply List.ext_getElem?
  intro i
  rw [List.getElem?_map]
  by_cases h : i < xs.length
  · rw [List.getElem?_range h, List.getElem?_eq_getElem h]
    show some (xs.getD i d) = _
    rw [List.getD_eq_getElem?_getD, List.getElem?_eq_getElem h]
    rfl
  · rw [List.getElem?_eq_none (by rw [List.length_range]; omega), List.getElem?_eq_none (by omega)]
    rfl
theorem far_idx (l : Str) (xs : List Row) : farOf l xs = ((List.range xs.length).filter fun k => !decide ((xs.getD k row0).l = l)).map fun k => xs.getD k row0 := by
  have e := congrArg (fun ys => ys.filter fun x : Row => !decide (x.l = l)) (range_getD xs row0)
  show xs.filter _ = _
  rw [← show _ = xs.filter _ from e]
  show ((List.range xs.length).map _).filter _ = _
  rw [List.filter_map]
  rfl
theorem best_snoc : ∀ (l : List Row) (b x : Row), best (l ++ [x]) b = if (best l b).w < x.w then x else best l b
  | [], b, x => rfl
  | y :: l, b, x => best_snoc l _ x
theorem best_self (l : List Row) (b : Row) : best (b :: l) b = best l b := by
  show best l (if b.w < b.w then b else b) = _
  rw [if_neg (Int.lt_irrefl _)]
theorem rowsL_len {ks : List Nd} {ls : List Str} (h : ls.length = ks.length) : (rowsL ks ls).length = ks.length := by
  unfold rowsL
  rw [List.length_map, List.length_zip]
  omega
theorem rowsL_get {ks : List Nd} {ls : List Str} {i : Nat} {k : Nd} {l : Str} (h1 : ks[i]? = some k) (h2 : ls[i]? = some l) : (rowsL ks ls).getD i row0 = ⟨chap k.h, k.w, l⟩ := by
  have e : (ks.zip ls)[i]? = some (k, l) := by
    rw [List.getElem?_zip_eq_some]
    exact ⟨h1, h2⟩
  unfold rowsL
  rw [List.getD_eq_getElem?_getD, List.getElem?_map, e]
  rfl
section
variable {P : Program} {w : World} {K : PySem.W.Frag} {mg : Str → Option Value} {base : Heap}
def spLRuled : Sp := fun vs H Q _ => ∃ (v : V) (n : Nd) (s : Int) (L : Addr) (us : List V) (ps : List Pp) (S S2 : AS), vs = [v, .int s, .ref L] ∧ NdAt S H n v ∧ n.ok ∧ 0 ≤ s ∧ s ≤ 100 ∧ H L = some (.lst us) ∧ PpsAt S2 H ps us ∧ ps.length = n.ks.length ∧
  ∀ (t : Addr) (H' : Hp), Same H H' → H t = none → H' t = some (.tup [.str (ruled n.h n.w n.l s (rowsL n.ks (ps.map Pp.l))).1, .str (ruled n.h n.w n.l s (rowsL n.ks (ps.map Pp.l))).2]) → Q (.ref t) H'
theorem ok_lruled {f : Addr} {fd : FuncData} (F : Fun K "_law_ruled" "_law_ruled" sRuled f fd) (B : Blt mg) : FnOk P w K mg base CX0 1 f fd ["node", "share", "papers"] spLRuled := by
  refine F.ok scRuled (fun vs H Q E h => ?_) (fun cdv A outer s H vs Q E hr h => ?_)
  · obtain ⟨v, n, sh, L, us, ps, S, S2, rfl, _⟩ := h
    rfl
  · obtain ⟨v, n, sh, L, us, ps, S, S2, rfl, hv, hok, h0, h1, hL, hps, hl, q⟩ := h
    obtain ⟨tn, LN, vn, rfl, _, htn, _, hLN, hks⟩ := hv.ref
    refine ⟨_, (pss_cons (ps_setLc (i := 4) (own := [("k", 3)]) (g := gName 3) (by rfl) scRuled.nd rfl rfl (sw_true rfl rfl rfl (by decide +kernel)) (pi_range1 (by rfl) B.range (pa_cons (pe_callB call_len_seq (by rfl) B.len PySem.boot_len (pa_cons (pv 2) pa_nil)) pa_nil)) (blkOk_by (N := NRuled) (sc := defScope sRuled) (by decide +kernel)) (fun _ _ _ _ _ => pg_name (i := 3) scRuled.nd rfl (Or.inl rfl)) (fun _ _ _ _ _ => pts_one (pt_cmpR op_ne (pe_ix (r := rIxT K) ix_tup (pe_ix (r := rIxL K) ix_list (pv 2) (pv 3) (fun _ _ => rfl)) pe_int (fun _ _ => rfl)) (pe_ix (r := rIxT K) ix_tup (pv 0) pe_int (fun _ _ => rfl)) (nomark _))) (fun _ _ _ _ _ => pv 3))
      (pss_cons (ps_if (pt_cmpR op_eq (pe_callB call_len_seq (by rfl) B.len PySem.boot_len (pa_cons (pv 2) pa_nil)) pe_int (nomark _))
        (pss_one (ps_ret (pe_tup (pa_cons pe_str (pa_cons (pe_ix ix_tup (pv 0) pe_int (fun _ _ => rfl)) pa_nil)))))
        pss_nil)
      (pss_cons (ps_if (pt_cmpR op_eq (pe_callB call_len_seq (by rfl) B.len PySem.boot_len (pa_cons (pv 4) pa_nil)) pe_int (nomark _))
        (pss_one (ps_ret (pe_tup (pa_cons pe_str (pa_cons (pe_ix ix_tup (pv 0) pe_int (fun _ _ => rfl)) pa_nil)))))
        pss_nil)
      (pss_cons (ps_if (pt_cmpR op_eq (pe_callB call_len_seq (by rfl) B.len PySem.boot_len (pa_cons (pe_lc (own := [("k", 3)]) (g := gName 3) (by rfl) scRuled.nd (pi_list (pv 4)) (blkOk_by (N := NRuled) (sc := defScope sRuled) (by decide +kernel)) (fun _ _ _ _ _ => pg_name (i := 3) scRuled.nd rfl (Or.inl rfl)) (fun _ _ _ _ _ => pts_one (pt_cmpR op_eq (pe_slice sl_str (pe_ix (r := rIxT K) ix_tup (pe_ix (r := rIxL K) ix_list (pe_ix (r := rIxT K) ix_tup (pv 0) pe_int (fun _ _ => rfl)) (pv 3) (fun _ _ => rfl)) pe_int (fun _ _ => rfl)) po_none (po_some pe_int)) (pe_slice sl_str (pe_ix (r := rIxT K) ix_tup (pv 0) pe_int (fun _ _ => rfl)) po_none (po_some pe_int)) (nomark _))) (fun _ _ _ _ _ => pv 3)) pa_nil)) pe_int (nomark _))
        (pss_one (ps_ret (pe_tup (pa_cons pe_str (pa_cons (pe_ix ix_tup (pv 0) pe_int (fun _ _ => rfl)) pa_nil)))))
        pss_nil)
      (pss_cons (ps_if (pt_cmpR op_le (pe_op op_mul pe_int (pe_callB (cr_sum rfl) (by rfl) B.sum (by decide +kernel) (pa_cons (pe_lc (own := [("k", 3)]) (g := gName 3) (by rfl) scRuled.nd (pi_list (pv 4)) (blkOk_by (N := NRuled) (sc := defScope sRuled) (by decide +kernel)) (fun _ _ _ _ _ => pg_name (i := 3) scRuled.nd rfl (Or.inl rfl)) (fun _ _ _ _ _ => pts_nil) (fun _ _ _ _ _ => pe_ix (r := rIxT K) ix_tup (pe_ix (r := rIxL K) ix_list (pe_ix (r := rIxT K) ix_tup (pv 0) pe_int (fun _ _ => rfl)) (pv 3) (fun _ _ => rfl)) pe_int (fun _ _ => rfl))) pa_nil))) (pe_op op_mul (pv 1) (pe_ix ix_tup (pv 0) pe_int (fun _ _ => rfl))) (nomark _))
        (pss_one (ps_ret (pe_tup (pa_cons pe_str (pa_cons (pe_ix ix_tup (pv 0) pe_int (fun _ _ => rfl)) pa_nil)))))
        pss_nil)
      (pss_cons (ps_set (i := 5) scRuled.nd rfl (.inl rfl) (pe_ix ix_list (pv 4) pe_int (fun _ _ => rfl)))
      (pss_cons (ps_for PassesOwn.never rfl (pi_list (pv 4)) (pg_name (i := 3) scRuled.nd rfl (.inl rfl))
        (pss_one (ps_if (pt_cmpR op_gt (pe_ix ix_tup (pe_ix ix_list (pe_ix ix_tup (pv 0) pe_int (fun _ _ => rfl)) (pv 3) (fun _ _ => rfl)) pe_int (fun _ _ => rfl)) (pe_ix ix_tup (pe_ix ix_list (pe_ix ix_tup (pv 0) pe_int (fun _ _ => rfl)) (pv 5) (fun _ _ => rfl)) pe_int (fun _ _ => rfl)) (nomark _))
          (pss_one (ps_set (i := 5) scRuled.nd rfl (.inl rfl) (pv 3)))
          pss_nil)))
      (pss_one (ps_ret (pe_tup (pa_cons pe_str (pa_cons (pe_ix ix_tup (pe_ix ix_list (pv 2) (pv 5) (fun _ _ => rfl)) pe_int (fun _ _ => rfl)) pa_nil)))))))))))), ?_⟩
    obtain ⟨xs, exs⟩ : ∃ xs, xs = rowsL n.ks (ps.map Pp.l) := ⟨_, rfl⟩
    have lx : xs.length = n.ks.length := by rw [exs]; exact rowsL_len (by rw [List.length_map]; exact hl)
    have l8 := Nd.ok_len hok
    have hz : sizeLine = 16777216 := rfl
    have lnh := (Nd.ok_h hok).1.len
    have lu : us.length = xs.length := by rw [lx, ← hl]; exact hps.len
    have rdN : ∀ k, k < xs.length → ∃ (t : Addr) (h l : Str) (L : Addr), vn[k]? = some (.ref t) ∧ H t = some (.tup [.str h, .int (xs.getD k row0).w, .str l, .ref L]) ∧ (chap h = (xs.getD k row0).c ∧ h.length ≤ 100) ∧ ∃ (t2 : Addr) (r : Str) (L2 : Addr), us[k]? = some (.ref t2) ∧ H t2 = some (.tup [.str r, .str (xs.getD k row0).l, .ref L2]) := fun k hk => by
      have h1 : k < n.ks.length := by omega
      have h2 : k < ps.length := by omega
      obtain ⟨v1, e1, g1⟩ := hks.get (List.getElem?_eq_getElem h1)
      obtain ⟨v2, e2, g2⟩ := hps.get (List.getElem?_eq_getElem h2)
      obtain ⟨t, Lk, _, rfl, _, ht, _⟩ := g1.ref
      obtain ⟨t2, Lk2, _, rfl, _, ht2, _⟩ := g2.ref
      have e3 : xs.getD k row0 = ⟨chap n.ks[k].h, n.ks[k].w, ps[k].l⟩ := by
        rw [exs]
        refine rowsL_get (List.getElem?_eq_getElem h1) ?_
        rw [List.getElem?_map, List.getElem?_eq_getElem h2]
        rfl
      refine ⟨t, n.ks[k].h, n.ks[k].l, Lk, e1, ?_, ?_, t2, ps[k].r, Lk2, e2, ?_⟩
      · rw [e3]; exact ht
      · rw [e3]
        exact ⟨rfl, (Nd.ok_h (Nd.oks_mem (Nd.ok_ks hok) _ (List.getElem_mem h1))).1.len⟩
      · rw [e3]; exact ht2
    have hret : ∀ {H2 : Hp} {t : Addr} {r l : Str}, Same H H2 → H2 t = none → ruled n.h n.w n.l sh xs = (r, l) → Q (.ref t) (upd H2 t (.tup [.str r, .str l])) := fun {H2 t r l} S2 nt e => by
      refine q t _ (Same.trans S2 (same_upd nt)) (same_none S2 nt) ?_
      rw [← exs, upd_same, e]
    refine ⟨.ref L, rfl, L, us, rfl, .inl (sqOf hL), _, rfl, by omega, by omega, fun D nD => ?_⟩
    refine lc_G (walk_range (lo := 0) (n := ((us.length : Nat) : Int).toNat)) (i := 3) (List.range xs.length) (fun (k : Nat) => V.int (k : Int)) (fun k => !decide ((xs.getD k row0).l = n.l)) (fun k => .int (k : Int)) (by rw [List.length_range]; omega) nD (by omega) (fun k x H1 H2 hk hy => ?_) (fun _ _ => trivial) (fun _ => rfl) (fun k hk H2 S3 R h => ?_) (fun k hk _ H2 S3 R h => ⟨_, rfl, h H2 (Same.refl _)⟩) (fun H2 S3 hD2 => ?_)
    · exact yRange_val k x H1 H2 (by omega) hy
    · obtain ⟨t, hh, ll, Lk, _, _, _, t2, r, Lk2, e2, ht2⟩ := rdN k (List.mem_range.mp hk)
      refine ⟨.ref L, rfl, .int (k : Int), rfl, L, us, k, .ref t2, rfl, rfl, sqOf (S3 _ _ hL), atI_nat e2, t2, _, 1, _, rfl, rfl, .inl (.inl (S3 _ _ ht2)), atI_nat (j := 1) rfl, .ref tn, rfl, tn, _, 2, .str n.l, rfl, rfl, .inl (.inl (S3 _ _ htn)), atI_nat (j := 2) rfl, rfl, _, rfl, ?_⟩
      rw [str_dec]
      exact h
    obtain ⟨fk, efk⟩ : ∃ fk : List Nat, fk = (List.range xs.length).filter fun k => !decide ((xs.getD k row0).l = n.l) := ⟨_, rfl⟩
    rw [← efk] at hD2
    have far : farOf n.l xs = fk.map fun k => xs.getD k row0 := by rw [far_idx, efk]
    have fm : ∀ k ∈ fk, k < xs.length := fun k hk => by
      rw [efk] at hk
      exact List.mem_range.mp (List.mem_filter.mp hk).1
    have fl : fk.length ≤ 8 := by
      have := List.length_filter_le (fun k => !decide ((xs.getD k row0).l = n.l)) (List.range xs.length)
      rw [← efk, List.length_range] at this
      omega
    have at2 : ∀ {H4 : Hp}, Same H H4 → SqT K H4 tn [.str n.h, .int n.w, .str n.l, .ref LN] := fun S => .inl (.inl (S _ _ htn))
    refine ⟨.ref L, rfl, L, us, rfl, .inl (sqOf (S3 _ _ hL)), rfl, _, rfl, ite2 (fun c => ?_) (fun c => ?_)⟩
    · rw [int_dec] at c
      have c := of_decide_eq_true c
      refine ⟨.ref tn, rfl, tn, _, 2, .str n.l, rfl, rfl, at2 S3, atI_nat (j := 2) rfl, by show 2 ≤ sizeLine; decide, fun t nt => hret S3 nt ?_⟩
      rw [List.length_eq_zero_iff.mp (show xs.length = 0 by omega)]
      rfl
    have hx : xs ≠ [] := fun e => c (by
      rw [int_dec]
      refine decide_eq_true ?_
      rw [lu, e]
      rfl)
    refine ⟨.ref D, rfl, D, _, rfl, .inl (sqOf hD2), rfl, _, rfl, ite2 (fun c2 => ?_) (fun c2 => ?_)⟩
    · rw [int_dec, List.length_map] at c2
      have c2 := of_decide_eq_true c2
      refine ⟨.ref tn, rfl, tn, _, 2, .str n.l, rfl, rfl, at2 S3, atI_nat (j := 2) rfl, by show 2 ≤ sizeLine; decide, fun t nt => hret S3 nt (ruled_wholly hx ?_)⟩
      rw [far, List.length_eq_zero_iff.mp (show fk.length = 0 by omega)]
      rfl
    obtain ⟨k0, fk', ek⟩ : ∃ k0 fk', fk = k0 :: fk' := by
      cases hfk : fk with
      | nil => rw [hfk] at c2; exact absurd rfl c2
      | cons a b => exact ⟨a, b, rfl⟩
    have hru := ruled_far (h := n.h) (w := n.w) (s := sh) hx (far.trans (by rw [ek]; rfl))
    refine ⟨.ref D, rfl, D, rfl, ⟨_, sqOf hD2⟩, fun D2 nD2 => ?_⟩
    refine lc_G (walk_list (K := K) (a := D) (xs := fk.map fun (k : Nat) => V.int (k : Int))) (i := 3) fk (fun (k : Nat) => V.int (k : Int)) (fun k => decide ((xs.getD k row0).c = chap n.h)) (fun k => .int (k : Int)) (List.length_map _).symm nD2 (by rw [List.length_map]; omega) yAt_val (fun H4 S4 => sqOf (S4 _ _ hD2)) (fun _ => rfl) (fun k hk H4 S4 R h => ?_) (fun k hk _ H4 S4 R h => ⟨_, rfl, h H4 (Same.refl _)⟩) (fun H4 S4 hD4 => ?_)
    · obtain ⟨t, hh, ll, Lk, e1, ht1, ⟨ec, lh⟩, _⟩ := rdN k (fm k hk)
      have S34 := Same.trans S3 S4
      refine ⟨.ref tn, rfl, tn, _, 3, .ref LN, rfl, rfl, at2 S34, atI_nat (j := 3) rfl, .int (k : Int), rfl, LN, vn, k, .ref t, rfl, rfl, sqOf (S34 _ _ hLN), atI_nat e1, t, _, 0, .str hh, rfl, rfl, .inl (.inl (S34 _ _ ht1)), atI_nat (j := 0) rfl, ?_⟩
      refine ⟨2, rfl, hh, rfl, by omega, .ref tn, rfl, tn, _, 0, .str n.h, rfl, rfl, at2 S34, atI_nat (j := 0) rfl, 2, rfl, n.h, rfl, by omega, rfl, _, rfl, ?_⟩
      rw [str_dec]
      rw [← ec] at h
      exact h
    have S24 := Same.trans S3 S4
    refine ⟨D2, _, rfl, .inl (sqOf hD4), rfl, _, rfl, ite2 (fun c3 => ?_) (fun c3 => ?_)⟩
    · rw [int_dec, List.length_map] at c3
      have c3 := List.length_eq_zero_iff.mp (show (fk.filter fun k => decide ((xs.getD k row0).c = chap n.h)).length = 0 by have := of_decide_eq_true c3; omega)
      refine ⟨.ref tn, rfl, tn, _, 2, .str n.l, rfl, rfl, at2 S24, atI_nat (j := 2) rfl, by show 2 ≤ sizeLine; decide, fun t nt => hret S24 nt (hru.trans (if_pos ?_))⟩
      show ((k0 :: fk').map fun k => xs.getD k row0).all _ = true
      rw [← ek, List.all_map, List.all_eq_true]
      intro k hk
      have := List.filter_eq_nil_iff.mp c3 k hk
      show (!decide ((xs.getD k row0).c = chap n.h)) = true
      cases e : decide ((xs.getD k row0).c = chap n.h) with
      | false => rfl
      | true => exact absurd e this
    have c3' : ¬ (((fun k => xs.getD k row0) k0 :: fk'.map fun k => xs.getD k row0).all fun x => !decide (x.c = chap n.h)) = true := fun z => c3 (by
      have z : ((k0 :: fk').map fun k => xs.getD k row0).all (fun x => !decide (x.c = chap n.h)) = true := z
      rw [← ek, List.all_map, List.all_eq_true] at z
      rw [int_dec, List.length_map]
      refine decide_eq_true ?_
      have e : (fk.filter fun k => decide ((xs.getD k row0).c = chap n.h)) = [] := List.filter_eq_nil_iff.mpr fun k hk e => by
        have := z k hk
        have : (!decide ((xs.getD k row0).c = chap n.h)) = true := this
        rw [e] at this
        cases this
      rw [e]
      rfl)
    rw [if_neg c3'] at hru
    have hD5 := S4 _ _ hD2
    refine ⟨.ref D, rfl, D, rfl, ⟨_, sqOf hD5⟩, fun D3 nD3 => ?_⟩
    refine lc_G (walk_list (K := K) (a := D) (xs := fk.map fun (k : Nat) => V.int (k : Int))) (i := 3) fk (fun (k : Nat) => V.int (k : Int)) (fun _ => true) (fun k => .int (xs.getD k row0).w) (List.length_map _).symm nD3 (by rw [List.length_map]; omega) yAt_val (fun H5 S5 => sqOf (S5 _ _ hD5)) (fun _ => rfl) (fun k hk H5 S5 R h => h) (fun k hk _ H5 S5 R h => ?_) (fun H5 S5 hD6 => ?_)
    · obtain ⟨t, hh, ll, Lk, e1, ht1, _, _⟩ := rdN k (fm k hk)
      have S25 := Same.trans S24 S5
      exact ⟨.ref tn, rfl, tn, _, 3, .ref LN, rfl, rfl, at2 S25, atI_nat (j := 3) rfl, .int (k : Int), rfl, LN, vn, k, .ref t, rfl, rfl, sqOf (S25 _ _ hLN), atI_nat e1, t, _, 1, _, rfl, rfl, .inl (.inl (S25 _ _ ht1)), atI_nat (j := 1) rfl, h H5 (Same.refl _)⟩
    have S25 := Same.trans S24 S5
    have esum : (fk.map fun k => xs.getD k row0).map Row.w = fk.map fun k => (xs.getD k row0).w := by
      rw [List.map_map]
      rfl
    have esum2 : ((fun k => xs.getD k row0) k0 :: fk'.map fun k => xs.getD k row0).map Row.w = fk.map fun k => (xs.getD k row0).w := by
      rw [← esum, ek]
      rfl
    rw [filt_true] at hD6
    refine ⟨D3, fk.map fun k => (xs.getD k row0).w, rfl, sqOf (by rw [hD6, List.map_map]; rfl), 100, _, rfl, rfl, .inl ⟨by decide, by decide⟩, ?_⟩
    refine ⟨.int sh, rfl, .ref tn, rfl, tn, _, 1, .int n.w, rfl, rfl, at2 S25, atI_nat (j := 1) rfl, sh, n.w, rfl, rfl, .inl ⟨by omega, by omega⟩, _, _, rfl, rfl, _, rfl, ite2 (fun c4 => ?_) (fun c4 => ?_)⟩
    · refine ⟨.ref tn, rfl, tn, _, 2, .str n.l, rfl, rfl, at2 S25, atI_nat (j := 2) rfl, by show 2 ≤ sizeLine; decide, fun t nt => hret S25 nt (hru.trans (if_pos ?_))⟩
      have := of_decide_eq_true c4
      rw [sumOf_sum] at this
      rw [esum2]
      exact this
    have c4' : ¬ 100 * sumOf (((fun k => xs.getD k row0) k0 :: fk'.map fun k => xs.getD k row0).map Row.w) ≤ sh * n.w := fun z => c4 (decide_eq_true (by
      rw [esum2] at z
      rw [sumOf_sum]
      exact z))
    rw [if_neg c4'] at hru
    have hD7 := S5 _ _ hD5
    have mk0 : k0 ∈ fk := by
      rw [ek]
      exact List.mem_cons_self ..
    refine ⟨.ref D, rfl, D, _, 0, .int (k0 : Int), rfl, rfl, sqOf hD7, atI_nat (j := 0) (by rw [ek]; rfl), ?_⟩
    refine ⟨.ref D, rfl, D, rfl, ⟨_, sqOf hD7⟩, ?_⟩
    refine for_it (walk_list (K := K) (a := D) (xs := fk.map fun (k : Nat) => V.int (k : Int))) (fun i σ H6 => ∃ (y3 : Option V) (b : Nat), σ = [some (.ref tn), some (.int sh), some (.ref L), y3, some (.ref D), some (.int (b : Int))] ∧ H6 = H5 ∧ b ∈ fk ∧ xs.getD b row0 = best ((fk.take i).map fun k => xs.getD k row0) (xs.getD k0 row0)) ⟨none, k0, rfl, rfl, mk0, rfl⟩ (fun i σ H6 _ hP => ?_) (fun i v σ H6 H7 hi hP hy => ?_) (fun σ H6 hP => ?_)
    · obtain ⟨_, _, _, rfl, _⟩ := hP
      exact sqOf hD7
    · obtain ⟨y3, b, rfl, rfl, mb, eb⟩ := hP
      obtain ⟨rfl, k, ek2, rfl⟩ := yAt_val (as := fk) (val := fun (k : Nat) => V.int (k : Int)) _ _ _ _ hi hy
      have mk := List.mem_of_getElem? ek2
      obtain ⟨t, hh, ll, Lk, e1, ht1, _, _⟩ := rdN k (fm k mk)
      obtain ⟨t2, hh2, ll2, Lk2, e3, ht3, _, _⟩ := rdN b (fm b mb)
      have nxt : best ((fk.take (i + 1)).map fun k => xs.getD k row0) (xs.getD k0 row0) = if (xs.getD b row0).w < (xs.getD k row0).w then xs.getD k row0 else xs.getD b row0 := by
        rw [List.take_add_one, ek2, List.map_append, eb]
        exact best_snoc _ _ _
      refine ⟨.ref tn, rfl, tn, _, 3, .ref LN, rfl, rfl, at2 S25, atI_nat (j := 3) rfl, .int (k : Int), rfl, LN, vn, k, .ref t, rfl, rfl, sqOf (S25 _ _ hLN), atI_nat e1, t, _, 1, _, rfl, rfl, .inl (.inl (S25 _ _ ht1)), atI_nat (j := 1) rfl, ?_⟩
      refine ⟨.ref tn, rfl, tn, _, 3, .ref LN, rfl, rfl, at2 S25, atI_nat (j := 3) rfl, .int (b : Int), rfl, LN, vn, b, .ref t2, rfl, rfl, sqOf (S25 _ _ hLN), atI_nat e3, t2, _, 1, _, rfl, rfl, .inl (.inl (S25 _ _ ht3)), atI_nat (j := 1) rfl, _, _, rfl, rfl, _, rfl, ite2 (fun c5 => ?_) (fun c5 => ?_)⟩
      · refine ⟨.int (k : Int), rfl, _, k, rfl, rfl, mk, ?_⟩
        rw [nxt, if_pos (of_decide_eq_true c5)]
      · refine ⟨_, b, rfl, rfl, mb, ?_⟩
        rw [nxt, if_neg fun z => c5 (decide_eq_true z)]
    · obtain ⟨y3, b, rfl, rfl, mb, eb⟩ := hP
      obtain ⟨t, hh, ll, Lk, _, _, _, t2, r2, L2, e2, ht2⟩ := rdN b (fm b mb)
      refine ⟨.ref L, rfl, .int (b : Int), rfl, L, us, b, .ref t2, rfl, rfl, sqOf (S25 _ _ hL), atI_nat e2, t2, _, 1, _, rfl, rfl, .inl (.inl (S25 _ _ ht2)), atI_nat (j := 1) rfl, by show 2 ≤ sizeLine; decide, fun t nt => hret S25 nt (hru.trans ?_)⟩
      rw [List.length_map, List.take_length] at eb
      rw [eb, ek]
      show _ = (_, (best (xs.getD k0 row0 :: fk'.map fun k => xs.getD k row0) (xs.getD k0 row0)).l)
      rw [best_self]
end
end Tb
namespace Tb
open PySem PySem.Spec PyProof.Rows L2
abbrev sPaper : Stmt := topS 30
abbrev NPaper : List Str := ["node", "share", "path", "land", "papers", "k", "below", "ruled"]
theorem scPaper : FnScope NPaper ["node", "share", "path", "land"] (defScope sPaper) := ⟨rfl, rfl, rfl, by decide +kernel, rfl, by decide +kernel, by decide +kernel⟩
theorem cut_lo (xs : List V) : cutV xs (some 1) none = xs.drop 1 := by
  unfold cutV
  have e1 : HT.sIx xs.length 0 (some 1) = min 1 xs.length := HT.sIx_nat xs.length 0 1
  rw [e1, HT.sIx_none]
  by_cases h : 1 ≤ xs.length
  · rw [Nat.min_eq_left h, List.take_of_length_le (by rw [List.length_drop]; omega)]
  · have e : xs = [] := List.length_eq_zero_iff.mp (by omega)
    rw [e]
    rfl
theorem Pp.ds_le : ∀ {qs : List Pp} {m : Nat}, (∀ q ∈ qs, q.d ≤ m) → Pp.ds qs ≤ m
  | [], m, _ => Nat.zero_le _
  | q :: qs, m, h => Nat.max_le.mpr ⟨h q (List.mem_cons_self ..), Pp.ds_le fun x hx => h x (List.mem_cons_of_mem _ hx)⟩
theorem certOf_eq (s : Int) (n : Nd) : certOf s n = .mk (ruled n.h n.w n.l s (rowsOf s n.ks)).1 (ruled n.h n.w n.l s (rowsOf s n.ks)).2 (certsOf s n.ks) := by
  cases n
  rfl
theorem rowsL_sg {ks : List Nd} {ls : List Str} (h : ∀ l ∈ ls, Sg l) : ∀ x ∈ rowsL ks ls, Sg x.l := fun x hx => by
  unfold rowsL at hx
  obtain ⟨p, hp, e⟩ := List.mem_map.mp hx
  rw [← e]
  exact h _ (List.of_mem_zip hp).2
theorem Pp.ok_l {p : Pp} (h : p.ok) : Sg p.r ∧ Sg p.l ∧ p.ps.length ≤ 40 ∧ Pp.oks p.ps := by
  cases p
  exact h
/-- a path: None or a list of ints -/
def PathAt (H : Hp) (v : V) : Prop := v = .non ∨ ∃ (a : Addr) (is : List Int), v = .ref a ∧ H a = some (.lst (is.map V.int))
theorem PathAt.same {H H' : Hp} {v : V} (h : PathAt H v) (S : Same H H') : PathAt H' v := h.imp id fun ⟨a, is, e, q⟩ => ⟨a, is, e, S _ _ q⟩
section
variable {P : Program} {w : World} {K : PySem.W.Frag} {mg : Str → Option Value} {base : Heap}
abbrev CRuled (P : Program) (w : World) (K : PySem.W.Frag) (mg : Str → Option Value) (base : Heap) (g : Addr) (gd : FuncData) := C1 P w K mg base "_law_ruled" sRuled ["node", "share", "papers"] 1 spLRuled g gd
def spLPaper (d : Nat) : Sp := fun vs H Q _ => ∃ (v xp : V) (n : Nd) (s : Int) (l : Str) (S : AS), vs = [v, .int s, xp, .str l] ∧ NdAt S H n v ∧ n.ok ∧ n.d ≤ d ∧ 0 ≤ s ∧ s ≤ 100 ∧ PathAt H xp ∧ Sg l ∧
  ∀ (t : Addr) (H' : Hp) (p : Pp), Same H H' → PpAt (New H H') H' p (.ref t) → (xp = .non → p = certOf s n) → p.ok → p.d ≤ n.d → Q (.ref t) H'
theorem ok_lpaper {f g : Addr} {fd gd : FuncData} (D0 : Dd K mg "_law_paper" sPaper ["node", "share", "path", "land"] f fd) (cRuled : CRuled P w K mg base g gd) (B : Blt mg) : ∀ d, FnOk P w K mg base CX0 (2 + d) f fd ["node", "share", "path", "land"] (spLPaper d)
  | 0 => by
    refine D0.F.ok scPaper (fun vs H Q E h => ?_) (fun cdv A outer s H vs Q E hr h => ?_)
    · obtain ⟨v, xp, n, sh, l, S, rfl, _⟩ := h
      rfl
    · obtain ⟨v, xp, n, sh, l, S, rfl, _, _, hd, _⟩ := h
      rw [Nd.d_eq] at hd
      exact absurd hd (by omega)
  | d + 1 => by
    have cPaper : C1 P w K mg base "_law_paper" sPaper ["node", "share", "path", "land"] (2 + d) (spLPaper d) f fd := ⟨D0, ok_lpaper D0 cRuled B d⟩
    refine D0.F.ok scPaper (fun vs H Q E h => ?_) (fun cdv A outer s H vs Q E hr h => ?_)
    · obtain ⟨v, xp, n, sh, l, S, rfl, _⟩ := h
      rfl
    · obtain ⟨v, xp, n, sh, l, S, rfl, hv, hok, hd, h0, h1, hpv, hl, q⟩ := h
      obtain ⟨tn, LN, vn, rfl, _, htn, _, hLN, hks⟩ := hv.ref
      have hr : Room (2 + d) _ := hr
      have hd : Nd.ds n.ks + 1 ≤ d + 1 := by rw [← Nd.d_eq]; exact hd
      have lk := Nd.ok_len hok
      have lv := hks.len
      refine ⟨_, (pss_cons (ps_set (i := 4) scPaper.nd rfl (.inl rfl) (pe_lst pa_nil))
      (pss_cons (ps_for PassesOwn.never rfl (pi_range1 (by rfl) B.range (pa_cons (pe_callB call_len_seq (by rfl) B.len PySem.boot_len (pa_cons (pe_ix ix_tup (pv 0) pe_int (fun _ _ => rfl)) pa_nil)) pa_nil)) (pg_name (i := 5) scPaper.nd rfl (.inl rfl))
        (pss_cons (ps_set (i := 6) scPaper.nd rfl (.inl rfl) pe_non)
        (C8.pss_cut (ps_if (PW.pt (pw_and (pt_cmpR op_notN (pv 2) pe_non (nomark _)) (pw_and (pt_cmpR op_gt (pe_callB call_len_seq (by rfl) B.len PySem.boot_len (pa_cons (pv 2) pa_nil)) pe_int (nomark _)) (pw_and1 (pt_cmpR op_eq (pe_ix ix_list (pv 2) pe_int (fun _ _ => rfl)) (pv 5) (nomark _))))))
          (pss_one (ps_set (i := 6) scPaper.nd rfl (.inl rfl) (pe_slice sl_list (pv 2) (po_some pe_int) po_none)))
          pss_nil)
        (pss_one (ps_expr (pe_bm PySem.F.plainAttrs_list PySem.F.slot_list_append PySem.F.type_list_append mt_append (pv 4) (pa_cons (pe_call cPaper.G (hr.mono (by first | decide | omega)) (by rfl) cPaper.D.g cPaper.D.F.kp cPaper.D.b .nil pass0 (pa_cons (pe_ix ix_list (pe_ix ix_tup (pv 0) pe_int (fun _ _ => rfl)) (pv 5) (fun _ _ => rfl)) (pa_cons (pv 1) (pa_cons (pv 6) (pa_cons (pv 3) pa_nil))))) pa_nil)))))))
      (pss_cons (ps_set (i := 7) scPaper.nd rfl (.inl rfl) (pe_call cRuled.G (hr.mono (by first | decide | omega)) (by rfl) cRuled.D.g cRuled.D.F.kp cRuled.D.b .nil pass0 (pa_cons (pv 0) (pa_cons (pv 1) (pa_cons (pv 4) pa_nil)))))
      (pss_cons (ps_if (PW.pt (pw_and (pt_cmpR op_notN (pv 2) pe_non (nomark _)) (pw_and1 (pt_cmpR op_eq (pe_callB call_len_seq (by rfl) B.len PySem.boot_len (pa_cons (pv 2) pa_nil)) pe_int (nomark _)))))
        (pss_one (ps_ret (pe_tup (pa_cons (pe_ix ix_tup (pv 7) pe_int (fun _ _ => rfl)) (pa_cons (pv 3) (pa_cons (pv 4) pa_nil))))))
        pss_nil)
      (pss_one (ps_ret (pe_tup (pa_cons (pe_ix ix_tup (pv 7) pe_int (fun _ _ => rfl)) (pa_cons (pe_ix ix_tup (pv 7) pe_int (fun _ _ => rfl)) (pa_cons (pv 4) pa_nil)))))))))), ?_⟩
      have hz : sizeLine = 16777216 := rfl
      refine ⟨by show 0 ≤ sizeLine; decide, fun D nD => ?_⟩
      refine ⟨.ref tn, rfl, tn, _, 3, .ref LN, rfl, rfl, .inl (.inl (same_upd nD _ _ htn)), atI_nat (j := 3) rfl, LN, vn, rfl, .inl (sqOf (same_upd nD _ _ hLN)), _, rfl, by omega, by omega, ?_⟩
      refine for_range (lo := 0) (n := ((vn.length : Nat) : Int).toNat) (fun i σ H1 => ∃ (y5 y6 : Option V) (us : List V) (qs : List Pp), σ = [some (.ref tn), some (.int sh), some xp, some (.str l), some (.ref D), y5, y6, none] ∧ Same H H1 ∧ H1 D = some (.lst us) ∧ PpsAt (fun b => (H b = none ∧ b ≠ D) ∧ H1 b ≠ none) H1 qs us ∧ qs.length = i ∧ (xp = .non → qs = (n.ks.take i).map (certOf sh)) ∧ ∀ q ∈ qs, q.ok ∧ q.d ≤ Nd.ds n.ks) ⟨none, none, [], [], rfl, same_upd nD, upd_same, rfl, rfl, fun _ => rfl, fun _ h => by cases h⟩ ?_ ?_
      · rintro i σ H1 hi ⟨y5, y6, us, qs, rfl, S1, hD, hU, lq, hq, hall⟩
        have hi : i < n.ks.length := by omega
        refine ⟨fun σ H2 => ∃ (y6 : V), σ = [some (.ref tn), some (.int sh), some xp, some (.str l), some (.ref D), some (.int (0 + (i : Int))), some y6, none] ∧ Same H1 H2 ∧ PathAt H2 y6 ∧ (xp = .non → y6 = .non), ?_, ?_⟩
        · have hp1 := hpv.same S1
          refine ⟨xp, rfl, rfl, _, rfl, ite2 (fun c => ?_) (fun c => ⟨.non, rfl, Same.refl _, .inl rfl, fun _ => rfl⟩)⟩
          rcases hp1 with rfl | ⟨a, is, rfl, ha⟩
          · exact absurd c (by decide)
          refine ⟨.ref a, rfl, a, _, rfl, .inl (sqOf ha), _, _, rfl, rfl, _, rfl, ite2 (fun c2 => ?_) (fun c => ⟨.non, rfl, Same.refl _, .inl rfl, fun _ => rfl⟩)⟩
          cases is with
          | nil => exact absurd c2 (by decide)
          | cons j is =>
            refine ⟨.ref a, rfl, a, _, 0, .int j, rfl, rfl, sqOf ha, atI_nat (j := 0) rfl, .int (0 + (i : Int)), rfl, rfl, _, rfl, ite2 (fun c3 => ?_) (fun c => ⟨.non, rfl, Same.refl _, .inl rfl, fun _ => rfl⟩)⟩
            refine ⟨.ref a, rfl, 1, rfl, a, _, rfl, sqOf ha, fun p np => ⟨.ref p, rfl, same_upd np, .inr ⟨p, is, rfl, ?_⟩, fun e => by cases e⟩⟩
            rw [upd_same]
            exact congrArg (fun l => some (HO.lst l)) (cut_lo _)
        · rintro σ H2 ⟨y6, rfl, S2, hp6, hn6⟩
          have S12 := Same.trans S1 S2
          obtain ⟨v1, e1, g1⟩ := hks.get (List.getElem?_eq_getElem hi)
          obtain ⟨tk, Lk, _, rfl, _, _, _⟩ := id g1.ref
          have mk := List.getElem_mem hi
          refine ⟨.ref D, rfl, .inl ⟨rfl, _, sqOf (S2 _ _ hD)⟩, .ref tn, rfl, tn, _, 3, .ref LN, rfl, rfl, .inl (.inl (S12 _ _ htn)), atI_nat (j := 3) rfl, .int (0 + (i : Int)), rfl, LN, vn, _, .ref tk, rfl, rfl, sqOf (S12 _ _ hLN), by rw [Int.zero_add]; exact atI_nat e1, .int sh, rfl, y6, rfl, .str l, rfl, ?_⟩
          refine ⟨.ref tk, y6, n.ks[i], sh, l, S, rfl, g1.same S12, Nd.oks_mem (Nd.ok_ks hok) _ mk, by have := Nd.d_mem mk; omega, h0, h1, hp6, hl, fun t H3 p S3 hP hc pok pd => ?_⟩
          refine ⟨D, us, .ref t, rfl, rfl, S3 _ _ (S2 _ _ hD), by rw [hU.len]; exact small1000 (by omega), _, _, us ++ [.ref t], qs ++ [p], rfl, ?_, upd_same, ?_, by rw [List.length_append, lq]; rfl, fun e => ?_, fun q0 hq0 => ?_⟩
          · intro b o hb
            rw [upd_ne (ne_of_none hb nD)]
            exact S3 _ _ (S12 _ _ hb)
          · refine PpsAt.snoc ?_ ?_
            · exact PpsAt.go (fun b o z e _ => ⟨⟨z.1, by rw [upd_ne z.1.2]; exact some_ne (S3 _ _ (S2 _ _ e))⟩, by rw [upd_ne z.1.2]; exact S3 _ _ (S2 _ _ e)⟩) hU
            · refine PpAt.go (fun b o z e _ => ?_) hP
              have hb : b ≠ D := fun e2 => by
                rw [e2] at z
                exact absurd z.1 (some_ne (S2 _ _ hD))
              exact ⟨⟨⟨same_none S12 z.1, hb⟩, by rw [upd_ne hb]; exact z.2⟩, by rw [upd_ne hb]; exact e⟩
          · rw [hq e, List.take_add_one, List.getElem?_eq_getElem hi, List.map_append, hc (hn6 e)]
            rfl
          · rcases List.mem_append.mp hq0 with z | z
            · exact hall q0 z
            · rw [List.mem_singleton.mp z]
              exact ⟨pok, Nat.le_trans pd (Nd.d_mem mk)⟩
      · rintro σ H1 ⟨y5, y6, us, qs, rfl, S1, hD, hU, lq, hq, hall⟩
        have lq : qs.length = n.ks.length := by omega
        refine ⟨.ref tn, rfl, .int sh, rfl, .ref D, rfl, .ref tn, n, sh, D, us, qs, S, _, rfl, hv.same S1, hok, h0, h1, hD, hU, lq, fun t H2 S2 nt ht => ?_⟩
        have S12 := Same.trans S1 S2
        have hrs := ruled_sg (h := n.h) (w := n.w) (s := sh) (xs := rowsL n.ks (qs.map Pp.l)) (Nd.ok_h hok).2.sg (rowsL_sg fun l hl => by
          obtain ⟨p, hp, e⟩ := List.mem_map.mp hl
          rw [← e]
          exact (Pp.ok_l (hall p hp).1).2.1)
        have hfin : ∀ (l2 : Str) (t2 : Addr), H2 t2 = none → Sg l2 → (xp = .non → l2 = (ruled n.h n.w n.l sh (rowsL n.ks (qs.map Pp.l))).2) → Q (.ref t2) (upd H2 t2 (.tup [.str (ruled n.h n.w n.l sh (rowsL n.ks (qs.map Pp.l))).1, .str l2, .ref D])) := fun l2 t2 nt2 sg2 e2 => by
          have S3 : Same H2 (upd H2 t2 (.tup [.str (ruled n.h n.w n.l sh (rowsL n.ks (qs.map Pp.l))).1, .str l2, .ref D])) := same_upd nt2
          have hD3 := S3 _ _ (S2 _ _ hD)
          refine q t2 _ (.mk _ l2 qs) (Same.trans S12 S3) ⟨t2, D, us, rfl, ⟨same_none S12 nt2, some_ne upd_same⟩, upd_same, ⟨nD, some_ne hD3⟩, hD3, ?_⟩ (fun e => ?_) ⟨hrs.1, sg2, by omega, Pp.oks_of fun p hp => (hall p hp).1⟩ ?_
          · exact PpsAt.go (fun b o z e _ => ⟨⟨z.1.1, some_ne (S3 _ _ (S2 _ _ e))⟩, S3 _ _ (S2 _ _ e)⟩) hU
          · have eq : qs = certsOf sh n.ks := by
              rw [hq e, certsOf_map]
              congr 1
              exact List.take_of_length_le (by omega)
            rw [certOf_eq, e2 e, eq, rowsL_cert]
          · rw [Nd.d_eq]
            have := Pp.ds_le fun p hp => (hall p hp).2
            show Pp.ds qs + 1 ≤ _
            omega
        have hpv2 := hpv.same S12
        have last : tRet (tTup (tCons (tOp (rIxT K) (tVar 7) (tC (.int 0))) (tCons (tOp (rIxT K) (tVar 7) (tC (.int 1))) (tCons (tVar 4) tNil)))) { nx := fun x H' => Q .non H', rt := Q } [some (.ref tn), some (.int sh), some xp, some (.str l), some (.ref D), y5, y6, some (.ref t)] H2 :=
          ⟨.ref t, rfl, t, _, 0, _, rfl, rfl, .inl (.inl ht), atI_nat (j := 0) rfl, .ref t, rfl, t, _, 1, _, rfl, rfl, .inl (.inl ht), atI_nat (j := 1) rfl, .ref D, rfl, by show 3 ≤ sizeLine; decide, fun t2 nt2 => hfin _ t2 nt2 hrs.2 fun _ => rfl⟩
        refine ⟨xp, rfl, rfl, _, rfl, ite2 (fun c => ?_) (fun c => last)⟩
        rcases hpv2 with rfl | ⟨a, is, rfl, ha⟩
        · exact absurd c (by decide)
        refine ⟨.ref a, rfl, a, _, rfl, .inl (sqOf ha), rfl, _, rfl, ite2 (fun c2 => ?_) (fun c => last)⟩
        exact ⟨.ref t, rfl, t, _, 0, _, rfl, rfl, .inl (.inl ht), atI_nat (j := 0) rfl, .str l, rfl, .ref D, rfl, by show 3 ≤ sizeLine; decide, fun t2 nt2 => hfin _ t2 nt2 hl fun e => by cases e⟩
end
end Tb
namespace Tb
open PySem PySem.Spec PyProof.Rows L2
abbrev sCopy : Stmt := topS 37
abbrev NCopy : List Str := ["paper", "one"]
theorem scCopy : FnScope NCopy ["paper"] (defScope sCopy) := ⟨rfl, rfl, rfl, by decide +kernel, rfl, by decide +kernel, by decide +kernel⟩
abbrev sSame : Stmt := topS 34
abbrev NSame : List Str := ["told", "due", "k"]
theorem scSame : FnScope NSame ["told", "due"] (defScope sSame) := ⟨rfl, rfl, rfl, by decide +kernel, rfl, by decide +kernel, by decide +kernel⟩
abbrev sPath : Stmt := topS 36
abbrev NPath : List Str := ["box", "node", "path", "spot", "k", "at"]
theorem scPath : FnScope NPath ["box", "node"] (defScope sPath) := ⟨rfl, rfl, rfl, by decide +kernel, rfl, by decide +kernel, by decide +kernel⟩
/-- made behind H, not the list at D -/
abbrev NW (H : Hp) (D : Addr) (H1 : Hp) : AS := fun b => (H b = none ∧ b ≠ D) ∧ H1 b ≠ none
theorem newl_snoc {H H1 H2 : Hp} {D : Addr} {us : List V} {qs : List Pp} {p : Pp} {v : V} {o : HO} (S1 : Same H H1) (hD : H1 D = some (.lst us)) (hU : PpsAt (NW H D H1) H1 qs us) (S2 : Same H1 H2) (hP : PpAt (New H1 H2) H2 p v) : PpsAt (NW H D (upd H2 D o)) (upd H2 D o) (qs ++ [p]) (us ++ [v]) := by
  refine PpsAt.snoc ?_ ?_
  · exact PpsAt.go (fun b o z e _ => ⟨⟨z.1, by rw [upd_ne z.1.2]; exact some_ne (S2 _ _ e)⟩, by rw [upd_ne z.1.2]; exact S2 _ _ e⟩) hU
  · refine PpAt.go (fun b o z e _ => ?_) hP
    have hb : b ≠ D := fun e2 => by
      rw [e2] at z
      exact absurd z.1 (some_ne hD)
    exact ⟨⟨⟨same_none S1 z.1, hb⟩, by rw [upd_ne hb]; exact z.2⟩, by rw [upd_ne hb]; exact e⟩
theorem newl_done {H H1 H2 : Hp} {D t : Addr} {us : List V} {qs : List Pp} {r l : Str} (S1 : Same H H1) (nD : H D = none) (hD : H1 D = some (.lst us)) (hU : PpsAt (NW H D H1) H1 qs us) (S2 : Same H1 H2) (nt : H t = none) (ht : H2 t = some (.tup [.str r, .str l, .ref D])) : PpAt (New H H2) H2 (.mk r l qs) (.ref t) :=
  ⟨t, D, us, rfl, ⟨nt, some_ne ht⟩, ht, ⟨nD, some_ne (S2 _ _ hD)⟩, S2 _ _ hD, PpsAt.go (fun b o z e _ => ⟨⟨z.1.1, some_ne (S2 _ _ e)⟩, S2 _ _ e⟩) hU⟩
theorem Pp.d_mem : ∀ {ks : List Pp} {k : Pp}, k ∈ ks → k.d ≤ Pp.ds ks
  | k0 :: ks, k, h => by
    show k.d ≤ max k0.d (Pp.ds ks)
    rcases List.mem_cons.mp h with e | e
    · rw [e]
      omega
    · have := Pp.d_mem e
      omega
theorem Pp.d_eq (k : Pp) : k.d = Pp.ds k.ps + 1 := by
  cases k
  rfl
theorem Pp.eta (p : Pp) : Pp.mk p.r p.l p.ps = p := by
  cases p
  rfl
/-- a path that the goods have -/
def fitsN : List Nat → Nd → Prop
  | [], _ => True
  | i :: is, n => ∃ k, n.ks[i]? = some k ∧ fitsN is k
theorem ne_no {a b : V} (h : a = b) : ¬ (!decide (a = b)) = true := fun c => by
  rw [decide_eq_true h] at c
  cases c
/-- a path from n to m -/
def walkN : List Nat → Nd → Nd → Prop
  | [], n, m => n = m
  | i :: is, n, m => ∃ k, n.ks[i]? = some k ∧ walkN is k m
theorem walkN_snoc : ∀ {is : List Nat} {n m k : Nd} {j : Nat}, walkN is n m → m.ks[j]? = some k → walkN (is ++ [j]) n k
  | [], n, m, k, j, h, e => ⟨k, by have : n = m := h; rw [this]; exact e, rfl⟩
  | i :: is, n, m, k, j, ⟨k1, e1, h⟩, e => ⟨k1, e1, walkN_snoc h e⟩
theorem walkN_fits : ∀ {is : List Nat} {n m : Nd}, walkN is n m → fitsN is n
  | [], _, _, _ => trivial
  | i :: is, n, m, ⟨k1, e1, h⟩ => ⟨k1, e1, walkN_fits h⟩
theorem NdAt.kp {S : AS} {H H' : Hp} {n : Nd} {v : V} (h : NdAt S H n v) (k : Kp H H') : NdAt S H' n v := NdAt.go (fun b o z e ni => ⟨z, k b o e ni⟩) h
theorem PpAt.kp {S : AS} {H H' : Hp} {n : Pp} {v : V} (h : PpAt S H n v) (k : Kp H H') : PpAt S H' n v := PpAt.go (fun b o z e ni => ⟨z, k b o e ni⟩) h
section
variable {P : Program} {w : World} {K : PySem.W.Frag} {mg : Str → Option Value} {base : Heap}
def spCopy (d : Nat) : Sp := fun vs H Q _ => ∃ (v : V) (p : Pp) (S : AS), vs = [v] ∧ PpAt S H p v ∧ p.ok ∧ p.d ≤ d ∧ ∀ (t : Addr) (H' : Hp), Same H H' → PpAt (New H H') H' p (.ref t) → Q (.ref t) H'
theorem ok_copy {f : Addr} {fd : FuncData} (D0 : Dd K mg "_law_copy" sCopy ["paper"] f fd) (B : Blt mg) : ∀ d, FnOk P w K mg base CX0 (1 + d) f fd ["paper"] (spCopy d)
  | 0 => by
    refine D0.F.ok scCopy (fun vs H Q E h => ?_) (fun cdv A outer s H vs Q E hr h => ?_)
    · obtain ⟨v, p, S, rfl, _⟩ := h
      rfl
    · obtain ⟨v, p, S, rfl, _, _, hd, _⟩ := h
      rw [Pp.d_eq] at hd
      exact absurd hd (by omega)
  | d + 1 => by
    have cCopy : C1 P w K mg base "_law_copy" sCopy ["paper"] (1 + d) (spCopy d) f fd := ⟨D0, ok_copy D0 B d⟩
    refine D0.F.ok scCopy (fun vs H Q E h => ?_) (fun cdv A outer s H vs Q E hr h => ?_)
    · obtain ⟨v, p, S, rfl, _⟩ := h
      rfl
    · obtain ⟨v, p, S, rfl, hv, hok, hd, q⟩ := h
      obtain ⟨t, L, vs, rfl, _, ht, _, hL, hps⟩ := hv.ref
      have hr : Room (1 + d) _ := hr
      have hd : Pp.ds p.ps + 1 ≤ d + 1 := by rw [← Pp.d_eq]; exact hd
      obtain ⟨_, _, l40, oks⟩ := Pp.ok_l hok
      have lv := hps.len
      refine ⟨_, (pss_one (ps_ret (pe_tup (pa_cons (pe_ix ix_tup (pv 0) pe_int (fun _ _ => rfl)) (pa_cons (pe_ix ix_tup (pv 0) pe_int (fun _ _ => rfl)) (pa_cons (pe_lc (own := [("one", 1)]) (g := gName 1) (by rfl) scCopy.nd (pi_list (pe_ix ix_tup (pv 0) pe_int (fun _ _ => rfl))) (blkOk_by (N := NCopy) (sc := defScope sCopy) (by decide +kernel)) (fun _ _ _ _ _ => pg_name (i := 1) scCopy.nd rfl (Or.inl rfl)) (fun _ _ _ _ _ => pts_nil) (fun _ _ _ _ _ => pe_call cCopy.G (hr.mono (by first | decide | omega)) (by rfl) cCopy.D.g cCopy.D.F.kp cCopy.D.b .nil pass0 (pa_cons (pv 1) pa_nil))) pa_nil)))))), ?_⟩
      refine ⟨.ref t, rfl, t, _, 0, .str p.r, rfl, rfl, .inl (.inl ht), atI_nat (j := 0) rfl, .ref t, rfl, t, _, 1, .str p.l, rfl, rfl, .inl (.inl ht), atI_nat (j := 1) rfl, .ref t, rfl, t, _, 2, .ref L, rfl, rfl, .inl (.inl ht), atI_nat (j := 2) rfl, L, rfl, ⟨vs, sqOf hL⟩, fun D nD => ?_⟩
      refine lc_it (walk_list (K := K) (a := L) (xs := vs)) (fun i H1 => Same H H1 ∧ ∃ us, H1 D = some (.lst us) ∧ PpsAt (NW H D H1) H1 (p.ps.take i) us) ⟨same_upd nD, [], upd_same, rfl⟩ (fun i H1 _ hP => sqOf (hP.1 _ _ hL)) (fun i v H1 H2 hi hP hy => ?_) (fun H1 hP => ?_)
      · obtain ⟨S1, us, hD, hU⟩ := hP
        obtain ⟨rfl, ev⟩ := hy
        obtain ⟨p1, e1, g1⟩ := hps.at ev
        have m1 := List.mem_of_getElem? e1
        refine ⟨rfl, v, rfl, v, p1, S, rfl, g1.same S1, Pp.oks_mem oks _ m1, by have := Pp.d_mem m1; omega, fun t3 H3 S3 hP3 => ⟨us, S3 _ _ hD, ?_, ?_, us ++ [.ref t3], upd_same, ?_⟩⟩
        · rw [hU.len, List.length_take]
          exact small1000 (by omega)
        · intro b o hb
          rw [upd_ne (ne_of_none hb nD)]
          exact S3 _ _ (S1 _ _ hb)
        · rw [List.take_add_one, e1]
          exact newl_snoc S1 hD hU S3 hP3
      · obtain ⟨S1, us, hD, hU⟩ := hP
        rw [lv, List.take_length] at hU
        refine ⟨by show 3 ≤ sizeLine; decide, fun t2 nt2 => ?_⟩
        have S2 : Same H1 (upd H1 t2 (.tup [.str p.r, .str p.l, .ref D])) := same_upd nt2
        have := newl_done S1 nD hD hU S2 (same_none S1 nt2) upd_same
        rw [Pp.eta] at this
        exact q t2 _ (Same.trans S1 S2) this
def spSame (d : Nat) : Sp := fun vs H Q _ => ∃ (v u : V) (p : Pp) (S S2 : AS), vs = [v, u] ∧ PpAt S H p v ∧ PpAt S2 H p u ∧ p.ok ∧ p.d ≤ d ∧ ∀ (H' : Hp), Same H H' → Q (.bl true) H'
theorem ok_same {f : Addr} {fd : FuncData} (D0 : Dd K mg "_law_same" sSame ["told", "due"] f fd) (B : Blt mg) : ∀ d, FnOk P w K mg base CX0 (1 + d) f fd ["told", "due"] (spSame d)
  | 0 => by
    refine D0.F.ok scSame (fun vs H Q E h => ?_) (fun cdv A outer s H vs Q E hr h => ?_)
    · obtain ⟨v, u, p, S, S2, rfl, _⟩ := h
      rfl
    · obtain ⟨v, u, p, S, S2, rfl, _, _, _, hd, _⟩ := h
      rw [Pp.d_eq] at hd
      exact absurd hd (by omega)
  | d + 1 => by
    have cSame : C1 P w K mg base "_law_same" sSame ["told", "due"] (1 + d) (spSame d) f fd := ⟨D0, ok_same D0 B d⟩
    refine D0.F.ok scSame (fun vs H Q E h => ?_) (fun cdv A outer s H vs Q E hr h => ?_)
    · obtain ⟨v, u, p, S, S2, rfl, _⟩ := h
      rfl
    · obtain ⟨v, u, p, S, S2, rfl, hv, hu, hok, hd, q⟩ := h
      obtain ⟨t, L, vs, rfl, _, ht, _, hL, hps⟩ := hv.ref
      obtain ⟨t2, L2, vs2, rfl, _, ht2, _, hL2, hps2⟩ := hu.ref
      have hr : Room (1 + d) _ := hr
      have hd : Pp.ds p.ps + 1 ≤ d + 1 := by rw [← Pp.d_eq]; exact hd
      obtain ⟨_, _, l40, oks⟩ := Pp.ok_l hok
      have lv := hps.len
      have lv2 := hps2.len
      have hz : sizeLine = 16777216 := rfl
      refine ⟨_, (pss_cons (ps_if (PW.pt (pw_or (pt_not (pt_val (pe_callB call_isi (by rfl) B.isi (by decide +kernel) (pa_cons (pv 0) (pa_cons (pe_bltn (by rfl) B.tuple (by decide +kernel) (v := .ty "tuple") (u := .type "tuple") rfl) pa_nil))))) (pw_or1 (pt_cmpR op_ne (pe_callB call_len_seq (by rfl) B.len PySem.boot_len (pa_cons (pv 0) pa_nil)) pe_int (nomark _)))))
        (pss_one (ps_ret pe_bl))
        pss_nil)
      (pss_cons (ps_if (PW.pt (pw_or (pt_not (pt_val (pe_callB call_isi (by rfl) B.isi (by decide +kernel) (pa_cons (pe_ix ix_tup (pv 0) pe_int (fun _ _ => rfl)) (pa_cons (pe_bltn (by rfl) B.str PyProof.Rows.boot_str (v := .ty "str") (u := .type "str") rfl) pa_nil))))) (pw_or (pt_not (pt_val (pe_callB call_isi (by rfl) B.isi (by decide +kernel) (pa_cons (pe_ix ix_tup (pv 0) pe_int (fun _ _ => rfl)) (pa_cons (pe_bltn (by rfl) B.str PyProof.Rows.boot_str (v := .ty "str") (u := .type "str") rfl) pa_nil))))) (pw_or1 (pt_not (pt_val (pe_callB call_isi (by rfl) B.isi (by decide +kernel) (pa_cons (pe_ix ix_tup (pv 0) pe_int (fun _ _ => rfl)) (pa_cons (pe_bltn (by rfl) B.list PyProof.Rows.boot_list (v := .ty "list") (u := .type "list") rfl) pa_nil)))))))))
        (pss_one (ps_ret pe_bl))
        pss_nil)
      (pss_cons (ps_if (PW.pt (pw_or (pt_cmpR op_ne (pe_ix ix_tup (pv 0) pe_int (fun _ _ => rfl)) (pe_ix ix_tup (pv 1) pe_int (fun _ _ => rfl)) (nomark _)) (pw_or (pt_cmpR op_ne (pe_ix ix_tup (pv 0) pe_int (fun _ _ => rfl)) (pe_ix ix_tup (pv 1) pe_int (fun _ _ => rfl)) (nomark _)) (pw_or1 (pt_cmpR op_ne (pe_callB call_len_seq (by rfl) B.len PySem.boot_len (pa_cons (pe_ix ix_tup (pv 0) pe_int (fun _ _ => rfl)) pa_nil)) (pe_callB call_len_seq (by rfl) B.len PySem.boot_len (pa_cons (pe_ix ix_tup (pv 1) pe_int (fun _ _ => rfl)) pa_nil)) (nomark _))))))
        (pss_one (ps_ret pe_bl))
        pss_nil)
      (pss_cons (ps_for PassesOwn.never rfl (pi_range1 (by rfl) B.range (pa_cons (pe_callB call_len_seq (by rfl) B.len PySem.boot_len (pa_cons (pe_ix ix_tup (pv 1) pe_int (fun _ _ => rfl)) pa_nil)) pa_nil)) (pg_name (i := 2) scSame.nd rfl (.inl rfl))
        (pss_one (ps_if (pt_not (pt_val (pe_call cSame.G (hr.mono (by first | decide | omega)) (by rfl) cSame.D.g cSame.D.F.kp cSame.D.b .nil pass0 (pa_cons (pe_ix ix_list (pe_ix ix_tup (pv 0) pe_int (fun _ _ => rfl)) (pv 2) (fun _ _ => rfl)) (pa_cons (pe_ix ix_list (pe_ix ix_tup (pv 1) pe_int (fun _ _ => rfl)) (pv 2) (fun _ _ => rfl)) pa_nil)))))
          (pss_one (ps_ret pe_bl))
          pss_nil)))
      (pss_one (ps_ret pe_bl)))))), ?_⟩
      have a0 : SqT K H t [.str p.r, .str p.l, .ref L] := .inl (.inl ht)
      have b0 : SqT K H t2 [.str p.r, .str p.l, .ref L2] := .inl (.inl ht2)
      refine ⟨.ref t, rfl, .ref t, .ty "tuple", .type "tuple", .type "tuple", true, rfl, .ty _, .base (.tup ht), kit_ty (by decide +kernel), true, rfl, ?_⟩
      refine ⟨.ref t, rfl, t, _, rfl, .inr a0, rfl, _, rfl, ?_⟩
      refine ite2 (fun c => absurd c (ne_no rfl)) (fun _ => ?_)
      refine ⟨.ref t, rfl, t, _, 0, _, rfl, rfl, a0, atI_nat (j := 0) rfl, .str p.r, .ty "str", .type "str", .type "str", true, rfl, .ty _, .base (.str _), kit_ty (by decide +kernel), true, rfl, ?_⟩
      refine ⟨.ref t, rfl, t, _, 1, _, rfl, rfl, a0, atI_nat (j := 1) rfl, .str p.l, .ty "str", .type "str", .type "str", true, rfl, .ty _, .base (.str _), kit_ty (by decide +kernel), true, rfl, ?_⟩
      refine ⟨.ref t, rfl, t, _, 2, _, rfl, rfl, a0, atI_nat (j := 2) rfl, .ref L, .ty "list", .type "list", .type "list", true, rfl, .ty _, .base (.lst hL), kit_ty (by decide +kernel), true, rfl, ?_⟩
      refine ⟨.ref t, rfl, t, _, 0, _, rfl, rfl, a0, atI_nat (j := 0) rfl, .ref t2, rfl, t2, _, 0, _, rfl, rfl, b0, atI_nat (j := 0) rfl, rfl, _, rfl, ite2 (fun c => absurd c (ne_no rfl)) (fun _ => ?_)⟩
      refine ⟨.ref t, rfl, t, _, 1, _, rfl, rfl, a0, atI_nat (j := 1) rfl, .ref t2, rfl, t2, _, 1, _, rfl, rfl, b0, atI_nat (j := 1) rfl, rfl, _, rfl, ite2 (fun c => absurd c (ne_no rfl)) (fun _ => ?_)⟩
      refine ⟨.ref t, rfl, t, _, 2, _, rfl, rfl, a0, atI_nat (j := 2) rfl, L, vs, rfl, .inl (sqOf hL), .ref t2, rfl, t2, _, 2, _, rfl, rfl, b0, atI_nat (j := 2) rfl, L2, vs2, rfl, .inl (sqOf hL2), rfl, _, rfl, ite2 (fun c => absurd c (ne_no (by rw [lv, lv2]))) (fun _ => ?_)⟩
      refine ⟨.ref t2, rfl, t2, _, 2, _, rfl, rfl, b0, atI_nat (j := 2) rfl, L2, vs2, rfl, .inl (sqOf hL2), _, rfl, by omega, by omega, ?_⟩
      refine for_range (lo := 0) (n := ((vs2.length : Nat) : Int).toNat) (fun i σ H1 => ∃ y, σ = [some (.ref t), some (.ref t2), y] ∧ Same H H1) ⟨none, rfl, Same.refl _⟩ ?_ ?_
      · rintro i σ H1 hi ⟨y, rfl, S1⟩
        have hi : i < p.ps.length := by omega
        obtain ⟨v1, e1, g1⟩ := hps.get (List.getElem?_eq_getElem hi)
        obtain ⟨v2, e2, g2⟩ := hps2.get (List.getElem?_eq_getElem hi)
        have mk := List.getElem_mem hi
        refine ⟨.ref t, rfl, t, _, 2, _, rfl, rfl, .inl (.inl (S1 _ _ ht)), atI_nat (j := 2) rfl, .int (0 + (i : Int)), rfl, L, vs, _, v1, rfl, rfl, sqOf (S1 _ _ hL), by rw [Int.zero_add]; exact atI_nat e1, .ref t2, rfl, t2, _, 2, _, rfl, rfl, .inl (.inl (S1 _ _ ht2)), atI_nat (j := 2) rfl, .int (0 + (i : Int)), rfl, L2, vs2, _, v2, rfl, rfl, sqOf (S1 _ _ hL2), by rw [Int.zero_add]; exact atI_nat e2, ?_⟩
        exact ⟨v1, v2, p.ps[i], S, S2, rfl, g1.same S1, g2.same S1, Pp.oks_mem oks _ mk, by have := Pp.d_mem mk; omega, fun H3 S3 => ⟨true, rfl, _, rfl, Same.trans S1 S3⟩⟩
      · rintro σ H1 ⟨y, rfl, S1⟩
        exact q H1 S1
def spPath : Sp := fun vs H Q _ => ∃ (p : Addr) (v : V) (n : Nd) (S : AS), vs = [.ref p, v] ∧ Box H p ∧ NdAt S H n v ∧ n.ok ∧ ∀ (a : Addr) (is : List Nat) (H' : Hp), H a = none → H' a = some (.lst (is.map fun (k : Nat) => V.int (k : Int))) → fitsN is n → is.length ≤ 8 → Box H' p → But p H H' → Q (.ref a) H'
theorem ok_path {f g : Addr} {fd gd : FuncData} (F : Fun K "_law_path" "_law_path" sPath f fd) (cDraw : CDraw P w K mg base g gd) (B : Blt mg) : FnOk P w K mg base CX0 2 f fd ["box", "node"] spPath := by
  refine F.ok scPath (fun vs H Q E h => ?_) (fun cdv A outer s H vs Q E hr h => ?_)
  · obtain ⟨p, v, n, S, rfl, _⟩ := h
    rfl
  · obtain ⟨p, v, n, S, rfl, hB, hv, hok, q⟩ := h
    refine ⟨_, (pss_cons (ps_set (i := 2) scPath.nd rfl (.inl rfl) (pe_lst pa_nil))
      (pss_cons (ps_set (i := 3) scPath.nd rfl (.inl rfl) (pv 1))
      (pss_cons (ps_for PassesOwn.never rfl (pi_range1 (by rfl) B.range (pa_cons pe_int pa_nil)) (pg_name (i := 4) scPath.nd rfl (.inl rfl))
        (pss_cons (ps_if (PW.pt (pw_or (pt_cmpR op_eq (pe_callB call_len_seq (by rfl) B.len PySem.boot_len (pa_cons (pe_ix ix_tup (pv 3) pe_int (fun _ _ => rfl)) pa_nil)) pe_int (nomark _)) (pw_or1 (pt_cmpR op_eq (pe_call cDraw.G (hr.mono (by first | decide | omega)) (by rfl) cDraw.D.g cDraw.D.F.kp cDraw.D.b .nil pass0 (pa_cons (pv 0) (pa_cons pe_int pa_nil))) pe_int (nomark _)))))
          (pss_one ps_break)
          pss_nil)
        (pss_cons (ps_set (i := 5) scPath.nd rfl (.inl rfl) (pe_call cDraw.G (hr.mono (by first | decide | omega)) (by rfl) cDraw.D.g cDraw.D.F.kp cDraw.D.b .nil pass0 (pa_cons (pv 0) (pa_cons (pe_callB call_len_seq (by rfl) B.len PySem.boot_len (pa_cons (pe_ix ix_tup (pv 3) pe_int (fun _ _ => rfl)) pa_nil)) pa_nil))))
        (pss_cons (ps_expr (pe_bm PySem.F.plainAttrs_list PySem.F.slot_list_append PySem.F.type_list_append mt_append (pv 2) (pa_cons (pv 5) pa_nil)))
        (pss_one (ps_set (i := 3) scPath.nd rfl (.inl rfl) (pe_ix ix_list (pe_ix ix_tup (pv 3) pe_int (fun _ _ => rfl)) (pv 5) (fun _ _ => rfl))))))))
      (pss_one (ps_ret (pv 2)))))), ?_⟩
    have hz : sizeLine = 16777216 := rfl
    refine ⟨by show 0 ≤ sizeLine; decide, fun D nD => ⟨v, rfl, 8, rfl, by decide, by decide, ?_⟩⟩
    have hBD : D ≠ p := fun e => by
      obtain ⟨_, _, _, _, hp, _⟩ := hB
      rw [e, hp] at nD
      cases nD
    have hv0 : NdAt (fun b => H b ≠ none) H n v := NdAt.go (fun b o z e _ => ⟨some_ne e, e⟩) hv
    have fin : ∀ (y4 y5 : Option V) (sv : V) (is : List Nat) (m : Nd) (H2 : Hp), H2 D = some (.lst (is.map fun (k : Nat) => V.int (k : Int))) → walkN is n m → is.length ≤ 8 → Box H2 p → But p H H2 → tRet (tVar 2) { nx := fun x H' => Q .non H', rt := Q } [some (.ref p), some v, some (.ref D), some sv, y4, y5] H2 := fun y4 y5 sv is m H2 hD hw hl B2 b2 => ⟨.ref D, rfl, q D is H2 nD hD (walkN_fits hw) hl B2 b2⟩
    refine for_range (lo := 0) (n := (8 : Int).toNat) (fun i σ H1 => ∃ (y4 y5 : Option V) (sv : V) (is : List Nat) (m : Nd), σ = [some (.ref p), some v, some (.ref D), some sv, y4, y5] ∧ H1 D = some (.lst (is.map fun (k : Nat) => V.int (k : Int))) ∧ walkN is n m ∧ is.length = i ∧ NdAt (fun b => H b ≠ none) H1 m sv ∧ m.ok ∧ Box H1 p ∧ But p H H1) ⟨none, none, v, [], n, rfl, upd_same, rfl, rfl, hv0.same (same_upd nD), hok, hB.same (same_upd nD), Same.but (same_upd nD)⟩ ?_ ?_
    · rintro i σ H1 hi ⟨y4, y5, sv, is, m, rfl, hD, hw, hl, hm, mok, B1, b1⟩
      obtain ⟨t, L, us, rfl, _, ht, _, hL, hks⟩ := hm.ref
      have lu := hks.len
      have l8 := Nd.ok_len mok
      have hi8 : i < 8 := hi
      refine ⟨.ref t, rfl, t, _, 3, .ref L, rfl, rfl, .inl (.inl ht), atI_nat (j := 3) rfl, L, us, rfl, .inl (sqOf hL), rfl, _, rfl, ite2 (fun c => ?_) (fun c => ?_)⟩
      · exact fin _ _ _ is m H1 hD hw (by omega) B1 b1
      rw [int_dec] at c
      have hpos : 0 < us.length := Nat.pos_of_ne_zero fun e => c (decide_eq_true (by rw [e]; rfl))
      refine ⟨.ref p, rfl, p, 4, rfl, B1, by decide, fun y H2 y0 y1 B2 b2 => ⟨rfl, _, rfl, ite2 (fun c2 => ?_) (fun c2 => ?_)⟩⟩
      · have hD2 := b2 _ _ hD hBD
        exact fin _ _ _ is m H2 hD2 hw (by omega) B2 (b1.trans b2)
      have k2 := But.kp B1 b2
      have hm2 := hm.kp k2
      obtain ⟨t', L', us', e', _, ht2, _, hL2, hks2⟩ := hm2.ref
      cases e'
      have lu2 := hks2.len
      refine ⟨.ref p, rfl, .ref t, rfl, t, _, 3, .ref L', rfl, rfl, .inl (.inl ht2), atI_nat (j := 3) rfl, L', us', rfl, .inl (sqOf hL2), p, _, rfl, B2, by omega, fun z H3 z0 z1 B3 b3 => ?_⟩
      have zl : z.toNat < m.ks.length := by omega
      have hm3 := hm2.kp (But.kp B2 b3)
      obtain ⟨t'', L3, us3, e', _, ht3, _, hL3, hks3⟩ := hm3.ref
      cases e'
      have hD3 := b3 _ _ (b2 _ _ hD hBD) hBD
      refine ⟨.ref D, rfl, .inl ⟨rfl, _, sqOf hD3⟩, .int z, rfl, D, _, .int z, rfl, rfl, hD3, by rw [List.length_map]; exact small1000 (by omega), ?_⟩
      obtain ⟨v4, e4, g4⟩ := hks3.get (List.getElem?_eq_getElem zl)
      have uD : ∀ {o : HO} (b : Addr), H b ≠ none → upd H3 D o b = H3 b := fun b hb => upd_ne fun e => hb (by rw [e]; exact nD)
      obtain ⟨t6, L6, us6, e', st6, ht6, sL6, hL6, _⟩ := hm3.ref
      cases e'
      rw [ht3] at ht6
      cases ht6
      refine ⟨.ref t, rfl, t, _, 3, .ref L3, rfl, rfl, .inl (.inl (by rw [uD _ st6]; exact ht3)), atI_nat (j := 3) rfl, .int z, rfl, L3, us3, z, v4, rfl, rfl, sqOf (by rw [uD _ sL6]; exact hL3), at_nat z0 e4, ?_⟩
      refine ⟨_, _, v4, is ++ [z.toNat], m.ks[z.toNat], rfl, ?_, walkN_snoc hw (List.getElem?_eq_getElem zl), by rw [List.length_append, hl]; rfl, ?_, Nd.oks_mem (Nd.ok_ks mok) _ (List.getElem_mem zl), ?_, ?_⟩
      · rw [upd_same, List.map_append]
        show _ = some (HO.lst (_ ++ [.int (z.toNat : Int)]))
        rw [Int.toNat_of_nonneg z0]
      · exact NdAt.go (fun b o z e _ => ⟨z, by rw [uD b z]; exact e⟩) g4
      · obtain ⟨r, a0, b0, c0, hp0, rest⟩ := B3
        exact ⟨r, a0, b0, c0, by rw [upd_ne (Ne.symm hBD)]; exact hp0, rest⟩
      · intro b o hb hn
        rw [uD b (some_ne hb)]
        exact ((b1.trans b2).trans b3) b o hb hn
    · rintro σ H1 ⟨y4, y5, sv, is, m, rfl, hD, hw, hl, hm, mok, B1, b1⟩
      exact fin _ _ _ is m H1 hD hw (by rw [hl]; decide) B1 b1
end
end Tb
namespace Tb
open PySem PySem.Spec PyProof.Rows L2
abbrev sBent : Stmt := topS 38
abbrev NBent : List Str := ["paper", "path", "bend", "below", "one"]
theorem scBent : FnScope NBent ["paper", "path", "bend"] (defScope sBent) := ⟨rfl, rfl, rfl, by decide +kernel, rfl, by decide +kernel, by decide +kernel⟩
theorem ix_nat {n j : Nat} (h : j < n) : ixN n (j : Int) = some j := by
  unfold ixN
  rw [if_pos (Int.natCast_nonneg j), if_pos (by omega)]
  rfl
theorem mod_at {b : Int} {n : Nat} (h : 0 < n) : ∃ j : Nat, j < n ∧ b % (n : Int) = (j : Int) := by
  have h0 := Int.emod_nonneg b (show (n : Int) ≠ 0 by omega)
  have h1 := Int.emod_lt_of_pos b (show (0 : Int) < n by omega)
  exact ⟨(b % n).toNat, by omega, by omega⟩
theorem at_last {xs : List V} (h : 0 < xs.length) : atI xs (-1) = some (xs[xs.length - 1]'(by omega)) := by
  have e : ixN xs.length (-1) = some (xs.length - 1) := by
    unfold ixN
    rw [if_neg (by decide), if_pos (by omega)]
    congr 1
    omega
  unfold atI
  rw [e]
  exact List.getElem?_eq_getElem (by omega)
theorem PpsAt.app {S : AS} {H : Hp} : ∀ {a b : List Pp} {us ws : List V}, PpsAt S H a us → PpsAt S H b ws → PpsAt S H (a ++ b) (us ++ ws)
  | [], b, us, ws, h, g => by
    have e : us = [] := h
    rw [e]
    exact g
  | p :: a, b, us, ws, ⟨v, vs, e, r, t⟩, g => by
    rw [e]
    exact ⟨v, vs ++ ws, rfl, r, PpsAt.app t g⟩
theorem PpsAt.take {S : AS} {H : Hp} : ∀ (i : Nat) {a : List Pp} {us : List V}, PpsAt S H a us → PpsAt S H (a.take i) (us.take i)
  | 0, a, us, h => rfl
  | i + 1, [], us, h => by
    have e : us = [] := h
    rw [e]
    rfl
  | i + 1, p :: a, us, ⟨v, vs, e, r, t⟩ => by
    rw [e]
    exact ⟨v, vs.take i, rfl, r, PpsAt.take i t⟩
theorem PpsAt.drop {S : AS} {H : Hp} : ∀ (i : Nat) {a : List Pp} {us : List V}, PpsAt S H a us → PpsAt S H (a.drop i) (us.drop i)
  | 0, a, us, h => h
  | i + 1, [], us, h => by
    have e : us = [] := h
    rw [e]
    rfl
  | i + 1, p :: a, us, ⟨v, vs, e, r, t⟩ => by
    rw [e]
    exact PpsAt.drop i t
theorem PpsAt.rev {S : AS} {H : Hp} : ∀ {a : List Pp} {us : List V}, PpsAt S H a us → PpsAt S H a.reverse us.reverse
  | [], us, h => by
    have e : us = [] := h
    rw [e]
    rfl
  | p :: a, us, ⟨v, vs, e, r, t⟩ => by
    rw [e, List.reverse_cons, List.reverse_cons]
    exact PpsAt.snoc (PpsAt.rev t) r
theorem PpsAt.set {S : AS} {H : Hp} {q : Pp} {x : V} (g : PpAt S H q x) : ∀ (i : Nat) {a : List Pp} {us : List V}, PpsAt S H a us → PpsAt S H (a.set i q) (us.set i x)
  | i, [], us, h => by
    have e : us = [] := h
    rw [e]
    rfl
  | 0, p :: a, us, ⟨v, vs, e, r, t⟩ => by
    rw [e]
    exact ⟨x, vs, rfl, g, t⟩
  | i + 1, p :: a, us, ⟨v, vs, e, r, t⟩ => by
    rw [e]
    exact ⟨v, vs.set i x, rfl, r, PpsAt.set g i t⟩
theorem same_updD {H H2 : Hp} {D : Addr} {o : HO} (S : Same H H2) (nD : H D = none) : Same H (upd H2 D o) := fun b x e => by
  rw [upd_ne (ne_of_none e nD)]
  exact S _ _ e
theorem newl_upd {H H2 : Hp} {D : Addr} {o : HO} {qs : List Pp} {us : List V} (h : PpsAt (NW H D H2) H2 qs us) : PpsAt (NW H D (upd H2 D o)) (upd H2 D o) qs us :=
  PpsAt.go (fun b o z e _ => ⟨⟨z.1, by rw [upd_ne z.1.2]; exact z.2⟩, by rw [upd_ne z.1.2]; exact e⟩) h
theorem newl_same {H H1 H2 : Hp} {D : Addr} {qs : List Pp} {us : List V} (h : PpsAt (NW H D H1) H1 qs us) (S : Same H1 H2) : PpsAt (NW H D H2) H2 qs us :=
  PpsAt.go (fun b o z e _ => ⟨⟨z.1, some_ne (S _ _ e)⟩, S _ _ e⟩) h
theorem new_nw {H H1 H2 : Hp} {D : Addr} {us : List V} {p : Pp} {v : V} (S1 : Same H H1) (hD : H1 D = some (.lst us)) (h : PpAt (New H1 H2) H2 p v) : PpAt (NW H D H2) H2 p v :=
  PpAt.go (fun b o z e _ => ⟨⟨⟨same_none S1 z.1, fun e2 => by rw [e2] at z; exact absurd z.1 (some_ne hD)⟩, z.2⟩, e⟩) h
mutual
theorem cert_d (s : Int) : ∀ n : Nd, (certOf s n).d = n.d
  | .mk h w l ks => congrArg (· + 1) (certs_d s ks)
theorem certs_d (s : Int) : ∀ ks : List Nd, Pp.ds (certsOf s ks) = Nd.ds ks
  | [] => rfl
  | k :: ks => by
    show max (certOf s k).d (Pp.ds (certsOf s ks)) = max k.d (Nd.ds ks)
    rw [cert_d s k, certs_d s ks]
end
theorem word_at {b : Int} : ∃ z : Str, Sg z ∧ ([V.str "made", .str "wholly", .str "changed", .str "value", .str "taken"] : List V)[(b % 5).toNat]? = some (.str z) := by
  have lit : ∀ z : Str, (tl z).all (fun c => decide (c < 1114112)) = true → Sg z := fun z e c hc => of_decide_eq_true (List.all_eq_true.mp e c hc)
  have h0 := Int.emod_nonneg b (show (5 : Int) ≠ 0 by decide)
  have h1 := Int.emod_lt_of_pos b (show (0 : Int) < 5 by decide)
  obtain ⟨j, hj⟩ : ∃ j : Nat, (b % 5).toNat = j := ⟨_, rfl⟩
  rw [hj]
  have : j < 5 := by omega
  match j, this with
  | 0, _ => exact ⟨"made", lit _ (by decide +kernel), rfl⟩
  | 1, _ => exact ⟨"wholly", lit _ (by decide +kernel), rfl⟩
  | 2, _ => exact ⟨"changed", lit _ (by decide +kernel), rfl⟩
  | 3, _ => exact ⟨"value", lit _ (by decide +kernel), rfl⟩
  | 4, _ => exact ⟨"taken", lit _ (by decide +kernel), rfl⟩
section
variable {P : Program} {w : World} {K : PySem.W.Frag} {mg : Str → Option Value} {base : Heap}
abbrev CCopy (P : Program) (w : World) (K : PySem.W.Frag) (mg : Str → Option Value) (base : Heap) (d : Nat) (g : Addr) (gd : FuncData) := C1 P w K mg base "_law_copy" sCopy ["paper"] (1 + d) (spCopy d) g gd
def spBent (d : Nat) : Sp := fun vs H Q _ => ∃ (v : V) (n : Nd) (s : Int) (a e : Addr) (is : List Nat) (b0 b1 : Int) (l : Str) (S : AS), vs = [v, .ref a, .ref e] ∧ PpAt S H (certOf s n) v ∧ n.ok ∧ n.d ≤ d ∧ H a = some (.lst (is.map fun (k : Nat) => V.int (k : Int))) ∧ fitsN is n ∧ H e = some (.lst [.int b0, .int b1, .str l]) ∧ Sg l ∧
  ∀ (t : Addr) (H' : Hp) (p : Pp), Same H H' → PpAt (New H H') H' p (.ref t) → p.ok → p.d ≤ n.d + 1 → Q (.ref t) H'
theorem ok_bent {f g : Addr} {fd gd : FuncData} {dc : Nat} (D0 : Dd K mg "_law_bent" sBent ["paper", "path", "bend"] f fd) (cCopy : CCopy P w K mg base dc g gd) (B : Blt mg) : ∀ d, d ≤ dc → FnOk P w K mg base CX0 (dc + 2 + d) f fd ["paper", "path", "bend"] (spBent d)
  | 0, _ => by
    refine D0.F.ok scBent (fun vs H Q E h => ?_) (fun cdv A outer s H vs Q E hr h => ?_)
    · obtain ⟨v, n, sh, a, e, is, b0, b1, l, S, rfl, _⟩ := h
      rfl
    · obtain ⟨v, n, sh, a, e, is, b0, b1, l, S, rfl, _, _, hd, _⟩ := h
      rw [Nd.d_eq] at hd
      exact absurd hd (by omega)
  | d + 1, hdc => by
    have cBent : C1 P w K mg base "_law_bent" sBent ["paper", "path", "bend"] (dc + 2 + d) (spBent d) f fd := ⟨D0, ok_bent D0 cCopy B d (by omega)⟩
    refine D0.F.ok scBent (fun vs H Q E h => ?_) (fun cdv A outer s H vs Q E hr h => ?_)
    · obtain ⟨v, n, sh, a, e, is, b0, b1, l, S, rfl, _⟩ := h
      rfl
    · obtain ⟨v, n, sh, a, e, is, b0, b1, l, S, rfl, hv, hok, hd, ha, hf, he, hl, q⟩ := h
      have hr : Room (dc + 2 + d) _ := hr
      obtain ⟨t, L, vs, rfl, _, ht, _, hL, hps⟩ := hv.ref
      rw [cert_ps] at hps
      have hd : Nd.ds n.ks + 1 ≤ d + 1 := by rw [← Nd.d_eq]; exact hd
      have l8 := Nd.ok_len hok
      have lv := hps.len
      rw [certs_len] at lv
      have hz : sizeLine = 16777216 := rfl
      have cok := certs_ok sh n.ks (Nd.ok_ks hok)
      have cd := certs_d sh n.ks
      have rl := Pp.ok_l (cert_ok sh n hok)
      refine ⟨_, (pss_cons (ps_setLc (i := 3) (own := [("one", 4)]) (g := gName 4) (by rfl) scBent.nd rfl rfl (sw_true rfl rfl rfl (by decide +kernel)) (pi_list (pe_ix ix_tup (pv 0) pe_int (fun _ _ => rfl))) (blkOk_by (N := NBent) (sc := defScope sBent) (by decide +kernel)) (fun _ _ _ _ _ => pg_name (i := 4) scBent.nd rfl (Or.inl rfl)) (fun _ _ _ _ _ => pts_nil) (fun _ _ _ _ _ => pe_call cCopy.G (hr.mono (by first | decide | omega)) (by rfl) cCopy.D.g cCopy.D.F.kp cCopy.D.b .nil pass0 (pa_cons (pv 4) pa_nil)))
      (pss_cons (ps_if (pt_cmpR op_gt (pe_callB call_len_seq (by rfl) B.len PySem.boot_len (pa_cons (pv 1) pa_nil)) pe_int (nomark _))
        (pss_cons (ps_asg (pe_call cBent.G (hr.mono (by first | decide | omega)) (by rfl) cBent.D.g cBent.D.F.kp cBent.D.b .nil pass0 (pa_cons (pe_ix ix_list (pe_ix ix_tup (pv 0) pe_int (fun _ _ => rfl)) (pe_ix ix_list (pv 1) pe_int (fun _ _ => rfl)) (fun _ _ => rfl)) (pa_cons (pe_slice sl_list (pv 1) (po_some pe_int) po_none) (pa_cons (pv 2) pa_nil)))) (pg_sub (pv 3) (pe_ix ix_list (pv 1) pe_int (fun _ _ => rfl)) set_list))
        (pss_one (ps_ret (pe_tup (pa_cons (pe_ix ix_tup (pv 0) pe_int (fun _ _ => rfl)) (pa_cons (pe_ix ix_tup (pv 0) pe_int (fun _ _ => rfl)) (pa_cons (pv 3) pa_nil)))))))
        pss_nil)
      (pss_cons (ps_if (pt_cmpR op_eq (pe_ix ix_list (pv 2) pe_int (fun _ _ => rfl)) pe_int (nomark _))
        (pss_one (ps_ret (pe_tup (pa_cons (pe_ix ix_list (pe_lst (pa_cons pe_str (pa_cons pe_str (pa_cons pe_str (pa_cons pe_str (pa_cons pe_str pa_nil)))))) (pe_op op_mod (pe_callTy call_int1 (by rfl) B.int PyProof.Rows.boot_int (pa_cons (pe_ix ix_list (pv 2) pe_int (fun _ _ => rfl)) pa_nil)) pe_int) (fun _ _ => rfl)) (pa_cons (pe_ix ix_tup (pv 0) pe_int (fun _ _ => rfl)) (pa_cons (pv 3) pa_nil))))))
        pss_nil)
      (pss_cons (ps_if (pt_cmpR op_eq (pe_ix ix_list (pv 2) pe_int (fun _ _ => rfl)) pe_int (nomark _))
        (pss_one (ps_ret (pe_tup (pa_cons (pe_ix ix_tup (pv 0) pe_int (fun _ _ => rfl)) (pa_cons (pe_ix ix_list (pv 2) pe_int (fun _ _ => rfl)) (pa_cons (pv 3) pa_nil))))))
        pss_nil)
      (C8.pss_cut (ps_if (PW.pt (pw_and (pt_cmpR op_eq (pe_ix ix_list (pv 2) pe_int (fun _ _ => rfl)) pe_int (nomark _)) (pw_and1 (pt_cmpR op_gt (pe_callB call_len_seq (by rfl) B.len PySem.boot_len (pa_cons (pv 3) pa_nil)) pe_int (nomark _)))))
        (pss_one (ps_expr (pe_bm PySem.F.plainAttrs_list PySem.F.slot_list_pop PySem.F.type_list_pop mt_popAt (pv 3) (pa_cons (pe_op op_mod (pe_callTy call_int1 (by rfl) B.int PyProof.Rows.boot_int (pa_cons (pe_ix ix_list (pv 2) pe_int (fun _ _ => rfl)) pa_nil)) (pe_callB call_len_seq (by rfl) B.len PySem.boot_len (pa_cons (pv 3) pa_nil))) pa_nil))))
        (pss_one (ps_if (pt_cmpR op_eq (pe_ix ix_list (pv 2) pe_int (fun _ _ => rfl)) pe_int (nomark _))
          (pss_one (ps_expr (pe_bm PySem.F.plainAttrs_list PySem.F.slot_list_insert PySem.F.type_list_insert mt_insert (pv 3) (pa_cons (pe_op op_mod (pe_callTy call_int1 (by rfl) B.int PyProof.Rows.boot_int (pa_cons (pe_ix ix_list (pv 2) pe_int (fun _ _ => rfl)) pa_nil)) (pe_op op_add (pe_callB call_len_seq (by rfl) B.len PySem.boot_len (pa_cons (pv 3) pa_nil)) pe_int)) (pa_cons (pe_tup (pa_cons pe_str (pa_cons (pe_ix ix_list (pv 2) pe_int (fun _ _ => rfl)) (pa_cons (pe_lst pa_nil) pa_nil)))) pa_nil)))))
          (pss_one (ps_if (pt_cmpR op_eq (pe_ix ix_list (pv 2) pe_int (fun _ _ => rfl)) pe_int (nomark _))
            (pss_one (ps_expr (pe_bm0 PySem.F.plainAttrs_list PySem.F.slot_list_reverse PySem.F.type_list_reverse mt_reverse (pv 3))))
            (pss_one (ps_if (pt_cmpR op_gt (pe_callB call_len_seq (by rfl) B.len PySem.boot_len (pa_cons (pv 3) pa_nil)) pe_int (nomark _))
              (pss_one (ps_asg (pe_call cCopy.G (hr.mono (by first | decide | omega)) (by rfl) cCopy.D.g cCopy.D.F.kp cCopy.D.b .nil pass0 (pa_cons (pe_ix ix_list (pv 3) (pe_un un_neg pe_int) (fun _ _ => rfl)) pa_nil)) (pg_sub (pv 3) (pe_op op_mod (pe_callTy call_int1 (by rfl) B.int PyProof.Rows.boot_int (pa_cons (pe_ix ix_list (pv 2) pe_int (fun _ _ => rfl)) pa_nil)) (pe_callB call_len_seq (by rfl) B.len PySem.boot_len (pa_cons (pv 3) pa_nil))) set_list)))
              pss_nil)))))))
      (pss_one (ps_ret (pe_tup (pa_cons (pe_ix ix_tup (pv 0) pe_int (fun _ _ => rfl)) (pa_cons (pe_ix ix_tup (pv 0) pe_int (fun _ _ => rfl)) (pa_cons (pv 3) pa_nil))))))))))), ?_⟩
      refine ⟨.ref t, rfl, t, _, 2, .ref L, rfl, rfl, .inl (.inl ht), atI_nat (j := 2) rfl, L, rfl, ⟨vs, sqOf hL⟩, fun D nD => ?_⟩
      refine lc_it (walk_list (K := K) (a := L) (xs := vs)) (fun i H1 => Same H H1 ∧ ∃ us, H1 D = some (.lst us) ∧ PpsAt (NW H D H1) H1 ((certsOf sh n.ks).take i) us) ⟨same_upd nD, [], upd_same, rfl⟩ (fun i H1 _ hP => sqOf (hP.1 _ _ hL)) (fun i v H1 H2 hi hP hy => ?_) (fun H1 hP => ?_)
      · obtain ⟨S1, us, hD, hU⟩ := hP
        obtain ⟨rfl, ev⟩ := hy
        obtain ⟨p1, e1, g1⟩ := hps.at ev
        have m1 := List.mem_of_getElem? e1
        refine ⟨rfl, v, rfl, v, p1, S, rfl, g1.same S1, Pp.oks_mem cok _ m1, by have := Pp.d_mem m1; omega, fun t3 H3 S3 hP3 => ⟨us, S3 _ _ hD, ?_, ?_, us ++ [.ref t3], upd_same, ?_⟩⟩
        · rw [hU.len, List.length_take, certs_len]
          exact small1000 (by omega)
        · intro b o hb
          rw [upd_ne (ne_of_none hb nD)]
          exact S3 _ _ (S1 _ _ hb)
        · rw [List.take_add_one, e1]
          exact newl_snoc S1 hD hU S3 hP3
      · obtain ⟨S1, us, hD, hU⟩ := hP
        rw [lv, ← certs_len sh n.ks, List.take_length] at hU
        obtain ⟨ps, eps⟩ : ∃ ps, ps = certsOf sh n.ks := ⟨_, rfl⟩
        rw [← eps] at hU hps cok cd
        have lps : ps.length = n.ks.length := by rw [eps, certs_len]
        -- what is returned
        have fin : ∀ (r2 l2 : Str) (H2 : Hp) (us2 : List V) (qs : List Pp) (t2 : Addr), Same H H2 → H2 D = some (.lst us2) → PpsAt (NW H D H2) H2 qs us2 → (∀ q ∈ qs, q.ok ∧ q.d ≤ Nd.ds n.ks + 1) → qs.length ≤ 9 → Sg r2 → Sg l2 → H2 t2 = none → Q (.ref t2) (upd H2 t2 (.tup [.str r2, .str l2, .ref D])) := fun r2 l2 H2 us2 qs t2 S2 hD2 hU2 hall l9 gr gl nt2 => by
          refine q t2 _ (.mk r2 l2 qs) (Same.trans S2 (same_upd nt2)) (newl_done S2 nD hD2 hU2 (same_upd nt2) (same_none S2 nt2) upd_same) ⟨gr, gl, by omega, Pp.oks_of fun p hp => (hall p hp).1⟩ ?_
          have := Pp.ds_le fun p hp => (hall p hp).2
          rw [Nd.d_eq]
          show Pp.ds qs + 1 ≤ _
          omega
        have hall0 : ∀ q ∈ ps, q.ok ∧ q.d ≤ Nd.ds n.ks + 1 := fun q hq => ⟨Pp.oks_mem cok q hq, by have := Pp.d_mem hq; omega⟩
        have at0 : ∀ {H2 : Hp}, Same H H2 → SqT K H2 t [.str (certOf sh n).r, .str (certOf sh n).l, .ref L] := fun S => .inl (.inl (S _ _ ht))
        refine ⟨.ref a, rfl, a, _, rfl, .inl (sqOf (S1 _ _ ha)), _, _, rfl, rfl, _, rfl, ite2 (fun c => ?_) (fun c => ?_)⟩
        · cases is with
          | nil => exact absurd c (by decide)
          | cons j is =>
          obtain ⟨k, ek, hfk⟩ := hf
          have jl : j < ps.length := by rw [lps]; exact (List.getElem?_eq_some_iff.mp ek).1
          have ep : ps[j]? = some (certOf sh k) := by
            rw [eps, certsOf_map, List.getElem?_map, ek]
            rfl
          obtain ⟨v1, e1, g1⟩ := hps.get ep
          have mk := List.mem_of_getElem? ek
          have ha1 := S1 _ _ ha
          refine ⟨.ref t, rfl, t, _, 2, .ref L, rfl, rfl, at0 S1, atI_nat (j := 2) rfl, .ref a, rfl, a, _, 0, .int (j : Int), rfl, rfl, sqOf ha1, atI_nat (j := 0) rfl, L, vs, j, v1, rfl, rfl, sqOf (S1 _ _ hL), atI_nat e1, .ref a, rfl, 1, rfl, a, _, rfl, sqOf ha1, fun pa npa => ⟨.ref e, rfl, ?_⟩⟩
          have Sp : Same H1 (upd H1 pa (.lst (cutV ((j :: is).map fun (k : Nat) => V.int (k : Int)) (some 1) none))) := same_upd npa
          refine ⟨v1, k, sh, pa, e, is, b0, b1, l, S, rfl, (g1.same S1).same Sp, Nd.oks_mem (Nd.ok_ks hok) _ mk, by have := Nd.d_mem mk; omega, ?_, hfk, Sp _ _ (S1 _ _ he), hl, fun t3 H3 q1 S3 hP3 qok qd => ?_⟩
          · rw [upd_same, cut_lo]
            rfl
          have S13 := Same.trans Sp S3
          have S03 := Same.trans S1 S13
          have hD3 := S13 _ _ hD
          have hU3 := newl_same hU S13
          have hP3' : PpAt (NW H D H3) H3 q1 (.ref t3) := new_nw (Same.trans S1 Sp) (Sp _ _ hD) hP3
          have ljU : j < us.length := by rw [hU.len]; exact jl
          refine ⟨.ref D, rfl, .ref a, rfl, a, _, 0, .int (j : Int), rfl, rfl, sqOf (S03 _ _ ha), atI_nat (j := 0) rfl, D, us, j, j, rfl, rfl, hD3, ?_, ?_⟩
          · unfold ixN
            rw [if_pos (Int.natCast_nonneg j), if_pos (by omega)]
            rfl
          have S04 : Same H (upd H3 D (.lst (us.set j (.ref t3)))) := same_updD S03 nD
          refine ⟨.ref t, rfl, t, _, 0, _, rfl, rfl, at0 S04, atI_nat (j := 0) rfl, .ref t, rfl, t, _, 1, _, rfl, rfl, at0 S04, atI_nat (j := 1) rfl, .ref D, rfl, by show 3 ≤ sizeLine; decide, fun t2 nt2 => ?_⟩
          refine fin _ _ _ _ (ps.set j q1) t2 S04 upd_same (newl_upd (PpsAt.set hP3' j hU3)) (fun q0 hq0 => ?_) (by rw [List.length_set]; omega) rl.1 rl.2.1 nt2
          rcases List.mem_or_eq_of_mem_set hq0 with z | z
          · exact hall0 _ z
          · rw [z]
            exact ⟨qok, by have := Nd.d_mem mk; omega⟩
        have he1 := S1 _ _ he
        refine ⟨.ref e, rfl, e, _, 0, .int b0, rfl, rfl, sqOf he1, atI_nat (j := 0) rfl, rfl, _, rfl, ite2 (fun c0 => ?_) (fun c0 => ?_)⟩
        · obtain ⟨z, gz, ez⟩ := word_at (b := b1)
          refine ⟨by show 5 ≤ sizeLine; decide, fun pl npl => ?_⟩
          have Sl : Same H1 (upd H1 pl (.lst [.str "made", .str "wholly", .str "changed", .str "value", .str "taken"])) := same_upd npl
          have S02 := Same.trans S1 Sl
          refine ⟨.ref e, rfl, e, _, 1, .int b1, rfl, rfl, sqOf (Sl _ _ he1), atI_nat (j := 1) rfl, .inl ⟨_, rfl, b1, 5, rfl, rfl, by show (0 : Int) < 5; decide, pl, _, _, .str z, rfl, rfl, sqOf upd_same, at_nat (Int.emod_nonneg _ (by decide)) ez, .ref t, rfl, t, _, 1, _, rfl, rfl, at0 S02, atI_nat (j := 1) rfl, .ref D, rfl, by show 3 ≤ sizeLine; decide, fun t2 nt2 => ?_⟩⟩
          exact fin _ _ _ us ps t2 S02 (Sl _ _ hD) (newl_same hU Sl) hall0 (by omega) gz rl.2.1 nt2
        refine ⟨.ref e, rfl, e, _, 0, .int b0, rfl, rfl, sqOf he1, atI_nat (j := 0) rfl, rfl, _, rfl, ite2 (fun c1 => ?_) (fun c1 => ?_)⟩
        · refine ⟨.ref t, rfl, t, _, 0, _, rfl, rfl, at0 S1, atI_nat (j := 0) rfl, .ref e, rfl, e, _, 2, .str l, rfl, rfl, sqOf he1, atI_nat (j := 2) rfl, .ref D, rfl, by show 3 ≤ sizeLine; decide, fun t2 nt2 => ?_⟩
          exact fin _ _ _ us ps t2 S1 hD hU hall0 (by omega) rl.1 hl nt2
        refine ⟨fun σ H2 => ∃ us2 qs, σ = [some (.ref t), some (.ref a), some (.ref e), some (.ref D), none] ∧ Same H H2 ∧ H2 D = some (.lst us2) ∧ PpsAt (NW H D H2) H2 qs us2 ∧ (∀ q ∈ qs, q.ok ∧ q.d ≤ Nd.ds n.ks + 1) ∧ qs.length ≤ 9, ?_, ?_⟩
        · have lU := hU.len
          refine ⟨.ref e, rfl, e, _, 0, .int b0, rfl, rfl, sqOf he1, atI_nat (j := 0) rfl, rfl, _, rfl, ite2 (fun c2 => ?_) (fun c2 => ?_)⟩
          · refine ⟨.ref D, rfl, D, us, rfl, .inl (sqOf hD), _, _, rfl, rfl, _, rfl, ite2 (fun c3 => ?_) (fun c3 => ?_)⟩
            · have hpos : 0 < us.length := by have := of_decide_eq_true c3; omega
              obtain ⟨j, hj, ej⟩ := mod_at (b := b1) hpos
              refine ⟨.ref D, rfl, .inl ⟨rfl, _, sqOf hD⟩, .ref e, rfl, e, _, 1, .int b1, rfl, rfl, sqOf he1, atI_nat (j := 1) rfl, .inl ⟨_, rfl, .ref D, rfl, D, us, rfl, .inl (sqOf hD), b1, _, rfl, rfl, by omega, ?_⟩⟩
              refine ⟨D, us, _, j, us[j], rfl, rfl, hD, by omega, by omega, (ixN_seq (by rw [ej]; exact ix_nat hj)).1, List.getElem?_eq_getElem hj, us.eraseIdx j, ps.eraseIdx j, rfl, same_updD S1 nD, upd_same, newl_upd ?_, fun q hq => hall0 q (List.mem_of_mem_eraseIdx hq), ?_⟩
              · rw [List.eraseIdx_eq_take_drop_succ, List.eraseIdx_eq_take_drop_succ]
                exact PpsAt.app (PpsAt.take j hU) (PpsAt.drop (j + 1) hU)
              · have := List.length_eraseIdx_le ps j
                omega
            · rw [int_dec] at c2
              have c2 := of_decide_eq_true c2
              refine ⟨.ref e, rfl, e, _, 0, .int b0, rfl, rfl, sqOf he1, atI_nat (j := 0) rfl, rfl, _, rfl, ite2 (fun c4 => ?_) (fun _ => ?_)⟩
              · rw [int_dec] at c4
                have := of_decide_eq_true c4
                omega
              refine ⟨.ref e, rfl, e, _, 0, .int b0, rfl, rfl, sqOf he1, atI_nat (j := 0) rfl, rfl, _, rfl, ite2 (fun c4 => ?_) (fun _ => ?_)⟩
              · rw [int_dec] at c4
                have := of_decide_eq_true c4
                omega
              refine ⟨.ref D, rfl, D, us, rfl, .inl (sqOf hD), _, _, rfl, rfl, _, rfl, ite2 (fun c4 => absurd c4 c3) (fun _ => ?_)⟩
              exact ⟨us, ps, rfl, S1, hD, hU, hall0, by omega⟩
          · refine ⟨.ref e, rfl, e, _, 0, .int b0, rfl, rfl, sqOf he1, atI_nat (j := 0) rfl, rfl, _, rfl, ite2 (fun c4 => ?_) (fun _ => ?_)⟩
            · obtain ⟨j, hj, ej⟩ := mod_at (b := b1) (show 0 < us.length + 1 by omega)
              refine ⟨.ref D, rfl, .inl ⟨rfl, _, sqOf hD⟩, .ref e, rfl, e, _, 1, .int b1, rfl, rfl, sqOf he1, atI_nat (j := 1) rfl, .inl ⟨_, rfl, .ref D, rfl, D, us, rfl, .inl (sqOf hD), _, 1, rfl, rfl, b1, _, rfl, rfl, by omega, .ref e, rfl, e, _, 2, .str l, rfl, rfl, sqOf he1, atI_nat (j := 2) rfl, by show 0 ≤ sizeLine; decide, fun L2 nL2 => ⟨by show 3 ≤ sizeLine; decide, fun t4 nt4 => ?_⟩⟩⟩
              have S5 : Same H1 (upd H1 L2 (.lst [])) := same_upd nL2
              have S6 : Same H1 (upd (upd H1 L2 (.lst [])) t4 (.tup [.str "made", .str l, .ref L2])) := Same.trans S5 (same_upd nt4)
              have hD6 := S6 _ _ hD
              have hL6 : upd (upd H1 L2 (.lst [])) t4 (.tup [.str "made", .str l, .ref L2]) L2 = some (.lst []) := same_upd nt4 _ _ upd_same
              have nw : PpAt (New H1 (upd (upd H1 L2 (.lst [])) t4 (.tup [.str "made", .str l, .ref L2]))) (upd (upd H1 L2 (.lst [])) t4 (.tup [.str "made", .str l, .ref L2])) (.mk "made" l []) (.ref t4) :=
                ⟨t4, L2, [], rfl, ⟨same_none S5 nt4, some_ne upd_same⟩, upd_same, ⟨nL2, some_ne hL6⟩, hL6, rfl⟩
              have ej' : b1 % ((us.length : Int) + 1) = (j : Int) := ej
              have ejt : (b1 % ((us.length : Int) + 1)).toNat = j := by omega
              refine ⟨D, us, _, .ref t4, rfl, rfl, hD6, by omega, by omega, by omega, _, ps.take j ++ [.mk "made" l []] ++ ps.drop j, rfl, same_updD (Same.trans S1 S6) nD, upd_same, newl_upd ?_, fun q hq => ?_, ?_⟩
              · rw [ejt]
                exact PpsAt.app (PpsAt.snoc (PpsAt.take j (newl_same hU S6)) (new_nw S1 hD nw)) (PpsAt.drop j (newl_same hU S6))
              · rcases List.mem_append.mp hq with z | z
                · rcases List.mem_append.mp z with z | z
                  · exact hall0 q (List.mem_of_mem_take z)
                  · rw [List.mem_singleton.mp z]
                    exact ⟨⟨(word_at (b := 0)).elim fun z hz => by
                      have e : z = "made" := by
                        have := hz.2
                        cases this
                        rfl
                      rw [← e]
                      exact hz.1, hl, by show 0 ≤ 40; decide, trivial⟩, by show 1 ≤ _; omega⟩
                · exact hall0 q (List.mem_of_mem_drop z)
              · rw [List.length_append, List.length_append, List.length_take, List.length_drop, List.length_singleton]
                omega
            refine ⟨.ref e, rfl, e, _, 0, .int b0, rfl, rfl, sqOf he1, atI_nat (j := 0) rfl, rfl, _, rfl, ite2 (fun c4 => ?_) (fun _ => ?_)⟩
            · exact ⟨.ref D, rfl, .inl ⟨rfl, _, sqOf hD⟩, D, us, rfl, rfl, hD, us.reverse, ps.reverse, rfl, same_updD S1 nD, upd_same, newl_upd (PpsAt.rev hU), fun q hq => hall0 q (List.mem_reverse.mp hq), by rw [List.length_reverse]; omega⟩
            refine ⟨.ref D, rfl, D, us, rfl, .inl (sqOf hD), _, _, rfl, rfl, _, rfl, ite2 (fun c3 => ?_) (fun _ => ?_)⟩
            · have hpos : 0 < us.length := by have := of_decide_eq_true c3; omega
              obtain ⟨j, hj, ej⟩ := mod_at (b := b1) hpos
              obtain ⟨p1, e1, g1⟩ := hU.at (List.getElem?_eq_getElem (show us.length - 1 < us.length by omega))
              have m1 := List.mem_of_getElem? e1
              refine ⟨.ref D, rfl, 1, rfl, D, us, -1, _, rfl, rfl, sqOf hD, at_last hpos, ?_⟩
              refine ⟨_, p1, _, rfl, g1, (hall0 p1 m1).1, by have := Pp.d_mem m1; omega, fun t3 H3 S3 hP3 => ?_⟩
              have hD3 := S3 _ _ hD
              refine ⟨.ref D, rfl, .ref e, rfl, e, _, 1, .int b1, rfl, rfl, sqOf (S3 _ _ he1), atI_nat (j := 1) rfl, .inl ⟨_, rfl, .ref D, rfl, D, us, rfl, .inl (sqOf hD3), b1, _, rfl, rfl, by omega, D, us, _, j, rfl, rfl, hD3, by rw [ej]; exact ix_nat hj, us.set j (.ref t3), ps.set j p1, rfl, same_updD (Same.trans S1 S3) nD, upd_same, newl_upd (PpsAt.set (new_nw S1 hD hP3) j (newl_same hU S3)), fun q0 hq0 => ?_, by rw [List.length_set]; omega⟩⟩
              rcases List.mem_or_eq_of_mem_set hq0 with z | z
              · exact hall0 _ z
              · rw [z]
                exact hall0 _ m1
            · exact ⟨us, ps, rfl, S1, hD, hU, hall0, by omega⟩
        · rintro σ H2 ⟨us2, qs, rfl, S2, hD2, hU2, hall, l9⟩
          refine ⟨.ref t, rfl, t, _, 0, _, rfl, rfl, at0 S2, atI_nat (j := 0) rfl, .ref t, rfl, t, _, 1, _, rfl, rfl, at0 S2, atI_nat (j := 1) rfl, .ref D, rfl, by show 3 ≤ sizeLine; decide, fun t2 nt2 => ?_⟩
          exact fin _ _ _ us2 qs t2 S2 hD2 hU2 hall l9 rl.1 rl.2.1 nt2
end
end Tb
namespace Tb
open PySem PySem.Spec PyProof.Rows L2
abbrev sWorth : Stmt := topS 31
abbrev NWorth : List Str := ["box", "heading", "land", "kids", "share", "whole", "papers", "far", "way", "kid", "k"]
theorem scWorth : FnScope NWorth ["box", "heading", "land", "kids", "share"] (defScope sWorth) := ⟨rfl, rfl, rfl, by decide +kernel, rfl, by decide +kernel, by decide +kernel⟩
/-- if, with a word at the way to its else -/
def tIfJ (c : TT) (t u : TS) : TS := fun D σ H => ∃ Mid : Hp → Prop, (c σ H fun b H1 => if b = true then t D σ H1 else Mid H1) ∧ ∀ H1, Mid H1 → u D σ H1
theorem ps_ifJ {X : Cx} {c : Expr} {a b : List Stmt} {tc : TT} {t u : TS} {pos : Pos} (hc : PT X c tc) (ha : PSs X a t) (hb : PSs X b u) : PS X (.If c a b pos) (tIfJ tc t u) := by
  refine ⟨fun pins s st hp Ds I h => ?_⟩
  obtain ⟨Mid, hm, hu⟩ := h
  refine wpAny_If (thn (hc.run pins s st hp _ I hm) fun z s1 ⟨hq, Iq, w1⟩ => ?_)
  cases z
  · exact hb.run pins s1 st hq Ds Iq (hu _ w1)
  · exact ha.run pins s1 st hq Ds Iq w1
theorem tag_map2 {α : Type} {ks : List Nd} {vs : List V} (f : Nd → α) (h : vs.length = ks.length) : ((tagN ks vs).map fun z => f z.2) = ks.map f := by
  have e := congrArg (List.map f) (tag_snd h)
  rw [List.map_map] at e
  exact e
section
variable {P : Program} {w : World} {K : PySem.W.Frag} {mg : Str → Option Value} {base : Heap}
abbrev CAmount (P : Program) (w : World) (K : PySem.W.Frag) (mg : Str → Option Value) (base : Heap) (g : Addr) (gd : FuncData) := C1 P w K mg base "_law_amount" sAmount ["box"] 2 (spInt fun z => 0 ≤ z) g gd
abbrev CPaper (P : Program) (w : World) (K : PySem.W.Frag) (mg : Str → Option Value) (base : Heap) (d : Nat) (g : Addr) (gd : FuncData) := C1 P w K mg base "_law_paper" sPaper ["node", "share", "path", "land"] (2 + d) (spLPaper d) g gd
def spWorth (d : Nat) : Sp := fun vs H Q _ => ∃ (p LK : Addr) (h l : Str) (ks : List Nd) (us : List V) (s : Int) (S : AS), vs = [.ref p, .str h, .str l, .ref LK, .int s] ∧ Box H p ∧ H LK = some (.lst us) ∧ NdsAt S H ks us ∧ Nd.oks ks ∧ ks.length ≤ 8 ∧ Nd.ds ks ≤ d ∧ 0 ≤ s ∧ s ≤ 100 ∧
  ∀ (z : Int) (H' : Hp), sumOf (ks.map Nd.w) ≤ z → Box H' p → But p H H' → Q (.int z) H'
theorem sg_empty : Sg ("" : Str) := fun c hc => by
  have e : tl ("" : Str) = [] := by decide +kernel
  rw [e] at hc
  cases hc
theorem ok_worth {f g g2 g3 : Addr} {fd gd gd2 gd3 : FuncData} {d : Nat} (F : Fun K "_law_worth" "_law_worth" sWorth f fd) (cDraw : CDraw P w K mg base g gd) (cAmount : CAmount P w K mg base g2 gd2) (cPaper : CPaper P w K mg base d g3 gd3) (B : Blt mg) : FnOk P w K mg base CX0 (3 + d) f fd ["box", "heading", "land", "kids", "share"] (spWorth d) := by
  have e3 : 3 + d = (2 + d) + 1 := by omega
  rw [e3]
  refine F.ok scWorth (fun vs H Q E h => ?_) (fun cdv A outer s H vs Q E hr h => ?_)
  · obtain ⟨p, LK, h, l, ks, us, sh, S, rfl, _⟩ := h
    rfl
  · obtain ⟨p, LK, h, l, ks, us, sh, S, rfl, hB, hL, hks, oks, l8, hd, h0, h1, q⟩ := h
    refine ⟨_, (pss_cons (ps_set (i := 5) scWorth.nd rfl (.inl rfl) (pe_callB (cr_sum rfl) (by rfl) B.sum (by decide +kernel) (pa_cons (pe_lc (own := [("kid", 9)]) (g := gName 9) (by rfl) scWorth.nd (pi_list (pv 3)) (blkOk_by (N := NWorth) (sc := defScope sWorth) (by decide +kernel)) (fun _ _ _ _ _ => pg_name (i := 9) scWorth.nd rfl (Or.inl rfl)) (fun _ _ _ _ _ => pts_nil) (fun _ _ _ _ _ => pe_ix (r := rIxT K) ix_tup (pv 9) pe_int (fun _ _ => rfl))) pa_nil)))
      (pss_cons (ps_set (i := 6) scWorth.nd rfl (.inr rfl) (pe_lc (own := [("kid", 9)]) (g := gName 9) (by rfl) scWorth.nd (pi_list (pv 3)) (blkOk_by (N := NWorth) (sc := defScope sWorth) (by decide +kernel)) (fun _ _ _ _ _ => pg_name (i := 9) scWorth.nd rfl (Or.inl rfl)) (fun _ _ _ _ _ => pts_nil) (fun _ _ _ _ _ => pe_call cPaper.G (hr.mono (by first | decide | omega)) (by rfl) cPaper.D.g cPaper.D.F.kp cPaper.D.b .nil pass0 (pa_cons (pv 9) (pa_cons (pv 4) (pa_cons pe_non (pa_cons pe_str pa_nil)))))))
      (pss_cons (ps_set (i := 7) scWorth.nd rfl (.inl rfl) (pe_callB (cr_sum rfl) (by rfl) B.sum (by decide +kernel) (pa_cons (pe_lc (own := [("k", 10)]) (g := gName 10) (by rfl) scWorth.nd (pi_range1 (by rfl) B.range (pa_cons (pe_callB call_len_seq (by rfl) B.len PySem.boot_len (pa_cons (pv 3) pa_nil)) pa_nil)) (blkOk_by (N := NWorth) (sc := defScope sWorth) (by decide +kernel)) (fun _ _ _ _ _ => pg_name (i := 10) scWorth.nd rfl (Or.inl rfl)) (fun _ _ _ _ _ => pts_one (pt_cmpR op_ne (pe_ix (r := rIxT K) ix_tup (pe_ix (r := rIxL K) ix_list (pv 6) (pv 10) (fun _ _ => rfl)) pe_int (fun _ _ => rfl)) (pv 2) (nomark _))) (fun _ _ _ _ _ => pe_ix (r := rIxT K) ix_tup (pe_ix (r := rIxL K) ix_list (pv 3) (pv 10) (fun _ _ => rfl)) pe_int (fun _ _ => rfl))) pa_nil)))
      (pss_cons (ps_set (i := 8) scWorth.nd rfl (.inl rfl) (pe_call cDraw.G (hr.mono (by first | decide | omega)) (by rfl) cDraw.D.g cDraw.D.F.kp cDraw.D.b .nil pass0 (pa_cons (pv 0) (pa_cons pe_int pa_nil))))
      (pss_cons (ps_if (pt_cmpR op_eq (pv 8) pe_int (nomark _))
        (pss_one (ps_ret (pv 5)))
        pss_nil)
      (pss_cons (ps_if (PW.pt (pw_and (pt_cmpR op_lt (pv 8) pe_int (nomark _)) (pw_and1 (pt_cmpR op_gt (pv 4) pe_int (nomark _)))))
        (pss_one (ps_ret (pe_callB (call_max2 rfl) (by rfl) B.max (by decide +kernel) (pa_cons (pv 5) (pa_cons (pe_op op_sub (pe_op op_add (pe_op op_fdivW (pe_op op_mul pe_int (pv 7)) (pv 4)) (pv 8)) pe_int) pa_nil)))))
        pss_nil)
      (pss_cons (ps_if (pt_cmpR op_eq (pv 8) pe_int (nomark _))
        (pss_one (ps_ret (pe_op op_add (pv 5) (pe_call cDraw.G (hr.mono (by first | decide | omega)) (by rfl) cDraw.D.g cDraw.D.F.kp cDraw.D.b .nil pass0 (pa_cons (pv 0) (pa_cons pe_int pa_nil))))))
        pss_nil)
      (pss_one (ps_ret (pe_op op_add (pv 5) (pe_call cAmount.G (hr.mono (by first | decide | omega)) (by rfl) cAmount.D.g cAmount.D.F.kp cAmount.D.b .nil pass0 (pa_cons (pv 0) pa_nil)))))))))))), ?_⟩
    have lu := hks.len
    have hz : sizeLine = 16777216 := rfl
    refine ⟨.ref LK, rfl, LK, rfl, ⟨us, sqOf hL⟩, fun D nD => ?_⟩
    refine lc_G (walk_list (K := K) (a := LK) (xs := (tagN ks us).map Prod.fst)) (i := 9) (tagN ks us) Prod.fst (fun _ => true) (fun z => .int z.2.w) (List.length_map _).symm nD (by rw [tag_map lu]; omega) yAt_val (fun H2 S2 => sqOf (by rw [tag_map lu]; exact S2 _ _ hL)) (fun _ => rfl) (fun z _ H2 _ R h => h) (fun z hz _ H2 S2 R h => ?_) (fun H1 S1 hD => ?_)
    · obtain ⟨a1, a2⟩ := tag_at hks hz
      obtain ⟨t, L, vs, e, _, ht, _⟩ := a1.ref
      exact ⟨z.1, rfl, t, _, 1, .int z.2.w, e, rfl, .inl (.inl (S2 _ _ ht)), atI_nat (j := 1) rfl, h H2 (Same.refl _)⟩
    have eD : ((tagN ks us).filter fun _ => true).map (fun z => V.int z.2.w) = (ks.map Nd.w).map V.int := by
      rw [filt_true, tag_map2 (fun k => V.int k.w) lu, List.map_map]
      rfl
    rw [eD] at hD
    refine ⟨D, ks.map Nd.w, rfl, sqOf hD, ?_⟩
    have hL1 := S1 _ _ hL
    have hks1 := hks.same S1
    refine ⟨.ref LK, rfl, LK, rfl, ⟨us, sqOf hL1⟩, fun D2 nD2 => ?_⟩
    refine lc_it (walk_list (K := K) (a := LK) (xs := us)) (fun i H2 => Same H1 H2 ∧ ∃ ws qs, H2 D2 = some (.lst ws) ∧ PpsAt (NW H1 D2 H2) H2 qs ws ∧ qs.length = i) ⟨same_upd nD2, [], [], upd_same, rfl, rfl⟩ (fun i H2 _ hP => sqOf (hP.1 _ _ hL1)) (fun i v H2 H3 hi hP hy => ?_) (fun H2 hP => ?_)
    · obtain ⟨S2, ws, qs, hD2, hU, lq⟩ := hP
      obtain ⟨rfl, ev⟩ := hy
      obtain ⟨k, ek, gk⟩ := hks1.at ev
      have mk := List.mem_of_getElem? ek
      refine ⟨rfl, v, rfl, .int sh, rfl, v, .non, k, sh, "", S, rfl, gk.same S2, Nd.oks_mem oks _ mk, by have := Nd.d_mem mk; omega, h0, h1, .inl rfl, sg_empty, fun t H4 q1 S4 hP4 _ _ _ => ⟨ws, S4 _ _ hD2, ?_, ?_, ws ++ [.ref t], qs ++ [q1], upd_same, newl_snoc S2 hD2 hU S4 hP4, by rw [List.length_append, lq]; rfl⟩⟩
      · rw [hU.len]
        exact small1000 (by omega)
      · intro b o hb
        rw [upd_ne (ne_of_none hb nD2)]
        exact S4 _ _ (S2 _ _ hb)
    obtain ⟨S2, ws, qs, hD2, hU, lq⟩ := hP
    have S12 := Same.trans S1 S2
    have hL2 := S2 _ _ hL1
    have hks2 := hks1.same S2
    refine ⟨.ref LK, rfl, LK, us, rfl, .inl (sqOf hL2), _, rfl, by omega, by omega, fun D3 nD3 => ?_⟩
    have lq : qs.length = ks.length := by rw [lq, lu]
    have rd : ∀ k, k < ks.length → ∃ (t t2 : Addr) (h l2 r : Str) (L L2 : Addr), us[k]? = some (.ref t) ∧ H2 t = some (.tup [.str h, .int ((ks.map Nd.w).getD k 0), .str l2, .ref L]) ∧ ws[k]? = some (.ref t2) ∧ H2 t2 = some (.tup [.str r, .str ((qs.map Pp.l).getD k ""), .ref L2]) := fun k hk => by
      have hk2 : k < qs.length := by omega
      obtain ⟨v1, e1, g1⟩ := hks2.get (List.getElem?_eq_getElem hk)
      obtain ⟨v2, e2, g2⟩ := hU.get (List.getElem?_eq_getElem hk2)
      obtain ⟨t, L, _, rfl, _, ht, _⟩ := g1.ref
      obtain ⟨t2, L2, _, rfl, _, ht2, _⟩ := g2.ref
      refine ⟨t, t2, ks[k].h, ks[k].l, qs[k].r, L, L2, e1, ?_, e2, ?_⟩
      · rw [ht, List.getD_eq_getElem?_getD, List.getElem?_map, List.getElem?_eq_getElem hk]
        rfl
      · rw [ht2, List.getD_eq_getElem?_getD, List.getElem?_map, List.getElem?_eq_getElem hk2]
        rfl
    refine lc_G (walk_range (lo := 0) (n := ((us.length : Nat) : Int).toNat)) (i := 10) (List.range ks.length) (fun (k : Nat) => V.int (k : Int)) (fun k => !decide ((qs.map Pp.l).getD k "" = l)) (fun k => .int ((ks.map Nd.w).getD k 0)) (by rw [List.length_range]; omega) nD3 (by omega) (fun k x H3 H4 hk hy => ?_) (fun _ _ => trivial) (fun _ => rfl) (fun k hk H3 S3 R h => ?_) (fun k hk _ H3 S3 R h => ?_) (fun H3 S3 hD3 => ?_)
    · have hk : k < ks.length := by omega
      exact yRange_val k x H3 H4 hk hy
    · obtain ⟨t, t2, hh, l2, r, L, L2, e1, ht, e2, ht2⟩ := rd k (List.mem_range.mp hk)
      refine ⟨.ref D2, rfl, .int (k : Int), rfl, D2, ws, k, .ref t2, rfl, rfl, sqOf (S3 _ _ hD2), atI_nat e2, t2, _, 1, _, rfl, rfl, .inl (.inl (S3 _ _ ht2)), atI_nat (j := 1) rfl, .str l, rfl, rfl, _, rfl, ?_⟩
      rw [str_dec]
      exact h
    · obtain ⟨t, t2, hh, l2, r, L, L2, e1, ht, e2, ht2⟩ := rd k (List.mem_range.mp hk)
      exact ⟨.ref LK, rfl, .int (k : Int), rfl, LK, us, k, .ref t, rfl, rfl, sqOf (S3 _ _ hL2), atI_nat e1, t, _, 1, _, rfl, rfl, .inl (.inl (S3 _ _ ht)), atI_nat (j := 1) rfl, h H3 (Same.refl _)⟩
    have S13 := Same.trans S12 S3
    have B3 := hB.same S13
    have b3 : But p H H3 := Same.but S13
    rw [show (fun k => V.int ((ks.map Nd.w).getD k 0)) = V.int ∘ (fun k => (ks.map Nd.w).getD k 0) from rfl, ← List.map_map] at hD3
    refine ⟨D3, _, rfl, sqOf hD3, ?_⟩
    refine ⟨.ref p, rfl, p, 6, rfl, B3, by decide, fun y H4 y0 y1 B4 b4 => ?_⟩
    have b04 := b3.trans b4
    have es := sumOf_sum (ks.map Nd.w)
    refine ⟨.int y, rfl, rfl, _, rfl, ite2 (fun _ => ?_) (fun _ => ?_)⟩
    · exact ⟨_, rfl, q _ H4 (by omega) B4 b04⟩
    refine ⟨.int y, rfl, y, 4, rfl, rfl, _, rfl, ite2 (fun c2 => ⟨.int sh, rfl, sh, 0, rfl, rfl, _, rfl, ite2 (fun c3 => ?_) (fun c3 => ?_)⟩) (fun c2 => ?_)⟩
    · have hs0 : 0 < sh := of_decide_eq_true c3
      refine ⟨_, rfl, _, rfl, 100, _, rfl, rfl, .inl ⟨by decide, by decide⟩, .int sh, rfl, _, sh, rfl, rfl, ⟨hs0, ?_⟩, .int y, rfl, _, y, rfl, rfl, _, 2, rfl, rfl, _, _, rfl, q _ H4 ?_ B4 b04⟩
      · have := Nat.log2_le_self sh.natAbs
        omega
      · split <;> omega
    all_goals
      refine ⟨.int y, rfl, rfl, _, rfl, ite2 (fun _ => ?_) (fun _ => ?_)⟩
      · exact ⟨_, rfl, .ref p, rfl, p, 5, rfl, B4, by decide, fun x H5 x0 x1 B5 b5 => ⟨_, x, rfl, rfl, q _ H5 (by omega) B5 (b04.trans b5)⟩⟩
      · exact ⟨_, rfl, .ref p, rfl, p, rfl, B4, fun x H5 x0 B5 b5 => ⟨_, x, rfl, rfl, q _ H5 (by omega) B5 (b04.trans b5)⟩⟩
end
end Tb
namespace Tb
open PySem PySem.Spec PyProof.Rows L2
abbrev sNode : Stmt := topS 32
abbrev NNode : List Str := ["box", "menus", "left", "levels", "kids", "wide", "k", "heading", "land"]
theorem scNode : FnScope NNode ["box", "menus", "left", "levels"] (defScope sNode) := ⟨rfl, rfl, rfl, by decide +kernel, rfl, by decide +kernel, by decide +kernel⟩
/-- all but two stays -/
def But2 (p F : Addr) (H H' : Hp) : Prop := ∀ b o, H b = some o → b ≠ p → b ≠ F → H' b = some o
theorem But2.refl (p F : Addr) (H : Hp) : But2 p F H H := fun _ _ h _ _ => h
theorem But2.trans {p F : Addr} {H H1 H2 : Hp} (a : But2 p F H H1) (b : But2 p F H1 H2) : But2 p F H H2 := fun c o h n m => b c o (a c o h n m) n m
theorem But.but2 {p F : Addr} {H H' : Hp} (h : But p H H') : But2 p F H H' := fun b o e n _ => h b o e n
theorem But2.upd {p F D : Addr} {H H' : Hp} {o : HO} (h : But2 p F H H') (nD : H D = none) : But2 p F H (upd H' D o) := fun b u e n m => by
  rw [upd_ne (ne_of_none e nD)]
  exact h b u e n m
theorem But2.updF {p F : Addr} {H H' : Hp} {o : HO} (h : But2 p F H H') : But2 p F H (L2.upd H' F o) := fun b u e n m => by
  rw [upd_ne m]
  exact h b u e n m
def IntAt (H : Hp) (F : Addr) : Prop := ∃ x : Int, H F = some (.lst [.int x])
theorem But2.kp {p F : Addr} {H H' : Hp} (B : Box H p) (f : IntAt H F) (h : But2 p F H H') : Kp H H' := fun b o e n => by
  refine h b o e (fun z => n (B.intl (z ▸ e))) fun z => n ?_
  obtain ⟨x, hx⟩ := f
  rw [z, hx] at e
  cases e
  exact ⟨x, [], rfl⟩
theorem But2.none {p F : Addr} {H H' : Hp} (B : Box H' p) (f : IntAt H' F) (h : But2 p F H H') {b : Addr} (e : H' b = none) : H b = none := by
  cases e2 : H b with
  | none => rfl
  | some o =>
    exfalso
    by_cases c : b = p
    · obtain ⟨_, _, _, _, hp, _⟩ := B
      rw [c, hp] at e
      cases e
    by_cases c2 : b = F
    · obtain ⟨x, hx⟩ := f
      rw [c2, hx] at e
      cases e
    rw [h b o e2 c c2] at e
    cases e
theorem Box.upd {H : Hp} {p F : Addr} {o : HO} (B : Box H p) (h : F ≠ p) : Box (upd H F o) p := by
  obtain ⟨r, a, b, c, hp, rest⟩ := B
  exact ⟨r, a, b, c, by rw [upd_ne (Ne.symm h)]; exact hp, rest⟩
theorem Box.off {H : Hp} {p D : Addr} (B : Box H p) (h : H D = none) : D ≠ p := fun e => by
  obtain ⟨_, _, _, _, hp, _⟩ := B
  rw [e, hp] at h
  cases h
theorem IntAt.off {H : Hp} {p D : Addr} (B : IntAt H p) (h : H D = none) : D ≠ p := fun e => by
  obtain ⟨_, hp⟩ := B
  rw [e, hp] at h
  cases h
theorem Box.int {H : Hp} {p F : Addr} (B : Box H p) (f : IntAt H F) : F ≠ p := fun e => by
  obtain ⟨_, _, _, _, hp, _⟩ := B
  obtain ⟨x, hx⟩ := f
  rw [e, hp] at hx
  cases hx
/-- the menus -/
structure Menus (H : Hp) (M : Addr) (LA LE : Addr) (las les : List Str) (s z : Int) : Prop where
  m : H M = some (.lst [.ref LA, .ref LE, .int s, .int z])
  a : Lns H LA las
  e : Leads H LE les
  s0 : 0 ≤ s
  s1 : s ≤ 100
  z0 : 0 ≤ z
  z1 : z ≤ 1
theorem Menus.kp {H H' : Hp} {M LA LE : Addr} {las les : List Str} {s z : Int} (h : Menus H M LA LE las les s z) (k : Kp H H') : Menus H' M LA LE las les s z :=
  ⟨k _ _ h.m (fun ⟨_, _, e⟩ => by cases e), h.a.kp k, h.e.kp k, h.s0, h.s1, h.z0, h.z1⟩
theorem NdsAt.kp {S : AS} {H H' : Hp} {n : List Nd} {v : List V} (h : NdsAt S H n v) (k : Kp H H') : NdsAt S H' n v := NdsAt.go (fun b o z e ni => ⟨z, k b o e ni⟩) h
theorem Nd.ds_le : ∀ {qs : List Nd} {m : Nat}, (∀ q ∈ qs, q.d ≤ m) → Nd.ds qs ≤ m
  | [], m, _ => Nat.zero_le _
  | q :: qs, m, h => Nat.max_le.mpr ⟨h q (List.mem_cons_self ..), Nd.ds_le fun x hx => h x (List.mem_cons_of_mem _ hx)⟩
theorem Nd.ok_w {n : Nd} (h : n.ok) : 0 ≤ n.w := by
  cases n
  exact h.2.2.1
theorem sum_w : ∀ {ks : List Nd}, (∀ k ∈ ks, k.ok) → 0 ≤ sumOf (ks.map Nd.w)
  | [], _ => Int.le_refl _
  | k :: ks, h => Int.add_nonneg (Nd.ok_w (h k (List.mem_cons_self ..))) (sum_w fun x hx => h x (List.mem_cons_of_mem _ hx))
section
variable {P : Program} {w : World} {K : PySem.W.Frag} {mg : Str → Option Value} {base : Heap}
abbrev CSize (P : Program) (w : World) (K : PySem.W.Frag) (mg : Str → Option Value) (base : Heap) (d : Nat) (g : Addr) (gd : FuncData) := C1 P w K mg base "_law_size" sSize ["node"] (1 + d) (spSize d) g gd
abbrev CHeading (P : Program) (w : World) (K : PySem.W.Frag) (mg : Str → Option Value) (base : Heap) (g : Addr) (gd : FuncData) := C1 P w K mg base "_law_heading" sHeading ["box", "leads"] 3 spHeading g gd
abbrev CWorth (P : Program) (w : World) (K : PySem.W.Frag) (mg : Str → Option Value) (base : Heap) (d : Nat) (g : Addr) (gd : FuncData) := C1 P w K mg base "_law_worth" sWorth ["box", "heading", "land", "kids", "share"] (3 + d) (spWorth d) g gd
def spNode (lev : Nat) : Sp := fun vs H Q _ => ∃ (p M F LA LE : Addr) (las les : List Str) (s z : Int), vs = [.ref p, .ref M, .ref F, .int (lev : Int)] ∧ lev ≤ 8 ∧ Box H p ∧ IntAt H F ∧ Menus H M LA LE las les s z ∧
  ∀ (n : Nd) (v : V) (H' : Hp), NdAt (fun b => H b = none) H' n v → n.ok → n.d ≤ lev + 1 → Box H' p → IntAt H' F → But2 p F H H' → Q v H'
def spRec : Nat → Sp
  | 0 => fun _ _ _ _ => False
  | l + 1 => spNode l
abbrev CNode (P : Program) (w : World) (K : PySem.W.Frag) (mg : Str → Option Value) (base : Heap) (k : Nat) (sp : Sp) (g : Addr) (gd : FuncData) := C1 P w K mg base "_law_node" sNode ["box", "menus", "left", "levels"] k sp g gd
theorem node_step {f g1 g2 g3 g4 g5 : Addr} {fd d1 d2 d3 d4 d5 : FuncData} {k : Nat} (hk : 13 ≤ k) (F0 : Fun K "_law_node" "_law_node" sNode f fd) (cDraw : CDraw P w K mg base g1 d1) (cSize : CSize P w K mg base 9 g2 d2) (cHeading : CHeading P w K mg base g3 d3) (cAmount : CAmount P w K mg base g4 d4) (cWorth : CWorth P w K mg base 9 g5 d5) (B : Blt mg) {lev : Nat}
    (cNode : CNode P w K mg base k (spRec lev) f fd) : FnOk P w K mg base CX0 (k + 1) f fd ["box", "menus", "left", "levels"] (spNode lev) := by
  refine F0.ok scNode (fun vs H Q E h => ?_) (fun cdv A outer s H vs Q E hr h => ?_)
  · obtain ⟨p, M, F, LA, LE, las, les, s, z, rfl, _⟩ := h
    rfl
  · obtain ⟨p, M, F, LA, LE, las, les, sh, z, rfl, l8, hB, hF, hM, q⟩ := h
    refine ⟨_, (pss_cons (ps_set (i := 4) scNode.nd rfl (.inl rfl) (pe_lst pa_nil))
      (pss_cons (ps_set (i := 5) scNode.nd rfl (.inl rfl) pe_int)
      (C8.pss_cut (ps_if (pt_cmpR op_gt (pv 3) pe_int (nomark _))
        (pss_cons (ps_set (i := 5) scNode.nd rfl (.inl rfl) (pe_op op_add (pe_ix ix_list (pv 1) pe_int (fun _ _ => rfl)) (pe_call cDraw.G (hr.mono (by first | decide | omega)) (by rfl) cDraw.D.g cDraw.D.F.kp cDraw.D.b .nil pass0 (pa_cons (pv 0) (pa_cons pe_int pa_nil)))))
        (pss_one (ps_if (pt_cmpR op_eq (pe_call cDraw.G (hr.mono (by first | decide | omega)) (by rfl) cDraw.D.g cDraw.D.F.kp cDraw.D.b .nil pass0 (pa_cons (pv 0) (pa_cons pe_int pa_nil))) pe_int (nomark _))
          (pss_one (ps_set (i := 5) scNode.nd rfl (.inl rfl) (pe_op op_add (pv 5) (pe_call cDraw.G (hr.mono (by first | decide | omega)) (by rfl) cDraw.D.g cDraw.D.F.kp cDraw.D.b .nil pass0 (pa_cons (pv 0) (pa_cons pe_int pa_nil))))))
          pss_nil)))
        pss_nil)
      (pss_cons (ps_for PassesOwn.never rfl (pi_range1 (by rfl) B.range (pa_cons (pv 5) pa_nil)) (pg_name (i := 6) scNode.nd rfl (.inl rfl))
        (pss_one (ps_ifJ (PW.pt (pw_and (pt_cmpR op_gt (pe_ix ix_list (pv 2) pe_int (fun _ _ => rfl)) pe_int (nomark _)) (pw_and (pt_cmpR op_gt (pe_callB call_len_seq (by rfl) B.len PySem.boot_len (pa_cons (pv 4) pa_nil)) pe_int (nomark _)) (pw_and (pt_cmpR op_eq (pe_call cDraw.G (hr.mono (by first | decide | omega)) (by rfl) cDraw.D.g cDraw.D.F.kp cDraw.D.b .nil pass0 (pa_cons (pv 0) (pa_cons pe_int pa_nil))) pe_int (nomark _)) (pw_and1 (pt_cmpR op_le (pe_call cSize.G (hr.mono (by first | decide | omega)) (by rfl) cSize.D.g cSize.D.F.kp cSize.D.b .nil pass0 (pa_cons (pe_ix ix_list (pv 4) (pe_un un_neg pe_int) (fun _ _ => rfl)) pa_nil)) (pe_ix ix_list (pv 2) pe_int (fun _ _ => rfl)) (nomark _)))))))
          (pss_cons (ps_asg (pe_op op_sub (pe_ix ix_list (pv 2) pe_int (fun _ _ => rfl)) (pe_call cSize.G (hr.mono (by first | decide | omega)) (by rfl) cSize.D.g cSize.D.F.kp cSize.D.b .nil pass0 (pa_cons (pe_ix ix_list (pv 4) (pe_un un_neg pe_int) (fun _ _ => rfl)) pa_nil))) (pg_sub (pv 2) pe_int set_list))
          (pss_one (ps_expr (pe_bm PySem.F.plainAttrs_list PySem.F.slot_list_append PySem.F.type_list_append mt_append (pv 4) (pa_cons (pe_ix ix_list (pv 4) (pe_un un_neg pe_int) (fun _ _ => rfl)) pa_nil)))))
          (pss_one (ps_if (pt_cmpR op_gt (pe_ix ix_list (pv 2) pe_int (fun _ _ => rfl)) pe_int (nomark _))
            (pss_cons (ps_asg (pe_op op_sub (pe_ix ix_list (pv 2) pe_int (fun _ _ => rfl)) pe_int) (pg_sub (pv 2) pe_int set_list))
            (pss_one (ps_expr (pe_bm PySem.F.plainAttrs_list PySem.F.slot_list_append PySem.F.type_list_append mt_append (pv 4) (pa_cons (pe_call cNode.G (hr.mono (by first | decide | omega)) (by rfl) cNode.D.g cNode.D.F.kp cNode.D.b .nil pass0 (pa_cons (pv 0) (pa_cons (pv 1) (pa_cons (pv 2) (pa_cons (pe_op op_sub (pv 3) pe_int) pa_nil))))) pa_nil)))))
            pss_nil)))))
      (pss_cons (ps_set (i := 7) scNode.nd rfl (.inl rfl) (pe_call cHeading.G (hr.mono (by first | decide | omega)) (by rfl) cHeading.D.g cHeading.D.F.kp cHeading.D.b .nil pass0 (pa_cons (pv 0) (pa_cons (pe_ix ix_list (pv 1) pe_int (fun _ _ => rfl)) pa_nil))))
      (pss_cons (ps_set (i := 8) scNode.nd rfl (.inl rfl) (pe_ix ix_list (pe_ix ix_list (pv 1) pe_int (fun _ _ => rfl)) (pe_call cDraw.G (hr.mono (by first | decide | omega)) (by rfl) cDraw.D.g cDraw.D.F.kp cDraw.D.b .nil pass0 (pa_cons (pv 0) (pa_cons (pe_callB call_len_seq (by rfl) B.len PySem.boot_len (pa_cons (pe_ix ix_list (pv 1) pe_int (fun _ _ => rfl)) pa_nil)) pa_nil))) (fun _ _ => rfl)))
      (pss_cons (ps_if (pt_cmpR op_eq (pe_callB call_len_seq (by rfl) B.len PySem.boot_len (pa_cons (pv 4) pa_nil)) pe_int (nomark _))
        (pss_one (ps_ret (pe_tup (pa_cons (pv 7) (pa_cons (pe_call cAmount.G (hr.mono (by first | decide | omega)) (by rfl) cAmount.D.g cAmount.D.F.kp cAmount.D.b .nil pass0 (pa_cons (pv 0) pa_nil)) (pa_cons (pv 8) (pa_cons (pe_lst pa_nil) pa_nil)))))))
        pss_nil)
      (pss_one (ps_ret (pe_tup (pa_cons (pv 7) (pa_cons (pe_call cWorth.G (hr.mono (by first | decide | omega)) (by rfl) cWorth.D.g cWorth.D.F.kp cWorth.D.b .nil pass0 (pa_cons (pv 0) (pa_cons (pv 7) (pa_cons (pv 8) (pa_cons (pv 4) (pa_cons (pe_ix ix_list (pv 1) pe_int (fun _ _ => rfl)) pa_nil)))))) (pa_cons (pv 8) (pa_cons (pv 4) pa_nil)))))))))))))), ?_⟩
    have hz : sizeLine = 16777216 := rfl
    refine ⟨by show 0 ≤ sizeLine; decide, fun D nD => ?_⟩
    have hDp := hB.off nD
    have hDF := hF.off nD
    have S0 : Same H (upd H D (.lst [])) := same_upd nD
    refine ⟨fun σ H1 => ∃ wd : Int, σ = [some (.ref p), some (.ref M), some (.ref F), some (.int (lev : Int)), some (.ref D), some (.int wd), none, none, none] ∧ 0 ≤ wd ∧ wd ≤ 8 ∧ (lev = 0 → wd = 0) ∧ Box H1 p ∧ But p (upd H D (.lst [])) H1, ?_, ?_⟩
    · refine ⟨.int (lev : Int), rfl, _, 0, rfl, rfl, _, rfl, ite2 (fun c => ?_) (fun c => ?_)⟩
      · have hl0 : lev ≠ 0 := fun e => by
          have := of_decide_eq_true c
          omega
        have M1 := hM.kp (Same.kp S0)
        refine ⟨.ref M, rfl, M, _, 3, .int z, rfl, rfl, sqOf M1.m, atI_nat (j := 3) rfl, .ref p, rfl, p, 4, rfl, hB.same S0, by decide, fun y H2 y0 y1 B2 b2 => ⟨_, y, rfl, rfl, .ref p, rfl, p, 8, rfl, B2, by decide, fun y2 H3 _ _ B3 b3 => ⟨rfl, _, rfl, ite2 (fun c2 => ?_) (fun c2 => ?_)⟩⟩⟩
        · exact ⟨_, rfl, .ref p, rfl, p, 5, rfl, B3, by decide, fun y3 H4 u0 u1 B4 b4 => ⟨_, y3, rfl, rfl, _, rfl, by have := hM.z0; omega, by have := hM.z1; omega, fun e => absurd e hl0, B4, (b2.trans b3).trans b4⟩⟩
        · exact ⟨_, rfl, by have := hM.z0; omega, by have := hM.z1; omega, fun e => absurd e hl0, B3, b2.trans b3⟩
      · exact ⟨0, rfl, Int.le_refl _, by decide, fun _ => rfl, hB.same S0, But.refl _ _⟩
    · rintro σ H1 ⟨wd, rfl, w0, w1, wz, B1, b1⟩
      refine ⟨.int wd, rfl, wd, rfl, by omega, by omega, ?_⟩
      have F0' : IntAt H1 F := by
        obtain ⟨x, hx⟩ := hF
        exact ⟨x, b1 _ _ (S0 _ _ hx) (hB.int ⟨x, hx⟩)⟩
      have hD1 : H1 D = some (.lst []) := b1 _ _ upd_same hDp
      have b01 : But2 p F H H1 := (Same.but S0 : But p H _).trans b1 |>.but2
      refine for_range (lo := 0) (n := wd.toNat) (fun i σ H1 => ∃ (y6 : Option V) (vs : List V) (ks : List Nd), σ = [some (.ref p), some (.ref M), some (.ref F), some (.int (lev : Int)), some (.ref D), some (.int wd), y6, none, none] ∧ Box H1 p ∧ IntAt H1 F ∧ But2 p F H H1 ∧ H1 D = some (.lst vs) ∧ NdsAt (fun b => H b = none ∧ b ≠ D) H1 ks vs ∧ ks.length ≤ i ∧ ∀ k ∈ ks, k.ok ∧ k.d ≤ lev) ⟨none, [], [], rfl, B1, F0', b01, hD1, rfl, Nat.le_refl _, fun _ h => by cases h⟩ ?_ ?_
      · rintro i σ H2 hi ⟨y6, vs, ks, rfl, B2, F2, b2, hD2, hU2, lk, hall⟩
        have hi8 : i < 8 := by omega
        have lv := hU2.len
        refine ⟨fun H3 => Box H3 p ∧ IntAt H3 F ∧ But2 p F H H3 ∧ H3 D = some (.lst vs) ∧ NdsAt (fun b => H b = none ∧ b ≠ D) H3 ks vs, ?_, ?_⟩
        · obtain ⟨x, hx⟩ := F2
          have F2' : IntAt H2 F := ⟨x, hx⟩
          refine ⟨.ref F, rfl, F, _, 0, .int x, rfl, rfl, sqOf hx, atI_nat (j := 0) rfl, x, 0, rfl, rfl, _, rfl, ite2 (fun c => ?_) (fun c => ⟨B2, ⟨x, hx⟩, b2, hD2, hU2⟩)⟩
          refine ⟨.ref D, rfl, D, vs, rfl, .inl (sqOf hD2), _, _, rfl, rfl, _, rfl, ite2 (fun c2 => ?_) (fun c => ⟨B2, ⟨x, hx⟩, b2, hD2, hU2⟩)⟩
          have hpos : 0 < vs.length := by have := of_decide_eq_true c2; omega
          refine ⟨.ref p, rfl, p, 4, rfl, B2, by decide, fun y H3 y0 y1 B3 b3 => ?_⟩
          have k3 := But.kp B2 b3
          have hD3 := b3 _ _ hD2 hDp
          have hU3 := hU2.kp k3
          have hx3 := b3 _ _ hx (hB.int hF)
          have b03 := b2.trans b3.but2
          obtain ⟨kl, el, gl⟩ := hU3.at (List.getElem?_eq_getElem (show vs.length - 1 < vs.length by omega))
          have ml := List.mem_of_getElem? el
          refine ⟨rfl, _, rfl, ite2 (fun c3 => ?_) (fun c => ⟨B3, ⟨x, hx3⟩, b03, hD3, hU3⟩)⟩
          refine ⟨.ref D, rfl, 1, rfl, D, vs, -1, _, rfl, rfl, sqOf hD3, at_last hpos, _, kl, _, rfl, gl, (hall kl ml).1, by have := (hall kl ml).2; omega, fun H4 S4 => ?_⟩
          have hD4 := S4 _ _ hD3
          have hx4 := S4 _ _ hx3
          have b04 : But2 p F H H4 := b03.trans (Same.but S4).but2
          refine ⟨.ref F, rfl, F, _, 0, .int x, rfl, rfl, sqOf hx4, atI_nat (j := 0) rfl, _, x, rfl, rfl, _, rfl, ite2 (fun c4 => ?_) (fun c => ⟨B3.same S4, ⟨x, hx4⟩, b04, hD4, hU3.same S4⟩)⟩
          have gl4 := gl.same S4
          refine ⟨.ref F, rfl, F, _, 0, .int x, rfl, rfl, sqOf hx4, atI_nat (j := 0) rfl, .ref D, rfl, 1, rfl, D, vs, -1, _, rfl, rfl, sqOf hD4, at_last hpos, _, kl, _, rfl, gl4, (hall kl ml).1, by have := (hall kl ml).2; omega, fun H5 S5 => ?_⟩
          have hD5 := S5 _ _ hD4
          have hx5 := S5 _ _ hx4
          refine ⟨x, _, rfl, rfl, .ref F, rfl, F, _, 0, 0, rfl, rfl, hx5, rfl, ?_⟩
          have hD6 : ∀ {o : HO}, upd H5 F o D = some (.lst vs) := fun {o} => by rw [upd_ne hDF]; exact hD5
          refine ⟨.ref D, rfl, .inl ⟨rfl, _, sqOf hD6⟩, .ref D, rfl, 1, rfl, D, vs, -1, _, rfl, rfl, sqOf hD6, at_last hpos, D, vs, _, rfl, rfl, hD6, small1000 (by omega), ?_⟩
          have B5 : Box H5 p := (B3.same S4).same S5
          refine ⟨_, _, ks ++ [kl], rfl, (B5.upd (hB.int hF)).upd hDp, ⟨_, by rw [upd_ne (Ne.symm hDF)]; exact upd_same⟩, ((b04.trans (Same.but S5).but2).updF).upd nD, upd_same, ?_, by rw [List.length_append]; show ks.length + 1 ≤ i + 1; omega, fun k hk => ?_⟩
          · have up : Ks (fun b => H b = none ∧ b ≠ D) (fun b => H b = none ∧ b ≠ D) H5 (upd (upd H5 F (.lst (([V.int x]).set 0 (.int (x - kl.sz))))) D (.lst (vs ++ [vs[vs.length - 1]]))) := fun b o z e ni => ⟨z, by
              rw [upd_ne z.2, upd_ne (fun e2 => ni ⟨x, [], by rw [e2, hx5] at e; exact (Option.some.inj e).symm⟩)]
              exact e⟩
            exact NdsAt.snoc (NdsAt.go up ((hU3.same S4).same S5)) (NdAt.go up (gl4.same S5))
          · rcases List.mem_append.mp hk with z | z
            · exact hall k z
            · rw [List.mem_singleton.mp z]
              exact hall kl ml
        · rintro H3 ⟨B3, ⟨x, hx⟩, b3, hD3, hU3⟩
          obtain ⟨l, rfl⟩ : ∃ l, lev = l + 1 := ⟨lev - 1, by
            have : lev ≠ 0 := fun e => by
              rw [wz e] at hi
              exact absurd hi (Nat.not_lt_zero _)
            omega⟩
          refine ⟨.ref F, rfl, F, _, 0, .int x, rfl, rfl, sqOf hx, atI_nat (j := 0) rfl, x, 0, rfl, rfl, _, rfl, ite2 (fun c => ?_) (fun c => ⟨_, vs, ks, rfl, B3, ⟨x, hx⟩, b3, hD3, hU3, by omega, hall⟩)⟩
          refine ⟨.ref F, rfl, F, _, 0, .int x, rfl, rfl, sqOf hx, atI_nat (j := 0) rfl, x, 1, rfl, rfl, .ref F, rfl, F, _, 0, 0, rfl, rfl, hx, rfl, ?_⟩
          generalize eH4 : upd H3 F _ = H4
          have hD4 : H4 D = some (.lst vs) := by rw [← eH4, upd_ne hDF]; exact hD3
          have B4 : Box H4 p := by rw [← eH4]; exact B3.upd (hB.int hF)
          have F4 : IntAt H4 F := by rw [← eH4]; exact ⟨_, upd_same⟩
          have b4 : But2 p F H H4 := by rw [← eH4]; exact b3.updF
          have up : Ks (fun b => H b = none ∧ b ≠ D) (fun b => H b = none ∧ b ≠ D) H3 H4 := fun b o z e ni => ⟨z, by
            rw [← eH4, upd_ne (fun e2 => ni ⟨x, [], by rw [e2, hx] at e; exact (Option.some.inj e).symm⟩)]
            exact e⟩
          have hU4 := NdsAt.go up hU3
          refine ⟨.ref D, rfl, .inl ⟨rfl, _, sqOf hD4⟩, .ref p, rfl, .ref M, rfl, .ref F, rfl, .int ((l + 1 : Nat) : Int), rfl, _, 1, rfl, rfl, ?_⟩
          refine ⟨p, M, F, LA, LE, las, les, sh, z, ?_, by omega, B4, F4, hM.kp (b4.kp hB hF), fun n v H5 hn nok nd B5 F5 b5 => ?_⟩
          · show [V.ref p, .ref M, .ref F, .int (((l + 1 : Nat) : Int) - 1)] = [V.ref p, .ref M, .ref F, .int (l : Int)]
            rw [show ((l + 1 : Nat) : Int) - 1 = (l : Int) by omega]
          have hFD : H4 D ≠ none := some_ne hD4
          have hD5 : H5 D = some (.lst vs) := b5 _ _ hD4 hDp hDF
          have b05 := b4.trans b5
          refine ⟨D, vs, v, rfl, rfl, hD5, small1000 (by omega), _, _, ks ++ [n], rfl, B5.upd hDp, ?_, b05.upd nD, upd_same, ?_, by rw [List.length_append]; show ks.length + 1 ≤ i + 1; omega, fun k hk => ?_⟩
          · obtain ⟨x5, hx5⟩ := F5
            exact ⟨x5, by rw [upd_ne (Ne.symm hDF)]; exact hx5⟩
          · refine NdsAt.snoc (NdsAt.go (fun b o z e _ => ⟨z, by rw [upd_ne z.2]; exact e⟩) (hU4.kp (b5.kp B4 F4))) (NdAt.go (fun b o z e _ => ?_) hn)
            have hb : b ≠ D := fun e2 => hFD (by rw [← e2]; exact z)
            exact ⟨⟨b4.none B4 F4 z, hb⟩, by rw [upd_ne hb]; exact e⟩
          · rcases List.mem_append.mp hk with z | z
            · exact hall k z
            · rw [List.mem_singleton.mp z]
              exact ⟨nok, nd⟩
      · rintro σ H2 ⟨y6, vs, ks, rfl, B2, F2, b2, hD2, hU2, lk, hall⟩
        have k8 : ks.length ≤ 8 := by omega
        have lv := hU2.len
        have M2 := hM.kp (b2.kp hB hF)
        refine ⟨.ref p, rfl, .ref M, rfl, M, _, 1, .ref LE, rfl, rfl, sqOf M2.m, atI_nat (j := 1) rfl, p, LE, les, rfl, B2, M2.e, fun hd H3 ad B3 b3 => ?_⟩
        have M3 := M2.kp (But.kp B2 b3)
        have hL3 := M3.a
        have n1 := hL3.n1
        have n2 := hL3.n2
        refine ⟨.ref M, rfl, M, _, 0, .ref LA, rfl, rfl, sqOf M3.m, atI_nat (j := 0) rfl, .ref p, rfl, .ref M, rfl, M, _, 0, .ref LA, rfl, rfl, sqOf M3.m, atI_nat (j := 0) rfl, LA, _, rfl, .inl (sqOf hL3.l), p, _, rfl, B3, by rw [List.length_map]; omega, fun y H4 y0 y1 B4 b4 => ?_⟩
        rw [List.length_map] at y1
        have yl : y.toNat < las.length := by omega
        have M4 := M3.kp (But.kp B3 b4)
        have nm := M4.a.d _ (List.getElem_mem yl)
        refine ⟨LA, _, y, .str las[y.toNat], rfl, rfl, sqOf M4.a.l, at_nat y0 (strs_at yl), ?_⟩
        generalize las[y.toNat] = la at nm
        have b24 := b3.trans b4
        have b04 := b2.trans b24.but2
        have k24 := (But.kp B2 b3).trans (But.kp B3 b4)
        have hD4 : H4 D = some (.lst vs) := b24 _ _ hD2 hDp
        have hU4 := hU2.kp k24
        have F4 : IntAt H4 F := by
          obtain ⟨x, hx⟩ := F2
          exact ⟨x, b24 _ _ hx (hB.int hF)⟩
        refine ⟨.ref D, rfl, D, vs, rfl, .inl (sqOf hD4), rfl, _, rfl, ite2 (fun c => ?_) (fun c => ?_)⟩
        · refine ⟨.str hd, rfl, .ref p, rfl, p, rfl, B4, fun am H5 am0 B5 b5 => ⟨.str la, rfl, by show 0 ≤ sizeLine; decide, fun L nL => ⟨by show 4 ≤ sizeLine; decide, fun t nt => ?_⟩⟩⟩
          have b05 := b04.trans b5.but2
          have F5 : IntAt H5 F := by
            obtain ⟨x, hx⟩ := F4
            exact ⟨x, b5 _ _ hx (hB.int hF)⟩
          have S7 : Same H5 (upd (upd H5 L (.lst [])) t (.tup [.str hd, .int am, .str la, .ref L])) := Same.trans (same_upd nL) (same_upd nt)
          refine q (.mk hd am la []) (.ref t) _ ⟨t, L, [], rfl, b05.none B5 F5 (same_none (same_upd nL) nt), upd_same, b05.none B5 F5 nL, same_upd nt _ _ upd_same, rfl⟩ ⟨ad, nm, am0, am0, by show 0 ≤ 8; decide, trivial⟩ (by show 0 + 1 ≤ _; omega) (B5.same S7) ?_ (b05.trans (Same.but S7).but2)
          obtain ⟨x, hx⟩ := F5
          exact ⟨x, S7 _ _ hx⟩
        · refine ⟨.str hd, rfl, .ref p, rfl, .str hd, rfl, .str la, rfl, .ref D, rfl, .ref M, rfl, M, _, 2, .int sh, rfl, rfl, sqOf M4.m, atI_nat (j := 2) rfl, ?_⟩
          have dk := Nd.ds_le fun k hk => (hall k hk).2
          refine ⟨p, D, hd, la, ks, vs, sh, _, rfl, B4, hD4, hU4, Nd.oks_of fun k hk => (hall k hk).1, k8, by omega, hM.s0, hM.s1, fun wz H5 hw B5 b5 => ⟨.str la, rfl, .ref D, rfl, by show 4 ≤ sizeLine; decide, fun t nt => ?_⟩⟩
          have b05 := b04.trans b5.but2
          have F5 : IntAt H5 F := by
            obtain ⟨x, hx⟩ := F4
            exact ⟨x, b5 _ _ hx (hB.int hF)⟩
          have hD5 : H5 D = some (.lst vs) := b5 _ _ hD4 hDp
          have hU5 := hU4.kp (But.kp B4 b5)
          have S7 : Same H5 (upd H5 t (.tup [.str hd, .int wz, .str la, .ref D])) := same_upd nt
          refine q (.mk hd wz la ks) (.ref t) _ ⟨t, D, vs, rfl, b05.none B5 F5 nt, upd_same, nD, S7 _ _ hD5, NdsAt.go (fun b o z e _ => ⟨z.1, S7 _ _ e⟩) hU5⟩ ⟨ad, nm, Int.le_trans (sum_w fun k hk => (hall k hk).1) hw, hw, k8, Nd.oks_of fun k hk => (hall k hk).1⟩ (by show Nd.ds ks + 1 ≤ _; omega) (B5.same S7) ?_ (b05.trans (Same.but S7).but2)
          obtain ⟨x, hx⟩ := F5
          exact ⟨x, S7 _ _ hx⟩
end
end Tb
namespace Tb
open PySem PySem.Spec PyProof.Rows L2
abbrev sMade : Stmt := topS 33
abbrev NMade : List Str := ["node", "way", "parts", "k"]
theorem scMade : FnScope NMade ["node", "way"] (defScope sMade) := ⟨rfl, rfl, rfl, by decide +kernel, rfl, by decide +kernel, by decide +kernel⟩
section
variable {P : Program} {w : World} {K : PySem.W.Frag} {mg : Str → Option Value} {base : Heap}
theorem ok_node {f g1 g2 g3 g4 g5 : Addr} {fd d1 d2 d3 d4 d5 : FuncData} (D0 : Dd K mg "_law_node" sNode ["box", "menus", "left", "levels"] f fd) (cDraw : CDraw P w K mg base g1 d1) (cSize : CSize P w K mg base 9 g2 d2) (cHeading : CHeading P w K mg base g3 d3) (cAmount : CAmount P w K mg base g4 d4) (cWorth : CWorth P w K mg base 9 g5 d5) (B : Blt mg) : ∀ lev, FnOk P w K mg base CX0 (14 + lev) f fd ["box", "menus", "left", "levels"] (spNode lev)
  | 0 => node_step (k := 13) (Nat.le_refl _) D0.F cDraw cSize cHeading cAmount cWorth B ⟨D0, ⟨fun _ _ _ _ h => h.elim, fun _ _ _ _ _ _ _ _ _ _ _ _ _ h => h.elim⟩⟩
  | lev + 1 => node_step (k := 14 + lev) (by omega) D0.F cDraw cSize cHeading cAmount cWorth B ⟨D0, ok_node D0 cDraw cSize cHeading cAmount cWorth B lev⟩
/-- the class Good, to be called -/
structure GoodC (P : Program) (w : World) (K : PySem.W.Frag) (mg : Str → Option Value) (base : Heap) (C fI t0 : Addr) (gdI : FuncData) (ds0 : List Value) : Prop where
  MK : Mk K C fI
  G : FnOk P w K mg base CX0 4 fI gdI ["self", "heading", "worth", "land", "parts"] (spInit K C)
  g : mg "Good" = some (.ref C)
  b : Binds K gdI ["self", "heading", "worth", "land", "parts"] []
  e0 : ∀ H, SqT K H t0 []
  vd : Vals [.ref t0] ds0
  bd : Binds K gdI ["self", "heading", "worth", "land", "parts"] ds0
variable {C fI t0 : Addr} {gdI : FuncData} {ds0 : List Value}
def spLMade (K : PySem.W.Frag) (C : Addr) (d : Nat) : Sp := fun vs H Q _ => ∃ (v : V) (n : Nd) (x : Int) (S : AS), vs = [v, .int x] ∧ NdAt S H n v ∧ n.ok ∧ n.d ≤ d ∧ ∀ (a : Addr) (H' : Hp), Same H H' → GdAt K C H' n (.ref a) → Q (.ref a) H'
theorem good_new {H : Hp} {x dx : Addr} (nx : H x = none) (ndx : H dx = none) (ne : dx ≠ x) : Same H (upd (upd H dx (.own x)) x (.ins C dx [])) :=
  (Same.trans (same_upd ndx) (same_upd (by rw [upd_ne (Ne.symm ne)]; exact nx)))
theorem good_bx {H H2 : Hp} {x dx : Addr} (nx : H x = none) (ndx : H dx = none) (ne : dx ≠ x) (b : Bx x (upd (upd H dx (.own x)) x (.ins C dx [])) H2) : Same H H2 := fun c o h => b c o (good_new nx ndx ne c o h) (ne_of_none h nx)
theorem ok_lmade {f : Addr} {fd : FuncData} (D0 : Dd K mg "_law_made" sMade ["node", "way"] f fd) (TG : GoodC P w K mg base C fI t0 gdI ds0) (B : Blt mg) : ∀ d, d ≤ 20 → FnOk P w K mg base CX0 (6 + d) f fd ["node", "way"] (spLMade K C d)
  | 0, _ => by
    refine D0.F.ok scMade (fun vs H Q E h => ?_) (fun cdv A outer s H vs Q E hr h => ?_)
    · obtain ⟨v, n, x, S, rfl, _⟩ := h
      rfl
    · obtain ⟨v, n, x, S, rfl, _, _, hd, _⟩ := h
      rw [Nd.d_eq] at hd
      exact absurd hd (by omega)
  | d + 1, hd20 => by
    have cMade : C1 P w K mg base "_law_made" sMade ["node", "way"] (6 + d) (spLMade K C d) f fd := ⟨D0, ok_lmade D0 TG B d (by omega)⟩
    refine D0.F.ok scMade (fun vs H Q E h => ?_) (fun cdv A outer s H vs Q E hr h => ?_)
    · obtain ⟨v, n, x, S, rfl, _⟩ := h
      rfl
    · obtain ⟨v, n, x, S, rfl, hv, hok, hd, q⟩ := h
      have hr : Room (6 + d) _ := hr
      obtain ⟨t, L, vs, rfl, _, ht, _, hL, hks⟩ := hv.ref
      have hd : Nd.ds n.ks + 1 ≤ d + 1 := by rw [← Nd.d_eq]; exact hd
      have l8 := Nd.ok_len hok
      have lv := hks.len
      have oks := Nd.ok_ks hok
      have hz : sizeLine = 16777216 := rfl
      refine ⟨_, (pss_cons (ps_set (i := 2) scMade.nd rfl (.inl rfl) (pe_lst pa_nil))
      (pss_cons (ps_for PassesOwn.never rfl (pi_range1 (by rfl) B.range (pa_cons (pe_callB call_len_seq (by rfl) B.len PySem.boot_len (pa_cons (pe_ix ix_tup (pv 0) pe_int (fun _ _ => rfl)) pa_nil)) pa_nil)) (pg_name (i := 3) scMade.nd rfl (.inl rfl))
        (pss_one (ps_ifJ (PW.pt (pw_and (pt_cmpR op_gt (pv 3) pe_int (nomark _)) (pw_and (pt_cmpR (op_eqD hr.units) (pe_ix ix_list (pe_ix ix_tup (pv 0) pe_int (fun _ _ => rfl)) (pv 3) (fun _ _ => rfl)) (pe_ix ix_list (pe_ix ix_tup (pv 0) pe_int (fun _ _ => rfl)) (pe_op op_sub (pv 3) pe_int) (fun _ _ => rfl)) (nomark _)) (pw_and1 (pt_cmpR op_lt (pv 1) pe_int (nomark _))))))
          (pss_one (ps_expr (pe_bm PySem.F.plainAttrs_list PySem.F.slot_list_append PySem.F.type_list_append mt_append (pv 2) (pa_cons (pe_ix ix_list (pv 2) (pe_un un_neg pe_int) (fun _ _ => rfl)) pa_nil))))
          (pss_one (ps_expr (pe_bm PySem.F.plainAttrs_list PySem.F.slot_list_append PySem.F.type_list_append mt_append (pv 2) (pa_cons (pe_call cMade.G (hr.mono (by first | decide | omega)) (by rfl) cMade.D.g cMade.D.F.kp cMade.D.b .nil pass0 (pa_cons (pe_ix ix_list (pe_ix ix_tup (pv 0) pe_int (fun _ _ => rfl)) (pv 3) (fun _ _ => rfl)) (pa_cons (pv 1) pa_nil))) pa_nil)))))))
      (pss_cons (ps_ifJ (PW.pt (pw_and (pt_cmpR op_eq (pe_callB call_len_seq (by rfl) B.len PySem.boot_len (pa_cons (pv 2) pa_nil)) pe_int (nomark _)) (pw_and1 (pt_cmpR op_lt (pe_op op_mod (pe_callTy call_int1 (by rfl) B.int PyProof.Rows.boot_int (pa_cons (pv 1) pa_nil)) pe_int) pe_int (nomark _)))))
        (pss_one (ps_ret (pe_make TG.MK TG.G (hr.mono (by first | decide | omega)) (by rfl) TG.g TG.bd TG.vd pass0 (pa_cons (pe_ix ix_tup (pv 0) pe_int (fun _ _ => rfl)) (pa_cons (pe_ix ix_tup (pv 0) pe_int (fun _ _ => rfl)) (pa_cons (pe_ix ix_tup (pv 0) pe_int (fun _ _ => rfl)) pa_nil))))))
        pss_nil)
      (pss_cons (ps_if (pt_cmpR op_eq (pe_op op_mod (pe_callTy call_int1 (by rfl) B.int PyProof.Rows.boot_int (pa_cons (pv 1) pa_nil)) pe_int) pe_int (nomark _))
        (pss_one (ps_ret (pe_make TG.MK TG.G (hr.mono (by first | decide | omega)) (by rfl) TG.g TG.b .nil pass0 (pa_cons (pe_ix ix_tup (pv 0) pe_int (fun _ _ => rfl)) (pa_cons (pe_ix ix_tup (pv 0) pe_int (fun _ _ => rfl)) (pa_cons (pe_ix ix_tup (pv 0) pe_int (fun _ _ => rfl)) (pa_cons (pe_callTy call_tuple_of (by rfl) B.tuple PyProof.Rows.boot_tuple (pa_cons (pv 2) pa_nil)) pa_nil)))))))
        pss_nil)
      (pss_one (ps_ret (pe_make TG.MK TG.G (hr.mono (by first | decide | omega)) (by rfl) TG.g TG.b .nil pass0 (pa_cons (pe_ix ix_tup (pv 0) pe_int (fun _ _ => rfl)) (pa_cons (pe_ix ix_tup (pv 0) pe_int (fun _ _ => rfl)) (pa_cons (pe_ix ix_tup (pv 0) pe_int (fun _ _ => rfl)) (pa_cons (pv 2) pa_nil))))))))))), ?_⟩
      refine ⟨by show 0 ≤ sizeLine; decide, fun D nD => ?_⟩
      have S0 : Same H (upd H D (.lst [])) := same_upd nD
      refine ⟨.ref t, rfl, t, _, 3, .ref L, rfl, rfl, .inl (.inl (S0 _ _ ht)), atI_nat (j := 3) rfl, L, vs, rfl, .inl (sqOf (S0 _ _ hL)), _, rfl, by omega, by omega, ?_⟩
      refine for_range (lo := 0) (n := ((vs.length : Nat) : Int).toNat) (fun i σ H1 => ∃ (y3 : Option V) (us : List V), σ = [some (.ref t), some (.int x), some (.ref D), y3] ∧ Same H H1 ∧ H1 D = some (.lst us) ∧ GdsAt K C H1 (n.ks.take i) us) ⟨none, [], rfl, S0, upd_same, rfl⟩ ?_ ?_
      · rintro i σ H1 hi ⟨y3, us, rfl, S1, hD, hU⟩
        have hi : i < n.ks.length := by omega
        have lU := hU.len
        rw [List.length_take] at lU
        obtain ⟨v1, e1, g1⟩ := hks.get (List.getElem?_eq_getElem hi)
        have mk := List.getElem_mem hi
        have more : ∀ (u : V) (H2 : Hp), Same H1 H2 → GdAt K C H2 n.ks[i] u → ∃ (y3' : Option V) (us' : List V), [some (.ref t), some (.int x), some (.ref D), some (.int (0 + (i : Int)))] = [some (V.ref t), some (.int x), some (.ref D), y3'] ∧ Same H (upd H2 D (.lst (us ++ [u]))) ∧ upd H2 D (.lst (us ++ [u])) D = some (.lst us') ∧ GdsAt K C (upd H2 D (.lst (us ++ [u]))) (n.ks.take (i + 1)) us' := fun u H2 S2 gu => by
          refine ⟨_, us ++ [u], rfl, same_updD (Same.trans S1 S2) nD, upd_same, ?_⟩
          have kg : Kg H2 (upd H2 D (.lst (us ++ [u]))) := Kg.upd (S2 _ _ hD)
          rw [List.take_add_one, List.getElem?_eq_getElem hi]
          exact GdsAt.snoc ((hU.kg (Same.kg S2)).kg kg) (gu.kg kg)
        refine ⟨fun H2 => H2 = H1, ?_, ?_⟩
        · refine ⟨.int (0 + (i : Int)), rfl, _, 0, rfl, rfl, _, rfl, ite2 (fun c => ?_) (fun _ => rfl)⟩
          have hi0 : 0 < i := by
            have := of_decide_eq_true c
            omega
          obtain ⟨v0, e0, g0⟩ := hks.get (List.getElem?_eq_getElem (show i - 1 < n.ks.length by omega))
          have mk0 := List.getElem_mem (show i - 1 < n.ks.length by omega)
          have dk := Nd.d_mem mk
          have dk0 := Nd.d_mem mk0
          refine ⟨.ref t, rfl, t, _, 3, .ref L, rfl, rfl, .inl (.inl (S1 _ _ ht)), atI_nat (j := 3) rfl, .int (0 + (i : Int)), rfl, L, vs, _, v1, rfl, rfl, sqOf (S1 _ _ hL), by rw [Int.zero_add]; exact atI_nat e1, .ref t, rfl, t, _, 3, .ref L, rfl, rfl, .inl (.inl (S1 _ _ ht)), atI_nat (j := 3) rfl, .int (0 + (i : Int)), rfl, _, 1, rfl, rfl, L, vs, _, v0, rfl, rfl, sqOf (S1 _ _ hL), at_nat (by omega) (by rw [show ((0 : Int) + (i : Int) - 1).toNat = i - 1 by omega]; exact e0), ?_⟩
          refine ⟨n.ks[i].enc, n.ks[i - 1].enc, (g1.same S1).dp, (g0.same S1).dp, shaped_nd (Nd.oks_mem oks _ mk) (by omega), shaped_nd (Nd.oks_mem oks _ mk0) (by omega), _, rfl, ite2 (fun c2 => ?_) (fun _ => rfl)⟩
          have ee := Nd.eqv_eq _ _ c2
          refine ⟨.int x, rfl, x, 4, rfl, rfl, _, rfl, ite2 (fun c3 => ?_) (fun _ => rfl)⟩
          have hpos : 0 < us.length := by omega
          refine ⟨.ref D, rfl, .inl ⟨rfl, _, sqOf hD⟩, .ref D, rfl, 1, rfl, D, us, -1, _, rfl, rfl, sqOf hD, at_last hpos, D, us, _, rfl, rfl, hD, small1000 (by omega), more _ H1 (Same.refl _) ?_⟩
          obtain ⟨k, ek, gk⟩ := hU.at (List.getElem?_eq_getElem (show us.length - 1 < us.length by omega))
          have : us.length - 1 = i - 1 := by omega
          rw [this, List.getElem?_take, if_pos (by omega), List.getElem?_eq_getElem (show i - 1 < n.ks.length by omega)] at ek
          rw [ee, Option.some.inj ek]
          exact gk
        · rintro H2 rfl
          refine ⟨.ref D, rfl, .inl ⟨rfl, _, sqOf hD⟩, .ref t, rfl, t, _, 3, .ref L, rfl, rfl, .inl (.inl (S1 _ _ ht)), atI_nat (j := 3) rfl, .int (0 + (i : Int)), rfl, L, vs, _, v1, rfl, rfl, sqOf (S1 _ _ hL), by rw [Int.zero_add]; exact atI_nat e1, .int x, rfl, ?_⟩
          exact ⟨v1, n.ks[i], x, S, rfl, g1.same S1, Nd.oks_mem oks _ mk, by have := Nd.d_mem mk; omega, fun a H3 S3 ga => ⟨D, us, .ref a, rfl, rfl, S3 _ _ hD, small1000 (by omega), more _ H3 S3 ga⟩⟩
      · rintro σ H1 ⟨y3, us, rfl, S1, hD, hU⟩
        rw [show ((vs.length : Nat) : Int).toNat = n.ks.length by omega, List.take_length] at hU
        have a0 : ∀ {H2 : Hp}, Same H1 H2 → SqT K H2 t [.str n.h, .int n.w, .str n.l, .ref L] := fun S => .inl (.inl (S _ _ (S1 _ _ ht)))
        have make : ∀ (H2 : Hp) (T : Addr) (ws : List V) (y dx : Addr), Same H1 H2 → (SqL K H2 T ws ∨ SqT K H2 T ws) → GdsAt K C H2 n.ks ws → H2 y = none → H2 dx = none → dx ≠ y → spInit K C [.ref y, .str n.h, .int n.w, .str n.l, .ref T] (upd (upd H2 dx (.own y)) y (.ins C dx [])) (fun v H3 => v = .non ∧ Q (.ref y) H3) E0 := fun H2 T ws y dx S2 hT hg ny ndy ne =>
          ⟨y, dx, T, n, ws, rfl, upd_same, hok, hT.imp (fun h => sqL_same h (good_new ny ndy ne)) (fun h => SqT.kg h (Same.kg (good_new ny ndy ne))), hg.kg (Same.kg (good_new ny ndy ne)), fun H3 bx gd => ⟨rfl, q y H3 (Same.trans (Same.trans S1 S2) (good_bx ny ndy ne bx)) gd⟩⟩
        refine ⟨fun H2 => H2 = H1, ?_, ?_⟩
        · refine ⟨.ref D, rfl, D, us, rfl, .inl (sqOf hD), rfl, _, rfl, ite2 (fun c => ?_) (fun _ => rfl)⟩
          rw [int_dec] at c
          have hn : n.ks = [] := List.length_eq_zero_iff.mp (by have := of_decide_eq_true c; have := hU.len; omega)
          refine ⟨.int x, rfl, .inl ⟨_, rfl, x, 4, rfl, rfl, by show (0 : Int) < 4; decide, _, 2, rfl, rfl, _, rfl, ite2 (fun c2 => ?_) (fun _ => rfl)⟩⟩
          refine ⟨.ref t, rfl, t, _, 0, _, rfl, rfl, a0 (Same.refl _), atI_nat (j := 0) rfl, .ref t, rfl, t, _, 1, _, rfl, rfl, a0 (Same.refl _), atI_nat (j := 1) rfl, .ref t, rfl, t, _, 2, _, rfl, rfl, a0 (Same.refl _), atI_nat (j := 2) rfl, fun y dx ny ndy ne => ?_⟩
          exact make H1 t0 [] y dx (Same.refl _) (.inr (TG.e0 _)) (by rw [hn]; rfl) ny ndy ne
        · rintro H2 rfl
          refine ⟨.int x, rfl, .inl ⟨_, rfl, x, 2, rfl, rfl, by show (0 : Int) < 2; decide, rfl, _, rfl, ite2 (fun c2 => ?_) (fun _ => ?_)⟩⟩
          · refine ⟨.ref t, rfl, t, _, 0, _, rfl, rfl, a0 (Same.refl _), atI_nat (j := 0) rfl, .ref t, rfl, t, _, 1, _, rfl, rfl, a0 (Same.refl _), atI_nat (j := 1) rfl, .ref t, rfl, t, _, 2, _, rfl, rfl, a0 (Same.refl _), atI_nat (j := 2) rfl, .ref D, rfl, D, us, rfl, .inl ⟨sqOf hD, fun T nT y dx ny ndy ne => ?_⟩⟩
            exact make _ T us y dx (same_upd nT) (.inr (.inl (.inl upd_same))) (hU.kg (Same.kg (same_upd nT))) ny ndy ne
          · refine ⟨.ref t, rfl, t, _, 0, _, rfl, rfl, a0 (Same.refl _), atI_nat (j := 0) rfl, .ref t, rfl, t, _, 1, _, rfl, rfl, a0 (Same.refl _), atI_nat (j := 1) rfl, .ref t, rfl, t, _, 2, _, rfl, rfl, a0 (Same.refl _), atI_nat (j := 2) rfl, .ref D, rfl, fun y dx ny ndy ne => ?_⟩
            exact make H2 D us y dx (Same.refl _) (.inl (sqOf hD)) hU ny ndy ne
end
end Tb
namespace Tb
open PySem PySem.Spec PyProof.Rows L2
abbrev sSure : Stmt := topS 40
abbrev NSure : List Str := ["box", "lands", "lead", "other", "kids", "k", "whole", "kid"]
theorem scSure : FnScope NSure ["box", "lands", "lead"] (defScope sSure) := ⟨rfl, rfl, rfl, by decide +kernel, rfl, by decide +kernel, by decide +kernel⟩
theorem NdsAt.of {S : AS} {H : Hp} : ∀ {ks : List Nd} {vs : List V}, NdsAt S H ks vs → NdsAt S H ks vs := fun h => h
theorem lead_ad {a b : Str} (ha : DgT a) (la : a.length = 2) (hb : DgT b) (lb : b.length ≤ 6) : Ad (tl (a ++ b)) := by
  rw [tl_app]
  refine ⟨?_, ?_, fun d hd => ?_⟩
  · rw [List.length_append, ← len_tl, ← len_tl]; omega
  · rw [List.length_append, ← len_tl, ← len_tl]; omega
  · rcases List.mem_append.mp hd with z | z
    · exact ha d z
    · exact hb d z
section
variable {P : Program} {w : World} {K : PySem.W.Frag} {mg : Str → Option Value} {base : Heap}
def spSure : Sp := fun vs H Q _ => ∃ (p LA : Addr) (las : List Str) (lead : Str), vs = [.ref p, .ref LA, .str lead] ∧ Box H p ∧ Lns H LA las ∧ DgT lead ∧ lead.length = 2 ∧
  ∀ (n : Nd) (v : V) (H' : Hp), NdAt (fun b => H b = none) H' n v → n.ok → n.d ≤ 2 → Box H' p → But p H H' → Q v H'
theorem ok_sure {f g1 g2 g3 : Addr} {fd d1 d2 d3 : FuncData} (F : Fun K "_law_sure" "_law_sure" sSure f fd) (cDraw : CDraw P w K mg base g1 d1) (cDigits : CDigits P w K mg base g2 d2) (cAmount : CAmount P w K mg base g3 d3) (B : Blt mg) : FnOk P w K mg base CX0 3 f fd ["box", "lands", "lead"] spSure := by
  refine F.ok scSure (fun vs H Q E h => ?_) (fun cdv A outer s H vs Q E hr h => ?_)
  · obtain ⟨p, LA, las, lead, rfl, _⟩ := h
    rfl
  · obtain ⟨p, LA, las, lead, rfl, hB, hL, dl, ll, q⟩ := h
    refine ⟨_, (pss_cons (ps_set (i := 3) scSure.nd rfl (.inl rfl) pe_str)
      (C8.pss_cut (ps_if (pt_cmpR op_eq (pe_ix ix_list (pv 1) pe_int (fun _ _ => rfl)) pe_str (nomark _))
        (pss_one (ps_set (i := 3) scSure.nd rfl (.inl rfl) pe_str))
        pss_nil)
      (pss_cons (ps_set (i := 4) scSure.nd rfl (.inl rfl) (pe_lst pa_nil))
      (pss_cons (ps_for PassesOwn.never rfl (pi_range1 (by rfl) B.range (pa_cons (pe_op op_add pe_int (pe_call cDraw.G (hr.mono (by first | decide | omega)) (by rfl) cDraw.D.g cDraw.D.F.kp cDraw.D.b .nil pass0 (pa_cons (pv 0) (pa_cons pe_int pa_nil)))) pa_nil)) (pg_name (i := 5) scSure.nd rfl (.inl rfl))
        (pss_one (ps_expr (pe_bm PySem.F.plainAttrs_list PySem.F.slot_list_append PySem.F.type_list_append mt_append (pv 4) (pa_cons (pe_tup (pa_cons (pe_op op_add_str (pv 2) (pe_call cDigits.G (hr.mono (by first | decide | omega)) (by rfl) cDigits.D.g cDigits.D.F.kp cDigits.D.b .nil pass0 (pa_cons (pv 0) (pa_cons (pe_call cDraw.G (hr.mono (by first | decide | omega)) (by rfl) cDraw.D.g cDraw.D.F.kp cDraw.D.b .nil pass0 (pa_cons (pv 0) (pa_cons pe_int pa_nil))) pa_nil)))) (pa_cons (pe_op op_add pe_int (pe_call cAmount.G (hr.mono (by first | decide | omega)) (by rfl) cAmount.D.g cAmount.D.F.kp cAmount.D.b .nil pass0 (pa_cons (pv 0) pa_nil))) (pa_cons (pv 3) (pa_cons (pe_lst pa_nil) pa_nil))))) pa_nil)))))
      (pss_cons (ps_set (i := 6) scSure.nd rfl (.inl rfl) (pe_callB (cr_sum rfl) (by rfl) B.sum (by decide +kernel) (pa_cons (pe_lc (own := [("kid", 7)]) (g := gName 7) (by rfl) scSure.nd (pi_list (pv 4)) (blkOk_by (N := NSure) (sc := defScope sSure) (by decide +kernel)) (fun _ _ _ _ _ => pg_name (i := 7) scSure.nd rfl (Or.inl rfl)) (fun _ _ _ _ _ => pts_nil) (fun _ _ _ _ _ => pe_ix (r := rIxT K) ix_tup (pv 7) pe_int (fun _ _ => rfl))) pa_nil)))
      (pss_one (ps_ret (pe_tup (pa_cons (pe_op op_add_str (pv 2) (pe_call cDigits.G (hr.mono (by first | decide | omega)) (by rfl) cDigits.D.g cDigits.D.F.kp cDigits.D.b .nil pass0 (pa_cons (pv 0) (pa_cons (pe_call cDraw.G (hr.mono (by first | decide | omega)) (by rfl) cDraw.D.g cDraw.D.F.kp cDraw.D.b .nil pass0 (pa_cons (pv 0) (pa_cons pe_int pa_nil))) pa_nil)))) (pa_cons (pv 6) (pa_cons (pe_ix ix_list (pv 1) pe_int (fun _ _ => rfl)) (pa_cons (pv 4) pa_nil)))))))))))), ?_⟩
    have hz : sizeLine = 16777216 := rfl
    have n1 := hL.n1
    have nm0 := hL.d _ (List.getElem_mem (show 0 < las.length by omega))
    generalize e0 : las[0] = la0 at nm0
    have hat : ∀ {H' : Hp}, Lns H' LA las → atI (las.map V.str) 0 = some (V.str la0) := fun _ => by
      rw [← e0]
      exact atI_nat (j := 0) (strs_at (show 0 < las.length by omega))
    have na : Nm (tl ("a" : Str)) := (isName_iff _).mp (by decide +kernel)
    have nb : Nm (tl ("b" : Str)) := (isName_iff _).mp (by decide +kernel)
    refine ⟨fun σ H1 => ∃ o : Str, σ = [some (.ref p), some (.ref LA), some (.str lead), some (.str o), none, none, none, none] ∧ H1 = H ∧ Nm (tl o), ?_, ?_⟩
    · refine ⟨.ref LA, rfl, LA, _, 0, _, rfl, rfl, sqOf hL.l, hat hL, rfl, _, rfl, ite2 (fun _ => ⟨_, rfl, rfl, nb⟩) (fun _ => ⟨_, rfl, rfl, na⟩)⟩
    · rintro σ H1 ⟨o, rfl, rfl, no⟩
      refine ⟨by show 0 ≤ sizeLine; decide, fun D nD => ?_⟩
      have S0 : Same H1 (upd H1 D (.lst [])) := same_upd nD
      have hDp := hB.off nD
      refine ⟨.ref p, rfl, p, 4, rfl, hB.same S0, by decide, fun y H2 y0 y1 B2 b2 => ⟨1, y, rfl, rfl, _, rfl, by omega, by omega, ?_⟩⟩
      have lo : (tl o).length ≤ 12 := no.1
      refine for_range (lo := 0) (n := (1 + y).toNat) (fun i σ H3 => ∃ (y5 : Option V) (vs : List V) (ks : List Nd), σ = [some (.ref p), some (.ref LA), some (.str lead), some (.str o), some (.ref D), y5, none, none] ∧ Box H3 p ∧ But p H1 H3 ∧ H3 D = some (.lst vs) ∧ NdsAt (fun b => H1 b = none ∧ b ≠ D) H3 ks vs ∧ ks.length = i ∧ ∀ k ∈ ks, k.ok ∧ k.d ≤ 1) ⟨none, [], [], rfl, B2, (Same.but S0).trans b2, b2 _ _ upd_same hDp, rfl, rfl, fun _ h => by cases h⟩ ?_ ?_
      · rintro i σ H3 hi ⟨y5, vs, ks, rfl, B3, b3, hD3, hU3, lk, hall⟩
        have hi4 : i < 5 := by omega
        have lv := hU3.len
        refine ⟨.ref D, rfl, .inl ⟨rfl, _, sqOf hD3⟩, .str lead, rfl, .ref p, rfl, .ref p, rfl, p, 7, rfl, B3, by decide, fun u H4 u0 u1 B4 b4 => ?_⟩
        refine ⟨p, u.toNat, by show [V.ref p, .int u] = _; rw [Int.toNat_of_nonneg u0], B4, by omega, fun dz H5 ldz ddz B5 b5 => ?_⟩
        refine ⟨_, _, rfl, rfl, by omega, .ref p, rfl, p, rfl, B5, fun am H6 am0 B6 b6 => ⟨1, am, rfl, rfl, .str o, rfl, by show 0 ≤ sizeLine; decide, fun L nL => ⟨by show 4 ≤ sizeLine; decide, fun t nt => ?_⟩⟩⟩
        have b36 := (b4.trans b5).trans b6
        have k36 := ((But.kp B3 b4).trans (But.kp B4 b5)).trans (But.kp B5 b6)
        have S8 : Same H6 (upd (upd H6 L (.lst [])) t (.tup [.str (lead ++ dz), .int (1 + am), .str o, .ref L])) := Same.trans (same_upd nL) (same_upd nt)
        have hD8 := S8 _ _ (b36 _ _ hD3 hDp)
        have b16 := b3.trans b36
        have nn : ∀ {c : Addr}, H6 c = none → H1 c = none := fun {c} h => by
          cases e : H1 c with
          | none => rfl
          | some ob =>
            by_cases z : c = p
            · obtain ⟨_, _, _, _, hp, _⟩ := B6
              rw [z, hp] at h
              cases h
            · rw [b16 _ _ e z] at h
              cases h
        have nDn : ∀ {c : Addr}, H6 c = none → c ≠ D := fun h e => by
          rw [e, b36 _ _ hD3 hDp] at h
          cases h
        refine ⟨D, vs, .ref t, rfl, rfl, hD8, small1000 (by omega), _, _, ks ++ [.mk (lead ++ dz) (1 + am) o []], rfl, (B6.same S8).upd hDp, ?_, upd_same, ?_, by rw [List.length_append, lk]; rfl, fun k hk => ?_⟩
        · intro b ob hb hn
          rw [upd_ne (ne_of_none hb nD)]
          exact S8 _ _ (b16 b ob hb hn)
        · have nt6 : H6 t = none := same_none (same_upd nL) nt
          refine NdsAt.snoc (NdsAt.go (fun b ob z e _ => ⟨z, by rw [upd_ne z.2]; exact S8 _ _ e⟩) (hU3.kp k36)) ⟨t, L, [], rfl, ⟨nn nt6, nDn nt6⟩, ?_, ⟨nn nL, nDn nL⟩, ?_, rfl⟩
          · rw [upd_ne (nDn nt6)]
            exact upd_same
          · rw [upd_ne (nDn nL)]
            exact same_upd nt _ _ upd_same
        · rcases List.mem_append.mp hk with z | z
          · exact hall k z
          · rw [List.mem_singleton.mp z]
            exact ⟨⟨lead_ad dl ll ddz (by omega), no, by omega, by show (0 : Int) ≤ 1 + am; omega, by show 0 ≤ 8; decide, trivial⟩, by show 0 + 1 ≤ 1; decide⟩
      · rintro σ H3 ⟨y5, vs, ks, rfl, B3, b3, hD3, hU3, lk, hall⟩
        have lk4 : ks.length ≤ 4 := by omega
        have lv := hU3.len
        refine ⟨.ref D, rfl, D, rfl, ⟨vs, sqOf hD3⟩, fun D2 nD2 => ?_⟩
        refine lc_G (walk_list (K := K) (a := D) (xs := (tagN ks vs).map Prod.fst)) (i := 7) (tagN ks vs) Prod.fst (fun _ => true) (fun z => .int z.2.w) (List.length_map _).symm nD2 (by rw [tag_map lv]; omega) yAt_val (fun H4 S4 => sqOf (by rw [tag_map lv]; exact S4 _ _ hD3)) (fun _ => rfl) (fun z _ H4 _ R h => h) (fun z hz _ H4 S4 R h => ?_) (fun H4 S4 hD4 => ?_)
        · obtain ⟨a1, a2⟩ := tag_at hU3 hz
          obtain ⟨t, L, us, e, _, ht, _⟩ := a1.ref
          exact ⟨z.1, rfl, t, _, 1, .int z.2.w, e, rfl, .inl (.inl (S4 _ _ ht)), atI_nat (j := 1) rfl, h H4 (Same.refl _)⟩
        have eD : ((tagN ks vs).filter fun _ => true).map (fun z => V.int z.2.w) = (ks.map Nd.w).map V.int := by
          rw [filt_true, tag_map2 (fun k => V.int k.w) lv, List.map_map]
          rfl
        rw [eD] at hD4
        refine ⟨D2, ks.map Nd.w, rfl, sqOf hD4, ?_⟩
        have B4 := B3.same S4
        refine ⟨.str lead, rfl, .ref p, rfl, .ref p, rfl, p, 7, rfl, B4, by decide, fun u H5 u0 u1 B5 b5 => ?_⟩
        refine ⟨p, u.toNat, by show [V.ref p, .int u] = _; rw [Int.toNat_of_nonneg u0], B5, by omega, fun dz H6 ldz ddz B6 b6 => ?_⟩
        have b36 : But p H3 H6 := ((Same.but S4).trans b5).trans b6
        have k36 : Kp H3 H6 := ((Same.kp S4).trans (But.kp B4 b5)).trans (But.kp B5 b6)
        have b16 := b3.trans b36
        have hL6 := hL.kp (But.kp hB b16)
        have hD6 := b36 _ _ hD3 hDp
        refine ⟨_, _, rfl, rfl, by omega, .int _, rfl, .ref LA, rfl, LA, _, 0, _, rfl, rfl, sqOf hL6.l, hat hL6, .ref D, rfl, by show 4 ≤ sizeLine; decide, fun t nt => ?_⟩
        have S7 : Same H6 (upd H6 t (.tup [.str (lead ++ dz), .int (ks.map Nd.w).sum, .str la0, .ref D])) := same_upd nt
        have nn : H1 t = none := by
          cases e : H1 t with
          | none => rfl
          | some ob =>
            by_cases z : t = p
            · obtain ⟨_, _, _, _, hp, _⟩ := B6
              rw [z, hp] at nt
              cases nt
            · rw [b16 _ _ e z] at nt
              cases nt
        have hs := sumOf_sum (ks.map Nd.w)
        refine q (.mk (lead ++ dz) (ks.map Nd.w).sum la0 ks) (.ref t) _ ⟨t, D, vs, rfl, nn, upd_same, nD, S7 _ _ hD6, NdsAt.go (fun b ob z e _ => ⟨z.1, S7 _ _ e⟩) (hU3.kp k36)⟩ ⟨lead_ad dl ll ddz (by omega), nm0, by rw [hs]; exact sum_w fun k hk => (hall k hk).1, by rw [hs]; exact Int.le_refl _, by omega, Nd.oks_of fun k hk => (hall k hk).1⟩ ?_ (B6.same S7) (b16.trans (Same.but S7))
        have := Nd.ds_le fun k hk => (hall k hk).2
        show Nd.ds ks + 1 ≤ 2
        omega
end
end Tb
namespace Tb
open PySem PySem.Spec PyProof.Rows L2
abbrev sAgrees : Stmt := topS 35
abbrev NAgrees : List Str := ["good", "node", "share", "due", "told", "paper"]
theorem scAgrees : FnScope NAgrees ["good", "node", "share"] (defScope sAgrees) := ⟨rfl, rfl, rfl, by decide +kernel, rfl, by decide +kernel, by decide +kernel⟩
theorem sg_made : Sg ("made" : Str) := fun c hc => of_decide_eq_true (List.all_eq_true.mp (show (tl ("made" : Str)).all (fun c => decide (c < 1114112)) = true by decide +kernel) c hc)
section
variable {P : Program} {w : World} {K : PySem.W.Frag} {mg : Str → Option Value} {base : Heap} {C : Addr}
abbrev COPaper (P : Program) (w : World) (K : PySem.W.Frag) (mg : Str → Option Value) (base : Heap) (C : Addr) (d : Nat) (g : Addr) (gd : FuncData) := C1D P w K mg base "origin_paper" sOPaper ["good", "share"] [.int 50] (4 + d) (spOPaper K C d) g gd
abbrev COrigin (P : Program) (w : World) (K : PySem.W.Frag) (mg : Str → Option Value) (base : Heap) (C : Addr) (d : Nat) (g : Addr) (gd : FuncData) := C1D P w K mg base "origin" sOrigin ["good", "share"] [.int 50] (5 + d) (spOrigin K C d) g gd
abbrev CCheck (P : Program) (w : World) (K : PySem.W.Frag) (mg : Str → Option Value) (base : Heap) (C : Addr) (d : Nat) (g : Addr) (gd : FuncData) := C1 P w K mg base "check_origin" sCheck ["good", "share", "paper"] (4 + d) (spCheck K C d) g gd
abbrev CSame (P : Program) (w : World) (K : PySem.W.Frag) (mg : Str → Option Value) (base : Heap) (d : Nat) (g : Addr) (gd : FuncData) := C1 P w K mg base "_law_same" sSame ["told", "due"] (1 + d) (spSame d) g gd
def spAgrees (K : PySem.W.Frag) (C : Addr) (d : Nat) : Sp := fun vs H Q _ => ∃ (gv nv : V) (n : Nd) (s : Int) (S : AS), vs = [gv, nv, .int s] ∧ GdAt K C H n gv ∧ NdAt S H n nv ∧ n.ok ∧ n.d ≤ d ∧ 0 ≤ s ∧ s ≤ 100 ∧ ∀ (H' : Hp), Same H H' → Q (.bl true) H'
theorem ok_agrees {f g1 g2 g3 g4 g5 : Addr} {fd d1 d2 d3 d4 d5 : FuncData} {d : Nat} (F : Fun K "_law_agrees" "_law_agrees" sAgrees f fd) (cPaper : CPaper P w K mg base d g1 d1) (cOrigin : COrigin P w K mg base C d g2 d2) (cOPaper : COPaper P w K mg base C d g3 d3) (cCheck : CCheck P w K mg base C d g4 d4) (cSame : CSame P w K mg base d g5 d5) (B : Blt mg) : FnOk P w K mg base CX0 (6 + d) f fd ["good", "node", "share"] (spAgrees K C d) := by
  have e6 : 6 + d = (5 + d) + 1 := by omega
  rw [e6]
  refine F.ok scAgrees (fun vs H Q E h => ?_) (fun cdv A outer s H vs Q E hr h => ?_)
  · obtain ⟨gv, nv, n, sh, S, rfl, _⟩ := h
    rfl
  · obtain ⟨gv, nv, n, sh, S, rfl, hg, hv, hok, hd, h0, h1, q⟩ := h
    refine ⟨_, (pss_cons (ps_set (i := 3) scAgrees.nd rfl (.inl rfl) (pe_call cPaper.G (hr.mono (by first | decide | omega)) (by rfl) cPaper.D.g cPaper.D.F.kp cPaper.D.b .nil pass0 (pa_cons (pv 1) (pa_cons (pv 2) (pa_cons pe_non (pa_cons pe_str pa_nil))))))
      (pss_cons (ps_set (i := 4) scAgrees.nd rfl (.inl rfl) (pe_call cOrigin.G (hr.mono (by first | decide | omega)) (by rfl) cOrigin.D.g cOrigin.D.F.kp cOrigin.D.b .nil pass0 (pa_cons (pv 0) (pa_cons (pv 2) pa_nil))))
      (pss_cons (ps_set (i := 5) scAgrees.nd rfl (.inl rfl) (pe_call cOPaper.G (hr.mono (by first | decide | omega)) (by rfl) cOPaper.D.g cOPaper.D.F.kp cOPaper.D.b .nil pass0 (pa_cons (pv 0) (pa_cons (pv 2) pa_nil))))
      (pss_cons (ps_if (PW.pt (pw_or (pt_not (pt_val (pe_callB call_isi (by rfl) B.isi (by decide +kernel) (pa_cons (pv 4) (pa_cons (pe_bltn (by rfl) B.str PyProof.Rows.boot_str (v := .ty "str") (u := .type "str") rfl) pa_nil))))) (pw_or (pt_cmpR op_ne (pv 4) (pe_ix ix_tup (pv 3) pe_int (fun _ _ => rfl)) (nomark _)) (pw_or1 (pt_not (pt_val (pe_call cSame.G (hr.mono (by first | decide | omega)) (by rfl) cSame.D.g cSame.D.F.kp cSame.D.b .nil pass0 (pa_cons (pv 5) (pa_cons (pv 3) pa_nil)))))))))
        (pss_one (ps_ret pe_bl))
        pss_nil)
      (pss_cons (ps_if (pt_cmpR op_notBl (pe_call cCheck.G (hr.mono (by first | decide | omega)) (by rfl) cCheck.D.g cCheck.D.F.kp cCheck.D.b .nil pass0 (pa_cons (pv 0) (pa_cons (pv 2) (pa_cons (pv 5) pa_nil)))) pe_bl (nomark _))
        (pss_one (ps_ret pe_bl))
        pss_nil)
      (C8.pss_cut (ps_if (pt_cmpR op_gt (pe_callB call_len_seq (by rfl) B.len PySem.boot_len (pa_cons (pe_ix ix_tup (pv 5) pe_int (fun _ _ => rfl)) pa_nil)) pe_int (nomark _))
        (pss_cons (ps_expr (pe_bm PySem.F.plainAttrs_list PySem.F.slot_list_append PySem.F.type_list_append mt_append (pe_ix ix_tup (pe_ix ix_list (pe_ix ix_tup (pv 5) pe_int (fun _ _ => rfl)) pe_int (fun _ _ => rfl)) pe_int (fun _ _ => rfl)) (pa_cons (pe_tup (pa_cons pe_str (pa_cons (pe_ix ix_tup (pv 3) pe_int (fun _ _ => rfl)) (pa_cons (pe_lst pa_nil) pa_nil)))) pa_nil)))
        (pss_one (ps_if (pt_cmpR op_notBl (pe_call cCheck.G (hr.mono (by first | decide | omega)) (by rfl) cCheck.D.g cCheck.D.F.kp cCheck.D.b .nil pass0 (pa_cons (pv 0) (pa_cons (pv 2) (pa_cons (pv 5) pa_nil)))) pe_bl (nomark _))
          (pss_one (ps_ret pe_bl))
          pss_nil)))
        pss_nil)
      (pss_cons (ps_expr (pe_bm PySem.F.plainAttrs_list PySem.F.slot_list_append PySem.F.type_list_append mt_append (pe_ix ix_tup (pv 5) pe_int (fun _ _ => rfl)) (pa_cons (pe_tup (pa_cons pe_str (pa_cons (pe_ix ix_tup (pv 3) pe_int (fun _ _ => rfl)) (pa_cons (pe_lst pa_nil) pa_nil)))) pa_nil)))
      (pss_cons (ps_if (pt_cmpR op_notBl (pe_call cCheck.G (hr.mono (by first | decide | omega)) (by rfl) cCheck.D.g cCheck.D.F.kp cCheck.D.b .nil pass0 (pa_cons (pv 0) (pa_cons (pv 2) (pa_cons (pv 5) pa_nil)))) pe_bl (nomark _))
        (pss_one (ps_ret pe_bl))
        pss_nil)
      (pss_one (ps_ret (pe_and (pe_call cSame.G (hr.mono (by first | decide | omega)) (by rfl) cSame.D.g cSame.D.F.kp cSame.D.b .nil pass0 (pa_cons (pe_call cOPaper.G (hr.mono (by first | decide | omega)) (by rfl) cOPaper.D.g cOPaper.D.F.kp cOPaper.D.b .nil pass0 (pa_cons (pv 0) (pa_cons (pv 2) pa_nil))) (pa_cons (pv 3) pa_nil))) (pe_one (pe_cmpR op_eq (pe_call cOrigin.G (hr.mono (by first | decide | omega)) (by rfl) cOrigin.D.g cOrigin.D.F.kp cOrigin.D.b .nil pass0 (pa_cons (pv 0) (pa_cons (pv 2) pa_nil))) (pe_ix ix_tup (pv 3) pe_int (fun _ _ => rfl)) (nomark _)))))))))))))), ?_⟩
    have hz : sizeLine = 16777216 := rfl
    have cok := cert_ok sh n hok
    have cd := cert_d sh n
    have l8 := Nd.ok_len hok
    refine ⟨nv, rfl, .int sh, rfl, nv, .non, n, sh, "", S, rfl, hv, hok, hd, h0, h1, .inl rfl, sg_empty, fun t1 H1 p1 S1 hP1 hc1 _ _ => ?_⟩
    rw [hc1 rfl] at hP1
    refine ⟨gv, rfl, .int sh, rfl, gv, n, sh, rfl, hg.kg (Same.kg S1), hok, hd, h0, h1, fun H2 S2 => ?_⟩
    have S02 := Same.trans S1 S2
    refine ⟨gv, rfl, .int sh, rfl, gv, n, sh, rfl, hg.kg (Same.kg S02), hok, hd, h0, h1, fun t2 H3 S3 hU => ?_⟩
    have S03 := Same.trans S02 S3
    have due2 : PpAt (New H H1) H2 (certOf sh n) (.ref t1) := hP1.same S2
    have pap3 : PpAt (fun _ => True) H3 (certOf sh n) (.ref t2) := PpU.at (fun _ _ => trivial) hU
    obtain ⟨_, L1, us1, e1, _, ht1, _, hL1, _⟩ := due2.ref
    cases e1
    have due : ∀ {H' : Hp}, Same H2 H' → SqT K H' t1 [.str (certOf sh n).r, .str (certOf sh n).l, .ref L1] := fun S => .inl (.inl (S _ _ ht1))
    have cer : isCert sh n (certOf sh n) = true := isCert_iff.mpr rfl
    refine ⟨.str (certOf sh n).l, rfl, .str (certOf sh n).l, .ty "str", .type "str", .type "str", true, rfl, .ty _, .base (.str _), kit_ty (by decide +kernel), true, rfl, ?_⟩
    refine ⟨.str (certOf sh n).l, rfl, .ref t1, rfl, t1, _, 1, _, rfl, rfl, due S3, atI_nat (j := 1) rfl, rfl, _, rfl, ite2 (fun c => absurd c (ne_no rfl)) (fun _ => ?_)⟩
    refine ⟨.ref t2, rfl, .ref t1, rfl, .ref t2, .ref t1, certOf sh n, _, _, rfl, pap3, due2.same S3, cok, by omega, fun H4 S4 => ⟨true, rfl, ?_⟩⟩
    have S34 := S4
    refine ⟨gv, rfl, .int sh, rfl, .ref t2, rfl, gv, .ref t2, n, certOf sh n, sh, _, rfl, hg.kg (Same.kg (Same.trans S03 S4)), hok, hd, h0, h1, pap3.same S4, cok, fun H5 S5 => ⟨_, true, rfl, rfl, _, rfl, ite2 (fun c => ?_) (fun _ => ?_)⟩⟩
    · rw [cer] at c
      exact absurd c (by decide)
    have S35 := Same.trans S4 S5
    have S25 := Same.trans S3 S35
    have hU5 : PpU (New H2 H3) H5 (certOf sh n) (.ref t2) := PpU.go (fun _ z => z) (fun b o _ e => S35 _ _ e) hU
    obtain ⟨nd, hnd⟩ : ∃ m, m = certOf sh n := ⟨_, rfl⟩
    rw [← hnd] at hU5
    obtain ⟨pr, pl, ps⟩ := nd
    obtain ⟨_, L, vs, e2, st2, ht2, sL, hL, hps⟩ := hU5
    cases e2
    have eps : ps = certsOf sh n.ks := by
      have := congrArg Pp.ps hnd
      rw [cert_ps] at this
      exact this
    have lps : ps.length = n.ks.length := by rw [eps, certs_len]
    have lv := hps.len
    have er : pr = (certOf sh n).r := congrArg Pp.r hnd
    have el : pl = (certOf sh n).l := congrArg Pp.l hnd
    obtain ⟨k1, k2, _, k4⟩ := Pp.ok_l cok
    rw [cert_ps, ← eps] at k4
    have nL2 : H2 L = none := sL.1
    refine ⟨fun σ H6 => ∃ (us : List V) (qs : List Pp), σ = [some gv, some nv, some (.int sh), some (.ref t1), some (.str (certOf sh n).l), some (.ref t2)] ∧ Same H2 H6 ∧ H6 t2 = some (.tup [.str pr, .str pl, .ref L]) ∧ H6 L = some (.lst us) ∧ PpsAt (fun a => a ≠ L) H6 qs us ∧ qs.length = n.ks.length ∧ Pp.oks qs, ?_, ?_⟩
    · have at5 : SqT K H5 t2 [.str pr, .str pl, .ref L] := .inl (.inl ht2)
      have stay : PpsAt (fun a => a ≠ L) H5 ps vs := PsU.at (fun a z => z.2) hps
      refine ⟨.ref t2, rfl, t2, _, 2, _, rfl, rfl, at5, atI_nat (j := 2) rfl, L, vs, rfl, .inl (sqOf hL), _, _, rfl, rfl, _, rfl, ite2 (fun c => ?_) (fun _ => ⟨vs, ps, rfl, S25, ht2, hL, stay, lps, k4⟩)⟩
      obtain ⟨p0, ps', ep⟩ : ∃ p0 ps', ps = p0 :: ps' := by
        cases hps2 : ps with
        | nil =>
          rw [hps2] at hps
          have : vs = [] := hps
          rw [this] at c
          exact absurd c (by decide)
        | cons a b => exact ⟨a, b, rfl⟩
      rw [ep] at hps
      obtain ⟨v0, us0, S1x, evs, hsub, hp0, hrest⟩ := hps
      obtain ⟨r0, l0, ps0⟩ := p0
      obtain ⟨t0, L0, vs0, ev0, st0, ht0, sL0, hL0, hps0⟩ := hp0
      subst ev0
      subst evs
      have nL0 : H2 L0 = none := (hsub _ sL0).1.1
      have neL : L0 ≠ L := (hsub _ sL0).2
      have net : t0 ≠ L := (hsub _ st0).2
      rw [ep] at k4
      obtain ⟨q1, q2, q3, q4⟩ := k4.1
      have lv0 := hps0.len
      refine ⟨.ref t2, rfl, t2, _, 2, _, rfl, rfl, at5, atI_nat (j := 2) rfl, L, _, 0, .ref t0, rfl, rfl, sqOf hL, atI_nat (j := 0) rfl, t0, _, 2, .ref L0, rfl, rfl, .inl (.inl ht0), atI_nat (j := 2) rfl, .inl ⟨rfl, _, sqOf hL0⟩, .ref t1, rfl, t1, _, 1, _, rfl, rfl, due S25, atI_nat (j := 1) rfl, by show 0 ≤ sizeLine; decide, fun L9 n9 => ⟨by show 3 ≤ sizeLine; decide, fun t9 nt9 => ?_⟩⟩
      have S57 : Same H5 (upd (upd H5 L9 (.lst [])) t9 (.tup [.str "made", .str (certOf sh n).l, .ref L9])) := Same.trans (same_upd n9) (same_upd nt9)
      generalize eH7 : upd (upd H5 L9 (.lst [])) t9 _ = H7
      have S57 : Same H5 H7 := by rw [← eH7]; exact Same.trans (same_upd n9) (same_upd nt9)
      have ht9 : H7 t9 = some (.tup [.str "made", .str (certOf sh n).l, .ref L9]) := by rw [← eH7]; exact upd_same
      have hL9 : H7 L9 = some (.lst []) := by rw [← eH7]; exact same_upd nt9 _ _ upd_same
      have f9 : ∀ {c : Addr}, H5 c ≠ none → c ≠ L9 := fun h e => h (by rw [e]; exact n9)
      have f9t : ∀ {c : Addr}, H5 c ≠ none → c ≠ t9 := fun h e => h (by rw [e]; exact same_none (same_upd n9) nt9)
      have nL9L : L9 ≠ L := Ne.symm (f9 (some_ne hL))
      have nL9L0 : L9 ≠ L0 := Ne.symm (f9 (some_ne hL0))
      have nt9L : t9 ≠ L := Ne.symm (f9t (some_ne hL))
      have nt9L0 : t9 ≠ L0 := Ne.symm (f9t (some_ne hL0))
      refine ⟨L0, vs0, .ref t9, rfl, rfl, S57 _ _ hL0, small1000 (by omega), ?_⟩
      generalize eH8 : upd H7 L0 _ = H8
      have u8 : ∀ (b : Addr), b ≠ L0 → H8 b = H7 b := fun b hb => by rw [← eH8, upd_ne hb]
      have S28 : Same H2 H8 := by rw [← eH8]; exact same_updD (Same.trans S25 S57) nL0
      have hL08 : H8 L0 = some (.lst (vs0 ++ [.ref t9])) := by rw [← eH8]; exact upd_same
      have made8 : PpAt (fun a => a ≠ L) H8 (.mk "made" (certOf sh n).l []) (.ref t9) := ⟨t9, L9, [], rfl, nt9L, by rw [u8 _ nt9L0]; exact ht9, nL9L, by rw [u8 _ nL9L0]; exact hL9, rfl⟩
      have kids8 : PpsAt (fun a => a ≠ L) H8 (.mk r0 l0 (ps0 ++ [.mk "made" (certOf sh n).l []]) :: ps') (.ref t0 :: us0) := by
        refine ⟨.ref t0, us0, rfl, ⟨t0, L0, vs0 ++ [.ref t9], rfl, net, ?_, neL, hL08, PpsAt.snoc ?_ made8⟩, ?_⟩
        · rw [u8 _ (fun e => by rw [e, hL0] at ht0; cases ht0)]
          exact S57 _ _ ht0
        · exact PpsAt.go (fun b o z e _ => ⟨(hsub _ z.1).2, by rw [u8 _ z.2]; exact S57 _ _ e⟩) (PsU.at (S' := fun a => S1x a ∧ a ≠ L0) (fun _ z => z) hps0)
        · exact PpsAt.go (fun b o z e _ => ⟨z.1.2, by rw [u8 _ (fun e2 => z.2 (by rw [e2]; exact sL0))]; exact S57 _ _ e⟩) (PsU.at (S' := fun a => (New H2 H3 a ∧ a ≠ L) ∧ ¬ S1x a) (fun _ z => z) hrest)
      have ht28 : H8 t2 = some (.tup [.str pr, .str pl, .ref L]) := by
        rw [u8 _ (fun e => by rw [e, hL0] at ht2; cases ht2)]
        exact S57 _ _ ht2
      have hL8 : H8 L = some (.lst (.ref t0 :: us0)) := by
        rw [u8 _ (Ne.symm neL)]
        exact S57 _ _ hL
      have ok8 : Pp.oks (.mk r0 l0 (ps0 ++ [.mk "made" (certOf sh n).l []]) :: ps') := by
        refine ⟨⟨q1, q2, ?_, Pp.oks_of fun p hp => ?_⟩, k4.2⟩
        · have e9 : certsOf sh n.ks = .mk r0 l0 ps0 :: ps' := by rw [← eps, ep]
          cases hnk : n.ks with
          | nil =>
            rw [hnk] at e9
            cases e9
          | cons k0 ks' =>
            rw [hnk] at e9
            have e10 : certOf sh k0 = .mk r0 l0 ps0 := (List.cons.inj e9).1
            have e11 := congrArg List.length (congrArg Pp.ps e10)
            rw [cert_ps, certs_len] at e11
            have e11 : k0.ks.length = ps0.length := e11
            have := Nd.ok_len (Nd.oks_mem (Nd.ok_ks hok) k0 (by rw [hnk]; exact List.mem_cons_self ..))
            rw [List.length_append]
            show ps0.length + 1 ≤ 40
            omega
        · rcases List.mem_append.mp hp with z | z
          · exact Pp.oks_mem q4 p z
          · rw [List.mem_singleton.mp z]
            exact ⟨sg_made, k2, by show 0 ≤ 40; decide, trivial⟩
      have l8' : (Pp.mk r0 l0 (ps0 ++ [.mk "made" (certOf sh n).l []]) :: ps').length = n.ks.length := by rw [← lps, ep]; rfl
      have pap8 : PpAt (fun _ => True) H8 (.mk pr pl (.mk r0 l0 (ps0 ++ [.mk "made" (certOf sh n).l []]) :: ps')) (.ref t2) := ⟨t2, L, _, rfl, trivial, ht28, trivial, hL8, PpsAt.go (fun b o _ e _ => ⟨trivial, e⟩) kids8⟩
      have bad : isCert sh n (.mk pr pl (.mk r0 l0 (ps0 ++ [.mk "made" (certOf sh n).l []]) :: ps')) = false := isCert_no fun e => by
        have e2 := congrArg Pp.ps e
        rw [cert_ps, ← eps, ep] at e2
        have e3 : Pp.mk r0 l0 (ps0 ++ [.mk "made" (certOf sh n).l []]) = .mk r0 l0 ps0 := (List.cons.inj e2).1
        have e4 := congrArg List.length (congrArg Pp.ps e3)
        have e5 : (ps0 ++ [Pp.mk "made" (certOf sh n).l []]).length = ps0.length := e4
        rw [List.length_append] at e5
        have : ([Pp.mk "made" (certOf sh n).l []] : List Pp).length = 1 := rfl
        omega
      refine ⟨gv, rfl, .int sh, rfl, .ref t2, rfl, gv, .ref t2, n, _, sh, _, rfl, hg.kg (Same.kg (Same.trans S02 S28)), hok, hd, h0, h1, pap8, ⟨by rw [er]; exact k1, by rw [el]; exact k2, by omega, ok8⟩, fun H9 S9 => ⟨_, false, rfl, rfl, _, rfl, ite2 (fun c => ?_) (fun _ => ?_)⟩⟩
      · rw [bad] at c
        exact absurd c (by decide)
      · exact ⟨_, _, rfl, Same.trans S28 S9, S9 _ _ ht28, S9 _ _ hL8, kids8.same S9, l8', ok8⟩
    · rintro σ H6 ⟨us, qs, rfl, S6, ht6, hL6, hq6, lq, oq⟩
      have lu := hq6.len
      refine ⟨.ref t2, rfl, t2, _, 2, .ref L, rfl, rfl, .inl (.inl ht6), atI_nat (j := 2) rfl, .inl ⟨rfl, _, sqOf hL6⟩, .ref t1, rfl, t1, _, 1, _, rfl, rfl, due S6, atI_nat (j := 1) rfl, by show 0 ≤ sizeLine; decide, fun L9 n9 => ⟨by show 3 ≤ sizeLine; decide, fun t9 nt9 => ?_⟩⟩
      generalize eH7 : upd (upd H6 L9 (.lst [])) t9 _ = H7
      have S67 : Same H6 H7 := by rw [← eH7]; exact Same.trans (same_upd n9) (same_upd nt9)
      have ht9 : H7 t9 = some (.tup [.str "made", .str (certOf sh n).l, .ref L9]) := by rw [← eH7]; exact upd_same
      have hL9 : H7 L9 = some (.lst []) := by rw [← eH7]; exact same_upd nt9 _ _ upd_same
      have nL9L : L9 ≠ L := fun e => by rw [e, hL6] at n9; cases n9
      have nt9L : t9 ≠ L := fun e => by
        have := same_none (same_upd n9) nt9
        rw [e, hL6] at this
        cases this
      refine ⟨L, us, .ref t9, rfl, rfl, S67 _ _ hL6, small1000 (by omega), ?_⟩
      generalize eH8 : upd H7 L _ = H8
      have u8 : ∀ (b : Addr), b ≠ L → H8 b = H7 b := fun b hb => by rw [← eH8, upd_ne hb]
      have S28 : Same H2 H8 := by rw [← eH8]; exact same_updD (Same.trans S6 S67) nL2
      have hL8 : H8 L = some (.lst (us ++ [.ref t9])) := by rw [← eH8]; exact upd_same
      have kids8 : PpsAt (fun _ => True) H8 (qs ++ [.mk "made" (certOf sh n).l []]) (us ++ [.ref t9]) := by
        refine PpsAt.snoc (PpsAt.go (fun b o z e _ => ⟨trivial, by rw [u8 _ z]; exact S67 _ _ e⟩) hq6) ?_
        exact ⟨t9, L9, [], rfl, trivial, by rw [u8 _ nt9L]; exact ht9, trivial, by rw [u8 _ nL9L]; exact hL9, rfl⟩
      have ht28 : H8 t2 = some (.tup [.str pr, .str pl, .ref L]) := by
        rw [u8 _ (fun e => by rw [e, hL6] at ht6; cases ht6)]
        exact S67 _ _ ht6
      have bad : isCert sh n (.mk pr pl (qs ++ [.mk "made" (certOf sh n).l []])) = false := isCert_no fun e => by
        have e2 := congrArg List.length (congrArg Pp.ps e)
        rw [cert_ps, certs_len] at e2
        have e5 : (qs ++ [Pp.mk "made" (certOf sh n).l []]).length = n.ks.length := e2
        rw [List.length_append] at e5
        have : ([Pp.mk "made" (certOf sh n).l []] : List Pp).length = 1 := rfl
        omega
      refine ⟨gv, rfl, .int sh, rfl, .ref t2, rfl, gv, .ref t2, n, .mk pr pl (qs ++ [.mk "made" (certOf sh n).l []]), sh, fun _ => True, rfl, hg.kg (Same.kg (Same.trans S02 S28)), hok, hd, h0, h1, ⟨t2, L, _, rfl, trivial, ht28, trivial, hL8, kids8⟩, ⟨by rw [er]; exact k1, by rw [el]; exact k2, by rw [List.length_append, lq]; show n.ks.length + 1 ≤ 40; omega, Pp.oks_of fun p hp => ?_⟩, fun H9 S9 => ⟨_, false, rfl, rfl, _, rfl, ite2 (fun c => ?_) (fun _ => ?_)⟩⟩
      · rcases List.mem_append.mp hp with z | z
        · exact Pp.oks_mem oq p z
        · rw [List.mem_singleton.mp z]
          exact ⟨sg_made, k2, by show 0 ≤ 40; decide, trivial⟩
      · rw [bad] at c
        exact absurd c (by decide)
      have S29 := Same.trans S28 S9
      refine ⟨gv, rfl, .int sh, rfl, gv, n, sh, rfl, hg.kg (Same.kg (Same.trans S02 S29)), hok, hd, h0, h1, fun t5 H10 S10 hU10 => ?_⟩
      refine ⟨.ref t1, rfl, .ref t5, .ref t1, certOf sh n, fun _ => True, _, rfl, PpU.at (fun _ _ => trivial) hU10, due2.same (Same.trans S29 S10), cok, by omega, fun H11 S11 => ⟨true, rfl, ?_⟩⟩
      have S211 := Same.trans (Same.trans S29 S10) S11
      refine ⟨gv, rfl, .int sh, rfl, gv, n, sh, rfl, hg.kg (Same.kg (Same.trans S02 S211)), hok, hd, h0, h1, fun H12 S12 => ?_⟩
      refine ⟨.ref t1, rfl, t1, _, 1, _, rfl, rfl, due (Same.trans S211 S12), atI_nat (j := 1) rfl, rfl, ?_⟩
      have := q H12 (Same.trans S02 (Same.trans S211 S12))
      rw [decide_eq_true rfl]
      exact this
end
end Tb
namespace Tb
open PySem PySem.Spec PyProof.Rows L2
abbrev sJudged : Stmt := topS 39
abbrev NJudged : List Str := ["good", "node", "shares", "lands", "box", "right", "papers", "k", "path", "bend", "paper", "passed", "told"]
theorem scJudged : FnScope NJudged ["good", "node", "shares", "lands", "box"] (defScope sJudged) := ⟨rfl, rfl, rfl, by decide +kernel, rfl, by decide +kernel, by decide +kernel⟩
theorem eqv_cert {s : Int} {n : Nd} {q : Pp} (ok : (certOf s n).ok) : PyData.eqv q.enc (certOf s n).enc = isCert s n q := by
  cases e : isCert s n q with
  | true =>
    rw [isCert_iff.mp e]
    exact Pp.eqv_refl ok
  | false =>
    cases e2 : PyData.eqv q.enc (certOf s n).enc with
    | false => rfl
    | true =>
      rw [isCert_iff.mpr (Pp.eqv_eq _ _ e2)] at e
      cases e
theorem path_at {H : Hp} {a : Addr} {is : List Nat} (h : H a = some (.lst (is.map fun (k : Nat) => V.int (k : Int)))) : PathAt H (.ref a) := .inr ⟨a, is.map fun (k : Nat) => (k : Int), rfl, by rw [h, List.map_map]; rfl⟩
theorem PpsAt.kp {S : AS} {H H' : Hp} {n : List Pp} {v : List V} (h : PpsAt S H n v) (k : Kp H H') : PpsAt S H' n v := PpsAt.go (fun b o z e ni => ⟨z, k b o e ni⟩) h
theorem Box.kg {H H' : Hp} {p : Addr} (B : Box H p) (h : But p H H') : Kg H H' := by
  obtain ⟨_, _, _, _, hp, _⟩ := B
  exact But.kg hp h
theorem but_none {p : Addr} {H H' : Hp} (B : Box H' p) (h : But p H H') {b : Addr} (e : H' b = none) : H b = none := by
  cases e2 : H b with
  | none => rfl
  | some o =>
    exfalso
    by_cases c : b = p
    · obtain ⟨_, _, _, _, hp, _⟩ := B
      rw [c, hp] at e
      cases e
    rw [h b o e2 c] at e
    cases e
section
variable {P : Program} {w : World} {K : PySem.W.Frag} {mg : Str → Option Value} {base : Heap} {C : Addr}
abbrev CPath (P : Program) (w : World) (K : PySem.W.Frag) (mg : Str → Option Value) (base : Heap) (g : Addr) (gd : FuncData) := C1 P w K mg base "_law_path" sPath ["box", "node"] 2 spPath g gd
abbrev CBent (P : Program) (w : World) (K : PySem.W.Frag) (mg : Str → Option Value) (base : Heap) (g : Addr) (gd : FuncData) := C1 P w K mg base "_law_bent" sBent ["paper", "path", "bend"] 22 (spBent 10) g gd
/-- a list of papers under way: the list at D, the papers elsewhere -/
structure PapL (H : Hp) (D : Addr) (us : List V) (qs : List Pp) : Prop where
  d : H D = some (.lst us)
  a : PpsAt (fun b => b ≠ D) H qs us
  ok : ∀ q ∈ qs, q.ok ∧ q.d ≤ 10
theorem PapL.kp {H H' : Hp} {D : Addr} {us : List V} {qs : List Pp} (h : PapL H D us qs) (k : Kp H H') : PapL H' D us qs := ⟨k _ _ h.d h.a.ni, h.a.kp k, h.ok⟩
theorem PapL.snoc {H H1 H2 : Hp} {D : Addr} {us : List V} {qs : List Pp} {q : Pp} {v : V} (h : PapL H D us qs) (k : Kp H H1) (S : Same H1 H2) (hP : PpAt (New H1 H2) H2 q v) (qo : q.ok) (qd : q.d ≤ 10) : PapL (upd H2 D (.lst (us ++ [v]))) D (us ++ [v]) (qs ++ [q]) := by
  have h2 := h.kp (k.trans (Same.kp S))
  refine ⟨upd_same, PpsAt.snoc (PpsAt.go (fun b o z e _ => ⟨z, by rw [upd_ne z]; exact e⟩) h2.a) (PpAt.go (fun b o z e _ => ?_) hP), fun q0 hq => ?_⟩
  · have hb : b ≠ D := fun e2 => by
      rw [e2] at z
      exact absurd z.1 (some_ne (k _ _ h.d h.a.ni))
    exact ⟨hb, by rw [upd_ne hb]; exact e⟩
  · rcases List.mem_append.mp hq with z | z
    · exact h.ok q0 z
    · rw [List.mem_singleton.mp z]
      exact ⟨qo, qd⟩
def spJudged (K : PySem.W.Frag) (C : Addr) : Sp := fun vs H Q _ => ∃ (gv nv : V) (n : Nd) (s0 s1 : Int) (SH LA p : Addr) (las : List Str) (S : AS), vs = [gv, nv, .ref SH, .ref LA, .ref p] ∧ GdAt K C H n gv ∧ NdAt S H n nv ∧ n.ok ∧ n.d ≤ 9 ∧ H SH = some (.lst [.int s0, .int s1]) ∧ SH ≠ p ∧ (0 ≤ s0 ∧ s0 ≤ 100) ∧ (0 ≤ s1 ∧ s1 ≤ 100) ∧ Lns H LA las ∧ Box H p ∧
  ∀ (H' : Hp), Box H' p → But p H H' → Q (.bl true) H'
theorem ok_judged {f g1 g2 g3 g4 g5 g6 : Addr} {fd d1 d2 d3 d4 d5 d6 : FuncData} (F : Fun K "_law_judged" "_law_judged" sJudged f fd) (cPaper : CPaper P w K mg base 10 g1 d1) (cCopy : CCopy P w K mg base 10 g2 d2) (cPath : CPath P w K mg base g3 d3) (cDraw : CDraw P w K mg base g4 d4) (cBent : CBent P w K mg base g5 d5) (cCheck : CCheck P w K mg base C 10 g6 d6) (B : Blt mg) : FnOk P w K mg base CX0 23 f fd ["good", "node", "shares", "lands", "box"] (spJudged K C) := by
  refine F.ok scJudged (fun vs H Q E h => ?_) (fun cdv A outer s H vs Q E hr h => ?_)
  · obtain ⟨gv, nv, n, s0, s1, SH, LA, p, las, S, rfl, _⟩ := h
    rfl
  · obtain ⟨gv, nv, n, s0, s1, SH, LA, p, las, S, rfl, hg, hv, hok, hd, hSH, neS, hs0, hs1, hLA, hB, q⟩ := h
    refine ⟨_, (pss_cons (ps_set (i := 5) scJudged.nd rfl (.inl rfl) (pe_call cPaper.G (hr.mono (by first | decide | omega)) (by rfl) cPaper.D.g cPaper.D.F.kp cPaper.D.b .nil pass0 (pa_cons (pv 1) (pa_cons (pe_ix ix_list (pv 2) pe_int (fun _ _ => rfl)) (pa_cons pe_non (pa_cons pe_str pa_nil))))))
      (pss_cons (ps_set (i := 6) scJudged.nd rfl (.inl rfl) (pe_lst (pa_cons (pe_call cPaper.G (hr.mono (by first | decide | omega)) (by rfl) cPaper.D.g cPaper.D.F.kp cPaper.D.b .nil pass0 (pa_cons (pv 1) (pa_cons (pe_ix ix_list (pv 2) pe_int (fun _ _ => rfl)) (pa_cons pe_non (pa_cons pe_str pa_nil))))) (pa_cons (pe_call cCopy.G (hr.mono (by first | decide | omega)) (by rfl) cCopy.D.g cCopy.D.F.kp cCopy.D.b .nil pass0 (pa_cons (pv 5) pa_nil)) pa_nil))))
      (pss_cons (ps_for PassesOwn.never rfl (pi_range1 (by rfl) B.range (pa_cons pe_int pa_nil)) (pg_name (i := 7) scJudged.nd rfl (.inl rfl))
        (pss_cons (ps_set (i := 8) scJudged.nd rfl (.inl rfl) (pe_call cPath.G (hr.mono (by first | decide | omega)) (by rfl) cPath.D.g cPath.D.F.kp cPath.D.b .nil pass0 (pa_cons (pv 4) (pa_cons (pv 1) pa_nil))))
        (pss_one (ps_expr (pe_bm PySem.F.plainAttrs_list PySem.F.slot_list_append PySem.F.type_list_append mt_append (pv 6) (pa_cons (pe_call cPaper.G (hr.mono (by first | decide | omega)) (by rfl) cPaper.D.g cPaper.D.F.kp cPaper.D.b .nil pass0 (pa_cons (pv 1) (pa_cons (pe_ix ix_list (pv 2) pe_int (fun _ _ => rfl)) (pa_cons (pv 8) (pa_cons (pe_ix ix_list (pv 3) (pe_call cDraw.G (hr.mono (by first | decide | omega)) (by rfl) cDraw.D.g cDraw.D.F.kp cDraw.D.b .nil pass0 (pa_cons (pv 4) (pa_cons (pe_callB call_len_seq (by rfl) B.len PySem.boot_len (pa_cons (pv 3) pa_nil)) pa_nil))) (fun _ _ => rfl)) pa_nil))))) pa_nil))))))
      (pss_cons (ps_for PassesOwn.never rfl (pi_range1 (by rfl) B.range (pa_cons pe_int pa_nil)) (pg_name (i := 7) scJudged.nd rfl (.inl rfl))
        (pss_cons (ps_set (i := 8) scJudged.nd rfl (.inl rfl) (pe_call cPath.G (hr.mono (by first | decide | omega)) (by rfl) cPath.D.g cPath.D.F.kp cPath.D.b .nil pass0 (pa_cons (pv 4) (pa_cons (pv 1) pa_nil))))
        (pss_cons (ps_set (i := 9) scJudged.nd rfl (.inl rfl) (pe_lst (pa_cons (pe_call cDraw.G (hr.mono (by first | decide | omega)) (by rfl) cDraw.D.g cDraw.D.F.kp cDraw.D.b .nil pass0 (pa_cons (pv 4) (pa_cons pe_int pa_nil))) (pa_cons (pe_call cDraw.G (hr.mono (by first | decide | omega)) (by rfl) cDraw.D.g cDraw.D.F.kp cDraw.D.b .nil pass0 (pa_cons (pv 4) (pa_cons pe_int pa_nil))) (pa_cons (pe_ix ix_list (pv 3) (pe_call cDraw.G (hr.mono (by first | decide | omega)) (by rfl) cDraw.D.g cDraw.D.F.kp cDraw.D.b .nil pass0 (pa_cons (pv 4) (pa_cons (pe_callB call_len_seq (by rfl) B.len PySem.boot_len (pa_cons (pv 3) pa_nil)) pa_nil))) (fun _ _ => rfl)) pa_nil)))))
        (pss_one (ps_expr (pe_bm PySem.F.plainAttrs_list PySem.F.slot_list_append PySem.F.type_list_append mt_append (pv 6) (pa_cons (pe_call cBent.G (hr.mono (by first | decide | omega)) (by rfl) cBent.D.g cBent.D.F.kp cBent.D.b .nil pass0 (pa_cons (pv 5) (pa_cons (pv 8) (pa_cons (pv 9) pa_nil)))) pa_nil)))))))
      (pss_cons (ps_for PassesOwn.never rfl (pi_list (pv 6)) (pg_name (i := 10) scJudged.nd rfl (.inl rfl))
        (pss_cons (ps_set (i := 11) scJudged.nd rfl (.inl rfl) (pe_call cCopy.G (hr.mono (by first | decide | omega)) (by rfl) cCopy.D.g cCopy.D.F.kp cCopy.D.b .nil pass0 (pa_cons (pv 10) pa_nil)))
        (pss_cons (ps_set (i := 12) scJudged.nd rfl (.inl rfl) (pe_call cCheck.G (hr.mono (by first | decide | omega)) (by rfl) cCheck.D.g cCheck.D.F.kp cCheck.D.b .nil pass0 (pa_cons (pv 0) (pa_cons (pe_ix ix_list (pv 2) pe_int (fun _ _ => rfl)) (pa_cons (pv 11) pa_nil)))))
        (pss_cons (ps_ifJ (PW.pt (pw_and (pt_cmpR op_notBl (pv 12) pe_bl (nomark _)) (pw_and1 (pt_cmpR op_notBl (pv 12) pe_bl (nomark _)))))
          (pss_one (ps_ret pe_bl))
          pss_nil)
        (pss_one (ps_if (PW.pt (pw_or (pt_cmpR op_ne (pv 12) (pe_cmpR (op_eqD hr.units) (pv 10) (pv 5) (nomark _)) (nomark _)) (pw_or1 (pt_cmpR (op_neD hr.units) (pv 11) (pv 10) (nomark _)))))
          (pss_one (ps_ret pe_bl))
          pss_nil))))))
      (pss_one (ps_ret (pe_cmpR op_isBl (pe_call cCheck.G (hr.mono (by first | decide | omega)) (by rfl) cCheck.D.g cCheck.D.F.kp cCheck.D.b .nil pass0 (pa_cons (pv 0) (pa_cons (pe_ix ix_list (pv 2) pe_int (fun _ _ => rfl)) (pa_cons (pe_call cCopy.G (hr.mono (by first | decide | omega)) (by rfl) cCopy.D.g cCopy.D.F.kp cCopy.D.b .nil pass0 (pa_cons (pv 5) pa_nil)) pa_nil)))) pe_bl (nomark _))))))))), ?_⟩
    have hz : sizeLine = 16777216 := rfl
    have cok := cert_ok s0 n hok
    have cd := cert_d s0 n
    have n1 := hLA.n1
    have n2 := hLA.n2
    refine ⟨nv, rfl, .ref SH, rfl, SH, _, 0, .int s0, rfl, rfl, sqOf hSH, atI_nat (j := 0) rfl, nv, .non, n, s0, "", S, rfl, hv, hok, by omega, hs0.1, hs0.2, .inl rfl, sg_empty, fun tr H1 pr S1 hPr hcr _ _ => ?_⟩
    rw [hcr rfl] at hPr
    refine ⟨nv, rfl, .ref SH, rfl, SH, _, 0 + 1, .int s1, rfl, rfl, sqOf (S1 _ _ hSH), atI_nat (j := 1) rfl, nv, .non, n, s1, "", S, rfl, hv.same S1, hok, by omega, hs1.1, hs1.2, .inl rfl, sg_empty, fun t2 H2 q2 S2 hP2 _ ok2 dd2 => ?_⟩
    refine ⟨.ref tr, rfl, .ref tr, certOf s0 n, _, rfl, hPr.same S2, cok, by omega, fun t3 H3 S3 hP3 => ⟨by show 2 ≤ sizeLine; decide, fun D nD => ?_⟩⟩
    have S03 := Same.trans (Same.trans S1 S2) S3
    have right3 : PpAt (fun b => b ≠ D) H3 (certOf s0 n) (.ref tr) := PpAt.go (fun b o z e _ => ⟨(fun e2 => by rw [e2, nD] at e; cases e), e⟩) ((hPr.same S2).same S3)
    have two3 : PpAt (fun b => b ≠ D) H3 q2 (.ref t2) := PpAt.go (fun b o z e _ => ⟨(fun e2 => by rw [e2, nD] at e; cases e), e⟩) (hP2.same S3)
    have thr3 : PpAt (fun b => b ≠ D) H3 (certOf s0 n) (.ref t3) := PpAt.go (fun b o z e _ => ⟨(fun e2 => by rw [e2, nD] at e; cases e), e⟩) hP3
    have S34 : Same H3 (upd H3 D (.lst [.ref t2, .ref t3])) := same_upd nD
    have B4 := (hB.same S03).same S34
    have hDp : D ≠ p := (hB.same S03).off nD
    have pap4 : PapL (upd H3 D (.lst [.ref t2, .ref t3])) D [.ref t2, .ref t3] [q2, certOf s0 n] := ⟨upd_same, ⟨_, _, rfl, two3.same S34, _, _, rfl, thr3.same S34, rfl⟩, fun q0 hq => by
      rcases List.mem_cons.mp hq with z | z
      · rw [z]; exact ⟨ok2, by omega⟩
      · rw [List.mem_singleton.mp z]; exact ⟨cok, by omega⟩⟩
    have S04 := Same.trans S03 S34
    have nD0 : H D = none := same_none S03 nD
    -- what a loop keeps
    have hvk : ∀ {H1 : Hp}, But p H H1 → NdAt S H1 n nv := fun b => hv.kp (But.kp hB b)
    have hgk : ∀ {H1 : Hp}, But p H H1 → GdAt K C H1 n gv := fun b => hg.kg (hB.kg b)
    have hLk : ∀ {H1 : Hp}, But p H H1 → Lns H1 LA las := fun b => hLA.kp (But.kp hB b)
    have hSk : ∀ {H1 : Hp}, But p H H1 → SqL K H1 SH [.int s0, .int s1] := fun b => sqOf (b _ _ hSH neS)
    have upD : ∀ {H1 : Hp} {o : HO}, But p H H1 → But p H (upd H1 D o) := fun {H1 o} b c u e m => by
      rw [upd_ne (ne_of_none e nD0)]
      exact b c u e m
    refine ⟨2, rfl, by decide, by decide, ?_⟩
    refine for_range (lo := 0) (n := (2 : Int).toNat) (fun i σ H1 => ∃ (y7 y8 : Option V) (us : List V) (qs : List Pp), σ = [some gv, some nv, some (.ref SH), some (.ref LA), some (.ref p), some (.ref tr), some (.ref D), y7, y8, none, none, none, none] ∧ PapL H1 D us qs ∧ PpAt (fun b => b ≠ D) H1 (certOf s0 n) (.ref tr) ∧ Box H1 p ∧ But p H H1 ∧ qs.length = 2 + i) ⟨none, none, _, _, rfl, pap4, right3.same S34, B4, Same.but S04, rfl⟩ ?_ ?_
    · rintro i σ H1 hi ⟨y7, y8, us, qs, rfl, pl, rt, B1, b1, lq⟩
      have hi2 : i < 2 := hi
      have lu := pl.a.len
      refine ⟨.ref p, rfl, nv, rfl, p, nv, n, S, rfl, B1, hvk b1, hok, fun a is H2 na ha hf l8 B2 b2 => ?_⟩
      have b02 := b1.trans b2
      have pl2 := pl.kp (But.kp B1 b2)
      have nap : a ≠ p := B1.off na
      refine ⟨.ref D, rfl, .inl ⟨rfl, _, sqOf pl2.d⟩, nv, rfl, .ref SH, rfl, SH, _, 0, .int s0, rfl, rfl, hSk b02, atI_nat (j := 0) rfl, .ref a, rfl, .ref LA, rfl, .ref p, rfl, .ref LA, rfl, LA, _, rfl, .inl (sqOf (hLk b02).l), p, _, rfl, B2, by rw [List.length_map]; omega, fun y H3 y0 y1 B3 b3 => ?_⟩
      rw [List.length_map] at y1
      have yl : y.toNat < las.length := by omega
      have b03 := b02.trans b3
      have k13 := (But.kp B1 b2).trans (But.kp B2 b3)
      refine ⟨LA, _, y, .str las[y.toNat], rfl, rfl, sqOf (hLk b03).l, at_nat y0 (strs_at yl), nv, .ref a, n, s0, las[y.toNat], S, rfl, hvk b03, hok, by omega, hs0.1, hs0.2, path_at (b3 _ _ ha nap), (nm_tx (hLA.d _ (List.getElem_mem yl))).sg, fun t4 H4 p4 S4 hP4 _ ok4 d4 => ?_⟩
      have pl3 := pl.kp k13
      refine ⟨D, us, .ref t4, rfl, rfl, S4 _ _ pl3.d, small1000 (by omega), _, _, _, _, rfl, pl.snoc k13 S4 hP4 ok4 (by omega), ?_, (B3.same S4).upd hDp, upD (b03.trans (Same.but S4)), by rw [List.length_append, lq]; rfl⟩
      exact PpAt.go (fun b o z e _ => ⟨z, by rw [upd_ne z]; exact e⟩) ((rt.kp k13).same S4)
    rintro σ H5 ⟨y7, y8, us, qs, rfl, pl, rt, B5, b5, lq⟩
    refine ⟨4, rfl, by decide, by decide, ?_⟩
    refine for_range (lo := 0) (n := (4 : Int).toNat) (fun i σ H1 => ∃ (y7 y8 y9 : Option V) (us : List V) (qs : List Pp), σ = [some gv, some nv, some (.ref SH), some (.ref LA), some (.ref p), some (.ref tr), some (.ref D), y7, y8, y9, none, none, none] ∧ PapL H1 D us qs ∧ PpAt (fun b => b ≠ D) H1 (certOf s0 n) (.ref tr) ∧ Box H1 p ∧ But p H H1 ∧ qs.length = 4 + i) ⟨y7, y8, none, us, qs, rfl, pl, rt, B5, b5, lq⟩ ?_ ?_
    · clear rt pl lq b5 B5
      rintro i σ H1 hi ⟨y7, y8, y9, us, qs, rfl, pl, rt, B1, b1, lq⟩
      have hi4 : i < 4 := hi
      have lu := pl.a.len
      refine ⟨.ref p, rfl, nv, rfl, p, nv, n, S, rfl, B1, hvk b1, hok, fun a is H2 na ha hf l8 B2 b2 => ?_⟩
      have b02 := b1.trans b2
      have nap : a ≠ p := B1.off na
      refine ⟨.ref p, rfl, p, 6, rfl, B2, by decide, fun e0 H3 _ _ B3 b3 => ⟨.ref p, rfl, p, 60, rfl, B3, by decide, fun e1 H4 _ _ B4 b4 => ?_⟩⟩
      have b04 := (b02.trans b3).trans b4
      refine ⟨.ref LA, rfl, .ref p, rfl, .ref LA, rfl, LA, _, rfl, .inl (sqOf (hLk b04).l), p, _, rfl, B4, by rw [List.length_map]; omega, fun y H5 y0 y1 B5 b5 => ?_⟩
      rw [List.length_map] at y1
      have yl : y.toNat < las.length := by omega
      have b05 := b04.trans b5
      have ha5 : H5 a = some (.lst (is.map fun (k : Nat) => V.int (k : Int))) := b5 _ _ (b4 _ _ (b3 _ _ ha nap) nap) nap
      have k15 := (((But.kp B1 b2).trans (But.kp B2 b3)).trans (But.kp B3 b4)).trans (But.kp B4 b5)
      refine ⟨LA, _, y, .str las[y.toNat], rfl, rfl, sqOf (hLk b05).l, at_nat y0 (strs_at yl), by show 3 ≤ sizeLine; decide, fun e nE => ?_⟩
      have S56 : Same H5 (upd H5 e (.lst [.int e0, .int e1, .str las[y.toNat]])) := same_upd nE
      have k16 := k15.trans (Same.kp S56)
      have pl6 := pl.kp k16
      refine ⟨.ref D, rfl, .inl ⟨rfl, _, sqOf pl6.d⟩, .ref tr, rfl, .ref a, rfl, .ref e, rfl, ?_⟩
      refine ⟨.ref tr, n, s0, a, e, is, e0, e1, las[y.toNat], _, rfl, rt.kp k16, hok, by omega, S56 _ _ ha5, hf, upd_same, (nm_tx (hLA.d _ (List.getElem_mem yl))).sg, fun t7 H7 p7 S7 hP7 ok7 d7 => ?_⟩
      refine ⟨D, us, .ref t7, rfl, rfl, S7 _ _ pl6.d, small1000 (by omega), _, _, _, _, _, rfl, pl.snoc k16 S7 hP7 ok7 (by omega), ?_, ((B5.same S56).same S7).upd hDp, upD ((b05.trans (Same.but S56)).trans (Same.but S7)), by rw [List.length_append, lq]; rfl⟩
      exact PpAt.go (fun b o z e _ => ⟨z, by rw [upd_ne z]; exact e⟩) ((rt.kp k16).same S7)
    clear rt pl lq b5 B5
    rintro σ H6 ⟨y7, y8, y9, us, qs, rfl, pl, rt, B6, b6, lq⟩
    refine ⟨.ref D, rfl, D, rfl, ⟨us, sqOf pl.d⟩, ?_⟩
    refine for_it (walk_list (K := K) (a := D) (xs := us)) (fun i σ H1 => ∃ (y10 y11 y12 : Option V), σ = [some gv, some nv, some (.ref SH), some (.ref LA), some (.ref p), some (.ref tr), some (.ref D), y7, y8, y9, y10, y11, y12] ∧ Same H6 H1) ⟨none, none, none, rfl, Same.refl _⟩ (fun i σ H1 _ hP => ?_) (fun i v σ H1 H2 hi hP hy => ?_) (fun σ H1 hP => ?_)
    · obtain ⟨_, _, _, _, S⟩ := hP
      exact sqOf (S _ _ pl.d)
    · obtain ⟨y10, y11, y12, rfl, S1⟩ := hP
      obtain ⟨rfl, ev⟩ := hy
      obtain ⟨q1, eq1, g1⟩ := pl.a.at ev
      obtain ⟨ok1, dd1⟩ := pl.ok q1 (List.mem_of_getElem? eq1)
      refine ⟨v, rfl, v, q1, _, rfl, g1.same S1, ok1, by omega, fun t2 H3 S3 hP3 => ?_⟩
      have S63 := Same.trans S1 S3
      have b3 := b6.trans (Same.but S63)
      refine ⟨gv, rfl, .ref SH, rfl, SH, _, 0, .int s0, rfl, rfl, hSk b3, atI_nat (j := 0) rfl, .ref t2, rfl, gv, .ref t2, n, q1, s0, _, rfl, hgk b3, hok, by omega, hs0.1, hs0.2, hP3, ok1, fun H4 S4 => ?_⟩
      refine ⟨fun H5 => H5 = H4, ?_, ?_⟩
      · refine ⟨_, rfl, _, true, rfl, rfl, _, rfl, ite2 (fun c => ?_) (fun _ => rfl)⟩
        refine ⟨_, rfl, _, false, rfl, rfl, _, rfl, ite2 (fun c2 => ?_) (fun _ => rfl)⟩
        cases e : isCert s0 n q1 with
        | true => rw [e] at c; exact absurd c (by decide)
        | false => rw [e] at c2; exact absurd c2 (by decide)
      · rintro H5 rfl
        have S64 := Same.trans S63 S4
        have S14 := Same.trans S3 S4
        refine ⟨_, rfl, v, rfl, .ref tr, rfl, q1.enc, (certOf s0 n).enc, (g1.same S64).dp, (rt.same S64).dp, shaped_pp ok1 (by omega), shaped_pp cok (by omega), ?_⟩
        rw [eqv_cert cok]
        refine ⟨rfl, _, rfl, ite2 (fun c => absurd c (ne_no rfl)) (fun _ => ?_)⟩
        refine ⟨.ref t2, rfl, v, rfl, q1.enc, q1.enc, (hP3.same S4).dp, (g1.same S64).dp, shaped_pp ok1 (by omega), shaped_pp ok1 (by omega), ?_⟩
        rw [Pp.eqv_refl ok1]
        exact ⟨_, rfl, _, _, _, rfl, S64⟩
    · obtain ⟨y10, y11, y12, rfl, S1⟩ := hP
      have b1 := b6.trans (Same.but S1)
      refine ⟨gv, rfl, .ref SH, rfl, SH, _, 0, .int s0, rfl, rfl, hSk b1, atI_nat (j := 0) rfl, .ref tr, rfl, .ref tr, certOf s0 n, _, rfl, rt.same S1, cok, by omega, fun t2 H3 S3 hP3 => ?_⟩
      have b3 := b1.trans (Same.but S3)
      refine ⟨gv, .ref t2, n, certOf s0 n, s0, _, rfl, hgk b3, hok, by omega, hs0.1, hs0.2, hP3, cok, fun H4 S4 => ?_⟩
      rw [isCert_iff.mpr rfl]
      exact ⟨true, true, rfl, rfl, q H4 (((B6.same S1).same S3).same S4) (b3.trans (Same.but S4))⟩
end
end Tb
set_option maxHeartbeats 4000000
namespace Tb
open PySem PySem.Spec PyProof.Rows L2
abbrev sLaw : Stmt := topS 41
abbrev NLaw : List Str := ["script", "box", "shares", "lands", "leads", "menus", "way", "first", "second", "one", "two", "sure", "three", "due", "paper", "told"]
theorem scLaw : FnScope NLaw ["script"] (defScope sLaw) := ⟨rfl, rfl, rfl, by decide +kernel, rfl, by decide +kernel, by decide +kernel⟩
theorem but_same {p : Addr} {H0 H1 H2 : Hp} (S : Same H0 H1) (n : H0 p = none) (b : But p H1 H2) : Same H0 H2 := fun c o e => b c o (S c o e) (ne_of_none e n)
theorem but2_same {p F : Addr} {H0 H1 H2 : Hp} (S : Same H0 H1) (n : H0 p = none) (m : H0 F = none) (b : But2 p F H1 H2) : Same H0 H2 := fun c o e => b c o (S c o e) (ne_of_none e n) (ne_of_none e m)
theorem NdAt.wk {S : AS} {H : Hp} {n : Nd} {v : V} (h : NdAt S H n v) : NdAt (fun _ => True) H n v := NdAt.go (fun b o _ e _ => ⟨trivial, e⟩) h
section
variable {P : Program} {w : World} {K : PySem.W.Frag} {mg : Str → Option Value} {base : Heap} {C : Addr}
abbrev CBox (P : Program) (w : World) (K : PySem.W.Frag) (mg : Str → Option Value) (base : Heap) (g : Addr) (gd : FuncData) := C1 P w K mg base "_law_box" sBox ["script", "k"] 2 (spBox K) g gd
abbrev CShare (P : Program) (w : World) (K : PySem.W.Frag) (mg : Str → Option Value) (base : Heap) (g : Addr) (gd : FuncData) := C1 P w K mg base "_law_share" sShare ["box"] 2 (spInt fun z => 0 ≤ z ∧ z ≤ 100) g gd
abbrev CLands (P : Program) (w : World) (K : PySem.W.Frag) (mg : Str → Option Value) (base : Heap) (g : Addr) (gd : FuncData) := C1 P w K mg base "_law_lands" sLands ["box"] 3 spLands g gd
abbrev CSure (P : Program) (w : World) (K : PySem.W.Frag) (mg : Str → Option Value) (base : Heap) (g : Addr) (gd : FuncData) := C1 P w K mg base "_law_sure" sSure ["box", "lands", "lead"] 3 spSure g gd
abbrev CMade (P : Program) (w : World) (K : PySem.W.Frag) (mg : Str → Option Value) (base : Heap) (C : Addr) (d : Nat) (g : Addr) (gd : FuncData) := C1 P w K mg base "_law_made" sMade ["node", "way"] (6 + d) (spLMade K C d) g gd
abbrev CAgrees (P : Program) (w : World) (K : PySem.W.Frag) (mg : Str → Option Value) (base : Heap) (C : Addr) (d : Nat) (g : Addr) (gd : FuncData) := C1 P w K mg base "_law_agrees" sAgrees ["good", "node", "share"] (6 + d) (spAgrees K C d) g gd
abbrev CJudged (P : Program) (w : World) (K : PySem.W.Frag) (mg : Str → Option Value) (base : Heap) (C : Addr) (g : Addr) (gd : FuncData) := C1 P w K mg base "_law_judged" sJudged ["good", "node", "shares", "lands", "box"] 23 (spJudged K C) g gd
def spLaw (K : PySem.W.Frag) : Sp := fun vs H Q _ => ∃ (a : Addr) (ns : List Int), vs = [.ref a] ∧ SqL K H a (ns.map V.int) ∧ ns.length ≤ 63 ∧ ∀ H', Q (.bl true) H'
theorem ok_law {f g1 g2 g3 g4 g5 g6 g7 g8 g9 g10 g11 g12 g13 g14 g15 g16 : Addr} {fd d1 d2 d3 d4 d5 d6 d7 d8 d9 d10 d11 d12 d13 d14 d15 d16 : FuncData} (F : Fun K "law" "law" sLaw f fd) (cBox : CBox P w K mg base g1 d1) (cShare : CShare P w K mg base g2 d2) (cLands : CLands P w K mg base g3 d3) (cDigits : CDigits P w K mg base g4 d4) (cDraw : CDraw P w K mg base g5 d5) (cNode : CNode P w K mg base 22 (spNode 8) g6 d6) (cMade : CMade P w K mg base C 10 g7 d7) (cSure : CSure P w K mg base g8 d8) (cJudged : CJudged P w K mg base C g9 d9) (cAgrees : CAgrees P w K mg base C 10 g10 d10) (cPaper : CPaper P w K mg base 10 g11 d11) (cOrigin : COrigin P w K mg base C 10 g12 d12) (cOPaper : COPaper P w K mg base C 10 g13 d13) (cSame : CSame P w K mg base 10 g14 d14) (cCopy : CCopy P w K mg base 10 g15 d15) (cCheck : CCheck P w K mg base C 10 g16 d16) (B : Blt mg) : FnOk P w K mg base CX0 24 f fd ["script"] (spLaw K) := by
  refine F.ok scLaw (fun vs H Q E h => ?_) (fun cdv A outer s H vs Q E hr h => ?_)
  · obtain ⟨a, ns, rfl, _⟩ := h
    rfl
  · obtain ⟨a, ns, rfl, hS, hl, q⟩ := h
    obtain ⟨dsO, vOd, bOd⟩ := cOrigin.D.d
    obtain ⟨dsP, vPd, bPd⟩ := cOPaper.D.d
    refine ⟨_, (C8.pss_cut (ps_set (i := 1) scLaw.nd rfl (.inl rfl) (pe_call cBox.G (hr.mono (by first | decide | omega)) (by rfl) cBox.D.g cBox.D.F.kp cBox.D.b .nil pass0 (pa_cons (pv 0) (pa_cons pe_int pa_nil))))
      (pss_cons (ps_set (i := 2) scLaw.nd rfl (.inl rfl) (pe_lst (pa_cons (pe_call cShare.G (hr.mono (by first | decide | omega)) (by rfl) cShare.D.g cShare.D.F.kp cShare.D.b .nil pass0 (pa_cons (pv 1) pa_nil)) (pa_cons (pe_call cShare.G (hr.mono (by first | decide | omega)) (by rfl) cShare.D.g cShare.D.F.kp cShare.D.b .nil pass0 (pa_cons (pv 1) pa_nil)) pa_nil))))
      (pss_cons (ps_set (i := 3) scLaw.nd rfl (.inl rfl) (pe_call cLands.G (hr.mono (by first | decide | omega)) (by rfl) cLands.D.g cLands.D.F.kp cLands.D.b .nil pass0 (pa_cons (pv 1) pa_nil)))
      (pss_cons (ps_set (i := 4) scLaw.nd rfl (.inl rfl) (pe_lst (pa_cons (pe_call cDigits.G (hr.mono (by first | decide | omega)) (by rfl) cDigits.D.g cDigits.D.F.kp cDigits.D.b .nil pass0 (pa_cons (pv 1) (pa_cons pe_int pa_nil))) (pa_cons (pe_call cDigits.G (hr.mono (by first | decide | omega)) (by rfl) cDigits.D.g cDigits.D.F.kp cDigits.D.b .nil pass0 (pa_cons (pv 1) (pa_cons pe_int pa_nil))) pa_nil))))
      (pss_cons (ps_set (i := 5) scLaw.nd rfl (.inl rfl) (pe_lst (pa_cons (pv 3) (pa_cons (pv 4) (pa_cons (pe_ix ix_list (pv 2) pe_int (fun _ _ => rfl)) (pa_cons (pe_callTy call_int1 (by rfl) B.int PyProof.Rows.boot_int (pa_cons (pe_cmpR op_eq (pe_call cDraw.G (hr.mono (by first | decide | omega)) (by rfl) cDraw.D.g cDraw.D.F.kp cDraw.D.b .nil pass0 (pa_cons (pv 1) (pa_cons pe_int pa_nil))) pe_int (nomark _)) pa_nil)) pa_nil))))))
      (pss_cons (ps_set (i := 6) scLaw.nd rfl (.inl rfl) (pe_call cDraw.G (hr.mono (by first | decide | omega)) (by rfl) cDraw.D.g cDraw.D.F.kp cDraw.D.b .nil pass0 (pa_cons (pv 1) (pa_cons pe_int pa_nil))))
      (C8.pss_cut (ps_set (i := 1) scLaw.nd rfl (.inl rfl) (pe_call cBox.G (hr.mono (by first | decide | omega)) (by rfl) cBox.D.g cBox.D.F.kp cBox.D.b .nil pass0 (pa_cons (pv 0) (pa_cons pe_int pa_nil))))
      (pss_cons (ps_set (i := 7) scLaw.nd rfl (.inl rfl) (pe_call cNode.G (hr.mono (by first | decide | omega)) (by rfl) cNode.D.g cNode.D.F.kp cNode.D.b .nil pass0 (pa_cons (pv 1) (pa_cons (pv 5) (pa_cons (pe_lst (pa_cons (pe_call cDraw.G (hr.mono (by first | decide | omega)) (by rfl) cDraw.D.g cDraw.D.F.kp cDraw.D.b .nil pass0 (pa_cons (pv 1) (pa_cons pe_int pa_nil))) pa_nil)) (pa_cons pe_int pa_nil))))))
      (C8.pss_cut (ps_set (i := 1) scLaw.nd rfl (.inl rfl) (pe_call cBox.G (hr.mono (by first | decide | omega)) (by rfl) cBox.D.g cBox.D.F.kp cBox.D.b .nil pass0 (pa_cons (pv 0) (pa_cons pe_int pa_nil))))
      (pss_cons (ps_set (i := 8) scLaw.nd rfl (.inl rfl) (pe_call cNode.G (hr.mono (by first | decide | omega)) (by rfl) cNode.D.g cNode.D.F.kp cNode.D.b .nil pass0 (pa_cons (pv 1) (pa_cons (pv 5) (pa_cons (pe_lst (pa_cons (pe_call cDraw.G (hr.mono (by first | decide | omega)) (by rfl) cDraw.D.g cDraw.D.F.kp cDraw.D.b .nil pass0 (pa_cons (pv 1) (pa_cons pe_int pa_nil))) pa_nil)) (pa_cons pe_int pa_nil))))))
      (pss_cons (ps_set (i := 9) scLaw.nd rfl (.inl rfl) (pe_call cMade.G (hr.mono (by first | decide | omega)) (by rfl) cMade.D.g cMade.D.F.kp cMade.D.b .nil pass0 (pa_cons (pv 7) (pa_cons (pv 6) pa_nil))))
      (pss_cons (ps_set (i := 10) scLaw.nd rfl (.inl rfl) (pe_call cMade.G (hr.mono (by first | decide | omega)) (by rfl) cMade.D.g cMade.D.F.kp cMade.D.b .nil pass0 (pa_cons (pv 8) (pa_cons (pe_op op_sub pe_int (pv 6)) pa_nil))))
      (C8.pss_cut (ps_set (i := 1) scLaw.nd rfl (.inl rfl) (pe_call cBox.G (hr.mono (by first | decide | omega)) (by rfl) cBox.D.g cBox.D.F.kp cBox.D.b .nil pass0 (pa_cons (pv 0) (pa_cons pe_int pa_nil))))
      (pss_cons (ps_set (i := 11) scLaw.nd rfl (.inl rfl) (pe_call cSure.G (hr.mono (by first | decide | omega)) (by rfl) cSure.D.g cSure.D.F.kp cSure.D.b .nil pass0 (pa_cons (pv 1) (pa_cons (pv 3) (pa_cons (pe_ix ix_list (pv 4) pe_int (fun _ _ => rfl)) pa_nil)))))
      (pss_cons (ps_set (i := 12) scLaw.nd rfl (.inl rfl) (pe_call cMade.G (hr.mono (by first | decide | omega)) (by rfl) cMade.D.g cMade.D.F.kp cMade.D.b .nil pass0 (pa_cons (pv 11) (pa_cons (pv 6) pa_nil))))
      (C8.pss_cut (ps_if (PW.pt (pw_or (pt_not (pt_val (pe_call cJudged.G (hr.mono (by first | decide | omega)) (by rfl) cJudged.D.g cJudged.D.F.kp cJudged.D.b .nil pass0 (pa_cons (pv 9) (pa_cons (pv 7) (pa_cons (pv 2) (pa_cons (pv 3) (pa_cons (pv 1) pa_nil)))))))) (pw_or1 (pt_not (pt_val (pe_call cJudged.G (hr.mono (by first | decide | omega)) (by rfl) cJudged.D.g cJudged.D.F.kp cJudged.D.b .nil pass0 (pa_cons (pv 12) (pa_cons (pv 11) (pa_cons (pv 2) (pa_cons (pv 3) (pa_cons (pv 1) pa_nil)))))))))))
        (pss_one (ps_ret pe_bl))
        pss_nil)
      (C8.pss_cut (ps_if (PW.pt (pw_or (pt_not (pt_val (pe_call cAgrees.G (hr.mono (by first | decide | omega)) (by rfl) cAgrees.D.g cAgrees.D.F.kp cAgrees.D.b .nil pass0 (pa_cons (pv 12) (pa_cons (pv 11) (pa_cons (pe_ix ix_list (pv 2) pe_int (fun _ _ => rfl)) pa_nil)))))) (pw_or1 (pt_not (pt_val (pe_call cAgrees.G (hr.mono (by first | decide | omega)) (by rfl) cAgrees.D.g cAgrees.D.F.kp cAgrees.D.b .nil pass0 (pa_cons (pv 12) (pa_cons (pv 11) (pa_cons (pe_ix ix_list (pv 2) pe_int (fun _ _ => rfl)) pa_nil)))))))))
        (pss_one (ps_ret pe_bl))
        pss_nil)
      (C8.pss_cut (ps_if (PW.pt (pw_or (pt_not (pt_val (pe_call cAgrees.G (hr.mono (by first | decide | omega)) (by rfl) cAgrees.D.g cAgrees.D.F.kp cAgrees.D.b .nil pass0 (pa_cons (pv 9) (pa_cons (pv 7) (pa_cons (pe_ix ix_list (pv 2) pe_int (fun _ _ => rfl)) pa_nil)))))) (pw_or1 (pt_not (pt_val (pe_call cAgrees.G (hr.mono (by first | decide | omega)) (by rfl) cAgrees.D.g cAgrees.D.F.kp cAgrees.D.b .nil pass0 (pa_cons (pv 10) (pa_cons (pv 8) (pa_cons (pe_ix ix_list (pv 2) pe_int (fun _ _ => rfl)) pa_nil)))))))))
        (pss_one (ps_ret pe_bl))
        pss_nil)
      (C8.pss_cut (ps_if (PW.pt (pw_or (pt_not (pt_val (pe_call cAgrees.G (hr.mono (by first | decide | omega)) (by rfl) cAgrees.D.g cAgrees.D.F.kp cAgrees.D.b .nil pass0 (pa_cons (pv 9) (pa_cons (pv 7) (pa_cons (pe_ix ix_list (pv 2) pe_int (fun _ _ => rfl)) pa_nil)))))) (pw_or1 (pt_not (pt_val (pe_call cAgrees.G (hr.mono (by first | decide | omega)) (by rfl) cAgrees.D.g cAgrees.D.F.kp cAgrees.D.b .nil pass0 (pa_cons (pv 9) (pa_cons (pv 7) (pa_cons (pe_ix ix_list (pv 2) pe_int (fun _ _ => rfl)) pa_nil)))))))))
        (pss_one (ps_ret pe_bl))
        pss_nil)
      (pss_cons (ps_set (i := 13) scLaw.nd rfl (.inl rfl) (pe_call cPaper.G (hr.mono (by first | decide | omega)) (by rfl) cPaper.D.g cPaper.D.F.kp cPaper.D.b .nil pass0 (pa_cons (pv 8) (pa_cons pe_int (pa_cons pe_non (pa_cons pe_str pa_nil))))))
      (C8.pss_cut (ps_if (PW.pt (pw_or (pt_cmpR op_ne (pe_call cOrigin.G (hr.mono (by first | decide | omega)) (by rfl) cOrigin.D.g cOrigin.D.F.kp bOd vOd pass0 (pa_cons (pv 10) pa_nil)) (pe_ix ix_tup (pv 13) pe_int (fun _ _ => rfl)) (nomark _)) (pw_or1 (pt_not (pt_val (pe_call cSame.G (hr.mono (by first | decide | omega)) (by rfl) cSame.D.g cSame.D.F.kp cSame.D.b .nil pass0 (pa_cons (pe_call cOPaper.G (hr.mono (by first | decide | omega)) (by rfl) cOPaper.D.g cOPaper.D.F.kp bPd vPd pass0 (pa_cons (pv 10) pa_nil)) (pa_cons (pv 13) pa_nil))))))))
        (pss_one (ps_ret pe_bl))
        pss_nil)
      (pss_cons (ps_set (i := 14) scLaw.nd rfl (.inl rfl) (pe_call cPaper.G (hr.mono (by first | decide | omega)) (by rfl) cPaper.D.g cPaper.D.F.kp cPaper.D.b .nil pass0 (pa_cons (pv 7) (pa_cons pe_int (pa_cons pe_non (pa_cons pe_str pa_nil))))))
      (pss_cons (ps_set (i := 15) scLaw.nd rfl (.inl rfl) (pe_call cCheck.G (hr.mono (by first | decide | omega)) (by rfl) cCheck.D.g cCheck.D.F.kp cCheck.D.b .nil pass0 (pa_cons (pv 10) (pa_cons pe_int (pa_cons (pe_call cCopy.G (hr.mono (by first | decide | omega)) (by rfl) cCopy.D.g cCopy.D.F.kp cCopy.D.b .nil pass0 (pa_cons (pv 14) pa_nil)) pa_nil)))))
      (C8.pss_cut (ps_if (PW.pt (pw_or (PW.pt (pw_and (pt_cmpR op_notBl (pv 15) pe_bl (nomark _)) (pw_and1 (pt_cmpR op_notBl (pv 15) pe_bl (nomark _))))) (pw_or1 (pt_cmpR op_ne (pv 15) (pe_cmpR (op_eqD hr.units) (pv 14) (pv 13) (nomark _)) (nomark _)))))
        (pss_one (ps_ret pe_bl))
        pss_nil)
      (pss_one (ps_ret (pe_call cJudged.G (hr.mono (by first | decide | omega)) (by rfl) cJudged.D.g cJudged.D.F.kp cJudged.D.b .nil pass0 (pa_cons (pv 10) (pa_cons (pv 8) (pa_cons (pv 2) (pa_cons (pv 3) (pa_cons (pv 1) pa_nil)))))))))))))))))))))))))))))))), ?_⟩
    have hz : sizeLine = 16777216 := rfl
    -- the draws of the lands
    refine ⟨fun σ H1 => ∃ p1, σ = [some (.ref a), some (.ref p1), none, none, none, none, none, none, none, none, none, none, none, none, none, none] ∧ H p1 = none ∧ Box H1 p1 ∧ Same H H1, ⟨.ref a, rfl, a, ns, 0, rfl, hS, by decide, fun p1 H1 np1 B1 S1 => ⟨p1, rfl, np1, B1, S1⟩⟩, ?_⟩
    rintro σ H1 ⟨p1, rfl, np1, B1, S1⟩
    refine ⟨.ref p1, rfl, p1, rfl, B1, fun s0 H2 hs0 B2 b2 => ⟨.ref p1, rfl, p1, rfl, B2, fun s1 H3 hs1 B3 b3 => ⟨by show 2 ≤ sizeLine; decide, fun SH nSH => ?_⟩⟩⟩
    have b13 := b2.trans b3
    have b14 : But p1 H1 (upd H3 SH (.lst [.int s0, .int s1])) := b13.trans (Same.but (same_upd nSH))
    have B4 : Box (upd H3 SH (.lst [.int s0, .int s1])) p1 := B3.same (same_upd nSH)
    have hSp1 : SH ≠ p1 := B3.off nSH
    refine ⟨.ref p1, rfl, p1, rfl, B4, fun LA las H5 nLA hLA B5 b5 => ?_⟩
    have hSH5 : H5 SH = some (.lst [.int s0, .int s1]) := b5 _ _ upd_same hSp1
    refine ⟨.ref p1, rfl, p1, 2, rfl, B5, by decide, fun e0 H6 le0 de0 B6 b6 => ⟨.ref p1, rfl, p1, 2, rfl, B6, by decide, fun e1 H7 le1 de1 B7 b7 => ⟨by show 2 ≤ sizeLine; decide, fun LE nLE => ?_⟩⟩⟩
    have S78 : Same H7 (upd H7 LE (.lst [.str e0, .str e1])) := same_upd nLE
    have hLE : Leads (upd H7 LE (.lst [.str e0, .str e1])) LE [e0, e1] := ⟨upd_same, rfl, fun x hx => by
      rcases List.mem_cons.mp hx with z | z
      · rw [z]; exact ⟨de0, le0⟩
      · rw [List.mem_singleton.mp z]; exact ⟨de1, le1⟩⟩
    have B8 := B7.same S78
    have k58 := ((But.kp B5 b6).trans (But.kp B6 b7)).trans (Same.kp S78)
    have hLA8 := hLA.kp k58
    have hSH8 := S78 _ _ (b7 _ _ (b6 _ _ hSH5 hSp1) hSp1)
    refine ⟨.ref LA, rfl, .ref LE, rfl, .ref SH, rfl, SH, _, 0, .int s0, rfl, rfl, sqOf hSH8, atI_nat (j := 0) rfl, .ref p1, rfl, p1, 8, rfl, B8, by decide, fun y H9 _ _ B9 b9 => ⟨rfl, ?_⟩⟩
    refine .inr ⟨_, rfl, by show 4 ≤ sizeLine; decide, fun M nM => ?_⟩
    generalize ez : (if decide (V.int y = V.int 1) = true then (1 : Int) else 0) = z
    have z0 : 0 ≤ z := by rw [← ez]; split <;> decide
    have z1 : z ≤ 1 := by rw [← ez]; split <;> decide
    have S9 : Same H9 (upd H9 M (.lst [.ref LA, .ref LE, .int s0, .int z])) := same_upd nM
    have k89 := But.kp B8 b9
    have hM0 : Menus (upd H9 M (.lst [.ref LA, .ref LE, .int s0, .int z])) M LA LE las [e0, e1] s0 z := ⟨upd_same, (hLA8.kp k89).kp (Same.kp S9), (hLE.kp k89).kp (Same.kp S9), hs0.1, hs0.2, z0, z1⟩
    have B10 := B9.same S9
    refine ⟨.ref p1, rfl, p1, 8, rfl, B10, by decide, fun way HA _ _ BA bA => ?_⟩
    have hMA := hM0.kp (But.kp B10 bA)
    have hSHA : HA SH = some (.lst [.int s0, .int s1]) := bA _ _ (S9 _ _ (b9 _ _ hSH8 hSp1)) hSp1
    have b1A : But p1 H1 HA := ((((((b14.trans b5).trans b6).trans b7).trans (Same.but S78)).trans b9).trans (Same.but S9)).trans bA
    have SA : Same H HA := but_same S1 np1 b1A
    -- the first tree
    refine ⟨fun σ H1 => ∃ p2, σ = [some (.ref a), some (.ref p2), some (.ref SH), some (.ref LA), some (.ref LE), some (.ref M), some (.int way), none, none, none, none, none, none, none, none, none] ∧ HA p2 = none ∧ Box H1 p2 ∧ Same HA H1, ⟨.ref a, rfl, a, ns, 1, rfl, sqL_same hS SA, by decide, fun p2 H11 np2 B11 S11 => ⟨p2, rfl, np2, B11, S11⟩⟩, ?_⟩
    rintro σ H11 ⟨p2, rfl, np2, B11, S11⟩
    refine ⟨.ref p2, rfl, .ref M, rfl, .ref p2, rfl, p2, 24, rfl, B11, by decide, fun x1 H12 _ _ B12 b12 => ⟨by show 1 ≤ sizeLine; decide, fun F1 nF1 => ?_⟩⟩
    have SA12 := but_same S11 np2 b12
    have S12 : Same H12 (upd H12 F1 (.lst [.int x1])) := same_upd nF1
    have nF1A : HA F1 = none := same_none SA12 nF1
    refine ⟨p2, M, F1, LA, LE, las, [e0, e1], s0, z, rfl, by decide, B12.same S12, ⟨x1, upd_same⟩, hMA.kp (Same.kp (Same.trans SA12 S12)), fun first v1 HB hf1 ok1 d1' BB FB bB => ?_⟩
    have SAB : Same HA HB := but2_same (Same.trans SA12 S12) np2 nF1A bB
    -- the second tree
    refine ⟨fun σ H1 => ∃ p3, σ = [some (.ref a), some (.ref p3), some (.ref SH), some (.ref LA), some (.ref LE), some (.ref M), some (.int way), some v1, none, none, none, none, none, none, none, none] ∧ HB p3 = none ∧ Box H1 p3 ∧ Same HB H1, ⟨.ref a, rfl, a, ns, 2, rfl, sqL_same hS (Same.trans SA SAB), by decide, fun p3 H13 np3 B13 S13 => ⟨p3, rfl, np3, B13, S13⟩⟩, ?_⟩
    rintro σ H13 ⟨p3, rfl, np3, B13, S13⟩
    refine ⟨.ref p3, rfl, .ref M, rfl, .ref p3, rfl, p3, 24, rfl, B13, by decide, fun x2 H14 _ _ B14 b14' => ⟨by show 1 ≤ sizeLine; decide, fun F2 nF2 => ?_⟩⟩
    have SB14 := but_same S13 np3 b14'
    have S14 : Same H14 (upd H14 F2 (.lst [.int x2])) := same_upd nF2
    have nF2B : HB F2 = none := same_none SB14 nF2
    refine ⟨p3, M, F2, LA, LE, las, [e0, e1], s0, z, rfl, by decide, B14.same S14, ⟨x2, upd_same⟩, hMA.kp (Same.kp (Same.trans SAB (Same.trans SB14 S14))), fun second v2 HC hf2 ok2 d2' BC FC bC => ?_⟩
    have SBC : Same HB HC := but2_same (Same.trans SB14 S14) np3 nF2B bC
    refine ⟨v1, rfl, .int way, rfl, v1, first, way, _, rfl, hf1.same SBC, ok1, by omega, fun o1 H15 S15 go1 => ?_⟩
    refine ⟨v2, rfl, .int way, rfl, 7, way, rfl, rfl, v2, second, 7 - way, _, rfl, hf2.same S15, ok2, by omega, fun o2 H16 S16 go2 => ?_⟩
    have SC16 := Same.trans S15 S16
    have SA16 := Same.trans (Same.trans SAB SBC) SC16
    -- the sure one
    refine ⟨fun σ H1 => ∃ p4, σ = [some (.ref a), some (.ref p4), some (.ref SH), some (.ref LA), some (.ref LE), some (.ref M), some (.int way), some v1, some v2, some (.ref o1), some (.ref o2), none, none, none, none, none] ∧ H16 p4 = none ∧ Box H1 p4 ∧ Same H16 H1, ⟨.ref a, rfl, a, ns, 3, rfl, sqL_same hS (Same.trans SA SA16), by decide, fun p4 H17 np4 B17 S17 => ⟨p4, rfl, np4, B17, S17⟩⟩, ?_⟩
    rintro σ H17 ⟨p4, rfl, np4, B17, S17⟩
    have SA17 := Same.trans SA16 S17
    have hLE17 : Leads H17 LE [e0, e1] := hMA.e.kp (Same.kp SA17)
    refine ⟨.ref p4, rfl, .ref LA, rfl, .ref LE, rfl, LE, _, 0, .str e0, rfl, rfl, sqOf hLE17.l, atI_nat (j := 0) rfl, p4, LA, las, e0, rfl, B17, hMA.a.kp (Same.kp SA17), de0, le0, fun sure v3 H18 hf3 ok3 d3' B18 b18 => ?_⟩
    refine ⟨v3, rfl, .int way, rfl, v3, sure, way, _, rfl, hf3, ok3, by omega, fun o3 HD S19 go3 => ?_⟩
    have BD := B18.same S19
    have bD : But p4 H17 HD := b18.trans (Same.but S19)
    have S16D : Same H16 HD := but_same S17 np4 bD
    -- what stands from here on
    have np4A : SH ≠ p4 := fun e => by
      rw [e] at hSHA
      rw [SA16 _ _ hSHA] at np4
      cases np4
    have SAD : Same HA HD := Same.trans SA16 S16D
    have hSHD := SAD _ _ hSHA
    have hLAD : Lns HD LA las := hMA.a.kp (Same.kp SAD)
    have nv1 : NdAt (fun _ => True) HD first v1 := (hf1.same (Same.trans SBC (Same.trans SC16 S16D))).wk
    have nv2 : NdAt (fun _ => True) HD second v2 := (hf2.same (Same.trans SC16 S16D)).wk
    have nv3 : NdAt (fun _ => True) HD sure v3 := (hf3.same S19).wk
    have gv1 : GdAt K C HD first (.ref o1) := go1.kg (Same.kg (Same.trans S16 S16D))
    have gv2 : GdAt K C HD second (.ref o2) := go2.kg (Same.kg S16D)
    clear hf1 hf2 hf3 go1 go2
    have hkp : ∀ {H' : Hp}, But p4 HD H' → Kp HD H' := fun b => But.kp BD b
    have hkg : ∀ {H' : Hp}, But p4 HD H' → Kg HD H' := fun b => BD.kg b
    have sh0 : ∀ {H' : Hp}, But p4 HD H' → SqL K H' SH [.int s0, .int s1] := fun b => sqOf (b _ _ hSHD np4A)
    -- two judged
    refine ⟨fun σ H1 => σ = [some (.ref a), some (.ref p4), some (.ref SH), some (.ref LA), some (.ref LE), some (.ref M), some (.int way), some v1, some v2, some (.ref o1), some (.ref o2), some v3, some (.ref o3), none, none, none] ∧ Box H1 p4 ∧ But p4 HD H1, ?_, ?_⟩
    · refine ⟨.ref o1, rfl, v1, rfl, .ref SH, rfl, .ref LA, rfl, .ref p4, rfl, .ref o1, v1, first, s0, s1, SH, LA, p4, las, _, rfl, gv1, nv1, ok1, by omega, hSHD, np4A, hs0, hs1, hLAD, BD, fun H20 B20 b20 => ⟨true, rfl, ?_⟩⟩
      exact ⟨.ref o3, rfl, v3, rfl, .ref SH, rfl, .ref LA, rfl, .ref p4, rfl, .ref o3, v3, sure, s0, s1, SH, LA, p4, las, _, rfl, go3.kg (hkg b20), nv3.kp (hkp b20), ok3, by omega, b20 _ _ hSHD np4A, np4A, hs0, hs1, hLAD.kp (hkp b20), B20, fun H21 B21 b21' => ⟨true, rfl, rfl, B21, b20.trans b21'⟩⟩
    rintro σ H21 ⟨rfl, B21, b21⟩
    -- six that agree
    refine ⟨fun σ H1 => σ = [some (.ref a), some (.ref p4), some (.ref SH), some (.ref LA), some (.ref LE), some (.ref M), some (.int way), some v1, some v2, some (.ref o1), some (.ref o2), some v3, some (.ref o3), none, none, none] ∧ Box H1 p4 ∧ But p4 HD H1, ?_, ?_⟩
    · refine ⟨.ref o3, rfl, v3, rfl, .ref SH, rfl, SH, _, 0, .int s0, rfl, rfl, sh0 b21, atI_nat (j := 0) rfl, .ref o3, v3, sure, s0, _, rfl, go3.kg (hkg b21), nv3.kp (hkp b21), ok3, by omega, hs0.1, hs0.2, fun H22 S22 => ⟨true, rfl, ?_⟩⟩
      have b22 := b21.trans (Same.but S22)
      exact ⟨.ref o3, rfl, v3, rfl, .ref SH, rfl, SH, _, 0 + 1, .int s1, rfl, rfl, sh0 b22, atI_nat (j := 1) rfl, .ref o3, v3, sure, s1, _, rfl, go3.kg (hkg b22), nv3.kp (hkp b22), ok3, by omega, hs1.1, hs1.2, fun H23 S23 => ⟨true, rfl, rfl, (B21.same S22).same S23, b22.trans (Same.but S23)⟩⟩
    clear B21 b21
    rintro σ H21 ⟨rfl, B21, b21⟩
    refine ⟨fun σ H1 => σ = [some (.ref a), some (.ref p4), some (.ref SH), some (.ref LA), some (.ref LE), some (.ref M), some (.int way), some v1, some v2, some (.ref o1), some (.ref o2), some v3, some (.ref o3), none, none, none] ∧ Box H1 p4 ∧ But p4 HD H1, ?_, ?_⟩
    · refine ⟨.ref o1, rfl, v1, rfl, .ref SH, rfl, SH, _, 0, .int s0, rfl, rfl, sh0 b21, atI_nat (j := 0) rfl, .ref o1, v1, first, s0, _, rfl, gv1.kg (hkg b21), nv1.kp (hkp b21), ok1, by omega, hs0.1, hs0.2, fun H22 S22 => ⟨true, rfl, ?_⟩⟩
      have b22 := b21.trans (Same.but S22)
      exact ⟨.ref o2, rfl, v2, rfl, .ref SH, rfl, SH, _, 0, .int s0, rfl, rfl, sh0 b22, atI_nat (j := 0) rfl, .ref o2, v2, second, s0, _, rfl, gv2.kg (hkg b22), nv2.kp (hkp b22), ok2, by omega, hs0.1, hs0.2, fun H23 S23 => ⟨true, rfl, rfl, (B21.same S22).same S23, b22.trans (Same.but S23)⟩⟩
    clear B21 b21
    rintro σ H21 ⟨rfl, B21, b21⟩
    refine ⟨fun σ H1 => σ = [some (.ref a), some (.ref p4), some (.ref SH), some (.ref LA), some (.ref LE), some (.ref M), some (.int way), some v1, some v2, some (.ref o1), some (.ref o2), some v3, some (.ref o3), none, none, none] ∧ Box H1 p4 ∧ But p4 HD H1, ?_, ?_⟩
    · refine ⟨.ref o1, rfl, v1, rfl, .ref SH, rfl, SH, _, 0 + 1, .int s1, rfl, rfl, sh0 b21, atI_nat (j := 1) rfl, .ref o1, v1, first, s1, _, rfl, gv1.kg (hkg b21), nv1.kp (hkp b21), ok1, by omega, hs1.1, hs1.2, fun H22 S22 => ⟨true, rfl, ?_⟩⟩
      have b22 := b21.trans (Same.but S22)
      exact ⟨.ref o1, rfl, v1, rfl, .ref SH, rfl, SH, _, 0, .int s0, rfl, rfl, sh0 b22, atI_nat (j := 0) rfl, .ref o1, v1, first, s0, _, rfl, gv1.kg (hkg b22), nv1.kp (hkp b22), ok1, by omega, hs0.1, hs0.2, fun H23 S23 => ⟨true, rfl, rfl, (B21.same S22).same S23, b22.trans (Same.but S23)⟩⟩
    clear B21 b21
    rintro σ H27 ⟨rfl, B27, b27⟩
    -- the default share
    refine ⟨v2, rfl, v2, .non, second, 50, "", _, rfl, nv2.kp (hkp b27), ok2, by omega, by decide, by decide, .inl rfl, sg_empty, fun td H28 pd S28 hPd hcd _ _ => ?_⟩
    rw [hcd rfl] at hPd
    have b28 := b27.trans (Same.but S28)
    have cok2 := cert_ok 50 second ok2
    have cd2 := cert_d 50 second
    obtain ⟨_, Ld, usd, ed, _, htd, _, _, _⟩ := hPd.ref
    cases ed
    refine ⟨fun σ H1 => σ = [some (.ref a), some (.ref p4), some (.ref SH), some (.ref LA), some (.ref LE), some (.ref M), some (.int way), some v1, some v2, some (.ref o1), some (.ref o2), some v3, some (.ref o3), some (.ref td), none, none] ∧ Same H28 H1, ?_, ?_⟩
    · refine ⟨.ref o2, rfl, .ref o2, second, 50, rfl, gv2.kg (hkg b28), ok2, by omega, by decide, by decide, fun H29 S29 => ?_⟩
      have b29 := b28.trans (Same.but S29)
      refine ⟨.ref td, rfl, td, _, 1, _, rfl, rfl, .inl (.inl (S29 _ _ htd)), atI_nat (j := 1) rfl, rfl, _, rfl, ite2 (fun c => absurd c (ne_no rfl)) (fun _ => ?_)⟩
      refine ⟨.ref o2, rfl, .ref o2, second, 50, rfl, gv2.kg (hkg b29), ok2, by omega, by decide, by decide, fun t30 H30 S30 hU30 => ?_⟩
      exact ⟨.ref td, rfl, .ref t30, .ref td, certOf 50 second, fun _ => True, _, rfl, PpU.at (fun _ _ => trivial) hU30, hPd.same (Same.trans S29 S30), cok2, by omega, fun H31 S31 => ⟨true, rfl, rfl, Same.trans (Same.trans S29 S30) S31⟩⟩
    rintro σ H31 ⟨rfl, S2831⟩
    have b31 := b28.trans (Same.but S2831)
    -- the other good's certificate
    refine ⟨v1, rfl, v1, .non, first, 50, "", _, rfl, nv1.kp (hkp b31), ok1, by omega, by decide, by decide, .inl rfl, sg_empty, fun tp H32 pp S32 hPp hcp _ _ => ?_⟩
    rw [hcp rfl] at hPp
    have b32 := b31.trans (Same.but S32)
    have cok1 := cert_ok 50 first ok1
    have cd1 := cert_d 50 first
    refine ⟨.ref o2, rfl, .ref tp, rfl, .ref tp, certOf 50 first, _, rfl, hPp, cok1, by omega, fun tc H33 S33 hPc => ?_⟩
    have b33 := b32.trans (Same.but S33)
    refine ⟨.ref o2, .ref tc, second, certOf 50 first, 50, _, rfl, gv2.kg (hkg b33), ok2, by omega, by decide, by decide, hPc, cok1, fun H34 S34 => ?_⟩
    have b34 := b33.trans (Same.but S34)
    have S3234 := Same.trans S33 S34
    have B34 := (((((B27.same S28).same S2831).same S32).same S33).same S34)
    have hdue34 := hPd.same (Same.trans (Same.trans S2831 S32) S3234)
    have hpap34 := hPp.same S3234
    have eqb := eqv_cert (s := 50) (n := second) (q := certOf 50 first) cok2
    generalize isCert 50 second (certOf 50 first) = bb at eqb
    refine ⟨fun σ H1 => σ = [some (.ref a), some (.ref p4), some (.ref SH), some (.ref LA), some (.ref LE), some (.ref M), some (.int way), some v1, some v2, some (.ref o1), some (.ref o2), some v3, some (.ref o3), some (.ref td), some (.ref tp), some (.bl bb)] ∧ H1 = H34, ?_, ?_⟩
    · refine ⟨.bl bb, rfl, bb, true, rfl, rfl, _, rfl, ite2 (fun c => ⟨.bl bb, rfl, bb, false, rfl, rfl, _, rfl, ite2 (fun c2 => ?_) (fun _ => ?_)⟩) (fun _ => ?_)⟩
      · cases bb with
        | true => exact absurd c (by decide)
        | false => exact absurd c2 (by decide)
      all_goals
        refine ⟨.bl bb, rfl, .ref tp, rfl, .ref td, rfl, (certOf 50 first).enc, (certOf 50 second).enc, hpap34.dp, hdue34.dp, shaped_pp cok1 (by omega), shaped_pp cok2 (by omega), ?_⟩
        rw [eqb]
        exact ⟨rfl, _, rfl, ite2 (fun c => absurd c (ne_no rfl)) (fun _ => ⟨rfl, rfl⟩)⟩
    rintro σ H35 ⟨rfl, rfl⟩
    exact ⟨.ref o2, rfl, v2, rfl, .ref SH, rfl, .ref LA, rfl, .ref p4, rfl, .ref o2, v2, second, s0, s1, SH, LA, p4, las, _, rfl, gv2.kg (hkg b34), nv2.kp (hkp b34), ok2, by omega, b34 _ _ hSHD np4A, np4A, hs0, hs1, hLAD.kp (hkp b34), B34, fun H36 _ _ => q H36⟩
end
end Tb
set_option maxHeartbeats 4000000
namespace Tb
open PySem PySem.Spec PyProof.Rows L2
section
variable {K : PySem.W.Frag} {f TO : Addr} {oc kV dc pm cd ct ot : Value} {od an oo : Option Addr} {sl ss : Array (Option Value)} {nn : Nat}
theorem funD_mk {x qual : Str} {st : Stmt} {dvs : List V} {its : List Value} (l : K.lookup f = some ⟨oc, od, .func (PySem.W.fnOf x qual (defArgs st) (defBody st) (defScope st) (.ref TO) kV dc pm an cd ct), sl⟩) (c : PySem.W.codeIn K cd qual = true) (k : PySem.W.keepIn K (.ref f) = true)
    (t : K.lookup TO = some ⟨ot, oo, .seq its.toArray nn, ss⟩) (r : Vals dvs its) (hd : dvs ≠ []) : FunDf K x qual st dvs f (PySem.W.fnOf x qual (defArgs st) (defBody st) (defScope st) (.ref TO) kV dc pm an cd ct) :=
  ⟨⟨oc, od, .ref TO, kV, dc, pm, an, cd, ct, sl, rfl, l, c, .inr ⟨hd, TO, _, its, nn, rfl, t, rfl, r⟩, .inl rfl⟩, k⟩
theorem bindsO {fd : FuncData} (F : FunDf K "origin" "origin" sOrigin [.int 50] f fd) : (∃ ds, Vals [V.int 50] ds ∧ Binds K fd ["good", "share"] ds) ∧ Binds K fd ["good", "share"] [] := by
  constructor
  · exact F.binds1 (ps := ["good", "share"]) 1 0 (List.cons_ne_nil _ _) rfl fun T kV doc pm an cdv ct us its hu hi => match us, its, hu, hi with
      | [_], [_], _, _ => ⟨_, rfl, rfl⟩
  · obtain ⟨ds, v, b⟩ := F.binds1 (ps := ["good", "share"]) 2 1 (List.cons_ne_nil _ _) rfl fun T kV doc pm an cdv ct us its hu hi => match us, its, hu, hi with
      | [_, _], [_], _, _ => ⟨_, rfl, rfl⟩
    cases v
    exact b
theorem bindsP {fd : FuncData} (F : FunDf K "origin_paper" "origin_paper" sOPaper [.int 50] f fd) : (∃ ds, Vals [V.int 50] ds ∧ Binds K fd ["good", "share"] ds) ∧ Binds K fd ["good", "share"] [] := by
  constructor
  · exact F.binds1 (ps := ["good", "share"]) 1 0 (List.cons_ne_nil _ _) rfl fun T kV doc pm an cdv ct us its hu hi => match us, its, hu, hi with
      | [_], [_], _, _ => ⟨_, rfl, rfl⟩
  · obtain ⟨ds, v, b⟩ := F.binds1 (ps := ["good", "share"]) 2 1 (List.cons_ne_nil _ _) rfl fun T kV doc pm an cdv ct us its hu hi => match us, its, hu, hi with
      | [_, _], [_], _, _ => ⟨_, rfl, rfl⟩
    cases v
    exact b
theorem bindsG {fd : FuncData} {t0 : Addr} (F : FunDf K "__init__" "Good.__init__" sGoodInit [.ref t0] f fd) : (∃ ds, Vals [V.ref t0] ds ∧ Binds K fd ["self", "heading", "worth", "land", "parts"] ds) ∧ Binds K fd ["self", "heading", "worth", "land", "parts"] [] := by
  constructor
  · exact F.binds1 (ps := ["self", "heading", "worth", "land", "parts"]) 4 0 (List.cons_ne_nil _ _) rfl fun T kV doc pm an cdv ct us its hu hi => match us, its, hu, hi with
      | [_, _, _, _], [_], _, _ => ⟨_, rfl, rfl⟩
  · obtain ⟨ds, v, b⟩ := F.binds1 (ps := ["self", "heading", "worth", "land", "parts"]) 5 1 (List.cons_ne_nil _ _) rfl fun T kV doc pm an cdv ct us its hu hi => match us, its, hu, hi with
      | [_, _, _, _, _], [_], _, _ => ⟨_, rfl, rfl⟩
    cases v
    exact b
end
end Tb
set_option maxHeartbeats 0
namespace Tb
open PySem PySem.Spec PyProof.Rows L2
theorem cls_some {K : PySem.W.Frag} {C : Addr} (h : PySem.W.hasDictIn K C = true) : (PySem.W.clsIn K C).isSome = true := by
  obtain ⟨cd, hc, _⟩ := PySem.W.any_some h
  rw [hc]
  rfl
theorem kit_refC {K : PySem.W.Frag} {t : Value} {C : Addr} {b : Bool} (hd : PySem.W.hasDictIn K C = true) (ht : PySem.W.typeIn K (.ref C) = some (.type "type")) (hs : PySem.W.subIn K t (.ref C) = some b) : PySem.W.kitCls K t (.ref C) = some b := by
  have e2 : ((PySem.W.clsIn K C).isSome && PySem.W.typeIn K (.ref C) == some (.type "type")) = true := by rw [cls_some hd, ht]; rfl
  show (if ((PySem.W.clsIn K C).isSome && PySem.W.typeIn K (.ref C) == some (.type "type")) = true then PySem.W.subIn K t (.ref C) else none) = some b
  rw [if_pos e2]
  exact hs
theorem kit_tyC {K : PySem.W.Frag} {t : Value} {T : String} {b : Bool} (hT : PySem.W.kitMeta T = true) (hs : PySem.W.subIn K t (.type T) = some b) : PySem.W.kitCls K t (.type T) = some b := by
  show (if PySem.W.kitMeta T = true then PySem.W.subIn K t (.type T) else none) = some b
  rw [if_pos hT]
  exact hs
theorem kit_t {K : PySem.W.Frag} {t c : Value} (h : PySem.W.kitCls K t c = some true) : PySem.W.kitOne K t c = some true := by
  unfold PySem.W.kitOne
  by_cases e : (t == c) = true
  · rw [if_pos e]
  · rw [if_neg e]
    exact h
theorem kit_f {K : PySem.W.Frag} {t c : Value} (e : (t == c) = false) (h : PySem.W.kitCls K t c = some false) : PySem.W.kitOne K t c = some false := by
  unfold PySem.W.kitOne
  rw [if_neg (by rw [e]; exact Bool.false_ne_true)]
  exact h
theorem kit_nil {K : PySem.W.Frag} {t : Value} : PySem.W.kitAny K t [] = some false := rfl
theorem kit_no {K : PySem.W.Frag} {t c : Value} {r : List Value} (h : PySem.W.kitOne K t c = some false) (hr : PySem.W.kitAny K t r = some false) : PySem.W.kitAny K t (c :: r) = some false := by
  show (match PySem.W.kitOne K t c with | some true => some true | some false => PySem.W.kitAny K t r | none => none) = some false
  rw [h]
  exact hr
theorem all_mk {l : PySem.W.OpenLaw} {w : World} {K : PySem.W.Frag} {h : Heap} {mg : Str → Option Value} {fa f1 f2 f3 f4 f5 f6 f7 f8 f9 f10 f11 f12 f13 f14 f15 f16 f17 f18 f19 f20 f21 f22 f23 f24 f25 f26 f27 f28 f29 fO TO fP TP C pW mI mW t0 TG : Addr} (X : K.In h) (G : h.Ns mainGlobals mg) (hfa : mg "law" = some (.ref fa))
    {od1 an1 od2 an2 od3 an3 od4 an4 od5 an5 od6 an6 od7 an7 od8 an8 od9 an9 od10 an10 od11 an11 od12 an12 od13 an13 od14 an14 od15 an15 od16 an16 od17 an17 od18 an18 od19 an19 od20 an20 od21 an21 od22 an22 od23 an23 od24 an24 od25 an25 od26 an26 od27 an27 od28 an28 od29 an29 odO anO ooO odP anP ooP odG anG ooG odW anW : Option Addr} {sl1 sl2 sl3 sl4 sl5 sl6 sl7 sl8 sl9 sl10 sl11 sl12 sl13 sl14 sl15 sl16 sl17 sl18 sl19 sl20 sl21 sl22 sl23 sl24 sl25 sl26 sl27 sl28 sl29 slO ssO slP ssP slG ssG slW : Array (Option Value)} {oc1 kV1 dc1 pm1 cd1 ct1 oc2 kV2 dc2 pm2 cd2 ct2 oc3 kV3 dc3 pm3 cd3 ct3 oc4 kV4 dc4 pm4 cd4 ct4 oc5 kV5 dc5 pm5 cd5 ct5 oc6 kV6 dc6 pm6 cd6 ct6 oc7 kV7 dc7 pm7 cd7 ct7 oc8 kV8 dc8 pm8 cd8 ct8 oc9 kV9 dc9 pm9 cd9 ct9 oc10 kV10 dc10 pm10 cd10 ct10 oc11 kV11 dc11 pm11 cd11 ct11 oc12 kV12 dc12 pm12 cd12 ct12 oc13 kV13 dc13 pm13 cd13 ct13 oc14 kV14 dc14 pm14 cd14 ct14 oc15 kV15 dc15 pm15 cd15 ct15 oc16 kV16 dc16 pm16 cd16 ct16 oc17 kV17 dc17 pm17 cd17 ct17 oc18 kV18 dc18 pm18 cd18 ct18 oc19 kV19 dc19 pm19 cd19 ct19 oc20 kV20 dc20 pm20 cd20 ct20 oc21 kV21 dc21 pm21 cd21 ct21 oc22 kV22 dc22 pm22 cd22 ct22 oc23 kV23 dc23 pm23 cd23 ct23 oc24 kV24 dc24 pm24 cd24 ct24 oc25 kV25 dc25 pm25 cd25 ct25 oc26 kV26 dc26 pm26 cd26 ct26 oc27 kV27 dc27 pm27 cd27 ct27 oc28 kV28 dc28 pm28 cd28 ct28 oc29 kV29 dc29 pm29 cd29 ct29 ocO kVO dcO pmO cdO ctO otO ocP kVP dcP pmP cdP ctP otP ocG kVG dcG pmG cdG ctG otG ocW kVW dcW pmW cdW ctW : Value}
    {tDG tLT : Tok}
    {tkO tkP : Tok}
    {nnO : Nat}
    {nnP : Nat}
    {restW : List Value} {d00 : Option Addr} {n00 : Nat} {s00 : Array (Option Value)}
    {nnG : Nat}
    (a1 : PySem.W.nsIn K mainGlobals "made_of" = some (some (.ref f1)))
    (l1 : K.lookup f1 = some ⟨oc1, od1, .func (PySem.W.fnOf "made_of" "made_of" (defArgs sMof) (defBody sMof) (defScope sMof) .none kV1 dc1 pm1 an1 cd1 ct1), sl1⟩)
    (c1 : PySem.W.codeIn K cd1 "made_of" = true)
    (k1 : PySem.W.keepIn K (.ref f1) = true)
    (a2 : PySem.W.nsIn K mainGlobals "spells_address" = some (some (.ref f2)))
    (l2 : K.lookup f2 = some ⟨oc2, od2, .func (PySem.W.fnOf "spells_address" "spells_address" (defArgs sSpells) (defBody sSpells) (defScope sSpells) .none kV2 dc2 pm2 an2 cd2 ct2), sl2⟩)
    (c2 : PySem.W.codeIn K cd2 "spells_address" = true)
    (k2 : PySem.W.keepIn K (.ref f2) = true)
    (a3 : PySem.W.nsIn K mainGlobals "is_name" = some (some (.ref f3)))
    (l3 : K.lookup f3 = some ⟨oc3, od3, .func (PySem.W.fnOf "is_name" "is_name" (defArgs sIsName) (defBody sIsName) (defScope sIsName) .none kV3 dc3 pm3 an3 cd3 ct3), sl3⟩)
    (c3 : PySem.W.codeIn K cd3 "is_name" = true)
    (k3 : PySem.W.keepIn K (.ref f3) = true)
    (a4 : PySem.W.nsIn K mainGlobals "is_address" = some (some (.ref f4)))
    (l4 : K.lookup f4 = some ⟨oc4, od4, .func (PySem.W.fnOf "is_address" "is_address" (defArgs sIsAddr) (defBody sIsAddr) (defScope sIsAddr) .none kV4 dc4 pm4 an4 cd4 ct4), sl4⟩)
    (c4 : PySem.W.codeIn K cd4 "is_address" = true)
    (k4 : PySem.W.keepIn K (.ref f4) = true)
    (a5 : PySem.W.nsIn K mainGlobals "_ruling" = some (some (.ref f5)))
    (l5 : K.lookup f5 = some ⟨oc5, od5, .func (PySem.W.fnOf "_ruling" "_ruling" (defArgs sRuling) (defBody sRuling) (defScope sRuling) .none kV5 dc5 pm5 an5 cd5 ct5), sl5⟩)
    (c5 : PySem.W.codeIn K cd5 "_ruling" = true)
    (k5 : PySem.W.keepIn K (.ref f5) = true)
    (a6 : PySem.W.nsIn K mainGlobals "check_origin" = some (some (.ref f6)))
    (l6 : K.lookup f6 = some ⟨oc6, od6, .func (PySem.W.fnOf "check_origin" "check_origin" (defArgs sCheck) (defBody sCheck) (defScope sCheck) .none kV6 dc6 pm6 an6 cd6 ct6), sl6⟩)
    (c6 : PySem.W.codeIn K cd6 "check_origin" = true)
    (k6 : PySem.W.keepIn K (.ref f6) = true)
    (a7 : PySem.W.nsIn K mainGlobals "_law_cell" = some (some (.ref f7)))
    (l7 : K.lookup f7 = some ⟨oc7, od7, .func (PySem.W.fnOf "_law_cell" "_law_cell" (defArgs sCell) (defBody sCell) (defScope sCell) .none kV7 dc7 pm7 an7 cd7 ct7), sl7⟩)
    (c7 : PySem.W.codeIn K cd7 "_law_cell" = true)
    (k7 : PySem.W.keepIn K (.ref f7) = true)
    (a8 : PySem.W.nsIn K mainGlobals "_law_box" = some (some (.ref f8)))
    (l8 : K.lookup f8 = some ⟨oc8, od8, .func (PySem.W.fnOf "_law_box" "_law_box" (defArgs sBox) (defBody sBox) (defScope sBox) .none kV8 dc8 pm8 an8 cd8 ct8), sl8⟩)
    (c8 : PySem.W.codeIn K cd8 "_law_box" = true)
    (k8 : PySem.W.keepIn K (.ref f8) = true)
    (a9 : PySem.W.nsIn K mainGlobals "_law_draw" = some (some (.ref f9)))
    (l9 : K.lookup f9 = some ⟨oc9, od9, .func (PySem.W.fnOf "_law_draw" "_law_draw" (defArgs sDraw) (defBody sDraw) (defScope sDraw) .none kV9 dc9 pm9 an9 cd9 ct9), sl9⟩)
    (c9 : PySem.W.codeIn K cd9 "_law_draw" = true)
    (k9 : PySem.W.keepIn K (.ref f9) = true)
    (a10 : PySem.W.nsIn K mainGlobals "_law_share" = some (some (.ref f10)))
    (l10 : K.lookup f10 = some ⟨oc10, od10, .func (PySem.W.fnOf "_law_share" "_law_share" (defArgs sShare) (defBody sShare) (defScope sShare) .none kV10 dc10 pm10 an10 cd10 ct10), sl10⟩)
    (c10 : PySem.W.codeIn K cd10 "_law_share" = true)
    (k10 : PySem.W.keepIn K (.ref f10) = true)
    (a11 : PySem.W.nsIn K mainGlobals "_law_digits" = some (some (.ref f11)))
    (l11 : K.lookup f11 = some ⟨oc11, od11, .func (PySem.W.fnOf "_law_digits" "_law_digits" (defArgs sDigits) (defBody sDigits) (defScope sDigits) .none kV11 dc11 pm11 an11 cd11 ct11), sl11⟩)
    (c11 : PySem.W.codeIn K cd11 "_law_digits" = true)
    (k11 : PySem.W.keepIn K (.ref f11) = true)
    (a12 : PySem.W.nsIn K mainGlobals "_law_name" = some (some (.ref f12)))
    (l12 : K.lookup f12 = some ⟨oc12, od12, .func (PySem.W.fnOf "_law_name" "_law_name" (defArgs sName) (defBody sName) (defScope sName) .none kV12 dc12 pm12 an12 cd12 ct12), sl12⟩)
    (c12 : PySem.W.codeIn K cd12 "_law_name" = true)
    (k12 : PySem.W.keepIn K (.ref f12) = true)
    (a13 : PySem.W.nsIn K mainGlobals "_law_lands" = some (some (.ref f13)))
    (l13 : K.lookup f13 = some ⟨oc13, od13, .func (PySem.W.fnOf "_law_lands" "_law_lands" (defArgs sLands) (defBody sLands) (defScope sLands) .none kV13 dc13 pm13 an13 cd13 ct13), sl13⟩)
    (c13 : PySem.W.codeIn K cd13 "_law_lands" = true)
    (k13 : PySem.W.keepIn K (.ref f13) = true)
    (a14 : PySem.W.nsIn K mainGlobals "_law_heading" = some (some (.ref f14)))
    (l14 : K.lookup f14 = some ⟨oc14, od14, .func (PySem.W.fnOf "_law_heading" "_law_heading" (defArgs sHeading) (defBody sHeading) (defScope sHeading) .none kV14 dc14 pm14 an14 cd14 ct14), sl14⟩)
    (c14 : PySem.W.codeIn K cd14 "_law_heading" = true)
    (k14 : PySem.W.keepIn K (.ref f14) = true)
    (a15 : PySem.W.nsIn K mainGlobals "_law_amount" = some (some (.ref f15)))
    (l15 : K.lookup f15 = some ⟨oc15, od15, .func (PySem.W.fnOf "_law_amount" "_law_amount" (defArgs sAmount) (defBody sAmount) (defScope sAmount) .none kV15 dc15 pm15 an15 cd15 ct15), sl15⟩)
    (c15 : PySem.W.codeIn K cd15 "_law_amount" = true)
    (k15 : PySem.W.keepIn K (.ref f15) = true)
    (a16 : PySem.W.nsIn K mainGlobals "_law_size" = some (some (.ref f16)))
    (l16 : K.lookup f16 = some ⟨oc16, od16, .func (PySem.W.fnOf "_law_size" "_law_size" (defArgs sSize) (defBody sSize) (defScope sSize) .none kV16 dc16 pm16 an16 cd16 ct16), sl16⟩)
    (c16 : PySem.W.codeIn K cd16 "_law_size" = true)
    (k16 : PySem.W.keepIn K (.ref f16) = true)
    (a17 : PySem.W.nsIn K mainGlobals "_law_ruled" = some (some (.ref f17)))
    (l17 : K.lookup f17 = some ⟨oc17, od17, .func (PySem.W.fnOf "_law_ruled" "_law_ruled" (defArgs sRuled) (defBody sRuled) (defScope sRuled) .none kV17 dc17 pm17 an17 cd17 ct17), sl17⟩)
    (c17 : PySem.W.codeIn K cd17 "_law_ruled" = true)
    (k17 : PySem.W.keepIn K (.ref f17) = true)
    (a18 : PySem.W.nsIn K mainGlobals "_law_paper" = some (some (.ref f18)))
    (l18 : K.lookup f18 = some ⟨oc18, od18, .func (PySem.W.fnOf "_law_paper" "_law_paper" (defArgs sPaper) (defBody sPaper) (defScope sPaper) .none kV18 dc18 pm18 an18 cd18 ct18), sl18⟩)
    (c18 : PySem.W.codeIn K cd18 "_law_paper" = true)
    (k18 : PySem.W.keepIn K (.ref f18) = true)
    (a19 : PySem.W.nsIn K mainGlobals "_law_worth" = some (some (.ref f19)))
    (l19 : K.lookup f19 = some ⟨oc19, od19, .func (PySem.W.fnOf "_law_worth" "_law_worth" (defArgs sWorth) (defBody sWorth) (defScope sWorth) .none kV19 dc19 pm19 an19 cd19 ct19), sl19⟩)
    (c19 : PySem.W.codeIn K cd19 "_law_worth" = true)
    (k19 : PySem.W.keepIn K (.ref f19) = true)
    (a20 : PySem.W.nsIn K mainGlobals "_law_node" = some (some (.ref f20)))
    (l20 : K.lookup f20 = some ⟨oc20, od20, .func (PySem.W.fnOf "_law_node" "_law_node" (defArgs sNode) (defBody sNode) (defScope sNode) .none kV20 dc20 pm20 an20 cd20 ct20), sl20⟩)
    (c20 : PySem.W.codeIn K cd20 "_law_node" = true)
    (k20 : PySem.W.keepIn K (.ref f20) = true)
    (a21 : PySem.W.nsIn K mainGlobals "_law_made" = some (some (.ref f21)))
    (l21 : K.lookup f21 = some ⟨oc21, od21, .func (PySem.W.fnOf "_law_made" "_law_made" (defArgs sMade) (defBody sMade) (defScope sMade) .none kV21 dc21 pm21 an21 cd21 ct21), sl21⟩)
    (c21 : PySem.W.codeIn K cd21 "_law_made" = true)
    (k21 : PySem.W.keepIn K (.ref f21) = true)
    (a22 : PySem.W.nsIn K mainGlobals "_law_same" = some (some (.ref f22)))
    (l22 : K.lookup f22 = some ⟨oc22, od22, .func (PySem.W.fnOf "_law_same" "_law_same" (defArgs sSame) (defBody sSame) (defScope sSame) .none kV22 dc22 pm22 an22 cd22 ct22), sl22⟩)
    (c22 : PySem.W.codeIn K cd22 "_law_same" = true)
    (k22 : PySem.W.keepIn K (.ref f22) = true)
    (a23 : PySem.W.nsIn K mainGlobals "_law_agrees" = some (some (.ref f23)))
    (l23 : K.lookup f23 = some ⟨oc23, od23, .func (PySem.W.fnOf "_law_agrees" "_law_agrees" (defArgs sAgrees) (defBody sAgrees) (defScope sAgrees) .none kV23 dc23 pm23 an23 cd23 ct23), sl23⟩)
    (c23 : PySem.W.codeIn K cd23 "_law_agrees" = true)
    (k23 : PySem.W.keepIn K (.ref f23) = true)
    (a24 : PySem.W.nsIn K mainGlobals "_law_path" = some (some (.ref f24)))
    (l24 : K.lookup f24 = some ⟨oc24, od24, .func (PySem.W.fnOf "_law_path" "_law_path" (defArgs sPath) (defBody sPath) (defScope sPath) .none kV24 dc24 pm24 an24 cd24 ct24), sl24⟩)
    (c24 : PySem.W.codeIn K cd24 "_law_path" = true)
    (k24 : PySem.W.keepIn K (.ref f24) = true)
    (a25 : PySem.W.nsIn K mainGlobals "_law_copy" = some (some (.ref f25)))
    (l25 : K.lookup f25 = some ⟨oc25, od25, .func (PySem.W.fnOf "_law_copy" "_law_copy" (defArgs sCopy) (defBody sCopy) (defScope sCopy) .none kV25 dc25 pm25 an25 cd25 ct25), sl25⟩)
    (c25 : PySem.W.codeIn K cd25 "_law_copy" = true)
    (k25 : PySem.W.keepIn K (.ref f25) = true)
    (a26 : PySem.W.nsIn K mainGlobals "_law_bent" = some (some (.ref f26)))
    (l26 : K.lookup f26 = some ⟨oc26, od26, .func (PySem.W.fnOf "_law_bent" "_law_bent" (defArgs sBent) (defBody sBent) (defScope sBent) .none kV26 dc26 pm26 an26 cd26 ct26), sl26⟩)
    (c26 : PySem.W.codeIn K cd26 "_law_bent" = true)
    (k26 : PySem.W.keepIn K (.ref f26) = true)
    (a27 : PySem.W.nsIn K mainGlobals "_law_judged" = some (some (.ref f27)))
    (l27 : K.lookup f27 = some ⟨oc27, od27, .func (PySem.W.fnOf "_law_judged" "_law_judged" (defArgs sJudged) (defBody sJudged) (defScope sJudged) .none kV27 dc27 pm27 an27 cd27 ct27), sl27⟩)
    (c27 : PySem.W.codeIn K cd27 "_law_judged" = true)
    (k27 : PySem.W.keepIn K (.ref f27) = true)
    (a28 : PySem.W.nsIn K mainGlobals "_law_sure" = some (some (.ref f28)))
    (l28 : K.lookup f28 = some ⟨oc28, od28, .func (PySem.W.fnOf "_law_sure" "_law_sure" (defArgs sSure) (defBody sSure) (defScope sSure) .none kV28 dc28 pm28 an28 cd28 ct28), sl28⟩)
    (c28 : PySem.W.codeIn K cd28 "_law_sure" = true)
    (k28 : PySem.W.keepIn K (.ref f28) = true)
    (a29 : PySem.W.nsIn K mainGlobals "law" = some (some (.ref f29)))
    (l29 : K.lookup f29 = some ⟨oc29, od29, .func (PySem.W.fnOf "law" "law" (defArgs sLaw) (defBody sLaw) (defScope sLaw) .none kV29 dc29 pm29 an29 cd29 ct29), sl29⟩)
    (c29 : PySem.W.codeIn K cd29 "law" = true)
    (k29 : PySem.W.keepIn K (.ref f29) = true)
    (z_len : PySem.W.nsIn K mainGlobals "len" = some none)
    (z_int : PySem.W.nsIn K mainGlobals "int" = some none)
    (z_str : PySem.W.nsIn K mainGlobals "str" = some none)
    (z_list : PySem.W.nsIn K mainGlobals "list" = some none)
    (z_tuple : PySem.W.nsIn K mainGlobals "tuple" = some none)
    (z_bool : PySem.W.nsIn K mainGlobals "bool" = some none)
    (z_range : PySem.W.nsIn K mainGlobals "range" = some none)
    (z_all : PySem.W.nsIn K mainGlobals "all" = some none)
    (z_isinstance : PySem.W.nsIn K mainGlobals "isinstance" = some none)
    (z_zip : PySem.W.nsIn K mainGlobals "zip" = some none)
    (z_sum : PySem.W.nsIn K mainGlobals "sum" = some none)
    (z_max : PySem.W.nsIn K mainGlobals "max" = some none)
    (gDG : PySem.W.nsIn K mainGlobals "DIGITS" = some (some (.str ("0123456789" : String) tDG)))
    (gLT : PySem.W.nsIn K mainGlobals "LETTERS" = some (some (.str ("abcdefghijklmnopqrstuvwxyz" : String) tLT)))
    (aO : PySem.W.nsIn K mainGlobals "origin" = some (some (.ref fO)))
    (lO : K.lookup fO = some ⟨ocO, odO, .func (PySem.W.fnOf "origin" "origin" (defArgs sOrigin) (defBody sOrigin) (defScope sOrigin) (.ref TO) kVO dcO pmO anO cdO ctO), slO⟩)
    (cO : PySem.W.codeIn K cdO "origin" = true)
    (kO : PySem.W.keepIn K (.ref fO) = true)
    (tO : K.lookup TO = some ⟨otO, ooO, .seq #[.int 50 tkO] nnO, ssO⟩)
    (aP : PySem.W.nsIn K mainGlobals "origin_paper" = some (some (.ref fP)))
    (lP : K.lookup fP = some ⟨ocP, odP, .func (PySem.W.fnOf "origin_paper" "origin_paper" (defArgs sOPaper) (defBody sOPaper) (defScope sOPaper) (.ref TP) kVP dcP pmP anP cdP ctP), slP⟩)
    (cP : PySem.W.codeIn K cdP "origin_paper" = true)
    (kP : PySem.W.keepIn K (.ref fP) = true)
    (tP : K.lookup TP = some ⟨otP, ooP, .seq #[.int 50 tkP] nnP, ssP⟩)
    (aG : PySem.W.nsIn K mainGlobals "Good" = some (some (.ref C)))
    (tI : PySem.W.findIn K (.ref C) "__init__" = some (some (.ref mI)))
    (tW : PySem.W.findIn K (.ref C) "worth" = some (some (.ref pW)))
    (tWg : PySem.W.specialIn K (.ref pW) "__get__" = some (some (.builtin "property.__get__")))
    (tWt : PySem.W.takesIn K (.ref pW) = some true)
    (tWr : PySem.W.recIn K pW "property" = some (.ref mW :: restW))
    (tPg : PySem.W.plainGet K C Str.empty = true)
    (tHd : PySem.W.hasDictIn K C = true)
    (tPo : PySem.W.plainOver K C = true)
    (tSa : PySem.W.findIn K (.ref C) "__setattr__" = some (some (.builtin "object.__setattr__")))
    (tnh : PySem.W.findIn K (.ref C) "heading" = some none)
    (tnl : PySem.W.findIn K (.ref C) "land" = some none)
    (tnp : PySem.W.findIn K (.ref C) "parts" = some none)
    (tnc : PySem.W.findIn K (.ref C) "chapter" = some none)
    (tnw : PySem.W.findIn K (.ref C) "_worth" = some none)
    (tMk : PySem.W.makesIn K C = true)
    (tKp : PySem.W.keepIn K (.ref C) = true)
    (lG : K.lookup mI = some ⟨ocG, odG, .func (PySem.W.fnOf "__init__" "Good.__init__" (defArgs sGoodInit) (defBody sGoodInit) (defScope sGoodInit) (.ref TG) kVG dcG pmG anG cdG ctG), slG⟩)
    (cG : PySem.W.codeIn K cdG "Good.__init__" = true)
    (kG : PySem.W.keepIn K (.ref mI) = true)
    (tG : K.lookup TG = some ⟨otG, ooG, .seq #[.ref t0] nnG, ssG⟩)
    (e00 : K.lookup t0 = some ⟨.type "tuple", d00, .seq #[] n00, s00⟩)
    (nI : PySem.W.isFn K (.ref mI) = true)
    (lW : K.lookup mW = some ⟨ocW, odW, .func (PySem.W.fnOf "worth" "Good.worth" (defArgs sGoodWorth) (defBody sGoodWorth) (defScope sGoodWorth) .none kVW dcW pmW anW cdW ctW), slW⟩)
    (cW : PySem.W.codeIn K cdW "Good.worth" = true)
    (kW : PySem.W.keepIn K (.ref mW) = true)
    : ∃ fd : FuncData, (∀ (s : Shared) (v : Value), BindsTo s fd ⟨[v], []⟩ [("script", v)]) ∧ ∀ base : Heap, K.In base → base.Ns mainGlobals mg → FnOk l.prog w K mg base CX0 24 fa fd ["script"] (spLaw K) := by
  have e := hfa.symm.trans (PySem.W.mg_of X G a29)
  cases e
  have F1 := fun_mk (st := sMof) l1 c1 k1
  have b1 := F1.binds (ps := ["text", "signs", "most"]) fun _ _ _ _ _ _ us hl => match us, hl with | [_, _, _], _ => rfl
  have D1 : Dd K mg "made_of" sMof ["text", "signs", "most"] f1 _ := ⟨F1, b1, PySem.W.mg_of X G a1⟩
  have F2 := fun_mk (st := sSpells) l2 c2 k2
  have b2 := F2.binds (ps := ["text"]) fun _ _ _ _ _ _ us hl => match us, hl with | [_], _ => rfl
  have D2 : Dd K mg "spells_address" sSpells ["text"] f2 _ := ⟨F2, b2, PySem.W.mg_of X G a2⟩
  have F3 := fun_mk (st := sIsName) l3 c3 k3
  have b3 := F3.binds (ps := ["text"]) fun _ _ _ _ _ _ us hl => match us, hl with | [_], _ => rfl
  have D3 : Dd K mg "is_name" sIsName ["text"] f3 _ := ⟨F3, b3, PySem.W.mg_of X G a3⟩
  have F4 := fun_mk (st := sIsAddr) l4 c4 k4
  have b4 := F4.binds (ps := ["text"]) fun _ _ _ _ _ _ us hl => match us, hl with | [_], _ => rfl
  have D4 : Dd K mg "is_address" sIsAddr ["text"] f4 _ := ⟨F4, b4, PySem.W.mg_of X G a4⟩
  have F5 := fun_mk (st := sRuling) l5 c5 k5
  have b5 := F5.binds (ps := ["good", "share", "lands"]) fun _ _ _ _ _ _ us hl => match us, hl with | [_, _, _], _ => rfl
  have D5 : Dd K mg "_ruling" sRuling ["good", "share", "lands"] f5 _ := ⟨F5, b5, PySem.W.mg_of X G a5⟩
  have F6 := fun_mk (st := sCheck) l6 c6 k6
  have b6 := F6.binds (ps := ["good", "share", "paper"]) fun _ _ _ _ _ _ us hl => match us, hl with | [_, _, _], _ => rfl
  have D6 : Dd K mg "check_origin" sCheck ["good", "share", "paper"] f6 _ := ⟨F6, b6, PySem.W.mg_of X G a6⟩
  have F7 := fun_mk (st := sCell) l7 c7 k7
  have b7 := F7.binds (ps := ["script", "k"]) fun _ _ _ _ _ _ us hl => match us, hl with | [_, _], _ => rfl
  have D7 : Dd K mg "_law_cell" sCell ["script", "k"] f7 _ := ⟨F7, b7, PySem.W.mg_of X G a7⟩
  have F8 := fun_mk (st := sBox) l8 c8 k8
  have b8 := F8.binds (ps := ["script", "k"]) fun _ _ _ _ _ _ us hl => match us, hl with | [_, _], _ => rfl
  have D8 : Dd K mg "_law_box" sBox ["script", "k"] f8 _ := ⟨F8, b8, PySem.W.mg_of X G a8⟩
  have F9 := fun_mk (st := sDraw) l9 c9 k9
  have b9 := F9.binds (ps := ["box", "size"]) fun _ _ _ _ _ _ us hl => match us, hl with | [_, _], _ => rfl
  have D9 : Dd K mg "_law_draw" sDraw ["box", "size"] f9 _ := ⟨F9, b9, PySem.W.mg_of X G a9⟩
  have F10 := fun_mk (st := sShare) l10 c10 k10
  have b10 := F10.binds (ps := ["box"]) fun _ _ _ _ _ _ us hl => match us, hl with | [_], _ => rfl
  have D10 : Dd K mg "_law_share" sShare ["box"] f10 _ := ⟨F10, b10, PySem.W.mg_of X G a10⟩
  have F11 := fun_mk (st := sDigits) l11 c11 k11
  have b11 := F11.binds (ps := ["box", "size"]) fun _ _ _ _ _ _ us hl => match us, hl with | [_, _], _ => rfl
  have D11 : Dd K mg "_law_digits" sDigits ["box", "size"] f11 _ := ⟨F11, b11, PySem.W.mg_of X G a11⟩
  have F12 := fun_mk (st := sName) l12 c12 k12
  have b12 := F12.binds (ps := ["box"]) fun _ _ _ _ _ _ us hl => match us, hl with | [_], _ => rfl
  have D12 : Dd K mg "_law_name" sName ["box"] f12 _ := ⟨F12, b12, PySem.W.mg_of X G a12⟩
  have F13 := fun_mk (st := sLands) l13 c13 k13
  have b13 := F13.binds (ps := ["box"]) fun _ _ _ _ _ _ us hl => match us, hl with | [_], _ => rfl
  have D13 : Dd K mg "_law_lands" sLands ["box"] f13 _ := ⟨F13, b13, PySem.W.mg_of X G a13⟩
  have F14 := fun_mk (st := sHeading) l14 c14 k14
  have b14 := F14.binds (ps := ["box", "leads"]) fun _ _ _ _ _ _ us hl => match us, hl with | [_, _], _ => rfl
  have D14 : Dd K mg "_law_heading" sHeading ["box", "leads"] f14 _ := ⟨F14, b14, PySem.W.mg_of X G a14⟩
  have F15 := fun_mk (st := sAmount) l15 c15 k15
  have b15 := F15.binds (ps := ["box"]) fun _ _ _ _ _ _ us hl => match us, hl with | [_], _ => rfl
  have D15 : Dd K mg "_law_amount" sAmount ["box"] f15 _ := ⟨F15, b15, PySem.W.mg_of X G a15⟩
  have F16 := fun_mk (st := sSize) l16 c16 k16
  have b16 := F16.binds (ps := ["node"]) fun _ _ _ _ _ _ us hl => match us, hl with | [_], _ => rfl
  have D16 : Dd K mg "_law_size" sSize ["node"] f16 _ := ⟨F16, b16, PySem.W.mg_of X G a16⟩
  have F17 := fun_mk (st := sRuled) l17 c17 k17
  have b17 := F17.binds (ps := ["node", "share", "papers"]) fun _ _ _ _ _ _ us hl => match us, hl with | [_, _, _], _ => rfl
  have D17 : Dd K mg "_law_ruled" sRuled ["node", "share", "papers"] f17 _ := ⟨F17, b17, PySem.W.mg_of X G a17⟩
  have F18 := fun_mk (st := sPaper) l18 c18 k18
  have b18 := F18.binds (ps := ["node", "share", "path", "land"]) fun _ _ _ _ _ _ us hl => match us, hl with | [_, _, _, _], _ => rfl
  have D18 : Dd K mg "_law_paper" sPaper ["node", "share", "path", "land"] f18 _ := ⟨F18, b18, PySem.W.mg_of X G a18⟩
  have F19 := fun_mk (st := sWorth) l19 c19 k19
  have b19 := F19.binds (ps := ["box", "heading", "land", "kids", "share"]) fun _ _ _ _ _ _ us hl => match us, hl with | [_, _, _, _, _], _ => rfl
  have D19 : Dd K mg "_law_worth" sWorth ["box", "heading", "land", "kids", "share"] f19 _ := ⟨F19, b19, PySem.W.mg_of X G a19⟩
  have F20 := fun_mk (st := sNode) l20 c20 k20
  have b20 := F20.binds (ps := ["box", "menus", "left", "levels"]) fun _ _ _ _ _ _ us hl => match us, hl with | [_, _, _, _], _ => rfl
  have D20 : Dd K mg "_law_node" sNode ["box", "menus", "left", "levels"] f20 _ := ⟨F20, b20, PySem.W.mg_of X G a20⟩
  have F21 := fun_mk (st := sMade) l21 c21 k21
  have b21 := F21.binds (ps := ["node", "way"]) fun _ _ _ _ _ _ us hl => match us, hl with | [_, _], _ => rfl
  have D21 : Dd K mg "_law_made" sMade ["node", "way"] f21 _ := ⟨F21, b21, PySem.W.mg_of X G a21⟩
  have F22 := fun_mk (st := sSame) l22 c22 k22
  have b22 := F22.binds (ps := ["told", "due"]) fun _ _ _ _ _ _ us hl => match us, hl with | [_, _], _ => rfl
  have D22 : Dd K mg "_law_same" sSame ["told", "due"] f22 _ := ⟨F22, b22, PySem.W.mg_of X G a22⟩
  have F23 := fun_mk (st := sAgrees) l23 c23 k23
  have b23 := F23.binds (ps := ["good", "node", "share"]) fun _ _ _ _ _ _ us hl => match us, hl with | [_, _, _], _ => rfl
  have D23 : Dd K mg "_law_agrees" sAgrees ["good", "node", "share"] f23 _ := ⟨F23, b23, PySem.W.mg_of X G a23⟩
  have F24 := fun_mk (st := sPath) l24 c24 k24
  have b24 := F24.binds (ps := ["box", "node"]) fun _ _ _ _ _ _ us hl => match us, hl with | [_, _], _ => rfl
  have D24 : Dd K mg "_law_path" sPath ["box", "node"] f24 _ := ⟨F24, b24, PySem.W.mg_of X G a24⟩
  have F25 := fun_mk (st := sCopy) l25 c25 k25
  have b25 := F25.binds (ps := ["paper"]) fun _ _ _ _ _ _ us hl => match us, hl with | [_], _ => rfl
  have D25 : Dd K mg "_law_copy" sCopy ["paper"] f25 _ := ⟨F25, b25, PySem.W.mg_of X G a25⟩
  have F26 := fun_mk (st := sBent) l26 c26 k26
  have b26 := F26.binds (ps := ["paper", "path", "bend"]) fun _ _ _ _ _ _ us hl => match us, hl with | [_, _, _], _ => rfl
  have D26 : Dd K mg "_law_bent" sBent ["paper", "path", "bend"] f26 _ := ⟨F26, b26, PySem.W.mg_of X G a26⟩
  have F27 := fun_mk (st := sJudged) l27 c27 k27
  have b27 := F27.binds (ps := ["good", "node", "shares", "lands", "box"]) fun _ _ _ _ _ _ us hl => match us, hl with | [_, _, _, _, _], _ => rfl
  have D27 : Dd K mg "_law_judged" sJudged ["good", "node", "shares", "lands", "box"] f27 _ := ⟨F27, b27, PySem.W.mg_of X G a27⟩
  have F28 := fun_mk (st := sSure) l28 c28 k28
  have b28 := F28.binds (ps := ["box", "lands", "lead"]) fun _ _ _ _ _ _ us hl => match us, hl with | [_, _, _], _ => rfl
  have D28 : Dd K mg "_law_sure" sSure ["box", "lands", "lead"] f28 _ := ⟨F28, b28, PySem.W.mg_of X G a28⟩
  have F29 := fun_mk (st := sLaw) l29 c29 k29
  have FO : FunDf K "origin" "origin" sOrigin [.int 50] fO _ := funD_mk (its := [.int 50 tkO]) lO cO kO tO (.cons ⟨tkO, rfl⟩ .nil) (List.cons_ne_nil _ _)
  have DO : DdD K mg "origin" sOrigin ["good", "share"] [.int 50] fO _ := ⟨FO, (bindsO FO).2, (bindsO FO).1, PySem.W.mg_of X G aO⟩
  have FP : FunDf K "origin_paper" "origin_paper" sOPaper [.int 50] fP _ := funD_mk (its := [.int 50 tkP]) lP cP kP tP (.cons ⟨tkP, rfl⟩ .nil) (List.cons_ne_nil _ _)
  have DP : DdD K mg "origin_paper" sOPaper ["good", "share"] [.int 50] fP _ := ⟨FP, (bindsP FP).2, (bindsP FP).1, PySem.W.mg_of X G aP⟩
  have FW := fun_mk (st := sGoodWorth) lW cW kW
  have bW := FW.binds (ps := ["self"]) fun _ _ _ _ _ _ us hl => match us, hl with | [_], _ => rfl
  have FG : FunDf K "__init__" "Good.__init__" sGoodInit [.ref t0] mI _ := funD_mk (its := [.ref t0]) lG cG kG tG (.cons rfl .nil) (List.cons_ne_nil _ _)
  obtain ⟨⟨dsG, vG, bGd⟩, bG⟩ := bindsG FG
  refine ⟨PySem.W.fnOf "law" "law" (defArgs sLaw) (defBody sLaw) (defScope sLaw) .none kV29 dc29 pm29 an29 cd29 ct29, fun s v => .of_eq rfl, fun base _ _ => ?_⟩
  have B : Blt mg := ⟨PySem.W.mg_none_of X G z_len, PySem.W.mg_none_of X G z_int, PySem.W.mg_none_of X G z_str, PySem.W.mg_none_of X G z_list, PySem.W.mg_none_of X G z_tuple, PySem.W.mg_none_of X G z_bool, PySem.W.mg_none_of X G z_range, PySem.W.mg_none_of X G z_all, PySem.W.mg_none_of X G z_isinstance, PySem.W.mg_none_of X G z_zip, PySem.W.mg_none_of X G z_sum, PySem.W.mg_none_of X G z_max, ⟨_, PySem.W.mg_of X G gDG⟩, ⟨_, PySem.W.mg_of X G gLT⟩⟩
  have T : GCls K C pW mW _ := ⟨⟨tPg, tHd, tPo, tSa⟩, tnh, tnl, tnp, tnc, tnw, ⟨tW, tWg, tWt, ⟨_, tWr⟩⟩, FW, bW⟩
  have cIA : CIsAddr l.prog w K mg base _ _ := ⟨D4, ok_isAddr D4.F D2 D1 B⟩
  have cIN : CIsName l.prog w K mg base _ _ := ⟨D3, (ok_isName D3.F D1 B).mono (by decide)⟩
  have TG : GoodC l.prog w K mg base C mI t0 _ dsG := ⟨⟨tMk, tI, nI, tKp⟩, ok_goodInit FG T cIA cIN B, PySem.W.mg_of X G aG, bG, fun H => .inr ⟨_, #[], n00, e00, rfl, rfl, Nat.zero_le _, .nil⟩, vG, bGd⟩
  have cRuling : CRuling l.prog w K mg base C _ _ := ⟨D5, ok_ruling D5.F T B⟩
  have cOPaper : COPaper l.prog w K mg base C 10 _ _ := ⟨DP, ok_opaper DP T cRuling B 10⟩
  have cOrigin : COrigin l.prog w K mg base C 10 _ _ := ⟨DO, ok_origin FO cOPaper⟩
  have cCheck : CCheck l.prog w K mg base C 10 _ _ := ⟨D6, ok_check D6 T cRuling B 10⟩
  have cDraw : CDraw l.prog w K mg base _ _ := ⟨D9, ok_draw D9.F B⟩
  have cBox : CBox l.prog w K mg base _ _ := ⟨D8, ok_box D8.F D7 B⟩
  have cShare : CShare l.prog w K mg base _ _ := ⟨D10, ok_share D10.F cDraw⟩
  have cAmount : CAmount l.prog w K mg base _ _ := ⟨D15, ok_amount D15.F cDraw⟩
  have cDigits : CDigits l.prog w K mg base _ _ := ⟨D11, ok_digits D11.F cDraw B⟩
  have cName : CName l.prog w K mg base _ _ := ⟨D12, ok_name D12.F cDraw B⟩
  have cLands : CLands l.prog w K mg base _ _ := ⟨D13, ok_lands D13.F cDraw cName B⟩
  have cHeading : CHeading l.prog w K mg base _ _ := ⟨D14, ok_heading D14.F cDraw cDigits B⟩
  have cSize : CSize l.prog w K mg base 9 _ _ := ⟨D16, ok_size D16 B 9⟩
  have cRuled : CRuled l.prog w K mg base _ _ := ⟨D17, ok_lruled D17.F B⟩
  have cPaper9 : CPaper l.prog w K mg base 9 _ _ := ⟨D18, ok_lpaper D18 cRuled B 9⟩
  have cPaper : CPaper l.prog w K mg base 10 _ _ := ⟨D18, ok_lpaper D18 cRuled B 10⟩
  have cWorth : CWorth l.prog w K mg base 9 _ _ := ⟨D19, ok_worth D19.F cDraw cAmount cPaper9 B⟩
  have cNode : CNode l.prog w K mg base 22 (spNode 8) _ _ := ⟨D20, ok_node D20 cDraw cSize cHeading cAmount cWorth B 8⟩
  have cMade : CMade l.prog w K mg base C 10 _ _ := ⟨D21, ok_lmade D21 TG B 10 (by decide)⟩
  have cSame : CSame l.prog w K mg base 10 _ _ := ⟨D22, ok_same D22 B 10⟩
  have cCopy : CCopy l.prog w K mg base 10 _ _ := ⟨D25, ok_copy D25 B 10⟩
  have cPath : CPath l.prog w K mg base _ _ := ⟨D24, ok_path D24.F cDraw B⟩
  have cBent : CBent l.prog w K mg base _ _ := ⟨D26, ok_bent D26 cCopy B 10 (Nat.le_refl _)⟩
  have cSure : CSure l.prog w K mg base _ _ := ⟨D28, ok_sure D28.F cDraw cDigits cAmount B⟩
  have cAgrees : CAgrees l.prog w K mg base C 10 _ _ := ⟨D23, ok_agrees D23.F cPaper cOrigin cOPaper cCheck cSame B⟩
  have cJudged : CJudged l.prog w K mg base C _ _ := ⟨D27, ok_judged D27.F cPaper cCopy cPath cDraw cBent cCheck B⟩
  exact ok_law F29 cBox cShare cLands cDigits cDraw cNode cMade cSure cJudged cAgrees cPaper cOrigin cOPaper cSame cCopy cCheck B
end Tb
open PySem PySem.W PyProof.Rows
set_option maxRecDepth 100000 in
set_option maxHeartbeats 0 in
theorem PySem.Challenge.cw_everyparcel_k13_whole_origin_papers_holds : PySem.Challenge.rw_everyparcel_k13_whole_origin_papers.Holds := by
  w_on; o_law; k_head; (case hw => w_witness2)
  k_fill
  refine L2.walk_of (l := PySem.Challenge.rw_everyparcel_k13_whole_origin_papers) (n := 63) (k := 24) (x := "script") (CX := fun _ => L2.CX0) (sp := fun w => Tb.spLaw _) rfl (by decide) rfl ⟨rfl, by decide, by decide⟩ (fun w h Y => PySem.W.kIn_of Y) ?F (fun _ _ a ns hl _ hS => ⟨a, ns, rfl, hS, hl, fun _ => rfl⟩) (fun _ _ _ _ _ h => h)
  case F =>
    intro w mg fa h KX G hmg
    refine' Tb.all_mk KX G hmg ?a1 ?l1 ?c1 ?k1 ?a2 ?l2 ?c2 ?k2 ?a3 ?l3 ?c3 ?k3 ?a4 ?l4 ?c4 ?k4 ?a5 ?l5 ?c5 ?k5 ?a6 ?l6 ?c6 ?k6 ?a7 ?l7 ?c7 ?k7 ?a8 ?l8 ?c8 ?k8 ?a9 ?l9 ?c9 ?k9 ?a10 ?l10 ?c10 ?k10 ?a11 ?l11 ?c11 ?k11 ?a12 ?l12 ?c12 ?k12 ?a13 ?l13 ?c13 ?k13 ?a14 ?l14 ?c14 ?k14 ?a15 ?l15 ?c15 ?k15 ?a16 ?l16 ?c16 ?k16 ?a17 ?l17 ?c17 ?k17 ?a18 ?l18 ?c18 ?k18 ?a19 ?l19 ?c19 ?k19 ?a20 ?l20 ?c20 ?k20 ?a21 ?l21 ?c21 ?k21 ?a22 ?l22 ?c22 ?k22 ?a23 ?l23 ?c23 ?k23 ?a24 ?l24 ?c24 ?k24 ?a25 ?l25 ?c25 ?k25 ?a26 ?l26 ?c26 ?k26 ?a27 ?l27 ?c27 ?k27 ?a28 ?l28 ?c28 ?k28 ?a29 ?l29 ?c29 ?k29 ?z_len ?z_int ?z_str ?z_list ?z_tuple ?z_bool ?z_range ?z_all ?z_isinstance ?z_zip ?z_sum ?z_max ?gDG ?gLT ?aO ?lO ?cO ?kO ?tO ?aP ?lP ?cP ?kP ?tP ?aG ?tI ?tW ?tWg ?tWt ?tWr ?tPg ?tHd ?tPo ?tSa ?tnh ?tnl ?tnp ?tnc ?tnw ?tMk ?tKp ?lG ?cG ?kG ?tG ?e00 ?nI ?lW ?cW ?kW
    (case a1 => k_is); (case l1 => k_is); (case c1 => k_is); (case k1 => k_is); (case a2 => k_is); (case l2 => k_is); (case c2 => k_is); (case k2 => k_is)
    (case a3 => k_is); (case l3 => k_is); (case c3 => k_is); (case k3 => k_is); (case a4 => k_is); (case l4 => k_is); (case c4 => k_is); (case k4 => k_is)
    (case a5 => k_is); (case l5 => k_is); (case c5 => k_is); (case k5 => k_is); (case a6 => k_is); (case l6 => k_is); (case c6 => k_is); (case k6 => k_is)
    (case a7 => k_is); (case l7 => k_is); (case c7 => k_is); (case k7 => k_is); (case a8 => k_is); (case l8 => k_is); (case c8 => k_is); (case k8 => k_is)
    (case a9 => k_is); (case l9 => k_is); (case c9 => k_is); (case k9 => k_is); (case a10 => k_is); (case l10 => k_is); (case c10 => k_is); (case k10 => k_is)
    (case a11 => k_is); (case l11 => k_is); (case c11 => k_is); (case k11 => k_is); (case a12 => k_is); (case l12 => k_is); (case c12 => k_is); (case k12 => k_is)
    (case a13 => k_is); (case l13 => k_is); (case c13 => k_is); (case k13 => k_is); (case a14 => k_is); (case l14 => k_is); (case c14 => k_is); (case k14 => k_is)
    (case a15 => k_is); (case l15 => k_is); (case c15 => k_is); (case k15 => k_is); (case a16 => k_is); (case l16 => k_is); (case c16 => k_is); (case k16 => k_is)
    (case a17 => k_is); (case l17 => k_is); (case c17 => k_is); (case k17 => k_is); (case a18 => k_is); (case l18 => k_is); (case c18 => k_is); (case k18 => k_is)
    (case a19 => k_is); (case l19 => k_is); (case c19 => k_is); (case k19 => k_is); (case a20 => k_is); (case l20 => k_is); (case c20 => k_is); (case k20 => k_is)
    (case a21 => k_is); (case l21 => k_is); (case c21 => k_is); (case k21 => k_is); (case a22 => k_is); (case l22 => k_is); (case c22 => k_is); (case k22 => k_is)
    (case a23 => k_is); (case l23 => k_is); (case c23 => k_is); (case k23 => k_is); (case a24 => k_is); (case l24 => k_is); (case c24 => k_is); (case k24 => k_is)
    (case a25 => k_is); (case l25 => k_is); (case c25 => k_is); (case k25 => k_is); (case a26 => k_is); (case l26 => k_is); (case c26 => k_is); (case k26 => k_is)
    (case a27 => k_is); (case l27 => k_is); (case c27 => k_is); (case k27 => k_is); (case a28 => k_is); (case l28 => k_is); (case c28 => k_is); (case k28 => k_is)
    (case a29 => k_is); (case l29 => k_is); (case c29 => k_is); (case k29 => k_is); (case z_len => k_is); (case z_int => k_is); (case z_str => k_is); (case z_list => k_is)
    (case z_tuple => k_is); (case z_bool => k_is); (case z_range => k_is); (case z_all => k_is); (case z_isinstance => k_is); (case z_zip => k_is); (case z_sum => k_is); (case z_max => k_is)
    (case gDG => k_is); (case gLT => k_is); (case aO => k_is); (case lO => k_is); (case cO => k_is); (case kO => k_is); (case tO => k_is); (case aP => k_is)
    (case lP => k_is); (case cP => k_is); (case kP => k_is); (case tP => k_is); (case aG => k_is); (case tI => k_is); (case tW => k_is); (case tWg => k_is)
    (case tWt => k_is); (case tWr => k_is); (case tPg => k_is); (case tHd => k_is); (case tPo => k_is); (case tSa => k_is); (case tnh => k_is); (case tnl => k_is)
    (case tnp => k_is); (case tnc => k_is); (case tnw => k_is); (case tMk => k_is); (case tKp => k_is); (case lG => k_is); (case cG => k_is); (case kG => k_is)
    (case tG => k_is); (case e00 => k_is); (case nI => k_is); (case lW => k_is); (case cW => k_is); (case kW => k_is)
