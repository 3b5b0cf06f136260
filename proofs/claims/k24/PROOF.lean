import PyProof.Rows.All
import Wide.All
import OpenK.AllK
import Wide.FinOn
import HandS.ForMost
import HandS.FStr
import KE.KxField
import HandS.Wide
import HandS.StrMore
import HandS.IsInst
import HandS.Codes
import HandS.RaiseMore
import PySem.Challenge.RW_everyparcel_k24_events_table_lines
set_option Elab.async false
set_option linter.all false
set_option maxRecDepth 100000
namespace Ev
open PySem PySem.Spec PyProof.Rows L2
open PySem.Builtin
/-- right-aligned to W columns, left-aligned -/
abbrev fR (W : Nat) : PySem.Builtin.Float.FormatSpec := { align := 62, width := some W }
abbrev fL (W : Nat) : PySem.Builtin.Float.FormatSpec := { align := 60, width := some W }
theorem tl_rj (x : Str) (n : Nat) : (Txt.rjust x n).cps.toList = List.replicate (n - x.length) 32 ++ x.cps.toList := by
  unfold Txt.rjust
  by_cases h : (n : Int) ≤ x.length
  · rw [if_pos h, show n - x.length = 0 by omega]
    rfl
  · rw [if_neg h, padded_list]
    show List.replicate ((n : Int).toNat - x.length) 32 ++ x.cps.toList ++ [] = _
    rw [List.append_nil]
    rfl
theorem tl_lj (x : Str) (n : Nat) : (Txt.ljust x n).cps.toList = x.cps.toList ++ List.replicate (n - x.length) 32 := by
  unfold Txt.ljust
  by_cases h : (n : Int) ≤ x.length
  · rw [if_pos h, show n - x.length = 0 by omega]
    show _ = x.cps.toList ++ []
    rw [List.append_nil]
  · rw [if_neg h, padded_list]
    rfl
theorem field_text (ds : List Nat) (hd : ds.isEmpty = false) (W : Nat) : intField' (fR W) false [] ds [] 3 = Txt.rjust ⟨ds.toArray⟩ W := by
  refine ext_toList ?_
  rw [tl_rj]
  have hl : (⟨ds.toArray⟩ : Str).length = ds.length := by simp [Str.length]
  rw [hl]
  unfold intField'
  simp [hd]
theorem int_text (a : Int) (h0 : 0 ≤ a) (W : Nat) : intSpecText (fR W) a = Txt.rjust (Str.ofString (toString a)) W := by
  obtain ⟨m, rfl⟩ := Int.eq_ofNat_of_zero_le h0
  have ht : Str.ofString (toString ((m : Nat) : Int)) = _ := text_ofNat m
  unfold intSpecText
  rw [ht, decide_eq_false (by omega)]
  refine field_text _ ?_ W
  have := tDigits_len_ge 10 m
  show (List.map _ (Nat.toDigits 10 m)).isEmpty = false
  cases h : Nat.toDigits 10 m with
  | nil => rw [h] at this; simp at this
  | cons _ _ => rfl
theorem meets_int {sp : Str} {W : Nat} (a : Int) (t : Tok) (h : a.natAbs.log2 < 1920) (h0 : 0 ≤ a) (hp : Float.parseFormatSpec sp.cps.toList "int" 62 = .ok (fR W)) (hW : W ≤ 100000) (hne : (sp.length == 0) = false)
    (hb : (sp.cps.back? == some 0) = false) (hasc : ((sp.cps.toList.drop 1).any (· ≥ 128) || (sp.cps.getD 0 0 ≥ 128 && !([60, 62, 61, 94] : List Nat).contains (sp.cps.getD 1 0))) = false)
    (hl : (Txt.rjust (Str.ofString (toString a)) W).length ≤ sizeLine) (u : Tok) : Meets (Builtin.«int.__format__» ⟨[.int a t, .str sp u], []⟩) (fun _ R s => ∀ t' k, R (.ok (.ret (.str (Txt.rjust (Str.ofString (toString a)) W) t'))) { s with toks := k }) := by
  apply PySem.W.KPc.meets_of
  intro prog w A s Q E hq
  unfold Builtin.«int.__format__»
  refine wpAny_bind (wpAny_of_eq (a := (_, _)) rfl ?_)
  refine wpAny_bind (wpAny_of_eq (a := _) rfl ?_)
  kxf_if
  refine wpAny_bind (wpAny_typeNameOf (T := "str") (typeIs_str _ _ _) (by decide) fun _ => ?_)
  refine wpAny_bind (wpAny_of_eq (a := some _) rfl ?_)
  show wpAny _ _ (if (sp.length == 0) = true then _ else _) _ _ _
  rw [if_neg (by rw [hne]; exact Bool.false_ne_true)]
  show wpAny _ _ (if _ = true then _ else _) _ _ _
  rw [if_neg (by rw [hasc]; exact Bool.false_ne_true)]
  refine wpAny_bind (wpAny_typeNameOfCut_int ?_)
  rw [hp, hb]
  have hty : (fR W).type.getD (if false = true then 0 else 100) = 100 := rfl
  dsimp only
  rw [hty]
  rw [if_pos (by decide)]
  apply wpAny_ite_false (c := (fR W).precision.isSome = true) (hc := rfl)
  apply wpAny_ite_false (c := (fR W).noNeg0 = true) (hc := rfl)
  apply wpAny_ite_false (c := ((100 : Nat) == 99) = true) (hc := rfl)
  refine wpAny_bind (wpAny_of_eq (PySem.overDigitLimit_small h) ?_)
  apply wpAny_ite_false (c := W > 100000) (hc := decide_eq_false (by omega))
  have e := int_text a h0 W
  refine PySem.W.KXf.ret_text (T := Txt.rjust (Str.ofString (toString a)) W) ?_ ?_ hq
  · rw [← e]
    unfold intSpecText intField'
    rfl
  · rw [← e] at hl
    unfold intSpecText intField' at hl
    exact hl
  all_goals exact unsupported "no"
theorem rj_len (x : Str) (n : Nat) : (Txt.rjust x n).length = max n x.length := by
  rw [show (Txt.rjust x n).length = (Txt.rjust x n).cps.toList.length from (Array.length_toList).symm, tl_rj, List.length_append, List.length_replicate, show x.cps.toList.length = x.length from Array.length_toList]
  omega
theorem lj_len (x : Str) (n : Nat) : (Txt.ljust x n).length = max n x.length := by
  rw [show (Txt.ljust x n).length = (Txt.ljust x n).cps.toList.length from (Array.length_toList).symm, tl_lj, List.length_append, List.length_replicate, show x.cps.toList.length = x.length from Array.length_toList]
  omega
/-- a text in a field of W columns -/
theorem meets_str {sp x : Str} {f : PySem.Builtin.Float.FormatSpec} {y : Str} (t : Tok) (hp : Float.parseFormatSpec sp.cps.toList "str" 60 = .ok f) (hf : f.type = none) (hW : f.width.getD 0 ≤ 1000) (hne : (sp.length == 0) = false)
    (hb : (sp.cps.back? == some 0) = false) (hasc : ((sp.cps.toList.drop 1).any (· ≥ 128) || (sp.cps.getD 0 0 ≥ 128 && !([60, 62, 61, 94] : List Nat).contains (sp.cps.getD 1 0))) = false)
    (hy : Builtin.Str.strField x f "str" = .ok none ∧ y = x ∨ Builtin.Str.strField x f "str" = .ok (some y)) (hl : y.length ≤ sizeLine) (u : Tok) :
    Meets (Builtin.«str.__format__» ⟨[.str x t, .str sp u], []⟩) (fun _ R s => ∀ t' k, R (.ok (.ret (.str y t'))) { s with toks := k }) := by
  apply PySem.W.KPc.meets_of
  intro prog w A s Q E hq
  unfold Builtin.«str.__format__»
  refine wpAny_bind (wpAny_of_eq (a := (_, _, _)) rfl ?_)
  refine wpAny_bind (wpAny_of_eq (a := some _) rfl ?_)
  show wpAny _ _ (if (sp.length == 0) = true then _ else _) _ _ _
  rw [if_neg (by rw [hne]; exact Bool.false_ne_true)]
  show wpAny _ _ (if _ = true then _ else _) _ _ _
  rw [if_neg (by rw [hasc]; exact Bool.false_ne_true)]
  refine wpAny_bind (PySem.W.KXf.cut_str ?_)
  rw [hp]
  have htl : Builtin.Str.tooLong (f.width.getD 0) = false := by
    unfold Builtin.Str.tooLong
    have : sizeLine = 16777216 := rfl
    simp
    omega
  simp only [bind, Except.bind, hb, Bool.and_false, Bool.false_eq_true, if_false, htl, pure, Except.pure]
  rcases hy with ⟨e, rfl⟩ | e
  · rw [e]
    refine wpAny_bind (wpAny_rule ?_)
    exact PySem.W.KXf.ret_same rfl hq
  · rw [e]
    exact PySem.W.KXf.ret_text rfl hl hq
theorem sub_all (x : Str) : Builtin.Str.strSub x 0 x.length = x := by
  refine ext_toList ?_
  unfold Builtin.Str.strSub
  simp [Str.length]
theorem str_field (x : Str) (W al : Nat) (ha : al = 62 ∨ al = 60) : Builtin.Str.strField x { align := al, width := some W } "str" = if W ≤ x.length then .ok none else .ok (some (Builtin.Str.padded x (if al = 62 then W - x.length else 0) (if al = 62 then 0 else W - x.length) 32)) := by
  unfold Builtin.Str.strField
  by_cases h : W ≤ x.length
  · rw [if_pos h]
    rcases ha with rfl | rfl <;> simp [h, bind, Except.bind, pure, Except.pure]
  · rw [if_neg h]
    rcases ha with rfl | rfl <;> simp [h, bind, Except.bind, pure, Except.pure, sub_all]
theorem str_fR (x : Str) (W : Nat) : Builtin.Str.strField x (fR W) "str" = .ok none ∧ Txt.rjust x W = x ∨ Builtin.Str.strField x (fR W) "str" = .ok (some (Txt.rjust x W)) := by
  rw [str_field x W 62 (.inl rfl)]
  by_cases h : W ≤ x.length
  · rw [if_pos h]
    exact .inl ⟨rfl, by unfold Txt.rjust; rw [if_pos (by omega)]⟩
  · rw [if_neg h]
    refine .inr ?_
    show _ = Except.ok (some (Txt.rjust x W))
    unfold Txt.rjust
    rw [if_neg (show ¬ ((W : Nat) : Int) ≤ (x.length : Int) by omega)]
    rfl
theorem str_fL (x : Str) (W : Nat) : Builtin.Str.strField x (fL W) "str" = .ok none ∧ Txt.ljust x W = x ∨ Builtin.Str.strField x (fL W) "str" = .ok (some (Txt.ljust x W)) := by
  rw [str_field x W 60 (.inr rfl)]
  by_cases h : W ≤ x.length
  · rw [if_pos h]
    exact .inl ⟨rfl, by unfold Txt.ljust; rw [if_pos (by omega)]⟩
  · rw [if_neg h]
    refine .inr ?_
    show _ = Except.ok (some (Txt.ljust x W))
    unfold Txt.ljust
    rw [if_neg (show ¬ ((W : Nat) : Int) ≤ (x.length : Int) by omega)]
    rfl
section
variable {X : Cx}
/-- a value in a field of that form -/
def FmtR (X : Cx) (sp : Str) (r : V → Str → Prop) : Prop := ∀ (s : Shared) (x : V) (v : Value) (y : Str) (Q : Value → Shared → Prop), RelV x v → r x y → (∀ t' k, Q (.str y t') { s with toks := k }) → wpAny (model X.prog X.w) X.A (formatField v sp) Q X.xe s
def tFmtSp (r : V → Str → Prop) (te : TE) : TE := fun σ H Q => te σ H fun x H1 => ∃ y, r x y ∧ Q (.str y) H1
theorem pe_fmtSp {e : Expr} {te : TE} {sp : Str} {k : Nat} {p1 p2 pos : Pos} {r : V → Str → Prop} (hf : FmtR X sp r) (he : PE X e te) : PE X (.FormattedValue e (-1) (some (.JoinedStr [.Constant (.str sp) k p1] p2)) pos) (tFmtSp r te) := by
  refine ⟨fun pins s σ H Q I h => ?_⟩
  refine wpAny_FormattedValue_spec (thn (he.run pins s σ H _ I h) fun v s1 ⟨x, H1, I1, r1, y, hr, q⟩ => ?_)
  refine thn ((pe_joined1 (pos := p2) (pe_str (X := X) (x := sp))).run pins s1 σ H1 (fun z H2 => z = .str sp ∧ H2 = H1) I1 ⟨rfl, rfl⟩) fun v2 s2 ⟨z, H2, I2, r2, e1, e2⟩ => ?_
  subst e1 e2
  obtain ⟨t, rfl⟩ := r2
  exact ⟨sp, t, rfl, hf s2 x v y _ r1 hr fun t' k => ⟨.str y, H2, I2.tok _, ⟨_, rfl⟩, q⟩⟩
/-- numbers to the right -/
def rNumR (W : Nat) (x : V) (y : Str) : Prop := ∃ i : Int, x = .int i ∧ 0 ≤ i ∧ i.natAbs.log2 < 1920 ∧ (Txt.rjust (Str.ofString (toString i)) W).length ≤ sizeLine ∧ y = Txt.rjust (Str.ofString (toString i)) W
def rStrR (W : Nat) (x : V) (y : Str) : Prop := ∃ z : Str, x = .str z ∧ y = Txt.rjust z W ∧ y.length ≤ sizeLine
def rStrL (W : Nat) (x : V) (y : Str) : Prop := ∃ z : Str, x = .str z ∧ y = Txt.ljust z W ∧ y.length ≤ sizeLine
theorem fmt_R {sp : Str} {W : Nat} (hW : W ≤ 1000) (hp : Float.parseFormatSpec sp.cps.toList "int" 62 = .ok (fR W)) (hp2 : Float.parseFormatSpec sp.cps.toList "str" 60 = .ok (fR W)) (hne : (sp.length == 0) = false)
    (hb : (sp.cps.back? == some 0) = false) (hasc : ((sp.cps.toList.drop 1).any (· ≥ 128) || (sp.cps.getD 0 0 ≥ 128 && !([60, 62, 61, 94] : List Nat).contains (sp.cps.getD 1 0))) = false) (hs : sp.length ≤ sizeLine) :
    FmtR X sp (fun x y => rNumR W x y ∨ rStrR W x y) := by
  intro s x v y Q rx hr hq
  rcases hr with ⟨i, rfl, h0, hlog, hl, rfl⟩ | ⟨z, rfl, rfl, hl⟩
  · obtain ⟨t, rfl⟩ := rx
    exact PySem.W.KXf.field_int rfl hne hs (meets_int i t hlog h0 hp (by omega) hne hb hasc hl) hq
  · obtain ⟨t, rfl⟩ := rx
    exact PySem.W.KXf.field_str rfl rfl hne hs (meets_str t hp2 rfl hW hne hb hasc (str_fR z W) hl) hq
theorem fmt_L {sp : Str} {W : Nat} (hW : W ≤ 1000) (hp2 : Float.parseFormatSpec sp.cps.toList "str" 60 = .ok (fL W)) (hne : (sp.length == 0) = false)
    (hb : (sp.cps.back? == some 0) = false) (hasc : ((sp.cps.toList.drop 1).any (· ≥ 128) || (sp.cps.getD 0 0 ≥ 128 && !([60, 62, 61, 94] : List Nat).contains (sp.cps.getD 1 0))) = false) (hs : sp.length ≤ sizeLine) :
    FmtR X sp (rStrL W) := by
  intro s x v y Q rx hr hq
  obtain ⟨z, rfl, rfl, hl⟩ := hr
  obtain ⟨t, rfl⟩ := rx
  exact PySem.W.KXf.field_str rfl rfl hne hs (meets_str t hp2 rfl hW hne hb hasc (str_fL z W) hl) hq
theorem fmt_7 : FmtR X (Str.ofString ">7") (fun x y => rNumR 7 x y ∨ rStrR 7 x y) := fmt_R (by decide) rfl rfl (by decide +kernel) (by decide +kernel) (by decide +kernel) (by decide +kernel)
theorem fmt_12 : FmtR X (Str.ofString ">12") (fun x y => rNumR 12 x y ∨ rStrR 12 x y) := fmt_R (by decide) rfl rfl (by decide +kernel) (by decide +kernel) (by decide +kernel) (by decide +kernel)
theorem fmt_8 : FmtR X (Str.ofString "<8") (rStrL 8) := fmt_L (by decide) rfl (by decide +kernel) (by decide +kernel) (by decide +kernel) (by decide +kernel)
end
end Ev
namespace Ev
open PySem PySem.Spec PyProof.Rows L2
def topS (i : Nat) : Stmt := PySem.Challenge.pw_everyparcel_k24_events_table_lines.main.body.getD i (.Pass ⟨0, 0, 0, 0⟩)
abbrev sDraw : Stmt := topS 3
theorem scD : FnScope ["pot", "many", "cell", "digit"] ["pot", "many"] (defScope sDraw) := ⟨rfl, rfl, rfl, by decide +kernel, rfl, by decide +kernel, by decide +kernel⟩
abbrev MM : Int := 2305843009213693951
/-- all but p is as it was, and the list at p begins as it did -/
def But (p : Addr) (H H' : Hp) : Prop := (∀ b o, H b = some o → b ≠ p → H' b = some o) ∧ ∀ x xs, H p = some (.lst (x :: xs)) → ∃ ys, H' p = some (.lst (x :: ys))
theorem But.refl (p : Addr) (H : Hp) : But p H H := ⟨fun _ _ h _ => h, fun _ xs h => ⟨xs, h⟩⟩
theorem But.trans {p : Addr} {H H1 H2 : Hp} (a : But p H H1) (b : But p H1 H2) : But p H H2 := ⟨fun c o h n => b.1 c o (a.1 c o h n) n, fun x xs h => by
  obtain ⟨ys, e⟩ := a.2 x xs h
  exact b.2 x ys e⟩
theorem But.upd {p : Addr} {H : Hp} {x : V} {xs ys : List V} (h : H p = some (.lst (x :: xs))) : But p H (upd H p (.lst (x :: ys))) := ⟨fun b o e n => by rw [upd_ne n]; exact e, fun z zs e => by
  rw [h] at e
  cases e
  exact ⟨ys, upd_same⟩⟩
theorem But.new {p q : Addr} {H : Hp} {o : HO} (h : H q = none) : But p H (L2.upd H q o) := ⟨fun b x e n => by
  rw [upd_ne (ne_of_none e h)]
  exact e, fun x xs e => ⟨xs, by rw [upd_ne (ne_of_none e h)]; exact e⟩⟩
/-- the pot of the draws -/
def Pot (H : Hp) (p : Addr) : Prop := ∃ (c : Addr) (ns : List Int) (i r m : Int), H p = some (.lst [.ref c, .int i, .int r, .int m]) ∧ H c = some (.lst (ns.map V.int)) ∧ 0 ≤ i ∧ 0 ≤ r ∧ 0 ≤ m ∧ m < MM ∧ c ≠ p
theorem Pot.new {H : Hp} {p q : Addr} {o : HO} (P : Pot H p) (h : H q = none) : Pot (upd H q o) p := by
  obtain ⟨c, ns, i, r, m, h1, h2, rest⟩ := P
  refine ⟨c, ns, i, r, m, ?_, ?_, rest⟩
  · rw [upd_ne (ne_of_none h1 h)]; exact h1
  · rw [upd_ne (ne_of_none h2 h)]; exact h2
section
variable {P : Program} {w : World} {K : PySem.W.Frag} {mg : Str → Option Value} {base : Heap}
def spDraw : Sp := fun vs H Q _ => ∃ (p : Addr) (n : Int), vs = [.ref p, .int n] ∧ Pot H p ∧ 1 ≤ n ∧ n < 2 ^ 60 ∧ ∀ (z : Int) (H' : Hp), 0 ≤ z → z < n → Pot H' p → But p H H' → Q (.int z) H'
theorem sqOf {H : Hp} {p : Addr} {xs : List V} (h : H p = some (.lst xs)) : SqL K H p xs := .inl (.inl h)
theorem ok_draw {f : Addr} {fd : FuncData} {k : Nat} (F : Fun K "_law_draw" "_law_draw" sDraw f fd) (ml : mg "len" = none) (mi : mg "int" = none) : FnOk P w K mg base CX0 (k + 1) f fd ["pot", "many"] spDraw := by
  refine F.ok scD (fun vs H Q E h => ?_) (fun cdv A outer s H vs Q E hr h => ?_)
  · obtain ⟨p, n, rfl, _⟩ := h
    rfl
  · obtain ⟨p, n, rfl, hP, h1, h2, q⟩ := h
    refine ⟨_, C8.pss_cut (ps_if (PW.pt (pw_and (pt_cmpR op_lt (pe_ix ix_list (pv 0) pe_int (fun _ _ => rfl)) pe_int (nomark _)) (pw_and1 (pt_cmpR op_lt (pe_ix ix_list (pv 0) pe_int (fun _ _ => rfl)) (pe_callB call_len_seq (by rfl) ml PySem.boot_len (pa_cons (pe_ix ix_list (pv 0) pe_int (fun _ _ => rfl)) pa_nil)) (nomark _)))))
        (pss_cons (ps_set (i := 2) scD.nd rfl (.inl rfl) (pe_callTy call_int1 (by rfl) mi PyProof.Rows.boot_int (pa_cons (pe_ix ix_list (pe_ix ix_list (pv 0) pe_int (fun _ _ => rfl)) (pe_ix ix_list (pv 0) pe_int (fun _ _ => rfl)) (fun _ _ => rfl)) pa_nil)))
        (pss_cons (ps_asg (pe_op op_add (pe_ix ix_list (pv 0) pe_int (fun _ _ => rfl)) pe_int) (pg_sub (pv 0) pe_int set_list))
        (pss_one (ps_if (pt_cmpR op_ge (pv 2) (pe_op op_pow pe_int pe_int) (nomark _))
          (pss_one (ps_asg (pv 2) (pg_sub (pv 0) pe_int set_list)))
          (pss_one (ps_asg (pe_op op_mod (pe_callTy call_int1 (by rfl) mi PyProof.Rows.boot_int (pa_cons (pe_op op_add (pe_op op_add (pe_op op_mul (pe_ix ix_list (pv 0) pe_int (fun _ _ => rfl)) pe_int) (pe_op op_mul (pv 2) pe_int)) pe_int) pa_nil)) pe_int) (pg_sub (pv 0) pe_int set_list)))))))
        pss_nil)
      (pss_cons (ps_if (pt_cmpR op_gt (pe_ix ix_list (pv 0) pe_int (fun _ _ => rfl)) pe_int (nomark _))
        (pss_cons (ps_set (i := 3) scD.nd rfl (.inl rfl) (pe_op op_mod (pe_callTy call_int1 (by rfl) mi PyProof.Rows.boot_int (pa_cons (pe_ix ix_list (pv 0) pe_int (fun _ _ => rfl)) pa_nil)) (pv 1)))
        (pss_cons (ps_asg (pe_op op_fdivW (pe_ix ix_list (pv 0) pe_int (fun _ _ => rfl)) (pv 1)) (pg_sub (pv 0) pe_int set_list))
        (pss_one (ps_ret (pv 3)))))
        pss_nil)
      (pss_cons (ps_asg (pe_op op_mod (pe_callTy call_int1 (by rfl) mi PyProof.Rows.boot_int (pa_cons (pe_op op_add (pe_op op_mul (pe_ix ix_list (pv 0) pe_int (fun _ _ => rfl)) pe_int) pe_int) pa_nil)) pe_int) (pg_sub (pv 0) pe_int set_list))
      (pss_one (ps_ret (pe_op op_mod (pe_callTy call_int1 (by rfl) mi PyProof.Rows.boot_int (pa_cons (pe_op op_add (pe_op op_fdivW (pe_ix ix_list (pv 0) pe_int (fun _ _ => rfl)) pe_int) (pe_op op_fdivW (pe_ix ix_list (pv 0) pe_int (fun _ _ => rfl)) pe_int)) pa_nil)) (pv 1)))))), ?_⟩
    refine ⟨fun σ' H' => ∃ y z, σ' = [some (.ref p), some (.int n), y, z] ∧ Pot H' p ∧ But p H H', ?_, ?_⟩
    · obtain ⟨c, ns, i, r, m, hp, hc, i0, r0, m0, m1, cp⟩ := id hP
      refine ⟨.ref p, rfl, p, _, 2, .int r, rfl, rfl, sqOf hp, atI_nat (j := 2) rfl, r, 2, rfl, rfl, _, rfl, ite2 (fun e1 => ?_) (fun e1 => ?_)⟩
      · refine ⟨.ref p, rfl, p, _, 1, .int i, rfl, rfl, sqOf hp, atI_nat (j := 1) rfl, .ref p, rfl, p, _, 0, .ref c, rfl, rfl, sqOf hp, atI_nat (j := 0) rfl, c, _, rfl, .inl (sqOf hc), i, _, rfl, rfl, _, rfl, ite2 (fun e2 => ?_) (fun e2 => ?_)⟩
        · have hi : i < (ns.length : Int) := by
            have := of_decide_eq_true e2
            rw [List.length_map] at this
            exact this
          obtain ⟨j, rfl⟩ : ∃ j : Nat, i = (j : Int) := ⟨i.toNat, by omega⟩
          have hj : j < ns.length := by omega
          have hg : (ns.map V.int)[j]? = some (.int ns[j]) := by
            rw [List.getElem?_map, List.getElem?_eq_getElem hj]
            rfl
          have hp' : ∀ xs, (upd H p (.lst xs)) p = some (.lst xs) := fun xs => upd_same
          have hc' : ∀ xs, (upd H p (.lst xs)) c = some (.lst (ns.map V.int)) := fun xs => by rw [upd_ne cp]; exact hc
          refine ⟨.ref p, rfl, p, _, 0, .ref c, rfl, rfl, sqOf hp, atI_nat (j := 0) rfl, .ref p, rfl, p, _, 1, .int j, rfl, rfl, sqOf hp, atI_nat (j := 1) rfl, c, _, j, .int ns[j], rfl, rfl, sqOf hc, atI_nat hg, .inl ⟨_, rfl, ?_⟩⟩
          refine ⟨.ref p, rfl, p, _, 1, .int j, rfl, rfl, sqOf hp, atI_nat (j := 1) rfl, j, 1, rfl, rfl, .ref p, rfl, p, _, 1, 1, rfl, rfl, hp, rfl, ?_⟩
          refine ⟨.int ns[j], rfl, 10, 18, rfl, rfl, ⟨by decide, by decide, by decide⟩, _, _, rfl, rfl, _, rfl, ite2 (fun e3 => ?_) (fun e3 => ?_)⟩
          · have h3 : (10 : Int) ^ (18 : Int).toNat ≤ ns[j] := of_decide_eq_true e3
            have h0 : (0 : Int) ≤ ns[j] := by
              have : (0 : Int) ≤ (10 : Int) ^ (18 : Int).toNat := by decide
              omega
            refine ⟨_, rfl, .ref p, rfl, p, _, 2, 2, rfl, rfl, hp' _, rfl, ?_⟩
            refine ⟨_, _, rfl, ⟨c, ns, (j : Int) + 1, ns[j], m, by rw [upd_same]; rfl, by rw [upd_upd]; exact hc' _, by omega, h0, m0, m1, cp⟩, (But.upd hp).trans (But.upd upd_same)⟩
          · refine ⟨.ref p, rfl, p, _, 3, .int m, rfl, rfl, sqOf (hp' _), atI_nat (j := 3) rfl, m, 1000003, rfl, rfl, .inr ⟨by decide, by decide⟩, _, rfl, ns[j], 69621, rfl, rfl, .inr ⟨by decide, by decide⟩, _, _, rfl, rfl, _, _, rfl, rfl, .inl ⟨_, rfl, _, MM, rfl, rfl, (by show (0 : Int) < MM; decide), .ref p, rfl, p, _, 3, 3, rfl, rfl, hp' _, rfl, ?_⟩⟩
            refine ⟨_, _, rfl, ⟨c, ns, (j : Int) + 1, r, _, by rw [upd_same]; rfl, by rw [upd_upd]; exact hc' _, by omega, r0, Int.emod_nonneg _ (by decide), Int.emod_lt_of_pos _ (by decide), cp⟩, (But.upd hp).trans (But.upd upd_same)⟩
        · exact (⟨none, none, rfl, hP, But.refl _ _⟩ : ∃ y z, ([some (.ref p), some (.int n), none, none] : L2.St) = [some (.ref p), some (.int n), y, z] ∧ Pot H p ∧ But p H H)
      · exact (⟨none, none, rfl, hP, But.refl _ _⟩ : ∃ y z, ([some (.ref p), some (.int n), none, none] : L2.St) = [some (.ref p), some (.int n), y, z] ∧ Pot H p ∧ But p H H)
    · rintro σ' H' ⟨y, z, rfl, ⟨c, ns, i, r, m, hp, hc, i0, r0, m0, m1, cp⟩, hB⟩
      have hn9 : n.natAbs < 2 ^ 61 := by omega
      refine ⟨.ref p, rfl, p, _, 2, .int r, rfl, rfl, sqOf hp, atI_nat (j := 2) rfl, r, 1, rfl, rfl, _, rfl, ite2 (fun e1 => ?_) (fun e1 => ?_)⟩
      · refine ⟨.ref p, rfl, p, _, 2, .int r, rfl, rfl, sqOf hp, atI_nat (j := 2) rfl, .inl ⟨_, rfl, .int n, rfl, _, _, rfl, rfl, by omega, ?_⟩⟩
        refine ⟨.ref p, rfl, p, _, 2, .int r, rfl, rfl, sqOf hp, atI_nat (j := 2) rfl, .int n, rfl, r, n, rfl, rfl, wide_div (by omega) hn9 (by decide) (by decide), .ref p, rfl, p, _, 2, 2, rfl, rfl, hp, rfl, ?_⟩
        refine ⟨_, rfl, q _ _ (Int.emod_nonneg _ (by omega)) (Int.emod_lt_of_pos _ (by omega)) ⟨c, ns, i, r / n, m, by rw [upd_same]; rfl, by rw [upd_ne cp]; exact hc, i0, Int.ediv_nonneg r0 (by omega), m0, m1, cp⟩ (hB.trans (But.upd hp))⟩
      · refine ⟨.ref p, rfl, p, _, 3, .int m, rfl, rfl, sqOf hp, atI_nat (j := 3) rfl, m, 48271, rfl, rfl, .inr ⟨by decide, by decide⟩, _, _, rfl, rfl, .inl ⟨_, rfl, _, MM, rfl, rfl, (by show (0 : Int) < MM; decide), .ref p, rfl, p, _, 3, 3, rfl, rfl, hp, rfl, ?_⟩⟩
        have hp' : ∀ xs, (upd H' p (.lst xs)) p = some (.lst xs) := fun xs => upd_same
        refine ⟨.ref p, rfl, p, _, 3, _, rfl, rfl, sqOf (hp' _), atI_nat (j := 3) rfl, _, 65537, rfl, rfl, wide_div (b := 17) (by decide) (by decide) (by decide) (by decide), .ref p, rfl, p, _, 3, _, rfl, rfl, sqOf (hp' _), atI_nat (j := 3) rfl, _, 4294967311, rfl, rfl, wide_div (b := 33) (by decide) (by decide) (by decide) (by decide), _, _, rfl, rfl, .inl ⟨_, rfl, .int n, rfl, _, _, rfl, rfl, by omega, ?_⟩⟩
        exact q _ _ (Int.emod_nonneg _ (by omega)) (Int.emod_lt_of_pos _ (by omega)) ⟨c, ns, i, r, _, by rw [upd_same]; rfl, by rw [upd_ne cp]; exact hc, i0, r0, Int.emod_nonneg _ (by decide), Int.emod_lt_of_pos _ (by decide), cp⟩ (hB.trans (But.upd hp))
end
end Ev
namespace Ev
open PySem PySem.Spec PyProof.Rows L2
/-! texts times numbers -/
theorem foldA : ∀ (n : Nat) (a b : Array Nat), ((List.replicate n a).foldl (· ++ ·) b).toList = b.toList ++ (List.replicate n a.toList).flatten
  | 0, a, b => by simp
  | n + 1, a, b => by
    rw [List.replicate_succ, List.foldl_cons, foldA n a (b ++ a), Array.toList_append, List.replicate_succ, List.flatten_cons, List.append_assoc]
theorem mulL (x : Str) (n : Int) : (Txt.mul x n).cps.toList = (List.replicate n.toNat x.cps.toList).flatten := by
  unfold Txt.mul
  by_cases h1 : n < 1
  · rw [if_pos h1, show n.toNat = 0 by omega]
    rfl
  · rw [if_neg h1]
    by_cases h2 : (n == 1 || x.length == 0) = true
    · rw [if_pos h2]
      rcases Bool.or_eq_true _ _ ▸ h2 with h | h
      · have e : n = 1 := eq_of_beq h
        rw [e]
        show x.cps.toList = x.cps.toList ++ []
        rw [List.append_nil]
      · have e : x.cps.toList = [] := by
          have : x.cps.size = 0 := eq_of_beq h
          exact List.length_eq_zero_iff.mp (by rw [Array.length_toList]; exact this)
        rw [e]
        induction n.toNat with
        | zero => rfl
        | succ k ih => rw [List.replicate_succ, List.flatten_cons, ← ih]; rfl
    · rw [if_neg h2]
      show ((List.replicate n.toNat x.cps).foldl (· ++ ·) #[]).toList = _
      rw [foldA]
      rfl
theorem flat_len {α : Type} (n : Nat) (l : List α) : (List.replicate n l).flatten.length = n * l.length := by
  induction n with
  | zero => simp
  | succ k ih => rw [List.replicate_succ, List.flatten_cons, List.length_append, ih, Nat.succ_mul, Nat.add_comm]
theorem len_toList (x : Str) : x.length = x.cps.toList.length := (Array.length_toList).symm
theorem mul_len (x : Str) (n : Int) : (Txt.mul x n).length = n.toNat * x.length := by
  rw [len_toList, mulL, flat_len, ← len_toList]
section
variable {X : Cx}
theorem op_mul_str : OpR X (binaryOp .Mult) (fun x y H Q => ∃ (a : Str) (i : Int), x = .str a ∧ y = .int i ∧ -(2 ^ 62) < i ∧ i < 2 ^ 62 ∧ a.length * i.toNat ≤ sizeLine ∧ Q (.str (Txt.mul a i)) H) := by
  intro pins s σ H x y v u Q I rx ry h
  obtain ⟨a, i, rfl, rfl, h1, h2, hz, q⟩ := h
  obtain ⟨t, rfl⟩ := rx
  obtain ⟨t', rfl⟩ := ry
  refine SB.mul ⟨?_, fun h3 h4 => ?_, fun h3 h4 => ?_⟩ (fun t' tk => ⟨.str _, H, I.tok _, ⟨_, rfl⟩, q⟩)
  · rw [decide_eq_false (by omega), decide_eq_false (by omega)]
    rfl
  · have hs : (sizeLine : Int) = 16777216 := by decide
    obtain ⟨k, rfl⟩ : ∃ k : Nat, i = (k : Int) := ⟨i.toNat, by omega⟩
    have hz' : a.length * k ≤ sizeLine := hz
    have hk : 0 < (k : Int) := by omega
    intro hh
    have h5 : (2 ^ 63 - 1) / (k : Int) + 1 ≤ (a.length : Int) := hh
    have h6 : (2 ^ 63 - 1 : Int) < ((2 ^ 63 - 1) / (k : Int) + 1) * k := Int.lt_ediv_add_one_mul_self _ hk
    have h7 : ((2 ^ 63 - 1) / (k : Int) + 1) * k ≤ (a.length : Int) * k := Int.mul_le_mul_of_nonneg_right h5 (by omega)
    have h8 : (a.length : Int) * (k : Int) ≤ sizeLine := by
      rw [← Int.natCast_mul]
      exact Int.ofNat_le.mpr hz'
    omega
  · show decide (a.length * i.toNat > sizeLine) = false
    exact decide_eq_false (by omega)
end
theorem at_sign {z : Str} {i : Int} (h : i < z.length) (h0 : 0 ≤ i) : ∃ c, z.cps[i.toNat]? = some c := by
  have : i.toNat < z.cps.size := by
    show i.toNat < z.length
    omega
  exact ⟨_, Array.getElem?_eq_getElem this⟩
theorem one_len (c : Nat) : (⟨#[c]⟩ : Str).length = 1 := rfl
theorem app_len (a b : Str) : (a ++ b).length = a.length + b.length := by
  show (a.cps ++ b.cps).size = _
  rw [Array.size_append]
  rfl
theorem cut_len (z : Str) (j : Int) (h : 0 ≤ j) : (cutS z none (some j)).length ≤ j.toNat := by
  rw [len_toList]
  show ((z.cps.toList.drop (HT.sIx z.length 0 none)).take (HT.sIx z.length z.length (some j) - HT.sIx z.length 0 none)).toArray.toList.length ≤ _
  rw [List.toList_toArray, List.length_take]
  have e : HT.sIx z.length z.length (some j) = min j.toNat z.length := by
    obtain ⟨k, rfl⟩ : ∃ k : Nat, j = (k : Int) := ⟨j.toNat, by omega⟩
    exact HT.sIx_nat z.length z.length k
  rw [e]
  omega
abbrev Sg (z : Str) : Prop := ∀ c ∈ z.cps.toList, c < 1114112
structure TxOk (z : Str) : Prop where
  len : z.length ≤ 40
  sg : Sg z
theorem sg_app {a b : Str} (ha : Sg a) (hb : Sg b) : Sg (a ++ b) := fun c hc => by
  have hc : c ∈ (a.cps ++ b.cps).toList := hc
  rw [Array.toList_append, List.mem_append] at hc
  exact hc.elim (ha c) (hb c)
theorem sg_mul {a : Str} {n : Int} (ha : Sg a) : Sg (Txt.mul a n) := fun c hc => by
  rw [mulL, List.mem_flatten] at hc
  obtain ⟨l, hl, hm⟩ := hc
  rw [List.eq_of_mem_replicate hl] at hm
  exact ha c hm
theorem sg_cut {a : Str} {lo hi : Option Int} (ha : Sg a) : Sg (cutS a lo hi) := fun c hc => by
  have hc : c ∈ (((a.cps.toList.drop (HT.sIx a.length 0 lo)).take (HT.sIx a.length a.length hi - HT.sIx a.length 0 lo)).toArray).toList := hc
  rw [List.toList_toArray] at hc
  exact ha c (List.mem_of_mem_drop (List.mem_of_mem_take hc))
theorem sg_one {z : Str} {i : Nat} {c : Nat} (hz : Sg z) (h : z.cps[i]? = some c) : Sg ⟨#[c]⟩ := fun d hd => by
  have e : d = c := List.mem_singleton.mp hd
  rw [e]
  refine hz c ?_
  rw [Array.mem_toList_iff]
  exact Array.mem_of_getElem? h
abbrev sWord : Stmt := topS 4
abbrev sTick : Stmt := topS 5
abbrev sUnit : Stmt := topS 6
theorem scW : FnScope ["pot", "many", "signs", "head", "rest"] ["pot", "many"] (defScope sWord) := ⟨rfl, rfl, rfl, by decide +kernel, rfl, by decide +kernel, by decide +kernel⟩
theorem scT : FnScope ["pot", "way"] ["pot"] (defScope sTick) := ⟨rfl, rfl, rfl, by decide +kernel, rfl, by decide +kernel, by decide +kernel⟩
theorem scU : FnScope ["pot", "way"] ["pot"] (defScope sUnit) := ⟨rfl, rfl, rfl, by decide +kernel, rfl, by decide +kernel, by decide +kernel⟩
section
variable {P : Program} {w : World} {K : PySem.W.Frag} {mg : Str → Option Value} {base : Heap}
/-- what a def of the text has: it stands, its arguments bind, its global is it -/
structure Dd (K : PySem.W.Frag) (mg : Str → Option Value) (x : Str) (st : Stmt) (ps : List Str) (f : Addr) (fd : FuncData) : Prop where
  F : Fun K x x st f fd
  b : Binds K fd ps []
  g : mg x = some (.ref f)
def spWord : Sp := fun vs H Q _ => ∃ (p : Addr) (n : Int), vs = [.ref p, .int n] ∧ Pot H p ∧ 1 ≤ n ∧ n ≤ 20 ∧ ∀ (z : Str) (H' : Hp), TxOk z → Pot H' p → But p H H' → Q (.str z) H'
theorem ok_word {f g : Addr} {fd gd : FuncData} (F : Fun K "_law_word" "_law_word" sWord f fd) (D : Dd K mg "_law_draw" sDraw ["pot", "many"] g gd) (ml : mg "len" = none) (mi : mg "int" = none) : FnOk P w K mg base CX0 2 f fd ["pot", "many"] spWord := by
  have GD : FnOk P w K mg base CX0 1 g gd ["pot", "many"] spDraw := ok_draw D.F ml mi
  refine F.ok scW (fun vs H Q E h => ?_) (fun cdv A outer s H vs Q E hr h => ?_)
  · obtain ⟨p, n, rfl, _⟩ := h
    rfl
  · obtain ⟨p, n, rfl, hP, h1, h2, q⟩ := h
    refine ⟨_, pss_cons (ps_set (i := 2) scW.nd rfl (.inl rfl) pe_str)
      (pss_cons (ps_set (i := 3) scW.nd rfl (.inl rfl) (pe_item_str (pv 2) (pe_call GD hr (by rfl) D.g D.F.kp D.b .nil pass0 (pa_cons (pv 0) (pa_cons pe_int pa_nil))) (fun _ _ => rfl)))
      (pss_cons (ps_set (i := 4) scW.nd rfl (.inl rfl) (pe_op op_add_str (pe_item_str (pv 2) (pe_call GD hr (by rfl) D.g D.F.kp D.b .nil pass0 (pa_cons (pv 0) (pa_cons pe_int pa_nil))) (fun _ _ => rfl)) (pe_item_str (pv 2) (pe_call GD hr (by rfl) D.g D.F.kp D.b .nil pass0 (pa_cons (pv 0) (pa_cons pe_int pa_nil))) (fun _ _ => rfl))))
      (pss_one (ps_ret (pe_op op_add_str (pv 3) (pe_slice sl_str (pe_op op_mul_str (pv 4) (pv 1)) po_none (po_some (pe_op op_sub (pv 1) pe_int)))))))), ?_⟩
    have hz : ((("abcdefghijklmnopqrstuvwxyz0123456789" : String) : Str).length : Int) = 36 := by decide +kernel
    have hsg : Sg (("abcdefghijklmnopqrstuvwxyz0123456789" : String) : Str) := by decide +kernel
    generalize hs : (("abcdefghijklmnopqrstuvwxyz0123456789" : String) : Str) = signs at hz hsg
    refine ⟨_, rfl, .ref p, rfl, p, 26, rfl, hP, by decide, by decide, fun i1 H1 a1 b1 P1 B1 => ?_⟩
    obtain ⟨c1, e1⟩ := at_sign (z := signs) (i := i1) (by omega) a1
    refine ⟨signs, i1, c1, rfl, rfl, a1, by omega, by omega, e1, ?_⟩
    refine ⟨_, rfl, .ref p, rfl, p, 36, rfl, P1, by decide, by decide, fun i2 H2 a2 b2 P2 B2 => ?_⟩
    obtain ⟨c2, e2⟩ := at_sign (z := signs) (i := i2) (by omega) a2
    refine ⟨signs, i2, c2, rfl, rfl, a2, by omega, by omega, e2, ?_⟩
    refine ⟨_, rfl, .ref p, rfl, p, 36, rfl, P2, by decide, by decide, fun i3 H3 a3 b3 P3 B3 => ?_⟩
    obtain ⟨c3, e3⟩ := at_sign (z := signs) (i := i3) (by omega) a3
    refine ⟨signs, i3, c3, rfl, rfl, a3, by omega, by omega, e3, _, _, rfl, rfl, by rw [one_len, one_len]; decide, ?_⟩
    have hl : ((⟨#[c2]⟩ : Str) ++ ⟨#[c3]⟩).length = 2 := by rw [app_len, one_len, one_len]
    have hm : (Txt.mul ((⟨#[c2]⟩ : Str) ++ ⟨#[c3]⟩) n).length ≤ 40 := by
      rw [mul_len, hl]
      omega
    have hc := cut_len (Txt.mul ((⟨#[c2]⟩ : Str) ++ ⟨#[c3]⟩) n) (n - 1) (by omega)
    have hs : sizeLine = 16777216 := rfl
    refine ⟨_, rfl, _, rfl, .int n, rfl, _, n, rfl, rfl, by omega, by omega, by rw [hl]; omega, .int n, rfl, n, 1, rfl, rfl, n - 1, rfl, _, rfl, by omega, _, _, rfl, rfl, by rw [one_len]; omega, ?_⟩
    exact q _ _ ⟨by rw [app_len, one_len]; omega, sg_app (sg_one hsg e1) (sg_cut (sg_mul (sg_app (sg_one hsg e2) (sg_one hsg e3))))⟩ P3 ((B1.trans B2).trans B3)
end
end Ev
namespace Ev
open PySem PySem.Spec PyProof.Rows L2
theorem tick_at : ∀ (j : Nat), j < 7 → ∃ v : Int, ([.int 0, .int 9, .int 10, .int 99, .int 100, .int 999999, .int 1000000] : List V)[j]? = some (.int v) ∧ 0 ≤ v ∧ v < 10 ^ 9
  | 0, _ => ⟨_, rfl, by decide, by decide⟩
  | 1, _ => ⟨_, rfl, by decide, by decide⟩
  | 2, _ => ⟨_, rfl, by decide, by decide⟩
  | 3, _ => ⟨_, rfl, by decide, by decide⟩
  | 4, _ => ⟨_, rfl, by decide, by decide⟩
  | 5, _ => ⟨_, rfl, by decide, by decide⟩
  | 6, _ => ⟨_, rfl, by decide, by decide⟩
  | j + 7, h => absurd h (by omega)
theorem unit_at : ∀ (j : Nat), j < 5 → ∃ v : Int, ([.int 9, .int 90, .int 900, .int 99999, .int 999999999] : List V)[j]? = some (.int v) ∧ 1 ≤ v ∧ v < 10 ^ 9
  | 0, _ => ⟨_, rfl, by decide, by decide⟩
  | 1, _ => ⟨_, rfl, by decide, by decide⟩
  | 2, _ => ⟨_, rfl, by decide, by decide⟩
  | 3, _ => ⟨_, rfl, by decide, by decide⟩
  | 4, _ => ⟨_, rfl, by decide, by decide⟩
  | j + 5, h => absurd h (by omega)
theorem at_nat {α : Type} {xs : List α} {i : Int} {v : α} (h0 : 0 ≤ i) (h : xs[i.toNat]? = some v) : atI xs i = some v := by
  have e : i = (i.toNat : Int) := by omega
  rw [e]
  exact atI_nat h
def UnitOk (v : V) : Prop := (∃ n : Int, v = .int n ∧ 0 ≤ n ∧ n < 10 ^ 14) ∨ ∃ z : Str, v = .str z ∧ TxOk z
section
variable {P : Program} {w : World} {K : PySem.W.Frag} {mg : Str → Option Value} {base : Heap}
def spTick : Sp := fun vs H Q _ => ∃ (p : Addr), vs = [.ref p] ∧ Pot H p ∧ ∀ (t : Int) (H' : Hp), 0 ≤ t → t < 10 ^ 9 → Pot H' p → But p H H' → Q (.int t) H'
theorem ok_tick {f g : Addr} {fd gd : FuncData} (F : Fun K "_law_tick" "_law_tick" sTick f fd) (D : Dd K mg "_law_draw" sDraw ["pot", "many"] g gd) (ml : mg "len" = none) (mi : mg "int" = none) : FnOk P w K mg base CX0 2 f fd ["pot"] spTick := by
  have GD : FnOk P w K mg base CX0 1 g gd ["pot", "many"] spDraw := ok_draw D.F ml mi
  refine F.ok scT (fun vs H Q E h => ?_) (fun cdv A outer s H vs Q E hr h => ?_)
  · obtain ⟨p, rfl, _⟩ := h
    rfl
  · obtain ⟨p, rfl, hP, q⟩ := h
    refine ⟨_, pss_cons (ps_set (i := 1) scT.nd rfl (.inl rfl) (pe_call GD hr (by rfl) D.g D.F.kp D.b .nil pass0 (pa_cons (pv 0) (pa_cons pe_int pa_nil))))
      (pss_cons (ps_if (pt_cmpR op_eq (pv 1) pe_int (nomark _)) (pss_one (ps_ret (pe_call GD hr (by rfl) D.g D.F.kp D.b .nil pass0 (pa_cons (pv 0) (pa_cons pe_int pa_nil))))) pss_nil)
      (pss_cons (ps_if (pt_cmpR op_eq (pv 1) pe_int (nomark _)) (pss_one (ps_ret (pe_ix ix_list (pe_lst (pa_cons pe_int (pa_cons pe_int (pa_cons pe_int (pa_cons pe_int (pa_cons pe_int (pa_cons pe_int (pa_cons pe_int pa_nil)))))))) (pe_call GD hr (by rfl) D.g D.F.kp D.b .nil pass0 (pa_cons (pv 0) (pa_cons pe_int pa_nil))) (fun _ _ => rfl)))) pss_nil)
      (pss_cons (ps_if (pt_cmpR op_eq (pv 1) pe_int (nomark _)) (pss_one (ps_ret (pe_op op_add (pe_op op_pow pe_int pe_int) (pe_call GD hr (by rfl) D.g D.F.kp D.b .nil pass0 (pa_cons (pv 0) (pa_cons (pe_op op_mul pe_int (pe_op op_pow pe_int pe_int)) pa_nil)))))) pss_nil)
      (pss_one (ps_ret (pe_call GD hr (by rfl) D.g D.F.kp D.b .nil pass0 (pa_cons (pv 0) (pa_cons pe_int pa_nil)))))))), ?_⟩
    refine ⟨.ref p, rfl, p, 6, rfl, hP, by decide, by decide, fun z H1 a1 b1 P1 B1 => ?_⟩
    refine ⟨.int z, rfl, rfl, _, rfl, ite2 (fun _ => ?_) (fun _ => ?_)⟩
    · exact ⟨.ref p, rfl, p, 100, rfl, P1, by decide, by decide, fun t H2 a2 b2 P2 B2 => q t H2 a2 (by omega) P2 (B1.trans B2)⟩
    refine ⟨.int z, rfl, rfl, _, rfl, ite2 (fun _ => ?_) (fun _ => ?_)⟩
    · refine ⟨by show 7 ≤ sizeLine; decide, fun l nl => ⟨.ref p, rfl, p, 7, rfl, P1.new nl, by decide, by decide, fun t H2 a2 b2 P2 B2 => ?_⟩⟩
      have pl : l ≠ p := by
        obtain ⟨c, ns, i, r, m, hp, _⟩ := P1
        exact (ne_of_none hp nl).symm
      obtain ⟨v, e, v0, v1⟩ := tick_at t.toNat (by omega)
      exact ⟨l, _, t, .int v, rfl, rfl, sqOf (B2.1 l _ upd_same pl), at_nat a2 e, q v H2 v0 v1 P2 (B1.trans ((But.new nl).trans B2))⟩
    refine ⟨.int z, rfl, rfl, _, rfl, ite2 (fun _ => ?_) (fun _ => ?_)⟩
    · refine ⟨10, 7, rfl, rfl, ⟨by decide, by decide, by decide⟩, .ref p, rfl, 10, 7, rfl, rfl, ⟨by decide, by decide, by decide⟩, 9, _, rfl, rfl, .inl ⟨by decide, by decide⟩, p, _, rfl, P1, by decide, by decide, fun t H2 a2 b2 P2 B2 => ⟨_, t, rfl, rfl, ?_⟩⟩
      have e7 : (10 : Int) ^ (7 : Int).toNat = 10000000 := by decide
      rw [e7] at b2 ⊢
      exact q _ H2 (by omega) (by omega) P2 (B1.trans B2)
    · exact ⟨.ref p, rfl, p, 1000001, rfl, P1, by decide, by decide, fun t H2 a2 b2 P2 B2 => q t H2 a2 (by omega) P2 (B1.trans B2)⟩
def spUnit : Sp := fun vs H Q _ => ∃ (p : Addr), vs = [.ref p] ∧ Pot H p ∧ ∀ (v : V) (H' : Hp), UnitOk v → Pot H' p → But p H H' → Q v H'
theorem ok_unit {f g g2 : Addr} {fd gd gd2 : FuncData} (F : Fun K "_law_unit" "_law_unit" sUnit f fd) (D : Dd K mg "_law_draw" sDraw ["pot", "many"] g gd) (DW : Dd K mg "_law_word" sWord ["pot", "many"] g2 gd2) (ml : mg "len" = none) (mi : mg "int" = none) : FnOk P w K mg base CX0 3 f fd ["pot"] spUnit := by
  have GD : FnOk P w K mg base CX0 1 g gd ["pot", "many"] spDraw := ok_draw D.F ml mi
  have GW : FnOk P w K mg base CX0 2 g2 gd2 ["pot", "many"] spWord := ok_word DW.F D ml mi
  refine F.ok scU (fun vs H Q E h => ?_) (fun cdv A outer s H vs Q E hr h => ?_)
  · obtain ⟨p, rfl, _⟩ := h
    rfl
  · obtain ⟨p, rfl, hP, q⟩ := h
    have hr1 : Room 1 _ := hr.mono (by decide)
    refine ⟨_, pss_cons (ps_set (i := 1) scU.nd rfl (.inl rfl) (pe_call GD hr1 (by rfl) D.g D.F.kp D.b .nil pass0 (pa_cons (pv 0) (pa_cons pe_int pa_nil))))
      (pss_cons (ps_if (pt_cmpR op_lt (pv 1) pe_int (nomark _)) (pss_one (ps_ret (pe_op op_add pe_int (pe_call GD hr1 (by rfl) D.g D.F.kp D.b .nil pass0 (pa_cons (pv 0) (pa_cons (pe_ix ix_list (pe_lst (pa_cons pe_int (pa_cons pe_int (pa_cons pe_int (pa_cons pe_int (pa_cons pe_int pa_nil)))))) (pe_call GD hr1 (by rfl) D.g D.F.kp D.b .nil pass0 (pa_cons (pv 0) (pa_cons pe_int pa_nil))) (fun _ _ => rfl)) pa_nil)))))) pss_nil)
      (C8.pss_cut (ps_if (PW.pt (pw_and (pt_cmpR op_eq (pv 1) pe_int (nomark _)) (pw_and1 (pt_cmpR op_eq (pe_call GD hr1 (by rfl) D.g D.F.kp D.b .nil pass0 (pa_cons (pv 0) (pa_cons pe_int pa_nil))) pe_int (nomark _))))) (pss_one (ps_ret (pe_op op_add (pe_op op_pow pe_int pe_int) (pe_call GD hr1 (by rfl) D.g D.F.kp D.b .nil pass0 (pa_cons (pv 0) (pa_cons (pe_op op_mul pe_int (pe_op op_pow pe_int pe_int)) pa_nil)))))) pss_nil)
      (pss_cons (ps_if (pt_cmpR op_eq (pv 1) pe_int (nomark _)) (pss_one (ps_ret (pe_call GW hr (by rfl) DW.g DW.F.kp DW.b .nil pass0 (pa_cons (pv 0) (pa_cons (pe_op op_add pe_int (pe_call GD hr1 (by rfl) D.g D.F.kp D.b .nil pass0 (pa_cons (pv 0) (pa_cons pe_int pa_nil)))) pa_nil))))) pss_nil)
      (pss_one (ps_ret (pe_call GW hr (by rfl) DW.g DW.F.kp DW.b .nil pass0 (pa_cons (pv 0) (pa_cons (pe_op op_add pe_int (pe_call GD hr1 (by rfl) D.g D.F.kp D.b .nil pass0 (pa_cons (pv 0) (pa_cons pe_int pa_nil)))) pa_nil)))))))), ?_⟩
    refine ⟨.ref p, rfl, p, 6, rfl, hP, by decide, by decide, fun z H1 a1 b1 P1 B1 => ?_⟩
    refine ⟨.int z, rfl, z, 2, rfl, rfl, _, rfl, ite2 (fun _ => ?_) (fun _ => ?_)⟩
    · refine ⟨.ref p, rfl, by show 5 ≤ sizeLine; decide, fun l nl => ⟨.ref p, rfl, p, 5, rfl, P1.new nl, by decide, by decide, fun t H2 a2 b2 P2 B2 => ?_⟩⟩
      have pl : l ≠ p := by
        obtain ⟨c, ns, i, r, m, hp, _⟩ := P1
        exact (ne_of_none hp nl).symm
      obtain ⟨v, e, v0, v1⟩ := unit_at t.toNat (by omega)
      exact ⟨l, _, t, .int v, rfl, rfl, sqOf (B2.1 l _ upd_same pl), at_nat a2 e, p, v, rfl, P2, v0, by omega, fun y H3 a3 b3 P3 B3 => ⟨1, y, rfl, rfl, q _ H3 (.inl ⟨_, rfl, by omega, by omega⟩) P3 ((B1.trans ((But.new nl).trans B2)).trans B3)⟩⟩
    refine ⟨fun σ' H' => σ' = [some (.ref p), some (.int z)] ∧ Pot H' p ∧ But p H H', ?_, ?_⟩
    · refine ⟨.int z, rfl, rfl, _, rfl, ite2 (fun _ => ?_) (fun _ => ?_)⟩
      · refine ⟨.ref p, rfl, p, 2, rfl, P1, by decide, by decide, fun t H2 a2 b2 P2 B2 => ⟨rfl, _, rfl, ite2 (fun _ => ?_) (fun _ => ?_)⟩⟩
        · refine ⟨10, 12, rfl, rfl, ⟨by decide, by decide, by decide⟩, .ref p, rfl, 10, 12, rfl, rfl, ⟨by decide, by decide, by decide⟩, 9, _, rfl, rfl, .inl ⟨by decide, by decide⟩, p, _, rfl, P2, by decide, by decide, fun t H3 a3 b3 P3 B3 => ⟨_, t, rfl, rfl, ?_⟩⟩
          have e7 : (10 : Int) ^ (12 : Int).toNat = 1000000000000 := by decide
          rw [e7] at b3 ⊢
          exact q _ H3 (.inl ⟨_, rfl, by omega, by omega⟩) P3 ((B1.trans B2).trans B3)
        · exact (⟨rfl, P2, B1.trans B2⟩ : ([some (.ref p), some (.int z)] : L2.St) = [some (V.ref p), some (V.int z)] ∧ Pot H2 p ∧ But p H H2)
      · exact (⟨rfl, P1, B1⟩ : ([some (.ref p), some (.int z)] : L2.St) = [some (V.ref p), some (V.int z)] ∧ Pot H1 p ∧ But p H H1)
    · rintro σ' H2 ⟨rfl, P2, B2⟩
      refine ⟨.int z, rfl, rfl, _, rfl, ite2 (fun _ => ?_) (fun _ => ?_)⟩
      · refine ⟨.ref p, rfl, .ref p, rfl, p, 3, rfl, P2, by decide, by decide, fun t H3 a3 b3 P3 B3 => ⟨13, t, rfl, rfl, p, _, rfl, P3, by omega, by omega, fun y H4 hy P4 B4 => ?_⟩⟩
        exact q _ H4 (.inr ⟨y, rfl, hy⟩) P4 ((B2.trans B3).trans B4)
      · refine ⟨.ref p, rfl, .ref p, rfl, p, 12, rfl, P2, by decide, by decide, fun t H3 a3 b3 P3 B3 => ⟨1, t, rfl, rfl, p, _, rfl, P3, by omega, by omega, fun y H4 hy P4 B4 => ?_⟩⟩
        exact q _ H4 (.inr ⟨y, rfl, hy⟩) P4 ((B2.trans B3).trans B4)
end
end Ev
namespace Ev
open PySem PySem.Spec PyProof.Rows L2
abbrev sEvent : Stmt := topS 7
abbrev sLine : Stmt := topS 8
theorem scE : FnScope ["pot", "kinds", "kind"] ["pot"] (defScope sEvent) := ⟨rfl, rfl, rfl, by decide +kernel, rfl, by decide +kernel, by decide +kernel⟩
theorem scLn : FnScope ["event", "tick", "unit", "line"] ["event"] (defScope sLine) := ⟨rfl, rfl, rfl, by decide +kernel, rfl, by decide +kernel, by decide +kernel⟩
structure Evt where
  t : Int
  k : Str
  u : V
  w : Str
def evV (e : Evt) : List V := [.int e.t, .str e.k, e.u, .str e.w]
structure EvOk (e : Evt) : Prop where
  t0 : 0 ≤ e.t
  t1 : e.t < 10 ^ 9
  k : TxOk e.k
  u : UnitOk e.u
  w : TxOk e.w
def num (i : Int) : Str := Str.ofString (toString i)
def uText : V → Str
  | .int n => num n
  | .str z => z
  | _ => Str.empty
theorem num_len {i : Int} (h0 : 0 ≤ i) (h : i < 10 ^ 14) : (num i).length ≤ 40 := Nat.le_trans (toString_length_le h0 (by decide) h) (by decide)
theorem u_len {v : V} (h : UnitOk v) : (uText v).length ≤ 40 := by
  rcases h with ⟨n, rfl, h0, h1⟩ | ⟨z, rfl, h⟩
  · exact num_len h0 h1
  · exact h.len
theorem log_ok {i : Int} (h0 : 0 ≤ i) (h : i < 10 ^ 14) : i.natAbs.log2 < 1920 := PySem.Flt.log2_lt_of (by decide) (Nat.lt_of_lt_of_le (show i.natAbs < 2 ^ 47 by omega) (Nat.pow_le_pow_right (by decide) (by decide)))
def sp1 : Str := (" " : String)
def nl : Str := ("\n" : String)
def lineL (e : Evt) : Str :=
  Txt.mul sp1 (7 - (num e.t).length) ++ num e.t ++ sp1 ++ e.k ++ Txt.mul sp1 (8 - e.k.length) ++ sp1 ++ Txt.mul sp1 (12 - (uText e.u).length) ++ uText e.u ++ sp1 ++ e.w ++ nl
def lineP (e : Evt) : Str := Str.empty ++ Txt.rjust (num e.t) 7 ++ sp1 ++ Txt.ljust e.k 8 ++ sp1 ++ Txt.rjust (uText e.u) 12 ++ sp1 ++ e.w ++ nl
theorem tl_app (a b : Str) : (a ++ b).cps.toList = a.cps.toList ++ b.cps.toList := by
  show (a.cps ++ b.cps).toList = _
  rw [Array.toList_append]
theorem tl_sp (n : Int) : (Txt.mul sp1 n).cps.toList = List.replicate n.toNat 32 := by
  rw [mulL]
  have e : sp1.cps.toList = [32] := by decide +kernel
  rw [e]
  induction n.toNat with
  | zero => rfl
  | succ k ih => rw [List.replicate_succ, List.flatten_cons, ih, List.replicate_succ]; rfl
theorem line_eq (e : Evt) : lineP e = lineL e := by
  refine ext_toList ?_
  unfold lineP lineL
  simp only [tl_app, tl_sp]
  rw [show (7 : Int) = ((7 : Nat) : Int) from rfl, show (8 : Int) = ((8 : Nat) : Int) from rfl, show (12 : Int) = ((12 : Nat) : Int) from rfl, tl_rj, tl_lj, tl_rj]
  rw [show (((7 : Nat) : Int) - ((num e.t).length : Int)).toNat = 7 - (num e.t).length by omega, show (((8 : Nat) : Int) - (e.k.length : Int)).toNat = 8 - e.k.length by omega, show (((12 : Nat) : Int) - ((uText e.u).length : Int)).toNat = 12 - (uText e.u).length by omega]
  have e0 : Str.empty.cps.toList = [] := rfl
  simp only [e0, List.nil_append, List.append_assoc]
theorem kind_at : ∀ (j : Nat), j < 10 → ∃ k : Str, ([.str ("taken" : String), .str ("packed" : String), .str ("loaded" : String), .str ("mislaid" : String), .str ("landed" : String), .str ("found" : String), .str ("emptied" : String), .str ("cleared" : String), .str ("out" : String)] ++ [.str ("claimed" : String)] : List V)[j]? = some (.str k) ∧ TxOk k
  | 0, _ => ⟨_, rfl, by decide +kernel, by decide +kernel⟩
  | 1, _ => ⟨_, rfl, by decide +kernel, by decide +kernel⟩
  | 2, _ => ⟨_, rfl, by decide +kernel, by decide +kernel⟩
  | 3, _ => ⟨_, rfl, by decide +kernel, by decide +kernel⟩
  | 4, _ => ⟨_, rfl, by decide +kernel, by decide +kernel⟩
  | 5, _ => ⟨_, rfl, by decide +kernel, by decide +kernel⟩
  | 6, _ => ⟨_, rfl, by decide +kernel, by decide +kernel⟩
  | 7, _ => ⟨_, rfl, by decide +kernel, by decide +kernel⟩
  | 8, _ => ⟨_, rfl, by decide +kernel, by decide +kernel⟩
  | 9, _ => ⟨_, rfl, by decide +kernel, by decide +kernel⟩
  | j + 10, h => absurd h (by omega)
section
variable {P : Program} {w : World} {K : PySem.W.Frag} {mg : Str → Option Value} {base : Heap}
theorem call_strU {X : Cx} : CallR X (.type "str") (fun xs H Q => ∃ v, xs = [v] ∧ UnitOk v ∧ Q (.str (uText v)) H) := by
  intro pins s σ H xs us Q I r h
  obtain ⟨v, rfl, hv, q⟩ := h
  rcases hv with ⟨n, rfl, h0, h1⟩ | ⟨z, rfl, hz⟩
  · exact call_str_int pins s σ H _ us Q I r ⟨n, rfl, log_ok h0 h1, q⟩
  · exact SkE.call_str_str pins s σ H _ us Q I r ⟨z, rfl, q⟩
def spLine (K : PySem.W.Frag) (g : Evt → Str) : Sp := fun vs H Q _ => ∃ (T : Addr) (e : Evt), vs = [.ref T] ∧ SqT K H T (evV e) ∧ EvOk e ∧ ∀ H', Same H H' → Q (.str (g e)) H'
theorem ok_line {f : Addr} {fd : FuncData} {k : Nat} (F : Fun K "_law_line" "_law_line" sLine f fd) (ml : mg "len" = none) (ms : mg "str" = none) : FnOk P w K mg base CX0 (k + 1) f fd ["event"] (spLine K lineL) := by
  refine F.ok scLn (fun vs H Q E h => ?_) (fun cdv A outer s H vs Q E hr h => ?_)
  · obtain ⟨p, e, rfl, _⟩ := h
    rfl
  · obtain ⟨p, e, rfl, hT, hE, q⟩ := h
    refine ⟨_, pss_cons (ps_set (i := 1) scLn.nd rfl (.inl rfl) (pe_callTy call_strU (by rfl) ms PyProof.Rows.boot_str (pa_cons (pe_ix ix_tup (pv 0) pe_int (fun _ _ => rfl)) pa_nil)))
      (pss_cons (ps_set (i := 2) scLn.nd rfl (.inl rfl) (pe_callTy call_strU (by rfl) ms PyProof.Rows.boot_str (pa_cons (pe_ix ix_tup (pv 0) pe_int (fun _ _ => rfl)) pa_nil)))
      (pss_cons (ps_set (i := 3) scLn.nd rfl (.inl rfl) (pe_op op_add_str (pe_op op_add_str (pe_op op_add_str (pe_op op_add_str (pe_op op_add_str (pe_op op_mul_str pe_str (pe_op op_sub pe_int (pe_callB call_len_str (by rfl) ml PySem.boot_len (pa_cons (pv 1) pa_nil)))) (pv 1)) pe_str) (pe_ix ix_tup (pv 0) pe_int (fun _ _ => rfl))) (pe_op op_mul_str pe_str (pe_op op_sub pe_int (pe_callB call_len_str (by rfl) ml PySem.boot_len (pa_cons (pe_ix ix_tup (pv 0) pe_int (fun _ _ => rfl)) pa_nil))))) pe_str))
      (pss_one (ps_ret (pe_op op_add_str (pe_op op_add_str (pe_op op_add_str (pe_op op_add_str (pe_op op_add_str (pv 3) (pe_op op_mul_str pe_str (pe_op op_sub pe_int (pe_callB call_len_str (by rfl) ml PySem.boot_len (pa_cons (pv 2) pa_nil))))) (pv 2)) pe_str) (pe_ix ix_tup (pv 0) pe_int (fun _ _ => rfl))) pe_str))))), ?_⟩
    have hs : sizeLine = 16777216 := rfl
    have hsp : (Str.ofString " ").length = 1 := by decide +kernel
    have hnl : (Str.ofString "\n").length = 1 := by decide +kernel
    have bt : (num e.t).length ≤ 40 := num_len hE.t0 (by have := hE.t1; omega)
    have bu : (uText e.u).length ≤ 40 := u_len hE.u
    have bk := hE.k.len
    have bw := hE.w.len
    refine ⟨.ref p, rfl, p, _, 0, .int e.t, rfl, rfl, hT, atI_nat (j := 0) rfl, .int e.t, rfl, .inl ⟨e.t, rfl, hE.t0, by have := hE.t1; omega⟩, ?_⟩
    refine ⟨.ref p, rfl, p, _, 2, e.u, rfl, rfl, hT, atI_nat (j := 2) rfl, e.u, rfl, hE.u, ?_⟩
    refine ⟨.str (num e.t), rfl, num e.t, rfl, by omega, 7, _, rfl, rfl, _, _, rfl, rfl, by omega, by omega, by rw [hsp]; omega, .str (num e.t), rfl, _, _, rfl, rfl, by simp only [app_len, mul_len, hsp, Nat.mul_one]; omega, _, _, rfl, rfl, by simp only [app_len, mul_len, hsp, Nat.mul_one]; omega, ?_⟩
    refine ⟨.ref p, rfl, p, _, 1, .str e.k, rfl, rfl, hT, atI_nat (j := 1) rfl, _, _, rfl, rfl, by simp only [app_len, mul_len, hsp, Nat.mul_one]; omega, ?_⟩
    refine ⟨.ref p, rfl, p, _, 1, .str e.k, rfl, rfl, hT, atI_nat (j := 1) rfl, e.k, rfl, by omega, 8, _, rfl, rfl, _, _, rfl, rfl, by omega, by omega, by rw [hsp]; omega, _, _, rfl, rfl, by simp only [app_len, mul_len, hsp, Nat.mul_one]; omega, _, _, rfl, rfl, by simp only [app_len, mul_len, hsp, Nat.mul_one]; omega, ?_⟩
    refine ⟨_, rfl, .str (uText e.u), rfl, uText e.u, rfl, by omega, 12, _, rfl, rfl, _, _, rfl, rfl, by omega, by omega, by rw [hsp]; omega, _, _, rfl, rfl, by simp only [app_len, mul_len, hsp, Nat.mul_one]; omega, .str (uText e.u), rfl, _, _, rfl, rfl, by simp only [app_len, mul_len, hsp, Nat.mul_one]; omega, _, _, rfl, rfl, by simp only [app_len, mul_len, hsp, Nat.mul_one]; omega, ?_⟩
    refine ⟨.ref p, rfl, p, _, 3, .str e.w, rfl, rfl, hT, atI_nat (j := 3) rfl, _, _, rfl, rfl, by simp only [app_len, mul_len, hsp, Nat.mul_one]; omega, _, _, rfl, rfl, by simp only [app_len, mul_len, hsp, hnl, Nat.mul_one]; omega, ?_⟩
    exact q _ (Same.refl _)
end
end Ev
namespace Ev
open PySem PySem.Spec PyProof.Rows L2
abbrev sTab : Stmt := topS 1
theorem scTb : FnScope ["events", "tick", "kind", "unit", "where"] ["events"] (defScope sTab) := ⟨rfl, rfl, rfl, by decide +kernel, rfl, by decide +kernel, by decide +kernel⟩
theorem same_upd {H : Hp} {p : Addr} {o : HO} (h : H p = none) : Same H (upd H p o) := fun b x e => by
  rw [upd_ne (ne_of_none e h)]
  exact e
theorem Same.but {H H' : Hp} (p : Addr) (h : Same H H') : But p H H' := ⟨fun b o e _ => h b o e, fun _ xs e => ⟨xs, h _ _ e⟩⟩
theorem Pot.same {H H' : Hp} {p : Addr} (h : Same H H') (P : Pot H p) : Pot H' p := by
  obtain ⟨c, ns, i, r, m, h1, h2, rest⟩ := P
  exact ⟨c, ns, i, r, m, h _ _ h1, h _ _ h2, rest⟩
theorem sqT_but {K : PySem.W.Frag} {H H' : Hp} {p T : Addr} {xs : List V} (P : Pot H p) (B : But p H H') (h : SqT K H T xs) : SqT K H' T xs := by
  obtain ⟨c, ns, i, r, m, h1, _⟩ := P
  rcases h with (h | ⟨o, h⟩) | h
  · exact .inl (.inl (B.1 _ _ h (ne_of h h1 (by intro e; cases e))))
  · exact .inl (.inr ⟨o, B.1 _ _ h (ne_of h h1 (by intro e; cases e))⟩)
  · exact .inr h
theorem sqT_same {K : PySem.W.Frag} {H H' : Hp} {T : Addr} {xs : List V} (B : Same H H') (h : SqT K H T xs) : SqT K H' T xs := by
  rcases h with (h | ⟨o, h⟩) | h
  · exact .inl (.inl (B _ _ h))
  · exact .inl (.inr ⟨o, B _ _ h⟩)
  · exact .inr h
theorem line_len (e : Evt) (h : EvOk e) : (lineL e).length ≤ 400 := by
  have hsp : sp1.length = 1 := by decide +kernel
  have hnl : nl.length = 1 := by decide +kernel
  have bt : (num e.t).length ≤ 40 := num_len h.t0 (by have := h.t1; omega)
  have bu : (uText e.u).length ≤ 40 := u_len h.u
  have bk := h.k.len
  have bw := h.w.len
  unfold lineL
  simp only [app_len, mul_len, hsp, hnl, Nat.mul_one]
  omega
/-- a list of events -/
structure EvsAt (K : PySem.W.Frag) (H : Hp) (l : Addr) (ts : List (Addr × Evt)) : Prop where
  sq : SqL K H l (ts.map fun p => V.ref p.1)
  ev : ∀ p ∈ ts, SqT K H p.1 (evV p.2) ∧ EvOk p.2
theorem EvsAt.same {K : PySem.W.Frag} {H H' : Hp} {l : Addr} {ts : List (Addr × Evt)} (h : Same H H') (E : EvsAt K H l ts) : EvsAt K H' l ts := ⟨h.seq E.sq, fun p hp => ⟨sqT_same h (E.ev p hp).1, (E.ev p hp).2⟩⟩
def joined (ts : List (Addr × Evt)) : Str := Txt.join (Str.ofString "") (ts.map fun p => lineL p.2)
theorem sum_lines : ∀ (ts : List (Addr × Evt)), (∀ p ∈ ts, EvOk p.2) → ((ts.map fun p => lineL p.2).map (·.length)).sum ≤ 400 * ts.length
  | [], _ => Nat.zero_le _
  | p :: ts, h => by
    have h1 := line_len p.2 (h p (List.mem_cons_self ..))
    have h2 := sum_lines ts fun q hq => h q (List.mem_cons_of_mem _ hq)
    simp only [List.map_cons, List.sum_cons, List.length_cons] at h2 ⊢
    omega
section
variable {P : Program} {w : World} {K : PySem.W.Frag} {mg : Str → Option Value} {base : Heap}
/-- the comprehension [line(event) for event in events] of both sides -/
theorem comp_ok {K : PySem.W.Frag} {H : Hp} {l : Addr} {ts : List (Addr × Evt)} {i : Nat} {σ : L2.St} {Qd : Addr → Hp → Prop} (hE : EvsAt K H l ts) (hn : ts.length ≤ 100) (hi : i < σ.length)
    (q : ∀ H' D, Same H H' → H' D = some (.lst ((ts.map fun p => lineL p.2).map V.str)) → Qd D H') :
    ∀ D : Addr, H D = none → ∃ W : Nat → Nat → Hp → Prop, (∃ m, W 0 m (upd H D (.lst []))) ∧ ∀ j m H', W j m H' →
      ((Itl K l).stop j H' ∧ Qd D H') ∨ ((Itl K l).go j H' ∧ ∃ Nx : Hp → Prop, (∀ H', Nx H' → ∃ m', m' < m ∧ W (j + 1) m' H') ∧ ∀ x H'', (Itl K l).yld j H' x H'' → gName i x (wipe σ [i]) H'' fun σ2 H2 => wipe σ2 [i] = wipe σ [i] ∧ tYes σ2 H2 fun b H3 =>
        if b = true then (tCall (spLine K lineL) [] E0 (tCons (tVar i) tNil)) σ2 H3 fun y H4 => ∃ acc, H4 D = some (.lst acc) ∧ acc.length < sizeLine ∧ Nx (upd H4 D (.lst (acc ++ [y]))) else Nx H3) := by
  intro D nD
  refine lc_list (K := K) (a := l) (xs := ts.map fun p => V.ref p.1) (g := gName i) (tt := tYes) (te := tCall (spLine K lineL) [] E0 (tCons (tVar i) tNil)) (vs := [i]) (σ := σ) (Qd := Qd D) (fun j H' => Same H H' ∧ H' D = some (.lst ((ts.take j).map fun p => V.str (lineL p.2)))) ⟨same_upd nD, upd_same⟩ (fun j H' _ hP => hP.1.seq hE.sq) (fun j x H' hx hP => ?_) (fun H' hP => ?_)
  · obtain ⟨hS, hD⟩ := hP
    have hj : j < ts.length := by
      have := (List.getElem?_eq_some_iff.mp hx).1
      rw [List.length_map] at this
      exact this
    rw [List.getElem?_map, List.getElem?_eq_getElem hj] at hx
    have ex : V.ref ts[j].1 = x := Option.some.inj hx
    subst ex
    have hm : ts[j] ∈ ts := List.getElem_mem hj
    refine ⟨?_, ?_⟩
    · show ((σ.set i none).set i _).set i none = σ.set i none
      rw [List.set_set, List.set_set]
    show tCall (spLine K lineL) [] E0 (tCons (tVar i) tNil) _ _ _
    refine ⟨.ref ts[j].1, ?_, ts[j].1, ts[j].2, rfl, sqT_same hS (hE.ev _ hm).1, (hE.ev _ hm).2, fun H3 hS3 => ⟨_, hS3 _ _ hD, ?_, ?_, ?_⟩⟩
    · show ((σ.set i none).set i (some (V.ref ts[j].1)))[i]? = _
      rw [List.set_set, List.getElem?_set_self hi]
    · rw [List.length_map, List.length_take]
      exact small1000 (by omega)
    · intro b o hb
      have hb' := hS b o hb
      rw [upd_ne (ne_of_none hb nD)]
      exact hS3 _ _ hb'
    · rw [upd_same, List.take_add_one, List.getElem?_eq_getElem hj, List.map_append]
      rfl
  · obtain ⟨hS, hD⟩ := hP
    refine q H' D hS ?_
    rw [hD, List.length_map, List.take_length, List.map_map]
    rfl
def spTab (K : PySem.W.Frag) : Sp := fun vs H Q _ => ∃ (l : Addr) (ts : List (Addr × Evt)), vs = [.ref l] ∧ EvsAt K H l ts ∧ ts.length ≤ 100 ∧ ∀ H', Same H H' → Q (.str (joined ts)) H'
theorem field_u {v : V} (h : UnitOk v) : ∃ y, (rNumR 12 v y ∨ rStrR 12 v y) ∧ y = Txt.rjust (uText v) 12 := by
  have hs : sizeLine = 16777216 := rfl
  rcases h with ⟨n, rfl, h0, h1⟩ | ⟨z, rfl, hz⟩
  · refine ⟨_, .inl ⟨n, rfl, h0, log_ok h0 h1, ?_, rfl⟩, rfl⟩
    have := num_len h0 h1
    rw [show (Txt.rjust (Str.ofString (toString n)) (12 : Nat)).length = _ from rj_len _ 12]
    show max 12 (num n).length ≤ _
    omega
  · refine ⟨_, .inr ⟨z, rfl, rfl, ?_⟩, rfl⟩
    have := hz.len
    rw [show (Txt.rjust z (12 : Nat)).length = _ from rj_len _ 12]
    omega
def teLine : TE := fun σ H Q => tJs [tFmtSp (fun x y => rNumR 7 x y ∨ rStrR 7 x y) (tVar 1), tC (.str sp1), tFmtSp (rStrL 8) (tVar 2), tC (.str sp1), tFmtSp (fun x y => rNumR 12 x y ∨ rStrR 12 x y) (tVar 3), tC (.str sp1), tFmt (tVar 4), tC (.str nl)] Str.empty σ H fun out H1 => Q (.str out) H1
theorem ok_tab {f : Addr} {fd : FuncData} {k : Nat} (F : Fun K "events_table" "events_table" sTab f fd) : FnOk P w K mg base CX0 (k + 1) f fd ["events"] (spTab K) := by
  refine F.ok scTb (fun vs H Q E h => ?_) (fun cdv A outer s H vs Q E hr h => ?_)
  · obtain ⟨p, e, rfl, _⟩ := h
    rfl
  · obtain ⟨l, ts, rfl, hE, hn, q⟩ := h
    refine ⟨_, pss_one (ps_ret (pe_join pe_str (pe_lc (own := [("tick", 1), ("kind", 2), ("unit", 3), ("where", 4)]) (g := gTup K 4 (gCons (gName 1) (gCons (gName 2) (gCons (gName 3) (gCons (gName 4) gNil))))) (by rfl) scTb.nd (pi_list (pv 0)) (blkOk_by (N := ["events", "tick", "kind", "unit", "where"]) (sc := defScope sTab) (by decide +kernel))
      (fun _ _ _ _ _ => pg_tup rfl (pgs_cons (pg_name (i := 1) scTb.nd rfl (Or.inl rfl)) (pgs_cons (pg_name (i := 2) scTb.nd rfl (Or.inl rfl)) (pgs_cons (pg_name (i := 3) scTb.nd rfl (Or.inl rfl)) (pgs_cons (pg_name (i := 4) scTb.nd rfl (Or.inl rfl)) pgs_nil))))) (fun _ _ _ _ _ => pts_nil)
      (fun _ _ _ _ _ => pe_joined (.cons (pe_fmtSp fmt_7 (pv 1)) (.cons pe_str (.cons (pe_fmtSp fmt_8 (pv 2)) (.cons pe_str (.cons (pe_fmtSp fmt_12 (pv 3)) (.cons pe_str (.cons (pe_fmt (pv 4)) (.cons pe_str .nil)))))))))))), ?_⟩
    refine ⟨⟨_, rfl⟩, .ref l, rfl, l, rfl, ⟨_, hE.sq⟩, fun D nD => ?_⟩
    have hs : sizeLine = 16777216 := rfl
    have hsp : sp1.length = 1 := by decide +kernel
    have hnl : nl.length = 1 := by decide +kernel
    refine lc_list (K := K) (a := l) (xs := ts.map fun p => V.ref p.1) (g := gTup K 4 (gCons (gName 1) (gCons (gName 2) (gCons (gName 3) (gCons (gName 4) gNil))))) (tt := tYes) (te := teLine) (vs := [1, 2, 3, 4]) (σ := [some (.ref l), none, none, none, none]) (fun j H' => Same H H' ∧ H' D = some (.lst ((ts.take j).map fun p => V.str (lineL p.2)))) ⟨same_upd nD, upd_same⟩ (fun j H' _ hP => hP.1.seq hE.sq) (fun j x H' hx hP => ?_) (fun H' hP => ?_)
    · obtain ⟨hS, hD⟩ := hP
      have hj : j < ts.length := by
        have := (List.getElem?_eq_some_iff.mp hx).1
        rw [List.length_map] at this
        exact this
      rw [List.getElem?_map, List.getElem?_eq_getElem hj] at hx
      have ex : V.ref ts[j].1 = x := Option.some.inj hx
      subst ex
      have hm : ts[j] ∈ ts := List.getElem_mem hj
      obtain ⟨hT, ho⟩ := hE.ev _ hm
      generalize ee : ts[j] = pr at hT ho hm
      obtain ⟨T, e⟩ := pr
      simp only at hT ho
      have bt : (num e.t).length ≤ 40 := num_len ho.t0 (by have := ho.t1; omega)
      have bk := ho.k.len
      have bw := ho.w.len
      have bu := u_len ho.u
      obtain ⟨y, hy, ey⟩ := field_u ho.u
      have l7 : (Txt.rjust (num e.t) 7).length ≤ 47 := by rw [show (Txt.rjust (num e.t) 7).length = _ from rj_len _ 7]; omega
      have l8 : (Txt.ljust e.k 8).length ≤ 48 := by rw [show (Txt.ljust e.k 8).length = _ from lj_len _ 8]; omega
      have l12 : y.length ≤ 52 := by rw [ey, show (Txt.rjust (uText e.u) 12).length = _ from rj_len _ 12]; omega
      have le0 : Str.empty.length = 0 := rfl
      refine ⟨T, evV e, rfl, sqT_same hS hT, rfl, .int e.t, _, rfl, .str e.k, _, rfl, e.u, _, rfl, .str e.w, [], rfl, rfl, rfl, ?_⟩
      refine ⟨.int e.t, rfl, Txt.rjust (num e.t) 7, .inl ⟨e.t, rfl, ho.t0, log_ok ho.t0 (by have := ho.t1; omega), ?_, rfl⟩, _, rfl, ?_, ?_⟩
      · show (Txt.rjust (num e.t) 7).length ≤ _
        omega
      · rw [app_len]; omega
      refine ⟨_, rfl, by simp only [app_len, le0, hsp]; omega, ?_⟩
      refine ⟨.str e.k, rfl, Txt.ljust e.k 8, ⟨e.k, rfl, rfl, by omega⟩, _, rfl, by simp only [app_len, le0, hsp]; omega, ?_⟩
      refine ⟨_, rfl, by simp only [app_len, le0, hsp]; omega, ?_⟩
      refine ⟨e.u, rfl, y, hy, _, rfl, by simp only [app_len, le0, hsp]; omega, ?_⟩
      refine ⟨_, rfl, by simp only [app_len, le0, hsp]; omega, ?_⟩
      refine ⟨.str e.w, rfl, Or.inl ⟨e.w, rfl, by omega, _, rfl, by simp only [app_len, le0, hsp]; omega, ?_⟩⟩
      refine ⟨_, rfl, by simp only [app_len, le0, hsp, hnl]; omega, _, hD, ?_, fun b o hb => ?_, ?_⟩
      · rw [List.length_map, List.length_take]
        exact small1000 (by omega)
      · rw [upd_ne (ne_of_none hb nD)]
        exact hS _ _ hb
      · rw [upd_same, List.take_add_one, List.getElem?_eq_getElem hj, List.map_append, ee, ey]
        exact congrArg (fun z => some (HO.lst ((ts.take j).map (fun p => V.str (lineL p.2)) ++ [V.str z]))) (line_eq e)
    · obtain ⟨hS, hD⟩ := hP
      rw [List.length_map, List.take_length] at hD
      refine ⟨Str.ofString "", D, (ts.map fun (p : Addr × Evt) => lineL p.2), rfl, rfl, .inl (sqOf ?_), ?_, q H' hS⟩
      · rw [hD, List.map_map]
        rfl
      have h1 := sum_lines ts fun p hp => (hE.ev p hp).2
      have h2 : (Str.ofString "").length = 0 := by decide +kernel
      rw [h2]
      omega
def spEvent : Sp := fun vs H Q _ => ∃ (p : Addr), vs = [.ref p] ∧ Pot H p ∧ ∀ (T : Addr) (e : Evt) (H' : Hp), H T = none → H' T = some (.tup (evV e)) → EvOk e → Pot H' p → But p H H' → Q (.ref T) H'
theorem ok_event {f g g2 g3 g4 : Addr} {fd gd gd2 gd3 gd4 : FuncData} (F : Fun K "_law_event" "_law_event" sEvent f fd) (D : Dd K mg "_law_draw" sDraw ["pot", "many"] g gd) (DW : Dd K mg "_law_word" sWord ["pot", "many"] g2 gd2) (DT : Dd K mg "_law_tick" sTick ["pot"] g3 gd3) (DU : Dd K mg "_law_unit" sUnit ["pot"] g4 gd4) (ml : mg "len" = none) (mi : mg "int" = none) :
    FnOk P w K mg base CX0 4 f fd ["pot"] spEvent := by
  have GD : FnOk P w K mg base CX0 1 g gd ["pot", "many"] spDraw := ok_draw D.F ml mi
  have GW : FnOk P w K mg base CX0 2 g2 gd2 ["pot", "many"] spWord := ok_word DW.F D ml mi
  have GT : FnOk P w K mg base CX0 2 g3 gd3 ["pot"] spTick := ok_tick DT.F D ml mi
  have GU : FnOk P w K mg base CX0 3 g4 gd4 ["pot"] spUnit := ok_unit DU.F D DW ml mi
  refine F.ok scE (fun vs H Q E h => ?_) (fun cdv A outer s H vs Q E hr h => ?_)
  · obtain ⟨p, rfl, _⟩ := h
    rfl
  · obtain ⟨p, rfl, hP, q⟩ := h
    have hr1 : Room 1 _ := hr.mono (by decide)
    have hr2 : Room 2 _ := hr.mono (by decide)
    refine ⟨_, pss_cons (ps_set (i := 1) scE.nd rfl (.inl rfl) (pe_lst (pa_cons pe_str (pa_cons pe_str (pa_cons pe_str (pa_cons pe_str (pa_cons pe_str (pa_cons pe_str (pa_cons pe_str (pa_cons pe_str (pa_cons pe_str pa_nil)))))))))))
      (pss_cons (ps_set (i := 2) scE.nd rfl (.inl rfl) (pe_ix ix_list (pe_op op_cat (pv 1) (pe_lst (pa_cons pe_str pa_nil))) (pe_call GD hr1 (by rfl) D.g D.F.kp D.b .nil pass0 (pa_cons (pv 0) (pa_cons pe_int pa_nil))) (fun _ _ => rfl)))
      (pss_one (ps_ret (pe_tup (pa_cons (pe_call GT hr2 (by rfl) DT.g DT.F.kp DT.b .nil pass0 (pa_cons (pv 0) pa_nil)) (pa_cons (pv 2) (pa_cons (pe_call GU hr (by rfl) DU.g DU.F.kp DU.b .nil pass0 (pa_cons (pv 0) pa_nil)) (pa_cons (pe_call GW hr2 (by rfl) DW.g DW.F.kp DW.b .nil pass0 (pa_cons (pv 0) (pa_cons (pe_op op_add pe_int (pe_call GD hr1 (by rfl) D.g D.F.kp D.b .nil pass0 (pa_cons (pv 0) (pa_cons pe_int pa_nil)))) pa_nil))) pa_nil)))))))), ?_⟩
    refine ⟨by show 9 ≤ sizeLine; decide, fun a na => ?_⟩
    refine ⟨.ref a, rfl, by show 1 ≤ sizeLine; decide, fun b nb => ?_⟩
    have hba : a ≠ b := fun e => by rw [← e, upd_same] at nb; cases nb
    refine ⟨a, b, _, _, rfl, rfl, (by rw [upd_ne hba]; exact upd_same), upd_same, by show 10 ≤ sizeLine; decide, fun c nc => ?_⟩
    have pc : c ≠ p := by
      obtain ⟨_, _, _, _, _, hp, _⟩ := (hP.new na).new nb
      exact (ne_of_none hp nc).symm
    refine ⟨.ref p, rfl, p, 10, rfl, ((hP.new na).new nb).new nc, by decide, by decide, fun z H1 a1 b1 P1 B1 => ?_⟩
    obtain ⟨kd, ek, hk⟩ := kind_at z.toNat (by omega)
    refine ⟨c, _, z, .str kd, rfl, rfl, sqOf (B1.1 c _ upd_same pc), at_nat a1 ek, ?_⟩
    refine ⟨.ref p, rfl, p, rfl, P1, fun t H2 t0 t1 P2 B2 => ?_⟩
    refine ⟨.str kd, rfl, .ref p, rfl, p, rfl, P2, fun u H3 hu P3 B3 => ?_⟩
    refine ⟨.ref p, rfl, .ref p, rfl, p, 15, rfl, P3, by decide, by decide, fun y H4 a4 b4 P4 B4 => ⟨1, y, rfl, rfl, p, _, rfl, P4, by omega, by omega, fun wz H5 hw P5 B5 => ?_⟩⟩
    refine ⟨by show 4 ≤ sizeLine; decide, fun T nT => ?_⟩
    have B : But p H H5 := (((((((But.new na).trans (But.new nb)).trans (But.new nc)).trans B1).trans B2).trans B3).trans B4).trans B5
    have nT0 : H T = none := by
      cases e : H T with
      | none => rfl
      | some o =>
        by_cases hTp : T = p
        · obtain ⟨_, _, _, _, _, hp, _⟩ := P5
          rw [← hTp, nT] at hp
          cases hp
        · rw [B.1 T o e hTp] at nT
          cases nT
    exact q T ⟨t, kd, u, wz⟩ _ nT0 upd_same ⟨t0, t1, hk, hu, hw⟩ (P5.new nT) (B.trans (But.new nT))
end
end Ev
namespace Ev
open PySem PySem.Spec PyProof.Rows L2
abbrev sLaw : Stmt := topS 9
theorem scL : FnScope ["script", "pot", "count", "events", "wanted", "handed", "told", "cut", "head", "rest", "k", "event"] ["script"] (defScope sLaw) := ⟨rfl, rfl, rfl, by decide +kernel, rfl, by decide +kernel, by decide +kernel⟩
/-! the events as data -/
def dV : V → PyData
  | .int n => .int n
  | .str z => .str z
  | _ => .none
def dEv (e : Evt) : PyData := .tuple [.int e.t, .str e.k, dV e.u, .str e.w]
theorem dp_u {K : PySem.W.Frag} {H : Hp} {v : V} (h : UnitOk v) : Dp K H v (dV v) := by
  rcases h with ⟨n, rfl, _⟩ | ⟨z, rfl, _⟩
  · exact .int n
  · exact .str z
theorem dp_ev {K : PySem.W.Frag} {H : Hp} {T : Addr} {e : Evt} (h : SqT K H T (evV e)) (o : EvOk e) : Dp K H (.ref T) (dEv e) := .tup h (.cons (.int _) (.cons (.str _) (.cons (dp_u o.u) (.cons (.str _) .nil))))
theorem dp_evs {K : PySem.W.Frag} {H : Hp} : ∀ {ts : List (Addr × Evt)}, (∀ p ∈ ts, SqT K H p.1 (evV p.2) ∧ EvOk p.2) → DpAll K H (ts.map fun p => V.ref p.1) (ts.map fun p => dEv p.2)
  | [], _ => .nil
  | p :: ts, h => .cons (dp_ev (h p (List.mem_cons_self ..)).1 (h p (List.mem_cons_self ..)).2) (dp_evs fun q hq => h q (List.mem_cons_of_mem _ hq))
theorem strOk_sg {z : Str} (h : Sg z) : PySem.PyData.strOk z = true := by
  unfold PySem.PyData.strOk
  rw [Array.all_eq_true']
  intro c hc
  exact decide_eq_true (h c (Array.mem_toList_iff.mpr hc))
theorem lay_u {v : V} (h : UnitOk v) : (dV v).canLay0 = true ∧ (dV v).depth ≤ 1 := by
  rcases h with ⟨n, rfl, _⟩ | ⟨z, rfl, hz⟩
  · exact ⟨by simp [dV, PyData.canLay0], by simp [dV, PyData.depth]⟩
  · exact ⟨by simp only [dV, PyData.canLay0]; exact strOk_sg hz.sg, by simp [dV, PyData.depth]⟩
theorem lay_ev {e : Evt} (o : EvOk e) : (dEv e).canLay0 = true ∧ (dEv e).depth ≤ 3 := by
  obtain ⟨h1, h2⟩ := lay_u o.u
  refine ⟨?_, ?_⟩
  · simp only [dEv, PyData.canLay0, PyData.canLayAll0, strOk_sg o.k.sg, strOk_sg o.w.sg, h1, Bool.and_true]
  · simp only [dEv, PyData.depth, PyData.depthAll]
    omega
theorem lay_evs : ∀ {ts : List (Addr × Evt)}, (∀ p ∈ ts, EvOk p.2) → PyData.canLayAll0 (ts.map fun p => dEv p.2) = true ∧ PyData.depthAll (ts.map fun p => dEv p.2) ≤ 3
  | [], _ => by simp [PyData.canLayAll0, PyData.depthAll]
  | p :: ts, h => by
    obtain ⟨a1, a2⟩ := lay_ev (h p (List.mem_cons_self ..))
    obtain ⟨b1, b2⟩ := lay_evs (ts := ts) fun q hq => h q (List.mem_cons_of_mem _ hq)
    refine ⟨?_, ?_⟩
    · simp only [List.map_cons, PyData.canLayAll0, a1, b1, Bool.and_true]
    · simp only [List.map_cons, PyData.depthAll]
      omega
theorem shaped_evs {ts : List (Addr × Evt)} (h : ∀ p ∈ ts, EvOk p.2) : SeqAt.shaped (.list (ts.map fun p => dEv p.2)) = true := by
  obtain ⟨h1, h2⟩ := lay_evs h
  show (PyData.canLay0 (.list (ts.map fun p => dEv p.2)) && decide (PyData.depth (.list (ts.map fun p => dEv p.2)) ≤ 64)) = true
  rw [Bool.and_eq_true]
  refine ⟨by simp only [PyData.canLay0]; exact h1, decide_eq_true ?_⟩
  simp only [PyData.depth]
  omega
/-! joins -/
theorem join_nil (ys : List Str) : (Txt.join (Str.ofString "") ys).cps.toList = (ys.map (·.cps.toList)).flatten := by
  show (Builtin.Str.glued _ _).cps.toList = _
  rw [PySem.StrLaws.glued_eq_join]
  have he : (Str.ofString "").cps.toList = [] := by decide +kernel
  induction ys with
  | nil => rfl
  | cons x r ih =>
    cases r with
    | nil =>
      show x.cps.toList = x.cps.toList ++ []
      rw [List.append_nil]
    | cons y r =>
      show (x ++ Str.ofString "" ++ Str.join (Str.ofString "") (y :: r)).cps.toList = _
      rw [tl_app, tl_app, he, ih, List.append_nil]
      rfl
theorem joined_app (a b : List (Addr × Evt)) : joined a ++ joined b = joined (a ++ b) := by
  refine ext_toList ?_
  unfold joined
  rw [tl_app, join_nil, join_nil, join_nil, List.map_append, List.map_append, List.flatten_append]
theorem join_len (ts : List (Addr × Evt)) (h : ∀ p ∈ ts, EvOk p.2) : (joined ts).length ≤ 400 * ts.length := by
  have h1 := sum_lines ts h
  rw [len_toList]
  unfold joined
  rw [join_nil, List.length_flatten, List.map_map]
  refine Nat.le_trans (Nat.le_of_eq ?_) h1
  congr 1
theorem cut_hi (xs : List V) (k : Nat) : cutV xs none (some (k : Int)) = xs.take k := by
  unfold cutV
  rw [HT.sIx_nat, HT.sIx_none, List.drop_zero, Nat.sub_zero]
  by_cases h : k ≤ xs.length
  · rw [Nat.min_eq_left h]
  · rw [Nat.min_eq_right (by omega), List.take_length, List.take_of_length_le (by omega)]
theorem cut_lo (xs : List V) (k : Nat) : cutV xs (some (k : Int)) none = xs.drop k := by
  unfold cutV
  rw [HT.sIx_nat, HT.sIx_none]
  by_cases h : k ≤ xs.length
  · rw [Nat.min_eq_left h, List.take_of_length_le (by rw [List.length_drop]; exact Nat.le_refl _)]
  · rw [Nat.min_eq_right (by omega), Nat.sub_self, List.take_zero, List.drop_of_length_le (by omega)]
def e0 : Evt := ⟨5, ("loaded" : String), .int 3, ("t1" : String)⟩
theorem e0_ok : EvOk e0 := ⟨by decide, by decide, ⟨by decide +kernel, by decide +kernel⟩, .inl ⟨3, rfl, by decide, by decide⟩, ⟨by decide +kernel, by decide +kernel⟩⟩
theorem e0_text (a : Addr) : joined [(a, e0)] = Txt.mul (Str.ofString " ") 6 ++ Str.ofString "5 loaded  " ++ Txt.mul (Str.ofString " ") 12 ++ Str.ofString "3 t1\n" := by
  show Txt.join (Str.ofString "") [lineL e0] = _
  decide +kernel
end Ev
namespace Ev
open PySem PySem.Spec PyProof.Rows L2
section
variable {P : Program} {w : World} {K : PySem.W.Frag} {mg : Str → Option Value} {base : Heap}
def spLaw (K : PySem.W.Frag) : Sp := fun vs H Q _ => ∃ (a : Addr) (ns : List Int), vs = [.ref a] ∧ SqL K H a (ns.map V.int) ∧ ns.length ≤ 63 ∧ ∀ H', Q (.bl true) H'
/-- the globals that are the built-ins -/
structure Blt (mg : Str → Option Value) : Prop where
  len : mg "len" = none
  int : mg "int" = none
  str : mg "str" = none
  list : mg "list" = none
  range : mg "range" = none
  isi : mg "isinstance" = none
/-- D is not the cells' list of the pot -/
def Off (D p : Addr) (H : Hp) : Prop := ∀ (c : Addr) (xs : List V), H p = some (.lst (.ref c :: xs)) → D ≠ c
theorem Pot.put {H : Hp} {p D : Addr} {o : HO} (P : Pot H p) (hD : D ≠ p) (hO : Off D p H) : Pot (upd H D o) p := by
  obtain ⟨c, ns, i, r, m, h1, h2, rest⟩ := P
  exact ⟨c, ns, i, r, m, by rw [upd_ne hD.symm]; exact h1, by rw [upd_ne (hO _ _ h1).symm]; exact h2, rest⟩
theorem Off.but {H H' : Hp} {p D : Addr} (hO : Off D p H) (P : Pot H p) (B : But p H H') : Off D p H' := fun c xs e => by
  obtain ⟨c', ns, i, r, m, h1, _⟩ := P
  obtain ⟨ys, e'⟩ := B.2 _ _ h1
  rw [e] at e'
  have : V.ref c = V.ref c' := by
    have := HO.lst.inj (Option.some.inj e')
    exact (List.cons.inj this).1
  cases this
  exact hO _ _ h1
theorem Off.put {H : Hp} {p D D' : Addr} {o : HO} (hO : Off D p H) (h : D' ≠ p) : Off D p (upd H D' o) := fun c xs e => by
  rw [upd_ne h.symm] at e
  exact hO c xs e
theorem Off.new {H : Hp} {p D : Addr} (P : Pot H p) (h : H D = none) : D ≠ p ∧ Off D p H := by
  obtain ⟨c', ns, i, r, m, h1, h2, _⟩ := P
  refine ⟨(ne_of_none h1 h).symm, fun c xs e => ?_⟩
  rw [h1] at e
  have : V.ref c' = V.ref c := by
    have := HO.lst.inj (Option.some.inj e)
    exact (List.cons.inj this).1
  cases this
  exact (ne_of_none h2 h).symm
/-- the events' list at D -/
structure EvD (K : PySem.W.Frag) (H : Hp) (D : Addr) (ts : List (Addr × Evt)) : Prop where
  l : H D = some (.lst (ts.map fun q => V.ref q.1))
  ev : ∀ q ∈ ts, SqT K H q.1 (evV q.2) ∧ EvOk q.2
theorem EvD.at {K : PySem.W.Frag} {H : Hp} {D : Addr} {ts : List (Addr × Evt)} (h : EvD K H D ts) : EvsAt K H D ts := ⟨sqOf h.l, h.ev⟩
theorem EvD.same {K : PySem.W.Frag} {H H' : Hp} {D : Addr} {ts : List (Addr × Evt)} (h : EvD K H D ts) (e : Same H H') : EvD K H' D ts := ⟨e _ _ h.l, fun q hq => ⟨sqT_same e (h.ev q hq).1, (h.ev q hq).2⟩⟩
theorem EvD.but {K : PySem.W.Frag} {H H' : Hp} {D p : Addr} {ts : List (Addr × Evt)} (h : EvD K H D ts) (P : Pot H p) (e : But p H H') (hD : D ≠ p) : EvD K H' D ts := ⟨e.1 _ _ h.l hD, fun q hq => ⟨sqT_but P e (h.ev q hq).1, (h.ev q hq).2⟩⟩
theorem sqT_put {K : PySem.W.Frag} {H : Hp} {D T : Addr} {xs ys : List V} {o : HO} (hD : H D = some (.lst xs)) (h : SqT K H T ys) : SqT K (upd H D o) T ys := by
  rcases h with (h | ⟨u, h⟩) | h
  · exact .inl (.inl (by rw [upd_ne (ne_of h hD (by intro e; cases e))]; exact h))
  · exact .inl (.inr ⟨u, by rw [upd_ne (ne_of h hD (by intro e; cases e))]; exact h⟩)
  · exact .inr h
theorem EvD.put {K : PySem.W.Frag} {H : Hp} {D T : Addr} {e : Evt} {ts : List (Addr × Evt)} (h : EvD K H D ts) (hT : SqT K H T (evV e)) (he : EvOk e) : EvD K (upd H D (.lst ((ts.map fun q => V.ref q.1) ++ [.ref T]))) D (ts ++ [(T, e)]) := by
  refine ⟨by rw [upd_same, List.map_append]; rfl, fun q hq => ?_⟩
  rcases List.mem_append.mp hq with hq | hq
  · exact ⟨sqT_put h.l (h.ev q hq).1, (h.ev q hq).2⟩
  · rw [List.mem_singleton.mp hq]
    exact ⟨sqT_put h.l hT, he⟩
theorem EvD.take {K : PySem.W.Frag} {H : Hp} {D p : Addr} {ts : List (Addr × Evt)} (h : EvD K H D ts) (hp : H p = none) (k : Nat) : EvsAt K (upd H p (.lst (cutV (ts.map fun q => V.ref q.1) none (some (k : Int))))) p (ts.take k) := by
  refine ⟨sqOf (by rw [upd_same, cut_hi, List.map_take]), fun q hq => ?_⟩
  have hq' := List.mem_of_mem_take hq
  exact ⟨sqT_same (same_upd hp) (h.ev q hq').1, (h.ev q hq').2⟩
theorem EvD.drop {K : PySem.W.Frag} {H : Hp} {D p : Addr} {ts : List (Addr × Evt)} (h : EvD K H D ts) (hp : H p = none) (k : Nat) : EvsAt K (upd H p (.lst (cutV (ts.map fun q => V.ref q.1) (some (k : Int)) none))) p (ts.drop k) := by
  refine ⟨sqOf (by rw [upd_same, cut_lo, List.map_drop]), fun q hq => ?_⟩
  have hq' := List.mem_of_mem_drop hq
  exact ⟨sqT_same (same_upd hp) (h.ev q hq').1, (h.ev q hq').2⟩
/-- between the statements: the frame's first values, the pot and the events -/
def Mid (K : PySem.W.Frag) (a p : Addr) (σ : L2.St) (H : Hp) : Prop := ∃ (D : Addr) (ts : List (Addr × Evt)) (n : Int) (x10 : Option V),
  σ = [some (.ref a), some (.ref p), some (.int n), some (.ref D), none, none, none, none, none, none, x10, none] ∧ Pot H p ∧ EvD K H D ts ∧ ts.length ≤ 99 ∧ D ≠ p
theorem ok_law {f g g2 g3 g4 g5 g6 g8 : Addr} {fd gd gd2 gd3 gd4 gd5 gd6 gd8 : FuncData} (F : Fun K "law" "law" sLaw f fd) (D1 : Dd K mg "_law_draw" sDraw ["pot", "many"] g gd) (D2 : Dd K mg "_law_word" sWord ["pot", "many"] g2 gd2) (D3 : Dd K mg "_law_tick" sTick ["pot"] g3 gd3) (D4 : Dd K mg "_law_unit" sUnit ["pot"] g4 gd4)
    (D5 : Dd K mg "_law_event" sEvent ["pot"] g5 gd5) (D6 : Dd K mg "_law_line" sLine ["event"] g6 gd6) (D8 : Dd K mg "events_table" sTab ["events"] g8 gd8) (B : Blt mg) : FnOk P w K mg base CX0 5 f fd ["script"] (spLaw K) := by
  have G1 : FnOk P w K mg base CX0 1 g gd ["pot", "many"] spDraw := ok_draw D1.F B.len B.int
  have G5 := ok_event (P := P) (w := w) (base := base) D5.F D1 D2 D3 D4 B.len B.int
  have G6 : FnOk P w K mg base CX0 1 g6 gd6 ["event"] (spLine K lineL) := ok_line D6.F B.len B.str
  have G8 : FnOk P w K mg base CX0 1 g8 gd8 ["events"] (spTab K) := ok_tab D8.F
  refine F.ok scL (fun vs H Q E h => ?_) (fun cdv A outer s H vs Q E hr h => ?_)
  · obtain ⟨a, ns, rfl, _⟩ := h
    rfl
  · obtain ⟨a, ns, rfl, hS, hlen, q⟩ := h
    have hr1 : Room 1 _ := hr.mono (by decide)
    have hr2 : Room 2 _ := hr.mono (by decide)
    refine ⟨_, pss_cons (ps_set (i := 1) scL.nd rfl (.inr rfl) (pe_lst (pa_cons (pe_callTy call_list_of (by rfl) B.list PyProof.Rows.boot_list (pa_cons (pv 0) pa_nil)) (pa_cons pe_int (pa_cons pe_int (pa_cons pe_int pa_nil))))))
      (pss_cons (ps_set (i := 2) scL.nd rfl (.inl rfl) (pe_call G1 hr1 (by rfl) D1.g D1.F.kp D1.b .nil pass0 (pa_cons (pv 1) (pa_cons pe_int pa_nil))))
      (C8.pss_cut (ps_if (pt_cmpR op_eq (pe_call G1 hr1 (by rfl) D1.g D1.F.kp D1.b .nil pass0 (pa_cons (pv 1) (pa_cons pe_int pa_nil))) pe_int (nomark _)) (pss_one (ps_set (i := 2) scL.nd rfl (.inl rfl) (pe_call G1 hr1 (by rfl) D1.g D1.F.kp D1.b .nil pass0 (pa_cons (pv 1) (pa_cons pe_int pa_nil))))) pss_nil)
      (pss_cons (ps_setLc (i := 3) (own := [("k", 10)]) (g := gName 10) (by rfl) scL.nd rfl rfl (sw_true rfl rfl rfl (by decide +kernel)) (pi_range1 (by rfl) B.range (pa_cons (pv 2) pa_nil)) (blkOk_by (N := ["script", "pot", "count", "events", "wanted", "handed", "told", "cut", "head", "rest", "k", "event"]) (sc := defScope sLaw) (by decide +kernel)) (fun _ _ _ _ _ => pg_name (i := 10) scL.nd rfl (Or.inl rfl)) (fun _ _ _ _ _ => pts_nil) (fun _ _ _ _ _ => pe_call G5 hr (by rfl) D5.g D5.F.kp D5.b .nil pass0 (pa_cons (pv 1) pa_nil)))
      (C8.pss_cut (ps_if (PW.pt (pw_and (pt_cmpR op_gt (pv 2) pe_int (nomark _)) (pw_and1 (pt_cmpR op_eq (pe_call G1 hr1 (by rfl) D1.g D1.F.kp D1.b .nil pass0 (pa_cons (pv 1) (pa_cons pe_int pa_nil))) pe_int (nomark _))))) (pss_one (ps_expr (pe_bm PySem.F.plainAttrs_list PySem.F.slot_list_append PySem.F.type_list_append mt_append (pv 3) (pa_cons (pe_ix ix_list (pv 3) (pe_call G1 hr1 (by rfl) D1.g D1.F.kp D1.b .nil pass0 (pa_cons (pv 1) (pa_cons (pv 2) pa_nil))) (fun _ _ => rfl)) pa_nil)))) pss_nil)
      (pss_cons (ps_set (i := 4) scL.nd rfl (.inl rfl) (pe_join pe_str (pe_lc (own := [("event", 11)]) (g := gName 11) (by rfl) scL.nd (pi_list (pv 3)) (blkOk_by (N := ["script", "pot", "count", "events", "wanted", "handed", "told", "cut", "head", "rest", "k", "event"]) (sc := defScope sLaw) (by decide +kernel)) (fun _ _ _ _ _ => pg_name (i := 11) scL.nd rfl (Or.inl rfl)) (fun _ _ _ _ _ => pts_nil) (fun _ _ _ _ _ => pe_call G6 hr1 (by rfl) D6.g D6.F.kp D6.b .nil pass0 (pa_cons (pv 11) pa_nil)))))
      (pss_cons (ps_set (i := 5) scL.nd rfl (.inl rfl) (pe_callTy call_list_of (by rfl) B.list PyProof.Rows.boot_list (pa_cons (pv 3) pa_nil)))
      (pss_cons (ps_set (i := 6) scL.nd rfl (.inl rfl) (pe_call G8 hr1 (by rfl) D8.g D8.F.kp D8.b .nil pass0 (pa_cons (pv 5) pa_nil)))
      (pss_cons (ps_if (PW.pt (pw_or (pt_not (pt_val (pe_callB call_isi (by rfl) B.isi (by decide +kernel) (pa_cons (pv 6) (pa_cons (pe_bltn (by rfl) B.str PyProof.Rows.boot_str (v := .ty "str") rfl) pa_nil))))) (pw_or (pt_cmpR op_ne (pv 6) (pv 4) (nomark _)) (pw_or1 (pt_cmpR (op_neD hr.units) (pv 5) (pv 3) (nomark _)))))) (pss_one (ps_ret pe_bl)) pss_nil)
      (pss_cons (ps_set (i := 7) scL.nd rfl (.inl rfl) (pe_call G1 hr1 (by rfl) D1.g D1.F.kp D1.b .nil pass0 (pa_cons (pv 1) (pa_cons (pe_op op_add (pe_callB call_len_seq (by rfl) B.len PySem.boot_len (pa_cons (pv 3) pa_nil)) pe_int) pa_nil))))
      (pss_cons (ps_set (i := 8) scL.nd rfl (.inl rfl) (pe_call G8 hr1 (by rfl) D8.g D8.F.kp D8.b .nil pass0 (pa_cons (pe_slice sl_list (pv 3) po_none (po_some (pv 7))) pa_nil)))
      (pss_cons (ps_set (i := 9) scL.nd rfl (.inl rfl) (pe_call G8 hr1 (by rfl) D8.g D8.F.kp D8.b .nil pass0 (pa_cons (pe_slice sl_list (pv 3) (po_some (pv 7)) po_none) pa_nil)))
      (pss_cons (ps_if (PW.pt (pw_or (pt_not (pt_val (pe_callB call_isi (by rfl) B.isi (by decide +kernel) (pa_cons (pv 8) (pa_cons (pe_bltn (by rfl) B.str PyProof.Rows.boot_str (v := .ty "str") rfl) pa_nil))))) (pw_or (pt_not (pt_val (pe_callB call_isi (by rfl) B.isi (by decide +kernel) (pa_cons (pv 9) (pa_cons (pe_bltn (by rfl) B.str PyProof.Rows.boot_str (v := .ty "str") rfl) pa_nil))))) (pw_or1 (pt_cmpR op_ne (pe_op op_add_str (pv 8) (pv 9)) (pv 4) (nomark _)))))) (pss_one (ps_ret pe_bl)) pss_nil)
      (pss_cons (ps_if (pt_cmpR op_ne (pe_call G8 hr1 (by rfl) D8.g D8.F.kp D8.b .nil pass0 (pa_cons (pe_lst (pa_cons (pe_tup (pa_cons pe_int (pa_cons pe_str (pa_cons pe_int (pa_cons pe_str pa_nil))))) pa_nil)) pa_nil)) (pe_op op_add_str (pe_op op_add_str (pe_op op_add_str (pe_op op_mul_str pe_str pe_int) pe_str) (pe_op op_mul_str pe_str pe_int)) pe_str) (nomark _)) (pss_one (ps_ret pe_bl)) pss_nil)
      (pss_one (ps_ret (pe_and (pe_cmpR op_eq (pe_call G8 hr1 (by rfl) D8.g D8.F.kp D8.b .nil pass0 (pa_cons (pe_lst pa_nil) pa_nil)) pe_str (nomark _)) (pe_one (pe_cmpR op_eq (pe_call G8 hr1 (by rfl) D8.g D8.F.kp D8.b .nil pass0 (pa_cons (pe_callTy call_list_of (by rfl) B.list PyProof.Rows.boot_list (pa_cons (pv 3) pa_nil)) pa_nil)) (pv 4) (nomark _))))))))))))))))))), ?_⟩
    -- pot = [list(script), 0, 0, 0]
    refine ⟨.ref a, rfl, a, _, rfl, .inl hS, fun l nl => ⟨by show 4 ≤ sizeLine; decide, fun p np => ?_⟩⟩
    have lp : l ≠ p := fun e => by
      rw [← e, upd_same] at np
      cases np
    have P0 : Pot (upd (upd H l (.lst (ns.map V.int))) p (.lst [.ref l, .int 0, .int 0, .int 0])) p := ⟨l, ns, 0, 0, 0, upd_same, by rw [upd_ne lp]; exact upd_same, by decide, by decide, by decide, by decide, lp⟩
    -- count = draw(7)
    refine ⟨.ref p, rfl, p, 7, rfl, P0, by decide, by decide, fun c0 H1 a1 b1 P1 _ => ?_⟩
    -- if draw(8) == 1: count = draw(61)
    refine ⟨fun σ' H' => ∃ n : Int, 0 ≤ n ∧ n < 61 ∧ σ' = [some (.ref a), some (.ref p), some (.int n), none, none, none, none, none, none, none, none, none] ∧ Pot H' p, ?_, ?_⟩
    · refine ⟨.ref p, rfl, p, 8, rfl, P1, by decide, by decide, fun z H2 a2 b2 P2 _ => ⟨rfl, _, rfl, ite2 (fun _ => ?_) (fun _ => ?_)⟩⟩
      · exact ⟨.ref p, rfl, p, 61, rfl, P2, by decide, by decide, fun n H3 a3 b3 P3 _ => ⟨n, a3, b3, rfl, P3⟩⟩
      · exact (⟨c0, a1, by omega, rfl, P2⟩ : ∃ n : Int, 0 ≤ n ∧ n < 61 ∧ ([some (.ref a), some (.ref p), some (.int c0), none, none, none, none, none, none, none, none, none] : L2.St) = [some (.ref a), some (.ref p), some (.int n), none, none, none, none, none, none, none, none, none] ∧ Pot H2 p)
    rintro σ2 H2 ⟨n, n0, n1, rfl, P2⟩
    -- events = [event(pot) for k in range(count)]
    refine ⟨.int n, rfl, n, rfl, by omega, by omega, fun D nD => ?_⟩
    obtain ⟨Dp, DO⟩ := Off.new P2 nD
    refine lc_range (lo := 0) (n := n.toNat) (fun j H' => Pot H' p ∧ Off D p H' ∧ ∃ ts : List (Addr × Evt), ts.length = j ∧ EvD K H' D ts) ?_ ?_ ?_
    · exact ⟨P2.new nD, DO.put Dp, [], rfl, upd_same, fun q hq => by cases hq⟩
    · rintro j H3 hj ⟨P3, O3, ts, ht, E3⟩
      refine ⟨rfl, ?_⟩
      show tCall spEvent [] E0 (tCons (tVar 1) tNil) _ _ _
      refine ⟨.ref p, rfl, p, rfl, P3, fun T e H4 nT hT oe P4 B4 => ?_⟩
      have E4 := E3.but P3 B4 Dp
      refine ⟨_, E4.l, ?_, P4.put Dp (O3.but P3 B4), (O3.but P3 B4).put Dp, ts ++ [(T, e)], by rw [List.length_append, ht]; rfl, E4.put (.inl (.inl hT)) oe⟩
      rw [List.length_map]
      exact small1000 (by omega)
    · rintro H3 ⟨P3, O3, ts, ht, E3⟩
      -- if count > 0 and draw(3) == 0: append
      refine ⟨Mid K a p, ?_, ?_⟩
      · refine ⟨.int n, rfl, n, 0, rfl, rfl, _, rfl, ite2 (fun e1 => ?_) (fun e1 => ?_)⟩
        · have hn : 0 < n := of_decide_eq_true e1
          refine ⟨.ref p, rfl, p, 3, rfl, P3, by decide, by decide, fun z H4 a4 b4 P4 B4 => ⟨rfl, _, rfl, ite2 (fun e2 => ?_) (fun e2 => ?_)⟩⟩
          · have E4 := E3.but P3 B4 Dp
            have O4 := O3.but P3 B4
            refine ⟨.ref D, rfl, .inl ⟨rfl, _, sqOf E4.l⟩, .ref D, rfl, .ref p, rfl, .int n, rfl, p, n, rfl, P4, by omega, by omega, fun y H5 a5 b5 P5 B5 => ?_⟩
            have E5 := E4.but P4 B5 Dp
            have O5 := O4.but P4 B5
            have hy : y.toNat < ts.length := by omega
            refine ⟨D, _, y, .ref ts[y.toNat].1, rfl, rfl, sqOf E5.l, at_nat a5 (by rw [List.getElem?_map, List.getElem?_eq_getElem hy]; rfl), ?_⟩
            have hm : ts[y.toNat] ∈ ts := List.getElem_mem hy
            refine ⟨D, _, _, rfl, rfl, E5.l, by rw [List.length_map]; exact small1000 (by omega), ?_⟩
            exact ⟨D, ts ++ [ts[y.toNat]], n, _, rfl, P5.put Dp O5, E5.put (E5.ev _ hm).1 (E5.ev _ hm).2, by rw [List.length_append, ht]; show n.toNat + 1 ≤ 99; omega, Dp⟩
          · exact (⟨D, ts, n, none, rfl, P4, E3.but P3 B4 Dp, by omega, Dp⟩ : Mid K a p _ H4)
        · exact (⟨D, ts, n, none, rfl, P3, E3, by omega, Dp⟩ : Mid K a p _ H3)
      rintro σ4 H4 ⟨D, ts, n, x10, rfl, P4, E4, hn, Dp⟩
      obtain ⟨hs1, hs2⟩ : (Str.ofString "").length = 0 ∧ sizeLine = 16777216 := ⟨by decide +kernel, rfl⟩
      have ok4 : ∀ q ∈ ts, EvOk q.2 := fun q hq => (E4.ev q hq).2
      have jl := join_len ts ok4
      -- wanted = "".join([line(event) for event in events])
      refine ⟨⟨_, rfl⟩, .ref D, rfl, D, rfl, ⟨_, E4.at.sq⟩, ?_⟩
      refine comp_ok (σ := [some (.ref a), some (.ref p), some (.int n), some (.ref D), none, none, none, none, none, none, x10, none]) (i := 11) E4.at (by omega) (Nat.lt_succ_self 11) fun H5 L S5 hL => ?_
      refine ⟨Str.ofString "", L, (ts.map fun (q : Addr × Evt) => lineL q.2), rfl, rfl, .inl (sqOf hL), by have := sum_lines ts ok4; rw [hs1]; omega, ?_⟩
      have P5 := P4.same S5
      have E5 := E4.same S5
      -- handed = list(events)
      refine ⟨.ref D, rfl, D, _, rfl, .inl (sqOf E5.l), fun hd nhd => ?_⟩
      have E6 := E5.same (same_upd (o := .lst (ts.map fun q => V.ref q.1)) nhd)
      have P6 := P5.new (o := .lst (ts.map fun q => V.ref q.1)) nhd
      have Eh : EvsAt K (upd H5 hd (.lst (ts.map fun q => V.ref q.1))) hd ts := ⟨sqOf upd_same, E6.ev⟩
      -- told = events_table(handed)
      refine ⟨.ref hd, rfl, hd, ts, rfl, Eh, by omega, fun H7 S7 => ?_⟩
      have P7 := P6.same S7
      have E7 := E6.same S7
      have Eh7 := Eh.same S7
      -- the first test
      refine ⟨.str (joined ts), rfl, .str (joined ts), .ty "str", .type "str", .type "str", true, rfl, .ty _, .base (.str _), kit_ty (by decide +kernel), true, rfl, ?_⟩
      refine ⟨.str (joined ts), rfl, .str (joined ts), rfl, rfl, _, rfl, ?_⟩
      rw [show (!decide (V.str (joined ts) = V.str (joined ts))) = false by rw [decide_eq_true rfl]; rfl]
      refine ⟨.ref hd, rfl, .ref D, rfl, _, _, .lst Eh7.sq (dp_evs Eh7.ev), .lst (sqOf E7.l) (dp_evs E7.ev), shaped_evs ok4, shaped_evs ok4, _, rfl, ?_⟩
      rw [show PyData.eqv (.list (ts.map fun p => dEv p.2)) (.list (ts.map fun p => dEv p.2)) = true from SeqAt.eqv_refl _ (SeqAt.canLay_of_shaped (shaped_evs ok4))]
      -- cut = draw(len(events) + 1)
      refine ⟨.ref p, rfl, .ref D, rfl, D, _, rfl, .inl (sqOf E7.l), _, 1, rfl, rfl, p, _, rfl, P7, by rw [List.length_map]; omega, by rw [List.length_map]; omega, fun c H8 a8 b8 P8 B8 => ?_⟩
      rw [List.length_map] at b8
      obtain ⟨k, rfl⟩ : ∃ k : Nat, c = (k : Int) := ⟨c.toNat, by omega⟩
      have E8 := E7.but P7 B8 Dp
      -- head = events_table(events[:cut])
      refine ⟨.ref D, rfl, .int (k : Int), rfl, k, rfl, D, _, rfl, sqOf E8.l, fun h1 nh1 => ?_⟩
      have E9 := E8.same (same_upd (o := .lst (cutV (ts.map fun q => V.ref q.1) none (some (k : Int)))) nh1)
      refine ⟨h1, ts.take k, rfl, E8.take nh1 k, by rw [List.length_take]; omega, fun H10 S10 => ?_⟩
      have E10 := E9.same S10
      -- rest = events_table(events[cut:])
      refine ⟨.ref D, rfl, .int (k : Int), rfl, k, rfl, D, _, rfl, sqOf E10.l, fun h2 nh2 => ?_⟩
      have E11 := E10.same (same_upd (o := .lst (cutV (ts.map fun q => V.ref q.1) (some (k : Int)) none)) nh2)
      refine ⟨h2, ts.drop k, rfl, E10.drop nh2 k, by rw [List.length_drop]; omega, fun H12 S12 => ?_⟩
      have E12 := E11.same S12
      have j1 := join_len (ts.take k) fun q hq => ok4 q (List.mem_of_mem_take hq)
      have j2 := join_len (ts.drop k) fun q hq => ok4 q (List.mem_of_mem_drop hq)
      rw [List.length_take] at j1
      rw [List.length_drop] at j2
      -- the second test
      refine ⟨.str (joined (ts.take k)), rfl, .str (joined (ts.take k)), .ty "str", .type "str", .type "str", true, rfl, .ty _, .base (.str _), kit_ty (by decide +kernel), true, rfl, ?_⟩
      refine ⟨.str (joined (ts.drop k)), rfl, .str (joined (ts.drop k)), .ty "str", .type "str", .type "str", true, rfl, .ty _, .base (.str _), kit_ty (by decide +kernel), true, rfl, ?_⟩
      refine ⟨.str (joined (ts.take k)), rfl, .str (joined (ts.drop k)), rfl, _, _, rfl, rfl, by omega, .str (joined ts), rfl, rfl, _, rfl, ?_⟩
      rw [joined_app, List.take_append_drop, show (!decide (V.str (joined ts) = V.str (joined ts))) = false by rw [decide_eq_true rfl]; rfl]
      -- the written one
      refine ⟨by show 4 ≤ sizeLine; decide, fun t nt => ⟨by show 1 ≤ sizeLine; decide, fun l1 nl1 => ?_⟩⟩
      have et : (upd (upd H12 t (.tup (evV e0))) l1 (.lst [.ref t])) t = some (.tup (evV e0)) := by
        rw [upd_ne (ne_of_none upd_same nl1)]
        exact upd_same
      refine ⟨l1, [(t, e0)], rfl, ⟨sqOf upd_same, fun q hq => by rw [List.mem_singleton.mp hq]; exact ⟨.inl (.inl et), e0_ok⟩⟩, by show 1 ≤ 100; decide, fun H13 S13 => ?_⟩
      have E13 := ((E12.same (same_upd (o := .tup (evV e0)) nt)).same (same_upd (o := .lst [.ref t]) nl1)).same S13
      refine ⟨Str.ofString " ", 6, rfl, rfl, by decide, by decide, by decide +kernel, _, _, rfl, rfl, by decide +kernel, Str.ofString " ", 12, rfl, rfl, by decide, by decide, by decide +kernel, _, _, rfl, rfl, by decide +kernel, _, _, rfl, rfl, by decide +kernel, rfl, _, rfl, ?_⟩
      rw [e0_text t, show (!decide (V.str (Txt.mul (Str.ofString " ") 6 ++ Str.ofString "5 loaded  " ++ Txt.mul (Str.ofString " ") 12 ++ Str.ofString "3 t1\n") = V.str (Txt.mul (Str.ofString " ") 6 ++ Str.ofString "5 loaded  " ++ Txt.mul (Str.ofString " ") 12 ++ Str.ofString "3 t1\n"))) = false by rw [decide_eq_true rfl]; rfl]
      -- the end
      refine ⟨Nat.zero_le _, fun l2 nl2 => ⟨l2, [], rfl, ⟨sqOf upd_same, fun q hq => by cases hq⟩, Nat.zero_le _, fun H14 S14 => ⟨rfl, true, congrArg V.bl (decide_eq_true ?_), ?_⟩⟩⟩
      · show V.str (joined []) = V.str (Str.ofString "")
        exact congrArg V.str (by decide +kernel)
      have E14 := (E13.same (same_upd (o := .lst []) nl2)).same S14
      refine ⟨.ref D, rfl, D, _, rfl, .inl (sqOf E14.l), fun l3 nl3 => ?_⟩
      refine ⟨l3, ts, rfl, ⟨sqOf upd_same, (E14.same (same_upd (o := .lst (ts.map fun q => V.ref q.1)) nl3)).ev⟩, by omega, fun H15 S15 => ⟨.str (joined ts), rfl, rfl, ?_⟩⟩
      rw [decide_eq_true rfl]
      exact q H15
end
end Ev
set_option maxHeartbeats 0
namespace Ev
open PySem PySem.Spec PyProof.Rows L2
theorem cls_some {K : PySem.W.Frag} {C : Addr} (h : PySem.W.hasDictIn K C = true) : (PySem.W.clsIn K C).isSome = true := by
  obtain ⟨cd, hc, _⟩ := PySem.W.any_some h
  rw [hc]
  rfl
theorem kit_refC {K : PySem.W.Frag} {t : Value} {C : Addr} {b : Bool} (hd : PySem.W.hasDictIn K C = true) (ht : PySem.W.typeIn K (.ref C) = some (.type "type")) (hs : PySem.W.subIn K t (.ref C) = some b) : PySem.W.kitCls K t (.ref C) = some b := by
  have e2 : ((PySem.W.clsIn K C).isSome && PySem.W.typeIn K (.ref C) == some (.type "type")) = true := by rw [cls_some hd, ht]; rfl
  show (if ((PySem.W.clsIn K C).isSome && PySem.W.typeIn K (.ref C) == some (.type "type")) = true then PySem.W.subIn K t (.ref C) else none) = some b
  rw [if_pos e2]
  exact hs
theorem kit_tyC {K : PySem.W.Frag} {t : Value} {T : String} {b : Bool} (hT : PySem.W.kitMeta T = true) (hs : PySem.W.subIn K t (.type T) = some b) : PySem.W.kitCls K t (.type T) = some b := by
  show (if PySem.W.kitMeta T = true then PySem.W.subIn K t (.type T) else none) = some b
  rw [if_pos hT]
  exact hs
theorem kit_t {K : PySem.W.Frag} {t c : Value} (h : PySem.W.kitCls K t c = some true) : PySem.W.kitOne K t c = some true := by
  unfold PySem.W.kitOne
  by_cases e : (t == c) = true
  · rw [if_pos e]
  · rw [if_neg e]
    exact h
theorem kit_f {K : PySem.W.Frag} {t c : Value} (e : (t == c) = false) (h : PySem.W.kitCls K t c = some false) : PySem.W.kitOne K t c = some false := by
  unfold PySem.W.kitOne
  rw [if_neg (by rw [e]; exact Bool.false_ne_true)]
  exact h
theorem kit_nil {K : PySem.W.Frag} {t : Value} : PySem.W.kitAny K t [] = some false := rfl
theorem kit_no {K : PySem.W.Frag} {t c : Value} {r : List Value} (h : PySem.W.kitOne K t c = some false) (hr : PySem.W.kitAny K t r = some false) : PySem.W.kitAny K t (c :: r) = some false := by
  show (match PySem.W.kitOne K t c with | some true => some true | some false => PySem.W.kitAny K t r | none => none) = some false
  rw [h]
  exact hr
theorem all_mk {l : PySem.W.OpenLaw} {w : World} {K : PySem.W.Frag} {h : Heap} {mg : Str → Option Value} {fa f1 f2 f3 f4 f5 f6 f7 f8 : Addr} (X : K.In h) (G : h.Ns mainGlobals mg) (hfa : mg "law" = some (.ref fa))
    {od1 an1 od2 an2 od3 an3 od4 an4 od5 an5 od6 an6 od7 an7 od8 an8 : Option Addr} {sl1 sl2 sl3 sl4 sl5 sl6 sl7 sl8 : Array (Option Value)} {oc1 kV1 dc1 pm1 cd1 ct1 oc2 kV2 dc2 pm2 cd2 ct2 oc3 kV3 dc3 pm3 cd3 ct3 oc4 kV4 dc4 pm4 cd4 ct4 oc5 kV5 dc5 pm5 cd5 ct5 oc6 kV6 dc6 pm6 cd6 ct6 oc7 kV7 dc7 pm7 cd7 ct7 oc8 kV8 dc8 pm8 cd8 ct8 : Value}
    (a1 : PySem.W.nsIn K mainGlobals "_law_draw" = some (some (.ref f1)))
    (l1 : K.lookup f1 = some ⟨oc1, od1, .func (PySem.W.fnOf "_law_draw" "_law_draw" (defArgs sDraw) (defBody sDraw) (defScope sDraw) .none kV1 dc1 pm1 an1 cd1 ct1), sl1⟩)
    (c1 : PySem.W.codeIn K cd1 "_law_draw" = true)
    (k1 : PySem.W.keepIn K (.ref f1) = true)
    (a2 : PySem.W.nsIn K mainGlobals "_law_word" = some (some (.ref f2)))
    (l2 : K.lookup f2 = some ⟨oc2, od2, .func (PySem.W.fnOf "_law_word" "_law_word" (defArgs sWord) (defBody sWord) (defScope sWord) .none kV2 dc2 pm2 an2 cd2 ct2), sl2⟩)
    (c2 : PySem.W.codeIn K cd2 "_law_word" = true)
    (k2 : PySem.W.keepIn K (.ref f2) = true)
    (a3 : PySem.W.nsIn K mainGlobals "_law_tick" = some (some (.ref f3)))
    (l3 : K.lookup f3 = some ⟨oc3, od3, .func (PySem.W.fnOf "_law_tick" "_law_tick" (defArgs sTick) (defBody sTick) (defScope sTick) .none kV3 dc3 pm3 an3 cd3 ct3), sl3⟩)
    (c3 : PySem.W.codeIn K cd3 "_law_tick" = true)
    (k3 : PySem.W.keepIn K (.ref f3) = true)
    (a4 : PySem.W.nsIn K mainGlobals "_law_unit" = some (some (.ref f4)))
    (l4 : K.lookup f4 = some ⟨oc4, od4, .func (PySem.W.fnOf "_law_unit" "_law_unit" (defArgs sUnit) (defBody sUnit) (defScope sUnit) .none kV4 dc4 pm4 an4 cd4 ct4), sl4⟩)
    (c4 : PySem.W.codeIn K cd4 "_law_unit" = true)
    (k4 : PySem.W.keepIn K (.ref f4) = true)
    (a5 : PySem.W.nsIn K mainGlobals "_law_event" = some (some (.ref f5)))
    (l5 : K.lookup f5 = some ⟨oc5, od5, .func (PySem.W.fnOf "_law_event" "_law_event" (defArgs sEvent) (defBody sEvent) (defScope sEvent) .none kV5 dc5 pm5 an5 cd5 ct5), sl5⟩)
    (c5 : PySem.W.codeIn K cd5 "_law_event" = true)
    (k5 : PySem.W.keepIn K (.ref f5) = true)
    (a6 : PySem.W.nsIn K mainGlobals "_law_line" = some (some (.ref f6)))
    (l6 : K.lookup f6 = some ⟨oc6, od6, .func (PySem.W.fnOf "_law_line" "_law_line" (defArgs sLine) (defBody sLine) (defScope sLine) .none kV6 dc6 pm6 an6 cd6 ct6), sl6⟩)
    (c6 : PySem.W.codeIn K cd6 "_law_line" = true)
    (k6 : PySem.W.keepIn K (.ref f6) = true)
    (a7 : PySem.W.nsIn K mainGlobals "events_table" = some (some (.ref f7)))
    (l7 : K.lookup f7 = some ⟨oc7, od7, .func (PySem.W.fnOf "events_table" "events_table" (defArgs sTab) (defBody sTab) (defScope sTab) .none kV7 dc7 pm7 an7 cd7 ct7), sl7⟩)
    (c7 : PySem.W.codeIn K cd7 "events_table" = true)
    (k7 : PySem.W.keepIn K (.ref f7) = true)
    (a8 : PySem.W.nsIn K mainGlobals "law" = some (some (.ref f8)))
    (l8 : K.lookup f8 = some ⟨oc8, od8, .func (PySem.W.fnOf "law" "law" (defArgs sLaw) (defBody sLaw) (defScope sLaw) .none kV8 dc8 pm8 an8 cd8 ct8), sl8⟩)
    (c8 : PySem.W.codeIn K cd8 "law" = true)
    (k8 : PySem.W.keepIn K (.ref f8) = true)
    (z_len : PySem.W.nsIn K mainGlobals "len" = some none)
    (z_int : PySem.W.nsIn K mainGlobals "int" = some none)
    (z_str : PySem.W.nsIn K mainGlobals "str" = some none)
    (z_list : PySem.W.nsIn K mainGlobals "list" = some none)
    (z_range : PySem.W.nsIn K mainGlobals "range" = some none)
    (z_isinstance : PySem.W.nsIn K mainGlobals "isinstance" = some none)
    : ∃ fd : FuncData, (∀ (s : Shared) (v : Value), BindsTo s fd ⟨[v], []⟩ [("script", v)]) ∧ ∀ base : Heap, K.In base → base.Ns mainGlobals mg → FnOk l.prog w K mg base CX0 5 fa fd ["script"] (spLaw K) := by
  have e := hfa.symm.trans (PySem.W.mg_of X G a8)
  cases e
  have F1 := fun_mk (st := sDraw) l1 c1 k1
  have b1 := F1.binds (ps := ["pot", "many"]) fun _ _ _ _ _ _ us hl => match us, hl with | [_, _], _ => rfl
  have D1 : Dd K mg "_law_draw" sDraw ["pot", "many"] f1 _ := ⟨F1, b1, PySem.W.mg_of X G a1⟩
  have F2 := fun_mk (st := sWord) l2 c2 k2
  have b2 := F2.binds (ps := ["pot", "many"]) fun _ _ _ _ _ _ us hl => match us, hl with | [_, _], _ => rfl
  have D2 : Dd K mg "_law_word" sWord ["pot", "many"] f2 _ := ⟨F2, b2, PySem.W.mg_of X G a2⟩
  have F3 := fun_mk (st := sTick) l3 c3 k3
  have b3 := F3.binds (ps := ["pot"]) fun _ _ _ _ _ _ us hl => match us, hl with | [_], _ => rfl
  have D3 : Dd K mg "_law_tick" sTick ["pot"] f3 _ := ⟨F3, b3, PySem.W.mg_of X G a3⟩
  have F4 := fun_mk (st := sUnit) l4 c4 k4
  have b4 := F4.binds (ps := ["pot"]) fun _ _ _ _ _ _ us hl => match us, hl with | [_], _ => rfl
  have D4 : Dd K mg "_law_unit" sUnit ["pot"] f4 _ := ⟨F4, b4, PySem.W.mg_of X G a4⟩
  have F5 := fun_mk (st := sEvent) l5 c5 k5
  have b5 := F5.binds (ps := ["pot"]) fun _ _ _ _ _ _ us hl => match us, hl with | [_], _ => rfl
  have D5 : Dd K mg "_law_event" sEvent ["pot"] f5 _ := ⟨F5, b5, PySem.W.mg_of X G a5⟩
  have F6 := fun_mk (st := sLine) l6 c6 k6
  have b6 := F6.binds (ps := ["event"]) fun _ _ _ _ _ _ us hl => match us, hl with | [_], _ => rfl
  have D6 : Dd K mg "_law_line" sLine ["event"] f6 _ := ⟨F6, b6, PySem.W.mg_of X G a6⟩
  have F7 := fun_mk (st := sTab) l7 c7 k7
  have b7 := F7.binds (ps := ["events"]) fun _ _ _ _ _ _ us hl => match us, hl with | [_], _ => rfl
  have D7 : Dd K mg "events_table" sTab ["events"] f7 _ := ⟨F7, b7, PySem.W.mg_of X G a7⟩
  have F8 := fun_mk (st := sLaw) l8 c8 k8
  refine ⟨PySem.W.fnOf "law" "law" (defArgs sLaw) (defBody sLaw) (defScope sLaw) .none kV8 dc8 pm8 an8 cd8 ct8, fun s v => .of_eq rfl, fun base _ _ => ?_⟩
  have B : Blt mg := ⟨PySem.W.mg_none_of X G z_len, PySem.W.mg_none_of X G z_int, PySem.W.mg_none_of X G z_str, PySem.W.mg_none_of X G z_list, PySem.W.mg_none_of X G z_range, PySem.W.mg_none_of X G z_isinstance⟩
  exact ok_law F8 D1 D2 D3 D4 D5 D6 D7 B
end Ev
open PySem PySem.W PyProof.Rows
set_option maxRecDepth 100000 in
set_option maxHeartbeats 0 in
theorem PySem.Challenge.cw_everyparcel_k24_events_table_lines_holds : PySem.Challenge.rw_everyparcel_k24_events_table_lines.Holds := by
  w_on; o_law; k_head; (case hw => w_witness2)
  k_fill
  refine L2.walk_of (l := PySem.Challenge.rw_everyparcel_k24_events_table_lines) (n := 63) (k := 5) (x := "script") (CX := fun _ => L2.CX0) (sp := fun w => Ev.spLaw _) rfl (by decide) rfl ⟨rfl, by decide, by decide⟩ (fun w h Y => PySem.W.kIn_of Y) ?F (fun _ _ a ns hl _ hS => ⟨a, ns, rfl, hS, hl, fun _ => rfl⟩) (fun _ _ _ _ _ h => h)
  case F =>
    intro w mg fa h KX G hmg
    refine' Ev.all_mk KX G hmg ?a1 ?l1 ?c1 ?k1 ?a2 ?l2 ?c2 ?k2 ?a3 ?l3 ?c3 ?k3 ?a4 ?l4 ?c4 ?k4 ?a5 ?l5 ?c5 ?k5 ?a6 ?l6 ?c6 ?k6 ?a7 ?l7 ?c7 ?k7 ?a8 ?l8 ?c8 ?k8 ?z_len ?z_int ?z_str ?z_list ?z_range ?z_isinstance
    (case a1 => k_is); (case l1 => k_is); (case c1 => k_is); (case k1 => k_is); (case a2 => k_is); (case l2 => k_is); (case c2 => k_is); (case k2 => k_is)
    (case a3 => k_is); (case l3 => k_is); (case c3 => k_is); (case k3 => k_is); (case a4 => k_is); (case l4 => k_is); (case c4 => k_is); (case k4 => k_is)
    (case a5 => k_is); (case l5 => k_is); (case c5 => k_is); (case k5 => k_is); (case a6 => k_is); (case l6 => k_is); (case c6 => k_is); (case k6 => k_is)
    (case a7 => k_is); (case l7 => k_is); (case c7 => k_is); (case k7 => k_is); (case a8 => k_is); (case l8 => k_is); (case c8 => k_is); (case k8 => k_is)
    (case z_len => k_is); (case z_int => k_is); (case z_str => k_is); (case z_list => k_is); (case z_range => k_is); (case z_isinstance => k_is)
