import PyProof.Rows.All
import Wide.All
import OpenK.AllK
import Wide.FinOn
import HandS.ForMost
import HandS.Wide
import HandS.IsInst
import HandS.Codes
import HandS.Walk
import HandS.Exc
import HandS.TryOnly
import HandS.ExcOwn
import HandS.WordsExc
import HandS.ExcInit
import HandS.ExcField
import KE.KExcIs
import HandS.SortKw
import KE.DataMinMax
import KE.SortData
import HandS.ExcIs
import PySem.Challenge.RW_everyparcel_k17_share_out_by_remainders
set_option Elab.async false
set_option linter.all false
set_option maxRecDepth 100000
namespace Sh
open PySem PySem.Spec PyProof.Rows L2
def topS (i : Nat) : Stmt := PySem.Challenge.pw_everyparcel_k17_share_out_by_remainders.main.body.getD i (.Pass ⟨0, 0, 0, 0⟩)
structure Dd (K : PySem.W.Frag) (mg : Str → Option Value) (x : Str) (st : Stmt) (ps : List Str) (f : Addr) (fd : FuncData) : Prop where
  F : Fun K x x st f fd
  b : Binds K fd ps []
  g : mg x = some (.ref f)
theorem sqOf {K : PySem.W.Frag} {H : Hp} {p : Addr} {xs : List V} (h : H p = some (.lst xs)) : SqL K H p xs := .inl (.inl h)
theorem same_upd {H : Hp} {p : Addr} {o : HO} (h : H p = none) : Same H (upd H p o) := fun b x e => by
  rw [upd_ne (ne_of_none e h)]
  exact e
theorem at_nat {α : Type} {xs : List α} {i : Int} {v : α} (h0 : 0 ≤ i) (h : xs[i.toNat]? = some v) : atI xs i = some v := by
  have e : i = (i.toNat : Int) := by omega
  rw [e]
  exact atI_nat h
/-! ### errors with one field -/
/-- what the written part says of such a class (at C; its __init__ at fI) -/
structure ErrC (K : PySem.W.Frag) (C fI : Addr) (n : Str) : Prop where
  ox : OexC K C
  xf : XfC K C
  no : PySem.W.findIn K (.ref C) n = some none
  iC : PySem.W.findIn K (.ref C) "__init__" = some (some (.ref fI))
  tI : PySem.W.typeIn K (.ref fI) = some (.type "function")
  cl : (PySem.W.clsIn K C).isSome = true
  ha : PySem.W.findIn K (.ref C) "__class__" = some (some (.builtin "object.__class__"))
  hm : PySem.W.mroIn K C (.type "object") = some true
  hn : PySem.W.specialIn K (.builtin "object.__class__") "__get__" = some (some (.builtin "getset_descriptor.__get__"))
  tk : PySem.W.takesIn K (.builtin "object.__class__") = some true
/-- __init__(self, field): self.field = field -/
def spErr (K : PySem.W.Frag) (n : Str) : Sp := fun vs H Q _ => ∃ (a C : Addr) (v : V), vs = [.ref a, v] ∧ OexC K C ∧ PySem.W.findIn K (.ref C) n = some none ∧ H a = some (exo a C none) ∧ ∀ dx, H dx = none → dx ≠ a → Q .non (upd (upd H dx (exd dx [(n, v)])) a (exo a C (some dx)))
/-- what a raise of it leaves: its dict stands, all else as it was -/
theorem err_made {K : PySem.W.Frag} {C fI : Addr} {n : Str} (T : ErrC K C fI n) {v : V} {H : Hp} {Q : XK} (q : ∀ d H', Same H H' → H' d = some (.xd [(n, v)]) → Q (.ref C) (some d) H') :
    ∀ a, H a = none → spErr K n [.ref a, v] (upd H a (exo a C none)) (fun u H2 => u = .non ∧ ∃ (d : Addr) (fs : List (Str × V)), H2 a = some (exo a C (some d)) ∧ H2 d = some (exd d fs) ∧ H d = none ∧ Q (.ref C) (some d) (upd (del H2 a) d (.xd fs))) (fun _ _ _ => False) := by
  intro a na
  refine ⟨a, C, v, rfl, T.ox, T.no, upd_same, fun d nd da => ⟨rfl, d, [(n, v)], upd_same, ?_, ?_, ?_⟩⟩
  · rw [upd_ne da]
    exact upd_same
  · rw [upd_ne da] at nd
    exact nd
  · rw [upd_ne da] at nd
    refine q d _ (fun b o hb => ?_) upd_same
    have hba : b ≠ a := ne_of_none hb na
    have hbd : b ≠ d := ne_of_none hb nd
    rw [upd_ne hbd, del_ne hba, upd_ne hba, upd_ne hbd, upd_ne hba]
    exact hb
section
variable {X : Cx} {a D : Addr} {oe : Obj} {pn : List (Addr × Obj)} {d : Option Addr} {cls : Value}
/-- isinstance(e, c) of the error that the suite holds -/
def rIsX (K : PySem.W.Frag) (D a : Addr) (cls : Value) (d : Option Addr) : List V → Hp → VK → Prop := fun xs H Q => cls = .ref D ∧ ∃ (c : V) (cv : Value) (b : Bool) (dd : Addr) (fs : List (Str × V)), xs = [.ref a, c] ∧ ClsV c cv ∧ d = some dd ∧ H dd = some (.xd fs) ∧ PySem.W.kitOne K (.ref D) cv = some b ∧ Q (.bl b) H
/-- .. of a tuple of classes -/
def rIsXT (K : PySem.W.Frag) (D a : Addr) (cls : Value) (d : Option Addr) : List V → Hp → VK → Prop := fun xs H Q => cls = .ref D ∧ ∃ (tp : Addr) (cs : List V) (us : List Value) (b : Bool) (dd : Addr) (fs : List (Str × V)), xs = [.ref a, .ref tp] ∧ H tp = some (.tup cs) ∧ Paired ClsV cs us ∧ d = some dd ∧ H dd = some (.xd fs) ∧ PySem.W.kitAny K (.ref D) us = some b ∧ Q (.bl b) H
theorem inst_at {pins : List (Addr × Obj)} {σ : L2.St} {H : Hp} {s : Shared} {dd : Addr} {fs : List (Str × V)} (hz : Zc (.ref D) (some dd) oe) (hf : ∃ vs, oe.data = .fields vs) (I : Inv (X.suite a ((a, oe) :: pn)) pins σ H s) (hd : H dd = some (.xd fs)) : ∃ od, PySem.W.InstAt s.heap a oe D (some od) := by
  obtain ⟨ha, _⟩ := I.pin (a, oe) (List.mem_append_left _ List.mem_cons_self)
  obtain ⟨vs, hv⟩ := hf
  have hx : ObjOk X.prog X.w H s.heap dd (.xd fs) := I.hok dd _ hd
  obtain ⟨mA, hns, _⟩ := hx
  obtain ⟨od, ho, _⟩ := lookIn_ns hns
  refine ⟨od, ha, hz.1, ?_, ?_⟩
  · unfold PySem.W.notCls
    rw [hv]
  · rw [hz.2]
    exact ho
theorem call_isX {fI : Addr} {n : Str} (T : ErrC X.K D fI n) (hz : Zc cls d oe) (hf : ∃ vs, oe.data = .fields vs) : CallR (X.suite a ((a, oe) :: pn)) (.builtin "isinstance") (rIsX X.K D a cls d) := by
  intro pins s σ H xs us Q I r h
  obtain ⟨rfl, c, cv, b, dd, fs, rfl, hc, rfl, hdd, e, q⟩ := h
  obtain ⟨u1, u2, rfl, r1, r2⟩ := vals2 r
  cases (show u1 = Value.ref a from r1)
  obtain rfl := hc.eq r2
  obtain ⟨od, J⟩ := inst_at hz hf I hdd
  exact PySem.W.kia_one (PySem.W.kitx_exc T.cl T.xf.ga T.xf.gg T.xf.exC T.ha T.hn T.tk T.hm) I.kIn J e (fun z => nomatch z) fun tk => ⟨.bl b, H, I.tok tk, rfl, q⟩
theorem call_isXT {fI : Addr} {n : Str} (T : ErrC X.K D fI n) (hz : Zc cls d oe) (hf : ∃ vs, oe.data = .fields vs) : CallR (X.suite a ((a, oe) :: pn)) (.builtin "isinstance") (rIsXT X.K D a cls d) := by
  intro pins s σ H xs us Q I r h
  obtain ⟨rfl, tp, cs, ws, b, dd, fs, rfl, hT, hk, rfl, hdd, e, q⟩ := h
  obtain ⟨u1, u2, rfl, r1, r2⟩ := vals2 r
  cases (show u1 = Value.ref a from r1)
  cases (show u2 = Value.ref tp from r2)
  obtain ⟨od, J⟩ := inst_at hz hf I hdd
  obtain ⟨_, its, rv, o, h1, h2, n', h3⟩ := (show ObjOk X.prog X.w H s.heap tp (.tup cs) from I.hok tp _ hT)
  have e3 := ClsV.all hk rv
  subst e3
  obtain ⟨oc, od', dt, sl⟩ := o
  simp only at h2 h3
  subst h2 h3
  exact PySem.W.kia_tup (PySem.W.kitx_exc T.cl T.xf.ga T.xf.gg T.xf.exC T.ha T.hn T.tk T.hm) I.kIn J h1 e (fun z => nomatch z) fun tk => ⟨.bl b, H, I.tok tk, rfl, q⟩
end
abbrev sInv : Stmt := inClass (topS 2) 0
theorem scInv : FnScope ["self", "what"] ["self", "what"] (defScope sInv) := ⟨rfl, rfl, rfl, by decide +kernel, rfl, by decide +kernel, by decide +kernel⟩
section
variable {P : Program} {w : World} {K : PySem.W.Frag} {mg : Str → Option Value} {base : Heap}
theorem ok_inv {f : Addr} {fd : FuncData} {k : Nat} (F : Fun K "__init__" "Invalid.__init__" sInv f fd) : FnOk P w K mg base CX0 (k + 1) f fd ["self", "what"] (spErr K "what") := by
  refine F.ok scInv (fun vs H Q E h => ?_) (fun cdv A outer s H vs Q E hr h => ?_)
  · obtain ⟨a, C, v, rfl, _⟩ := h
    rfl
  · obtain ⟨a, C, v, rfl, ox, no, ha, q⟩ := h
    refine ⟨_, pss_one (ps_ost (pv 0) (pv 1)), ?_⟩
    exact ⟨v, rfl, .ref a, rfl, a, C, rfl, ox, no, .inl ⟨ha, fun dx nd da => q dx nd da⟩⟩
end
end Sh
namespace Sh
open PySem PySem.Spec PyProof.Rows L2
theorem cut_hi (xs : List V) (k : Nat) : cutV xs none (some (k : Int)) = xs.take k := by
  unfold cutV
  rw [HT.sIx_nat, HT.sIx_none, List.drop_zero, Nat.sub_zero]
  by_cases h : k ≤ xs.length
  · rw [Nat.min_eq_left h]
  · rw [Nat.min_eq_right (by omega), List.take_length, List.take_of_length_le (by omega)]
structure Blt (mg : Str → Option Value) : Prop where
  len : mg "len" = none
  int : mg "int" = none
  str : mg "str" = none
  bool : mg "bool" = none
  list : mg "list" = none
  range : mg "range" = none
  sum : mg "sum" = none
  abs : mg "abs" = none
  isi : mg "isinstance" = none
  ve : mg "ValueError" = none
abbrev sCell : Stmt := topS 13
abbrev sBox : Stmt := topS 14
abbrev sDraw : Stmt := topS 15
theorem scCell : FnScope ["script", "k"] ["script", "k"] (defScope sCell) := ⟨rfl, rfl, rfl, by decide +kernel, rfl, by decide +kernel, by decide +kernel⟩
theorem scBox : FnScope ["script", "k", "cell", "rest"] ["script", "k"] (defScope sBox) := ⟨rfl, rfl, rfl, by decide +kernel, rfl, by decide +kernel, by decide +kernel⟩
theorem scDraw : FnScope ["box", "size", "digit"] ["box", "size"] (defScope sDraw) := ⟨rfl, rfl, rfl, by decide +kernel, rfl, by decide +kernel, by decide +kernel⟩
abbrev MA : Int := 2147483629
abbrev MB : Int := 2147483549
def But (p : Addr) (H H' : Hp) : Prop := ∀ b o, H b = some o → b ≠ p → H' b = some o
theorem But.refl (p : Addr) (H : Hp) : But p H H := fun _ _ h _ => h
theorem But.trans {p : Addr} {H H1 H2 : Hp} (a : But p H H1) (b : But p H1 H2) : But p H H2 := fun c o h n => b c o (a c o h n) n
theorem But.upd {p : Addr} {H : Hp} {o : HO} : But p H (upd H p o) := fun b x e n => by rw [upd_ne n]; exact e
theorem Same.but {p : Addr} {H H' : Hp} (h : Same H H') : But p H H' := fun b o e _ => h b o e
/-- the box of the draws -/
def Box (H : Hp) (p : Addr) : Prop := ∃ (r a b c : Int), H p = some (.lst [.int r, .int a, .int b, .int c]) ∧ 0 ≤ r ∧ 0 ≤ a ∧ a < MA ∧ 0 ≤ b ∧ b < MB ∧ 0 ≤ c
theorem Box.same {H H' : Hp} {p : Addr} (B : Box H p) (h : Same H H') : Box H' p := by
  obtain ⟨r, a, b, c, hp, rest⟩ := B
  exact ⟨r, a, b, c, h _ _ hp, rest⟩
section
variable {P : Program} {w : World} {K : PySem.W.Frag} {mg : Str → Option Value} {base : Heap}
def spCell (K : PySem.W.Frag) : Sp := fun vs H Q _ => ∃ (a : Addr) (ns : List Int) (k : Nat), vs = [.ref a, .int (k : Int)] ∧ SqL K H a (ns.map V.int) ∧ k ≤ 10 ∧ ∀ (z : Int) (H' : Hp), Same H H' → Q (.int z) H'
theorem ok_cell {f : Addr} {fd : FuncData} {k : Nat} (F : Fun K "_law_cell" "_law_cell" sCell f fd) (B : Blt mg) : FnOk P w K mg base CX0 (k + 1) f fd ["script", "k"] (spCell K) := by
  refine F.ok scCell (fun vs H Q E h => ?_) (fun cdv A outer s H vs Q E hr h => ?_)
  · obtain ⟨a, ns, k, rfl, _⟩ := h
    rfl
  · obtain ⟨a, ns, k, rfl, hS, hk, q⟩ := h
    refine ⟨_, pss_cons (ps_if (pt_cmpR op_lt (pv 1) (pe_callB call_len_seq (by rfl) B.len PySem.boot_len (pa_cons (pv 0) pa_nil)) (nomark _)) (pss_one (ps_ret (pe_ix ix_list (pv 0) (pv 1) (fun _ _ => rfl)))) pss_nil)
      (pss_one (ps_ret (pe_op op_add (pe_op op_mod (pe_callB (cr_sum rfl) (by rfl) B.sum (by decide +kernel) (pa_cons (pe_slice sl_list (pv 0) po_none (po_some pe_int)) pa_nil)) pe_int) (pe_op op_mul pe_int (pe_op op_add (pv 1) pe_int))))), ?_⟩
    refine ⟨.int (k : Int), rfl, .ref a, rfl, a, _, rfl, .inl hS, k, _, rfl, rfl, _, rfl, ite2 (fun e => ?_) (fun e => ?_)⟩
    · have hl : k < ns.length := by
        have := of_decide_eq_true e
        rw [List.length_map] at this
        omega
      refine ⟨.ref a, rfl, .int (k : Int), rfl, a, _, k, .int ns[k], rfl, rfl, hS, atI_nat ?_, q _ H (Same.refl _)⟩
      rw [List.getElem?_map, List.getElem?_eq_getElem hl]
      rfl
    · refine ⟨.ref a, rfl, 2, rfl, a, _, rfl, hS, fun p np => ?_⟩
      refine ⟨p, ns.take 2, rfl, sqOf ?_, _, 1000003, rfl, rfl, (by show (0 : Int) < 1000003; decide), .int (k : Int), rfl, k, 1, rfl, rfl, 7919, _, rfl, rfl, .inl ⟨by decide, by decide⟩, _, _, rfl, rfl, q _ _ (same_upd np)⟩
      rw [upd_same, List.map_take]
      exact congrArg (fun l => some (HO.lst l)) (cut_hi _ 2)
def spBox (K : PySem.W.Frag) : Sp := fun vs H Q _ => ∃ (a : Addr) (ns : List Int) (k : Nat), vs = [.ref a, .int (k : Int)] ∧ SqL K H a (ns.map V.int) ∧ k ≤ 10 ∧ ∀ (p : Addr) (H' : Hp), H p = none → Box H' p → Same H H' → Q (.ref p) H'
theorem ok_box {f g : Addr} {fd gd : FuncData} (F : Fun K "_law_box" "_law_box" sBox f fd) (D : Dd K mg "_law_cell" sCell ["script", "k"] g gd) (B : Blt mg) : FnOk P w K mg base CX0 2 f fd ["script", "k"] (spBox K) := by
  have G : FnOk P w K mg base CX0 1 g gd ["script", "k"] (spCell K) := ok_cell D.F B
  refine F.ok scBox (fun vs H Q E h => ?_) (fun cdv A outer s H vs Q E hr h => ?_)
  · obtain ⟨a, ns, k, rfl, _⟩ := h
    rfl
  · obtain ⟨a, ns, k, rfl, hS, hk, q⟩ := h
    refine ⟨_, pss_cons (ps_set (i := 2) scBox.nd rfl (.inl rfl) (pe_callTy call_int1 (by rfl) B.int PyProof.Rows.boot_int (pa_cons (pe_call G hr (by rfl) D.g D.F.kp D.b .nil pass0 (pa_cons (pv 0) (pa_cons (pv 1) pa_nil))) pa_nil)))
      (pss_cons (ps_set (i := 3) scBox.nd rfl (.inl rfl) pe_int)
      (C8.pss_cut (ps_if (pt_cmpR op_ge (pv 2) (pe_op op_pow pe_int pe_int) (nomark _)) (pss_one (ps_set (i := 3) scBox.nd rfl (.inl rfl) (pv 2))) pss_nil)
      (pss_one (ps_ret (pe_lst (pa_cons (pv 3) (pa_cons (pe_op op_mod (pe_callTy call_int1 (by rfl) B.int PyProof.Rows.boot_int (pa_cons (pv 2) pa_nil)) pe_int) (pa_cons (pe_op op_mod (pe_callTy call_int1 (by rfl) B.int PyProof.Rows.boot_int (pa_cons (pe_op op_fdiv (pv 2) pe_int) pa_nil)) pe_int) (pa_cons pe_int pa_nil))))))))), ?_⟩
    refine ⟨.ref a, rfl, .int (k : Int), rfl, a, ns, k, rfl, hS, hk, fun z H1 S1 => .inl ⟨z, rfl, ?_⟩⟩
    refine ⟨fun σ' H' => ∃ r : Int, 0 ≤ r ∧ σ' = [some (.ref a), some (.int (k : Int)), some (.int z), some (.int r)] ∧ H' = H1, ?_, ?_⟩
    · refine ⟨.int z, rfl, 10, 18, rfl, rfl, ⟨by decide, by decide, by decide⟩, z, _, rfl, rfl, _, rfl, ite2 (fun e => ?_) (fun e => ?_)⟩
      · have h1 : (10 : Int) ^ (18 : Int).toNat ≤ z := of_decide_eq_true e
        have h0 : (0 : Int) ≤ (10 : Int) ^ (18 : Int).toNat := by decide
        exact ⟨.int z, rfl, z, by omega, rfl, rfl⟩
      · exact (⟨0, by decide, rfl, rfl⟩ : ∃ r : Int, 0 ≤ r ∧ ([some (.ref a), some (.int (k : Int)), some (.int z), some (.int 0)] : L2.St) = [some (.ref a), some (.int (k : Int)), some (.int z), some (.int r)] ∧ H1 = H1)
    · rintro σ' H' ⟨r, r0, rfl, rfl⟩
      refine ⟨.int r, rfl, .int z, rfl, .inl ⟨z, rfl, z, MA, rfl, rfl, (by show (0 : Int) < MA; decide), .int z, rfl, z, 7, rfl, rfl, ⟨by decide, by decide⟩, .inl ⟨_, rfl, _, MB, rfl, rfl, (by show (0 : Int) < MB; decide), by show 4 ≤ sizeLine; decide, fun p np => ?_⟩⟩⟩
      refine q p _ (S1.free np) ⟨r, _, _, 0, upd_same, r0, Int.emod_nonneg _ (by decide), Int.emod_lt_of_pos _ (by decide), Int.emod_nonneg _ (by decide), Int.emod_lt_of_pos _ (by decide), by decide⟩ (S1.trans (same_upd np))
def spDraw : Sp := fun vs H Q _ => ∃ (p : Addr) (n : Int), vs = [.ref p, .int n] ∧ Box H p ∧ n < 2 ^ 60 ∧ ∀ (z : Int) (H' : Hp), 0 ≤ z → (z < n ∨ z = 0) → Box H' p → But p H H' → Q (.int z) H'
theorem ok_draw {f : Addr} {fd : FuncData} {k : Nat} (F : Fun K "_law_draw" "_law_draw" sDraw f fd) (B : Blt mg) : FnOk P w K mg base CX0 (k + 1) f fd ["box", "size"] spDraw := by
  refine F.ok scDraw (fun vs H Q E h => ?_) (fun cdv A outer s H vs Q E hr h => ?_)
  · obtain ⟨p, n, rfl, _⟩ := h
    rfl
  · obtain ⟨p, n, rfl, hB, hn, q⟩ := h
    obtain ⟨r, a, b, c, hp, r0, a0, a1, b0, b1, c0⟩ := id hB
    refine ⟨_, pss_cons (ps_if (pt_cmpR op_lt (pv 1) pe_int (nomark _)) (pss_one (ps_ret pe_int)) pss_nil)
      (pss_cons (ps_if (pt_cmpR op_gt (pe_ix ix_list (pv 0) pe_int (fun _ _ => rfl)) pe_int (nomark _))
        (pss_cons (ps_set (i := 2) scDraw.nd rfl (.inl rfl) (pe_op op_mod (pe_callTy call_int1 (by rfl) B.int PyProof.Rows.boot_int (pa_cons (pe_ix ix_list (pv 0) pe_int (fun _ _ => rfl)) pa_nil)) (pv 1)))
        (pss_cons (ps_asg (pe_op op_fdivW (pe_ix ix_list (pv 0) pe_int (fun _ _ => rfl)) (pv 1)) (pg_sub (pv 0) pe_int set_list))
        (pss_one (ps_ret (pv 2))))) pss_nil)
      (pss_cons (ps_asg (pe_op op_add (pe_ix ix_list (pv 0) pe_int (fun _ _ => rfl)) pe_int) (pg_sub (pv 0) pe_int set_list))
      (pss_cons (ps_asg (pe_op op_mod (pe_callTy call_int1 (by rfl) B.int PyProof.Rows.boot_int (pa_cons (pe_op op_add (pe_op op_add (pe_op op_mul (pe_ix ix_list (pv 0) pe_int (fun _ _ => rfl)) pe_int) (pe_op op_mul (pe_ix ix_list (pv 0) pe_int (fun _ _ => rfl)) pe_int)) pe_int) pa_nil)) pe_int) (pg_sub (pv 0) pe_int set_list))
      (pss_cons (ps_asg (pe_op op_mod (pe_callTy call_int1 (by rfl) B.int PyProof.Rows.boot_int (pa_cons (pe_op op_add (pe_op op_add (pe_op op_mul (pe_ix ix_list (pv 0) pe_int (fun _ _ => rfl)) pe_int) (pe_op op_fdiv (pe_ix ix_list (pv 0) pe_int (fun _ _ => rfl)) pe_int)) (pe_ix ix_list (pv 0) pe_int (fun _ _ => rfl))) pa_nil)) pe_int) (pg_sub (pv 0) pe_int set_list))
      (pss_one (ps_ret (pe_op op_mod (pe_callTy call_int1 (by rfl) B.int PyProof.Rows.boot_int (pa_cons (pe_op op_add (pe_ix ix_list (pv 0) pe_int (fun _ _ => rfl)) (pe_ix ix_list (pv 0) pe_int (fun _ _ => rfl))) pa_nil)) (pv 1)))))))), ?_⟩
    refine ⟨.int n, rfl, n, 2, rfl, rfl, _, rfl, ite2 (fun e1 => ?_) (fun e1 => ?_)⟩
    · exact q 0 H (by decide) (.inr rfl) hB (But.refl _ _)
    have n2 : ¬ n < 2 := fun z => e1 (decide_eq_true z)
    have hn9 : n.natAbs < 2 ^ 61 := by omega
    refine ⟨.ref p, rfl, p, _, 0, .int r, rfl, rfl, sqOf hp, atI_nat (j := 0) rfl, r, 0, rfl, rfl, _, rfl, ite2 (fun e2 => ?_) (fun e2 => ?_)⟩
    · refine ⟨.ref p, rfl, p, _, 0, .int r, rfl, rfl, sqOf hp, atI_nat (j := 0) rfl, .inl ⟨_, rfl, .int n, rfl, _, _, rfl, rfl, (by show (0 : Int) < n; omega), ?_⟩⟩
      refine ⟨.ref p, rfl, p, _, 0, .int r, rfl, rfl, sqOf hp, atI_nat (j := 0) rfl, .int n, rfl, r, n, rfl, rfl, wide_div (by omega) hn9 (by decide) (by decide), .ref p, rfl, p, _, 0, 0, rfl, rfl, hp, rfl, ?_⟩
      exact ⟨_, rfl, q _ _ (Int.emod_nonneg _ (by omega)) (.inl (Int.emod_lt_of_pos _ (by omega))) ⟨r / n, a, b, c, upd_same, Int.ediv_nonneg r0 (by omega), a0, a1, b0, b1, c0⟩ But.upd⟩
    · have hp' : ∀ H xs, (upd H p (.lst xs)) p = some (.lst xs) := fun H xs => upd_same
      refine ⟨.ref p, rfl, p, _, 3, .int c, rfl, rfl, sqOf hp, atI_nat (j := 3) rfl, c, 1, rfl, rfl, .ref p, rfl, p, _, 3, 3, rfl, rfl, hp, rfl, ?_⟩
      refine ⟨.ref p, rfl, p, _, 1, .int a, rfl, rfl, sqOf (hp' _ _), atI_nat (j := 1) rfl, a, 48271, rfl, rfl, .inr ⟨by decide, by decide⟩, .ref p, rfl, p, _, 3, .int (c + 1), rfl, rfl, sqOf (hp' _ _), atI_nat (j := 3) rfl, c + 1, 7919, rfl, rfl, .inr ⟨by decide, by decide⟩, _, _, rfl, rfl, _, _, rfl, rfl, .inl ⟨_, rfl, _, MA, rfl, rfl, (by show (0 : Int) < MA; decide), .ref p, rfl, p, _, 1, 1, rfl, rfl, hp' _ _, rfl, ?_⟩⟩
      refine ⟨.ref p, rfl, p, _, 2, .int b, rfl, rfl, sqOf (hp' _ _), atI_nat (j := 2) rfl, b, 40692, rfl, rfl, .inr ⟨by decide, by decide⟩, .ref p, rfl, p, _, 1, _, rfl, rfl, sqOf (hp' _ _), atI_nat (j := 1) rfl, _, 5, rfl, rfl, ⟨by decide, by decide⟩, _, _, rfl, rfl, .ref p, rfl, p, _, 3, .int (c + 1), rfl, rfl, sqOf (hp' _ _), atI_nat (j := 3) rfl, _, _, rfl, rfl, .inl ⟨_, rfl, _, MB, rfl, rfl, (by show (0 : Int) < MB; decide), .ref p, rfl, p, _, 2, 2, rfl, rfl, hp' _ _, rfl, ?_⟩⟩
      refine ⟨.ref p, rfl, p, _, 1, _, rfl, rfl, sqOf (hp' _ _), atI_nat (j := 1) rfl, .ref p, rfl, p, _, 2, _, rfl, rfl, sqOf (hp' _ _), atI_nat (j := 2) rfl, _, _, rfl, rfl, .inl ⟨_, rfl, .int n, rfl, _, _, rfl, rfl, (by show (0 : Int) < n; omega), ?_⟩⟩
      exact q _ _ (Int.emod_nonneg _ (by omega)) (.inl (Int.emod_lt_of_pos _ (by omega))) ⟨r, _, _, c + 1, upd_same, r0, Int.emod_nonneg _ (by decide), Int.emod_lt_of_pos _ (by decide), Int.emod_nonneg _ (by decide), Int.emod_lt_of_pos _ (by decide), by omega⟩ ((But.upd.trans But.upd).trans But.upd)
end
end Sh
namespace Sh
open PySem PySem.Spec PyProof.Rows L2
abbrev sWeights : Stmt := topS 16
abbrev sTotal : Stmt := topS 17
abbrev sIsInt : Stmt := topS 18
abbrev sBefore : Stmt := topS 19
theorem scWeights : FnScope ["box", "size", "way", "same", "at", "heavy", "k"] ["box"] (defScope sWeights) := ⟨rfl, rfl, rfl, by decide +kernel, rfl, by decide +kernel, by decide +kernel⟩
theorem scTotal : FnScope ["box", "whole", "way"] ["box", "whole"] (defScope sTotal) := ⟨rfl, rfl, rfl, by decide +kernel, rfl, by decide +kernel, by decide +kernel⟩
theorem scIsInt : FnScope ["told"] ["told"] (defScope sIsInt) := ⟨rfl, rfl, rfl, by decide +kernel, rfl, by decide +kernel, by decide +kernel⟩
theorem scBefore : FnScope ["total", "weights", "whole", "one", "other", "first", "second"] ["total", "weights", "whole", "one", "other"] (defScope sBefore) := ⟨rfl, rfl, rfl, by decide +kernel, rfl, by decide +kernel, by decide +kernel⟩
/-- weights as they are drawn -/
def WOk (ws : List Int) : Prop := ∀ x ∈ ws, 0 ≤ x ∧ x < 10 ^ 12
theorem Box.put {H : Hp} {p D : Addr} {o : HO} (B : Box H p) (h : D ≠ p) : Box (upd H D o) p := by
  obtain ⟨r, a, b, c, hp, rest⟩ := B
  exact ⟨r, a, b, c, by rw [upd_ne h.symm]; exact hp, rest⟩
theorem Box.off {H : Hp} {p D : Addr} (B : Box H p) (h : H D = none) : D ≠ p := by
  obtain ⟨r, a, b, c, hp, rest⟩ := B
  exact (ne_of_none hp h).symm
/-- [e for k in range(n)], e an int that is drawn -/
theorem comp_ints {H : Hp} {p : Addr} {n : Nat} {σ : L2.St} {i : Nat} {te : TE} {Qd : Addr → Hp → Prop} (hB : Box H p) (hn : n ≤ 100)
    (hte : ∀ (k : Nat) (H1 : Hp) (Q : VK), Box H1 p → But p H H1 → (∀ (z : Int) (H2 : Hp), 0 ≤ z → z < 10 ^ 12 → Box H2 p → But p H1 H2 → Q (.int z) H2) → te ((wipe σ [i]).set i (some (.int (0 + (k : Int))))) H1 Q)
    (q : ∀ (D : Addr) (ws : List Int) (H' : Hp), H D = none → H' D = some (.lst (ws.map V.int)) → ws.length = n → WOk ws → Box H' p → But p H H' → Qd D H') :
    ∀ D : Addr, H D = none → ∃ W : Nat → Nat → Hp → Prop, (∃ m, W 0 m (upd H D (.lst []))) ∧ ∀ j m H', W j m H' →
      ((Itr 0 n).stop j H' ∧ Qd D H') ∨ ((Itr 0 n).go j H' ∧ ∃ Nx : Hp → Prop, (∀ H', Nx H' → ∃ m', m' < m ∧ W (j + 1) m' H') ∧ ∀ x H'', (Itr 0 n).yld j H' x H'' → gName i x (wipe σ [i]) H'' fun σ2 H2 => wipe σ2 [i] = wipe σ [i] ∧ tYes σ2 H2 fun b H3 =>
        if b = true then te σ2 H3 fun y H4 => ∃ acc, H4 D = some (.lst acc) ∧ acc.length < sizeLine ∧ Nx (upd H4 D (.lst (acc ++ [y]))) else Nx H3) := by
  intro D nD
  have Dp := hB.off nD
  refine lc_range (lo := 0) (n := n) (g := gName i) (tt := tYes) (te := te) (vs := [i]) (σ := σ) (Qd := Qd D) (fun j H' => Box H' p ∧ But p H H' ∧ ∃ ws : List Int, ws.length = j ∧ WOk ws ∧ H' D = some (.lst (ws.map V.int))) ?_ ?_ ?_
  · exact ⟨hB.put Dp, Same.but (same_upd nD), [], rfl, fun x hx => (by cases hx), upd_same⟩
  · rintro j H1 hj ⟨B1, b1, ws, hl, ho, hD⟩
    refine ⟨?_, ?_⟩
    · show ((σ.set i none).set i _).set i none = σ.set i none
      rw [List.set_set, List.set_set]
    show te ((wipe σ [i]).set i (some (.int (0 + (j : Int))))) H1 _
    refine hte j H1 _ B1 b1 fun z H2 z0 z1 B2 b2 => ?_
    have hD2 := b2 _ _ hD Dp
    refine ⟨_, hD2, by rw [List.length_map]; exact small1000 (by omega), B2.put Dp, fun b o hb hbp => ?_, ws ++ [z], by rw [List.length_append, hl]; rfl, ?_, ?_⟩
    · rw [upd_ne (ne_of_none hb nD)]
      exact b2 _ _ (b1 _ _ hb hbp) hbp
    · intro x hx
      rcases List.mem_append.mp hx with hx | hx
      · exact ho x hx
      · rw [List.mem_singleton.mp hx]
        exact ⟨z0, z1⟩
    · rw [upd_same, List.map_append]
      rfl
  · rintro H1 ⟨B1, b1, ws, hl, ho, hD⟩
    exact q D ws H1 nD hD hl ho B1 b1
section
variable {P : Program} {w : World} {K : PySem.W.Frag} {mg : Str → Option Value} {base : Heap}
def spWeights : Sp := fun vs H Q _ => ∃ (p : Addr), vs = [.ref p] ∧ Box H p ∧ ∀ (l : Addr) (ws : List Int) (H' : Hp), H' l = some (.lst (ws.map V.int)) → l ≠ p → ws.length ≤ 60 → WOk ws → Box H' p → But p H H' → Q (.ref l) H'
theorem ok_weights {f g : Addr} {fd gd : FuncData} (F : Fun K "_law_weights" "_law_weights" sWeights f fd) (D : Dd K mg "_law_draw" sDraw ["box", "size"] g gd) (B : Blt mg) : FnOk P w K mg base CX0 2 f fd ["box"] spWeights := by
  have G : FnOk P w K mg base CX0 1 g gd ["box", "size"] spDraw := ok_draw D.F B
  refine F.ok scWeights (fun vs H Q E h => ?_) (fun cdv A outer s H vs Q E hr h => ?_)
  · obtain ⟨p, rfl, _⟩ := h
    rfl
  · obtain ⟨p, rfl, hB, q⟩ := h
    refine ⟨_, pss_cons (ps_set (i := 1) scWeights.nd rfl (.inl rfl) (pe_call G hr (by rfl) D.g D.F.kp D.b .nil pass0 (pa_cons (pv 0) (pa_cons pe_int pa_nil))))
      (C8.pss_cut (ps_if (pt_cmpR op_eq (pe_call G hr (by rfl) D.g D.F.kp D.b .nil pass0 (pa_cons (pv 0) (pa_cons pe_int pa_nil))) pe_int (nomark _)) (pss_one (ps_set (i := 1) scWeights.nd rfl (.inl rfl) (pe_op op_add pe_int (pe_call G hr (by rfl) D.g D.F.kp D.b .nil pass0 (pa_cons (pv 0) (pa_cons pe_int pa_nil)))))) pss_nil)
      (pss_cons (ps_set (i := 2) scWeights.nd rfl (.inl rfl) (pe_call G hr (by rfl) D.g D.F.kp D.b .nil pass0 (pa_cons (pv 0) (pa_cons pe_int pa_nil))))
      (pss_cons (ps_if (pt_cmpR op_lt (pv 2) pe_int (nomark _)) (pss_one (ps_ret (pe_lc (own := [("k", 6)]) (g := gName 6) (by rfl) scWeights.nd (pi_range1 (by rfl) B.range (pa_cons (pv 1) pa_nil)) (blkOk_by (N := ["box", "size", "way", "same", "at", "heavy", "k"]) (sc := defScope sWeights) (by decide +kernel)) (fun _ _ _ _ _ => pg_name (i := 6) scWeights.nd rfl (Or.inl rfl)) (fun _ _ _ _ _ => pts_nil) (fun _ _ _ _ _ => pe_call G hr (by rfl) D.g D.F.kp D.b .nil pass0 (pa_cons (pv 0) (pa_cons pe_int pa_nil)))))) pss_nil)
      (pss_cons (ps_if (pt_cmpR op_eq (pv 2) pe_int (nomark _)) (pss_one (ps_ret (pe_lc (own := [("k", 6)]) (g := gName 6) (by rfl) scWeights.nd (pi_range1 (by rfl) B.range (pa_cons (pv 1) pa_nil)) (blkOk_by (N := ["box", "size", "way", "same", "at", "heavy", "k"]) (sc := defScope sWeights) (by decide +kernel)) (fun _ _ _ _ _ => pg_name (i := 6) scWeights.nd rfl (Or.inl rfl)) (fun _ _ _ _ _ => pts_nil) (fun _ _ _ _ _ => pe_call G hr (by rfl) D.g D.F.kp D.b .nil pass0 (pa_cons (pv 0) (pa_cons (pe_op op_pow pe_int pe_int) pa_nil)))))) pss_nil)
      (pss_cons (ps_if (pt_cmpR op_eq (pv 2) pe_int (nomark _)) (pss_cons (ps_set (i := 3) scWeights.nd rfl (.inr rfl) (pe_call G hr (by rfl) D.g D.F.kp D.b .nil pass0 (pa_cons (pv 0) (pa_cons (pe_op op_pow pe_int pe_int) pa_nil)))) (pss_one (ps_ret (pe_lc (own := [("k", 6)]) (g := gName 6) (by rfl) scWeights.nd (pi_range1 (by rfl) B.range (pa_cons (pv 1) pa_nil)) (blkOk_by (N := ["box", "size", "way", "same", "at", "heavy", "k"]) (sc := defScope sWeights) (by decide +kernel)) (fun _ _ _ _ _ => pg_name (i := 6) scWeights.nd rfl (Or.inl rfl)) (fun _ _ _ _ _ => pts_nil) (fun _ _ _ _ _ => pv 3))))) pss_nil)
      (pss_cons (ps_set (i := 4) scWeights.nd rfl (.inr rfl) (pe_call G hr (by rfl) D.g D.F.kp D.b .nil pass0 (pa_cons (pv 0) (pa_cons (pv 1) pa_nil))))
      (pss_cons (ps_set (i := 5) scWeights.nd rfl (.inr rfl) (pe_call G hr (by rfl) D.g D.F.kp D.b .nil pass0 (pa_cons (pv 0) (pa_cons (pe_op op_pow pe_int pe_int) pa_nil))))
      (pss_one (ps_ret (pe_lc (own := [("k", 6)]) (g := gName 6) (by rfl) scWeights.nd (pi_range1 (by rfl) B.range (pa_cons (pv 1) pa_nil)) (blkOk_by (N := ["box", "size", "way", "same", "at", "heavy", "k"]) (sc := defScope sWeights) (by decide +kernel)) (fun _ _ _ _ _ => pg_name (i := 6) scWeights.nd rfl (Or.inl rfl)) (fun _ _ _ _ _ => pts_nil) (fun _ _ _ _ _ => pe_op op_mul (pv 5) (pe_callTy call_int1 (by rfl) B.int PyProof.Rows.boot_int (pa_cons (pe_cmpR op_eq (pv 6) (pv 4) (nomark _)) pa_nil))))))))))))), ?_⟩
    refine ⟨.ref p, rfl, p, 8, rfl, hB, by decide, fun z H1 z0 z1 B1 b1 => ?_⟩
    refine ⟨fun σ' H' => ∃ n : Nat, n ≤ 60 ∧ σ' = [some (.ref p), some (.int (n : Int)), none, none, none, none, none] ∧ Box H' p ∧ But p H H', ?_, ?_⟩
    · refine ⟨.ref p, rfl, p, 8, rfl, B1, by decide, fun y H2 y0 y1 B2 b2 => ⟨rfl, _, rfl, ite2 (fun _ => ?_) (fun _ => ?_)⟩⟩
      · refine ⟨.ref p, rfl, p, 41, rfl, B2, by decide, fun x H3 x0 x1 B3 b3 => ⟨20, x, rfl, rfl, ?_⟩⟩
        refine ⟨(20 + x).toNat, by omega, ?_, B3, (b1.trans b2).trans b3⟩
        show [some (V.ref p), some (V.int (20 + x)), none, none, none, none, none] = [some (V.ref p), some (V.int ((20 + x).toNat : Int)), none, none, none, none, none]
        rw [show ((20 + x).toNat : Int) = 20 + x by omega]
      · have hz : ((z.toNat : Nat) : Int) = z := by omega
        exact (⟨z.toNat, by omega, by rw [hz], B2, b1.trans b2⟩ : ∃ n : Nat, n ≤ 60 ∧ ([some (V.ref p), some (V.int z), none, none, none, none, none] : L2.St) = [some (V.ref p), some (V.int (n : Int)), none, none, none, none, none] ∧ Box H2 p ∧ But p H H2)
    rintro σ' H2 ⟨n, hn, rfl, B2, b2⟩
    have fin : ∀ (H1 : Hp), But p H H1 → ∀ (D : Addr) (ws : List Int) (H' : Hp), Box H1 p → H1 D = none → H' D = some (.lst (ws.map V.int)) → ws.length = ((n : Int)).toNat → WOk ws → Box H' p → But p H1 H' → Q (.ref D) H' := fun H1 b1 D ws H' B1 nD hD hl ho B' b' => q D ws H' hD (B1.off nD) (by omega) ho B' (b1.trans b')
    refine ⟨.ref p, rfl, p, 5, rfl, B2, by decide, fun y H3 y0 y1 B3 b3 => ?_⟩
    have b23 := b2.trans b3
    have e12 : (10 : Int) ^ (12 : Int).toNat = 1000000000000 := by decide
    refine ⟨.int y, rfl, y, 2, rfl, rfl, _, rfl, ite2 (fun _ => ?_) (fun _ => ?_)⟩
    · refine ⟨.int (n : Int), rfl, n, rfl, by omega, by omega, ?_⟩
      exact comp_ints (σ := [some (.ref p), some (.int (n : Int)), some (.int y), none, none, none, none]) (i := 6) B3 (by omega) (fun k H4 Q4 B4 b4 q4 => ⟨.ref p, rfl, p, 4, rfl, B4, by decide, fun z H5 z0 z1 B5 b5 => q4 z H5 z0 (by omega) B5 b5⟩) (fun D ws H' nD hD hl ho B' b' => fin H3 b23 D ws H' B3 nD hD hl ho B' b')
    refine ⟨.int y, rfl, rfl, _, rfl, ite2 (fun _ => ?_) (fun _ => ?_)⟩
    · refine ⟨.int (n : Int), rfl, n, rfl, by omega, by omega, ?_⟩
      exact comp_ints (σ := [some (.ref p), some (.int (n : Int)), some (.int y), none, none, none, none]) (i := 6) B3 (by omega) (fun k H4 Q4 B4 b4 q4 => ⟨.ref p, rfl, 10, 12, rfl, rfl, ⟨by decide, by decide, by decide⟩, p, _, rfl, B4, by decide, fun z H5 z0 z1 B5 b5 => q4 z H5 z0 (by rw [e12] at z1; omega) B5 b5⟩) (fun D ws H' nD hD hl ho B' b' => fin H3 b23 D ws H' B3 nD hD hl ho B' b')
    refine ⟨.int y, rfl, rfl, _, rfl, ite2 (fun _ => ?_) (fun _ => ?_)⟩
    · refine ⟨.ref p, rfl, 10, 9, rfl, rfl, ⟨by decide, by decide, by decide⟩, p, _, rfl, B3, by decide, fun x H4 x0 x1 B4 b4 => ?_⟩
      have x2 : x < 10 ^ 12 := by
        have e : (10 : Int) ^ (9 : Int).toNat = 1000000000 := by decide
        rw [e] at x1
        omega
      refine ⟨.int (n : Int), rfl, n, rfl, by omega, by omega, ?_⟩
      exact comp_ints (σ := [some (.ref p), some (.int (n : Int)), some (.int y), some (.int x), none, none, none]) (i := 6) B4 (by omega) (fun k H5 Q5 B5 b5 q5 => ⟨.int x, rfl, q5 x H5 x0 x2 B5 (But.refl _ _)⟩) (fun D ws H' nD hD hl ho B' b' => fin H4 (b23.trans b4) D ws H' B4 nD hD hl ho B' b')
    · refine ⟨.ref p, rfl, .int (n : Int), rfl, p, _, rfl, B3, by omega, fun x H4 x0 x1 B4 b4 => ?_⟩
      refine ⟨.ref p, rfl, 10, 6, rfl, rfl, ⟨by decide, by decide, by decide⟩, p, _, rfl, B4, by decide, fun v H5 v0 v1 B5 b5 => ?_⟩
      have v2 : v < 10 ^ 12 := by
        have e : (10 : Int) ^ (6 : Int).toNat = 1000000 := by decide
        rw [e] at v1
        omega
      refine ⟨.int (n : Int), rfl, n, rfl, by omega, by omega, ?_⟩
      refine comp_ints (σ := [some (.ref p), some (.int (n : Int)), some (.int y), none, some (.int x), some (.int v), none]) (i := 6) B5 (by omega) (fun k H6 Q6 B6 b6 q6 => ⟨.int v, rfl, .int (0 + (k : Int)), rfl, .int x, rfl, rfl, .inr ⟨_, rfl, v, _, rfl, rfl, .inl ⟨by omega, by omega⟩, ?_⟩⟩) (fun D ws H' nD hD hl ho B' b' => fin H5 ((b23.trans b4).trans b5) D ws H' B5 nD hD hl ho B' b')
      by_cases hk : V.int (0 + (k : Int)) = V.int x
      · rw [decide_eq_true hk]
        exact q6 _ _ (by show 0 ≤ v * 1; omega) (by show v * 1 < _; omega) B6 (But.refl _ _)
      · rw [decide_eq_false hk]
        exact q6 _ _ (by show 0 ≤ v * 0; omega) (by show v * 0 < _; omega) B6 (But.refl _ _)
end
end Sh
namespace Sh
open PySem PySem.Spec PyProof.Rows L2
section
variable {P : Program} {w : World} {K : PySem.W.Frag} {mg : Str → Option Value} {base : Heap}
def spTotal : Sp := fun vs H Q _ => ∃ (p : Addr) (u : Int), vs = [.ref p, .int u] ∧ Box H p ∧ 0 ≤ u ∧ u ≤ 10 ^ 14 ∧ ∀ (z : Int) (H' : Hp), 0 ≤ z → z < 2 ^ 60 → Box H' p → But p H H' → Q (.int z) H'
theorem ok_total {f g : Addr} {fd gd : FuncData} (F : Fun K "_law_total" "_law_total" sTotal f fd) (D : Dd K mg "_law_draw" sDraw ["box", "size"] g gd) (B : Blt mg) : FnOk P w K mg base CX0 2 f fd ["box", "whole"] spTotal := by
  have G : FnOk P w K mg base CX0 1 g gd ["box", "size"] spDraw := ok_draw D.F B
  refine F.ok scTotal (fun vs H Q E h => ?_) (fun cdv A outer s H vs Q E hr h => ?_)
  · obtain ⟨p, u, rfl, _⟩ := h
    rfl
  · obtain ⟨p, u, rfl, hB, u0, u1, q⟩ := h
    refine ⟨_, pss_cons (ps_set (i := 2) scTotal.nd rfl (.inl rfl) (pe_call G hr (by rfl) D.g D.F.kp D.b .nil pass0 (pa_cons (pv 0) (pa_cons pe_int pa_nil))))
      (pss_cons (ps_if (pt_cmpR op_eq (pv 2) pe_int (nomark _)) (pss_one (ps_ret (pe_call G hr (by rfl) D.g D.F.kp D.b .nil pass0 (pa_cons (pv 0) (pa_cons pe_int pa_nil))))) pss_nil)
      (pss_cons (ps_if (pt_cmpR op_eq (pv 2) pe_int (nomark _)) (pss_one (ps_ret (pe_call G hr (by rfl) D.g D.F.kp D.b .nil pass0 (pa_cons (pv 0) (pa_cons pe_int pa_nil))))) pss_nil)
      (pss_cons (ps_if (pt_cmpR op_eq (pv 2) pe_int (nomark _)) (pss_one (ps_ret (pe_call G hr (by rfl) D.g D.F.kp D.b .nil pass0 (pa_cons (pv 0) (pa_cons (pe_op op_pow pe_int pe_int) pa_nil))))) pss_nil)
      (pss_one (ps_ret (pe_op op_add (pe_op op_mul (pv 1) (pe_call G hr (by rfl) D.g D.F.kp D.b .nil pass0 (pa_cons (pv 0) (pa_cons pe_int pa_nil)))) (pe_call G hr (by rfl) D.g D.F.kp D.b .nil pass0 (pa_cons (pv 0) (pa_cons pe_int pa_nil))))))))), ?_⟩
    refine ⟨.ref p, rfl, p, 4, rfl, hB, by decide, fun y H1 y0 y1 B1 b1 => ?_⟩
    refine ⟨.int y, rfl, rfl, _, rfl, ite2 (fun _ => ?_) (fun _ => ?_)⟩
    · exact ⟨.ref p, rfl, p, 4, rfl, B1, by decide, fun z H2 z0 z1 B2 b2 => q z H2 z0 (by omega) B2 (b1.trans b2)⟩
    refine ⟨.int y, rfl, rfl, _, rfl, ite2 (fun _ => ?_) (fun _ => ?_)⟩
    · exact ⟨.ref p, rfl, p, 100, rfl, B1, by decide, fun z H2 z0 z1 B2 b2 => q z H2 z0 (by omega) B2 (b1.trans b2)⟩
    refine ⟨.int y, rfl, rfl, _, rfl, ite2 (fun _ => ?_) (fun _ => ?_)⟩
    · refine ⟨.ref p, rfl, 10, 15, rfl, rfl, ⟨by decide, by decide, by decide⟩, p, _, rfl, B1, by decide, fun z H2 z0 z1 B2 b2 => ?_⟩
      have e : (10 : Int) ^ (15 : Int).toNat = 1000000000000000 := by decide
      rw [e] at z1
      exact q z H2 z0 (by omega) B2 (b1.trans b2)
    · refine ⟨.int u, rfl, .ref p, rfl, p, 5, rfl, B1, by decide, fun x H2 x0 x1 B2 b2 => ⟨u, x, rfl, rfl, .inl ⟨by omega, by omega⟩, .ref p, rfl, p, 3, rfl, B2, by decide, fun z H3 z0 z1 B3 b3 => ⟨_, z, rfl, rfl, ?_⟩⟩⟩
      have h1 : 0 ≤ u * x := Int.mul_nonneg u0 x0
      have h2 : u * x ≤ 10 ^ 14 * 5 := Int.mul_le_mul u1 (by omega) x0 (by decide)
      exact q _ H3 (by omega) (by omega) B3 ((b1.trans b2).trans b3)
theorem ok_isInt {f : Addr} {fd : FuncData} {k : Nat} (F : Fun K "_law_is_integer" "_law_is_integer" sIsInt f fd) (B : Blt mg) : FnOk P w K mg base CX0 (k + 1) f fd ["told"] (fun vs H Q _ => ∃ z : Int, vs = [.int z] ∧ Q (.bl true) H) := by
  refine F.ok scIsInt (fun vs H Q E h => ?_) (fun cdv A outer s H vs Q E hr h => ?_)
  · obtain ⟨z, rfl, _⟩ := h
    rfl
  · obtain ⟨z, rfl, q⟩ := h
    refine ⟨_, pss_one (ps_ret (pe_and (pe_callB call_isi (by rfl) B.isi (by decide +kernel) (pa_cons (pv 0) (pa_cons (pe_bltn (by rfl) B.int PyProof.Rows.boot_int (v := .ty "int") rfl) pa_nil))) (pe_one (pe_not (pe_callB call_isi (by rfl) B.isi (by decide +kernel) (pa_cons (pv 0) (pa_cons (pe_bltn (by rfl) B.bool (by decide +kernel) (v := .ty "bool") (u := .type "bool") rfl) pa_nil))))))), ?_⟩
    refine ⟨.int z, rfl, .int z, .ty "int", .type "int", .type "int", true, rfl, .ty _, .base (.int _), kit_ty (by decide +kernel), true, rfl, ?_⟩
    exact ⟨.int z, rfl, .int z, .ty "bool", .type "int", .type "bool", false, rfl, .ty _, .base (.int _), kit_ty (by decide +kernel), false, rfl, q⟩
def bef (t W : Int) (ws : List Int) (i j : Nat) : Bool := decide (t * ws.getD j 0 % W < t * ws.getD i 0 % W) || (decide (t * ws.getD i 0 % W = t * ws.getD j 0 % W) && decide ((i : Int) < (j : Int)))
theorem getD_at {l : List Int} {i : Nat} (h : i < l.length) : l.getD i 0 = l[i] := by
  rw [List.getD_eq_getElem?_getD, List.getElem?_eq_getElem h]
  rfl
theorem ints_at {ws : List Int} {i : Nat} (h : i < ws.length) : (ws.map V.int)[i]? = some (.int (ws.getD i 0)) := by
  rw [List.getElem?_map, List.getElem?_eq_getElem h, getD_at h]
  rfl
theorem ok_before {f : Addr} {fd : FuncData} {k : Nat} (F : Fun K "_law_before" "_law_before" sBefore f fd) (B : Blt mg) : FnOk P w K mg base CX0 (k + 1) f fd ["total", "weights", "whole", "one", "other"]
    (fun vs H Q _ => ∃ (t W : Int) (a : Addr) (ws : List Int) (i j : Nat), vs = [.int t, .ref a, .int W, .int (i : Int), .int (j : Int)] ∧ SqL K H a (ws.map V.int) ∧ i < ws.length ∧ j < ws.length ∧ 0 < W ∧ (∀ x ∈ ws, 0 ≤ x ∧ x < 2 ^ 60) ∧ Q (.bl (bef t W ws i j)) H) := by
  refine F.ok scBefore (fun vs H Q E h => ?_) (fun cdv A outer s H vs Q E hr h => ?_)
  · obtain ⟨t, W, a, ws, i, j, rfl, _⟩ := h
    rfl
  · obtain ⟨t, W, a, ws, i, j, rfl, hS, hi, hj, hW, hb, q⟩ := h
    have bd : ∀ {i : Nat}, i < ws.length → -(2 ^ 64) < ws.getD i 0 ∧ ws.getD i 0 < 2 ^ 64 := fun {i} h => by
      have := hb (ws.getD i 0) (by rw [getD_at h]; exact List.getElem_mem h)
      omega
    refine ⟨_, pss_cons (ps_set (i := 5) scBefore.nd rfl (.inl rfl) (pe_op op_mod (pe_callTy call_int1 (by rfl) B.int PyProof.Rows.boot_int (pa_cons (pe_op op_mul (pv 0) (pe_ix ix_list (pv 1) (pv 3) (fun _ _ => rfl))) pa_nil)) (pv 2)))
      (pss_cons (ps_set (i := 6) scBefore.nd rfl (.inl rfl) (pe_op op_mod (pe_callTy call_int1 (by rfl) B.int PyProof.Rows.boot_int (pa_cons (pe_op op_mul (pv 0) (pe_ix ix_list (pv 1) (pv 4) (fun _ _ => rfl))) pa_nil)) (pv 2)))
      (pss_one (ps_ret (pe_or (pe_cmpR op_gt (pv 5) (pv 6) (nomark _)) (pe_one (pe_and (pe_cmpR op_eq (pv 5) (pv 6) (nomark _)) (pe_one (pe_cmpR op_lt (pv 3) (pv 4) (nomark _))))))))), ?_⟩
    refine ⟨.int t, rfl, .ref a, rfl, .int (i : Int), rfl, a, _, i, .int (ws.getD i 0), rfl, rfl, hS, atI_nat (ints_at hi), t, _, rfl, rfl, .inr (bd hi), .inl ⟨_, rfl, .int W, rfl, _, W, rfl, rfl, hW, ?_⟩⟩
    refine ⟨.int t, rfl, .ref a, rfl, .int (j : Int), rfl, a, _, j, .int (ws.getD j 0), rfl, rfl, hS, atI_nat (ints_at hj), t, _, rfl, rfl, .inr (bd hj), .inl ⟨_, rfl, .int W, rfl, _, W, rfl, rfl, hW, ?_⟩⟩
    unfold bef at q
    refine ⟨_, rfl, _, rfl, _, _, rfl, rfl, _, rfl, ite2 (fun e => ?_) (fun e => ?_)⟩
    · rw [show decide (t * ws.getD j 0 % W < t * ws.getD i 0 % W) = true from e, Bool.true_or] at q
      exact q
    · rw [show decide (t * ws.getD j 0 % W < t * ws.getD i 0 % W) = false from Bool.eq_false_iff.mpr e, Bool.false_or] at q
      have eV : decide (V.int (t * ws.getD i 0 % W) = V.int (t * ws.getD j 0 % W)) = decide (t * ws.getD i 0 % W = t * ws.getD j 0 % W) := by
        by_cases c : t * ws.getD i 0 % W = t * ws.getD j 0 % W
        · rw [decide_eq_true c, c, decide_eq_true rfl]
        · rw [decide_eq_false c, decide_eq_false fun z => c (V.int.inj z)]
      refine ⟨_, rfl, _, rfl, rfl, _, rfl, ?_⟩
      rw [eV]
      refine ite2 (fun e2 => ?_) (fun e2 => ?_)
      · rw [e2, Bool.true_and] at q
        exact ⟨_, rfl, _, rfl, i, j, rfl, rfl, q⟩
      · rw [Bool.eq_false_iff.mpr e2, Bool.false_and] at q
        exact q
end
end Sh
namespace Sh
open PySem PySem.Spec PyProof.Rows L2
abbrev sFair : Stmt := topS 20
theorem scFair : FnScope ["total", "weights", "told", "cents", "whole", "k", "more", "lifted", "floored", "one", "other"] ["total", "weights", "told"] (defScope sFair) := ⟨rfl, rfl, rfl, by decide +kernel, rfl, by decide +kernel, by decide +kernel⟩
/-- what is due of the shares -/
structure Fair (t : Int) (ws ts : List Int) : Prop where
  len : ts.length = ws.length
  zero : ws.sum = 0 → ts = (List.range ws.length).map fun k => if k = 0 then t else 0
  sum : ws.sum ≠ 0 → ts.sum = t
  near : ws.sum ≠ 0 → ∀ k, k < ws.length → ts.getD k 0 - t * ws.getD k 0 / ws.sum = 0 ∨ ts.getD k 0 - t * ws.getD k 0 / ws.sum = 1
  dist : ws.sum ≠ 0 → ∀ k, k < ws.length → -ws.sum < ts.getD k 0 * ws.sum - t * ws.getD k 0 ∧ ts.getD k 0 * ws.sum - t * ws.getD k 0 < ws.sum
  ord : ws.sum ≠ 0 → ∀ i j, i < ws.length → j < ws.length → t * ws.getD i 0 / ws.sum < ts.getD i 0 → ts.getD j 0 = t * ws.getD j 0 / ws.sum → bef t ws.sum ws i j = true
def WNn (ws : List Int) : Prop := ∀ x ∈ ws, 0 ≤ x ∧ x < 2 ^ 60
theorem sum_nn : ∀ {ws : List Int}, WNn ws → 0 ≤ ws.sum
  | [], _ => Int.le_refl _
  | x :: r, h => by
    rw [List.sum_cons]
    have h1 := (h x (List.mem_cons_self ..)).1
    have h2 := sum_nn fun y hy => h y (List.mem_cons_of_mem _ hy)
    omega
/-- [k for k in range(n) if p(k)]: the reading's end -/
theorem comp_filter {H : Hp} {n i : Nat} {σ : L2.St} {tt : TT} {Qd : Addr → Hp → Prop} (p : Nat → Bool) (hn : n ≤ 1000) (hi : i < σ.length)
    (ht : ∀ (k : Nat) (H1 : Hp) (R : Bool → Hp → Prop), k < n → Same H H1 → R (p k) H1 → tt ((wipe σ [i]).set i (some (.int (0 + (k : Int))))) H1 R)
    (q : ∀ (D : Addr) (H' : Hp), H D = none → H' D = some (.lst (((List.range n).filter p).map fun (k : Nat) => V.int (k : Int))) → Same H H' → Qd D H') :
    ∀ D : Addr, H D = none → ∃ W : Nat → Nat → Hp → Prop, (∃ m, W 0 m (upd H D (.lst []))) ∧ ∀ j m H', W j m H' →
      ((Itr 0 n).stop j H' ∧ Qd D H') ∨ ((Itr 0 n).go j H' ∧ ∃ Nx : Hp → Prop, (∀ H', Nx H' → ∃ m', m' < m ∧ W (j + 1) m' H') ∧ ∀ x H'', (Itr 0 n).yld j H' x H'' → gName i x (wipe σ [i]) H'' fun σ2 H2 => wipe σ2 [i] = wipe σ [i] ∧ tt σ2 H2 fun b H3 =>
        if b = true then (tVar i) σ2 H3 fun y H4 => ∃ acc, H4 D = some (.lst acc) ∧ acc.length < sizeLine ∧ Nx (upd H4 D (.lst (acc ++ [y]))) else Nx H3) := by
  intro D nD
  refine lc_range (lo := 0) (n := n) (g := gName i) (tt := tt) (te := tVar i) (vs := [i]) (σ := σ) (Qd := Qd D) (fun j H' => Same H H' ∧ H' D = some (.lst (((List.range j).filter p).map fun (k : Nat) => V.int (k : Int)))) ⟨same_upd nD, upd_same⟩ ?_ (fun H1 h => q D H1 nD h.2 h.1)
  rintro j H1 hj ⟨S1, hD⟩
  refine ⟨?_, ht j H1 _ hj S1 ?_⟩
  · show ((σ.set i none).set i _).set i none = σ.set i none
    rw [List.set_set, List.set_set]
  have er : List.range (j + 1) = List.range j ++ [j] := List.range_succ
  cases e : p j with
  | true =>
    refine iteT (B := Same H H1 ∧ _) ⟨.int (j : Int), ?_, _, hD, ?_, ?_, ?_⟩
    · show ((σ.set i none).set i (some (V.int (0 + (j : Int)))))[i]? = some (some (V.int (j : Int)))
      rw [List.set_set, List.getElem?_set_self hi, Int.zero_add]
    · rw [List.length_map]
      refine small1000 (Nat.le_trans (List.length_filter_le _ _) ?_)
      rw [List.length_range]
      omega
    · intro b o hb
      rw [upd_ne (ne_of_none hb nD)]
      exact S1 _ _ hb
    · rw [upd_same, er, List.filter_append, List.map_append]
      rw [show [j].filter p = [j] by rw [List.filter_cons, e]; rfl]
      rfl
  | false =>
    refine iteF (A := True) ⟨S1, ?_⟩
    rw [hD, er, List.filter_append, show [j].filter p = [] by rw [List.filter_cons, e]; rfl, List.append_nil]
section
variable {P : Program} {w : World} {K : PySem.W.Frag} {mg : Str → Option Value} {base : Heap}
def spFair (K : PySem.W.Frag) : Sp := fun vs H Q _ => ∃ (t : Int) (a b : Addr) (ws ts : List Int), vs = [.int t, .ref a, .ref b] ∧ SqL K H a (ws.map V.int) ∧ H b = some (.lst (ts.map V.int)) ∧ ws.length ≤ 100 ∧ WNn ws ∧ ws.sum < 2 ^ 60 ∧ Fair t ws ts ∧ ∀ H', Same H H' → Q (.bl true) H'
theorem dp_ints {K : PySem.W.Frag} {H : Hp} : ∀ ns : List Int, DpAll K H (ns.map V.int) (ns.map PyData.int)
  | [] => .nil
  | n :: ns => .cons (.int n) (dp_ints ns)
theorem ok_fair {f g g2 : Addr} {fd gd gd2 : FuncData} (F : Fun K "_law_fair" "_law_fair" sFair f fd) (D : Dd K mg "_law_is_integer" sIsInt ["told"] g gd) (D2 : Dd K mg "_law_before" sBefore ["total", "weights", "whole", "one", "other"] g2 gd2) (B : Blt mg) : FnOk P w K mg base CX0 2 f fd ["total", "weights", "told"] (spFair K) := by
  have G := ok_isInt (P := P) (w := w) (base := base) (k := 0) D.F B
  have G2 := ok_before (P := P) (w := w) (base := base) (k := 0) D2.F B
  refine F.ok scFair (fun vs H Q E h => ?_) (fun cdv A outer s H vs Q E hr h => ?_)
  · obtain ⟨t, a, b, ws, ts, rfl, _⟩ := h
    rfl
  · obtain ⟨t, a, b, ws, ts, rfl, hA, hB, hl, hw, hW, hF, q⟩ := h
    refine ⟨_, pss_cons (ps_if (PW.pt (pw_or (pt_not (pt_val (pe_callB call_isi (by rfl) B.isi (by decide +kernel) (pa_cons (pv 2) (pa_cons (pe_bltn (by rfl) B.list PyProof.Rows.boot_list (v := .ty "list") rfl) pa_nil))))) (pw_or1 (pt_cmpR op_ne (pe_callB call_len_seq (by rfl) B.len PySem.boot_len (pa_cons (pv 2) pa_nil)) (pe_callB call_len_seq (by rfl) B.len PySem.boot_len (pa_cons (pv 1) pa_nil)) (nomark _))))) (pss_one (ps_ret pe_bl)) pss_nil)
      (pss_cons (ps_for PassesOwn.never rfl (pi_list (pv 2)) (pg_name (i := 3) scFair.nd rfl (.inl rfl)) (pss_one (ps_if (pt_not (pt_val (pe_call G hr (by rfl) D.g D.F.kp D.b .nil pass0 (pa_cons (pv 3) pa_nil)))) (pss_one (ps_ret pe_bl)) pss_nil)))
      (pss_cons (ps_set (i := 4) scFair.nd rfl (.inr rfl) (pe_callB (cr_sum rfl) (by rfl) B.sum (by decide +kernel) (pa_cons (pv 1) pa_nil)))
      (pss_cons (ps_if (pt_cmpR op_eq (pv 4) pe_int (nomark _)) (pss_one (ps_ret (pe_cmpR (op_eqD hr.units) (pv 2) (pe_lc (own := [("k", 5)]) (g := gName 5) (by rfl) scFair.nd (pi_range1 (by rfl) B.range (pa_cons (pe_callB call_len_seq (by rfl) B.len PySem.boot_len (pa_cons (pv 1) pa_nil)) pa_nil)) (blkOk_by (N := ["total", "weights", "told", "cents", "whole", "k", "more", "lifted", "floored", "one", "other"]) (sc := defScope sFair) (by decide +kernel)) (fun _ _ _ _ _ => pg_name (i := 5) scFair.nd rfl (Or.inl rfl)) (fun _ _ _ _ _ => pts_nil) (fun _ _ _ _ _ => pe_op op_mul (pv 0) (pe_callTy call_int1 (by rfl) B.int PyProof.Rows.boot_int (pa_cons (pe_cmpR op_eq (pv 5) pe_int (nomark _)) pa_nil)))) (nomark _)))) pss_nil)
      (pss_cons (ps_if (pt_cmpR op_ne (pe_callB (cr_sum rfl) (by rfl) B.sum (by decide +kernel) (pa_cons (pv 2) pa_nil)) (pv 0) (nomark _)) (pss_one (ps_ret pe_bl)) pss_nil)
      (pss_cons (ps_for PassesOwn.never rfl (pi_range1 (by rfl) B.range (pa_cons (pe_callB call_len_seq (by rfl) B.len PySem.boot_len (pa_cons (pv 1) pa_nil)) pa_nil)) (pg_name (i := 5) scFair.nd rfl (.inl rfl))
        (pss_cons (ps_set (i := 6) scFair.nd rfl (.inl rfl) (pe_op op_sub (pe_ix ix_list (pv 2) (pv 5) (fun _ _ => rfl)) (pe_op op_fdivW (pe_op op_mul (pv 0) (pe_ix ix_list (pv 1) (pv 5) (fun _ _ => rfl))) (pv 4))))
        (C8.pss_cut (ps_if (PW.pt (pw_and (pt_cmpR op_ne (pv 6) pe_int (nomark _)) (pw_and1 (pt_cmpR op_ne (pv 6) pe_int (nomark _))))) (pss_one (ps_ret pe_bl)) pss_nil)
        (pss_one (ps_if (pt_cmpR op_ge (pe_callB call_abs (by rfl) B.abs (by decide +kernel) (pa_cons (pe_op op_sub (pe_op op_mul (pe_ix ix_list (pv 2) (pv 5) (fun _ _ => rfl)) (pv 4)) (pe_op op_mul (pv 0) (pe_ix ix_list (pv 1) (pv 5) (fun _ _ => rfl)))) pa_nil)) (pv 4) (nomark _)) (pss_one (ps_ret pe_bl)) pss_nil)))))
      (pss_cons (ps_setLc (i := 7) (own := [("k", 5)]) (g := gName 5) (by rfl) scFair.nd rfl rfl (sw_true rfl rfl rfl (by decide +kernel)) (pi_range1 (by rfl) B.range (pa_cons (pe_callB call_len_seq (by rfl) B.len PySem.boot_len (pa_cons (pv 1) pa_nil)) pa_nil)) (blkOk_by (N := ["total", "weights", "told", "cents", "whole", "k", "more", "lifted", "floored", "one", "other"]) (sc := defScope sFair) (by decide +kernel)) (fun _ _ _ _ _ => pg_name (i := 5) scFair.nd rfl (Or.inl rfl)) (fun _ _ _ _ _ => pts_one (pt_cmpR op_gt (pe_ix (r := rIxL K) ix_list (pv 2) (pv 5) (fun _ _ => rfl)) (pe_op op_fdivW (pe_op op_mul (pv 0) (pe_ix (r := rIxL K) ix_list (pv 1) (pv 5) (fun _ _ => rfl))) (pv 4)) (nomark _))) (fun _ _ _ _ _ => pv 5))
      (pss_cons (ps_setLc (i := 8) (own := [("k", 5)]) (g := gName 5) (by rfl) scFair.nd rfl rfl (sw_true rfl rfl rfl (by decide +kernel)) (pi_range1 (by rfl) B.range (pa_cons (pe_callB call_len_seq (by rfl) B.len PySem.boot_len (pa_cons (pv 1) pa_nil)) pa_nil)) (blkOk_by (N := ["total", "weights", "told", "cents", "whole", "k", "more", "lifted", "floored", "one", "other"]) (sc := defScope sFair) (by decide +kernel)) (fun _ _ _ _ _ => pg_name (i := 5) scFair.nd rfl (Or.inl rfl)) (fun _ _ _ _ _ => pts_one (pt_cmpR op_eq (pe_ix (r := rIxL K) ix_list (pv 2) (pv 5) (fun _ _ => rfl)) (pe_op op_fdivW (pe_op op_mul (pv 0) (pe_ix (r := rIxL K) ix_list (pv 1) (pv 5) (fun _ _ => rfl))) (pv 4)) (nomark _))) (fun _ _ _ _ _ => pv 5))
      (pss_cons (ps_for PassesOwn.never rfl (pi_list (pv 7)) (pg_name (i := 9) scFair.nd rfl (.inl rfl)) (pss_one (ps_for PassesOwn.never rfl (pi_list (pv 8)) (pg_name (i := 10) scFair.nd rfl (.inl rfl)) (pss_one (ps_if (pt_not (pt_val (pe_call G2 hr (by rfl) D2.g D2.F.kp D2.b .nil pass0 (pa_cons (pv 0) (pa_cons (pv 1) (pa_cons (pv 4) (pa_cons (pv 9) (pa_cons (pv 10) pa_nil)))))))) (pss_one (ps_ret pe_bl)) pss_nil)))))
      (pss_one (ps_ret pe_bl)))))))))), ?_⟩
    have len := hF.len
    have wnn := sum_nn hw
    have bd : ∀ {i : Nat}, i < ws.length → -(2 ^ 64) < ws.getD i 0 ∧ ws.getD i 0 < 2 ^ 64 := fun {i} h => by
      have := hw (ws.getD i 0) (by rw [getD_at h]; exact List.getElem_mem h)
      omega
    -- the first test
    refine ⟨.ref b, rfl, .ref b, .ty "list", .type "list", .type "list", true, rfl, .ty _, .base (.lst hB), kit_ty (by decide +kernel), true, rfl, ?_⟩
    refine ⟨.ref b, rfl, b, _, rfl, .inl (sqOf hB), .ref a, rfl, a, _, rfl, .inl hA, rfl, _, rfl, ?_⟩
    rw [show (!decide (V.int ((ts.map V.int).length : Int) = V.int ((ws.map V.int).length : Int))) = false by rw [List.length_map, List.length_map, len, decide_eq_true rfl]; rfl]
    -- each an integer
    refine ⟨.ref b, rfl, b, rfl, ⟨_, sqOf hB⟩, for_list (K := K) (a := b) (xs := ts.map V.int) (fun i σ H' => ∃ y, σ = [some (.int t), some (.ref a), some (.ref b), y, none, none, none, none, none, none, none] ∧ H' = H) ⟨none, rfl, rfl⟩ (fun i σ H' _ ⟨_, _, e⟩ => by rw [e]; exact sqOf hB) ?_ ?_⟩
    · rintro i x σ H' hx ⟨y, rfl, rfl⟩
      obtain ⟨z, rfl⟩ : ∃ z, x = V.int z := by
        rw [List.getElem?_map] at hx
        cases e : ts[i]? with
        | none => rw [e] at hx; cases hx
        | some z => rw [e] at hx; exact ⟨z, (Option.some.inj hx).symm⟩
      exact ⟨.int z, rfl, z, rfl, true, rfl, _, rfl, rfl⟩
    · rintro σ H' ⟨y3, rfl, rfl⟩
      -- whole = sum(weights)
      refine ⟨.ref a, rfl, a, ws, rfl, hA, ?_⟩
      refine ⟨.int ws.sum, rfl, rfl, _, rfl, ite2 (fun e => ?_) (fun e => ?_)⟩
      · have hW0 : ws.sum = 0 := V.int.inj (of_decide_eq_true e)
        refine ⟨.ref b, rfl, .ref a, rfl, a, _, rfl, .inl hA, _, rfl, by rw [List.length_map]; omega, by rw [List.length_map]; omega, fun D nD => ?_⟩
        refine lc_range (lo := 0) (n := ((ws.map V.int).length : Int).toNat) (fun j H1 => Same H' H1 ∧ H1 D = some (.lst (((List.range j).map fun (k : Nat) => if k = 0 then t else 0).map V.int))) ⟨same_upd nD, upd_same⟩ ?_ ?_
        · rintro j H1 hj ⟨S1, hD⟩
          refine ⟨rfl, ?_⟩
          refine ⟨.int t, rfl, .int (0 + (j : Int)), rfl, rfl, .inr ⟨_, rfl, t, _, rfl, rfl, .inr (by split <;> exact ⟨by decide, by decide⟩), _, hD, ?_, ?_, ?_⟩⟩
          · rw [List.length_map, List.length_map, List.length_range]
            rw [List.length_map] at hj
            exact small1000 (by omega)
          · intro c o hc
            rw [upd_ne (ne_of_none hc nD)]
            exact S1 _ _ hc
          · rw [upd_same, List.range_succ, List.map_append, List.map_append]
            have ev : t * (if decide (V.int (0 + (j : Int)) = V.int 0) = true then 1 else 0) = if j = 0 then t else 0 := by
              by_cases c : j = 0
              · rw [if_pos c, if_pos (decide_eq_true (congrArg V.int (show (0 : Int) + (j : Int) = 0 by omega))), Int.mul_one]
              · rw [if_neg c, if_neg (fun z => c (by have := V.int.inj (of_decide_eq_true z); omega)), Int.mul_zero]
            exact congrArg (fun z => some (HO.lst (((List.range j).map fun (k : Nat) => if k = 0 then t else 0).map V.int ++ [V.int z]))) ev
        · rintro H1 ⟨S1, hD⟩
          rw [List.length_map, Int.toNat_natCast, ← hF.zero hW0] at hD
          refine ⟨_, _, .lst (sqOf (S1 _ _ hB)) (dp_ints ts), .lst (sqOf hD) (dp_ints ts), PySem.W.shaped_ints ts, PySem.W.shaped_ints ts, ?_⟩
          rw [SeqAt.eqv_refl _ (SeqAt.canLay_of_shaped (PySem.W.shaped_ints ts))]
          exact q H1 S1
      · have hW0 : ws.sum ≠ 0 := fun z => e (decide_eq_true (congrArg V.int z))
        have hWp : 0 < ws.sum := by omega
        have hW9 : ws.sum.natAbs < 2 ^ 61 := by omega
        refine ⟨.ref b, rfl, b, ts, rfl, sqOf hB, .int t, rfl, rfl, _, rfl, ?_⟩
        rw [show (!decide (V.int ts.sum = V.int t)) = false by rw [hF.sum hW0, decide_eq_true rfl]; rfl]
        have tA : ∀ {k : Nat}, k < ws.length → (ts.map V.int)[k]? = some (.int (ts.getD k 0)) := fun h => ints_at (by omega)
        -- the loop over the places
        refine ⟨.ref a, rfl, a, _, rfl, .inl hA, _, rfl, by rw [List.length_map]; omega, by rw [List.length_map]; omega, ?_⟩
        refine for_range (lo := 0) (n := ((ws.map V.int).length : Int).toNat) (fun i σ H1 => ∃ y5 y6, σ = [some (.int t), some (.ref a), some (.ref b), y3, some (.int ws.sum), y5, y6, none, none, none, none] ∧ H1 = H') ⟨none, none, rfl, rfl⟩ ?_ ?_
        · rintro k σ H1 hk ⟨y5, y6, rfl, rfl⟩
          rw [List.length_map, Int.toNat_natCast] at hk
          rw [show (0 : Int) + (k : Int) = (k : Int) by omega]
          refine ⟨.ref b, rfl, .int (k : Int), rfl, b, _, k, .int (ts.getD k 0), rfl, rfl, sqOf hB, atI_nat (tA hk), .int t, rfl, .ref a, rfl, .int (k : Int), rfl, a, _, k, .int (ws.getD k 0), rfl, rfl, hA, atI_nat (ints_at hk), t, _, rfl, rfl, .inr (bd hk), .int ws.sum, rfl, _, _, rfl, rfl, wide_div hWp hW9 (by decide) (by decide), _, _, rfl, rfl, ?_⟩
          refine ⟨fun (σ2 : L2.St) (H2 : Hp) => σ2 = [some (.int t), some (.ref a), some (.ref b), y3, some (.int ws.sum), some (.int (k : Int)), some (.int (ts.getD k 0 - t * ws.getD k 0 / ws.sum)), none, none, none, none] ∧ H2 = H1, ?_, ?_⟩
          · refine ⟨_, rfl, rfl, _, rfl, ite2 (fun e1 => ?_) (fun e1 => ?_)⟩
            · refine ⟨_, rfl, rfl, _, rfl, ite2 (fun e2 => ?_) (fun e2 => ?_)⟩
              · exfalso
                have e1 : (!decide (V.int (ts.getD k 0 - t * ws.getD k 0 / ws.sum) = V.int 0)) = true := e1
                have e2 : (!decide (V.int (ts.getD k 0 - t * ws.getD k 0 / ws.sum) = V.int 1)) = true := e2
                rcases hF.near hW0 k hk with h | h
                · rw [h, decide_eq_true rfl] at e1
                  cases e1
                · rw [h, decide_eq_true rfl] at e2
                  cases e2
              · exact (⟨rfl, rfl⟩ : _ = [some (V.int t), some (.ref a), some (.ref b), y3, some (.int ws.sum), some (.int (k : Int)), some (.int (ts.getD k 0 - t * ws.getD k 0 / ws.sum)), none, none, none, none] ∧ H1 = H1)
            · exact (⟨rfl, rfl⟩ : _ = [some (V.int t), some (.ref a), some (.ref b), y3, some (.int ws.sum), some (.int (k : Int)), some (.int (ts.getD k 0 - t * ws.getD k 0 / ws.sum)), none, none, none, none] ∧ H1 = H1)
          · rintro σ2 H2 ⟨rfl, rfl⟩
            obtain ⟨d1, d2⟩ := hF.dist hW0 k hk
            refine ⟨.ref b, rfl, .int (k : Int), rfl, b, _, k, .int (ts.getD k 0), rfl, rfl, sqOf hB, atI_nat (tA hk), .int ws.sum, rfl, _, _, rfl, rfl, .inr ⟨by omega, by omega⟩, .int t, rfl, .ref a, rfl, .int (k : Int), rfl, a, _, k, .int (ws.getD k 0), rfl, rfl, hA, atI_nat (ints_at hk), t, _, rfl, rfl, .inr (bd hk), _, _, rfl, rfl, _, rfl, .int ws.sum, rfl, _, _, rfl, rfl, _, rfl, ite2 (fun e3 => ?_) (fun e3 => ?_)⟩
            · exfalso
              have h3 := of_decide_eq_true e3
              split at h3 <;> omega
            · exact ⟨_, _, rfl, rfl⟩
        · rintro σ H1 ⟨y5, y6, rfl, rfl⟩
          -- lifted
          refine ⟨.ref a, rfl, a, _, rfl, .inl hA, _, rfl, by rw [List.length_map]; omega, by rw [List.length_map]; omega, ?_⟩
          rw [List.length_map, Int.toNat_natCast]
          refine comp_filter (σ := [some (.int t), some (.ref a), some (.ref b), y3, some (.int ws.sum), y5, y6, none, none, none, none]) (i := 5) (fun k => decide (t * ws.getD k 0 / ws.sum < ts.getD k 0)) (by omega) (by show 5 < 11; omega) (fun k H2 R hk S2 r => ?_) (fun D1 H2 nD1 hD1 S2 => ?_)
          · rw [show (0 : Int) + (k : Int) = (k : Int) by omega]
            exact ⟨.ref b, rfl, .int (k : Int), rfl, b, _, k, .int (ts.getD k 0), rfl, rfl, sqOf (S2 _ _ hB), atI_nat (tA hk), .int t, rfl, .ref a, rfl, .int (k : Int), rfl, a, _, k, .int (ws.getD k 0), rfl, rfl, S2.seq hA, atI_nat (ints_at hk), t, _, rfl, rfl, .inr (bd hk), .int ws.sum, rfl, _, _, rfl, rfl, wide_div hWp hW9 (by decide) (by decide), _, _, rfl, rfl, _, rfl, r⟩
          -- floored
          have hB2 := S2 _ _ hB
          have hA2 := S2.seq hA
          refine ⟨.ref a, rfl, a, _, rfl, .inl hA2, _, rfl, by rw [List.length_map]; omega, by rw [List.length_map]; omega, ?_⟩
          rw [List.length_map, Int.toNat_natCast]
          refine comp_filter (σ := [some (.int t), some (.ref a), some (.ref b), y3, some (.int ws.sum), y5, y6, some (.ref D1), none, none, none]) (i := 5) (fun k => decide (V.int (ts.getD k 0) = V.int (t * ws.getD k 0 / ws.sum))) (by omega) (by show 5 < 11; omega) (fun k H3 R hk S3 r => ?_) (fun D2 H3 nD2 hD2 S3 => ?_)
          · rw [show (0 : Int) + (k : Int) = (k : Int) by omega]
            exact ⟨.ref b, rfl, .int (k : Int), rfl, b, _, k, .int (ts.getD k 0), rfl, rfl, sqOf (S3 _ _ hB2), atI_nat (tA hk), .int t, rfl, .ref a, rfl, .int (k : Int), rfl, a, _, k, .int (ws.getD k 0), rfl, rfl, S3.seq hA2, atI_nat (ints_at hk), t, _, rfl, rfl, .inr (bd hk), .int ws.sum, rfl, _, _, rfl, rfl, wide_div hWp hW9 (by decide) (by decide), rfl, _, rfl, r⟩
          have hA3 := S3.seq hA2
          have hD1' := S3 _ _ hD1
          -- each of the one with each of the other
          refine ⟨.ref D1, rfl, D1, rfl, ⟨_, sqOf hD1'⟩, for_list (K := K) (a := D1) (xs := ((List.range ws.length).filter fun k => decide (t * ws.getD k 0 / ws.sum < ts.getD k 0)).map fun (k : Nat) => V.int (k : Int)) (fun i σ H4 => ∃ y9 y10, σ = [some (.int t), some (.ref a), some (.ref b), y3, some (.int ws.sum), y5, y6, some (.ref D1), some (.ref D2), y9, y10] ∧ H4 = H3) ⟨none, none, rfl, rfl⟩ (fun i σ H4 _ ⟨_, _, _, e⟩ => by rw [e]; exact sqOf hD1') ?_ ?_⟩
          · rintro i x σ H4 hx ⟨y9, y10, rfl, rfl⟩
            obtain ⟨k1, m1, rfl⟩ := List.mem_map.mp (List.mem_of_getElem? hx)
            obtain ⟨r1, p1⟩ := List.mem_filter.mp m1
            have hk1 := List.mem_range.mp r1
            have q1 := of_decide_eq_true p1
            refine ⟨.ref D2, rfl, D2, rfl, ⟨_, sqOf hD2⟩, for_list (K := K) (a := D2) (xs := ((List.range ws.length).filter fun k => decide (V.int (ts.getD k 0) = V.int (t * ws.getD k 0 / ws.sum))).map fun (k : Nat) => V.int (k : Int)) (fun i σ H5 => ∃ y10, σ = [some (.int t), some (.ref a), some (.ref b), y3, some (.int ws.sum), y5, y6, some (.ref D1), some (.ref D2), some (.int (k1 : Int)), y10] ∧ H5 = H4) ⟨y10, rfl, rfl⟩ (fun i σ H5 _ ⟨_, _, e⟩ => by rw [e]; exact sqOf hD2) ?_ ?_⟩
            · rintro i2 x2 σ H5 hx2 ⟨y10', rfl, rfl⟩
              obtain ⟨k2, m2, rfl⟩ := List.mem_map.mp (List.mem_of_getElem? hx2)
              obtain ⟨r2, p2⟩ := List.mem_filter.mp m2
              have hk2 := List.mem_range.mp r2
              have q2 := V.int.inj (of_decide_eq_true p2)
              refine ⟨.int t, rfl, .ref a, rfl, .int ws.sum, rfl, .int (k1 : Int), rfl, .int (k2 : Int), rfl, t, ws.sum, a, ws, k1, k2, rfl, hA3, hk1, hk2, hWp, hw, _, rfl, ?_⟩
              rw [hF.ord hW0 k1 k2 hk1 hk2 q1 q2]
              exact ⟨_, rfl, rfl⟩
            · rintro σ H5 ⟨y10', rfl, rfl⟩
              exact ⟨_, _, rfl, rfl⟩
          · rintro σ H4 ⟨y9, y10, rfl, rfl⟩
            exact q _ (S2.trans S3)
end
end Sh
namespace Sh
open PySem PySem.Spec PyProof.Rows L2
abbrev sShare : Stmt := topS 11
abbrev sRefused : Stmt := topS 21
theorem scRefused : FnScope ["total", "weights", "e", "word", "base", "other"] ["total", "weights"] (defScope sRefused) := ⟨rfl, rfl, rfl, by decide +kernel, rfl, by decide +kernel, by decide +kernel⟩
/-- the classes of the errors, as the module has them -/
structure Errs (K : PySem.W.Frag) (mg : Str → Option Value) (C fI CP c1 c2 c3 c4 c5 c6 c7 : Addr) : Prop where
  T : ErrC K C fI "what"
  gC : mg "Invalid" = some (.ref C)
  gP : mg "ParcelError" = some (.ref CP)
  g1 : mg "BadLine" = some (.ref c1)
  g2 : mg "BadManifest" = some (.ref c2)
  g3 : mg "Contradiction" = some (.ref c3)
  g4 : mg "Late" = some (.ref c4)
  g5 : mg "Refused" = some (.ref c5)
  g6 : mg "TooMany" = some (.ref c6)
  g7 : mg "Unknown" = some (.ref c7)
  kP : PySem.W.kitOne K (.ref C) (.ref CP) = some true
  kV : PySem.W.kitOne K (.ref C) (.type "ValueError") = some true
  kO : PySem.W.kitAny K (.ref C) [.ref c1, .ref c2, .ref c3, .ref c4, .ref c5, .ref c6, .ref c7] = some false
  ex : PySem.W.exmOne K (.ref C) (.ref C) = some true
abbrev wWhat : Str := ("what" : String)
abbrev wWeights : Str := ("weights" : String)
def Bad (t : Int) (ws : List Int) : Prop := t < 0 ∨ ∃ x ∈ ws, x < 0
section
variable {P : Program} {w : World} {K : PySem.W.Frag} {mg : Str → Option Value} {base : Heap}
/-- share_out's: a fair list, or the error -/
def spShare (K : PySem.W.Frag) (C : Addr) : Sp := fun vs H Q E => ∃ (t : Int) (l : Addr) (ws : List Int), vs = [.int t, .ref l] ∧ H l = some (.lst (ws.map V.int)) ∧ ws.length ≤ 100 ∧
  (Bad t ws → ∀ d H', Same H H' → H' d = some (.xd [(wWhat, .str wWeights)]) → E (.ref C) (some d) H') ∧
  (¬ Bad t ws → t < 2 ^ 61 ∧ WNn ws ∧ ws.sum < 2 ^ 60 ∧ ∀ (p : Addr) (ts : List Int) (H' : Hp), Same H H' → H p = none → H' p = some (.lst (ts.map V.int)) → Fair t ws ts → Q (.ref p) H')
def spRefused : Sp := fun vs H Q _ => ∃ (t : Int) (l : Addr) (ws : List Int), vs = [.int t, .ref l] ∧ H l = some (.lst (ws.map V.int)) ∧ ws.length ≤ 100 ∧ Bad t ws ∧ ∀ H', Same H H' → Q (.bl true) H'
theorem ok_refused {f g C fI CP c1 c2 c3 c4 c5 c6 c7 : Addr} {fd gd : FuncData} (F : Fun K "_law_refused" "_law_refused" sRefused f fd) (D : Dd K mg "share_out" sShare ["total", "weights"] g gd) {k : Nat} (G : FnOk P w K mg base (L2.CX P w) k g gd ["total", "weights"] (spShare K C)) (R : Errs K mg C fI CP c1 c2 c3 c4 c5 c6 c7) (B : Blt mg) : FnOk P w K mg base CX0 (k + 1) f fd ["total", "weights"] spRefused := by
  refine F.ok scRefused (fun vs H Q E h => ?_) (fun cdv A outer s H vs Q E hr h => ?_)
  · obtain ⟨t, l, ws, rfl, _⟩ := h
    rfl
  · obtain ⟨t, l, ws, rfl, hL, hn, hb, q⟩ := h
    refine ⟨_, pss_cons (ps_try_as (i := 2) rfl rfl scRefused.nd rfl rfl ⟨rfl, by decide, .inl R.gC⟩ takes0
        (fun W pn xe tk _ => pss_one (ps_expr (pe_callS G hr (by rfl) D.g D.F.kp D.b (fun σ => passAt tk σ) (pa_cons (pv 0) (pa_cons (pv 1) pa_nil)))))
        (fun a oe cls d pn hz hf => pss_cons (ps_set (i := 3) scRefused.nd rfl (.inl rfl) (pe_and (pe_callB (id := "isinstance") (r := rIsi K) call_isi (by rfl) B.isi (by decide +kernel) (pa_cons (pe_xf R.T.xf R.T.no hz hf (pv 2)) (pa_cons (pe_bltn (by rfl) B.str PyProof.Rows.boot_str (v := .ty "str") rfl) pa_nil))) (pe_one (pe_cmpR op_eq (pe_xf R.T.xf R.T.no hz hf (pv 2)) pe_str (nomark _)))))
          (pss_cons (ps_set (i := 4) scRefused.nd rfl (.inl rfl) (pe_and (pe_callB (id := "isinstance") (r := rIsX K C a cls d) (call_isX R.T hz hf) (by rfl) B.isi (by decide +kernel) (pa_cons (pv 2) (pa_cons (pe_glob (by rfl) R.gP (v := .ref CP) rfl) pa_nil))) (pe_one (pe_callB (id := "isinstance") (r := rIsX K C a cls d) (call_isX R.T hz hf) (by rfl) B.isi (by decide +kernel) (pa_cons (pv 2) (pa_cons (pe_bltn (by rfl) B.ve (by decide +kernel) (v := .ty "ValueError") (u := .type "ValueError") rfl) pa_nil))))))
          (pss_cons (ps_set (i := 5) scRefused.nd rfl (.inl rfl) (pe_callB (id := "isinstance") (r := rIsXT K C a cls d) (call_isXT R.T hz hf) (by rfl) B.isi (by decide +kernel) (pa_cons (pv 2) (pa_cons (pe_tup (pa_cons (pe_glob (by rfl) R.g1 (v := .ref c1) rfl) (pa_cons (pe_glob (by rfl) R.g2 (v := .ref c2) rfl) (pa_cons (pe_glob (by rfl) R.g3 (v := .ref c3) rfl) (pa_cons (pe_glob (by rfl) R.g4 (v := .ref c4) rfl) (pa_cons (pe_glob (by rfl) R.g5 (v := .ref c5) rfl) (pa_cons (pe_glob (by rfl) R.g6 (v := .ref c6) rfl) (pa_cons (pe_glob (by rfl) R.g7 (v := .ref c7) rfl) pa_nil)))))))) pa_nil))))
          (pss_one (ps_ret (pe_and (pv 3) (pe_and (pv 4) (pe_one (pe_not (pv 5)))))))))))
      (pss_one (ps_ret pe_bl)), ?_⟩
    refine ⟨.int t, rfl, .ref l, rfl, t, l, ws, rfl, hL, hn, fun _ d H1 S1 hd => ?_, fun h => (h hb).elim⟩
    refine ⟨true, R.ex, fun _ a ha => ?_, fun z => by cases z⟩
    have lw : List.lookup wWhat [(wWhat, V.str wWeights)] = some (.str wWeights) := by
      rw [List.lookup_cons]
      rw [show (wWhat == wWhat) = true from beq_self_eq_true _]
    -- word
    refine ⟨.ref a, rfl, rfl, rfl, d, _, .str wWeights, rfl, hd, lw, .str wWeights, .ty "str", .type "str", .type "str", true, rfl, .ty _, .base (.str _), kit_ty (by decide +kernel), true, rfl, ?_⟩
    refine ⟨.ref a, rfl, rfl, rfl, d, _, .str wWeights, rfl, hd, lw, rfl, ?_⟩
    rw [decide_eq_true rfl]
    -- base
    refine ⟨.ref a, rfl, rfl, .ref CP, .ref CP, true, d, _, rfl, .own _, rfl, hd, R.kP, true, rfl, ?_⟩
    refine ⟨.ref a, rfl, rfl, .ty "ValueError", .type "ValueError", true, d, _, rfl, .ty _, rfl, hd, R.kV, ?_⟩
    -- other
    refine ⟨.ref a, rfl, by show 7 ≤ sizeLine; decide, fun tp ntp => ?_⟩
    have hd2 : ∀ o, (upd H1 tp o) d = some (.xd [(wWhat, .str wWeights)]) := fun o => by rw [upd_ne (ne_of_none hd ntp)]; exact hd
    refine ⟨rfl, tp, _, [.ref c1, .ref c2, .ref c3, .ref c4, .ref c5, .ref c6, .ref c7], false, d, _, rfl, upd_same, .cons (.own _) (.cons (.own _) (.cons (.own _) (.cons (.own _) (.cons (.own _) (.cons (.own _) (.cons (.own _) .nil)))))), rfl, hd2 _, R.kO, ?_⟩
    -- return word and base and not other
    exact ⟨.bl true, rfl, true, rfl, .bl true, rfl, true, rfl, .bl false, rfl, false, rfl, q _ (S1.trans (same_upd ntp))⟩
end
end Sh
namespace Sh
open PySem PySem.Spec PyProof.Rows L2
abbrev sLaw : Stmt := topS 22
theorem scLaw : FnScope ["script", "weights", "total", "box", "passed", "told", "less", "near", "at", "spoilt", "even", "bad", "more"] ["script"] (defScope sLaw) := ⟨rfl, rfl, rfl, by decide +kernel, rfl, by decide +kernel, by decide +kernel⟩
theorem sum_le : ∀ {ws : List Int} (b : Int), (∀ x ∈ ws, x ≤ b) → ws.sum ≤ ws.length * b
  | [], b, _ => by simp
  | x :: r, b, h => by
    have h1 := h x (List.mem_cons_self ..)
    have h2 := sum_le b fun y hy => h y (List.mem_cons_of_mem _ hy)
    rw [List.sum_cons, List.length_cons]
    have : ((r.length + 1 : Nat) : Int) * b = r.length * b + b := by
      rw [Int.natCast_add, Int.add_mul]
      omega
    rw [this]
    omega
/-- the lists that share_out is asked of: few, not great -/
structure Small (ws : List Int) : Prop where
  len : ws.length ≤ 70
  b : ∀ x ∈ ws, 0 ≤ x ∧ x ≤ 10 ^ 12
theorem Small.wn {ws : List Int} (h : Small ws) : WNn ws := fun x hx => by
  have := h.b x hx
  omega
theorem Small.sum {ws : List Int} (h : Small ws) : 0 ≤ ws.sum ∧ ws.sum ≤ 10 ^ 14 := by
  have h1 := sum_nn h.wn
  have h2 := sum_le (10 ^ 12) fun x hx => (h.b x hx).2
  have h3 := h.len
  have h4 : (ws.length : Int) * 10 ^ 12 ≤ 70 * 10 ^ 12 := Int.mul_le_mul_of_nonneg_right (by omega) (by decide)
  omega
theorem Small.good {ws : List Int} (h : Small ws) {t : Int} (ht : 0 ≤ t) : ¬ Bad t ws := fun z => by
  rcases z with z | ⟨x, hx, hx0⟩
  · omega
  · have := (h.b x hx).1
    omega
section
variable {P : Program} {w : World} {K : PySem.W.Frag} {mg : Str → Option Value} {base : Heap}
theorem ne_ints {K : PySem.W.Frag} {H : Hp} {p q : Addr} {ns : List Int} {Q : VK} (hp : H p = some (.lst (ns.map V.int))) (hq : H q = some (.lst (ns.map V.int))) (h : Q (.bl false) H) : rNeD K (.ref p) (.ref q) H Q := by
  refine ⟨_, _, .lst (sqOf hp) (dp_ints ns), .lst (sqOf hq) (dp_ints ns), PySem.W.shaped_ints ns, PySem.W.shaped_ints ns, ?_⟩
  rw [SeqAt.eqv_refl _ (SeqAt.canLay_of_shaped (PySem.W.shaped_ints ns))]
  exact h
theorem seq_new {K : PySem.W.Frag} {H H1 H2 : Hp} {a p : Addr} {xs : List V} (h : SqL K H a xs) (np : H p = none) (S : Same H H1) (b : But p H1 H2) : SqL K H2 a xs := by
  rcases h with (h | ⟨o, h⟩) | h
  · exact .inl (.inl (b _ _ (S _ _ h) (ne_of_none h np)))
  · exact .inl (.inr ⟨o, b _ _ (S _ _ h) (ne_of_none h np)⟩)
  · exact .inr h
theorem ix0 {n : Nat} (h : 0 < n) : ixN n 0 = some 0 := by
  unfold ixN
  rw [if_pos (by decide), if_pos (by omega)]
  rfl
theorem ixj {n j : Nat} (h : j < n) : ixN n (j : Int) = some j := by
  unfold ixN
  rw [if_pos (by omega), if_pos (by omega), Int.toNat_natCast]
def spLaw (K : PySem.W.Frag) : Sp := fun vs H Q _ => ∃ (a : Addr) (ns : List Int), vs = [.ref a] ∧ SqL K H a (ns.map V.int) ∧ ns.length ≤ 63 ∧ ∀ H', Q (.bl true) H'
theorem ok_law {f g1 g2 g3 g4 g5 g6 g7 g8 g9 g10 C fI CP c1 c2 c3 c4 c5 c6 c7 : Addr} {fd d1 d2 d3 d4 d5 d6 d7 d8 d9 d10 : FuncData} (F : Fun K "law" "law" sLaw f fd)
    (D1 : Dd K mg "_law_cell" sCell ["script", "k"] g1 d1) (D2 : Dd K mg "_law_box" sBox ["script", "k"] g2 d2) (D3 : Dd K mg "_law_draw" sDraw ["box", "size"] g3 d3) (D4 : Dd K mg "_law_weights" sWeights ["box"] g4 d4) (D5 : Dd K mg "_law_total" sTotal ["box", "whole"] g5 d5)
    (D6 : Dd K mg "_law_is_integer" sIsInt ["told"] g6 d6) (D7 : Dd K mg "_law_before" sBefore ["total", "weights", "whole", "one", "other"] g7 d7) (D8 : Dd K mg "_law_fair" sFair ["total", "weights", "told"] g8 d8) (D9 : Dd K mg "_law_refused" sRefused ["total", "weights"] g9 d9) (D10 : Dd K mg "share_out" sShare ["total", "weights"] g10 d10)
    (GS : FnOk P w K mg base (L2.CX P w) 3 g10 d10 ["total", "weights"] (spShare K C)) (R : Errs K mg C fI CP c1 c2 c3 c4 c5 c6 c7) (B : Blt mg) : FnOk P w K mg base CX0 5 f fd ["script"] (spLaw K) := by
  have G2 : FnOk P w K mg base CX0 2 g2 d2 ["script", "k"] (spBox K) := ok_box D2.F D1 B
  have G3 : FnOk P w K mg base CX0 1 g3 d3 ["box", "size"] spDraw := ok_draw D3.F B
  have G4 : FnOk P w K mg base CX0 2 g4 d4 ["box"] spWeights := ok_weights D4.F D3 B
  have G5 : FnOk P w K mg base CX0 2 g5 d5 ["box", "whole"] spTotal := ok_total D5.F D3 B
  have G8 : FnOk P w K mg base CX0 2 g8 d8 ["total", "weights", "told"] (spFair K) := ok_fair D8.F D6 D7 B
  have G9 : FnOk P w K mg base CX0 4 g9 d9 ["total", "weights"] spRefused := ok_refused D9.F D10 GS R B
  refine F.ok scLaw (fun vs H Q E h => ?_) (fun cdv A outer s H vs Q E hr h => ?_)
  · obtain ⟨a, ns, rfl, _⟩ := h
    rfl
  · obtain ⟨a, ns, rfl, hS, hlen, q⟩ := h
    have hr1 : Room 1 _ := hr.mono (by decide)
    have hr2 : Room 2 _ := hr.mono (by decide)
    have hr3 : Room 3 _ := hr.mono (by decide)
    refine ⟨_, pss_cons (ps_set (i := 1) scLaw.nd rfl (.inl rfl) (pe_call G4 hr2 (by rfl) D4.g D4.F.kp D4.b .nil pass0 (pa_cons (pe_call G2 hr2 (by rfl) D2.g D2.F.kp D2.b .nil pass0 (pa_cons (pv 0) (pa_cons pe_int pa_nil))) pa_nil)))
      (pss_cons (ps_set (i := 2) scLaw.nd rfl (.inl rfl) (pe_call G5 hr2 (by rfl) D5.g D5.F.kp D5.b .nil pass0 (pa_cons (pe_call G2 hr2 (by rfl) D2.g D2.F.kp D2.b .nil pass0 (pa_cons (pv 0) (pa_cons pe_int pa_nil))) (pa_cons (pe_callB (cr_sum rfl) (by rfl) B.sum (by decide +kernel) (pa_cons (pv 1) pa_nil)) pa_nil))))
      (pss_cons (ps_set (i := 3) scLaw.nd rfl (.inl rfl) (pe_call G2 hr2 (by rfl) D2.g D2.F.kp D2.b .nil pass0 (pa_cons (pv 0) (pa_cons pe_int pa_nil))))
      (pss_cons (ps_set (i := 4) scLaw.nd rfl (.inl rfl) (pe_callTy call_list_of (by rfl) B.list PyProof.Rows.boot_list (pa_cons (pv 1) pa_nil)))
      (pss_cons (ps_set (i := 5) scLaw.nd rfl (.inl rfl) (pe_call GS hr3 (by rfl) D10.g D10.F.kp D10.b .nil passL (pa_cons (pv 2) (pa_cons (pv 4) pa_nil))))
      (pss_cons (ps_if (PW.pt (pw_or (pt_cmpR (op_neD hr.units) (pv 4) (pv 1) (nomark _)) (pw_or1 (pt_not (pt_val (pe_call G8 hr2 (by rfl) D8.g D8.F.kp D8.b .nil pass0 (pa_cons (pv 2) (pa_cons (pv 1) (pa_cons (pv 5) pa_nil))))))))) (pss_one (ps_ret pe_bl)) pss_nil)
      (pss_cons (ps_expr (pe_bm PySem.F.plainAttrs_list PySem.F.slot_list_append PySem.F.type_list_append mt_append (pv 5) (pa_cons (pv 2) pa_nil)))
      (pss_cons (ps_asg (pe_un un_neg pe_int) (pg_sub (pv 5) pe_int set_list))
      (pss_cons (ps_if (pt_cmpR (op_neD hr.units) (pv 4) (pv 1) (nomark _)) (pss_one (ps_ret pe_bl)) pss_nil)
      (pss_cons (ps_if (pt_not (pt_val (pe_call G8 hr2 (by rfl) D8.g D8.F.kp D8.b .nil pass0 (pa_cons (pv 2) (pa_cons (pv 1) (pa_cons (pe_call GS hr3 (by rfl) D10.g D10.F.kp D10.b .nil passL (pa_cons (pv 2) (pa_cons (pe_callTy call_list_of (by rfl) B.list PyProof.Rows.boot_list (pa_cons (pv 1) pa_nil)) pa_nil))) pa_nil)))))) (pss_one (ps_ret pe_bl)) pss_nil)
      (pss_cons (ps_set (i := 6) scLaw.nd rfl (.inl rfl) (pe_op op_sub (pe_un un_neg pe_int) (pe_call G3 hr1 (by rfl) D3.g D3.F.kp D3.b .nil pass0 (pa_cons (pv 3) (pa_cons (pe_op op_pow pe_int pe_int) pa_nil)))))
      (pss_cons (ps_if (PW.pt (pw_or (pt_not (pt_val (pe_call G9 hr (by rfl) D9.g D9.F.kp D9.b .nil pass0 (pa_cons (pv 6) (pa_cons (pe_callTy call_list_of (by rfl) B.list PyProof.Rows.boot_list (pa_cons (pv 1) pa_nil)) pa_nil))))) (pw_or1 (pt_not (pt_val (pe_call G9 hr (by rfl) D9.g D9.F.kp D9.b .nil pass0 (pa_cons (pv 6) (pa_cons (pe_lst pa_nil) pa_nil)))))))) (pss_one (ps_ret pe_bl)) pss_nil)
      (pss_cons (ps_set (i := 7) scLaw.nd rfl (.inl rfl) (pe_callTy call_list_of (by rfl) B.list PyProof.Rows.boot_list (pa_cons (pv 1) pa_nil)))
      (C8.pss_cut (ps_if (pt_cmpR op_eq (pe_callB call_len_seq (by rfl) B.len PySem.boot_len (pa_cons (pv 7) pa_nil)) pe_int (nomark _)) (pss_one (ps_expr (pe_bm PySem.F.plainAttrs_list PySem.F.slot_list_append PySem.F.type_list_append mt_append (pv 7) (pa_cons pe_int pa_nil)))) pss_nil)
      (pss_cons (ps_set (i := 8) scLaw.nd rfl (.inl rfl) (pe_call G3 hr1 (by rfl) D3.g D3.F.kp D3.b .nil pass0 (pa_cons (pv 3) (pa_cons (pe_callB call_len_seq (by rfl) B.len PySem.boot_len (pa_cons (pv 7) pa_nil)) pa_nil))))
      (pss_cons (ps_asg pe_int (pg_sub (pv 7) (pv 8) set_list))
      (pss_cons (ps_set (i := 9) scLaw.nd rfl (.inl rfl) (pe_callTy call_list_of (by rfl) B.list PyProof.Rows.boot_list (pa_cons (pv 7) pa_nil)))
      (pss_cons (ps_asg (pv 6) (pg_sub (pv 9) (pv 8) set_list))
      (pss_cons (ps_set (i := 10) scLaw.nd rfl (.inl rfl) (pe_op op_cat (pv 7) (pe_lst (pa_cons pe_int pa_nil))))
      (pss_cons (ps_asg (pe_un un_neg (pe_callB (cr_sum rfl) (by rfl) B.sum (by decide +kernel) (pa_cons (pv 10) pa_nil))) (pg_sub (pv 10) (pv 8) set_list))
      (pss_cons (ps_for PassesOwn.never rfl (pi_list (pe_lst (pa_cons (pv 9) (pa_cons (pv 10) pa_nil)))) (pg_name (i := 11) scLaw.nd rfl (.inl rfl)) (pss_one (ps_if (PW.pt (pw_or (pt_not (pt_val (pe_call G9 hr (by rfl) D9.g D9.F.kp D9.b .nil pass0 (pa_cons (pv 2) (pa_cons (pe_callTy call_list_of (by rfl) B.list PyProof.Rows.boot_list (pa_cons (pv 11) pa_nil)) pa_nil))))) (pw_or1 (pt_not (pt_val (pe_call G9 hr (by rfl) D9.g D9.F.kp D9.b .nil pass0 (pa_cons (pv 6) (pa_cons (pe_callTy call_list_of (by rfl) B.list PyProof.Rows.boot_list (pa_cons (pv 11) pa_nil)) pa_nil)))))))) (pss_one (ps_ret pe_bl)) pss_nil)))
      (pss_cons (ps_if (pt_not (pt_val (pe_call G8 hr2 (by rfl) D8.g D8.F.kp D8.b .nil pass0 (pa_cons (pv 2) (pa_cons (pe_lst pa_nil) (pa_cons (pe_call GS hr3 (by rfl) D10.g D10.F.kp D10.b .nil passL (pa_cons (pv 2) (pa_cons (pe_lst pa_nil) pa_nil))) pa_nil)))))) (pss_one (ps_ret pe_bl)) pss_nil)
      (pss_cons (ps_set (i := 12) scLaw.nd rfl (.inl rfl) (pe_op op_cat (pv 7) (pe_lst (pa_cons (pe_op op_add pe_int (pe_call G3 hr1 (by rfl) D3.g D3.F.kp D3.b .nil pass0 (pa_cons (pv 3) (pa_cons pe_int pa_nil)))) (pa_cons (pe_op op_add pe_int (pe_call G3 hr1 (by rfl) D3.g D3.F.kp D3.b .nil pass0 (pa_cons (pv 3) (pa_cons pe_int pa_nil)))) pa_nil)))))
      (pss_cons (ps_if (pt_not (pt_val (pe_call G8 hr2 (by rfl) D8.g D8.F.kp D8.b .nil pass0 (pa_cons (pe_op op_add pe_int (pv 2)) (pa_cons (pv 12) (pa_cons (pe_call GS hr3 (by rfl) D10.g D10.F.kp D10.b .nil passL (pa_cons (pe_op op_add pe_int (pv 2)) (pa_cons (pe_callTy call_list_of (by rfl) B.list PyProof.Rows.boot_list (pa_cons (pv 12) pa_nil)) pa_nil))) pa_nil)))))) (pss_one (ps_ret pe_bl)) pss_nil)
      (pss_one (ps_ret (pe_call G8 hr2 (by rfl) D8.g D8.F.kp D8.b .nil pass0 (pa_cons (pv 2) (pa_cons (pv 7) (pa_cons (pe_call GS hr3 (by rfl) D10.g D10.F.kp D10.b .nil passL (pa_cons (pv 2) (pa_cons (pe_callTy call_list_of (by rfl) B.list PyProof.Rows.boot_list (pa_cons (pv 7) pa_nil)) pa_nil))) pa_nil))))))))))))))))))))))))))))), ?_⟩
    have hsz : sizeLine = 16777216 := rfl
    -- weights = weights(box(script, 0))
    refine ⟨.ref a, rfl, a, ns, 0, rfl, hS, by decide, fun p1 H1 np1 B1 S1 => ⟨p1, rfl, B1, fun l ws H2 hL2 lp1 hn hw B2 b2 => ?_⟩⟩
    have hS2 : SqL K H2 a (ns.map V.int) := seq_new hS np1 S1 b2
    have sm : Small ws := ⟨by omega, fun x hx => ⟨(hw x hx).1, Int.le_of_lt (hw x hx).2⟩⟩
    obtain ⟨sum0, sum1⟩ := sm.sum
    -- total = total(box(script, 1), sum(weights))
    refine ⟨.ref a, rfl, a, ns, 1, rfl, hS2, by decide, fun p2 H3 np2 B3 S3 => ⟨.ref l, rfl, l, ws, rfl, sqOf (S3 _ _ hL2), p2, ws.sum, rfl, B3, sum0, sum1, fun t H4 t0 t1 B4 b4 => ?_⟩⟩
    have lp2 : l ≠ p2 := ne_of_none hL2 np2
    have hL4 : H4 l = some (.lst (ws.map V.int)) := b4 _ _ (S3 _ _ hL2) lp2
    have hS4 : SqL K H4 a (ns.map V.int) := seq_new hS2 np2 S3 b4
    -- box = box(script, 2)
    refine ⟨.ref a, rfl, a, ns, 2, rfl, hS4, by decide, fun bx H5 nbx B5 S5 => ?_⟩
    have hL5 := S5 _ _ hL4
    have lbx : l ≠ bx := ne_of_none hL4 nbx
    -- passed = list(weights)
    refine ⟨.ref l, rfl, l, _, rfl, .inl (sqOf hL5), fun ps nps => ?_⟩
    have S6 := same_upd (o := .lst (ws.map V.int)) nps
    have hL6 := S6 _ _ hL5
    have B6 := B5.same S6
    -- told = share_out(total, passed)
    refine ⟨.int t, rfl, .ref ps, rfl, t, ps, ws, rfl, upd_same, by omega, fun hb => (sm.good t0 hb).elim, fun _ => ⟨by omega, sm.wn, by omega, fun td ts H7 S7 ntd hT7 F7 => ?_⟩⟩
    have hP7 := S7 _ _ (upd_same (H := H5) (a := ps) (o := .lst (ws.map V.int)))
    have hL7 := S7 _ _ hL6
    have B7 := B6.same S7
    have ltd : l ≠ td := ne_of_none hL6 ntd
    have ptd : ps ≠ td := ne_of_none upd_same ntd
    have btd : bx ≠ td := by
      obtain ⟨_, _, _, _, hh, _⟩ := B6
      exact ne_of_none hh ntd
    -- the first test
    refine ⟨.ref ps, rfl, .ref l, rfl, ne_ints hP7 hL7 ⟨false, rfl, ?_⟩⟩
    refine ⟨.int t, rfl, .ref l, rfl, .ref td, rfl, t, l, td, ws, ts, rfl, sqOf hL7, hT7, by omega, sm.wn, by omega, F7, fun H8 S8 => ⟨true, rfl, ?_⟩⟩
    have hT8 := S8 _ _ hT7
    have len8 : ts.length ≤ 100 := by rw [F7.len]; omega
    -- told.append(total); told[0] = -1
    refine ⟨.ref td, rfl, .inl ⟨rfl, _, sqOf hT8⟩, .int t, rfl, td, _, _, rfl, rfl, hT8, by rw [List.length_map]; exact small1000 (by omega), ?_⟩
    refine ⟨1, rfl, .ref td, rfl, td, _, 0, 0, rfl, rfl, upd_same, ix0 (by rw [List.length_append]; exact Nat.lt_of_lt_of_le Nat.zero_lt_one (Nat.le_add_left _ _)), ?_⟩
    have cr : ∀ (b : Addr) (o : HO) (o1 o2 : HO), b ≠ td → H8 b = some o → (upd (upd H8 td o1) td o2) b = some o := fun b o o1 o2 hb h => by rw [upd_ne hb, upd_ne hb]; exact h
    have B10 : ∀ o1 o2, Box (upd (upd H8 td o1) td o2) bx := fun o1 o2 => by
      obtain ⟨r, x, y, z, hh, rest⟩ := B7.same S8
      exact ⟨r, x, y, z, cr _ _ _ _ btd hh, rest⟩
    -- the second test
    refine ⟨.ref ps, rfl, .ref l, rfl, ne_ints (cr _ _ _ _ ptd (S8 _ _ hP7)) (cr _ _ _ _ ltd (S8 _ _ hL7)) ⟨false, rfl, ?_⟩⟩
    have hL10 : ∀ o1 o2, (upd (upd H8 td o1) td o2) l = some (.lst (ws.map V.int)) := fun o1 o2 => cr _ _ _ _ ltd (S8 _ _ hL7)
    generalize eH : upd (upd H8 td _) td _ = H10
    have hL10 : H10 l = some (.lst (ws.map V.int)) := by rw [← eH]; exact hL10 _ _
    have B10 : Box H10 bx := by rw [← eH]; exact B10 _ _
    clear eH
    -- fair(total, weights, share_out(total, list(weights)))
    refine ⟨.int t, rfl, .ref l, rfl, .int t, rfl, .ref l, rfl, l, _, rfl, .inl (sqOf hL10), fun e1 ne1 => ⟨t, e1, ws, rfl, upd_same, by omega, fun hb => (sm.good t0 hb).elim, fun _ => ⟨by omega, sm.wn, by omega, fun r1 ts1 H11 S11 nr1 hr1' F1 => ?_⟩⟩⟩
    have S10 := (same_upd (o := .lst (ws.map V.int)) ne1).trans S11
    refine ⟨t, l, r1, ws, ts1, rfl, sqOf (S10 _ _ hL10), hr1', by omega, sm.wn, by omega, F1, fun H12 S12 => ⟨true, rfl, ?_⟩⟩
    have hL12 := S12 _ _ (S10 _ _ hL10)
    have B12 := (B10.same S10).same S12
    -- less = -1 - draw(box, 10 ** 9)
    refine ⟨1, rfl, .ref bx, rfl, 10, 9, rfl, rfl, ⟨by decide, by decide, by decide⟩, bx, _, rfl, B12, by decide, fun z H13 z0 z1 B13 b13 => ⟨_, z, rfl, rfl, ?_⟩⟩
    have hL13 := b13 _ _ hL12 lbx
    have ls : (-1 : Int) - z < 0 := by omega
    -- the refusals
    refine ⟨.int (-1 - z), rfl, .ref l, rfl, l, _, rfl, .inl (sqOf hL13), fun e2 ne2 => ⟨-1 - z, e2, ws, rfl, upd_same, by omega, .inl ls, fun H14 S14 => ⟨true, rfl, ?_⟩⟩⟩
    have S13 := (same_upd (o := .lst (ws.map V.int)) ne2).trans S14
    refine ⟨.int (-1 - z), rfl, Nat.zero_le _, fun e3 ne3 => ⟨-1 - z, e3, [], rfl, upd_same, by decide, .inl ls, fun H15 S15 => ⟨true, rfl, ?_⟩⟩⟩
    have S14' := (S13.trans (same_upd (o := .lst []) ne3)).trans S15
    have hL15 := S14' _ _ hL13
    have B15 := B13.same S14'
    -- near = list(weights)
    refine ⟨.ref l, rfl, l, _, rfl, .inl (sqOf hL15), fun nr nnr => ?_⟩
    have B16 := B15.same (same_upd (o := .lst (ws.map V.int)) nnr)
    have nb : nr ≠ bx := B15.off nnr
    refine ⟨fun σ' H' => ∃ us : List Int, (0 < us.length ∧ us.length ≤ 61) ∧ Small us ∧ σ' = [some (.ref a), some (.ref l), some (.int t), some (.ref bx), some (.ref ps), some (.ref td), some (.int (-1 - z)), some (.ref nr), none, none, none, none, none] ∧ H' nr = some (.lst (us.map V.int)) ∧ Box H' bx, ?_, ?_⟩
    · refine ⟨.ref nr, rfl, nr, _, rfl, .inl (sqOf upd_same), rfl, _, rfl, ite2 (fun e => ?_) (fun e => ?_)⟩
      · have e0 : ((ws.map V.int).length : Int) = 0 := V.int.inj (of_decide_eq_true e)
        refine ⟨.ref nr, rfl, .inl ⟨rfl, _, sqOf upd_same⟩, nr, _, _, rfl, rfl, upd_same, by rw [List.length_map]; exact small1000 (by omega), ?_⟩
        refine ⟨[0], ⟨by decide, by decide⟩, ⟨by decide, fun x hx => by rw [List.mem_singleton.mp hx]; decide⟩, rfl, ?_, B16.put nb⟩
        have ew : ws = [] := by
          cases ws with
          | nil => rfl
          | cons x r =>
            rw [List.length_map, List.length_cons] at e0
            omega
        rw [upd_same, ew]
        rfl
      · refine (⟨ws, ⟨?_, by omega⟩, sm, rfl, upd_same, B16⟩ : ∃ us : List Int, (0 < us.length ∧ us.length ≤ 61) ∧ Small us ∧ ([some (.ref a), some (.ref l), some (.int t), some (.ref bx), some (.ref ps), some (.ref td), some (.int (-1 - z)), some (.ref nr), none, none, none, none, none] : L2.St) = [some (V.ref a), some (.ref l), some (.int t), some (.ref bx), some (.ref ps), some (.ref td), some (.int (-1 - z)), some (.ref nr), none, none, none, none, none] ∧ _ = some (.lst (us.map V.int)) ∧ Box _ bx)
        cases ws with
        | nil => exact absurd (decide_eq_true rfl) e
        | cons x r => exact Nat.succ_pos _
    rintro σ' H16 ⟨us, ⟨u0, u61⟩, su, rfl, hN16, B16⟩
    have sl := su.len
    -- at = draw(box, len(near))
    refine ⟨.ref bx, rfl, .ref nr, rfl, nr, _, rfl, .inl (sqOf hN16), bx, _, rfl, B16, by rw [List.length_map]; omega, fun kk H17 k0 k1 B17 b17 => ?_⟩
    rw [List.length_map] at k1
    obtain ⟨j, rfl⟩ : ∃ j : Nat, kk = (j : Int) := ⟨kk.toNat, by omega⟩
    have hj : j < us.length := by omega
    have hN17 := b17 _ _ hN16 nb
    -- near[at] = 0
    refine ⟨.ref nr, rfl, .int (j : Int), rfl, nr, _, j, j, rfl, rfl, hN17, ixj (by rw [List.length_map]; exact hj), ?_⟩
    have sv : Small (us.set j 0) := ⟨by rw [List.length_set]; exact su.len, fun x hx => by
      rcases List.mem_or_eq_of_mem_set hx with h | h
      · exact su.b x h
      · rw [h]; decide⟩
    obtain ⟨v0, v1⟩ := sv.sum
    have vl : (us.set j 0).length = us.length := List.length_set
    have hN18 : (upd H17 nr (.lst ((us.map V.int).set j (.int 0)))) nr = some (.lst ((us.set j 0).map V.int)) := by rw [upd_same, List.map_set]
    have B18 := B17.put (o := .lst ((us.map V.int).set j (.int 0))) nb
    generalize eV : us.set j 0 = vs at sv v0 v1 vl hN18
    generalize eH : upd H17 nr (.lst ((us.map V.int).set j (.int 0))) = H18 at hN18 B18
    have hjv : j < vs.length := by omega
    clear eH
    -- spoilt = list(near); spoilt[at] = less
    refine ⟨.ref nr, rfl, nr, _, rfl, .inl (sqOf hN18), fun sp nsp => ?_⟩
    have nsn : nr ≠ sp := ne_of_none hN18 nsp
    have bsp : sp ≠ bx := B18.off nsp
    refine ⟨.int (-1 - z), rfl, .ref sp, rfl, .int (j : Int), rfl, sp, _, j, j, rfl, rfl, upd_same, ixj (by rw [List.length_map]; exact hjv), ?_⟩
    rw [upd_upd]
    have hN19 : (upd H18 sp (.lst ((vs.map V.int).set j (.int (-1 - z))))) nr = some (.lst (vs.map V.int)) := by rw [upd_ne nsn]; exact hN18
    have hP19 : (upd H18 sp (.lst ((vs.map V.int).set j (.int (-1 - z))))) sp = some (.lst ((vs.set j (-1 - z)).map V.int)) := by rw [upd_same, List.map_set]
    have B19 := B18.put (o := .lst ((vs.map V.int).set j (.int (-1 - z)))) bsp
    generalize eH : upd H18 sp (.lst ((vs.map V.int).set j (.int (-1 - z)))) = H19 at hN19 hP19 B19
    clear eH
    -- even = near + [1]; even[at] = -sum(even)
    refine ⟨.ref nr, rfl, by show 1 ≤ sizeLine; decide, fun o1 no1 => ⟨nr, o1, _, _, rfl, rfl, by rw [upd_ne (ne_of_none hN19 no1)]; exact hN19, upd_same, by rw [List.length_map]; show vs.length + 1 ≤ sizeLine; omega, fun ev nev => ?_⟩⟩
    have S20 := (same_upd (o := .lst [.int 1]) no1).trans (same_upd (o := .lst (vs.map V.int ++ [.int 1])) nev)
    have hE20 : (upd (upd H19 o1 (.lst [.int 1])) ev (.lst (vs.map V.int ++ [.int 1]))) ev = some (.lst ((vs ++ [1]).map V.int)) := by rw [upd_same, List.map_append]; rfl
    have hN20 := S20 _ _ hN19
    have hP20 := S20 _ _ hP19
    have B20 := B19.same S20
    have nev' : H19 ev = none := (same_upd no1).free nev
    have nen : nr ≠ ev := ne_of_none hN19 nev'
    have pen : sp ≠ ev := ne_of_none hP19 nev'
    have ben : ev ≠ bx := B19.off nev'
    generalize eH : upd (upd H19 o1 (.lst [.int 1])) ev (.lst (vs.map V.int ++ [.int 1])) = H20 at hE20 hN20 hP20 B20
    clear eH S20 nev
    refine ⟨.ref ev, rfl, ev, vs ++ [1], rfl, sqOf hE20, _, rfl, .ref ev, rfl, .int (j : Int), rfl, ev, _, j, j, rfl, rfl, hE20, ixj (by rw [List.length_map, List.length_append]; omega), ?_⟩
    have es : (vs ++ [1]).sum = vs.sum + 1 := by rw [List.sum_append]; rfl
    have hE21 : (upd H20 ev (.lst (((vs ++ [1]).map V.int).set j (.int (-(vs ++ [1]).sum))))) ev = some (.lst (((vs ++ [1]).set j (-(vs ++ [1]).sum)).map V.int)) := by rw [upd_same, List.map_set]
    have hN21 : (upd H20 ev (.lst (((vs ++ [1]).map V.int).set j (.int (-(vs ++ [1]).sum))))) nr = some (.lst (vs.map V.int)) := by rw [upd_ne nen]; exact hN20
    have hP21 : (upd H20 ev (.lst (((vs ++ [1]).map V.int).set j (.int (-(vs ++ [1]).sum))))) sp = some (.lst ((vs.set j (-1 - z)).map V.int)) := by rw [upd_ne pen]; exact hP20
    have B21 := B20.put (o := .lst (((vs ++ [1]).map V.int).set j (.int (-(vs ++ [1]).sum)))) ben
    generalize eH : upd H20 ev (.lst (((vs ++ [1]).map V.int).set j (.int (-(vs ++ [1]).sum)))) = H21 at hE21 hN21 hP21 B21
    clear eH
    have bad1 : Bad t (vs.set j (-1 - z)) := .inr ⟨-1 - z, List.mem_set (by omega) _, ls⟩
    have bad2 : Bad t ((vs ++ [1]).set j (-(vs ++ [1]).sum)) := .inr ⟨_, List.mem_set (by rw [List.length_append]; omega) _, by rw [es]; omega⟩
    -- for bad in [spoilt, even]
    refine ⟨.ref sp, rfl, .ref ev, rfl, by show 2 ≤ sizeLine; decide, fun o2 no2 => ⟨o2, rfl, ⟨_, sqOf upd_same⟩, ?_⟩⟩
    have S22 := same_upd (o := .lst [.ref sp, .ref ev]) no2
    have hE22 := S22 _ _ hE21
    have hN22 := S22 _ _ hN21
    have hP22 := S22 _ _ hP21
    have B22 := B21.same S22
    have hO22 : (upd H21 o2 (.lst [.ref sp, .ref ev])) o2 = some (.lst [.ref sp, .ref ev]) := upd_same
    generalize eH : upd H21 o2 (.lst [.ref sp, .ref ev]) = H22 at hE22 hN22 hP22 B22 hO22
    clear eH S22
    have each : ∀ x ∈ [V.ref sp, V.ref ev], ∃ (y : Addr) (zs : List Int), x = .ref y ∧ H22 y = some (.lst (zs.map V.int)) ∧ zs.length ≤ 100 ∧ Bad t zs := fun x hx => by
      rcases List.mem_cons.mp hx with h | h
      · exact ⟨sp, _, h, hP22, by rw [List.length_set]; omega, bad1⟩
      · rw [List.mem_singleton] at h
        exact ⟨ev, _, h, hE22, by rw [List.length_set, List.length_append]; show vs.length + 1 ≤ 100; omega, bad2⟩
    refine for_list (K := K) (a := o2) (xs := [.ref sp, .ref ev]) (fun i σ H' => ∃ y : Option V, σ = [some (.ref a), some (.ref l), some (.int t), some (.ref bx), some (.ref ps), some (.ref td), some (.int (-1 - z)), some (.ref nr), some (.int (j : Int)), some (.ref sp), some (.ref ev), y, none] ∧ Same H22 H') ⟨none, rfl, Same.refl _⟩ (fun i σ H' _ ⟨_, _, S⟩ => sqOf (S _ _ hO22)) ?_ ?_
    · rintro i x σ H' hx ⟨y, rfl, S⟩
      obtain ⟨y2, zs, rfl, hy, hzl, hbad⟩ := each x (List.mem_of_getElem? hx)
      have hy' := S _ _ hy
      refine ⟨.int t, rfl, .ref y2, rfl, y2, _, rfl, .inl (sqOf hy'), fun c1 nc1 => ⟨t, c1, zs, rfl, upd_same, hzl, hbad, fun Ha Sa => ⟨true, rfl, ?_⟩⟩⟩
      have S1 := (same_upd (o := .lst (zs.map V.int)) nc1).trans Sa
      refine ⟨.int (-1 - z), rfl, .ref y2, rfl, y2, _, rfl, .inl (sqOf (S1 _ _ hy')), fun c2 nc2 => ⟨-1 - z, c2, zs, rfl, upd_same, hzl, .inl ls, fun Hb Sb => ⟨true, rfl, ?_⟩⟩⟩
      exact ⟨_, rfl, ((S.trans S1).trans (same_upd (o := .lst (zs.map V.int)) nc2)).trans Sb⟩
    rintro σ' H23 ⟨y, rfl, S23⟩
    have hN23 := S23 _ _ hN22
    have B23 := B22.same S23
    -- fair(total, [], share_out(total, []))
    have sm0 : Small [] := ⟨by decide, fun x hx => by cases hx⟩
    refine ⟨.int t, rfl, Nat.zero_le _, fun m1 nm1 => ⟨.int t, rfl, Nat.zero_le _, fun m2 nm2 => ⟨t, m2, [], rfl, upd_same, by decide, fun hb => (sm0.good t0 hb).elim, fun _ => ⟨by omega, sm0.wn, by decide, fun r2 ts2 H24 S24 nr2 hr2' F2 => ?_⟩⟩⟩⟩
    have hm1 : H24 m1 = some (.lst (([] : List Int).map V.int)) := S24 _ _ (by rw [upd_ne (ne_of_none upd_same nm2)]; exact upd_same)
    refine ⟨t, m1, r2, [], ts2, rfl, sqOf hm1, hr2', by decide, sm0.wn, by decide, F2, fun H25 S25 => ⟨true, rfl, ?_⟩⟩
    have S24' := (((same_upd (o := .lst []) nm1).trans (same_upd (o := .lst []) nm2)).trans S24).trans S25
    have hN25 := S24' _ _ hN23
    have B25 := B23.same S24'
    -- more = near + [1 + draw(9), 1 + draw(9)]
    refine ⟨.ref nr, rfl, .ref bx, rfl, bx, 9, rfl, B25, by decide, fun y1 H26 y10 y11 B26 b26 => ⟨1, y1, rfl, rfl, .ref bx, rfl, bx, 9, rfl, B26, by decide, fun y2 H27 y20 y21 B27 b27 => ⟨1, y2, rfl, rfl, ?_⟩⟩⟩
    have hN27 := b27 _ _ (b26 _ _ hN25 nb) nb
    refine ⟨by show 2 ≤ sizeLine; decide, fun o3 no3 => ⟨nr, o3, _, _, rfl, rfl, by rw [upd_ne (ne_of_none hN27 no3)]; exact hN27, upd_same, by rw [List.length_map]; show vs.length + 2 ≤ sizeLine; omega, fun mo nmo => ?_⟩⟩
    have smo : Small (vs ++ [1 + y1, 1 + y2]) := ⟨by rw [List.length_append]; show vs.length + 2 ≤ 70; omega, fun x hx => by
      rcases List.mem_append.mp hx with h | h
      · exact sv.b x h
      · rcases List.mem_cons.mp h with h | h
        · rw [h]; omega
        · rw [List.mem_singleton.mp h]; omega⟩
    obtain ⟨q0, q1⟩ := smo.sum
    have hM28 : (upd (upd H27 o3 (.lst [.int (1 + y1), .int (1 + y2)])) mo (.lst (vs.map V.int ++ [.int (1 + y1), .int (1 + y2)]))) mo = some (.lst ((vs ++ [1 + y1, 1 + y2]).map V.int)) := by rw [upd_same, List.map_append]; rfl
    have hN28 := ((same_upd (o := .lst [.int (1 + y1), .int (1 + y2)]) no3).trans (same_upd (o := .lst (vs.map V.int ++ [.int (1 + y1), .int (1 + y2)])) nmo)) _ _ hN27
    have ml := smo.len
    generalize eH : upd (upd H27 o3 (.lst [.int (1 + y1), .int (1 + y2)])) mo (.lst (vs.map V.int ++ [.int (1 + y1), .int (1 + y2)])) = H28 at hM28 hN28
    clear eH nmo
    -- fair(1 + total, more, share_out(1 + total, list(more)))
    have t2 : (0 : Int) ≤ 1 + t := by omega
    refine ⟨.int t, rfl, 1, t, rfl, rfl, .ref mo, rfl, .int t, rfl, 1, t, rfl, rfl, .ref mo, rfl, mo, _, rfl, .inl (sqOf hM28), fun c3 nc3 => ⟨1 + t, c3, _, rfl, upd_same, by omega, fun hb => (smo.good t2 hb).elim, fun _ => ⟨by omega, smo.wn, by omega, fun r3 ts3 H29 S29 nr3 hr3' F3 => ?_⟩⟩⟩
    have S28 := (same_upd (o := .lst ((vs ++ [1 + y1, 1 + y2]).map V.int)) nc3).trans S29
    refine ⟨1 + t, mo, r3, _, ts3, rfl, sqOf (S28 _ _ hM28), hr3', by omega, smo.wn, by omega, F3, fun H30 S30 => ⟨true, rfl, ?_⟩⟩
    have hN30 := S30 _ _ (S28 _ _ hN28)
    -- fair(total, near, share_out(total, list(near)))
    have vl2 := sv.len
    refine ⟨.int t, rfl, .ref nr, rfl, .int t, rfl, .ref nr, rfl, nr, _, rfl, .inl (sqOf hN30), fun c4 nc4 => ⟨t, c4, vs, rfl, upd_same, by omega, fun hb => (sv.good t0 hb).elim, fun _ => ⟨by omega, sv.wn, by omega, fun r4 ts4 H31 S31 nr4 hr4' F4 => ?_⟩⟩⟩
    have S30' := (same_upd (o := .lst (vs.map V.int)) nc4).trans S31
    exact ⟨t, nr, r4, vs, ts4, rfl, sqOf (S30' _ _ hN30), hr4', by omega, sv.wn, by omega, F4, fun H32 S32 => q H32⟩
end
end Sh
namespace Sh
open PySem PySem.Spec PyProof.Rows L2
/-! ### min(xs, default=d) -/
def rMinDft (K : PySem.W.Frag) : List V → List V → Hp → VK → Prop := fun xs zs H Q => ∃ (a : Addr) (ns : List Int) (d : Int), xs = [.ref a] ∧ zs = [.int d] ∧ SqL K H a (ns.map V.int) ∧
  (ns = [] → Q (.int d) H) ∧ ∀ m, m ∈ ns → (∀ y, y ∈ ns → m ≤ y) → Q (.int m) H
section
variable {X : Cx}
theorem call_minDft (hc : X.calm = true) : CallRK X (.builtin "min") [Str.ofString "default"] (rMinDft X.K) := by
  intro pins s σ H xs zs us ws Q I r rz h
  obtain ⟨a, ns, d, rfl, rfl, hs, q0, q1⟩ := h
  obtain ⟨its, rv, hl, hz⟩ := I.list hs
  rw [Vals.ref1 r]
  obtain ⟨u, rfl, ru⟩ := vals1 rz
  have hi := rv.ints
  obtain ⟨xs, e⟩ := hi.allInts.items
  have hn : numsOf (intItems xs).toList = ns := by rw [← e]; exact hi.numsOf
  rw [nums_intItems] at hn
  subst hn
  have hl' := hl.isList
  rw [e] at hl'
  show wpAny _ _ (call (.builtin "min") [.ref a] [(Str.ofString "default", u)]) _ _ _
  refine call_min_walkD (PySem.W.iter_listW (A := X.A.in1) (I.ok.hd hc) hl' fun s₂ e2 W st hfp hw hk => ?_)
  refine ⟨_, _, _, _, _, _, _, s.heap, (fun i j => decide (numAt xs i < numAt xs j)), rfl, W, st, hfp, hw, hk, fun hz s' m => ?_, fun hp => ⟨fun i j vi vj s Q E _ h1 h2 h3 => CmpOf.ints_lt (numAt xs) (fun _ _ => intItems_at) i j vi vj s Q E h1 h2 h3, fun v s' hP m => ?_⟩⟩
  · obtain ⟨h', tk, rfl, hk'⟩ := PySem.W.moved_old e2 rfl m
    have e0 : xs.size = 0 := by simpa [intItems] using hz
    refine ⟨.int d, H, I.kept hk', ru, q0 ?_⟩
    have : xs = #[] := Array.size_eq_zero_iff.mp e0
    rw [this]
    rfl
  · obtain ⟨h', tk, rfl, hk'⟩ := PySem.W.moved_old e2 rfl m
    have e0 : (intItems xs).size = xs.size := by simp [intItems]
    rw [e0] at hP hp
    obtain ⟨t, rfl⟩ := intItems_at hP
    obtain ⟨h1, h2⟩ := argBest_lt (numAt xs) (xs.size - 1)
    refine ⟨.int _, H, I.kept hk', ⟨_, rfl⟩, q1 _ ?_ fun y hy => ?_⟩
    · rw [numAt_eq]; exact PySem.getD_mem (by rw [List.length_map, Array.length_toList]; omega)
    · obtain ⟨j, hj, rfl⟩ := mem_getD hy
      rw [List.length_map, Array.length_toList] at hj
      rw [← numAt_eq]; exact h2 j (by omega)
end
end Sh
namespace Sh
open PySem PySem.Spec PyProof.Rows L2
abbrev IP := Int × Int
def leI (p q : IP) : Bool := decide (p.1 < q.1 ∨ (p.1 = q.1 ∧ p.2 ≤ q.2))
theorem leI_total : PySem.W.TotalLe leI := ⟨fun a b c h1 h2 => by
  have h1 := of_decide_eq_true h1
  have h2 := of_decide_eq_true h2
  exact decide_eq_true (by omega), fun a b => by
  by_cases h : a.1 < b.1 ∨ (a.1 = b.1 ∧ a.2 ≤ b.2)
  · exact .inl (decide_eq_true h)
  · exact .inr (decide_eq_true (by omega))⟩
def prs (t W : Int) (ws : List Int) : List IP := (List.range ws.length).map fun (k : Nat) => (-(t * ws.getD k 0 % W), (k : Int))
def bse (t W : Int) (ws : List Int) : List Int := ws.map fun w => t * w / W
def lift (xs : List Int) (idx : List Int) : List Int := (List.range xs.length).map fun (k : Nat) => xs.getD k 0 + (if (k : Int) ∈ idx then 1 else 0)
theorem sum_addf {α : Type} (f g : α → Int) : ∀ l : List α, (l.map fun x => f x + g x).sum = (l.map f).sum + (l.map g).sum
  | [] => rfl
  | x :: l => by
    simp only [List.map_cons, List.sum_cons]
    rw [sum_addf f g l]
    omega
theorem sum_mulf {α : Type} (c : Int) (f : α → Int) : ∀ l : List α, (l.map fun x => c * f x).sum = c * (l.map f).sum
  | [] => by simp
  | x :: l => by
    simp only [List.map_cons, List.sum_cons]
    rw [sum_mulf c f l, Int.mul_add]
theorem perm_sum {l m : List Int} (h : l.Perm m) : l.sum = m.sum := by
  induction h with
  | nil => rfl
  | cons x _ ih => rw [List.sum_cons, List.sum_cons, ih]
  | swap x y l => simp only [List.sum_cons]; omega
  | trans _ _ a b => exact a.trans b
theorem map_getD : ∀ xs : List Int, ((List.range xs.length).map fun k => xs.getD k 0) = xs := fun xs => by
  refine List.ext_getElem (by simp) fun i h1 h2 => ?_
  rw [List.getElem_map, List.getElem_range, getD_at h2]
theorem one_at : ∀ (n : Nat) (a : Int), 0 ≤ a → a < n → ((List.range n).map fun (k : Nat) => if (k : Int) = a then (1 : Int) else 0).sum = 1
  | 0, a, h0, h1 => by omega
  | n + 1, a, h0, h1 => by
    rw [List.range_succ, List.map_append, List.sum_append_int]
    by_cases e : (n : Int) = a
    · have z : ((List.range n).map fun (k : Nat) => if (k : Int) = a then (1 : Int) else 0) = (List.range n).map fun (_ : Nat) => (0 : Int) := by
        refine List.map_congr_left fun k hk => if_neg ?_
        have := List.mem_range.mp hk
        omega
      rw [z]
      have z2 : ∀ m : Nat, ((List.range m).map fun (_ : Nat) => (0 : Int)).sum = 0 := fun m => by
        rw [List.map_const']
        induction (List.range m).length with
        | zero => rfl
        | succ k ih => rw [List.replicate_succ, List.sum_cons, ih]; rfl
      rw [z2]
      simp [e]
    · rw [one_at n a h0 (by omega)]
      simp [e]
theorem cnt (n : Nat) : ∀ idx : List Int, idx.Nodup → (∀ x ∈ idx, 0 ≤ x ∧ x < n) → ((List.range n).map fun (k : Nat) => if (k : Int) ∈ idx then (1 : Int) else 0).sum = idx.length
  | [], _, _ => by
    have z2 : ∀ m : Nat, ((List.range m).map fun (_ : Nat) => (0 : Int)).sum = 0 := fun m => by
      rw [List.map_const']
      induction (List.range m).length with
      | zero => rfl
      | succ k ih => rw [List.replicate_succ, List.sum_cons, ih]; rfl
    simpa using z2 n
  | a :: idx, hn, hb => by
    have hn' := List.nodup_cons.mp hn
    have e : ((List.range n).map fun (k : Nat) => if (k : Int) ∈ a :: idx then (1 : Int) else 0) = (List.range n).map fun (k : Nat) => (if (k : Int) = a then (1 : Int) else 0) + (if (k : Int) ∈ idx then (1 : Int) else 0) := by
      refine List.map_congr_left fun k _ => ?_
      by_cases h1 : (k : Int) = a
      · rw [if_pos (List.mem_cons.mpr (.inl h1)), if_pos h1, if_neg (by rw [h1]; exact hn'.1)]
        rfl
      · by_cases h2 : (k : Int) ∈ idx
        · rw [if_pos (List.mem_cons_of_mem _ h2), if_neg h1, if_pos h2]
          rfl
        · rw [if_neg (fun z => (List.mem_cons.mp z).elim h1 h2), if_neg h1, if_neg h2]
          rfl
    rw [e, sum_addf, one_at n a (hb a (List.mem_cons_self ..)).1 (hb a (List.mem_cons_self ..)).2, cnt n idx hn'.2 fun x hx => hb x (List.mem_cons_of_mem _ hx), List.length_cons]
    omega
theorem sum_ge {α : Type} (f : α → Int) (c : Int) : ∀ l : List α, (∀ x ∈ l, c ≤ f x) → (l.length : Int) * c ≤ (l.map f).sum
  | [], _ => by simp
  | x :: l, h => by
    have h1 := h x (List.mem_cons_self ..)
    have h2 := sum_ge f c l fun y hy => h y (List.mem_cons_of_mem _ hy)
    rw [List.map_cons, List.sum_cons, List.length_cons, Int.natCast_add, Int.add_mul]
    omega
theorem sum_le' {α : Type} (f : α → Int) (c : Int) : ∀ l : List α, (∀ x ∈ l, f x ≤ c) → (l.map f).sum ≤ (l.length : Int) * c
  | [], _ => by simp
  | x :: l, h => by
    have h1 := h x (List.mem_cons_self ..)
    have h2 := sum_le' f c l fun y hy => h y (List.mem_cons_of_mem _ hy)
    rw [List.map_cons, List.sum_cons, List.length_cons, Int.natCast_add, Int.add_mul]
    omega
/-- one item below the bound: the sum is less -/
theorem sum_lt' {α : Type} (f : α → Int) (c : Int) : ∀ l : List α, (∀ x ∈ l, f x ≤ c) → (∃ x ∈ l, f x < c) → (l.map f).sum < (l.length : Int) * c
  | [], _, h => by obtain ⟨x, hx, _⟩ := h; cases hx
  | x :: l, h, hs => by
    have h1 := h x (List.mem_cons_self ..)
    have h2 := sum_le' f c l fun y hy => h y (List.mem_cons_of_mem _ hy)
    rw [List.map_cons, List.sum_cons, List.length_cons, Int.natCast_add, Int.add_mul]
    obtain ⟨y, hy, hlt⟩ := hs
    rcases List.mem_cons.mp hy with rfl | hy
    · omega
    · have := sum_lt' f c l (fun y hy => h y (List.mem_cons_of_mem _ hy)) ⟨y, hy, hlt⟩
      omega
def so (t W : Int) (ws : List Int) : List IP := (prs t W ws).mergeSort leI
def left (t W : Int) (ws : List Int) : Nat := (t - (bse t W ws).sum).toNat
def idx (t W : Int) (ws : List Int) : List Int := ((so t W ws).take (left t W ws)).map Prod.snd
theorem prs_mem {t W : Int} {ws : List Int} {p : IP} (h : p ∈ prs t W ws) : ∃ k : Nat, k < ws.length ∧ p = (-(t * ws.getD k 0 % W), (k : Int)) := by
  obtain ⟨k, hk, rfl⟩ := List.mem_map.mp h
  exact ⟨k, List.mem_range.mp hk, rfl⟩
theorem so_perm (t W : Int) (ws : List Int) : (so t W ws).Perm (prs t W ws) := List.mergeSort_perm _ _
theorem so_sorted (t W : Int) (ws : List Int) : (so t W ws).Pairwise fun a b => leI a b = true := PySem.W.sort_pairwise leI_total _
theorem snd_nodup (t W : Int) (ws : List Int) : ((so t W ws).map Prod.snd).Nodup := by
  refine (((so_perm t W ws).map Prod.snd).nodup_iff).mpr ?_
  unfold prs
  rw [List.map_map]
  refine List.Pairwise.map _ (fun a b h => ?_) List.nodup_range
  intro z
  exact h (Int.ofNat.inj z)
section
variable {t W : Int} {ws : List Int}
theorem split_sum (hW : 0 < W) (hs : ws.sum = W) : t * W = W * (bse t W ws).sum + (ws.map fun w => t * w % W).sum := by
  have h1 : (ws.map fun w => t * w).sum = t * ws.sum := by
    have := sum_mulf t (fun w : Int => w) ws
    rwa [List.map_id'] at this
  have h2 : (ws.map fun w => t * w) = ws.map fun w => W * (t * w / W) + t * w % W := List.map_congr_left fun w _ => (Int.mul_ediv_add_emod _ _).symm
  rw [hs] at h1
  rw [← h1, h2, sum_addf (fun w => W * (t * w / W)) (fun w => t * w % W), sum_mulf W (fun w => t * w / W)]
  rfl
theorem fst_sum : ((so t W ws).map fun p => -p.1).sum = (ws.map fun w => t * w % W).sum := by
  rw [perm_sum ((so_perm t W ws).map fun p => -p.1)]
  unfold prs
  rw [List.map_map]
  have e : ((fun p : IP => -p.1) ∘ fun (k : Nat) => (-(t * ws.getD k 0 % W), (k : Int))) = fun (k : Nat) => t * ws.getD k 0 % W := by
    funext k
    exact Int.neg_neg _
  rw [e]
  have := congrArg (fun l : List Int => (l.map fun w => t * w % W).sum) (map_getD ws)
  simp only [List.map_map] at this
  exact this
theorem rem_nn (hW : 0 < W) (w : Int) : 0 ≤ t * w % W ∧ t * w % W < W := ⟨Int.emod_nonneg _ (by omega), Int.emod_lt_of_pos _ hW⟩
theorem rsum_nn (hW : 0 < W) : 0 ≤ (ws.map fun w => t * w % W).sum := by
  have := sum_ge (fun w => t * w % W) 0 ws fun x _ => (rem_nn hW x).1
  omega
/-- what is left over, in cents -/
theorem left_eq (hW : 0 < W) (hs : ws.sum = W) : ((left t W ws : Nat) : Int) = t - (bse t W ws).sum ∧ W * (left t W ws : Nat) = (ws.map fun w => t * w % W).sum := by
  have h1 := split_sum (t := t) hW hs
  have h2 := rsum_nn (t := t) (ws := ws) hW
  have e : W * (t - (bse t W ws).sum) = (ws.map fun w => t * w % W).sum := by
    rw [Int.mul_sub, Int.mul_comm W t]
    omega
  have nn : 0 ≤ t - (bse t W ws).sum := by
    rcases Int.lt_or_le (t - (bse t W ws).sum) 0 with h | h
    · have := Int.mul_neg_of_pos_of_neg hW h
      omega
    · exact h
  have e2 : ((left t W ws : Nat) : Int) = t - (bse t W ws).sum := Int.toNat_of_nonneg nn
  exact ⟨e2, by rw [e2]; exact e⟩
theorem so_len : (so t W ws).length = ws.length := by
  rw [(so_perm t W ws).length_eq]
  unfold prs
  rw [List.length_map, List.length_range]
theorem left_le (hW : 0 < W) (hs : ws.sum = W) : left t W ws ≤ ws.length := by
  have h1 := (left_eq (t := t) hW hs).2
  have h2 := sum_le' (fun w => t * w % W) W ws fun x _ => Int.le_of_lt (rem_nn hW x).2
  rw [← h1, Int.mul_comm] at h2
  have := Int.le_of_mul_le_mul_right h2 hW
  omega
theorem take_drop : so t W ws = (so t W ws).take (left t W ws) ++ (so t W ws).drop (left t W ws) := (List.take_append_drop _ _).symm
theorem idx_nodup : (idx t W ws).Nodup := by
  unfold idx
  rw [List.map_take]
  exact (snd_nodup t W ws).sublist (List.take_sublist _ _)
theorem idx_len (hW : 0 < W) (hs : ws.sum = W) : (idx t W ws).length = left t W ws := by
  unfold idx
  rw [List.length_map, List.length_take, so_len]
  exact Nat.min_eq_left (left_le hW hs)
theorem idx_b : ∀ x ∈ idx t W ws, 0 ≤ x ∧ x < ws.length := fun x hx => by
  obtain ⟨p, hp, rfl⟩ := List.mem_map.mp hx
  obtain ⟨k, hk, rfl⟩ := prs_mem ((so_perm t W ws).mem_iff.mp (List.mem_of_mem_take hp))
  exact ⟨by show 0 ≤ (k : Int); omega, by show (k : Int) < _; omega⟩
theorem in_so {k : Nat} (hk : k < ws.length) : (-(t * ws.getD k 0 % W), (k : Int)) ∈ so t W ws := (so_perm t W ws).mem_iff.mpr (List.mem_map.mpr ⟨k, List.mem_range.mpr hk, rfl⟩)
theorem in_take {k : Nat} (h : (k : Int) ∈ idx t W ws) : (-(t * ws.getD k 0 % W), (k : Int)) ∈ (so t W ws).take (left t W ws) := by
  obtain ⟨p, hp, e⟩ := List.mem_map.mp h
  obtain ⟨j, hj, rfl⟩ := prs_mem ((so_perm t W ws).mem_iff.mp (List.mem_of_mem_take hp))
  have : j = k := by
    have e : (j : Int) = (k : Int) := e
    omega
  subst this
  exact hp
theorem in_drop {k : Nat} (hk : k < ws.length) (h : (k : Int) ∉ idx t W ws) : (-(t * ws.getD k 0 % W), (k : Int)) ∈ (so t W ws).drop (left t W ws) := by
  have := in_so (t := t) (W := W) hk
  rw [take_drop, List.mem_append] at this
  rcases this with h1 | h1
  · exact (h (List.mem_map.mpr ⟨_, h1, rfl⟩)).elim
  · exact h1
theorem ahead {i j : Nat} (hj : j < ws.length) (hi : (i : Int) ∈ idx t W ws) (hn : (j : Int) ∉ idx t W ws) : leI (-(t * ws.getD i 0 % W), (i : Int)) (-(t * ws.getD j 0 % W), (j : Int)) = true := by
  have h := so_sorted t W ws
  rw [take_drop, List.pairwise_append] at h
  exact h.2.2 _ (in_take hi) _ (in_drop hj hn)
/-- what is lifted has a remainder -/
theorem rem_pos (hW : 0 < W) (hs : ws.sum = W) {i : Nat} (hi : (i : Int) ∈ idx t W ws) : 0 < t * ws.getD i 0 % W := by
  rcases Int.lt_or_le 0 (t * ws.getD i 0 % W) with h | h
  · exact h
  exfalso
  have h0 : t * ws.getD i 0 % W = 0 := Int.le_antisymm h (rem_nn hW _).1
  have hsum := fst_sum (t := t) (W := W) (ws := ws)
  rw [← (left_eq (t := t) hW hs).2, take_drop, List.map_append, List.sum_append_int] at hsum
  have hB : (((so t W ws).drop (left t W ws)).map fun p => -p.1).sum ≤ (((so t W ws).drop (left t W ws)).length : Int) * 0 := by
    refine sum_le' _ 0 _ fun p hp => ?_
    have h := so_sorted t W ws
    rw [take_drop, List.pairwise_append] at h
    have h2 := of_decide_eq_true (h.2.2 _ (in_take hi) p hp)
    simp only [h0] at h2
    omega
  have hA : (((so t W ws).take (left t W ws)).map fun p => -p.1).sum < (((so t W ws).take (left t W ws)).length : Int) * W := by
    refine sum_lt' _ W _ (fun p hp => ?_) ⟨_, in_take hi, ?_⟩
    · obtain ⟨j, hj, rfl⟩ := prs_mem ((so_perm t W ws).mem_iff.mp (List.mem_of_mem_take hp))
      have := (rem_nn (t := t) hW (ws.getD j 0)).2
      simp only [Int.neg_neg]
      omega
    · simp only [Int.neg_neg, h0]
      exact hW
  rw [List.length_take, so_len, Nat.min_eq_left (left_le hW hs), Int.mul_comm] at hA
  omega
theorem lift_at {xs ix : List Int} {k : Nat} (h : k < xs.length) : (lift xs ix).getD k 0 = xs.getD k 0 + (if (k : Int) ∈ ix then 1 else 0) := by
  unfold lift
  rw [getD_at (by rw [List.length_map, List.length_range]; exact h), List.getElem_map, List.getElem_range]
theorem bse_at {k : Nat} (h : k < ws.length) : (bse t W ws).getD k 0 = t * ws.getD k 0 / W := by
  unfold bse
  rw [getD_at (by rw [List.length_map]; exact h), List.getElem_map, getD_at h]
theorem fair_lift (hw : WNn ws) (h0 : ws.sum ≠ 0) : Fair t ws (lift (bse t ws.sum ws) (idx t ws.sum ws)) := by
  have hW : 0 < ws.sum := by
    have := sum_nn hw
    omega
  have hbl : (bse t ws.sum ws).length = ws.length := by unfold bse; rw [List.length_map]
  have at' : ∀ {k : Nat}, k < ws.length → (lift (bse t ws.sum ws) (idx t ws.sum ws)).getD k 0 = t * ws.getD k 0 / ws.sum + (if (k : Int) ∈ idx t ws.sum ws then 1 else 0) := fun {k} hk => by rw [lift_at (by rw [hbl]; exact hk), bse_at hk]
  refine ⟨?_, fun h => (h0 h).elim, fun _ => ?_, fun _ k hk => ?_, fun _ k hk => ?_, fun _ i j hi hj h1 h2 => ?_⟩
  · unfold lift
    rw [List.length_map, List.length_range, hbl]
  · unfold lift
    rw [sum_addf, map_getD, hbl, cnt ws.length _ idx_nodup idx_b, idx_len hW rfl, (left_eq hW rfl).1]
    omega
  · rw [at' hk]
    split <;> omega
  · rw [at' hk]
    have e := Int.mul_ediv_add_emod (t * ws.getD k 0) ws.sum
    have r := rem_nn (t := t) hW (ws.getD k 0)
    rw [Int.add_mul, Int.mul_comm _ ws.sum]
    split
    · next hi =>
      have rp := rem_pos hW rfl hi
      omega
    · omega
  · rw [at' hi] at h1
    rw [at' hj] at h2
    have hi' : (i : Int) ∈ idx t ws.sum ws := by
      by_cases h : (i : Int) ∈ idx t ws.sum ws
      · exact h
      · rw [if_neg h] at h1; omega
    have hj' : (j : Int) ∉ idx t ws.sum ws := fun h => by
      rw [if_pos h] at h2; omega
    have h := of_decide_eq_true (ahead hj hi' hj')
    simp only at h
    have hne : i ≠ j := fun e => hj' (e ▸ hi')
    unfold bef
    rw [Bool.or_eq_true, Bool.and_eq_true]
    rcases h with h | ⟨h, h3⟩
    · exact .inl (decide_eq_true (by omega))
    · exact .inr ⟨decide_eq_true (by omega), decide_eq_true (by omega)⟩
end
end Sh
namespace Sh
open PySem PySem.Spec PyProof.Rows L2
open PySem.W (EachIs AllAlike Sortable dataLe)
/-! ### xs[i] += e -/
section
variable {X : Cx}
theorem pget_list : PGet X (rIxL X.K) := by
  intro pins s σ H x y v u Q I rx ry h
  obtain ⟨p, xs, i, z, rfl, rfl, hq, he, q⟩ := h
  cases rx
  obtain ⟨t, rfl⟩ := ry
  obtain ⟨its, r, pl, hz⟩ := I.list hq
  obtain ⟨j, h1, h2, h3, h4, h5⟩ := atI_get he
  obtain ⟨w, ew, rw'⟩ := r.get h2
  have hl := r.length
  have hn := line63
  by_cases h0 : 0 ≤ i
  · have hj : i.toNat = j := by
      rw [seqIndex_of h0 h5] at h1
      exact Option.some.inj h1
    exact wpAny_getItem_list pl.isList h0 (by omega) (by rw [hj]; simpa using ew) ⟨z, H, I, rw', q⟩
  · have hj : (i + (its.toArray.size : Int)).toNat = j := by
      rw [seqIndex_neg (by omega) h4] at h1
      rw [List.size_toArray, ← hl]
      exact Option.some.inj h1
    exact wpAny_getItem_list_neg pl.isList (by omega) (by rw [List.size_toArray] <;> omega) (by omega) (by rw [hj]; simpa using ew) ⟨z, H, I, rw', q⟩
/-! ### sorted, any number of items -/
theorem vals_each : ∀ {bs : List (V × PyData)} {us : List Value}, Vals (bs.map Prod.fst) us → EachIs (fun (v : Value) (b : V × PyData) => RelV b.1 v) us bs
  | [], _, r => by cases r; exact .nil
  | b :: bs, _, r => by
    cases r with
    | cons r1 r2 => exact .cons r1 (vals_each r2)
theorem each_vals : ∀ {bs : List (V × PyData)} {us : List Value}, EachIs (fun (v : Value) (b : V × PyData) => RelV b.1 v) us bs → Vals (bs.map Prod.fst) us
  | [], _, r => by cases r; exact .nil
  | b :: bs, _, r => by
    cases r with
    | cons r1 r2 => exact .cons r1 (each_vals r2)
theorem each_imp {α β : Type} {R S : α → β → Prop} : ∀ {as : List α} {bs : List β}, EachIs R as bs → (∀ a b, b ∈ bs → R a b → S a b) → EachIs S as bs
  | _, _, .nil, _ => .nil
  | _, _, .cons h t, k => .cons (k _ _ (List.mem_cons_self ..) h) (each_imp t fun a b hb => k a b (List.mem_cons_of_mem _ hb))
def rSortDt (K : PySem.W.Frag) : List V → Hp → VK → Prop := fun vs H Q => ∃ (a : Addr) (bs : List (V × PyData)), vs = [.ref a] ∧ SqL K H a (bs.map Prod.fst) ∧ (∀ b ∈ bs, Dp K H b.1 b.2) ∧ AllAlike (bs.map Prod.snd) ∧ Sortable (bs.map Prod.snd) ∧ (∀ b ∈ bs, b.2.depth ≤ 10) ∧
  ∀ p, H p = none → Q (.ref p) (upd H p (.lst ((bs.mergeSort (dataLe false Prod.snd)).map Prod.fst)))
theorem cr_sortedDt (hu : X.A.units + 64 < cLine) : CallR X (.builtin "sorted") (rSortDt X.K) := by
  intro pins s σ H vs us Q I r h
  obtain ⟨a, bs, rfl, hs, hd, hal, hso, hdp, q⟩ := h
  obtain ⟨its, rv, hl, hz⟩ := I.list hs
  rw [Vals.ref1 r]
  have e := vals_each rv
  rw [List.length_map] at hz
  refine PySem.W.sorted_data (enc := Prod.snd) hl.isList e (each_imp e fun v b hb rb => Dp.reads I b.2 b.1 v (hd b hb) rb) hal hso hz (fun b hb => by have := hdp b hb; omega) fun out ho eo => ?_
  obtain ⟨ep, he'⟩ := PyProof.Rows.sortedAll_at s.heap its out.toArray
  have hlen : ((bs.mergeSort (dataLe false Prod.snd)).map Prod.fst).length ≤ sizeLine := by
    rw [List.length_map, List.length_mergeSort]
    exact hz
  exact ⟨.ref _, upd H (s.heap.objs.size + 1) (.lst ((bs.mergeSort (dataLe false Prod.snd)).map Prod.fst)), I.laid (t' := s.toks) (fun _ _ => PyProof.Rows.sortedAll_old) (Nat.le_succ _) ⟨hlen, out, ep, each_vals eo, he'⟩, rfl, q _ (I.hok.fresh (Nat.le_succ _))⟩
end
end Sh
namespace Sh
open PySem PySem.Spec PyProof.Rows L2
open PySem.W (EachIs AllAlike Sortable dataLe)
abbrev NSh : List Str := ["total", "weights", "whole", "at", "shares", "order", "_", "weight"]
theorem scShare : FnScope NSh ["total", "weights"] (defScope sShare) := ⟨rfl, rfl, rfl, by decide +kernel, rfl, by decide +kernel, by decide +kernel⟩
structure Blt2 (mg : Str → Option Value) : Prop where
  min : mg "min" = none
  sorted : mg "sorted" = none
  enum : mg "enumerate" = none
structure Mm (K : PySem.W.Frag) (x qual : Str) (st : Stmt) (ps : List Str) (f : Addr) (fd : FuncData) : Prop where
  F : Fun K x qual st f fd
  b : Binds K fd ps []
abbrev AE := Addr × IP
def kE (e : AE) : V × PyData := (.ref e.1, .tuple [.int e.2.1, .int e.2.2])
def leE (a b : AE) : Bool := leI a.2 b.2
theorem sort_kE (es : List AE) : ((es.map kE).mergeSort (dataLe false Prod.snd)).map Prod.fst = (es.mergeSort leE).map fun e => V.ref e.1 := by
  have e : (es.mergeSort leE).map kE = (es.map kE).mergeSort (dataLe false Prod.snd) := PySem.W.sort_maps kE fun a _ b _ => by
    have := congrFun (congrFun (PySem.W.dataLe_ii (fun e : AE => e.2.1) (fun e : AE => e.2.2)) a) b
    exact this.symm
  rw [← e, List.map_map]
  rfl
theorem sort_snd (es : List AE) : (es.mergeSort leE).map (·.2) = (es.map (·.2)).mergeSort leI := PySem.W.sort_maps (fun e : AE => e.2) fun a _ b _ => rfl
/-- the pairs of order, each its own tuple -/
structure PrsAt (H : Hp) (l : Addr) (es : List AE) : Prop where
  l : H l = some (.lst (es.map fun e => V.ref e.1))
  t : ∀ e ∈ es, H e.1 = some (.tup [.int e.2.1, .int e.2.2])
theorem ints_set {xs : List Int} {k : Nat} {v : Int} : (xs.map V.int).set k (.int v) = (xs.set k v).map V.int := by
  rw [List.map_set]
theorem lift_set {xs ix : List Int} {k : Nat} (hk : k < xs.length) (hn : (k : Int) ∉ ix) : (lift xs ix).set k ((lift xs ix).getD k 0 + 1) = lift xs (ix ++ [(k : Int)]) := by
  have hl : (lift xs ix).length = xs.length := by unfold lift; rw [List.length_map, List.length_range]
  refine List.ext_getElem (by unfold lift; simp) fun i h1 h2 => ?_
  rw [List.length_set, hl] at h1
  rw [List.getElem_set]
  have e2 : (lift xs (ix ++ [(k : Int)]))[i]'h2 = xs.getD i 0 + (if (i : Int) ∈ ix ++ [(k : Int)] then 1 else 0) := by
    rw [← getD_at h2, lift_at h1]
  rw [e2]
  by_cases e : k = i
  · subst e
    rw [if_pos rfl, lift_at hk, if_neg hn, if_pos (List.mem_append.mpr (.inr (List.mem_singleton.mpr rfl)))]
    omega
  · rw [if_neg e]
    have e3 : (lift xs ix)[i]'(by rw [hl]; exact h1) = xs.getD i 0 + (if (i : Int) ∈ ix then 1 else 0) := by
      rw [← getD_at (by rw [hl]; exact h1), lift_at h1]
    rw [e3]
    congr 1
    by_cases m : (i : Int) ∈ ix
    · rw [if_pos m, if_pos (List.mem_append.mpr (.inl m))]
    · rw [if_neg m, if_neg fun z => (List.mem_append.mp z).elim m fun z => e (by have := List.mem_singleton.mp z; omega)]
theorem lift_nil (xs : List Int) : lift xs [] = xs := by
  unfold lift
  have : (fun (k : Nat) => xs.getD k 0 + (if (k : Int) ∈ ([] : List Int) then 1 else 0)) = fun k => xs.getD k 0 := by
    funext k
    rw [if_neg List.not_mem_nil]
    omega
  rw [this, map_getD]
section
variable {P : Program} {w : World} {K : PySem.W.Frag} {mg : Str → Option Value} {base : Heap}
theorem ok_share {f C CI : Addr} {fd fdI : FuncData} (F : Fun K "share_out" "share_out" sShare f fd) (B : Blt mg) (B2 : Blt2 mg) (T : ErrC K C CI "what") (M : Mm K "__init__" "Invalid.__init__" sInv ["self", "what"] CI fdI) (gC : mg "Invalid" = some (.ref C)) :
    FnOk P w K mg base (L2.CX P w) 3 f fd ["total", "weights"] (spShare K C) := by
  have GE : FnOk P w K mg base CX0 1 CI fdI ["self", "what"] (spErr K "what") := ok_inv M.F
  refine F.okX scShare (fun vs H Q E h => ?_) (fun cdv A outer s H vs Q E hr h => ?_)
  · obtain ⟨t, l, ws, rfl, _⟩ := h
    rfl
  · obtain ⟨t, l, ws, rfl, hl, hn, qB, qG⟩ := h
    refine ⟨_, C8.pss_cut (ps_if (PW.pt (pw_or (pt_cmpR op_lt (pv 0) pe_int (nomark _)) (pw_or1 (pt_cmpR op_lt (pe_callBK (call_minDft rfl) (by rfl) B2.min (by decide +kernel) (pa_cons (pv 1) pa_nil) (pk_cons pe_int pk_nil)) pe_int (nomark _)))))
        (pss_one (ps_raise rfl (takes_of rfl rfl rfl rfl) (pmk_oex T.ox T.iC T.tI GE hr M.b .nil pass0 (by rfl) gC (pa_cons pe_str pa_nil)))) pss_nil)
      (pss_cons (ps_set (i := 2) scShare.nd rfl (.inr rfl) (pe_callB (cr_sum rfl) (by rfl) B.sum (by decide +kernel) (pa_cons (pv 1) pa_nil)))
      (pss_cons (ps_if (pt_cmpR op_eq (pv 2) pe_int (nomark _)) (pss_one (ps_ret (pe_lc (own := [("at", 3)]) (g := gName 3) (by rfl) scShare.nd (pi_range1 (by rfl) B.range (pa_cons (pe_callB call_len_seq (by rfl) B.len PySem.boot_len (pa_cons (pv 1) pa_nil)) pa_nil)) (blkOk_by (N := NSh) (sc := defScope sShare) (by decide +kernel)) (fun _ _ _ _ _ => pg_name (i := 3) scShare.nd rfl (Or.inl rfl)) (fun _ _ _ _ _ => pts_nil) (fun _ _ _ _ _ => pe_ifExp (pt_cmpR op_eq (pv 3) pe_int (nomark _)) (pv 0) pe_int)))) pss_nil)
      (pss_cons (ps_setLc (i := 4) (own := [("weight", 7)]) (g := gName 7) (by rfl) scShare.nd rfl rfl (sw_true rfl rfl rfl (by decide +kernel)) (pi_list (pv 1)) (blkOk_by (N := NSh) (sc := defScope sShare) (by decide +kernel)) (fun _ _ _ _ _ => pg_name (i := 7) scShare.nd rfl (Or.inl rfl)) (fun _ _ _ _ _ => pts_nil) (fun _ _ _ _ _ => pe_op op_fdivW (pe_op op_mul (pv 0) (pv 7)) (pv 2)))
      (pss_cons (ps_set (i := 5) scShare.nd rfl (.inl rfl) (pe_callB (cr_sortedDt hr.units) (by rfl) B2.sorted PyProof.Rows.boot_sorted (pa_cons (pe_lc (own := [("at", 3), ("weight", 7)]) (g := gTup K 2 (gCons (gName 3) (gCons (gName 7) gNil))) (by rfl) scShare.nd (pi_enum (by rfl) B2.enum (pa_cons (pv 1) pa_nil)) (blkOk_by (N := NSh) (sc := defScope sShare) (by decide +kernel)) (fun _ _ _ _ _ => pg_tup rfl (pgs_cons (pg_name (i := 3) scShare.nd rfl (Or.inl rfl)) (pgs_cons (pg_name (i := 7) scShare.nd rfl (Or.inl rfl)) pgs_nil))) (fun _ _ _ _ _ => pts_nil) (fun _ _ _ _ _ => pe_tup (pa_cons (pe_un un_neg (pe_op op_mod (pe_op op_mul (pv 0) (pv 7)) (pv 2))) (pa_cons (pv 3) pa_nil)))) pa_nil)))
      (pss_cons (ps_for (passes_of rfl) rfl (pi_list (pe_slice sl_list (pv 5) po_none (po_some (pe_op op_sub (pv 0) (pe_callB (cr_sum rfl) (by rfl) B.sum (by decide +kernel) (pa_cons (pv 4) pa_nil)))))) (pg_tup rfl (pgs_cons (pg_name (i := 6) scShare.nd rfl (.inl rfl)) (pgs_cons (pg_name (i := 3) scShare.nd rfl (.inl rfl)) pgs_nil)))
        (pss_one (ps_augS (pv 4) (pv 3) pget_list pe_int ip_add set_list)))
      (pss_one (ps_ret (pv 4)))))))), ?_⟩
    have raise : Bad t ws → ∀ H1, Same H H1 → ∀ a, H1 a = none → spErr K wWhat [.ref a, .str wWeights] (upd H1 a (exo a C none)) (fun u H4 => u = .non ∧ ∃ (d : Addr) (fs : List (Str × V)), H4 a = some (exo a C (some d)) ∧ H4 d = some (exd d fs) ∧ H1 d = none ∧ E (.ref C) (some d) (upd (del H4 a) d (.xd fs))) (fun _ _ _ => False) :=
      fun hb H1 S1 => err_made T (Q := E) fun d H4 S4 hd => qB hb d H4 (S1.trans S4) hd
    refine ⟨fun σ' H' => σ' = [some (.int t), some (.ref l), none, none, none, none, none, none] ∧ H' = H ∧ ¬ Bad t ws, ?_, ?_⟩
    · refine ⟨.int t, rfl, t, 0, rfl, rfl, _, rfl, ite2 (fun e1 => ?_) (fun e1 => ?_)⟩
      · have e1 : t < 0 := of_decide_eq_true e1
        exact iteT ⟨by decide, raise (.inl e1) H (Same.refl _)⟩
      have t0 : ¬ t < 0 := fun h => e1 (decide_eq_true h)
      refine ⟨.ref l, rfl, l, ws, 0, rfl, rfl, sqOf hl, fun e => ?_, fun m hm1 hm2 => ?_⟩
      · refine ⟨0, 0, rfl, rfl, _, rfl, iteF (A := False) ?_⟩
        exact (⟨rfl, rfl, fun h => h.elim t0 fun ⟨x, hx, _⟩ => by rw [e] at hx; cases hx⟩ : _ ∧ H = H ∧ ¬ Bad t ws)
      · refine ⟨m, 0, rfl, rfl, _, rfl, ite2 (fun e2 => ?_) (fun e2 => ?_)⟩
        · have e2 : m < 0 := of_decide_eq_true e2
          exact ⟨by decide, raise (.inr ⟨m, hm1, e2⟩) H (Same.refl _)⟩
        · exact (⟨rfl, rfl, fun h => h.elim t0 fun ⟨x, hx, h2⟩ => e2 (decide_eq_true (by have := hm2 x hx; omega))⟩ : _ ∧ H = H ∧ ¬ Bad t ws)
    rintro σ' H' ⟨rfl, rfl, hb⟩
    obtain ⟨t61, hw, hs60, q⟩ := qG hb
    have t0 : 0 ≤ t := by
      rcases Int.lt_or_le t 0 with h | h
      · exact (hb (.inl h)).elim
      · exact h
    have hss := sum_nn hw
    refine ⟨.ref l, rfl, l, ws, rfl, sqOf hl, ?_⟩
    refine ⟨.int ws.sum, rfl, rfl, _, rfl, ite2 (fun e => ?_) (fun e => ?_)⟩
    · have hW0 : ws.sum = 0 := V.int.inj (of_decide_eq_true e)
      refine ⟨.ref l, rfl, l, _, rfl, .inl (sqOf hl), _, rfl, by rw [List.length_map]; omega, by rw [List.length_map]; omega, fun D nD => ?_⟩
      refine lc_range (lo := 0) (n := ((ws.map V.int).length : Int).toNat) (fun j H1 => Same H' H1 ∧ H1 D = some (.lst (((List.range j).map fun (k : Nat) => if k = 0 then t else 0).map V.int))) ⟨same_upd nD, upd_same⟩ ?_ ?_
      · rintro j H1 hj ⟨S1, hD⟩
        rw [List.length_map] at hj
        refine ⟨rfl, ?_⟩
        have go : ∀ v : Int, v = (if j = 0 then t else 0) → ∃ acc, H1 D = some (.lst acc) ∧ acc.length < sizeLine ∧ (Same H' (upd H1 D (.lst (acc ++ [.int v]))) ∧ (upd H1 D (.lst (acc ++ [.int v]))) D = some (.lst (((List.range (j + 1)).map fun (k : Nat) => if k = 0 then t else 0).map V.int))) := by
          rintro v rfl
          refine ⟨_, hD, ?_, fun c o hc => ?_, ?_⟩
          · rw [List.length_map, List.length_map, List.length_range]
            exact small1000 (by omega)
          · rw [upd_ne (ne_of_none hc nD)]
            exact S1 _ _ hc
          · rw [upd_same, List.range_succ, List.map_append, List.map_append]
            rfl
        refine ⟨.int (0 + (j : Int)), rfl, rfl, _, rfl, ite2 (fun e3 => ?_) (fun e3 => ?_)⟩
        · have e3 : (0 : Int) + (j : Int) = 0 := V.int.inj (of_decide_eq_true e3)
          exact ⟨.int t, rfl, go t (by rw [if_pos (by omega)])⟩
        · exact go 0 (by rw [if_neg fun z => e3 (decide_eq_true (congrArg V.int (show (0 : Int) + (j : Int) = 0 by omega)))])
      · rintro H1 ⟨S1, hD⟩
        rw [List.length_map, Int.toNat_natCast] at hD
        exact q D _ H1 S1 nD hD ⟨by rw [List.length_map, List.length_range], fun _ => rfl, fun h => (h hW0).elim, fun h => (h hW0).elim, fun h => (h hW0).elim, fun h => (h hW0).elim⟩
    · have hW0 : ws.sum ≠ 0 := fun z => e (decide_eq_true (congrArg V.int z))
      have hWp : 0 < ws.sum := by omega
      have hW9 : ws.sum.natAbs < 2 ^ 61 := by omega
      have bd : ∀ {i : Nat}, i < ws.length → -(2 ^ 64) < ws.getD i 0 ∧ ws.getD i 0 < 2 ^ 64 := fun {i} h => by
        have := hw (ws.getD i 0) (by rw [getD_at h]; exact List.getElem_mem h)
        omega
      have hF := fair_lift (t := t) hw hW0
      generalize eW : ws.sum = W at *
      have ebl : (bse t W ws).length = ws.length := by unfold bse; rw [List.length_map]
      -- shares
      refine ⟨.ref l, rfl, l, rfl, ⟨_, sqOf hl⟩, fun D nD => ?_⟩
      refine lc_list (K := K) (a := l) (xs := ws.map V.int) (fun j H1 => Same H' H1 ∧ H1 D = some (.lst (((bse t W ws).take j).map V.int))) ⟨same_upd nD, upd_same⟩ (fun j H1 _ hP => sqOf (hP.1 _ _ hl)) (fun j x H1 hx hP => ?_) (fun H1 hP => ?_)
      · obtain ⟨S1, hD⟩ := hP
        have hj : j < ws.length := by
          have := (List.getElem?_eq_some_iff.mp hx).1
          rwa [List.length_map] at this
        rw [ints_at hj] at hx
        cases hx
        refine ⟨rfl, .int t, rfl, .int (ws.getD j 0), rfl, t, _, rfl, rfl, .inr (bd hj), .int W, rfl, _, _, rfl, rfl, wide_div hWp hW9 (by decide) (by decide), _, hD, ?_, fun c o hc => ?_, ?_⟩
        · rw [List.length_map, List.length_take]
          exact small1000 (by omega)
        · rw [upd_ne (ne_of_none hc nD)]
          exact S1 _ _ hc
        · have hj' : j < (bse t W ws).length := by omega
          rw [upd_same, List.take_add_one, List.getElem?_eq_getElem hj', List.map_append, ← getD_at hj', bse_at hj]
          rfl
      · obtain ⟨S1, hD⟩ := hP
        rw [List.length_map, ← ebl, List.take_length] at hD
        -- order
        refine ⟨.ref l, rfl, l, _, rfl, sqOf (S1 _ _ hl), fun G nG => ?_⟩
        refine lc_it (walk_enum (a := l) (xs := ws.map V.int)) (fun j H2 => ∃ es : List AE, Same H1 H2 ∧ PrsAt H2 G es ∧ es.map (·.2) = (prs t W ws).take j) ⟨[], same_upd nG, ⟨upd_same, fun e he => by cases he⟩, rfl⟩ (fun j H2 _ hP => ?_) (fun j x H2 H3 hj hP hy => ?_) (fun H2 hP => ?_)
        · obtain ⟨es, S2, _⟩ := hP
          exact sqOf (S2 _ _ (S1 _ _ hl))
        · obtain ⟨es, S2, E2, he⟩ := hP
          obtain ⟨U, x0, y0, rfl, nU, rfl, ex, ey⟩ := hy
          cases ex
          rw [List.length_map] at hj
          replace ey := (ints_at hj).symm.trans ey
          cases ey
          refine ⟨U, _, rfl, .of upd_same, rfl, .int (j : Int), _, rfl, .int (ws.getD j 0), _, rfl, rfl, rfl, ?_⟩
          refine ⟨.int t, rfl, .int (ws.getD j 0), rfl, t, _, rfl, rfl, .inr (bd hj), .int W, rfl, _, W, rfl, rfl, hWp, _, rfl, .int (j : Int), rfl, by show 2 ≤ sizeLine; decide, fun Z nZ => ?_⟩
          have nZ2 : H2 Z = none := by
            cases c : H2 Z with
            | none => rfl
            | some o => rw [upd_ne (ne_of_none c nU)] at nZ; rw [c] at nZ; cases nZ
          have hZU : Z ≠ U := fun c => by rw [c, upd_same] at nZ; cases nZ
          have S3 : Same H2 (upd (upd H2 U (.tup [.int (j : Int), .int (ws.getD j 0)])) Z (.tup [.int (-(t * ws.getD j 0 % W)), .int (j : Int)])) := (same_upd nU).trans (same_upd nZ)
          have hG3 := S3 _ _ E2.l
          have hel : es.length = j := by
            have := congrArg List.length he
            rw [List.length_map, List.length_take] at this
            have e2 : (prs t W ws).length = ws.length := by unfold prs; rw [List.length_map, List.length_range]
            omega
          have hpj : (prs t W ws)[j]? = some (-(t * ws.getD j 0 % W), (j : Int)) := by
            unfold prs
            rw [List.getElem?_map, List.getElem?_range hj]
            rfl
          have gz : ∀ e ∈ es, e.1 ≠ G := fun e m => ne_of (E2.t e m) E2.l (by intro z; cases z)
          refine ⟨_, hG3, by rw [List.length_map]; exact small1000 (by omega), es ++ [(Z, (-(t * ws.getD j 0 % W), (j : Int)))], fun c o hc => ?_, ⟨?_, fun e m => ?_⟩, ?_⟩
          · rw [upd_ne (ne_of_none hc nG)]
            exact S3 _ _ (S2 _ _ hc)
          · rw [upd_same, List.map_append]
            rfl
          · rcases List.mem_append.mp m with m | m
            · rw [upd_ne (gz e m)]
              exact S3 _ _ (E2.t e m)
            · rw [List.mem_singleton.mp m]
              have hZG : Z ≠ G := fun c => by rw [c] at nZ2; rw [E2.l] at nZ2; cases nZ2
              rw [upd_ne hZG, upd_same]
          · rw [List.map_append, he, List.take_add_one, hpj]
            rfl
        · obtain ⟨es, S2, E2, he⟩ := hP
          have hpl : (prs t W ws).length = ws.length := by unfold prs; rw [List.length_map, List.length_range]
          rw [List.length_map, ← hpl, List.take_length] at he
          have hel : es.length = ws.length := by rw [← hpl, ← he, List.length_map]
          refine ⟨G, es.map kE, rfl, sqOf ?_, fun b hb => ?_, fun d hd d' hd' => ?_, .inl fun d hd => ?_, fun b hb => ?_, fun O nO => ?_⟩
          · rw [E2.l, List.map_map]
            rfl
          · obtain ⟨e, m, rfl⟩ := List.mem_map.mp hb
            exact .tup (.of (E2.t e m)) (.cons (.int _) (.cons (.int _) .nil))
          · obtain ⟨b, hb, rfl⟩ := List.mem_map.mp hd
            obtain ⟨e, m, rfl⟩ := List.mem_map.mp hb
            obtain ⟨b', hb', rfl⟩ := List.mem_map.mp hd'
            obtain ⟨e', m', rfl⟩ := List.mem_map.mp hb'
            simp [kE, PySem.W.alike, PySem.W.alikeAll]
          · obtain ⟨b, hb, rfl⟩ := List.mem_map.mp hd
            obtain ⟨e, m, rfl⟩ := List.mem_map.mp hb
            exact ⟨_, _, rfl⟩
          · obtain ⟨e, m, rfl⟩ := List.mem_map.mp hb
            show (PyData.tuple [.int e.2.1, .int e.2.2]).depth ≤ 10
            simp [PyData.depth, PyData.depthAll]
          rw [sort_kE]
          have hsn : (es.mergeSort leE).map (·.2) = so t W ws := by rw [sort_snd, he]; rfl
          have hst : ∀ e ∈ es.mergeSort leE, H2 e.1 = some (.tup [.int e.2.1, .int e.2.2]) := fun e m => E2.t e (List.mem_mergeSort.mp m)
          generalize es.mergeSort leE = ss at *
          have S3 : Same H2 (upd H2 O (.lst (ss.map fun e => V.ref e.1))) := same_upd nO
          have hO : (upd H2 O (.lst (ss.map fun e => V.ref e.1))) O = some (.lst (ss.map fun e => V.ref e.1)) := upd_same
          generalize upd H2 O (.lst (ss.map fun e => V.ref e.1)) = H3 at *
          have hD3 := S3 _ _ (S2 _ _ hD)
          refine ⟨.ref O, rfl, .int t, rfl, .ref D, rfl, D, bse t W ws, rfl, sqOf hD3, t, _, rfl, rfl, _, rfl, O, _, rfl, sqOf hO, fun Y nY => ?_⟩
          rw [← (left_eq hWp eW).1, cut_hi, ← List.map_take]
          have S4 : Same H3 (upd H3 Y (.lst ((ss.take (left t W ws)).map fun e => V.ref e.1))) := same_upd nY
          have hY : (upd H3 Y (.lst ((ss.take (left t W ws)).map fun e => V.ref e.1))) Y = some (.lst ((ss.take (left t W ws)).map fun e => V.ref e.1)) := upd_same
          generalize upd H3 Y (.lst ((ss.take (left t W ws)).map fun e => V.ref e.1)) = H4 at *
          have hD4 := S4 _ _ hD3
          have hix : (ss.take (left t W ws)).map (fun e => e.2.2) = idx t W ws := by
            unfold idx
            rw [← hsn, ← List.map_take, List.map_map]
            rfl
          have tt : ∀ e ∈ ss.take (left t W ws), H4 e.1 = some (.tup [.int e.2.1, .int e.2.2]) := fun e m => S4 _ _ (S3 _ _ (hst e (List.mem_of_mem_take m)))
          have ixn := idx_nodup (t := t) (W := W) (ws := ws)
          have ixb := idx_b (t := t) (W := W) (ws := ws)
          generalize ss.take (left t W ws) = cs at *
          have hYD : Y ≠ D := fun c => by rw [c] at nY; rw [hD3] at nY; cases nY
          refine ⟨Y, rfl, ⟨_, sqOf hY⟩, for_it (walk_list (a := Y) (xs := cs.map fun e => V.ref e.1)) (fun i σ H5 => ∃ y3 y6, σ = [some (.int t), some (.ref l), some (.int W), y3, some (.ref D), some (.ref O), y6, none] ∧ But D H4 H5 ∧ H5 D = some (.lst ((lift (bse t W ws) ((idx t W ws).take i)).map V.int)))
            ⟨none, none, rfl, But.refl _ _, by rw [List.take_zero, lift_nil]; exact hD4⟩ (fun i σ H5 _ hP => ?_) (fun i v σ H5 H6 hi hP hy => ?_) (fun σ H5 hP => ?_)⟩
          · obtain ⟨_, _, _, b5, _⟩ := hP
            exact sqOf (b5 _ _ hY hYD)
          · obtain ⟨y3, y6, rfl, b5, hD5⟩ := hP
            obtain ⟨rfl, ev⟩ := hy
            rw [List.getElem?_map] at ev
            cases ec : cs[i]? with
            | none => rw [ec] at ev; cases ev
            | some e =>
            rw [ec] at ev
            cases (Option.some.inj ev)
            have m : e ∈ cs := List.mem_of_getElem? ec
            have eix : (idx t W ws)[i]? = some e.2.2 := by rw [← hix, List.getElem?_map, ec]; rfl
            obtain ⟨k0, k1⟩ := ixb _ (List.mem_of_getElem? eix)
            obtain ⟨k, hk⟩ : ∃ k : Nat, e.2.2 = (k : Int) := ⟨e.2.2.toNat, by omega⟩
            rw [hk] at eix k1
            have hkl : k < (bse t W ws).length := by omega
            have hnot : (k : Int) ∉ (idx t W ws).take i := by
              intro z
              obtain ⟨j, hj, e1⟩ := List.mem_iff_getElem.mp z
              rw [List.length_take] at hj
              obtain ⟨hi', e2⟩ := List.getElem?_eq_some_iff.mp eix
              rw [List.getElem_take] at e1
              have h3 := (List.pairwise_iff_getElem.mp ixn) j i (by omega) hi' (by omega)
              exact h3 (by rw [e1, e2])
            have hll : (lift (bse t W ws) ((idx t W ws).take i)).length = (bse t W ws).length := by unfold lift; rw [List.length_map, List.length_range]
            have eD : e.1 ≠ D := ne_of (tt e m) hD4 (by intro z; cases z)
            have te := b5 _ _ (tt e m) eD
            rw [hk] at te
            refine ⟨e.1, _, rfl, .of te, rfl, .int e.2.1, _, rfl, .int (k : Int), _, rfl, rfl, ?_⟩
            refine ⟨.ref D, rfl, .int (k : Int), rfl, D, _, k, _, rfl, rfl, sqOf hD5, atI_nat (ints_at (by omega)), _, 1, rfl, rfl, D, _, (k : Int), k, rfl, rfl, hD5, ixj (by rw [List.length_map]; omega), ?_⟩
            refine ⟨_, _, rfl, b5.trans But.upd, ?_⟩
            rw [upd_same, ints_set, lift_set hkl hnot, List.take_add_one, eix]
            rfl
          · obtain ⟨y3, y6, rfl, b5, hD5⟩ := hP
            have hcl : cs.length = (idx t W ws).length := by rw [← hix, List.length_map]
            rw [List.length_map, hcl, List.take_length] at hD5
            refine ⟨.ref D, rfl, q D _ H5 (fun c o hc => ?_) nD hD5 hF⟩
            exact b5 _ _ (S4 _ _ (S3 _ _ (S2 _ _ (S1 _ _ hc)))) (ne_of_none hc nD)
end
end Sh
set_option maxHeartbeats 0
namespace Sh
open PySem PySem.Spec PyProof.Rows L2
theorem cls_some {K : PySem.W.Frag} {C : Addr} (h : PySem.W.hasDictIn K C = true) : (PySem.W.clsIn K C).isSome = true := by
  obtain ⟨cd, hc, _⟩ := PySem.W.any_some h
  rw [hc]
  rfl
theorem kit_refC {K : PySem.W.Frag} {t : Value} {C : Addr} {b : Bool} (hd : PySem.W.hasDictIn K C = true) (ht : PySem.W.typeIn K (.ref C) = some (.type "type")) (hs : PySem.W.subIn K t (.ref C) = some b) : PySem.W.kitCls K t (.ref C) = some b := by
  have e2 : ((PySem.W.clsIn K C).isSome && PySem.W.typeIn K (.ref C) == some (.type "type")) = true := by rw [cls_some hd, ht]; rfl
  show (if ((PySem.W.clsIn K C).isSome && PySem.W.typeIn K (.ref C) == some (.type "type")) = true then PySem.W.subIn K t (.ref C) else none) = some b
  rw [if_pos e2]
  exact hs
theorem kit_tyC {K : PySem.W.Frag} {t : Value} {T : String} {b : Bool} (hT : PySem.W.kitMeta T = true) (hs : PySem.W.subIn K t (.type T) = some b) : PySem.W.kitCls K t (.type T) = some b := by
  show (if PySem.W.kitMeta T = true then PySem.W.subIn K t (.type T) else none) = some b
  rw [if_pos hT]
  exact hs
theorem kit_t {K : PySem.W.Frag} {t c : Value} (h : PySem.W.kitCls K t c = some true) : PySem.W.kitOne K t c = some true := by
  unfold PySem.W.kitOne
  by_cases e : (t == c) = true
  · rw [if_pos e]
  · rw [if_neg e]
    exact h
theorem kit_f {K : PySem.W.Frag} {t c : Value} (e : (t == c) = false) (h : PySem.W.kitCls K t c = some false) : PySem.W.kitOne K t c = some false := by
  unfold PySem.W.kitOne
  rw [if_neg (by rw [e]; exact Bool.false_ne_true)]
  exact h
theorem kit_nil {K : PySem.W.Frag} {t : Value} : PySem.W.kitAny K t [] = some false := rfl
theorem kit_no {K : PySem.W.Frag} {t c : Value} {r : List Value} (h : PySem.W.kitOne K t c = some false) (hr : PySem.W.kitAny K t r = some false) : PySem.W.kitAny K t (c :: r) = some false := by
  show (match PySem.W.kitOne K t c with | some true => some true | some false => PySem.W.kitAny K t r | none => none) = some false
  rw [h]
  exact hr
theorem all_mk {l : PySem.W.OpenLaw} {w : World} {K : PySem.W.Frag} {h : Heap} {mg : Str → Option Value} {fa f1 f2 f3 f4 f5 f6 f7 f8 f9 f10 f11 CI mI CP Co0 Co1 Co2 Co3 Co4 Co5 Co6 : Addr} (X : K.In h) (G : h.Ns mainGlobals mg) (hfa : mg "law" = some (.ref fa))
    {od1 an1 od2 an2 od3 an3 od4 an4 od5 an5 od6 an6 od7 an7 od8 an8 od9 an9 od10 an10 od11 an11 odmI anmI : Option Addr} {sl1 sl2 sl3 sl4 sl5 sl6 sl7 sl8 sl9 sl10 sl11 slmI : Array (Option Value)} {oc1 kV1 dc1 pm1 cd1 ct1 oc2 kV2 dc2 pm2 cd2 ct2 oc3 kV3 dc3 pm3 cd3 ct3 oc4 kV4 dc4 pm4 cd4 ct4 oc5 kV5 dc5 pm5 cd5 ct5 oc6 kV6 dc6 pm6 cd6 ct6 oc7 kV7 dc7 pm7 cd7 ct7 oc8 kV8 dc8 pm8 cd8 ct8 oc9 kV9 dc9 pm9 cd9 ct9 oc10 kV10 dc10 pm10 cd10 ct10 oc11 kV11 dc11 pm11 cd11 ct11 ocmI kVmI dcmI pmmI cdmI ctmI : Value}
    {nmI qI} {NI} {bsI} {bmI} {snI} {subI} {abI} {colI} {ddI} {k0I} {k1I} {k2I} {k3I} {k5I}
    (a1 : PySem.W.nsIn K mainGlobals "_law_cell" = some (some (.ref f1)))
    (l1 : K.lookup f1 = some ⟨oc1, od1, .func (PySem.W.fnOf "_law_cell" "_law_cell" (defArgs sCell) (defBody sCell) (defScope sCell) .none kV1 dc1 pm1 an1 cd1 ct1), sl1⟩)
    (c1 : PySem.W.codeIn K cd1 "_law_cell" = true)
    (k1 : PySem.W.keepIn K (.ref f1) = true)
    (a2 : PySem.W.nsIn K mainGlobals "_law_box" = some (some (.ref f2)))
    (l2 : K.lookup f2 = some ⟨oc2, od2, .func (PySem.W.fnOf "_law_box" "_law_box" (defArgs sBox) (defBody sBox) (defScope sBox) .none kV2 dc2 pm2 an2 cd2 ct2), sl2⟩)
    (c2 : PySem.W.codeIn K cd2 "_law_box" = true)
    (k2 : PySem.W.keepIn K (.ref f2) = true)
    (a3 : PySem.W.nsIn K mainGlobals "_law_draw" = some (some (.ref f3)))
    (l3 : K.lookup f3 = some ⟨oc3, od3, .func (PySem.W.fnOf "_law_draw" "_law_draw" (defArgs sDraw) (defBody sDraw) (defScope sDraw) .none kV3 dc3 pm3 an3 cd3 ct3), sl3⟩)
    (c3 : PySem.W.codeIn K cd3 "_law_draw" = true)
    (k3 : PySem.W.keepIn K (.ref f3) = true)
    (a4 : PySem.W.nsIn K mainGlobals "_law_weights" = some (some (.ref f4)))
    (l4 : K.lookup f4 = some ⟨oc4, od4, .func (PySem.W.fnOf "_law_weights" "_law_weights" (defArgs sWeights) (defBody sWeights) (defScope sWeights) .none kV4 dc4 pm4 an4 cd4 ct4), sl4⟩)
    (c4 : PySem.W.codeIn K cd4 "_law_weights" = true)
    (k4 : PySem.W.keepIn K (.ref f4) = true)
    (a5 : PySem.W.nsIn K mainGlobals "_law_total" = some (some (.ref f5)))
    (l5 : K.lookup f5 = some ⟨oc5, od5, .func (PySem.W.fnOf "_law_total" "_law_total" (defArgs sTotal) (defBody sTotal) (defScope sTotal) .none kV5 dc5 pm5 an5 cd5 ct5), sl5⟩)
    (c5 : PySem.W.codeIn K cd5 "_law_total" = true)
    (k5 : PySem.W.keepIn K (.ref f5) = true)
    (a6 : PySem.W.nsIn K mainGlobals "_law_is_integer" = some (some (.ref f6)))
    (l6 : K.lookup f6 = some ⟨oc6, od6, .func (PySem.W.fnOf "_law_is_integer" "_law_is_integer" (defArgs sIsInt) (defBody sIsInt) (defScope sIsInt) .none kV6 dc6 pm6 an6 cd6 ct6), sl6⟩)
    (c6 : PySem.W.codeIn K cd6 "_law_is_integer" = true)
    (k6 : PySem.W.keepIn K (.ref f6) = true)
    (a7 : PySem.W.nsIn K mainGlobals "_law_before" = some (some (.ref f7)))
    (l7 : K.lookup f7 = some ⟨oc7, od7, .func (PySem.W.fnOf "_law_before" "_law_before" (defArgs sBefore) (defBody sBefore) (defScope sBefore) .none kV7 dc7 pm7 an7 cd7 ct7), sl7⟩)
    (c7 : PySem.W.codeIn K cd7 "_law_before" = true)
    (k7 : PySem.W.keepIn K (.ref f7) = true)
    (a8 : PySem.W.nsIn K mainGlobals "_law_fair" = some (some (.ref f8)))
    (l8 : K.lookup f8 = some ⟨oc8, od8, .func (PySem.W.fnOf "_law_fair" "_law_fair" (defArgs sFair) (defBody sFair) (defScope sFair) .none kV8 dc8 pm8 an8 cd8 ct8), sl8⟩)
    (c8 : PySem.W.codeIn K cd8 "_law_fair" = true)
    (k8 : PySem.W.keepIn K (.ref f8) = true)
    (a9 : PySem.W.nsIn K mainGlobals "_law_refused" = some (some (.ref f9)))
    (l9 : K.lookup f9 = some ⟨oc9, od9, .func (PySem.W.fnOf "_law_refused" "_law_refused" (defArgs sRefused) (defBody sRefused) (defScope sRefused) .none kV9 dc9 pm9 an9 cd9 ct9), sl9⟩)
    (c9 : PySem.W.codeIn K cd9 "_law_refused" = true)
    (k9 : PySem.W.keepIn K (.ref f9) = true)
    (a10 : PySem.W.nsIn K mainGlobals "share_out" = some (some (.ref f10)))
    (l10 : K.lookup f10 = some ⟨oc10, od10, .func (PySem.W.fnOf "share_out" "share_out" (defArgs sShare) (defBody sShare) (defScope sShare) .none kV10 dc10 pm10 an10 cd10 ct10), sl10⟩)
    (c10 : PySem.W.codeIn K cd10 "share_out" = true)
    (k10 : PySem.W.keepIn K (.ref f10) = true)
    (a11 : PySem.W.nsIn K mainGlobals "law" = some (some (.ref f11)))
    (l11 : K.lookup f11 = some ⟨oc11, od11, .func (PySem.W.fnOf "law" "law" (defArgs sLaw) (defBody sLaw) (defScope sLaw) .none kV11 dc11 pm11 an11 cd11 ct11), sl11⟩)
    (c11 : PySem.W.codeIn K cd11 "law" = true)
    (k11 : PySem.W.keepIn K (.ref f11) = true)
    (z_len : PySem.W.nsIn K mainGlobals "len" = some none)
    (z_int : PySem.W.nsIn K mainGlobals "int" = some none)
    (z_str : PySem.W.nsIn K mainGlobals "str" = some none)
    (z_bool : PySem.W.nsIn K mainGlobals "bool" = some none)
    (z_list : PySem.W.nsIn K mainGlobals "list" = some none)
    (z_range : PySem.W.nsIn K mainGlobals "range" = some none)
    (z_sum : PySem.W.nsIn K mainGlobals "sum" = some none)
    (z_abs : PySem.W.nsIn K mainGlobals "abs" = some none)
    (z_isinstance : PySem.W.nsIn K mainGlobals "isinstance" = some none)
    (z_ValueError : PySem.W.nsIn K mainGlobals "ValueError" = some none)
    (z_min : PySem.W.nsIn K mainGlobals "min" = some none)
    (z_sorted : PySem.W.nsIn K mainGlobals "sorted" = some none)
    (z_enumerate : PySem.W.nsIn K mainGlobals "enumerate" = some none)
    (oHn : PySem.W.specialIn K (.builtin "object.__class__") "__get__" = some (some (.builtin "getset_descriptor.__get__")))
    (oTk : PySem.W.takesIn K (.builtin "object.__class__") = some true)
    (aIc : PySem.W.nsIn K mainGlobals "Invalid" = some (some (.ref CI)))
    (xIl : K.lookup CI = some (excClassObj nmI qI CI NI bsI bmI true snI subI abI colI ddI k0I k1I k2I k3I k5I "ValueError.__new__"))
    (xIv : PySem.HandSPX.refsVE bmI = true)
    (xIi : PySem.W.findIn K (.ref CI) "__init__" = some (some (.ref mI)))
    (xIs : PySem.W.findIn K (.ref CI) "__setattr__" = some (some (.builtin "object.__setattr__")))
    (xIe : PySem.W.subIn K (.ref CI) (.type "BaseException") = some true)
    (xIt : PySem.W.typeIn K (.ref CI) = some (.type "type"))
    (xIk : PySem.W.keepIn K (.ref CI) = true)
    (xIg : PySem.W.findIn K (.ref CI) "__getattribute__" = some (some (.builtin "BaseException.__getattribute__")))
    (xIa : PySem.W.findIn K (.ref CI) "__getattr__" = some none)
    (xIh : PySem.W.hasDictIn K CI = true)
    (xIn : PySem.W.findIn K (.ref CI) "what" = some none)
    (xIy : PySem.W.typeIn K (.ref mI) = some (.type "function"))
    (xIo : PySem.W.findIn K (.ref CI) "__class__" = some (some (.builtin "object.__class__")))
    (xIm : PySem.W.mroIn K CI (.type "object") = some true)
    (lmI : K.lookup mI = some ⟨ocmI, odmI, .func (PySem.W.fnOf "__init__" "Invalid.__init__" (defArgs sInv) (defBody sInv) (defScope sInv) .none kVmI dcmI pmmI anmI cdmI ctmI), slmI⟩)
    (cmI : PySem.W.codeIn K cdmI "Invalid.__init__" = true)
    (kmI : PySem.W.keepIn K (.ref mI) = true)
    (aPc : PySem.W.nsIn K mainGlobals "ParcelError" = some (some (.ref CP)))
    (xPh : PySem.W.hasDictIn K CP = true)
    (xPt : PySem.W.typeIn K (.ref CP) = some (.type "type"))
    (sIP : PySem.W.subIn K (.ref CI) (.ref CP) = some true)
    (sIV : PySem.W.subIn K (.ref CI) (.type "ValueError") = some true)
    (sII : PySem.W.subIn K (.ref CI) (.ref CI) = some true)
    (ao0c : PySem.W.nsIn K mainGlobals "BadLine" = some (some (.ref Co0)))
    (xo0h : PySem.W.hasDictIn K Co0 = true)
    (xo0t : PySem.W.typeIn K (.ref Co0) = some (.type "type"))
    (so0 : PySem.W.subIn K (.ref CI) (.ref Co0) = some false)
    (nso0 : (Value.ref CI == Value.ref Co0) = false)
    (ao1c : PySem.W.nsIn K mainGlobals "BadManifest" = some (some (.ref Co1)))
    (xo1h : PySem.W.hasDictIn K Co1 = true)
    (xo1t : PySem.W.typeIn K (.ref Co1) = some (.type "type"))
    (so1 : PySem.W.subIn K (.ref CI) (.ref Co1) = some false)
    (nso1 : (Value.ref CI == Value.ref Co1) = false)
    (ao2c : PySem.W.nsIn K mainGlobals "Contradiction" = some (some (.ref Co2)))
    (xo2h : PySem.W.hasDictIn K Co2 = true)
    (xo2t : PySem.W.typeIn K (.ref Co2) = some (.type "type"))
    (so2 : PySem.W.subIn K (.ref CI) (.ref Co2) = some false)
    (nso2 : (Value.ref CI == Value.ref Co2) = false)
    (ao3c : PySem.W.nsIn K mainGlobals "Late" = some (some (.ref Co3)))
    (xo3h : PySem.W.hasDictIn K Co3 = true)
    (xo3t : PySem.W.typeIn K (.ref Co3) = some (.type "type"))
    (so3 : PySem.W.subIn K (.ref CI) (.ref Co3) = some false)
    (nso3 : (Value.ref CI == Value.ref Co3) = false)
    (ao4c : PySem.W.nsIn K mainGlobals "Refused" = some (some (.ref Co4)))
    (xo4h : PySem.W.hasDictIn K Co4 = true)
    (xo4t : PySem.W.typeIn K (.ref Co4) = some (.type "type"))
    (so4 : PySem.W.subIn K (.ref CI) (.ref Co4) = some false)
    (nso4 : (Value.ref CI == Value.ref Co4) = false)
    (ao5c : PySem.W.nsIn K mainGlobals "TooMany" = some (some (.ref Co5)))
    (xo5h : PySem.W.hasDictIn K Co5 = true)
    (xo5t : PySem.W.typeIn K (.ref Co5) = some (.type "type"))
    (so5 : PySem.W.subIn K (.ref CI) (.ref Co5) = some false)
    (nso5 : (Value.ref CI == Value.ref Co5) = false)
    (ao6c : PySem.W.nsIn K mainGlobals "Unknown" = some (some (.ref Co6)))
    (xo6h : PySem.W.hasDictIn K Co6 = true)
    (xo6t : PySem.W.typeIn K (.ref Co6) = some (.type "type"))
    (so6 : PySem.W.subIn K (.ref CI) (.ref Co6) = some false)
    (nso6 : (Value.ref CI == Value.ref Co6) = false)
    : ∃ fd : FuncData, (∀ (s : Shared) (v : Value), BindsTo s fd ⟨[v], []⟩ [("script", v)]) ∧ ∀ base : Heap, K.In base → base.Ns mainGlobals mg → FnOk l.prog w K mg base CX0 5 fa fd ["script"] (spLaw K) := by
  have e := hfa.symm.trans (PySem.W.mg_of X G a11)
  cases e
  have F1 := fun_mk (st := sCell) l1 c1 k1
  have b1 := F1.binds (ps := ["script", "k"]) fun _ _ _ _ _ _ us hl => match us, hl with | [_, _], _ => rfl
  have D1 : Dd K mg "_law_cell" sCell ["script", "k"] f1 _ := ⟨F1, b1, PySem.W.mg_of X G a1⟩
  have F2 := fun_mk (st := sBox) l2 c2 k2
  have b2 := F2.binds (ps := ["script", "k"]) fun _ _ _ _ _ _ us hl => match us, hl with | [_, _], _ => rfl
  have D2 : Dd K mg "_law_box" sBox ["script", "k"] f2 _ := ⟨F2, b2, PySem.W.mg_of X G a2⟩
  have F3 := fun_mk (st := sDraw) l3 c3 k3
  have b3 := F3.binds (ps := ["box", "size"]) fun _ _ _ _ _ _ us hl => match us, hl with | [_, _], _ => rfl
  have D3 : Dd K mg "_law_draw" sDraw ["box", "size"] f3 _ := ⟨F3, b3, PySem.W.mg_of X G a3⟩
  have F4 := fun_mk (st := sWeights) l4 c4 k4
  have b4 := F4.binds (ps := ["box"]) fun _ _ _ _ _ _ us hl => match us, hl with | [_], _ => rfl
  have D4 : Dd K mg "_law_weights" sWeights ["box"] f4 _ := ⟨F4, b4, PySem.W.mg_of X G a4⟩
  have F5 := fun_mk (st := sTotal) l5 c5 k5
  have b5 := F5.binds (ps := ["box", "whole"]) fun _ _ _ _ _ _ us hl => match us, hl with | [_, _], _ => rfl
  have D5 : Dd K mg "_law_total" sTotal ["box", "whole"] f5 _ := ⟨F5, b5, PySem.W.mg_of X G a5⟩
  have F6 := fun_mk (st := sIsInt) l6 c6 k6
  have b6 := F6.binds (ps := ["told"]) fun _ _ _ _ _ _ us hl => match us, hl with | [_], _ => rfl
  have D6 : Dd K mg "_law_is_integer" sIsInt ["told"] f6 _ := ⟨F6, b6, PySem.W.mg_of X G a6⟩
  have F7 := fun_mk (st := sBefore) l7 c7 k7
  have b7 := F7.binds (ps := ["total", "weights", "whole", "one", "other"]) fun _ _ _ _ _ _ us hl => match us, hl with | [_, _, _, _, _], _ => rfl
  have D7 : Dd K mg "_law_before" sBefore ["total", "weights", "whole", "one", "other"] f7 _ := ⟨F7, b7, PySem.W.mg_of X G a7⟩
  have F8 := fun_mk (st := sFair) l8 c8 k8
  have b8 := F8.binds (ps := ["total", "weights", "told"]) fun _ _ _ _ _ _ us hl => match us, hl with | [_, _, _], _ => rfl
  have D8 : Dd K mg "_law_fair" sFair ["total", "weights", "told"] f8 _ := ⟨F8, b8, PySem.W.mg_of X G a8⟩
  have F9 := fun_mk (st := sRefused) l9 c9 k9
  have b9 := F9.binds (ps := ["total", "weights"]) fun _ _ _ _ _ _ us hl => match us, hl with | [_, _], _ => rfl
  have D9 : Dd K mg "_law_refused" sRefused ["total", "weights"] f9 _ := ⟨F9, b9, PySem.W.mg_of X G a9⟩
  have F10 := fun_mk (st := sShare) l10 c10 k10
  have b10 := F10.binds (ps := ["total", "weights"]) fun _ _ _ _ _ _ us hl => match us, hl with | [_, _], _ => rfl
  have D10 : Dd K mg "share_out" sShare ["total", "weights"] f10 _ := ⟨F10, b10, PySem.W.mg_of X G a10⟩
  have F11 := fun_mk (st := sLaw) l11 c11 k11
  have FmI := fun_mk (st := sInv) lmI cmI kmI
  have bmI := FmI.binds (ps := ["self", "what"]) fun _ _ _ _ _ _ us hl => match us, hl with | [_, _], _ => rfl
  have EI : ErrC K CI mI "what" := ⟨⟨⟨_, _, _, _, _, _, _, _, _, _, _, _, _, _, _, xIl, xIv⟩, xIs, xIe, xIt, xIk⟩, ⟨xIg, xIa, xIe, xIh⟩, xIn, xIi, xIy, cls_some xIh, xIo, xIm, oHn, oTk⟩
  have MI : Mm K "__init__" "Invalid.__init__" sInv ["self", "what"] mI _ := ⟨FmI, bmI⟩
  refine ⟨PySem.W.fnOf "law" "law" (defArgs sLaw) (defBody sLaw) (defScope sLaw) .none kV11 dc11 pm11 an11 cd11 ct11, fun s v => .of_eq rfl, fun base _ _ => ?_⟩
  have B : Blt mg := ⟨PySem.W.mg_none_of X G z_len, PySem.W.mg_none_of X G z_int, PySem.W.mg_none_of X G z_str, PySem.W.mg_none_of X G z_bool, PySem.W.mg_none_of X G z_list, PySem.W.mg_none_of X G z_range, PySem.W.mg_none_of X G z_sum, PySem.W.mg_none_of X G z_abs, PySem.W.mg_none_of X G z_isinstance, PySem.W.mg_none_of X G z_ValueError⟩
  have B2 : Blt2 mg := ⟨PySem.W.mg_none_of X G z_min, PySem.W.mg_none_of X G z_sorted, PySem.W.mg_none_of X G z_enumerate⟩
  have R : Errs K mg CI mI CP Co0 Co1 Co2 Co3 Co4 Co5 Co6 := ⟨EI, PySem.W.mg_of X G aIc, PySem.W.mg_of X G aPc, PySem.W.mg_of X G ao0c, PySem.W.mg_of X G ao1c, PySem.W.mg_of X G ao2c, PySem.W.mg_of X G ao3c, PySem.W.mg_of X G ao4c, PySem.W.mg_of X G ao5c, PySem.W.mg_of X G ao6c, kit_t (kit_refC xPh xPt sIP), kit_t (kit_tyC rfl sIV), kit_no (kit_f nso0 (kit_refC xo0h xo0t so0)) (kit_no (kit_f nso1 (kit_refC xo1h xo1t so1)) (kit_no (kit_f nso2 (kit_refC xo2h xo2t so2)) (kit_no (kit_f nso3 (kit_refC xo3h xo3t so3)) (kit_no (kit_f nso4 (kit_refC xo4h xo4t so4)) (kit_no (kit_f nso5 (kit_refC xo5h xo5t so5)) (kit_no (kit_f nso6 (kit_refC xo6h xo6t so6)) (kit_nil))))))), PySem.W.exm_ref xIe xIh xIt sII⟩
  exact ok_law F11 D1 D2 D3 D4 D5 D6 D7 D8 D9 D10 (ok_share D10.F B B2 EI MI (PySem.W.mg_of X G aIc)) R B
end Sh
open PySem PySem.W PyProof.Rows
set_option maxRecDepth 100000 in
set_option maxHeartbeats 0 in
theorem PySem.Challenge.cw_everyparcel_k17_share_out_by_remainders_holds : PySem.Challenge.rw_everyparcel_k17_share_out_by_remainders.Holds := by
  w_on; o_law; k_head; (case hw => w_witness2)
  k_fill
  refine L2.walk_of (l := PySem.Challenge.rw_everyparcel_k17_share_out_by_remainders) (n := 63) (k := 5) (x := "script") (CX := fun _ => L2.CX0) (sp := fun w => Sh.spLaw _) rfl (by decide) rfl ⟨rfl, by decide, by decide⟩ (fun w h Y => PySem.W.kIn_of Y) ?F (fun _ _ a ns hl _ hS => ⟨a, ns, rfl, hS, hl, fun _ => rfl⟩) (fun _ _ _ _ _ h => h)
  case F =>
    intro w mg fa h KX G hmg
    refine' Sh.all_mk KX G hmg ?a1 ?l1 ?c1 ?k1 ?a2 ?l2 ?c2 ?k2 ?a3 ?l3 ?c3 ?k3 ?a4 ?l4 ?c4 ?k4 ?a5 ?l5 ?c5 ?k5 ?a6 ?l6 ?c6 ?k6 ?a7 ?l7 ?c7 ?k7 ?a8 ?l8 ?c8 ?k8 ?a9 ?l9 ?c9 ?k9 ?a10 ?l10 ?c10 ?k10 ?a11 ?l11 ?c11 ?k11 ?z_len ?z_int ?z_str ?z_bool ?z_list ?z_range ?z_sum ?z_abs ?z_isinstance ?z_ValueError ?z_min ?z_sorted ?z_enumerate ?oHn ?oTk ?aIc ?xIl ?xIv ?xIi ?xIs ?xIe ?xIt ?xIk ?xIg ?xIa ?xIh ?xIn ?xIy ?xIo ?xIm ?lmI ?cmI ?kmI ?aPc ?xPh ?xPt ?sIP ?sIV ?sII ?ao0c ?xo0h ?xo0t ?so0 ?nso0 ?ao1c ?xo1h ?xo1t ?so1 ?nso1 ?ao2c ?xo2h ?xo2t ?so2 ?nso2 ?ao3c ?xo3h ?xo3t ?so3 ?nso3 ?ao4c ?xo4h ?xo4t ?so4 ?nso4 ?ao5c ?xo5h ?xo5t ?so5 ?nso5 ?ao6c ?xo6h ?xo6t ?so6 ?nso6
    (case a1 => k_is); (case l1 => k_is); (case c1 => k_is); (case k1 => k_is); (case a2 => k_is); (case l2 => k_is); (case c2 => k_is); (case k2 => k_is)
    (case a3 => k_is); (case l3 => k_is); (case c3 => k_is); (case k3 => k_is); (case a4 => k_is); (case l4 => k_is); (case c4 => k_is); (case k4 => k_is)
    (case a5 => k_is); (case l5 => k_is); (case c5 => k_is); (case k5 => k_is); (case a6 => k_is); (case l6 => k_is); (case c6 => k_is); (case k6 => k_is)
    (case a7 => k_is); (case l7 => k_is); (case c7 => k_is); (case k7 => k_is); (case a8 => k_is); (case l8 => k_is); (case c8 => k_is); (case k8 => k_is)
    (case a9 => k_is); (case l9 => k_is); (case c9 => k_is); (case k9 => k_is); (case a10 => k_is); (case l10 => k_is); (case c10 => k_is); (case k10 => k_is)
    (case a11 => k_is); (case l11 => k_is); (case c11 => k_is); (case k11 => k_is); (case z_len => k_is); (case z_int => k_is); (case z_str => k_is); (case z_bool => k_is)
    (case z_list => k_is); (case z_range => k_is); (case z_sum => k_is); (case z_abs => k_is); (case z_isinstance => k_is); (case z_ValueError => k_is); (case z_min => k_is); (case z_sorted => k_is)
    (case z_enumerate => k_is); (case oHn => k_is); (case oTk => k_is); (case aIc => k_is); (case xIl => k_is); (case xIv => first | rfl | decide +kernel); (case xIi => k_is); (case xIs => k_is)
    (case xIe => k_is); (case xIt => k_is); (case xIk => k_is); (case xIg => k_is); (case xIa => k_is); (case xIh => k_is); (case xIn => k_is); (case xIy => k_is)
    (case xIo => k_is); (case xIm => k_is); (case lmI => k_is); (case cmI => k_is); (case kmI => k_is); (case aPc => k_is); (case xPh => k_is); (case xPt => k_is)
    (case sIP => k_is); (case sIV => k_is); (case sII => k_is); (case ao0c => k_is); (case xo0h => k_is); (case xo0t => k_is); (case so0 => k_is); (case nso0 => first | rfl | decide +kernel)
    (case ao1c => k_is); (case xo1h => k_is); (case xo1t => k_is); (case so1 => k_is); (case nso1 => first | rfl | decide +kernel); (case ao2c => k_is); (case xo2h => k_is); (case xo2t => k_is)
    (case so2 => k_is); (case nso2 => first | rfl | decide +kernel); (case ao3c => k_is); (case xo3h => k_is); (case xo3t => k_is); (case so3 => k_is); (case nso3 => first | rfl | decide +kernel); (case ao4c => k_is)
    (case xo4h => k_is); (case xo4t => k_is); (case so4 => k_is); (case nso4 => first | rfl | decide +kernel); (case ao5c => k_is); (case xo5h => k_is); (case xo5t => k_is); (case so5 => k_is)
    (case nso5 => first | rfl | decide +kernel); (case ao6c => k_is); (case xo6h => k_is); (case xo6t => k_is); (case so6 => k_is); (case nso6 => first | rfl | decide +kernel)
