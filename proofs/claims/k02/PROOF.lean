import PyProof.Rows.All
import Wide.All
import OpenK.AllK
import Wide.FinOn
import HandS.ForMost
import HandS.Walk
import HandS.Codes
import HandS.IsInst
import HandS.Defaults
import HandS.Star
import HandS.Flow
import HandS.Style
import HandS.CallLocal
import HandS.More
import PySem.Challenge.RW_threereckons_k02_reckoned_by_no_cap
set_option Elab.async false
set_option linter.all false
set_option maxRecDepth 100000
set_option maxHeartbeats 4000000
namespace Thr
open PySem PySem.Spec PyProof.Rows L2
/-! ### heaps -/
theorem same_upd {H : Hp} {p : Addr} {o : HO} (h : H p = none) : Same H (upd H p o) := fun b x e => by
  rw [upd_ne (ne_of_none e h)]
  exact e
/-- all but what stands at a -/
def But (a : Addr) (H H' : Hp) : Prop := ∀ b o, b ≠ a → H b = some o → H' b = some o
theorem But.refl (a : Addr) (H : Hp) : But a H H := fun _ _ _ h => h
theorem But.trans {a : Addr} {H H1 H2 : Hp} (x : But a H H1) (y : But a H1 H2) : But a H H2 := fun b o n h => y b o n (x b o n h)
theorem But.of {a : Addr} {H H' : Hp} (s : Same H H') : But a H H' := fun b o _ h => s b o h
theorem But.upd {a : Addr} {H H' : Hp} {o : HO} (x : But a H H') : But a H (upd H' a o) := fun b u n h => by
  rw [upd_ne n]
  exact x b u n h
theorem But.new {a p : Addr} {H H' : Hp} {o : HO} (x : But a H H') (h : H' p = none) : But a H (L2.upd H' p o) := fun b u n e => by
  have e' := x b u n e
  rw [upd_ne (ne_of_none e' h)]
  exact e'
theorem But.seq {K : PySem.W.Frag} {H H' : Hp} {a b : Addr} {xs : List V} (e : But a H H') (n : b ≠ a) (h : SqL K H b xs) : SqL K H' b xs := by
  rcases h with (h | ⟨o, h⟩) | h
  · exact .inl (.inl (e _ _ n h))
  · exact .inl (.inr ⟨o, e _ _ n h⟩)
  · exact .inr h
/-! ### a def of the top, under its name -/
structure Dd (K : PySem.W.Frag) (mg : Str → Option Value) (x : Str) (st : Stmt) (ps : List Str) : Prop where
  ex : ∃ (f : Addr) (fd : FuncData), L2.Fun K x x st f fd ∧ mg x = some (.ref f) ∧ Binds K fd ps []
section
variable {P : Program} {w : World} {K : PySem.W.Frag} {mg : Str → Option Value} {base : Heap}
theorem Dd.cal {x : Str} {st : Stmt} {N ps : List Str} {k : Nat} {sp : Sp} (D : Dd K mg x st ps) (S : FnScope N ps (defScope st)) (len : ∀ vs H Q E, sp vs H Q E → vs.length = ps.length)
    (hbody : ∀ (f : Addr) (cdv : Value) (A : Around) (outer : List Env) (s : Shared) (H : Hp) (vs : List V) (Q : VK) (E : XK), Room k (A.deeper (envOfC x (defScope st) s.heap.objs.size f cdv)) → sp vs H Q E →
      ∃ t, PSs (cxOf CX0 P w K mg base N x (defScope st) f cdv A outer s H E).nox (defBody st) t ∧ t { nx := fun _ H' => Q .non H', rt := Q } (start N vs) H) : C8.Cal P w K mg base (k + 1) x sp [] := by
  obtain ⟨f, fd, F, g, b⟩ := D.ex
  exact ⟨f, fd, ps, [], F.ok S len (fun cdv A outer s H vs Q E hr h => hbody f cdv A outer s H vs Q E hr h), g, F.kp, b, .nil⟩
end
/-! ### what is drawn from -/
def BoxL (n : Nat) (b : List V) : Prop := ∃ b0 b1 b2 : Int, b = [.int b0, .int b1, .int b2] ∧ 0 ≤ b0 ∧ 0 ≤ b1 ∧ b1 < 4611686018427387904 ∧ 0 ≤ b2 ∧ b2 ≤ n
def spTake : Sp := fun vs H Q _ => ∃ (a : Addr) (many : Int) (n : Nat) (b : List V), vs = [.ref a, .int many] ∧ H a = some (.lst b) ∧ BoxL n b ∧ n < 1000000 ∧ 0 < many ∧ many < 1073741824 ∧
  ∀ (r : Int) (b' : List V), 0 ≤ r → r < many → BoxL (n + 1) b' → Q (.int r) (upd H a (.lst b'))
def spDip (K : PySem.W.Frag) : Sp := fun vs H Q _ => ∃ (a : Addr) (k : Nat) (ns : List Int), vs = [.ref a, .int k] ∧ SqL K H a (ns.map V.int) ∧ k ≤ 63 ∧
  ∀ (p : Addr) (b : List V), H p = none → BoxL 0 b → Q (.ref p) (upd H p (.lst b))
def spFold (K : PySem.W.Frag) : Sp := fun vs H Q _ => ∃ (a : Addr) (size : Nat) (ns : List Int), vs = [.ref a, .int size] ∧ SqL K H a (ns.map V.int) ∧ ns.length ≤ 63 ∧ 1 ≤ size ∧ size ≤ 8 ∧
  ∀ (H' : Hp) (p : Addr) (ms : List Int), Same H H' → H p = none → H' p = some (.lst (ms.map V.int)) → ms.length ≤ size → Q (.ref p) H'
/-- the built-in names that the law uses stand as they were -/
structure Bt (mg : Str → Option Value) : Prop where
  len : mg "len" = none
  abs : mg "abs" = none
  int : mg "int" = none
  list : mg "list" = none
  enumerate : mg "enumerate" = none
  range : mg "range" = none
theorem cut_len (xs : List V) (lo hi : Option Int) : (cutV xs lo hi).length ≤ xs.length := by
  unfold cutV
  rw [List.length_take, List.length_drop]
  omega
theorem cut_ints (ns : List Int) (lo hi : Option Int) : ∃ ms : List Int, cutV (ns.map V.int) lo hi = ms.map V.int ∧ ms.length ≤ ns.length := by
  refine ⟨(ns.drop (HT.sIx (ns.map V.int).length 0 lo)).take (HT.sIx (ns.map V.int).length (ns.map V.int).length hi - HT.sIx (ns.map V.int).length 0 lo), ?_, ?_⟩
  · unfold cutV
    rw [List.map_take, List.map_drop]
  · rw [List.length_take, List.length_drop]
    omega
theorem cut_to (ns : List Int) (size : Nat) : cutV (ns.map V.int) none (some (size : Int)) = (ns.take size).map V.int := by
  unfold cutV
  rw [HT.sIx_none, show HT.sIx (ns.map V.int).length (ns.map V.int).length (some (size : Int)) = min size (ns.map V.int).length from HT.sIx_nat _ _ size, List.map_take, List.length_map]
  show ((ns.map V.int).drop 0).take (min size ns.length - 0) = _
  rw [List.drop_zero, Nat.sub_zero]
  by_cases h : size ≤ ns.length
  · rw [Nat.min_eq_left h]
  · rw [Nat.min_eq_right (by omega), List.take_of_length_le (by rw [List.length_map]; omega), List.take_of_length_le (by rw [List.length_map]; omega)]
theorem cut_from_nil (ns : List Int) (size : Nat) (h : ns.length ≤ size) (hi : Option Int) : cutV (ns.map V.int) (some (size : Int)) hi = [] := by
  unfold cutV
  rw [show HT.sIx (ns.map V.int).length 0 (some (size : Int)) = min size (ns.map V.int).length from HT.sIx_nat _ _ size, List.drop_eq_nil_of_le (by rw [List.length_map]; omega), List.take_nil]
section
variable {X : Cx} {k j n i : Nat} {x : Str} {sp : Sp} {p pos : Pos} {e : Expr} {es : List Expr} {kws : List Keyword} {t tk : TA} {te : TE} {ks : List Str} {gV : List V → List V → List V}
/-! ### what is never reached -/
theorem pe_never {e : Expr} : PE X e (fun _ _ _ => False) := ⟨fun _ _ _ _ _ _ h => h.elim⟩
theorem pt_never {e : Expr} : PT X e (fun _ _ _ => False) := ⟨fun _ _ _ _ _ _ h => h.elim⟩
/-! ### calls with keywords -/
structure KCal (P : Program) (w : World) (K : PySem.W.Frag) (mg : Str → Option Value) (base : Heap) (k : Nat) (x : Str) (sp : Sp) (n : Nat) (ks : List Str) (gV : List V → List V → List V) : Prop where
  ex : ∃ (f : Addr) (fd : FuncData) (ps : List Str) (g : List Value → List Value → List Value), FnOk P w K mg base CX0 k f fd ps sp ∧ mg x = some (.ref f) ∧ PySem.W.keepIn K (.ref f) = true ∧ KBn K fd ps n ks g gV
theorem pe_kw (c : KCal X.prog X.w X.K X.mg X.base k x sp n ks gV) (hr : Room j X.A) (hk : k ≤ j) (hg : Gl X x) (ha : PA X (e :: es) t) (hkw : PK X kws tk)
    (hall : (backToKw pos (keywordEach kws X.env)).all (·.1.isSome) = true := by rfl) (hks : (backToKw pos (keywordEach kws X.env)).filterMap (·.1) = ks := by rfl)
    (hdb : (x == ("__debug__" : Str)) = false := by decide) (he : starEach (e :: es) X.env = (false, eval e X.env) :: starEach es X.env := by rfl)
    (hpl : ((backTo pos (starEach (e :: es) X.env)).any (·.1) || (backToKw pos (keywordEach kws X.env)).any (·.1.isNone)) = false := by rfl) :
    PE X (.Call (.Name x p) (e :: es) kws pos) (tCallN n ks.length sp gV E0 t tk) := by
  obtain ⟨f, fd, ps, g, F, hm, kp, b⟩ := c.ex
  exact pe_callN F (hr.mono hk) hg hm kp b pass0 ha hkw hall hks hdb he hpl
theorem pe_kw0 (c : KCal X.prog X.w X.K X.mg X.base k x sp 0 ks gV) (hr : Room j X.A) (hk : k ≤ j) (hg : Gl X x) (hkw : PK X kws tk)
    (hall : (backToKw pos (keywordEach kws X.env)).all (·.1.isSome) = true := by rfl) (hks : (backToKw pos (keywordEach kws X.env)).filterMap (·.1) = ks := by rfl)
    (hdb : (x == ("__debug__" : Str)) = false := by decide)
    (hpl : ((backTo pos (starEach [] X.env)).any (·.1) || (backToKw pos (keywordEach kws X.env)).any (·.1.isNone)) = false := by rfl) :
    PE X (.Call (.Name x p) [] kws pos) (tCallN 0 ks.length sp gV E0 tNil tk) := by
  obtain ⟨f, fd, ps, g, F, hm, kp, b⟩ := c.ex
  refine ⟨fun pins s σ H Q I h => ?_⟩
  refine wpAny_Call_Name_kw (ld_glob I hg hm ?_ hdb)
  refine PySem.W.callWith_KW0 (h₀ := X.base) I.ok.mod.kin kp hall ?_ hpl
  refine thn (hkw.run pos pins s σ H _ I h) fun ws s2 ⟨zs, H2, I2, rz, l1, l2, q2⟩ => ⟨I2.kIn, ?_⟩
  rw [hks]
  exact run_fnN (us := []) (vs := []) F (hr.mono hk) b pass0 I2 .nil rz rfl l2 q2
/-! ### x(*y), x a local name that holds a def -/
def tCallHS (P : Program) (w : World) (K : PySem.W.Frag) (mg : Str → Option Value) (base : Heap) (k i : Nat) (te : TE) : TE := fun σ H Q => ∃ f sp, σ[i]? = some (some (.ref f)) ∧ Held P w K mg base k f sp ∧
  te σ H fun y H1 => ∃ a xs, y = V.ref a ∧ (SqT K H1 a xs ∨ SqL K H1 a xs) ∧ sp xs H1 Q (fun _ _ _ => False)
theorem pe_callHS {sp_ : Pos} (hr : Room k X.A) (hN : X.N[i]? = some x) (hv : Vis X.env.scope x) (he : PE X e te)
    (hdb : (x == ("__debug__" : Str)) = false := by decide) (hcd : (x == ("__classdict__" : Str)) = false := by decide)
    (hst : starEach [.Starred e sp_] X.env = [(true, eval e X.env)] := by rfl) :
    PE X (.Call (.Name x p) [.Starred e sp_] [] pos) (tCallHS X.prog X.w X.K X.mg X.base k i te) := by
  refine ⟨fun pins s σ H Q I h => ?_⟩
  obtain ⟨f, sp, hs, hH, ht⟩ := h
  obtain ⟨fd, ps, F, hk, hb⟩ := hH.ex
  refine wpAny_Call_Name_kw (thn ((pe_var (pos := p) hN hv hdb hcd).run pins s σ H (fun v H1 => v = .ref f ∧ H1 = H) I ⟨.ref f, hs, rfl, rfl⟩) fun u s1 ⟨v, H1, I1, r1, q1⟩ => ?_)
  obtain ⟨rfl, rfl⟩ := q1
  cases r1
  refine PySem.W.callWith_S (h₀ := X.base) I.ok.mod.kin hk (thn (he.run pins s1 σ _ _ I1 ht) fun v s2 ⟨y, H2, I2, ry, a, xs, ey, hxs, q⟩ => ?_) hst
  subst ey
  obtain rfl : v = Value.ref a := ry
  refine StX.star_any I2 hxs fun us s3 I3 rv => ⟨I3.kIn, ?_⟩
  exact run_fn (E := fun _ _ _ => False) F hr hb .nil (fun _ _ _ _ _ _ _ z => z.elim) I3 rv (by rw [List.append_nil]; exact q)
end
section
variable {K : PySem.W.Frag} {x qual : Str} {params : Arguments} {body : List Stmt} {scope : Scope} {kws : List (Str × V)} {f : Addr} {fd : FuncData} {ps : List Str}
/-- keywords, and keyword-only defaults for those that lack; no other defaults -/
theorem kbinds0 (F : FunD K x qual params body scope [] kws f fd) (n : Nat) (ks : List Str) (g : {α : Type} → List α → List α → List α → List α) (hk : kws ≠ [])
    (hrel : ∀ {vs mz zs : List V} {us mv ws : List Value}, Vals vs us → Vals mz mv → Vals zs ws → Vals (g vs mz zs) (g us mv ws))
    (h : ∀ (D : Addr) (doc pm : Value) (an : Option Addr) (cdv ct : Value) (us mv ws : List Value), us.length = n → mv.length = kws.length → ws.length = ks.length →
      KwChain D ((kws.map (·.1)).zip mv) (bindArgs (PySem.W.fnOf x qual params body scope .none (.ref D) doc pm an cdv ct) ⟨us, ks.zip ws⟩) (ps.zip (g us mv ws))) :
    ∃ mv : List Value, KBn K fd ps n ks (fun us ws => g us mv ws) (fun vs zs => g vs (kws.map (·.2)) zs) := by
  obtain ⟨oc, od, dV, kV, doc, pm, an, cdv, ct, osl, rfl, lk, hcd, hD, hK⟩ := F.ex
  rcases hD with ⟨_, rfl⟩ | ⟨e, _⟩
  · rcases hK with e | ⟨D, rfl, hq⟩
    · exact absurd e hk
    · obtain ⟨mv, hl, rk, hks⟩ := kwd_vals hq
      refine ⟨mv, ⟨fun s us ws X l1 l2 => ?_, fun r1 r2 => hrel r1 rk r2⟩⟩
      exact BindsTo.of_looks fun M => KwChain.looks X hks (h D doc pm an cdv ct us mv ws l1 hl l2)
  · exact absurd rfl e
/-- keywords alone, every parameter named or placed -/
theorem kbindsN (F : FunD K x qual params body scope [] kws f fd) (n : Nat) (ks : List Str) (g : {α : Type} → List α → List α → List α)
    (hrel : ∀ {vs zs : List V} {us ws : List Value}, Vals vs us → Vals zs ws → Vals (g vs zs) (g us ws))
    (h : ∀ (kV doc pm : Value) (an : Option Addr) (cdv ct : Value) (us ws : List Value), us.length = n → ws.length = ks.length →
      bindArgs (PySem.W.fnOf x qual params body scope .none kV doc pm an cdv ct) ⟨us, ks.zip ws⟩ = pure (ps.zip (g us ws))) :
    KBn K fd ps n ks (fun us ws => g us ws) (fun vs zs => g vs zs) := by
  obtain ⟨oc, od, dV, kV, doc, pm, an, cdv, ct, osl, rfl, lk, hcd, hD, hK⟩ := F.ex
  rcases hD with ⟨_, rfl⟩ | ⟨e, _⟩
  · exact ⟨fun s us ws X l1 l2 => .of_eq (h kV doc pm an cdv ct us ws l1 l2), fun r1 r2 => hrel r1 r2⟩
  · exact absurd rfl e
end
/-! ### d.update(e) -/
def rDUpd : V → List V → Hp → VK → Prop := fun x vs H Q => ∃ (a b : Addr) (kvs more : List (Key × V)), x = .ref a ∧ vs = [.ref b] ∧ a ≠ b ∧ H a = some (.dK kvs) ∧ H b = some (.dK more) ∧ kvs.length + more.length ≤ 1000 ∧ Q .non (upd H a (.dK (mergeK kvs more)))
theorem mtd_update {X : Cx} : MtR X "dict.update" rDUpd := by
  intro pins s σ H x vs v us Q I rx rv h
  obtain ⟨a, b, kvs, more, ex, ev, nab, ea, eb, hz, q⟩ := h
  subst ex
  subst ev
  obtain rfl : v = Value.ref a := rx
  obtain ⟨u, eu, ru⟩ := rv.one
  subst eu
  obtain rfl : u = Value.ref b := ru
  obtain ⟨z1, ls1, vs1, r1, d1⟩ := I.hok a _ ea
  obtain ⟨z2, ls2, vs2, r2, d2⟩ := I.hok b _ eb
  have l1 : kvs.length = vs1.length := Paired.length r1
  have l2 : more.length = vs2.length := Paired.length r2
  refine call_meetsIn PySem.F.slot_dict_update d1.typeIs PySem.F.entry_dict_update (PySem.F.args_dict_update_2 _ _) (meets_dict_update (mixKind X.prog X.w) a b nab ls2)
    ⟨vs1, vs2, d1, d2, (by rw [← l1, ← l2]; exact Nat.le_trans hz (by decide)), fun h' hm _ hs => ?_⟩
  refine ⟨.non, upd H a (.dK (mergeK kvs more)), ?_, rfl, q⟩
  have hlen : (mergeK kvs more).length ≤ sizeLine := by
    have := length_mergeK more kvs
    have h2 : (1000 : Nat) ≤ sizeLine := by decide
    omega
  obtain ⟨oo, es', ep', ho', _⟩ := id hm
  exact I.write (t' := s.toks) (e := a) (o := .dK (mergeK kvs more)) (by rw [ea]; trivial) (.inl rfl) (fun c u nc e => (hs.2 c nc).trans e) ⟨oo, ho'⟩ ⟨hlen, ls1, merged vs1 vs2, KV.merge r2 r1, hm⟩
def top (i : Nat) : Stmt := PySem.Challenge.pw_threereckons_k02_reckoned_by_no_cap.main.body.getD i (.Pass ⟨0, 0, 0, 0⟩)
/-! ### the draws -/
abbrev s__law_take : Stmt := top 25
abbrev N__law_take : List Str := ["_law_box", "_law_many", "_law_found", "_law_once", "_law_twice"]
abbrev P__law_take : List Str := ["_law_box", "_law_many"]
theorem sc__law_take : FnScope N__law_take P__law_take (defScope s__law_take) := ⟨rfl, rfl, rfl, by decide +kernel, rfl, by decide +kernel, by decide +kernel⟩
abbrev s__law_dip : Stmt := top 24
abbrev N__law_dip : List Str := ["_law_script", "_law_k", "_law_cell"]
abbrev P__law_dip : List Str := ["_law_script", "_law_k"]
theorem sc__law_dip : FnScope N__law_dip P__law_dip (defScope s__law_dip) := ⟨rfl, rfl, rfl, by decide +kernel, rfl, by decide +kernel, by decide +kernel⟩
abbrev s__law_folded : Stmt := top 26
abbrev N__law_folded : List Str := ["_law_script", "_law_size", "_law_cells", "_law_k", "_law_cell"]
abbrev P__law_folded : List Str := ["_law_script", "_law_size"]
theorem sc__law_folded : FnScope N__law_folded P__law_folded (defScope s__law_folded) := ⟨rfl, rfl, rfl, by decide +kernel, rfl, by decide +kernel, by decide +kernel⟩
section
variable {P : Program} {w : World} {K : PySem.W.Frag} {mg : Str → Option Value} {base : Heap}
theorem ok_take (D : Dd K mg "_law_take" s__law_take P__law_take) : C8.Cal P w K mg base 1 "_law_take" spTake [] := by
  refine D.cal sc__law_take (fun vs H Q E h => ?_) (fun f cdv A outer s H vs Q E hr h => ?_)
  · obtain ⟨a, many, n, b, rfl, _⟩ := h
    rfl
  · obtain ⟨a, many, n, b, rfl, ha, ⟨b0, b1, b2, rfl, h0, h1, h1', h2, h2'⟩, hn, hm, hm', k⟩ := h
    refine ⟨_, (pss_cons (ps_if (pt_cmpR op_gt (pe_ix ix_list (pv 0) pe_int (fun _ _ => rfl)) pe_int (nomark _))
          (pss_cons (ps_set (i := 2) sc__law_take.nd rfl (Or.inl rfl) (pe_op op_mod (pe_ix ix_list (pv 0) pe_int (fun _ _ => rfl)) (pv 1)))
        (pss_cons (ps_asg (pe_op op_fdiv (pe_ix ix_list (pv 0) pe_int (fun _ _ => rfl)) (pv 1)) (pg_sub (pv 0) pe_int set_list))
        (pss_one (ps_ret (pv 2)))))
          pss_nil)
        (pss_cons (ps_asg (pe_op op_add (pe_ix ix_list (pv 0) pe_int (fun _ _ => rfl)) pe_int) (pg_sub (pv 0) pe_int set_list))
        (pss_cons (ps_set (i := 3) sc__law_take.nd rfl (Or.inl rfl) (pe_op op_mod (pe_op op_pow (pe_op op_add (pe_ix ix_list (pv 0) pe_int (fun _ _ => rfl)) (pe_op op_mul pe_int (pe_ix ix_list (pv 0) pe_int (fun _ _ => rfl)))) pe_int) pe_int))
        (pss_cons (ps_set (i := 4) sc__law_take.nd rfl (Or.inl rfl) (pe_op op_mod (pe_op op_mul (pe_op op_add (pe_op op_add (pv 3) (pe_ix ix_list (pv 0) pe_int (fun _ _ => rfl))) (pe_op op_fdiv (pe_ix ix_list (pv 0) pe_int (fun _ _ => rfl)) pe_int)) (pe_op op_add (pe_op op_add (pe_op op_mod (pv 3) pe_int) pe_int) (pe_ix ix_list (pv 0) pe_int (fun _ _ => rfl)))) pe_int))
        (pss_one (ps_ret (pe_op op_mod (pe_op op_fdiv (pe_op op_mod (pe_op op_add (pe_op op_mul (pv 4) pe_int) (pv 3)) pe_int) pe_int) (pv 1)))))))), ?_⟩
    have hL : SqL K H a [.int b0, .int b1, .int b2] := SqL.of ha
    refine ⟨_, rfl, a, _, 0, .int b0, rfl, rfl, hL, atI_nat (j := 0) rfl, _, _, rfl, rfl, _, rfl, ite2 (fun e => ?_) (fun e => ?_)⟩
    · have e0 : 0 < b0 := of_decide_eq_true e
      refine ⟨_, rfl, a, _, 0, .int b0, rfl, rfl, hL, atI_nat (j := 0) rfl, .int many, rfl, _, _, rfl, rfl, hm, ?_⟩
      refine ⟨_, rfl, a, _, 0, .int b0, rfl, rfl, hL, atI_nat (j := 0) rfl, .int many, rfl, _, _, rfl, rfl, ⟨hm, hm'⟩, ?_⟩
      refine ⟨_, rfl, a, _, 0, 0, rfl, rfl, ha, rfl, _, rfl, ?_⟩
      refine k (b0 % many) _ (Int.emod_nonneg _ (by omega)) (Int.emod_lt_of_pos _ hm) ⟨b0 / many, b1, b2, rfl, Int.ediv_nonneg h0 (by omega), h1, h1', h2, by omega⟩
    · refine ⟨_, rfl, a, _, 2, .int b2, rfl, rfl, hL, atI_nat (j := 2) rfl, _, _, rfl, rfl, _, rfl, a, _, 2, 2, rfl, rfl, ha, rfl, ?_⟩
      have hL2 : SqL K (upd H a (.lst [.int b0, .int b1, .int (b2 + 1)])) a [.int b0, .int b1, .int (b2 + 1)] := SqL.of upd_same
      refine ⟨_, rfl, a, _, 1, .int b1, rfl, rfl, hL2, atI_nat (j := 1) rfl, _, rfl, a, _, 2, .int (b2 + 1), rfl, rfl, hL2, atI_nat (j := 2) rfl, _, _, rfl, rfl, .inl ⟨by decide, by decide⟩, _, _, rfl, rfl, _, _, rfl, rfl,
        ⟨by decide, by decide, by omega⟩, _, _, rfl, rfl, (by show (0 : Int) < _; decide), ?_⟩
      have q : (b1 + 39373 * (b2 + 1)) ^ Int.toNat 5 % 2147483647 = (b1 + 39373 * (b2 + 1)) ^ Int.toNat 5 % 2147483647 := rfl
      generalize (b1 + 39373 * (b2 + 1)) ^ Int.toNat 5 = w5
      have g1 : 0 ≤ w5 % 2147483647 := Int.emod_nonneg _ (by decide)
      have g2 : w5 % 2147483647 < 2147483647 := Int.emod_lt_of_pos _ (by decide)
      have g3 : 0 ≤ b1 / 1000003 := Int.ediv_nonneg h1 (by decide)
      have g4 : b1 / 1000003 ≤ b1 := Int.ediv_le_self _ h1
      have g5 : 0 ≤ w5 % 2147483647 % 40009 := Int.emod_nonneg _ (by decide)
      have g6 : w5 % 2147483647 % 40009 < 40009 := Int.emod_lt_of_pos _ (by decide)
      refine ⟨_, rfl, _, rfl, a, _, 2, .int (b2 + 1), rfl, rfl, hL2, atI_nat (j := 2) rfl, _, _, rfl, rfl, _, rfl, a, _, 1, .int b1, rfl, rfl, hL2, atI_nat (j := 1) rfl, _, _, rfl, rfl, ⟨by decide, by decide⟩, _, _, rfl, rfl,
        _, rfl, _, _, rfl, rfl, (by show (0 : Int) < _; decide), _, _, rfl, rfl, _, rfl, a, _, 2, .int (b2 + 1), rfl, rfl, hL2, atI_nat (j := 2) rfl, _, _, rfl, rfl, _, _, rfl, rfl, .inl ⟨by omega, by omega⟩, _, _, rfl, rfl, (by show (0 : Int) < _; decide), ?_⟩
      generalize (w5 % 2147483647 + (b2 + 1) + b1 / 1000003) * (w5 % 2147483647 % 40009 + 7 + (b2 + 1)) = w6
      refine ⟨_, rfl, _, _, rfl, rfl, .inr ⟨by decide, by decide⟩, _, rfl, _, _, rfl, rfl, _, _, rfl, rfl, (by show (0 : Int) < _; decide), _, _, rfl, rfl, ⟨by decide, by decide⟩, .int many, rfl, _, _, rfl, rfl, hm, ?_⟩
      exact k _ _ (Int.emod_nonneg _ (by omega)) (Int.emod_lt_of_pos _ hm) ⟨b0, b1, b2 + 1, rfl, h0, h1, h1', by omega, by omega⟩
theorem b01 (b : Bool) : -(2 ^ 64) < (if b = true then (1 : Int) else 0) ∧ (if b = true then (1 : Int) else 0) < 2 ^ 64 := by cases b <;> decide
theorem dip_b0 (c : Int) (b : Bool) : 0 ≤ (if c < 0 then -c else c) * (if b = true then 1 else 0) := by
  cases b with
  | false => simp
  | true =>
    rw [if_pos rfl, Int.mul_one]
    split <;> omega
theorem ok_dip (B : Bt mg) (D : Dd K mg "_law_dip" s__law_dip P__law_dip) : C8.Cal P w K mg base 1 "_law_dip" (spDip K) [] := by
  refine D.cal sc__law_dip (fun vs H Q E h => ?_) (fun f cdv A outer s H vs Q E hr h => ?_)
  · obtain ⟨a, k, ns, rfl, _⟩ := h
    rfl
  · obtain ⟨a, k, ns, rfl, hS, hk, q⟩ := h
    have T := B
    refine ⟨_, (pss_cons (ps_set (i := 2) sc__law_dip.nd rfl (Or.inl rfl) (pe_ifExp (pt_cmpR op_lt (pv 1) (pe_callB call_len_seq (by rfl) T.len PySem.boot_len (pa_cons (pv 0) pa_nil)) (nomark _)) (pe_ix ix_list (pv 0) (pv 1) (fun _ _ => rfl)) pe_int))
        (pss_one (ps_ret (pe_lst (pa_cons (pe_op op_mul (pe_callB call_abs (by rfl) T.abs (by decide +kernel) (pa_cons (pv 2) pa_nil)) (pe_callTy call_int1 (by rfl) T.int (by decide +kernel) (pa_cons (pe_cmpR op_ge (pe_callB call_abs (by rfl) T.abs (by decide +kernel) (pa_cons (pv 2) pa_nil)) (pe_op op_pow pe_int pe_int) (nomark _)) pa_nil))) (pa_cons (pe_op op_add (pe_op op_add (pe_op op_mod (pv 2) pe_int) (pe_op op_mul pe_int (pv 1))) pe_int) (pa_cons pe_int pa_nil))))))), ?_⟩
    have rest : ∀ c : Int, (tRet (tLst (tCons (tOp (rI CMul fun i j => .int (i * j)) (tCB (fun xs H Q => ∃ i, xs = [.int i] ∧ Q (.int (if i < 0 then -i else i)) H) (tCons (tVar 2) tNil))
        (tCB (fun xs H Q => (∃ i, xs = [.int i] ∧ Q (.int i) H) ∨ ∃ k, xs = [.bl k] ∧ Q (.int (if k then 1 else 0)) H) (tCons (tOp (rI0 fun i j => .bl (decide (j ≤ i))) (tCB (fun xs H Q => ∃ i, xs = [.int i] ∧ Q (.int (if i < 0 then -i else i)) H) (tCons (tVar 2) tNil)) (tOp (rI CPow fun i j => .int (i ^ j.toNat)) (tC (.int 10)) (tC (.int 18)))) tNil)))
        (tCons (tOp (rI0 fun i j => .int (i + j)) (tOp (rI0 fun i j => .int (i + j)) (tOp (rI (fun _ j => 0 < j) fun i j => .int (i % j)) (tVar 2) (tC (.int 2305843009213693951))) (tOp (rI CMul fun i j => .int (i * j)) (tC (.int 39373)) (tVar 1))) (tC (.int 17))) (tCons (tC (.int 0)) tNil)))))
        { nx := fun _ H' => Q .non H', rt := Q } [some (.ref a), some (.int k), some (.int c)] H := fun c => by
      refine ⟨_, rfl, c, rfl, _, rfl, c, rfl, _, _, rfl, rfl, ⟨by decide, by decide, by decide⟩, _, _, rfl, rfl, .inr ⟨_, rfl, ?_⟩⟩
      refine ⟨_, _, rfl, rfl, .inr (b01 _), ?_⟩
      refine ⟨_, rfl, _, _, rfl, rfl, (by show (0 : Int) < _; decide), _, rfl, _, _, rfl, rfl, .inl ⟨by decide, by decide⟩, _, _, rfl, rfl, _, _, rfl, rfl, ?_⟩
      refine ⟨by show 3 ≤ sizeLine; decide, fun p hp => q p _ hp ⟨_, _, 0, rfl, dip_b0 c _, ?_, ?_, Int.le_refl _, Int.le_refl _⟩⟩
      · have := Int.emod_nonneg c (show (2305843009213693951 : Int) ≠ 0 by decide)
        omega
      · have := Int.emod_lt_of_pos c (show (0 : Int) < 2305843009213693951 by decide)
        omega
    refine ⟨_, rfl, _, rfl, a, _, rfl, .inl hS, _, _, rfl, rfl, _, rfl, ite2 (fun e => ?_) (fun e => ?_)⟩
    · have hlt : k < ns.length := by
        have := of_decide_eq_true e
        rw [List.length_map] at this
        omega
      have g : (ns.map V.int)[k]? = some (.int ns[k]) := by
        rw [List.getElem?_map, List.getElem?_eq_getElem hlt]
        rfl
      exact ⟨_, rfl, _, rfl, a, _, k, .int ns[k], rfl, rfl, hS, atI_nat g, rest _⟩
    · exact rest 0
theorem ixN_nat {n j : Nat} (h : j < n) : ixN n (j : Int) = some j := by
  unfold ixN
  rw [if_pos (by omega), if_pos (by omega)]
  simp
theorem ok_folded (B : Bt mg) (D : Dd K mg "_law_folded" s__law_folded P__law_folded) : C8.Cal P w K mg base 1 "_law_folded" (spFold K) [] := by
  refine D.cal sc__law_folded (fun vs H Q E h => ?_) (fun f cdv A outer s H vs Q E hr h => ?_)
  · obtain ⟨a, size, ns, rfl, _⟩ := h
    rfl
  · obtain ⟨a, size, ns, rfl, hS, hl, h1, h8, q⟩ := h
    have T := B
    refine ⟨_, (pss_cons (ps_set (i := 2) sc__law_folded.nd rfl (Or.inl rfl) (pe_callTy call_list_of (by rfl) T.list (by decide +kernel) (pa_cons (pe_slice sl_list (pv 0) po_none (po_some (pv 1))) pa_nil)))
        (pss_cons (ps_for PassesOwn.never rfl (pi_enum (by rfl) T.enumerate (pa_cons (pe_slice sl_list (pv 0) (po_some (pv 1)) (po_some pe_int)) pa_nil)) (pg_tup rfl (pgs_cons (pg_name (i := 3) sc__law_folded.nd rfl (Or.inl rfl)) (pgs_cons (pg_name (i := 4) sc__law_folded.nd rfl (Or.inl rfl)) pgs_nil)))
          (pss_one (ps_asg (pe_op op_add (pe_ix ix_list (pv 2) (pe_op op_mod (pv 3) (pv 1)) (fun _ _ => rfl)) (pe_op op_mul (pv 4) (pe_op op_add (pv 3) pe_int))) (pg_sub (pv 2) (pe_op op_mod (pv 3) (pv 1)) set_list))))
        (pss_one (ps_ret (pv 2))))), ?_⟩
    -- cells = list(script[:size])
    refine ⟨_, rfl, _, rfl, _, rfl, a, _, rfl, hS, fun c1 n1 => ⟨c1, _, rfl, .inl (SqL.of upd_same), fun l nl => ?_⟩⟩
    have s1 : Same H (upd H c1 (.lst (cutV (ns.map V.int) none (some (size : Int))))) := same_upd n1
    have s2 := s1.trans (same_upd (o := .lst (cutV (ns.map V.int) none (some (size : Int)))) nl)
    -- enumerate(script[size:63])
    refine ⟨_, rfl, _, rfl, _, rfl, _, rfl, a, _, rfl, s2.seq hS, fun c2 n2 => ⟨c2, _, rfl, SqL.of upd_same, ?_⟩⟩
    have nlc : l ≠ c2 := fun e => by
      rw [e] at n2
      rw [← e, upd_same] at n2
      cases n2
    refine for_it walk_enum (fun i σ H3 => ∃ y3 y4, ∃ ms : List Int, σ = [some (.ref a), some (.int size), some (.ref l), y3, y4] ∧ Same H H3 ∧ H3 c2 = some (.lst (cutV (ns.map V.int) (some (size : Int)) (some 63))) ∧ H3 l = some (.lst (ms.map V.int)) ∧ ms.length = min size ns.length)
      ⟨none, none, ns.take size, rfl, s2.trans (same_upd n2), upd_same, ?_, by rw [List.length_take]⟩ (fun i σ H3 _ ⟨_, _, _, _, _, hc, _⟩ => SqL.of hc) ?_ ?_
    · rw [upd_ne nlc, upd_same, cut_to]
    · rintro i v σ H3 H4 hi ⟨y3, y4, ms, rfl, sm, hc, hm, hml⟩ ⟨T, x, y, rfl, nT, rfl, ex, ey⟩
      cases ex
      obtain ⟨rs, ers, _⟩ := cut_ints ns (some (size : Int)) (some 63)
      have hsz : size ≤ ns.length := by
        apply Classical.byContradiction
        intro hh
        rw [cut_from_nil ns size (by omega)] at hi
        simp at hi
      have hms : ms.length = size := by omega
      rw [ers] at ey
      rw [ers, List.length_map] at hi
      have ey' : y = .int rs[i] := by
        replace ey : (List.map V.int rs)[i]? = some y := ey
        rw [List.getElem?_map, List.getElem?_eq_getElem hi] at ey
        exact (Option.some.inj ey).symm
      subst ey'
      have hi63 : i < 63 := by omega
      have nTl : l ≠ T := ne_of_none hm nT
      have nTc : c2 ≠ T := ne_of_none hc nT
      have hm' : (upd H3 T (.tup [.int (i : Nat), .int rs[i]])) l = some (.lst (ms.map V.int)) := by
        rw [upd_ne nTl]
        exact hm
      have hj : i % size < ms.length := by
        rw [hms]
        exact Nat.mod_lt _ (by omega)
      have g : (ms.map V.int)[i % size]? = some (.int ms[i % size]) := by
        rw [List.getElem?_map, List.getElem?_eq_getElem hj]
        rfl
      have ei : ((i : Nat) : Int) % ((size : Nat) : Int) = ((i % size : Nat) : Int) := by omega
      refine ⟨T, _, rfl, SqT.of upd_same, rfl, _, _, rfl, _, _, rfl, rfl, ?_⟩
      refine ⟨_, rfl, _, rfl, _, rfl, _, _, rfl, rfl, (by show (0 : Int) < _; omega), l, _, _, .int ms[i % size], rfl, rfl, SqL.of hm', ?_, ?_⟩
      · rw [ei]
        exact atI_nat g
      refine ⟨_, rfl, _, rfl, _, _, rfl, rfl, _, _, rfl, rfl, .inr ⟨by omega, by omega⟩, _, _, rfl, rfl, _, rfl, _, rfl, _, rfl, _, _, rfl, rfl, (by show (0 : Int) < _; omega), l, _, _, i % size, rfl, rfl, hm', ?_, ?_⟩
      · rw [ei, List.length_map]
        exact ixN_nat hj
      · refine ⟨_, _, ms.set (i % size) (ms[i % size] + rs[i] * ((i : Int) + 2)), rfl, fun b z e => ?_, ?_, ?_, by rw [List.length_set]; exact hml⟩
        · have nb : b ≠ l := by
            intro eb
            rw [eb] at e
            have e2 := s1 _ _ e
            rw [e2] at nl
            cases nl
          rw [upd_ne nb]
          exact same_upd nT _ _ (sm _ _ e)
        · rw [upd_ne nlc.symm, upd_ne nTc]
          exact hc
        · rw [upd_same, List.map_set]
    · rintro σ H3 ⟨y3, y4, ms, rfl, sm, hc, hm, hml⟩
      exact ⟨_, rfl, q H3 l ms sm (s1.free nl) hm (by omega)⟩
end
/-! ### single reckonings -/
inductive Op where
  | copy | plus | less | times | over | rest | least | most | same | under | pick
  deriving DecidableEq
def Op.w : Op → Str
  | .copy => "copy"
  | .plus => "plus"
  | .less => "less"
  | .times => "times"
  | .over => "over"
  | .rest => "rest"
  | .least => "least"
  | .most => "most"
  | .same => "same"
  | .under => "under"
  | .pick => "pick"
def Op.n : Op → Nat
  | .copy => 1
  | .pick => 3
  | _ => 2
def Op.val : Op → List Int → V
  | .copy, [a] => .int a
  | .plus, [a, b] => .int ((a + b) % 1000000)
  | .less, [a, b] => .int ((a - b) % 1000000)
  | .times, [a, b] => .int (a * b % 1000000)
  | .over, [a, b] => if b = 0 then .non else .int (a / b)
  | .rest, [a, b] => if b = 0 then .non else .int (a % b)
  | .least, [a, b] => .int (if b < a then b else a)
  | .most, [a, b] => .int (if b > a then b else a)
  | .same, [a, b] => .int (if a = b then 1 else 0)
  | .under, [a, b] => .int (if a < b then 1 else 0)
  | .pick, [a, b, c] => .int (if 0 < a then b else c)
  | _, _ => .non
def Worths (ns : List Int) : Prop := ∀ n ∈ ns, 0 ≤ n ∧ n < 1000000
theorem len1 {ns : List Int} (h : ns.length = 1) : ∃ a, ns = [a] := match ns, h with
  | [a], _ => ⟨a, rfl⟩
theorem len2 {ns : List Int} (h : ns.length = 2) : ∃ a b, ns = [a, b] := match ns, h with
  | [a, b], _ => ⟨a, b, rfl⟩
theorem len3 {ns : List Int} (h : ns.length = 3) : ∃ a b c, ns = [a, b, c] := match ns, h with
  | [a, b, c], _ => ⟨a, b, c, rfl⟩
def spAct (o : Op) : Sp := fun vs H Q _ => ∃ ns : List Int, vs = ns.map V.int ∧ ns.length = o.n ∧ Worths ns ∧ Q (o.val ns) H
/-- a def that stands in the table of reckonings -/
structure ActAt (K : PySem.W.Frag) (w : World) (RD : Addr) (o : Op) (x : Str) (st : Stmt) (ps : List Str) : Prop where
  ex : ∃ (f : Addr) (fd : FuncData), L2.Fun K x x st f fd ∧ Binds K fd ps [] ∧ KDct K w RD o.w (.ref f)
structure At (mg : Str → Option Value) : Prop where
  bound : ∃ u, mg "BOUND" = some u ∧ RelV (.int 1000000) u
  min : mg "min" = none
  max : mg "max" = none
def Has (P : Program) (w : World) (K : PySem.W.Frag) (mg : Str → Option Value) (base : Heap) (RD : Addr) (o : Op) : Prop := ∃ f, KDct K w RD o.w (.ref f) ∧ Held P w K mg base 1 f (spAct o)
abbrev s_copy_of : Stmt := top 8
abbrev N_copy_of : List Str := ["first"]
abbrev P_copy_of : List Str := ["first"]
theorem sc_copy_of : FnScope N_copy_of P_copy_of (defScope s_copy_of) := ⟨rfl, rfl, rfl, by decide +kernel, rfl, by decide +kernel, by decide +kernel⟩
abbrev s_plus_of : Stmt := top 9
abbrev N_plus_of : List Str := ["first", "second"]
abbrev P_plus_of : List Str := ["first", "second"]
theorem sc_plus_of : FnScope N_plus_of P_plus_of (defScope s_plus_of) := ⟨rfl, rfl, rfl, by decide +kernel, rfl, by decide +kernel, by decide +kernel⟩
abbrev s_less_of : Stmt := top 10
abbrev N_less_of : List Str := ["first", "second"]
abbrev P_less_of : List Str := ["first", "second"]
theorem sc_less_of : FnScope N_less_of P_less_of (defScope s_less_of) := ⟨rfl, rfl, rfl, by decide +kernel, rfl, by decide +kernel, by decide +kernel⟩
abbrev s_times_of : Stmt := top 11
abbrev N_times_of : List Str := ["first", "second"]
abbrev P_times_of : List Str := ["first", "second"]
theorem sc_times_of : FnScope N_times_of P_times_of (defScope s_times_of) := ⟨rfl, rfl, rfl, by decide +kernel, rfl, by decide +kernel, by decide +kernel⟩
abbrev s_over_of : Stmt := top 12
abbrev N_over_of : List Str := ["first", "second"]
abbrev P_over_of : List Str := ["first", "second"]
theorem sc_over_of : FnScope N_over_of P_over_of (defScope s_over_of) := ⟨rfl, rfl, rfl, by decide +kernel, rfl, by decide +kernel, by decide +kernel⟩
abbrev s_rest_of_two : Stmt := top 13
abbrev N_rest_of_two : List Str := ["first", "second"]
abbrev P_rest_of_two : List Str := ["first", "second"]
theorem sc_rest_of_two : FnScope N_rest_of_two P_rest_of_two (defScope s_rest_of_two) := ⟨rfl, rfl, rfl, by decide +kernel, rfl, by decide +kernel, by decide +kernel⟩
abbrev s_least_of : Stmt := top 14
abbrev N_least_of : List Str := ["first", "second"]
abbrev P_least_of : List Str := ["first", "second"]
theorem sc_least_of : FnScope N_least_of P_least_of (defScope s_least_of) := ⟨rfl, rfl, rfl, by decide +kernel, rfl, by decide +kernel, by decide +kernel⟩
abbrev s_most_of : Stmt := top 15
abbrev N_most_of : List Str := ["first", "second"]
abbrev P_most_of : List Str := ["first", "second"]
theorem sc_most_of : FnScope N_most_of P_most_of (defScope s_most_of) := ⟨rfl, rfl, rfl, by decide +kernel, rfl, by decide +kernel, by decide +kernel⟩
abbrev s_same_of : Stmt := top 16
abbrev N_same_of : List Str := ["first", "second"]
abbrev P_same_of : List Str := ["first", "second"]
theorem sc_same_of : FnScope N_same_of P_same_of (defScope s_same_of) := ⟨rfl, rfl, rfl, by decide +kernel, rfl, by decide +kernel, by decide +kernel⟩
abbrev s_under_of : Stmt := top 17
abbrev N_under_of : List Str := ["first", "second"]
abbrev P_under_of : List Str := ["first", "second"]
theorem sc_under_of : FnScope N_under_of P_under_of (defScope s_under_of) := ⟨rfl, rfl, rfl, by decide +kernel, rfl, by decide +kernel, by decide +kernel⟩
abbrev s_pick_of : Stmt := top 18
abbrev N_pick_of : List Str := ["first", "second", "third"]
abbrev P_pick_of : List Str := ["first", "second", "third"]
theorem sc_pick_of : FnScope N_pick_of P_pick_of (defScope s_pick_of) := ⟨rfl, rfl, rfl, by decide +kernel, rfl, by decide +kernel, by decide +kernel⟩
section
variable {P : Program} {w : World} {K : PySem.W.Frag} {mg : Str → Option Value} {base : Heap} {RD : Addr}
theorem ActAt.held {o : Op} {x : Str} {st : Stmt} {N ps : List Str} (D : ActAt K w RD o x st ps) (S : FnScope N ps (defScope st)) (hl : o.n = ps.length)
    (hbody : ∀ (f : Addr) (cdv : Value) (A : Around) (outer : List Env) (s : Shared) (H : Hp) (ns : List Int) (Q : VK) (E : XK), Room 0 (A.deeper (envOfC x (defScope st) s.heap.objs.size f cdv)) → ns.length = o.n → Worths ns → Q (o.val ns) H →
      ∃ t, PSs (cxOf CX0 P w K mg base N x (defScope st) f cdv A outer s H E).nox (defBody st) t ∧ t { nx := fun _ H' => Q .non H', rt := Q } (start N (ns.map V.int)) H) : Has P w K mg base RD o := by
  obtain ⟨f, fd, F, b, kd⟩ := D.ex
  refine ⟨f, kd, ⟨fd, ps, F.ok S (fun vs H Q E h => ?_) (fun cdv A outer s H vs Q E hr h => ?_), F.kp, b⟩⟩
  · obtain ⟨ns, rfl, h1, _⟩ := h
    rw [List.length_map, h1, hl]
  · obtain ⟨ns, rfl, h1, h2, q⟩ := h
    exact hbody f cdv A outer s H ns Q E hr h1 h2 q
theorem ok_copy (T : At mg) (D : ActAt K w RD .copy "copy_of" s_copy_of P_copy_of) : Has P w K mg base RD .copy := by
  refine D.held sc_copy_of rfl (fun f cdv A outer s H ns Q E hr hl hw q => ?_)
  obtain ⟨a, rfl⟩ := len1 hl
  refine ⟨_, (pss_one (ps_ret (pv 0))), ?_⟩
  exact ⟨_, rfl, q⟩
theorem ok_plus (T : At mg) (D : ActAt K w RD .plus "plus_of" s_plus_of P_plus_of) : Has P w K mg base RD .plus := by
  refine D.held sc_plus_of rfl (fun f cdv A outer s H ns Q E hr hl hw q => ?_)
  obtain ⟨a, b, rfl⟩ := len2 hl
  refine ⟨_, (pss_one (ps_ret (pe_op op_mod (pe_op op_add (pv 0) (pv 1)) (C8.pe_gc (v := .int 1000000) rfl T.bound)))), ?_⟩
  exact ⟨_, rfl, _, rfl, _, _, rfl, rfl, _, _, rfl, rfl, (by show (0 : Int) < _; decide), q⟩
theorem ok_less (T : At mg) (D : ActAt K w RD .less "less_of" s_less_of P_less_of) : Has P w K mg base RD .less := by
  refine D.held sc_less_of rfl (fun f cdv A outer s H ns Q E hr hl hw q => ?_)
  obtain ⟨a, b, rfl⟩ := len2 hl
  refine ⟨_, (pss_one (ps_ret (pe_op op_mod (pe_op op_sub (pv 0) (pv 1)) (C8.pe_gc (v := .int 1000000) rfl T.bound)))), ?_⟩
  exact ⟨_, rfl, _, rfl, _, _, rfl, rfl, _, _, rfl, rfl, (by show (0 : Int) < _; decide), q⟩
theorem Worths.two {a b : Int} (h : Worths [a, b]) : (0 ≤ a ∧ a < 1000000) ∧ 0 ≤ b ∧ b < 1000000 := ⟨h a (by simp), h b (by simp)⟩
theorem ok_times (T : At mg) (D : ActAt K w RD .times "times_of" s_times_of P_times_of) : Has P w K mg base RD .times := by
  refine D.held sc_times_of rfl (fun f cdv A outer s H ns Q E hr hl hw q => ?_)
  obtain ⟨a, b, rfl⟩ := len2 hl
  obtain ⟨h1, h2⟩ := hw.two
  refine ⟨_, (pss_one (ps_ret (pe_op op_mod (pe_op op_mul (pv 0) (pv 1)) (C8.pe_gc (v := .int 1000000) rfl T.bound)))), ?_⟩
  exact ⟨_, rfl, _, rfl, _, _, rfl, rfl, .inl ⟨by omega, by omega⟩, _, _, rfl, rfl, (by show (0 : Int) < _; decide), q⟩
theorem int_eq0 {b : Int} : (decide (V.int b = V.int 0)) = decide (b = 0) := by
  by_cases h : b = 0
  · subst h
    simp
  · rw [decide_eq_false h, decide_eq_false (fun e => h (V.int.inj e))]
theorem ok_over (T : At mg) (D : ActAt K w RD .over "over_of" s_over_of P_over_of) : Has P w K mg base RD .over := by
  refine D.held sc_over_of rfl (fun f cdv A outer s H ns Q E hr hl hw q => ?_)
  obtain ⟨a, b, rfl⟩ := len2 hl
  obtain ⟨h1, h2⟩ := hw.two
  refine ⟨_, (pss_cons (ps_if (pt_cmpR op_eq (pv 1) pe_int (nomark _))
        (pss_one (ps_ret pe_non))
        pss_nil)
      (pss_one (ps_ret (pe_op op_fdiv (pv 0) (pv 1))))), ?_⟩
  refine ⟨_, rfl, rfl, _, rfl, ite2 (fun e => ?_) (fun e => ?_)⟩
  · have e0 : b = 0 := V.int.inj (of_decide_eq_true e)
    subst e0
    exact q
  · have e0 : b ≠ 0 := fun z => e (by rw [z]; rfl)
    have q' : Q (.int (a / b)) H := by
      have : Op.val .over [a, b] = .int (a / b) := if_neg e0
      rw [← this]
      exact q
    exact ⟨_, rfl, _, rfl, _, _, rfl, rfl, ⟨by omega, by omega⟩, q'⟩
theorem ok_rest (T : At mg) (D : ActAt K w RD .rest "rest_of_two" s_rest_of_two P_rest_of_two) : Has P w K mg base RD .rest := by
  refine D.held sc_rest_of_two rfl (fun f cdv A outer s H ns Q E hr hl hw q => ?_)
  obtain ⟨a, b, rfl⟩ := len2 hl
  obtain ⟨h1, h2⟩ := hw.two
  refine ⟨_, (pss_cons (ps_if (pt_cmpR op_eq (pv 1) pe_int (nomark _))
        (pss_one (ps_ret pe_non))
        pss_nil)
      (pss_one (ps_ret (pe_op op_mod (pv 0) (pv 1))))), ?_⟩
  refine ⟨_, rfl, rfl, _, rfl, ite2 (fun e => ?_) (fun e => ?_)⟩
  · have e0 : b = 0 := V.int.inj (of_decide_eq_true e)
    subst e0
    exact q
  · have e0 : b ≠ 0 := fun z => e (by rw [z]; rfl)
    have q' : Q (.int (a % b)) H := by
      have : Op.val .rest [a, b] = .int (a % b) := if_neg e0
      rw [← this]
      exact q
    exact ⟨_, rfl, _, rfl, _, _, rfl, rfl, (by show (0 : Int) < _; omega), q'⟩
theorem ok_least (T : At mg) (D : ActAt K w RD .least "least_of" s_least_of P_least_of) : Has P w K mg base RD .least := by
  refine D.held sc_least_of rfl (fun f cdv A outer s H ns Q E hr hl hw q => ?_)
  obtain ⟨a, b, rfl⟩ := len2 hl
  refine ⟨_, (pss_one (ps_ret (pe_callB (call_min2 rfl) (by rfl) T.min (by decide +kernel) (pa_cons (pv 0) (pa_cons (pv 1) pa_nil))))), ?_⟩
  exact ⟨_, rfl, _, rfl, _, _, rfl, q⟩
theorem ok_most (T : At mg) (D : ActAt K w RD .most "most_of" s_most_of P_most_of) : Has P w K mg base RD .most := by
  refine D.held sc_most_of rfl (fun f cdv A outer s H ns Q E hr hl hw q => ?_)
  obtain ⟨a, b, rfl⟩ := len2 hl
  refine ⟨_, (pss_one (ps_ret (pe_callB (call_max2 rfl) (by rfl) T.max (by decide +kernel) (pa_cons (pv 0) (pa_cons (pv 1) pa_nil))))), ?_⟩
  exact ⟨_, rfl, _, rfl, _, _, rfl, q⟩
theorem ok_same (T : At mg) (D : ActAt K w RD .same "same_of" s_same_of P_same_of) : Has P w K mg base RD .same := by
  refine D.held sc_same_of rfl (fun f cdv A outer s H ns Q E hr hl hw q => ?_)
  obtain ⟨a, b, rfl⟩ := len2 hl
  refine ⟨_, (pss_one (ps_ret (pe_ifExp (pt_cmpR op_eq (pv 0) (pv 1) (nomark _)) pe_int pe_int))), ?_⟩
  refine ⟨_, rfl, _, rfl, rfl, _, rfl, ite2 (fun e => ?_) (fun e => ?_)⟩
  · have e0 : a = b := V.int.inj (of_decide_eq_true e)
    have : Op.val .same [a, b] = .int 1 := congrArg V.int (if_pos e0)
    rw [this] at q
    exact q
  · have e0 : a ≠ b := fun z => e (by rw [z, decide_eq_true rfl])
    have : Op.val .same [a, b] = .int 0 := congrArg V.int (if_neg e0)
    rw [this] at q
    exact q
theorem ok_under (T : At mg) (D : ActAt K w RD .under "under_of" s_under_of P_under_of) : Has P w K mg base RD .under := by
  refine D.held sc_under_of rfl (fun f cdv A outer s H ns Q E hr hl hw q => ?_)
  obtain ⟨a, b, rfl⟩ := len2 hl
  refine ⟨_, (pss_one (ps_ret (pe_ifExp (pt_cmpR op_lt (pv 0) (pv 1) (nomark _)) pe_int pe_int))), ?_⟩
  refine ⟨_, rfl, _, rfl, _, _, rfl, rfl, _, rfl, ite2 (fun e => ?_) (fun e => ?_)⟩
  · have e0 : a < b := of_decide_eq_true e
    have : Op.val .under [a, b] = .int 1 := congrArg V.int (if_pos e0)
    rw [this] at q
    exact q
  · have e0 : ¬ a < b := fun z => e (decide_eq_true z)
    have : Op.val .under [a, b] = .int 0 := congrArg V.int (if_neg e0)
    rw [this] at q
    exact q
theorem ok_pick (T : At mg) (D : ActAt K w RD .pick "pick_of" s_pick_of P_pick_of) : Has P w K mg base RD .pick := by
  refine D.held sc_pick_of rfl (fun f cdv A outer s H ns Q E hr hl hw q => ?_)
  obtain ⟨a, b, c, rfl⟩ := len3 hl
  refine ⟨_, (pss_one (ps_ret (pe_ifExp (pt_cmpR op_gt (pv 0) pe_int (nomark _)) (pv 1) (pv 2)))), ?_⟩
  refine ⟨_, rfl, _, _, rfl, rfl, _, rfl, ite2 (fun e => ?_) (fun e => ?_)⟩
  · have e0 : 0 < a := of_decide_eq_true e
    have : Op.val .pick [a, b, c] = .int b := congrArg V.int (if_pos e0)
    rw [this] at q
    exact ⟨_, rfl, q⟩
  · have e0 : ¬ 0 < a := fun z => e (decide_eq_true z)
    have : Op.val .pick [a, b, c] = .int c := congrArg V.int (if_neg e0)
    rw [this] at q
    exact ⟨_, rfl, q⟩
end
/-! ### reckoned, by no cap -/
abbrev s_reckoned : Stmt := top 22
abbrev N_reckoned : List Str := ["op", "numbers", "cap", "action", "counted", "number"]
abbrev P_reckoned : List Str := ["op", "numbers", "cap"]
theorem sc_reckoned : FnScope N_reckoned P_reckoned (defScope s_reckoned) := ⟨rfl, rfl, rfl, by decide +kernel, rfl, by decide +kernel, by decide +kernel⟩
def spReck (K : PySem.W.Frag) : Sp := fun vs H Q _ => ∃ (o : Op) (p : Addr) (ns : List Int), vs = [.str o.w, .ref p, .int 0] ∧ SqL K H p (ns.map V.int) ∧ ns.length = o.n ∧ Worths ns ∧ Q (o.val ns) H
structure Rt (mg : Str → Option Value) (RD : Addr) : Prop where
  reck : mg "RECKONINGS" = some (.ref RD)
/-- a def with keyword-only defaults -/
structure DdK (K : PySem.W.Frag) (mg : Str → Option Value) (x : Str) (st : Stmt) (kws : List (Str × V)) : Prop where
  ex : ∃ (f : Addr) (fd : FuncData), FunD K x x (defArgs st) (defBody st) (defScope st) [] kws f fd ∧ mg x = some (.ref f)
section
variable {P : Program} {w : World} {K : PySem.W.Frag} {mg : Str → Option Value} {base : Heap} {RD : Addr}
structure Reck (P : Program) (w : World) (K : PySem.W.Frag) (mg : Str → Option Value) (base : Heap) : Prop where
  c0 : C8.Cal P w K mg base 2 "reckoned" (spReck K) [.int 0]
  c1 : KCal P w K mg base 2 "reckoned" (spReck K) 0 ["op", "numbers"] (fun _ zs => zs ++ [.int 0])
  c2 : KCal P w K mg base 2 "reckoned" (spReck K) 2 ["cap"] (fun vs zs => vs ++ zs)
theorem ok_reckoned (T : Rt mg RD) (As : ∀ o, Has P w K mg base RD o) (D : DdK K mg "reckoned" s_reckoned [("cap", .int 0)]) : Reck P w K mg base := by
  obtain ⟨f, fd, F, g⟩ := D.ex
  have ok : FnOk P w K mg base CX0 2 f fd P_reckoned (spReck K) := by
    refine F.ok sc_reckoned (fun vs H Q E h => ?_) (fun cdv A outer s H vs Q E hr h => ?_)
    · obtain ⟨o, p, ns, rfl, _⟩ := h
      rfl
    · obtain ⟨o, p, ns, rfl, hS, hl, hw, q⟩ := h
      refine ⟨_, (pss_cons (ps_if (PW.pt (pw_and (pt_cmpR op_gt (pv 2) pe_int (nomark _)) (pw_and1 pt_never)))
            (pss_one ps_never)
            pss_nil)
          (pss_cons (ps_set (i := 3) sc_reckoned.nd rfl (Or.inl rfl) (pe_ix ix_kdict (pe_glob (v := .ref RD) rfl T.reck rfl) (pv 0) (fun _ _ => rfl)))
          (pss_cons (ps_if (pt_cmpR op_eq (pv 2) pe_int (nomark _))
            (pss_one (ps_ret (pe_callHS (k := 1) (i := 3) (hr.mono (by decide)) rfl (Or.inl rfl) (pv 1))))
            pss_nil)
          (pss_cons ps_never
          (pss_one ps_never))))), ?_⟩
      obtain ⟨fo, kd, hd⟩ := As o
      refine ⟨_, rfl, _, _, rfl, rfl, _, rfl, ?_⟩
      refine iteF (iteF ?_)
      refine ⟨_, rfl, RD, _, _, rfl, rfl, kd, ?_⟩
      refine ⟨_, rfl, rfl, _, rfl, ?_⟩
      refine iteT ?_
      refine ⟨fo, _, rfl, hd, _, rfl, p, _, rfl, .inr hS, ns, rfl, hl, hw, q⟩
  obtain ⟨ds, hv, hb⟩ := FunD.binds0 (ps := P_reckoned) F 2 (by simp) rfl (fun D doc pm an cdv ct us ks hl hk => match us, ks, hl, hk with
    | [_, _], [_], _, _ => ⟨_, _, _, _, _, _, rfl, rfl, rfl⟩)
  obtain ⟨mv, hk0⟩ := kbinds0 (ps := P_reckoned) F 0 ["op", "numbers"] (fun _ ds zs => zs ++ ds) (by simp) (fun _ h2 h3 => Vals.append h3 h2) (fun D doc pm an cdv ct us mv ws hl hk hw => match us, mv, ws, hl, hk, hw with
    | [], [_], [_, _], _, _, _ => ⟨_, _, _, _, _, _, rfl, rfl, rfl⟩)
  have hk2 := kbindsN (ps := P_reckoned) F 2 ["cap"] (fun us ws => us ++ ws) (fun h2 h3 => Vals.append h2 h3) (fun kV doc pm an cdv ct us ws hl hw => match us, ws, hl, hw with
    | [_, _], [_], _, _ => rfl)
  exact ⟨⟨f, fd, _, ds, ok, g, F.kp, hb, hv⟩, ⟨f, fd, _, _, ok, g, F.kp, hk0⟩, ⟨f, fd, _, _, ok, g, F.kp, hk2⟩⟩
end
/-! ### k02: the law's own defs -/
abbrev s__law_worth : Stmt := top 28
abbrev N__law_worth : List Str := ["_law_box"]
abbrev P__law_worth : List Str := ["_law_box"]
theorem sc__law_worth : FnScope N__law_worth P__law_worth (defScope s__law_worth) := ⟨rfl, rfl, rfl, by decide +kernel, rfl, by decide +kernel, by decide +kernel⟩
abbrev s__law_alike : Stmt := top 29
abbrev N__law_alike : List Str := ["_law_found", "_law_due_here"]
abbrev P__law_alike : List Str := ["_law_found", "_law_due_here"]
theorem sc__law_alike : FnScope N__law_alike P__law_alike (defScope s__law_alike) := ⟨rfl, rfl, rfl, by decide +kernel, rfl, by decide +kernel, by decide +kernel⟩
abbrev s__law_due : Stmt := top 27
abbrev N__law_due : List Str := ["_law_word", "_law_some", "_law_one", "_law_two", "_law_often", "_law_told"]
abbrev P__law_due : List Str := ["_law_word", "_law_some"]
theorem sc__law_due : FnScope N__law_due P__law_due (defScope s__law_due) := ⟨rfl, rfl, rfl, by decide +kernel, rfl, by decide +kernel, by decide +kernel⟩
theorem ifT {c : Bool} {A B : Prop} (h : c = true) (x : A) : if c = true then A else B := by rw [if_pos h]; exact x
theorem ifF {c : Bool} {A B : Prop} (h : c = false) (x : B) : if c = true then A else B := by rw [if_neg (by rw [h]; decide)]; exact x
theorem toQ {Q : VK} {H : Hp} {v v' : V} (e : v = v') (h : Q v' H) : Q v H := e ▸ h
def spWorth : Sp := fun vs H Q _ => ∃ (a : Addr) (n : Nat) (b : List V), vs = [.ref a] ∧ H a = some (.lst b) ∧ BoxL n b ∧ n < 900000 ∧
  ∀ (H' : Hp) (v : Int) (b' : List V), But a H H' → H' a = some (.lst b') → BoxL (n + 3) b' → 0 ≤ v → v < 1000000 → Q (.int v) H'
def spAlike : Sp := fun vs H Q _ => ∃ x : V, vs = [x, x] ∧ (x = .non ∨ ∃ i, x = .int i) ∧ Q (.bl true) H
def spDue : Sp := fun vs H Q _ => ∃ (o : Op) (p : Addr) (ns : List Int), vs = [.str o.w, .ref p] ∧ H p = some (.lst (ns.map V.int)) ∧ ns.length = o.n ∧ Worths ns ∧ ∀ H', Same H H' → Q (o.val ns) H'
structure Lt (mg : Str → Option Value) : Prop where
  isinstance : mg "isinstance" = none
  int : mg "int" = none
  bool : mg "bool" = none
  min : mg "min" = none
  max : mg "max" = none
  list : mg "list" = none
  all : mg "all" = none
  sorted : mg "sorted" = none
  range : mg "range" = none
  len : mg "len" = none
section
variable {P : Program} {w : World} {K : PySem.W.Frag} {mg : Str → Option Value} {base : Heap} {RD : Addr}
theorem ok_worth (c_law_take : C8.Cal P w K mg base 1 "_law_take" spTake []) (D : Dd K mg "_law_worth" s__law_worth P__law_worth) : C8.Cal P w K mg base 2 "_law_worth" spWorth [] := by
  refine D.cal sc__law_worth (fun vs H Q E h => ?_) (fun f cdv A outer s H vs Q E hr h => ?_)
  · obtain ⟨a, n, b, rfl, _⟩ := h
    rfl
  · obtain ⟨a, n, b, rfl, ha, hB, hn, q⟩ := h
    refine ⟨_, (pss_one (ps_ret (pe_ix ix_list (pe_lst (pa_cons pe_int (pa_cons pe_int (pa_cons (C8.pe_c c_law_take hr (by decide) (by rfl) (pa_cons (pv 0) (pa_cons pe_int pa_nil))) (pa_cons (C8.pe_c c_law_take hr (by decide) (by rfl) (pa_cons (pv 0) (pa_cons (pe_op op_pow pe_int pe_int) pa_nil))) (pa_cons (pe_op op_sub (pe_op op_pow pe_int pe_int) pe_int) pa_nil)))))) (C8.pe_c c_law_take hr (by decide) (by rfl) (pa_cons (pv 0) (pa_cons pe_int pa_nil))) (fun _ _ => rfl)))), ?_⟩
    refine ⟨_, rfl, a, 9, n, b, rfl, ha, hB, by omega, by decide, by decide, fun r1 b1 h1 h1' hB1 => ?_⟩
    refine ⟨_, rfl, _, _, rfl, rfl, ⟨by decide, by decide, by decide⟩, a, _, n + 1, b1, rfl, upd_same, hB1, by omega, by decide, by decide, fun r2 b2 h2 h2' hB2 => ?_⟩
    refine ⟨_, _, rfl, rfl, ⟨by decide, by decide, by decide⟩, _, _, rfl, rfl, by show 5 ≤ sizeLine; decide, fun l nl => ?_⟩
    have nla : a ≠ l := fun e => by
      rw [← e, upd_same] at nl
      cases nl
    refine ⟨_, rfl, a, 5, n + 2, b2, rfl, ?_, hB2, by omega, by decide, by decide, fun r3 b3 h3 h3' hB3 => ?_⟩
    · rw [upd_ne nla, upd_same]
    · have bt : But a H (upd (upd (upd (upd H a (.lst b1)) a (.lst b2)) l (.lst [.int 0, .int 1, .int r1, .int r2, .int (10 ^ Int.toNat 6 - 1)])) a (.lst b3)) :=
        But.upd (But.new (But.upd (But.upd (But.refl a H))) nl)
      have h2z : r2 < 1000000 := h2'
      have hL : SqL K (upd (upd (upd (upd H a (.lst b1)) a (.lst b2)) l (.lst [.int 0, .int 1, .int r1, .int r2, .int (10 ^ Int.toNat 6 - 1)])) a (.lst b3)) l [.int 0, .int 1, .int r1, .int r2, .int (10 ^ Int.toNat 6 - 1)] := SqL.of (by rw [upd_ne nla.symm, upd_same])
      have hc : r3 = 0 ∨ r3 = 1 ∨ r3 = 2 ∨ r3 = 3 ∨ r3 = 4 := by omega
      rcases hc with rfl | rfl | rfl | rfl | rfl
      · exact ⟨l, _, _, _, rfl, rfl, hL, atI_nat (j := 0) rfl, q _ _ b3 bt upd_same hB3 (by decide) (by decide)⟩
      · exact ⟨l, _, _, _, rfl, rfl, hL, atI_nat (j := 1) rfl, q _ _ b3 bt upd_same hB3 (by decide) (by decide)⟩
      · exact ⟨l, _, _, _, rfl, rfl, hL, atI_nat (j := 2) rfl, q _ _ b3 bt upd_same hB3 h1 (by omega)⟩
      · exact ⟨l, _, _, _, rfl, rfl, hL, atI_nat (j := 3) rfl, q _ _ b3 bt upd_same hB3 h2 (by omega)⟩
      · exact ⟨l, _, _, _, rfl, rfl, hL, atI_nat (j := 4) rfl, q _ _ b3 bt upd_same hB3 (by decide) (by decide)⟩
theorem ok_alike (T : Lt mg) (D : Dd K mg "_law_alike" s__law_alike P__law_alike) : C8.Cal P w K mg base 1 "_law_alike" spAlike [] := by
  refine D.cal sc__law_alike (fun vs H Q E h => ?_) (fun f cdv A outer s H vs Q E hr h => ?_)
  · obtain ⟨x, rfl, _⟩ := h
    rfl
  · obtain ⟨x, rfl, hx, q⟩ := h
    refine ⟨_, (pss_cons (ps_if (PW.pt (pw_or (pt_cmpR op_isN (pv 1) pe_non (nomark _)) (pw_or1 (pt_cmpR op_isN (pv 0) pe_non (nomark _)))))
          (pss_one (ps_ret (pe_and (pe_cmpR op_isN (pv 1) pe_non (nomark _)) (pe_one (pe_cmpR op_isN (pv 0) pe_non (nomark _))))))
          pss_nil)
        (pss_one (ps_ret (pe_and (pe_callB call_isi (by rfl) T.isinstance (by decide +kernel) (pa_cons (pv 0) (pa_cons (pe_bltn (v := .ty "int") rfl T.int (by decide +kernel) rfl) pa_nil))) (pe_and (pe_not (pe_callB call_isi (by rfl) T.isinstance (by decide +kernel) (pa_cons (pv 0) (pa_cons (pe_bltn (v := .ty "bool") rfl T.bool (by decide +kernel) rfl) pa_nil)))) (pe_one (pe_cmpR op_eq (pv 0) (pv 1) (nomark _)))))))), ?_⟩
    rcases hx with rfl | ⟨i, rfl⟩
    · refine ⟨_, rfl, rfl, _, rfl, iteT (iteT ?_)⟩
      refine ⟨_, rfl, rfl, _, rfl, iteT ?_⟩
      exact ⟨_, rfl, rfl, q⟩
    · refine ⟨_, rfl, rfl, _, rfl, iteF ⟨_, rfl, rfl, _, rfl, iteF ?_⟩⟩
      refine ⟨_, rfl, .int i, .ty "int", .type "int", .type "int", true, rfl, .ty "int", .base (.int i), kit_ty (by decide +kernel), _, rfl, iteT ?_⟩
      refine ⟨_, rfl, .int i, .ty "bool", .type "int", .type "bool", false, rfl, .ty "bool", .base (.int i), kit_ty (by decide +kernel), _, rfl, _, rfl, iteT ?_⟩
      refine ⟨_, rfl, _, rfl, rfl, ?_⟩
      rw [decide_eq_true rfl]
      exact q
theorem heads {o : Op} {ns : List Int} (h : ns.length = o.n) : ∃ a b, ns[0]? = some a ∧ (ns ++ ns)[1]? = some b ∧ (o = .copy → ns = [a] ∧ b = a) ∧ (o.n = 2 → ns = [a, b]) ∧ (o = .pick → ∃ c, ns = [a, b, c]) := by
  match ns, h with
  | [a], h => exact ⟨a, a, rfl, rfl, fun _ => ⟨rfl, rfl⟩, fun e => by rw [← h] at e; simp at e, fun e => by subst e; simp [Op.n] at h⟩
  | [a, b], h => exact ⟨a, b, rfl, rfl, fun e => by subst e; simp [Op.n] at h, fun _ => rfl, fun e => by subst e; simp [Op.n] at h⟩
  | [a, b, c], h => exact ⟨a, b, rfl, rfl, fun e => by subst e; simp [Op.n] at h, fun e => by rw [← h] at e; simp at e, fun _ => ⟨c, rfl⟩⟩
  | [], h => cases o <;> simp [Op.n] at h
  | _ :: _ :: _ :: _ :: _, h => cases o <;> simp [Op.n] at h
end
section
variable {P : Program} {w : World} {K : PySem.W.Frag} {mg : Str → Option Value} {base : Heap} {RD : Addr}
theorem b01i {b : Bool} : (if b = true then (1 : Int) else 0) % (10 ^ Int.toNat 6) = if b = true then 1 else 0 := by cases b <;> decide
def tA (a b : Int) : List (Key × V) := [(.inr "copy", .int a), (.inr "plus", .int (a + b)), (.inr "less", .int (a - b + 10 ^ Int.toNat 6)), (.inr "times", .int (a * b)), (.inr "least", .int (if b < a then b else a))]
def tB (a b : Int) : List (Key × V) := [(.inr "most", .int (if b > a then b else a)), (.inr "same", .int (if decide (V.int a = V.int b) = true then 1 else 0)), (.inr "under", .int (if decide (a < b) = true then 1 else 0))]
def tval : Op → Int → Int → Int
  | .copy, a, _ => a
  | .plus, a, b => a + b
  | .less, a, b => a - b + 10 ^ Int.toNat 6
  | .times, a, b => a * b
  | .least, a, b => if b < a then b else a
  | .most, a, b => if b > a then b else a
  | .same, a, b => if decide (V.int a = V.int b) = true then 1 else 0
  | .under, a, b => if decide (a < b) = true then 1 else 0
  | _, _, _ => 0
theorem look_told {o : Op} {a b : Int} (ho : ¬ (o = .over ∨ o = .rest)) (hk : ¬ o = .pick) : valV (mergeK (mergeK [] (tA a b)) (mergeK [] (tB a b))) (.inr o.w : Key) = some (.int (tval o a b)) := by
  cases o <;> first
    | exact absurd rfl hk
    | exact absurd (.inl rfl) ho
    | exact absurd (.inr rfl) ho
    | rfl
theorem tval_val {o : Op} {a b : Int} {ns : List Int} (ho : ¬ (o = .over ∨ o = .rest)) (hk : ¬ o = .pick) (ha : 0 ≤ a ∧ a < 1000000) (hb : 0 ≤ b ∧ b < 1000000) (hcopy : o = .copy → ns = [a] ∧ b = a) (htwo : o.n = 2 → ns = [a, b]) :
    V.int (tval o a b % 10 ^ Int.toNat 6) = o.val ns := by
  have e6 : (10 : Int) ^ Int.toNat 6 = 1000000 := by decide
  rw [e6]
  cases o with
  | copy =>
    obtain ⟨rfl, _⟩ := hcopy rfl
    show V.int (a % 1000000) = V.int a
    rw [Int.emod_eq_of_lt ha.1 ha.2]
  | plus =>
    obtain rfl := htwo rfl
    rfl
  | less =>
    obtain rfl := htwo rfl
    show V.int ((a - b + 10 ^ Int.toNat 6) % 1000000) = V.int ((a - b) % 1000000)
    rw [e6, Int.add_emod_right]
  | times =>
    obtain rfl := htwo rfl
    rfl
  | least =>
    obtain rfl := htwo rfl
    show V.int ((if b < a then b else a) % 1000000) = V.int (if b < a then b else a)
    rw [Int.emod_eq_of_lt (by split <;> omega) (by split <;> omega)]
  | most =>
    obtain rfl := htwo rfl
    show V.int ((if b > a then b else a) % 1000000) = V.int (if b > a then b else a)
    rw [Int.emod_eq_of_lt (by split <;> omega) (by split <;> omega)]
  | same =>
    obtain rfl := htwo rfl
    show V.int ((if decide (V.int a = V.int b) = true then 1 else 0) % 1000000) = V.int (if a = b then 1 else 0)
    by_cases e : a = b
    · subst e
      simp
    · rw [decide_eq_false (fun z => e (V.int.inj z)), if_neg e]
      rfl
  | under =>
    obtain rfl := htwo rfl
    show V.int ((if decide (a < b) = true then 1 else 0) % 1000000) = V.int (if a < b then 1 else 0)
    by_cases e : a < b
    · rw [decide_eq_true e, if_pos e]
      rfl
    · rw [decide_eq_false e, if_neg e]
      rfl
  | over => exact absurd (.inl rfl) ho
  | rest => exact absurd (.inr rfl) ho
  | pick => exact absurd rfl hk
theorem ok_due (T : Lt mg) (D : Dd K mg "_law_due" s__law_due P__law_due) : C8.Cal P w K mg base 1 "_law_due" spDue [] := by
  refine D.cal sc__law_due (fun vs H Q E h => ?_) (fun f cdv A outer s H vs Q E hr h => ?_)
  · obtain ⟨o, p, ns, rfl, _⟩ := h
    rfl
  · obtain ⟨o, p, ns, rfl, hp, hl, hw, q⟩ := h
    have hu := hu_of hr
    refine ⟨_, (pss_cons (ps_par rfl sc__law_due.nd (i := 2) (j := 3) rfl rfl (by decide) rfl rfl (pa_cons (pe_ix ix_list (pv 1) pe_int (fun _ _ => rfl)) (pa_cons (pe_ix ix_list (pe_op op_cat (pv 1) (pv 1)) pe_int (fun _ _ => rfl)) pa_nil)) (by rfl))
        (pss_cons (ps_if (pt_cmpR op_in_seq (pv 0) (pe_tup (pa_cons pe_str (pa_cons pe_str pa_nil))) (by with_unfolding_all rfl))
          (pss_cons (ps_set (i := 4) sc__law_due.nd rfl (Or.inl rfl) (pe_ifExp (pt_cmpR op_eq (pv 3) pe_int (nomark _)) pe_int (pe_op op_fdiv (pv 2) (pv 3))))
        (pss_one (ps_ret (pe_ifExp (pt_cmpR op_eq (pv 3) pe_int (nomark _)) pe_non (pe_ix ix_list (pe_lst (pa_cons (pv 4) (pa_cons (pe_op op_sub (pv 2) (pe_op op_mul (pv 4) (pv 3))) pa_nil))) (pe_callTy call_int1 (by rfl) T.int (by decide +kernel) (pa_cons (pe_cmpR op_eq (pv 0) pe_str (nomark _)) pa_nil)) (fun _ _ => rfl))))))
          pss_nil)
        (pss_cons (ps_if (pt_cmpR op_eq (pv 0) pe_str (nomark _))
          (pss_one (ps_ret (pe_ifExp (pt_cmpR op_gt (pv 2) pe_int (nomark _)) (pv 3) (pe_ix ix_list (pv 1) pe_int (fun _ _ => rfl)))))
          pss_nil)
        (pss_cons (ps_set (i := 5) sc__law_due.nd rfl (Or.inl rfl) (pe_disp (pps_cons pe_str (pv 2) (pps_cons pe_str (pe_op op_add (pv 2) (pv 3)) (pps_cons pe_str (pe_op op_add (pe_op op_sub (pv 2) (pv 3)) (pe_op op_pow pe_int pe_int)) (pps_cons pe_str (pe_op op_mul (pv 2) (pv 3)) (pps_cons pe_str (pe_callB (call_min2 rfl) (by rfl) T.min (by decide +kernel) (pa_cons (pv 2) (pa_cons (pv 3) pa_nil))) pps_nil))))) (by rfl) (by rfl) (fun z => by cases z) (by decide)))
        (pss_cons (ps_expr (pe_bm PySem.F.plainAttrs_dict PySem.F.slot_dict_update PySem.F.type_dict_update mtd_update (pv 5) (pa_cons (pe_disp (pps_cons pe_str (pe_callB (call_max2 rfl) (by rfl) T.max (by decide +kernel) (pa_cons (pv 2) (pa_cons (pv 3) pa_nil))) (pps_cons pe_str (pe_callTy call_int1 (by rfl) T.int (by decide +kernel) (pa_cons (pe_cmpR op_eq (pv 2) (pv 3) (nomark _)) pa_nil)) (pps_cons pe_str (pe_callTy call_int1 (by rfl) T.int (by decide +kernel) (pa_cons (pe_cmpR op_lt (pv 2) (pv 3) (nomark _)) pa_nil)) pps_nil))) (by rfl) (by rfl) (fun z => by cases z) (by decide)) pa_nil)))
        (pss_one (ps_ret (pe_op op_mod (pe_dget hu (pv 5) (pv 0) (fun _ _ => rfl)) (pe_op op_pow pe_int pe_int))))))))), ?_⟩
    obtain ⟨a, b, g0, g1, hcopy, htwo, hpick⟩ := heads hl
    have hlen : ns.length ≤ 3 := by rw [hl]; cases o <;> decide
    have e0 : (ns.map V.int)[0]? = some (.int a) := by rw [List.getElem?_map, g0]; rfl
    have e1 : (ns.map V.int ++ ns.map V.int)[1]? = some (.int b) := by rw [← List.map_append, List.getElem?_map, g1]; rfl
    have ha : 0 ≤ a ∧ a < 1000000 := hw a (List.mem_of_getElem? g0)
    have hb : 0 ≤ b ∧ b < 1000000 := hw b (by
      have := List.mem_of_getElem? g1
      simpa using this)
    refine ⟨_, rfl, p, _, 0, .int a, rfl, rfl, SqL.of hp, atI_nat (j := 0) e0, _, rfl, _, rfl, p, p, _, _, rfl, rfl, hp, hp, ?_, fun c nc => ⟨c, _, 1, .int b, rfl, rfl, SqL.of upd_same, atI_nat (j := 1) e1, _, _, rfl, ?_⟩⟩
    · rw [List.length_map]
      exact Nat.le_trans (show ns.length + ns.length ≤ 6 by omega) (by decide)
    have s1 : Same H (upd H c (.lst (ns.map V.int ++ ns.map V.int))) := same_upd nc
    -- if word in ('over', 'rest')
    refine ⟨_, rfl, by show 2 ≤ sizeLine; decide, fun t nt => ⟨t, _, rfl, .inr (SqT.of upd_same), rfl, rfl, _, rfl, ?_⟩⟩
    have s2 := s1.trans (same_upd (o := .tup [.str "over", .str "rest"]) nt)
    by_cases ho : o = .over ∨ o = .rest
    · refine ifT (by rcases ho with rfl | rfl <;> decide +kernel) ?_
      have en : ns = [a, b] := htwo (by rcases ho with rfl | rfl <;> rfl)
      subst en
      refine ⟨_, rfl, rfl, _, rfl, ite2 (fun e => ?_) (fun e => ?_)⟩
      · have eb : b = 0 := V.int.inj (of_decide_eq_true e)
        subst eb
        refine ⟨_, rfl, rfl, _, rfl, iteT ?_⟩
        refine toQ (v' := o.val [a, 0]) ?_ (q _ s2)
        rcases ho with rfl | rfl <;> rfl
      · have eb : b ≠ 0 := fun z => e (by rw [z]; rfl)
        refine ⟨_, rfl, _, rfl, _, _, rfl, rfl, ⟨by omega, by omega⟩, ?_⟩
        refine ⟨_, rfl, rfl, _, rfl, ifF (by rw [int_eq0, decide_eq_false eb]) ?_⟩
        refine ⟨_, rfl, _, rfl, _, rfl, _, rfl, _, _, rfl, rfl, .inr ⟨by omega, by omega⟩, _, _, rfl, rfl, by show 2 ≤ sizeLine; decide, fun l nl => ?_⟩
        have s3 := s2.trans (same_upd (o := .lst [.int (a / b), .int (a - a / b * b)]) nl)
        refine ⟨_, rfl, rfl, .inr ⟨_, rfl, ?_⟩⟩
        rcases ho with rfl | rfl
        · refine ⟨l, _, 0, _, rfl, rfl, SqL.of upd_same, atI_nat (j := 0) rfl, ?_⟩
          refine toQ (v' := Op.val .over [a, b]) ?_ (q _ s3)
          exact (if_neg eb).symm
        · refine ⟨l, _, 1, _, rfl, rfl, SqL.of upd_same, atI_nat (j := 1) rfl, ?_⟩
          refine toQ (v' := Op.val .rest [a, b]) ?_ (q _ s3)
          have z : Op.val .rest [a, b] = .int (a % b) := if_neg eb
          rw [z, Int.emod_def, Int.mul_comm]
    · refine ifF (by revert ho; cases o <;> first | (intro _; decide +kernel) | (intro h; exact absurd (by simp) h)) ?_
      -- if word == 'pick'
      by_cases hk : o = .pick
      · subst hk
        obtain ⟨c3, en⟩ := hpick rfl
        subst en
        refine ⟨_, rfl, rfl, _, rfl, iteT ?_⟩
        refine ⟨_, rfl, _, _, rfl, rfl, _, rfl, ite2 (fun e => ?_) (fun e => ?_)⟩
        · have z : Op.val .pick [a, b, c3] = .int b := congrArg V.int (if_pos (of_decide_eq_true e))
          refine ⟨_, rfl, toQ z.symm (q _ s2)⟩
        · have z : Op.val .pick [a, b, c3] = .int c3 := congrArg V.int (if_neg (fun h => e (decide_eq_true h)))
          refine ⟨_, rfl, p, _, 2, .int c3, rfl, rfl, SqL.of (s2 _ _ hp), atI_nat (j := 2) rfl, toQ z.symm (q _ s2)⟩
      · refine ⟨_, rfl, rfl, _, rfl, ifF (by revert hk; cases o <;> first | (intro _; decide +kernel) | (intro h; exact absurd rfl h)) ?_⟩
        -- told = {..}
        intro d nd
        refine ⟨_, rfl, _, rfl, _, rfl, _, _, rfl, rfl, _, rfl, _, rfl, _, _, rfl, rfl, _, _, rfl, rfl, ⟨by decide, by decide, by decide⟩, _, _, rfl, rfl, _, rfl, _, rfl, _, _, rfl, rfl, .inl ⟨by omega, by omega⟩, _, rfl, _, rfl, _, _, rfl, upd_same,
          tA a b, rfl, by show 5 ≤ 15; decide, ?_⟩
        -- told.update({..})
        refine ⟨_, rfl, .inr (.inr (.inl ⟨rfl, .inl ⟨_, upd_same⟩⟩)), fun d2 nd2 => ?_⟩
        have nd2d : d ≠ d2 := fun e => by
          rw [← e, upd_same] at nd2
          cases nd2
        refine ⟨_, rfl, _, rfl, _, _, rfl, _, rfl, _, rfl, rfl, .inr ⟨_, rfl, _, rfl, _, rfl, _, _, rfl, rfl, .inr ⟨_, rfl, upd_same,
          tB a b, rfl, by show 3 ≤ 15; decide, ?_⟩⟩⟩
        refine ⟨d, d2, mergeK [] (tA a b), mergeK [] (tB a b), rfl, rfl, nd2d, ?_, upd_same, ?_, ?_⟩
        · rw [upd_ne nd2d, upd_ne nd2d, upd_same]
        · have l1 := length_mergeK (tA a b) []
          have l2 := length_mergeK (tB a b) []
          have l3 : (tA a b).length = 5 := rfl
          have l4 : (tB a b).length = 3 := rfl
          simp only [List.length_nil] at l1 l2
          omega
        have hd0 : H d = none := s2.free nd
        refine ⟨_, rfl, _, rfl, d, .int (tval o a b), rfl, ?_, _, _, rfl, rfl, ⟨by decide, by decide, by decide⟩, tval o a b, _, rfl, rfl, (by show (0 : Int) < _; decide), ?_⟩
        · rw [← look_told ho hk]
          exact DGet.k (k := (.inr o.w : Key)) upd_same
        · refine toQ (tval_val ho hk ha hb hcopy htwo) (q _ fun x z e => ?_)
          have nx : x ≠ d := ne_of_none e hd0
          rw [upd_ne nx]
          have nx2 : x ≠ d2 := by
            intro ex
            rw [ex] at e
            have e2 := s2 _ _ e
            rw [upd_ne nd2d.symm, upd_ne nd2d.symm, e2] at nd2
            cases nd2
          rw [upd_ne nx2, upd_ne nx2, upd_ne nx, upd_ne nx]
          exact s2 _ _ e
end
abbrev s__law_some_right : Stmt := top 30
abbrev N__law_some_right : List Str := ["_law_word", "_law_some", "_law_due_here", "_law_kept", "_law_told", "_law_one"]
abbrev P__law_some_right : List Str := ["_law_word", "_law_some"]
theorem sc__law_some_right : FnScope N__law_some_right P__law_some_right (defScope s__law_some_right) := ⟨rfl, rfl, rfl, by decide +kernel, rfl, by decide +kernel, by decide +kernel⟩
abbrev s__law_two_right : Stmt := top 31
abbrev N__law_two_right : List Str := ["_law_one", "_law_two", "_law_often", "_law_rest", "_law_less"]
abbrev P__law_two_right : List Str := ["_law_one", "_law_two"]
theorem sc__law_two_right : FnScope N__law_two_right P__law_two_right (defScope s__law_two_right) := ⟨rfl, rfl, rfl, by decide +kernel, rfl, by decide +kernel, by decide +kernel⟩
def spSome : Sp := fun vs H Q _ => ∃ (o : Op) (p : Addr) (ns : List Int), vs = [.str o.w, .ref p] ∧ H p = some (.lst (ns.map V.int)) ∧ ns.length = o.n ∧ Worths ns ∧ ∀ H', Same H H' → Q (.bl true) H'
def spTwo : Sp := fun vs H Q _ => ∃ a b : Int, vs = [.int a, .int b] ∧ (0 ≤ a ∧ a < 1000000) ∧ (0 ≤ b ∧ b < 1000000) ∧ ∀ H', Same H H' → Q (.bl true) H'
section
variable {P : Program} {w : World} {K : PySem.W.Frag} {mg : Str → Option Value} {base : Heap} {RD : Addr}
theorem yesT {σ : L2.St} {H : Hp} {A B : Hp → Prop} (h : A H) : tYes σ H (fun b H3 => if b = true then A H3 else B H3) := by
  show (if true = true then A H else B H)
  exact iteT h
theorem val_kind (o : Op) (ns : List Int) : o.val ns = .non ∨ ∃ i, o.val ns = .int i := by
  unfold Op.val
  split <;> first
    | exact .inr ⟨_, rfl⟩
    | exact .inl rfl
    | (split <;> first | exact .inr ⟨_, rfl⟩ | exact .inl rfl)
theorem dpInts {H : Hp} : ∀ ns : List Int, DpAll K H (ns.map V.int) (ns.map PyData.int)
  | [] => .nil
  | a :: r => .cons (.int a) (dpInts r)
theorem depthInts : ∀ ns : List Int, PyData.depthAll (ns.map PyData.int) ≤ 1
  | [] => by simp [PyData.depthAll]
  | a :: r => by
    have := depthInts r
    simp only [List.map_cons, PyData.depthAll, PyData.depth]
    omega
theorem layInts : ∀ ns : List Int, PyData.canLayAll0 (ns.map PyData.int) = true
  | [] => by simp [PyData.canLayAll0]
  | a :: r => by
    have := layInts r
    simp [PyData.canLayAll0, PyData.canLay0, this]
theorem shapedInts (ns : List Int) : SeqAt.shaped (.list (ns.map PyData.int)) = true := by
  unfold SeqAt.shaped
  have h1 := layInts ns
  have h2 := depthInts ns
  simp only [PyData.canLay0, PyData.depth, Bool.and_eq_true, decide_eq_true_eq]
  exact ⟨h1, decide_eq_true (by omega)⟩
theorem swap_val {o : Op} {a b : Int} (h : inV (.str o.w) [.str "plus", .str "least", .str "most", .str "times", .str "same"] = true) : o.n = 2 ∧ o.val [b, a] = o.val [a, b] ∧ ∃ i, o.val [a, b] = .int i := by
  cases o with
  | plus => exact ⟨rfl, congrArg V.int (by rw [Int.add_comm]), _, rfl⟩
  | times => exact ⟨rfl, congrArg V.int (by rw [Int.mul_comm]), _, rfl⟩
  | least => exact ⟨rfl, congrArg V.int (by split <;> split <;> omega), _, rfl⟩
  | most => exact ⟨rfl, congrArg V.int (by split <;> split <;> omega), _, rfl⟩
  | same => exact ⟨rfl, congrArg V.int (by split <;> split <;> omega), _, rfl⟩
  | copy => exact absurd h (by decide +kernel)
  | less => exact absurd h (by decide +kernel)
  | over => exact absurd h (by decide +kernel)
  | rest => exact absurd h (by decide +kernel)
  | under => exact absurd h (by decide +kernel)
  | pick => exact absurd h (by decide +kernel)
theorem ok_some_right (T : Lt mg) (R : Reck P w K mg base) (c_law_due : C8.Cal P w K mg base 1 "_law_due" spDue []) (c_law_alike : C8.Cal P w K mg base 1 "_law_alike" spAlike [])
    (D : Dd K mg "_law_some_right" s__law_some_right P__law_some_right) : C8.Cal P w K mg base 3 "_law_some_right" spSome [] := by
  have creckoned := R.c0
  have creckoned_0_op_numbers := R.c1
  have creckoned_2_cap := R.c2
  refine D.cal sc__law_some_right (fun vs H Q E h => ?_) (fun f cdv A outer s H vs Q E hr h => ?_)
  · obtain ⟨o, p, ns, rfl, _⟩ := h
    rfl
  · obtain ⟨o, p, ns, rfl, hp, hl, hw, q⟩ := h
    refine ⟨_, (pss_cons (ps_asg (pe_tup (pa_cons (C8.pe_c c_law_due hr (by decide) (by rfl) (pa_cons (pv 0) (pa_cons (pv 1) pa_nil))) (pa_cons (pe_callTy call_list_of (by rfl) T.list (by decide +kernel) (pa_cons (pv 1) pa_nil)) pa_nil))) (pg_tup rfl (pgs_cons (pg_name (i := 2) sc__law_some_right.nd rfl (Or.inr rfl)) (pgs_cons (pg_name (i := 3) sc__law_some_right.nd rfl (Or.inl rfl)) pgs_nil))))
        (pss_cons (ps_set (i := 4) sc__law_some_right.nd rfl (Or.inl rfl) (pe_lst (pa_cons (C8.pe_c creckoned hr (by decide) (by rfl) (pa_cons (pv 0) (pa_cons (pv 1) pa_nil))) (pa_cons (pe_kw0 creckoned_0_op_numbers hr (by decide) (by rfl) (pk_cons (pv 0) (pk_cons (pv 1) pk_nil))) (pa_cons (pe_kw creckoned_2_cap hr (by decide) (by rfl) (pa_cons (pv 0) (pa_cons (pv 1) pa_nil)) (pk_cons pe_int pk_nil)) pa_nil)))))
        (pss_cons (ps_if (PW.pt (pw_or (pt_not (pt_val (pe_callB (cr_all rfl) (by rfl) T.all (by decide +kernel) (pa_cons (pe_lc (own := [("_law_one", 5)]) (by exact rfl) sc__law_some_right.nd (pi_list (pv 4)) (blkOk_by (own := [("_law_one", 5)]) (N := N__law_some_right) (sc := defScope s__law_some_right) (by decide +kernel)) (fun _ _ _ _ _ => (pg_name (i := 5) sc__law_some_right.nd rfl (Or.inl rfl))) (fun _ _ _ _ _ => pts_nil) (fun _ _ _ _ _ => (C8.pe_c c_law_alike hr (by decide) (by rfl) (pa_cons (pv 5) (pa_cons (pv 2) pa_nil))))) pa_nil)))) (pw_or1 (pt_cmpR (op_neD hr.units) (pv 1) (pv 3) (nomark _)))))
          (pss_one (ps_ret pe_bl))
          pss_nil)
        (pss_cons (ps_if (PW.pt (pw_and (pt_cmpR op_in_seq (pv 0) (pe_tup (pa_cons pe_str (pa_cons pe_str (pa_cons pe_str (pa_cons pe_str (pa_cons pe_str pa_nil)))))) (by with_unfolding_all rfl)) (pw_and1 (pt_cmpR op_ne (C8.pe_c creckoned hr (by decide) (by rfl) (pa_cons (pv 0) (pa_cons (pe_revL (pv 1)) pa_nil))) (pv 2) (nomark _)))))
          (pss_one (ps_ret pe_bl))
          pss_nil)
        (pss_one (ps_ret pe_bl)))))), ?_⟩
    -- due_here, kept
    refine ⟨_, rfl, _, rfl, o, p, ns, rfl, hp, hl, hw, fun H1 s1 => ?_⟩
    refine ⟨_, rfl, p, _, rfl, .inl (SqL.of (s1 _ _ hp)), fun l nl => ⟨by show 2 ≤ sizeLine; decide, fun tp ntp => ?_⟩⟩
    refine ⟨tp, _, rfl, SqT.of upd_same, rfl, _, _, rfl, _, _, rfl, rfl, ?_⟩
    obtain ⟨H2, hH2⟩ : ∃ H2, H2 = upd (upd H1 l (.lst (ns.map V.int))) tp (.tup [o.val ns, .ref l]) := ⟨_, rfl⟩
    rw [← hH2]
    have s2 : Same H H2 := by
      rw [hH2]
      exact s1.trans ((same_upd nl).trans (same_upd ntp))
    have h2l : H2 l = some (.lst (ns.map V.int)) := by
      rw [hH2]
      exact same_upd ntp _ _ upd_same
    have hS : SqL K H2 p (ns.map V.int) := SqL.of (s2 _ _ hp)
    -- told
    refine ⟨_, rfl, _, rfl, o, p, ns, rfl, hS, hl, hw, ?_⟩
    refine ⟨_, rfl, _, rfl, rfl, rfl, o, p, ns, rfl, hS, hl, hw, ?_⟩
    refine ⟨_, rfl, _, rfl, rfl, rfl, o, p, ns, rfl, hS, hl, hw, ?_⟩
    refine ⟨by show 3 ≤ sizeLine; decide, fun tl ntl => ?_⟩
    have s3 := s2.trans (same_upd (o := .lst [o.val ns, o.val ns, o.val ns]) ntl)
    have h3 : (upd H2 tl (.lst [o.val ns, o.val ns, o.val ns])) l = some (.lst (ns.map V.int)) := same_upd ntl _ _ h2l
    -- all([alike(one, due_here) for one in told])
    refine ⟨_, rfl, tl, rfl, ⟨_, SqL.of upd_same⟩, fun D nD => ?_⟩
    refine lc_list (K := K) (a := tl) (xs := [o.val ns, o.val ns, o.val ns]) (fun i H' => Same (upd H2 tl (.lst [o.val ns, o.val ns, o.val ns])) H' ∧ H' D = some (.lst ((List.replicate i true).map V.bl)) ∧ i ≤ 3)
      ⟨same_upd nD, upd_same, by omega⟩ (fun i H' _ ⟨sm, _, _⟩ => sm.seq (SqL.of upd_same)) ?_ ?_
    · rintro i x H' hx ⟨sm, hD, hi⟩
      have ex : x = o.val ns := by
        match i, hx with
        | 0, hx => exact (Option.some.inj hx).symm
        | 1, hx => exact (Option.some.inj hx).symm
        | 2, hx => exact (Option.some.inj hx).symm
      have hi3 : i < 3 := (List.getElem?_eq_some_iff.mp hx).1
      subst ex
      refine ⟨rfl, ?_⟩
      refine yesT ?_
      refine ⟨_, rfl, _, rfl, o.val ns, rfl, val_kind o ns, _, hD, ?_, fun b z e => ?_, ?_, by omega⟩
      · rw [List.length_map, List.length_replicate]
        exact small1000 (by omega)
      · have nb : b ≠ D := ne_of_none e nD
        rw [upd_ne nb]
        exact sm _ _ e
      · rw [upd_same, List.replicate_succ', List.map_append]
        rfl
    · rintro H4 ⟨sm, hD, _⟩
      refine ⟨D, _, rfl, SqL.of hD, _, rfl, iteF ?_⟩
      have s4 : Same H H4 := s3.trans sm
      -- some != kept
      refine ⟨_, rfl, _, rfl, .list (ns.map PyData.int), .list (ns.map PyData.int), .lst (SqL.of (s4 _ _ hp)) (dpInts ns), .lst (SqL.of (sm _ _ h3)) (dpInts ns), shapedInts ns, shapedInts ns, _, rfl, ?_⟩
      refine ifF (by rw [SeqAt.eqv_refl _ (SeqAt.canLay_of_shaped (shapedInts ns))]; rfl) ?_
      -- if word in (..) and reckoned(word, some[::-1]) != due_here
      refine ⟨_, rfl, by show 5 ≤ sizeLine; decide, fun t nt => ⟨t, _, rfl, .inr (SqT.of upd_same), rfl, rfl, _, rfl, ?_⟩⟩
      have s5 := s4.trans (same_upd (o := .tup [.str "plus", .str "least", .str "most", .str "times", .str "same"]) nt)
      refine ite2 (fun e => ?_) (fun e => iteF (q _ s5))
      have e2 : o.n = 2 := (swap_val (a := 0) (b := 0) e).1
      obtain ⟨a, b, rfl⟩ := len2 (hl.trans e2)
      obtain ⟨_, e3, j, e4⟩ := swap_val (a := a) (b := b) e
      refine ⟨_, rfl, _, rfl, p, _, rfl, SqL.of (s5 _ _ hp), fun r nr => ?_⟩
      refine ⟨o, r, [b, a], rfl, SqL.of upd_same, hl, fun n hn => hw n (by simp at hn ⊢; omega), ?_⟩
      refine ⟨_, rfl, ?_, _, rfl, ?_⟩
      · rw [e3, e4]
        rfl
      · rw [e3]
        refine ifF (by rw [decide_eq_true rfl]; rfl) ?_
        exact q _ (s5.trans (same_upd nr))
end
section
variable {P : Program} {w : World} {K : PySem.W.Frag} {mg : Str → Option Value} {base : Heap} {RD : Addr}
theorem w2 {a b : Int} (ha : 0 ≤ a ∧ a < 1000000) (hb : 0 ≤ b ∧ b < 1000000) : Worths [a, b] := fun n hn => by
  rcases List.mem_cons.mp hn with rfl | hn
  · exact ha
  · rcases List.mem_cons.mp hn with rfl | hn
    · exact hb
    · cases hn
theorem w1 {a : Int} (ha : 0 ≤ a ∧ a < 1000000) : Worths [a] := fun n hn => by
  rcases List.mem_cons.mp hn with rfl | hn
  · exact ha
  · cases hn
theorem ne_false {x y : V} (h : x = y) : (!decide (x = y)) = false := by rw [decide_eq_true h]; rfl
theorem three_sorted (a b : Int) {ns' : List Int} (hp : ns'.Perm [if a < b then 1 else 0, if a = b then 1 else 0, if b < a then 1 else 0]) (hs : ns'.Pairwise (· ≤ ·)) : ns' = [0, 0, 1] := by
  have hq : ns'.Perm [0, 0, 1] := by
    refine hp.trans ?_
    by_cases h1 : a < b
    · rw [if_pos h1, if_neg (by omega), if_neg (by omega)]
      decide
    · by_cases h2 : a = b
      · rw [if_neg h1, if_pos h2, if_neg (by omega)]
        decide
      · rw [if_neg h1, if_neg h2, if_pos (by omega)]
  exact hq.eq_of_pairwise (fun _ _ _ _ h1 h2 => Int.le_antisymm h1 h2) hs (by decide)
theorem ok_two_right (T : Lt mg) (R : Reck P w K mg base) (D : Dd K mg "_law_two_right" s__law_two_right P__law_two_right) : C8.Cal P w K mg base 3 "_law_two_right" spTwo [] := by
  have creckoned := R.c0
  refine D.cal sc__law_two_right (fun vs H Q E h => ?_) (fun f cdv A outer s H vs Q E hr h => ?_)
  · obtain ⟨a, b, rfl, _⟩ := h
    rfl
  · obtain ⟨a, b, rfl, ha, hb, q⟩ := h
    refine ⟨_, (C8.pss_cut (ps_if (pt_cmpR op_gt (pv 1) pe_int (nomark _))
          (pss_cons (ps_par rfl sc__law_two_right.nd (i := 2) (j := 3) rfl rfl (by decide) rfl rfl (pa_cons (C8.pe_c creckoned hr (by decide) (by rfl) (pa_cons pe_str (pa_cons (pe_lst (pa_cons (pv 0) (pa_cons (pv 1) pa_nil))) pa_nil))) (pa_cons (C8.pe_c creckoned hr (by decide) (by rfl) (pa_cons pe_str (pa_cons (pe_lst (pa_cons (pv 0) (pa_cons (pv 1) pa_nil))) pa_nil))) pa_nil)) (by rfl))
        (pss_one (ps_if (PW.pt (pw_or (pt_cmpR op_ne (pe_op op_add (pe_op op_mul (pv 2) (pv 1)) (pv 3)) (pv 0) (nomark _)) (pw_or1 (pt_not (pt_chain op_le op_lt pe_int (pv 3) (pv 1))))))
          (pss_one (ps_ret pe_bl))
          pss_nil)))
          pss_nil)
        (pss_cons (ps_if (PW.pt (pw_or (pt_cmpR op_ne (C8.pe_c creckoned hr (by decide) (by rfl) (pa_cons pe_str (pa_cons (pe_lst (pa_cons (C8.pe_c creckoned hr (by decide) (by rfl) (pa_cons pe_str (pa_cons (pe_lst (pa_cons (pv 0) (pa_cons (pv 1) pa_nil))) pa_nil))) (pa_cons (pv 1) pa_nil))) pa_nil))) (pv 0) (nomark _)) (pw_or1 (pt_cmpR op_ne (C8.pe_c creckoned hr (by decide) (by rfl) (pa_cons pe_str (pa_cons (pe_lst (pa_cons (pv 0) pa_nil)) pa_nil))) (pv 0) (nomark _)))))
          (pss_one (ps_ret pe_bl))
          pss_nil)
        (pss_cons (ps_if (pt_cmpR op_ne (C8.pe_c creckoned hr (by decide) (by rfl) (pa_cons pe_str (pa_cons (pe_lst (pa_cons (C8.pe_c creckoned hr (by decide) (by rfl) (pa_cons pe_str (pa_cons (pe_lst (pa_cons (pv 0) (pa_cons (pv 1) pa_nil))) pa_nil))) (pa_cons (C8.pe_c creckoned hr (by decide) (by rfl) (pa_cons pe_str (pa_cons (pe_lst (pa_cons (pv 0) (pa_cons (pv 1) pa_nil))) pa_nil))) pa_nil))) pa_nil))) (pe_op op_mod (pe_op op_add (pv 0) (pv 1)) (pe_op op_pow pe_int pe_int)) (nomark _))
          (pss_one (ps_ret pe_bl))
          pss_nil)
        (pss_cons (ps_set (i := 4) sc__law_two_right.nd rfl (Or.inl rfl) (pe_lst (pa_cons (C8.pe_c creckoned hr (by decide) (by rfl) (pa_cons pe_str (pa_cons (pe_lst (pa_cons (pv 0) (pa_cons (pv 1) pa_nil))) pa_nil))) (pa_cons (C8.pe_c creckoned hr (by decide) (by rfl) (pa_cons pe_str (pa_cons (pe_lst (pa_cons (pv 0) (pa_cons (pv 1) pa_nil))) pa_nil))) (pa_cons (C8.pe_c creckoned hr (by decide) (by rfl) (pa_cons pe_str (pa_cons (pe_lst (pa_cons (pv 1) (pa_cons (pv 0) pa_nil))) pa_nil))) pa_nil)))))
        (pss_one (ps_ret (pe_cmpR (op_eqD hr.units) (pe_callB cr_sorted (by rfl) T.sorted (by decide +kernel) (pa_cons (pv 4) pa_nil)) (pe_lst (pa_cons pe_int (pa_cons pe_int (pa_cons pe_int pa_nil)))) (nomark _)))))))), ?_⟩
    refine ⟨fun σ' H' => ∃ y2 y3, σ' = [some (.int a), some (.int b), y2, y3, none] ∧ Same H H', ?_, ?_⟩
    · refine ⟨_, rfl, _, _, rfl, rfl, _, rfl, ite2 (fun e => ?_) (fun e => ⟨none, none, rfl, Same.refl H⟩)⟩
      have hb0 : 0 < b := of_decide_eq_true e
      have e1 : Op.val .over [a, b] = .int (a / b) := if_neg (by omega)
      have e2 : Op.val .rest [a, b] = .int (a % b) := if_neg (by omega)
      refine ⟨_, rfl, _, rfl, by show 2 ≤ sizeLine; decide, fun l nl => ⟨.over, l, [a, b], rfl, SqL.of upd_same, rfl, w2 ha hb, ?_⟩⟩
      rw [e1]
      refine ⟨_, rfl, _, rfl, by show 2 ≤ sizeLine; decide, fun l2 nl2 => ⟨.rest, l2, [a, b], rfl, SqL.of upd_same, rfl, w2 ha hb, ?_⟩⟩
      rw [e2]
      have sm := (same_upd (o := .lst [.int a, .int b]) nl).trans (same_upd (o := .lst [.int a, .int b]) nl2)
      refine ⟨_, _, rfl, ?_⟩
      refine ⟨_, rfl, _, rfl, _, _, rfl, rfl, .inr ⟨by omega, by omega⟩, _, rfl, _, _, rfl, rfl, _, rfl, rfl, _, rfl, ?_⟩
      refine ifF (ne_false (congrArg V.int (by rw [Int.mul_comm]; exact Int.mul_ediv_add_emod a b))) ?_
      have m0 := Int.emod_nonneg a (show b ≠ 0 by omega)
      have m1 := Int.emod_lt_of_pos a hb0
      refine ⟨_, rfl, _, _, rfl, rfl, _, rfl, ifT (decide_eq_true m0) ?_⟩
      refine ⟨_, rfl, _, _, rfl, rfl, _, rfl, ifF (by rw [decide_eq_true m1]; rfl) ?_⟩
      exact ⟨_, _, rfl, sm⟩
    · rintro σ' H' ⟨y2, y3, rfl, s0⟩
      have m0 := Int.emod_nonneg (a - b) (show (1000000 : Int) ≠ 0 by decide)
      have m1 := Int.emod_lt_of_pos (a - b) (show (0 : Int) < 1000000 by decide)
      -- plus of less and two, copy
      refine ⟨_, rfl, _, rfl, by show 2 ≤ sizeLine; decide, fun l1 n1 => ⟨.less, l1, [a, b], rfl, SqL.of upd_same, rfl, w2 ha hb, ?_⟩⟩
      refine ⟨_, rfl, by show 2 ≤ sizeLine; decide, fun l2 n2 => ⟨.plus, l2, [(a - b) % 1000000, b], rfl, SqL.of upd_same, rfl, w2 ⟨m0, m1⟩ hb, ?_⟩⟩
      refine ⟨_, rfl, rfl, _, rfl, ifF (ne_false (congrArg V.int ?_)) ?_⟩
      · show ((a - b) % 1000000 + b) % 1000000 = a
        rw [Int.emod_add_emod, Int.sub_add_cancel, Int.emod_eq_of_lt ha.1 ha.2]
      refine ⟨_, rfl, by show 1 ≤ sizeLine; decide, fun l3 n3 => ⟨.copy, l3, [a], rfl, SqL.of upd_same, rfl, w1 ha, ?_⟩⟩
      refine ⟨_, rfl, rfl, _, rfl, ifF (ne_false rfl) ?_⟩
      -- plus of least and most
      refine ⟨_, rfl, _, rfl, by show 2 ≤ sizeLine; decide, fun l4 n4 => ⟨.least, l4, [a, b], rfl, SqL.of upd_same, rfl, w2 ha hb, ?_⟩⟩
      refine ⟨_, rfl, _, rfl, by show 2 ≤ sizeLine; decide, fun l5 n5 => ⟨.most, l5, [a, b], rfl, SqL.of upd_same, rfl, w2 ha hb, ?_⟩⟩
      refine ⟨by show 2 ≤ sizeLine; decide, fun l6 n6 => ⟨.plus, l6, [if b < a then b else a, if b > a then b else a], rfl, SqL.of upd_same, rfl, w2 (by split <;> omega) (by split <;> omega), ?_⟩⟩
      refine ⟨_, rfl, _, rfl, _, _, rfl, rfl, _, _, rfl, rfl, ⟨by decide, by decide, by decide⟩, _, _, rfl, rfl, (by show (0 : Int) < _; decide), rfl, _, rfl, ifF (ne_false (congrArg V.int ?_)) ?_⟩
      · show ((if b < a then b else a) + (if b > a then b else a)) % 1000000 = (a + b) % (10 ^ Int.toNat 6)
        have e6 : (10 : Int) ^ Int.toNat 6 = 1000000 := by decide
        rw [e6]
        congr 1
        split <;> split <;> omega
      -- less
      refine ⟨_, rfl, _, rfl, by show 2 ≤ sizeLine; decide, fun l7 n7 => ⟨.under, l7, [a, b], rfl, SqL.of upd_same, rfl, w2 ha hb, ?_⟩⟩
      refine ⟨_, rfl, _, rfl, by show 2 ≤ sizeLine; decide, fun l8 n8 => ⟨.same, l8, [a, b], rfl, SqL.of upd_same, rfl, w2 ha hb, ?_⟩⟩
      refine ⟨_, rfl, _, rfl, by show 2 ≤ sizeLine; decide, fun l9 n9 => ⟨.under, l9, [b, a], rfl, SqL.of upd_same, rfl, w2 hb ha, ?_⟩⟩
      refine ⟨by show 3 ≤ sizeLine; decide, fun m nm => ?_⟩
      refine ⟨_, rfl, m, [if a < b then 1 else 0, if a = b then 1 else 0, if b < a then 1 else 0], rfl, SqL.of upd_same, by show 3 < 64; decide, fun ns' p hperm hsort np => ?_⟩
      have en := three_sorted a b hperm hsort
      subst en
      refine ⟨by show 3 ≤ sizeLine; decide, fun z nz => ?_⟩
      refine ⟨.list [.int 0, .int 0, .int 1], .list [.int 0, .int 0, .int 1], .lst (SqL.of (same_upd nz _ _ upd_same)) (dpInts [0, 0, 1]), .lst (SqL.of upd_same) (dpInts [0, 0, 1]), shapedInts [0, 0, 1], shapedInts [0, 0, 1], ?_⟩
      have ee : PyData.eqv (.list [.int 0, .int 0, .int 1]) (.list [.int 0, .int 0, .int 1]) = true := SeqAt.eqv_refl _ (SeqAt.canLay_of_shaped (shapedInts [0, 0, 1]))
      rw [ee]
      refine q _ ?_
      exact s0.trans ((same_upd n1).trans ((same_upd n2).trans ((same_upd n3).trans ((same_upd n4).trans ((same_upd n5).trans ((same_upd n6).trans ((same_upd n7).trans ((same_upd n8).trans ((same_upd n9).trans ((same_upd nm).trans ((same_upd np).trans (same_upd nz))))))))))))
end
abbrev s_law : Stmt := top 32
abbrev N_law : List Str := ["_law_script", "_law_cells", "_law_ops", "_law_k", "_law_box", "_law_word", "_law_many", "_law_turn", "_law_some", "_law_place"]
abbrev P_law : List Str := ["_law_script"]
theorem sc_law : FnScope N_law P_law (defScope s_law) := ⟨rfl, rfl, rfl, by decide +kernel, rfl, by decide +kernel, by decide +kernel⟩
def spLaw (K : PySem.W.Frag) : Sp := fun vs H Q _ => ∃ (a : Addr) (ns : List Int), vs = [.ref a] ∧ SqL K H a (ns.map V.int) ∧ ns.length ≤ 63 ∧ ∀ H', Q (.bl true) H'
theorem BoxL.mono {n m : Nat} {b : List V} (h : BoxL n b) (l : n ≤ m) : BoxL m b := by
  obtain ⟨b0, b1, b2, e, h0, h1, h2, h3, h4⟩ := h
  exact ⟨b0, b1, b2, e, h0, h1, h2, h3, by omega⟩
theorem Same.at_ {H0 H : Hp} {p : Addr} {o : HO} (s : Same H0 H) (n : H0 p = none) : Same H0 (upd H p o) := fun b x e => by
  rw [upd_ne (ne_of_none e n)]
  exact s b x e
theorem Same.new {H0 H : Hp} {p : Addr} {o : HO} (s : Same H0 H) (n : H p = none) : Same H0 (upd H p o) := s.trans (same_upd n)
theorem Same.but {H0 H H' : Hp} {a : Addr} (s : Same H0 H) (n : H0 a = none) (b : But a H H') : Same H0 H' := fun x o e => b x o (ne_of_none e n) (s x o e)
theorem at_neg1 {ns : List Int} (h : 0 < ns.length) : ∃ z, z ∈ ns ∧ atI (ns.map V.int) (-1) = some (.int z) := by
  refine ⟨ns.getLast (List.ne_nil_of_length_pos h), List.getLast_mem _, ?_⟩
  have hz : ns.map V.int = (ns.dropLast.map V.int) ++ [.int (ns.getLast (List.ne_nil_of_length_pos h))] := by
    rw [← List.map_singleton, ← List.map_append, List.dropLast_concat_getLast]
  rw [hz]
  exact atI_last _ _
theorem ixN_neg1 {n : Nat} (h : 0 < n) : ixN n (-1) = some (n - 1) := by
  unfold ixN
  rw [if_neg (by omega), if_pos (by omega)]
  congr 1
  omega
theorem Worths.set {ns : List Int} (h : Worths ns) (i : Nat) {v : Int} (hv : 0 ≤ v ∧ v < 1000000) : Worths (ns.set i v) := fun n hn => by
  rcases List.mem_or_eq_of_mem_set hn with e | e
  · exact h n e
  · rw [e]
    exact hv
theorem op_n (o : Op) : 1 ≤ o.n ∧ o.n ≤ 3 := by cases o <;> decide
/-- the table of ops and how many numbers each is of -/
def OpsAt (H : Hp) (ol : Addr) : Prop := ∃ ts : List Addr, H ol = some (.lst (ts.map V.ref)) ∧ ts.length = 11 ∧ ∀ t ∈ ts, ∃ o : Op, H t = some (.tup [.str o.w, .int (o.n : Nat)])
section
variable {P : Program} {w : World} {K : PySem.W.Frag} {mg : Str → Option Value} {base : Heap} {RD : Addr}
theorem ok_law (T : Lt mg) (c_law_folded : C8.Cal P w K mg base 1 "_law_folded" (spFold K) []) (c_law_dip : C8.Cal P w K mg base 1 "_law_dip" (spDip K) []) (c_law_take : C8.Cal P w K mg base 1 "_law_take" spTake [])
    (c_law_worth : C8.Cal P w K mg base 2 "_law_worth" spWorth []) (c_law_some_right : C8.Cal P w K mg base 3 "_law_some_right" spSome []) (c_law_two_right : C8.Cal P w K mg base 3 "_law_two_right" spTwo [])
    {f : Addr} {fd : FuncData} (F : L2.Fun K "law" "law" s_law f fd) : FnOk P w K mg base CX0 4 f fd ["_law_script"] (spLaw K) := by
  refine F.ok sc_law (fun vs H Q E h => ?_) (fun cdv A outer s H vs Q E hr h => ?_)
  · obtain ⟨a, ns, rfl, _⟩ := h
    rfl
  · obtain ⟨a, ns, rfl, hS, hlen, q⟩ := h
    refine ⟨_, (pss_cons (ps_set (i := 1) sc_law.nd rfl (Or.inl rfl) (C8.pe_c c_law_folded hr (by decide) (by rfl) (pa_cons (pv 0) (pa_cons pe_int pa_nil))))
        (pss_cons (ps_set (i := 2) sc_law.nd rfl (Or.inl rfl) (pe_lst (pa_cons (pe_tup (pa_cons pe_str (pa_cons pe_int pa_nil))) (pa_cons (pe_tup (pa_cons pe_str (pa_cons pe_int pa_nil))) (pa_cons (pe_tup (pa_cons pe_str (pa_cons pe_int pa_nil))) (pa_cons (pe_tup (pa_cons pe_str (pa_cons pe_int pa_nil))) (pa_cons (pe_tup (pa_cons pe_str (pa_cons pe_int pa_nil))) (pa_cons (pe_tup (pa_cons pe_str (pa_cons pe_int pa_nil))) (pa_cons (pe_tup (pa_cons pe_str (pa_cons pe_int pa_nil))) (pa_cons (pe_tup (pa_cons pe_str (pa_cons pe_int pa_nil))) pa_nil))))))))))
        (pss_cons (ps_set (i := 2) sc_law.nd rfl (Or.inl rfl) (pe_op op_cat (pv 2) (pe_lst (pa_cons (pe_tup (pa_cons pe_str (pa_cons pe_int pa_nil))) (pa_cons (pe_tup (pa_cons pe_str (pa_cons pe_int pa_nil))) (pa_cons (pe_tup (pa_cons pe_str (pa_cons pe_int pa_nil))) pa_nil))))))
        (pss_cons (ps_for PassesOwn.never rfl (pi_range1 rfl T.range (pa_cons (pe_op op_add pe_int (pe_callB call_len_seq (by rfl) T.len PySem.boot_len (pa_cons (pv 1) pa_nil))) pa_nil)) (pg_name (i := 3) sc_law.nd rfl (Or.inl rfl))
          (pss_cons (ps_set (i := 4) sc_law.nd rfl (Or.inr rfl) (C8.pe_c c_law_dip hr (by decide) (by rfl) (pa_cons (pv 1) (pa_cons (pv 3) pa_nil))))
        (pss_one (ps_for PassesOwn.never rfl (pi_list (pv 2)) (pg_tup rfl (pgs_cons (pg_name (i := 5) sc_law.nd rfl (Or.inl rfl)) (pgs_cons (pg_name (i := 6) sc_law.nd rfl (Or.inl rfl)) pgs_nil)))
          (pss_one (ps_for PassesOwn.never rfl (pi_range1 rfl T.range (pa_cons pe_int pa_nil)) (pg_name (i := 7) sc_law.nd rfl (Or.inl rfl))
          (pss_cons (ps_setLc (i := 8) (own := [("_law_place", 9)]) (by exact rfl) sc_law.nd rfl rfl (sw_true rfl rfl rfl (by decide +kernel)) (pi_range1 rfl T.range (pa_cons (pv 6) pa_nil)) (blkOk_by (own := [("_law_place", 9)]) (N := N_law) (sc := defScope s_law) (by decide +kernel)) (fun _ _ _ _ _ => (pg_name (i := 9) sc_law.nd rfl (Or.inl rfl))) (fun _ _ _ _ _ => pts_nil) (fun _ _ _ _ _ => (C8.pe_c c_law_worth hr (by decide) (by rfl) (pa_cons (pv 4) pa_nil))))
        (C8.pss_cut (ps_if (pt_cmpR op_eq (C8.pe_c c_law_take hr (by decide) (by rfl) (pa_cons (pv 4) (pa_cons pe_int pa_nil))) pe_int (nomark _))
          (pss_one (ps_asg (pe_ix ix_list (pv 8) pe_int (fun _ _ => rfl)) (pg_sub (pv 8) (pe_un un_neg pe_int) set_list)))
          pss_nil)
        (pss_one (ps_if (PW.pt (pw_or (pt_not (pt_val (C8.pe_c c_law_some_right hr (by decide) (by rfl) (pa_cons (pv 5) (pa_cons (pv 8) pa_nil))))) (pw_or1 (pt_not (pt_val (C8.pe_c c_law_two_right hr (by decide) (by rfl) (pa_cons (pe_ix ix_list (pv 8) pe_int (fun _ _ => rfl)) (pa_cons (pe_ix ix_list (pv 8) (pe_un un_neg pe_int) (fun _ _ => rfl)) pa_nil))))))))
          (pss_one (ps_ret pe_bl))
          pss_nil))))))))))
        (pss_one (ps_ret pe_bl)))))), ?_⟩
    -- cells = folded(script, 4)
    refine ⟨_, rfl, a, 4, ns, rfl, hS, hlen, by decide, by decide, fun H1 cp ms s1 ncp hcp hml => ?_⟩
    -- ops = [..]
    refine ⟨by show 2 ≤ sizeLine; decide, fun t1 n1 => ⟨by show 2 ≤ sizeLine; decide, fun t2 n2 => ⟨by show 2 ≤ sizeLine; decide, fun t3 n3 => ⟨by show 2 ≤ sizeLine; decide, fun t4 n4 => ⟨by show 2 ≤ sizeLine; decide, fun t5 n5 =>
      ⟨by show 2 ≤ sizeLine; decide, fun t6 n6 => ⟨by show 2 ≤ sizeLine; decide, fun t7 n7 => ⟨by show 2 ≤ sizeLine; decide, fun t8 n8 => ⟨by show 8 ≤ sizeLine; decide, fun l1 m1 => ?_⟩⟩⟩⟩⟩⟩⟩⟩⟩
    refine ⟨_, rfl, by show 2 ≤ sizeLine; decide, fun t9 n9 => ⟨by show 2 ≤ sizeLine; decide, fun t10 n10 => ⟨by show 2 ≤ sizeLine; decide, fun t11 n11 => ⟨by show 3 ≤ sizeLine; decide, fun l2 m2 => ?_⟩⟩⟩⟩
    refine ⟨l1, l2, _, _, rfl, rfl, same_upd m2 _ _ (same_upd n11 _ _ (same_upd n10 _ _ (same_upd n9 _ _ upd_same))), upd_same, by show 11 ≤ sizeLine; decide, fun ol nol => ?_⟩
    have z12 := same_upd (o := .lst ([.ref t1, .ref t2, .ref t3, .ref t4, .ref t5, .ref t6, .ref t7, .ref t8] ++ [.ref t9, .ref t10, .ref t11])) nol
    have z11 := Same.trans (same_upd (o := .lst [.ref t9, .ref t10, .ref t11]) m2) z12
    have z10 := Same.trans (same_upd (o := .tup [.str "pick", .int 3]) n11) z11
    have z9 := Same.trans (same_upd (o := .tup [.str "under", .int 2]) n10) z10
    have z8 := Same.trans (same_upd (o := .tup [.str "same", .int 2]) n9) z9
    have y8 := Same.trans (same_upd (o := .lst [.ref t1, .ref t2, .ref t3, .ref t4, .ref t5, .ref t6, .ref t7, .ref t8]) m1) z8
    have y7 := Same.trans (same_upd (o := .tup [.str "most", .int 2]) n8) y8
    have y6 := Same.trans (same_upd (o := .tup [.str "least", .int 2]) n7) y7
    have y5 := Same.trans (same_upd (o := .tup [.str "rest", .int 2]) n6) y6
    have y4 := Same.trans (same_upd (o := .tup [.str "over", .int 2]) n5) y5
    have y3 := Same.trans (same_upd (o := .tup [.str "times", .int 2]) n4) y4
    have y2 := Same.trans (same_upd (o := .tup [.str "less", .int 2]) n3) y3
    have y1 := Same.trans (same_upd (o := .tup [.str "plus", .int 2]) n2) y2
    have y0 := Same.trans (same_upd (o := .tup [.str "copy", .int 1]) n1) y1
    have hops : OpsAt _ ol := ⟨[t1, t2, t3, t4, t5, t6, t7, t8, t9, t10, t11], upd_same, rfl, fun t ht => by
      simp only [List.mem_cons, List.not_mem_nil, or_false] at ht
      rcases ht with rfl | rfl | rfl | rfl | rfl | rfl | rfl | rfl | rfl | rfl | rfl
      · exact ⟨.copy, y1 _ _ upd_same⟩
      · exact ⟨.plus, y2 _ _ upd_same⟩
      · exact ⟨.less, y3 _ _ upd_same⟩
      · exact ⟨.times, y4 _ _ upd_same⟩
      · exact ⟨.over, y5 _ _ upd_same⟩
      · exact ⟨.rest, y6 _ _ upd_same⟩
      · exact ⟨.least, y7 _ _ upd_same⟩
      · exact ⟨.most, y8 _ _ upd_same⟩
      · exact ⟨.same, z9 _ _ upd_same⟩
      · exact ⟨.under, z10 _ _ upd_same⟩
      · exact ⟨.pick, z11 _ _ upd_same⟩⟩
    have hcp0 := y0 _ _ hcp
    obtain ⟨H0, eH0, hops, hcq⟩ : ∃ H0 : Hp, H0 = _ ∧ OpsAt H0 ol ∧ H0 cp = some (.lst (ms.map V.int)) := ⟨_, rfl, hops, hcp0⟩
    obtain ⟨ts, hol, hts, htt⟩ := hops
    have hlm : ((ms.map V.int).length : Int) ≤ 4 := by
      rw [List.length_map]
      omega
    -- for k in range(1 + len(cells))
    refine ⟨_, rfl, cp, _, rfl, .inl (SqL.of hcp0), _, _, rfl, rfl, _, rfl, by omega, by omega, ?_⟩
    refine for_range (lo := 0) (fun i σ H2 => ∃ y3 y4 y5 y6 y7 y8, σ = [some (.ref a), some (.ref cp), some (.ref ol), y3, y4, y5, y6, y7, y8, none] ∧ Same H0 H2) ⟨none, none, none, none, none, none, rfl, by rw [eH0]; exact Same.refl _⟩ ?_ ?_
    · rintro i σ H2 hi ⟨y3, y4, y5, y6, y7, y8, rfl, s2⟩
      rw [Int.zero_add]
      have hi' : i ≤ 63 := by omega
      -- box = dip(cells, k)
      refine ⟨_, rfl, _, rfl, cp, i, ms, rfl, SqL.of (s2 _ _ hcq), hi', fun bx b nbx hB => ?_⟩
      have n0 : H0 bx = none := s2.free nbx
      have s3 : Same H0 (upd H2 bx (.lst b)) := Same.new s2 nbx
      -- for word, many in ops
      refine ⟨_, rfl, ol, rfl, ⟨_, SqL.of (s3 _ _ hol)⟩, for_list (K := K) (a := ol) (xs := ts.map V.ref) (fun j σ H3 => ∃ y5 y6 y7 y8 b', σ = [some (.ref a), some (.ref cp), some (.ref ol), some (.int i), some (.ref bx), y5, y6, y7, y8, none] ∧ Same H0 H3 ∧ H3 bx = some (.lst b') ∧ BoxL (120 * j) b' ∧ j ≤ 11)
        ⟨y5, y6, y7, y8, b, rfl, s3, upd_same, hB, by omega⟩ (fun j σ H3 _ ⟨_, _, _, _, _, _, s4, _⟩ => SqL.of (s4 _ _ hol)) ?_ ?_⟩
      · rintro j x σ H3 hx ⟨y5, y6, y7, y8, b3, rfl, s4, hb3, hB3, hj⟩
        have hj11 : j < 11 := by
          have := (List.getElem?_eq_some_iff.mp hx).1
          rw [List.length_map] at this
          omega
        obtain ⟨t, ht, rfl⟩ : ∃ t, t ∈ ts ∧ x = .ref t := by
          rw [List.getElem?_map] at hx
          cases e : ts[j]? with
          | none =>
            rw [e] at hx
            cases hx
          | some t =>
            rw [e] at hx
            exact ⟨t, List.mem_of_getElem? e, (Option.some.inj hx).symm⟩
        obtain ⟨o, ho⟩ := htt t ht
        have hon := op_n o
        refine ⟨t, _, rfl, SqT.of (s4 _ _ ho), rfl, _, _, rfl, _, _, rfl, rfl, ?_⟩
        -- for turn in range(12)
        refine ⟨12, rfl, by decide, by decide, for_range (lo := 0) (n := 12) (fun m σ H5 => ∃ y7 y8 b', σ = [some (.ref a), some (.ref cp), some (.ref ol), some (.int i), some (.ref bx), some (.str o.w), some (.int (o.n : Nat)), y7, y8, none] ∧ Same H0 H5 ∧ H5 bx = some (.lst b') ∧ BoxL (120 * j + 10 * m) b')
          ⟨y7, y8, b3, rfl, s4, hb3, hB3⟩ ?_ ?_⟩
        · rintro m σ H5 hm ⟨y7, y8, b5, rfl, s5, hb5, hB5⟩
          -- some = [worth(box) for place in range(many)]
          refine ⟨_, rfl, ((o.n : Nat) : Int), rfl, by omega, by omega, fun D nD => ?_⟩
          have nbD : bx ≠ D := ne_of_none hb5 nD
          have nD0 : H0 D = none := s5.free nD
          refine lc_range (lo := 0) (n := o.n) (fun i6 H6 => ∃ b6, ∃ vs : List Int, Same H0 H6 ∧ H6 D = some (.lst (vs.map V.int)) ∧ vs.length = i6 ∧ Worths vs ∧ H6 bx = some (.lst b6) ∧ BoxL (120 * j + 10 * m + 3 * i6) b6)
            ⟨b5, [], Same.new s5 nD, upd_same, rfl, (fun _ h => nomatch h), by rw [upd_ne nbD]; exact hb5, hB5⟩ ?_ ?_
          · rintro i6 H6 hi6 ⟨b6, vs, s6, hD, hv, hw, hb6, hB6⟩
            refine ⟨rfl, yesT ?_⟩
            refine ⟨_, rfl, bx, _, b6, rfl, hb6, hB6, by omega, fun H7 v b7 hbut hb7 hB7 v0 v1 => ?_⟩
            refine ⟨_, hbut D _ nbD.symm hD, by rw [List.length_map]; exact small1000 (by omega), b7, vs ++ [v], Same.at_ (Same.but s6 n0 hbut) nD0, ?_, by rw [List.length_append, hv]; rfl, ?_, ?_, hB7.mono (by omega)⟩
            · rw [upd_same, List.map_append]
              rfl
            · intro n hn
              rcases List.mem_append.mp hn with h | h
              · exact hw n h
              · rw [List.mem_singleton.mp h]
                exact ⟨v0, v1⟩
            · rw [upd_ne nbD]
              exact hb7
          · rintro H6 ⟨b6, vs, s6, hD, hv, hw, hb6, hB6⟩
            -- if take(box, 4) == 0: some[-1] = some[0]
            refine ⟨fun σ' H' => ∃ y7 b7, ∃ us : List Int, σ' = [some (.ref a), some (.ref cp), some (.ref ol), some (.int i), some (.ref bx), some (.str o.w), some (.int (o.n : Nat)), y7, some (.ref D), none] ∧ Same H0 H' ∧ H' D = some (.lst (us.map V.int)) ∧ us.length = o.n ∧ Worths us ∧ H' bx = some (.lst b7) ∧ BoxL (120 * j + 10 * (m + 1)) b7, ?_, ?_⟩
            · refine ⟨_, rfl, bx, 4, _, b6, rfl, hb6, hB6, by omega, by decide, by decide, fun r b7 r0 r1 hB7 => ⟨rfl, _, rfl, ite2 (fun e => ?_) (fun e => ?_)⟩⟩
              · have h7 : (upd H6 bx (.lst b7)) D = some (.lst (vs.map V.int)) := by
                  rw [upd_ne nbD.symm]
                  exact hD
                have hv0 : 0 < vs.length := by omega
                have g : (vs.map V.int)[0]? = some (.int vs[0]) := by
                  rw [List.getElem?_map, List.getElem?_eq_getElem hv0]
                  rfl
                refine ⟨_, rfl, D, _, 0, .int vs[0], rfl, rfl, SqL.of h7, atI_nat (j := 0) g, _, rfl, 1, rfl, D, _, -1, vs.length - 1, rfl, rfl, h7, ?_, ?_⟩
                · rw [List.length_map]
                  exact ixN_neg1 hv0
                · refine ⟨_, b7, vs.set (vs.length - 1) vs[0], rfl, Same.at_ (Same.at_ s6 n0) nD0, by rw [upd_same, List.map_set], by rw [List.length_set]; exact hv, hw.set _ (hw _ (List.getElem_mem hv0)), ?_, hB7.mono (by omega)⟩
                  rw [upd_ne nbD, upd_same]
              · refine ⟨_, b7, vs, rfl, Same.at_ s6 n0, ?_, hv, hw, upd_same, hB7.mono (by omega)⟩
                rw [upd_ne nbD.symm]
                exact hD
            · rintro σ' H7 ⟨y7, b7, us, rfl, s7, hD7, hu, hw7, hb7, hB7⟩
              -- some_right(word, some)
              refine ⟨_, rfl, _, rfl, o, D, us, rfl, hD7, hu, hw7, fun H8 s8 => ⟨_, rfl, iteF ?_⟩⟩
              have hu0 : 0 < us.length := by omega
              have g : (us.map V.int)[0]? = some (.int us[0]) := by
                rw [List.getElem?_map, List.getElem?_eq_getElem hu0]
                rfl
              obtain ⟨z, hz, ez⟩ := at_neg1 hu0
              have hS8 : SqL K H8 D (us.map V.int) := SqL.of (s8 _ _ hD7)
              -- two_right(some[0], some[-1])
              refine ⟨_, rfl, D, _, 0, .int us[0], rfl, rfl, hS8, atI_nat (j := 0) g, _, rfl, 1, rfl, D, _, -1, .int z, rfl, rfl, hS8, ez, us[0], z, rfl, hw7 _ (List.getElem_mem hu0), hw7 _ hz, fun H9 s9 => ⟨_, rfl, iteF ?_⟩⟩
              exact ⟨_, _, b7, rfl, s7.trans (s8.trans s9), s9 _ _ (s8 _ _ hb7), hB7⟩
        · rintro σ H5 ⟨y7, y8, b5, rfl, s5, hb5, hB5⟩
          exact ⟨_, _, y7, y8, b5, rfl, s5, hb5, hB5.mono (by omega), by omega⟩
      · rintro σ H3 ⟨y5, y6, y7, y8, b3, rfl, s4, hb3, hB3, hj⟩
        exact ⟨_, _, y5, y6, y7, y8, rfl, s4⟩
    · rintro σ H2 ⟨y3, y4, y5, y6, y7, y8, rfl, s2⟩
      exact q H2
end
/-! ### from what the top has written -/
section
variable {w : World} {K : PySem.W.Frag} {h : Heap} {mg : Str → Option Value}
theorem fun_dd {x : Str} {st : Stmt} {ps : List Str} {f : Addr} {oc : Value} {od an : Option Addr} {osl : Array (Option Value)} {kV doc pm cdv ct : Value} (X : K.In h) (G : h.Ns mainGlobals mg) (a : PySem.W.nsIn K mainGlobals x = some (some (.ref f)))
    (l : K.lookup f = some ⟨oc, od, .func (PySem.W.fnOf x x (defArgs st) (defBody st) (defScope st) .none kV doc pm an cdv ct), osl⟩) (c : PySem.W.codeIn K cdv x = true) (k : PySem.W.keepIn K (.ref f) = true)
    (hb : ∀ (kV doc pm : Value) (an : Option Addr) (cdv ct : Value) (us : List Value), us.length = ps.length → bindArgs (PySem.W.fnOf x x (defArgs st) (defBody st) (defScope st) .none kV doc pm an cdv ct) ⟨us, []⟩ = pure (ps.zip us)) : Dd K mg x st ps :=
  ⟨f, _, fun_mk (st := st) l c k, PySem.W.mg_of X G a, (fun_mk (st := st) l c k).binds hb⟩
theorem fun_ddk {x kn : Str} {kv : V} {ku : Value} {st : Stmt} {f kd : Addr} {oc : Value} {od an : Option Addr} {osl : Array (Option Value)} {doc pm cdv ct : Value} (X : K.In h) (G : h.Ns mainGlobals mg) (a : PySem.W.nsIn K mainGlobals x = some (some (.ref f)))
    (l : K.lookup f = some ⟨oc, od, .func (PySem.W.fnOf x x (defArgs st) (defBody st) (defScope st) .none (.ref kd) doc pm an cdv ct), osl⟩) (c : PySem.W.codeIn K cdv x = true) (k : PySem.W.keepIn K (.ref f) = true)
    (d : PySem.W.nsIn K kd kn = some (some ku)) (r : RelV kv ku) : DdK K mg x st [(kn, kv)] :=
  ⟨f, _, ⟨⟨_, _, _, _, _, _, _, _, _, _, rfl, l, c, .inl ⟨rfl, rfl⟩, .inr ⟨kd, rfl, fun q hq => by
    rw [List.mem_singleton.mp hq]
    exact ⟨_, d, r⟩⟩⟩, k⟩, PySem.W.mg_of X G a⟩
structure Act0 (K : PySem.W.Frag) (RD : Addr) (o : Op) (x : Str) (st : Stmt) (ps : List Str) : Prop where
  ex : ∃ (f : Addr) (fd : FuncData), L2.Fun K x x st f fd ∧ Binds K fd ps [] ∧ PySem.W.nsIn K RD o.w = some (some (.ref f))
theorem fun_act {RD : Addr} {o : Op} {x : Str} {st : Stmt} {ps : List Str} {f : Addr} {oc : Value} {od an : Option Addr} {osl : Array (Option Value)} {kV doc pm cdv ct : Value} (a : PySem.W.nsIn K RD o.w = some (some (.ref f)))
    (l : K.lookup f = some ⟨oc, od, .func (PySem.W.fnOf x x (defArgs st) (defBody st) (defScope st) .none kV doc pm an cdv ct), osl⟩) (c : PySem.W.codeIn K cdv x = true) (k : PySem.W.keepIn K (.ref f) = true)
    (hb : ∀ (kV doc pm : Value) (an : Option Addr) (cdv ct : Value) (us : List Value), us.length = ps.length → bindArgs (PySem.W.fnOf x x (defArgs st) (defBody st) (defScope st) .none kV doc pm an cdv ct) ⟨us, []⟩ = pure (ps.zip us)) : Act0 K RD o x st ps :=
  ⟨f, _, fun_mk (st := st) l c k, (fun_mk (st := st) l c k).binds hb, a⟩
theorem Act0.at_ {RD : Addr} {o : Op} {x : Str} {st : Stmt} {ps : List Str} {es : Array DictEntry} {n : Nat} (A : Act0 K RD o x st ps) (lR : K.lookup RD = some ⟨.type "dict", none, .dict es n, #[]⟩) (kl : PySem.W.KeysLit w.params es.toList) : ActAt K w RD o x st ps := by
  obtain ⟨f, fd, F, b, a⟩ := A.ex
  exact ⟨f, fd, F, b, es, n, _, lR, kl, a, rfl⟩
end
theorem all_mk {l : PySem.W.OpenLaw} {w : World} {K : PySem.W.Frag} {h : Heap} {mg : Str → Option Value} {fa RD f4 : Addr} {es : Array DictEntry} {n : Nat} (X : K.In h) (G : h.Ns mainGlobals mg) (hfa : mg "law" = some (.ref fa))
    {tB : Tok} (aR : PySem.W.nsIn K mainGlobals "RECKONINGS" = some (some (.ref RD))) (lR : K.lookup RD = some ⟨.type "dict", none, .dict es n, #[]⟩) (kl : PySem.W.KeysLit w.params es.toList) (aB : PySem.W.nsIn K mainGlobals "BOUND" = some (some (.int 1000000 tB)))
    (z1 : PySem.W.nsIn K mainGlobals "len" = some none) (z2 : PySem.W.nsIn K mainGlobals "abs" = some none) (z3 : PySem.W.nsIn K mainGlobals "int" = some none) (z4 : PySem.W.nsIn K mainGlobals "list" = some none)
    (z5 : PySem.W.nsIn K mainGlobals "enumerate" = some none) (z6 : PySem.W.nsIn K mainGlobals "range" = some none) (z7 : PySem.W.nsIn K mainGlobals "min" = some none) (z8 : PySem.W.nsIn K mainGlobals "max" = some none)
    (z9 : PySem.W.nsIn K mainGlobals "isinstance" = some none) (z10 : PySem.W.nsIn K mainGlobals "bool" = some none) (z11 : PySem.W.nsIn K mainGlobals "all" = some none) (z12 : PySem.W.nsIn K mainGlobals "sorted" = some none)
    (A1 : Act0 K RD .copy "copy_of" s_copy_of P_copy_of) (A2 : Act0 K RD .plus "plus_of" s_plus_of P_plus_of) (A3 : Act0 K RD .less "less_of" s_less_of P_less_of) (A4 : Act0 K RD .times "times_of" s_times_of P_times_of)
    (A5 : Act0 K RD .over "over_of" s_over_of P_over_of) (A6 : Act0 K RD .rest "rest_of_two" s_rest_of_two P_rest_of_two) (A7 : Act0 K RD .least "least_of" s_least_of P_least_of) (A8 : Act0 K RD .most "most_of" s_most_of P_most_of)
    (A9 : Act0 K RD .same "same_of" s_same_of P_same_of) (A10 : Act0 K RD .under "under_of" s_under_of P_under_of) (A11 : Act0 K RD .pick "pick_of" s_pick_of P_pick_of)
    (DR : DdK K mg "reckoned" s_reckoned [("cap", .int 0)]) (D1 : Dd K mg "_law_take" s__law_take P__law_take) (D2 : Dd K mg "_law_dip" s__law_dip P__law_dip) (D3 : Dd K mg "_law_folded" s__law_folded P__law_folded) (D4 : Dd K mg "_law_worth" s__law_worth P__law_worth)
    (D5 : Dd K mg "_law_alike" s__law_alike P__law_alike) (D6 : Dd K mg "_law_due" s__law_due P__law_due) (D7 : Dd K mg "_law_some_right" s__law_some_right P__law_some_right) (D8 : Dd K mg "_law_two_right" s__law_two_right P__law_two_right)
    {od4 an4 : Option Addr} {sl4 : Array (Option Value)} {oc4 kV4 dc4 pm4 cd4 ct4 : Value}
    (a4 : PySem.W.nsIn K mainGlobals "law" = some (some (.ref f4))) (l4 : K.lookup f4 = some ⟨oc4, od4, .func (PySem.W.fnOf "law" "law" (defArgs s_law) (defBody s_law) (defScope s_law) .none kV4 dc4 pm4 an4 cd4 ct4), sl4⟩) (c4 : PySem.W.codeIn K cd4 "law" = true) (k4 : PySem.W.keepIn K (.ref f4) = true) :
    ∃ fd : FuncData, (∀ (s : Shared) (v : Value), BindsTo s fd ⟨[v], []⟩ [("_law_script", v)]) ∧ ∀ base : Heap, K.In base → base.Ns mainGlobals mg → FnOk l.prog w K mg base CX0 4 fa fd ["_law_script"] (spLaw K) := by
  have e := hfa.symm.trans (PySem.W.mg_of X G a4)
  cases e
  have F4 := fun_mk (st := s_law) l4 c4 k4
  have m1 := PySem.W.mg_none_of X G z1
  have m2 := PySem.W.mg_none_of X G z2
  have m3 := PySem.W.mg_none_of X G z3
  have m4 := PySem.W.mg_none_of X G z4
  have m5 := PySem.W.mg_none_of X G z5
  have m6 := PySem.W.mg_none_of X G z6
  have m7 := PySem.W.mg_none_of X G z7
  have m8 := PySem.W.mg_none_of X G z8
  have m9 := PySem.W.mg_none_of X G z9
  have m10 := PySem.W.mg_none_of X G z10
  have m11 := PySem.W.mg_none_of X G z11
  have m12 := PySem.W.mg_none_of X G z12
  have B : Bt mg := ⟨m1, m2, m3, m4, m5, m6⟩
  have TA : At mg := ⟨⟨_, PySem.W.mg_of X G aB, ⟨_, rfl⟩⟩, m7, m8⟩
  have TR : Rt mg RD := ⟨PySem.W.mg_of X G aR⟩
  have TL : Lt mg := ⟨m9, m3, m10, m7, m8, m4, m11, m12, m6, m1⟩
  refine ⟨PySem.W.fnOf "law" "law" (defArgs s_law) (defBody s_law) (defScope s_law) .none kV4 dc4 pm4 an4 cd4 ct4, fun s v => .of_eq rfl, fun base _ _ => ?_⟩
  have As : ∀ o, Has l.prog w K mg base RD o := fun o => by
    cases o with
    | copy => exact ok_copy TA (A1.at_ lR kl)
    | plus => exact ok_plus TA (A2.at_ lR kl)
    | less => exact ok_less TA (A3.at_ lR kl)
    | times => exact ok_times TA (A4.at_ lR kl)
    | over => exact ok_over TA (A5.at_ lR kl)
    | rest => exact ok_rest TA (A6.at_ lR kl)
    | least => exact ok_least TA (A7.at_ lR kl)
    | most => exact ok_most TA (A8.at_ lR kl)
    | same => exact ok_same TA (A9.at_ lR kl)
    | under => exact ok_under TA (A10.at_ lR kl)
    | pick => exact ok_pick TA (A11.at_ lR kl)
  have R : Reck l.prog w K mg base := ok_reckoned TR As DR
  have ct := ok_take (P := l.prog) (w := w) (base := base) D1
  exact ok_law TL (ok_folded B D3) (ok_dip B D2) ct (ok_worth ct D4) (ok_some_right TL R (ok_due TL D6) (ok_alike TL D5) D7) (ok_two_right TL R D8) F4
end Thr
open PySem PySem.W PyProof.Rows
set_option maxRecDepth 100000 in
set_option maxHeartbeats 0 in
theorem PySem.Challenge.cw_threereckons_k02_reckoned_by_no_cap_holds : PySem.Challenge.rw_threereckons_k02_reckoned_by_no_cap.Holds := by
  w_on; o_law; k_head; (case hw => w_witness2)
  k_fill
  refine L2.walk_of (l := PySem.Challenge.rw_threereckons_k02_reckoned_by_no_cap) (n := 63) (k := 4) (x := "_law_script") (CX := fun _ => L2.CX0) (sp := fun w => Thr.spLaw _) rfl (by decide) rfl ⟨rfl, by decide, by decide⟩ (fun w h Y => PySem.W.kIn_of Y) ?F (fun _ _ a ns hl _ hS => ⟨a, ns, rfl, hS, hl, fun _ => rfl⟩) (fun _ _ _ _ _ h => h)
  case F =>
    intro w mg fa h KX G hmg
    refine' Thr.all_mk KX G hmg ?aR ?lR ?kl ?aB ?z1 ?z2 ?z3 ?z4 ?z5 ?z6 ?z7 ?z8 ?z9 ?z10 ?z11 ?z12 (Thr.fun_act ?a1 ?l1 ?c1 ?k1 ?b1) (Thr.fun_act ?a2 ?l2 ?c2 ?k2 ?b2) (Thr.fun_act ?a3 ?l3 ?c3 ?k3 ?b3) (Thr.fun_act ?a4 ?l4 ?c4 ?k4 ?b4)
      (Thr.fun_act ?a5 ?l5 ?c5 ?k5 ?b5) (Thr.fun_act ?a6 ?l6 ?c6 ?k6 ?b6) (Thr.fun_act ?a7 ?l7 ?c7 ?k7 ?b7) (Thr.fun_act ?a8 ?l8 ?c8 ?k8 ?b8) (Thr.fun_act ?a9 ?l9 ?c9 ?k9 ?b9) (Thr.fun_act ?a10 ?l10 ?c10 ?k10 ?b10) (Thr.fun_act ?a11 ?l11 ?c11 ?k11 ?b11)
      (Thr.fun_ddk KX G ?ar ?lr ?cr ?kr ?dr ?rr) (Thr.fun_dd KX G ?x1 ?y1 ?u1 ?v1 ?w1) (Thr.fun_dd KX G ?x2 ?y2 ?u2 ?v2 ?w2) (Thr.fun_dd KX G ?x3 ?y3 ?u3 ?v3 ?w3) (Thr.fun_dd KX G ?x4 ?y4 ?u4 ?v4 ?w4) (Thr.fun_dd KX G ?x5 ?y5 ?u5 ?v5 ?w5) (Thr.fun_dd KX G ?x6 ?y6 ?u6 ?v6 ?w6)
      (Thr.fun_dd KX G ?x7 ?y7 ?u7 ?v7 ?w7) (Thr.fun_dd KX G ?x8 ?y8 ?u8 ?v8 ?w8) ?aL ?lL ?cL ?kL
    (case aR => k_is); (case lR => k_is)
    (case kl => (repeat (first | exact trivial | refine ⟨⟨_, _, rfl, rfl⟩, ?_⟩)))
    (case aB => k_is); (case z1 => k_is); (case z2 => k_is); (case z3 => k_is); (case z4 => k_is); (case z5 => k_is); (case z6 => k_is); (case z7 => k_is); (case z8 => k_is); (case z9 => k_is); (case z10 => k_is); (case z11 => k_is); (case z12 => k_is)
    (case a1 => k_is); (case l1 => k_is); (case c1 => k_is); (case k1 => k_is); (case b1 => exact fun _ _ _ _ _ _ us hl => match us, hl with | [_], _ => rfl)
    (case a2 => k_is); (case l2 => k_is); (case c2 => k_is); (case k2 => k_is); (case b2 => exact fun _ _ _ _ _ _ us hl => match us, hl with | [_, _], _ => rfl)
    (case a3 => k_is); (case l3 => k_is); (case c3 => k_is); (case k3 => k_is); (case b3 => exact fun _ _ _ _ _ _ us hl => match us, hl with | [_, _], _ => rfl)
    (case a4 => k_is); (case l4 => k_is); (case c4 => k_is); (case k4 => k_is); (case b4 => exact fun _ _ _ _ _ _ us hl => match us, hl with | [_, _], _ => rfl)
    (case a5 => k_is); (case l5 => k_is); (case c5 => k_is); (case k5 => k_is); (case b5 => exact fun _ _ _ _ _ _ us hl => match us, hl with | [_, _], _ => rfl)
    (case a6 => k_is); (case l6 => k_is); (case c6 => k_is); (case k6 => k_is); (case b6 => exact fun _ _ _ _ _ _ us hl => match us, hl with | [_, _], _ => rfl)
    (case a7 => k_is); (case l7 => k_is); (case c7 => k_is); (case k7 => k_is); (case b7 => exact fun _ _ _ _ _ _ us hl => match us, hl with | [_, _], _ => rfl)
    (case a8 => k_is); (case l8 => k_is); (case c8 => k_is); (case k8 => k_is); (case b8 => exact fun _ _ _ _ _ _ us hl => match us, hl with | [_, _], _ => rfl)
    (case a9 => k_is); (case l9 => k_is); (case c9 => k_is); (case k9 => k_is); (case b9 => exact fun _ _ _ _ _ _ us hl => match us, hl with | [_, _], _ => rfl)
    (case a10 => k_is); (case l10 => k_is); (case c10 => k_is); (case k10 => k_is); (case b10 => exact fun _ _ _ _ _ _ us hl => match us, hl with | [_, _], _ => rfl)
    (case a11 => k_is); (case l11 => k_is); (case c11 => k_is); (case k11 => k_is); (case b11 => exact fun _ _ _ _ _ _ us hl => match us, hl with | [_, _, _], _ => rfl)
    (case ar => k_is); (case lr => k_is); (case cr => k_is); (case kr => k_is); (case dr => k_is); (case rr => exact ⟨_, rfl⟩)
    (case x1 => k_is); (case y1 => k_is); (case u1 => k_is); (case v1 => k_is); (case w1 => exact fun _ _ _ _ _ _ us hl => match us, hl with | [_, _], _ => rfl)
    (case x2 => k_is); (case y2 => k_is); (case u2 => k_is); (case v2 => k_is); (case w2 => exact fun _ _ _ _ _ _ us hl => match us, hl with | [_, _], _ => rfl)
    (case x3 => k_is); (case y3 => k_is); (case u3 => k_is); (case v3 => k_is); (case w3 => exact fun _ _ _ _ _ _ us hl => match us, hl with | [_, _], _ => rfl)
    (case x4 => k_is); (case y4 => k_is); (case u4 => k_is); (case v4 => k_is); (case w4 => exact fun _ _ _ _ _ _ us hl => match us, hl with | [_], _ => rfl)
    (case x5 => k_is); (case y5 => k_is); (case u5 => k_is); (case v5 => k_is); (case w5 => exact fun _ _ _ _ _ _ us hl => match us, hl with | [_, _], _ => rfl)
    (case x6 => k_is); (case y6 => k_is); (case u6 => k_is); (case v6 => k_is); (case w6 => exact fun _ _ _ _ _ _ us hl => match us, hl with | [_, _], _ => rfl)
    (case x7 => k_is); (case y7 => k_is); (case u7 => k_is); (case v7 => k_is); (case w7 => exact fun _ _ _ _ _ _ us hl => match us, hl with | [_, _], _ => rfl)
    (case x8 => k_is); (case y8 => k_is); (case u8 => k_is); (case v8 => k_is); (case w8 => exact fun _ _ _ _ _ _ us hl => match us, hl with | [_, _], _ => rfl)
    (case aL => k_is); (case lL => k_is); (case cL => k_is); (case kL => k_is)
