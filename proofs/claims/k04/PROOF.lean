import PyProof.Rows.All
import Wide.All
import OpenK.AllK
import Wide.FinOn
import HandS.ForMost
import HandS.Walk
import HandS.Codes
import HandS.IsInst
import HandS.Defaults
import HandS.Star
import HandS.Flow
import HandS.Style
import HandS.CallLocal
import HandS.More
import HandS.DeepEq
import PyProof.Rows.NestShow
import PySem.Challenge.RW_threereckons_k04_ops_of_any_make
set_option Elab.async false
set_option linter.all false
set_option maxRecDepth 100000
set_option maxHeartbeats 4000000
namespace Thr
open PySem PySem.Spec PyProof.Rows L2
/-! ### heaps -/
theorem same_upd {H : Hp} {p : Addr} {o : HO} (h : H p = none) : Same H (upd H p o) := fun b x e => by
  rw [upd_ne (ne_of_none e h)]
  exact e
/-- all but what stands at a -/
def But (a : Addr) (H H' : Hp) : Prop := ∀ b o, b ≠ a → H b = some o → H' b = some o
theorem But.refl (a : Addr) (H : Hp) : But a H H := fun _ _ _ h => h
theorem But.trans {a : Addr} {H H1 H2 : Hp} (x : But a H H1) (y : But a H1 H2) : But a H H2 := fun b o n h => y b o n (x b o n h)
theorem But.of {a : Addr} {H H' : Hp} (s : Same H H') : But a H H' := fun b o _ h => s b o h
theorem But.upd {a : Addr} {H H' : Hp} {o : HO} (x : But a H H') : But a H (upd H' a o) := fun b u n h => by
  rw [upd_ne n]
  exact x b u n h
theorem But.new {a p : Addr} {H H' : Hp} {o : HO} (x : But a H H') (h : H' p = none) : But a H (L2.upd H' p o) := fun b u n e => by
  have e' := x b u n e
  rw [upd_ne (ne_of_none e' h)]
  exact e'
theorem But.seq {K : PySem.W.Frag} {H H' : Hp} {a b : Addr} {xs : List V} (e : But a H H') (n : b ≠ a) (h : SqL K H b xs) : SqL K H' b xs := by
  rcases h with (h | ⟨o, h⟩) | h
  · exact .inl (.inl (e _ _ n h))
  · exact .inl (.inr ⟨o, e _ _ n h⟩)
  · exact .inr h
/-! ### a def of the top, under its name -/
structure Dd (K : PySem.W.Frag) (mg : Str → Option Value) (x : Str) (st : Stmt) (ps : List Str) : Prop where
  ex : ∃ (f : Addr) (fd : FuncData), L2.Fun K x x st f fd ∧ mg x = some (.ref f) ∧ Binds K fd ps []
section
variable {P : Program} {w : World} {K : PySem.W.Frag} {mg : Str → Option Value} {base : Heap}
theorem Dd.cal {x : Str} {st : Stmt} {N ps : List Str} {k : Nat} {sp : Sp} (D : Dd K mg x st ps) (S : FnScope N ps (defScope st)) (len : ∀ vs H Q E, sp vs H Q E → vs.length = ps.length)
    (hbody : ∀ (f : Addr) (cdv : Value) (A : Around) (outer : List Env) (s : Shared) (H : Hp) (vs : List V) (Q : VK) (E : XK), Room k (A.deeper (envOfC x (defScope st) s.heap.objs.size f cdv)) → sp vs H Q E →
      ∃ t, PSs (cxOf CX0 P w K mg base N x (defScope st) f cdv A outer s H E).nox (defBody st) t ∧ t { nx := fun _ H' => Q .non H', rt := Q } (start N vs) H) : C8.Cal P w K mg base (k + 1) x sp [] := by
  obtain ⟨f, fd, F, g, b⟩ := D.ex
  exact ⟨f, fd, ps, [], F.ok S len (fun cdv A outer s H vs Q E hr h => hbody f cdv A outer s H vs Q E hr h), g, F.kp, b, .nil⟩
end
/-! ### what is drawn from -/
def BoxL (n : Nat) (b : List V) : Prop := ∃ b0 b1 b2 : Int, b = [.int b0, .int b1, .int b2] ∧ 0 ≤ b0 ∧ 0 ≤ b1 ∧ b1 < 4611686018427387904 ∧ 0 ≤ b2 ∧ b2 ≤ n
def spTake : Sp := fun vs H Q _ => ∃ (a : Addr) (many : Int) (n : Nat) (b : List V), vs = [.ref a, .int many] ∧ H a = some (.lst b) ∧ BoxL n b ∧ n < 1000000 ∧ 0 < many ∧ many < 1073741824 ∧
  ∀ (r : Int) (b' : List V), 0 ≤ r → r < many → BoxL (n + 1) b' → Q (.int r) (upd H a (.lst b'))
def spDip (K : PySem.W.Frag) : Sp := fun vs H Q _ => ∃ (a : Addr) (k : Nat) (ns : List Int), vs = [.ref a, .int k] ∧ SqL K H a (ns.map V.int) ∧ k ≤ 63 ∧
  ∀ (p : Addr) (b : List V), H p = none → BoxL 0 b → Q (.ref p) (upd H p (.lst b))
def spFold (K : PySem.W.Frag) : Sp := fun vs H Q _ => ∃ (a : Addr) (size : Nat) (ns : List Int), vs = [.ref a, .int size] ∧ SqL K H a (ns.map V.int) ∧ ns.length ≤ 63 ∧ 1 ≤ size ∧ size ≤ 8 ∧
  ∀ (H' : Hp) (p : Addr) (ms : List Int), Same H H' → H p = none → H' p = some (.lst (ms.map V.int)) → ms.length ≤ size → Q (.ref p) H'
/-- the built-in names that the law uses stand as they were -/
structure Bt (mg : Str → Option Value) : Prop where
  len : mg "len" = none
  abs : mg "abs" = none
  int : mg "int" = none
  list : mg "list" = none
  enumerate : mg "enumerate" = none
  range : mg "range" = none
theorem cut_len (xs : List V) (lo hi : Option Int) : (cutV xs lo hi).length ≤ xs.length := by
  unfold cutV
  rw [List.length_take, List.length_drop]
  omega
theorem cut_ints (ns : List Int) (lo hi : Option Int) : ∃ ms : List Int, cutV (ns.map V.int) lo hi = ms.map V.int ∧ ms.length ≤ ns.length := by
  refine ⟨(ns.drop (HT.sIx (ns.map V.int).length 0 lo)).take (HT.sIx (ns.map V.int).length (ns.map V.int).length hi - HT.sIx (ns.map V.int).length 0 lo), ?_, ?_⟩
  · unfold cutV
    rw [List.map_take, List.map_drop]
  · rw [List.length_take, List.length_drop]
    omega
theorem cut_to (ns : List Int) (size : Nat) : cutV (ns.map V.int) none (some (size : Int)) = (ns.take size).map V.int := by
  unfold cutV
  rw [HT.sIx_none, show HT.sIx (ns.map V.int).length (ns.map V.int).length (some (size : Int)) = min size (ns.map V.int).length from HT.sIx_nat _ _ size, List.map_take, List.length_map]
  show ((ns.map V.int).drop 0).take (min size ns.length - 0) = _
  rw [List.drop_zero, Nat.sub_zero]
  by_cases h : size ≤ ns.length
  · rw [Nat.min_eq_left h]
  · rw [Nat.min_eq_right (by omega), List.take_of_length_le (by rw [List.length_map]; omega), List.take_of_length_le (by rw [List.length_map]; omega)]
theorem cut_from_nil (ns : List Int) (size : Nat) (h : ns.length ≤ size) (hi : Option Int) : cutV (ns.map V.int) (some (size : Int)) hi = [] := by
  unfold cutV
  rw [show HT.sIx (ns.map V.int).length 0 (some (size : Int)) = min size (ns.map V.int).length from HT.sIx_nat _ _ size, List.drop_eq_nil_of_le (by rw [List.length_map]; omega), List.take_nil]
section
variable {X : Cx} {k j n i : Nat} {x : Str} {sp : Sp} {p pos : Pos} {e : Expr} {es : List Expr} {kws : List Keyword} {t tk : TA} {te : TE} {ks : List Str} {gV : List V → List V → List V}
/-! ### what is never reached -/
theorem pe_never {e : Expr} : PE X e (fun _ _ _ => False) := ⟨fun _ _ _ _ _ _ h => h.elim⟩
theorem pt_never {e : Expr} : PT X e (fun _ _ _ => False) := ⟨fun _ _ _ _ _ _ h => h.elim⟩
/-! ### calls with keywords -/
structure KCal (P : Program) (w : World) (K : PySem.W.Frag) (mg : Str → Option Value) (base : Heap) (k : Nat) (x : Str) (sp : Sp) (n : Nat) (ks : List Str) (gV : List V → List V → List V) : Prop where
  ex : ∃ (f : Addr) (fd : FuncData) (ps : List Str) (g : List Value → List Value → List Value), FnOk P w K mg base CX0 k f fd ps sp ∧ mg x = some (.ref f) ∧ PySem.W.keepIn K (.ref f) = true ∧ KBn K fd ps n ks g gV
theorem pe_kw (c : KCal X.prog X.w X.K X.mg X.base k x sp n ks gV) (hr : Room j X.A) (hk : k ≤ j) (hg : Gl X x) (ha : PA X (e :: es) t) (hkw : PK X kws tk)
    (hall : (backToKw pos (keywordEach kws X.env)).all (·.1.isSome) = true := by rfl) (hks : (backToKw pos (keywordEach kws X.env)).filterMap (·.1) = ks := by rfl)
    (hdb : (x == ("__debug__" : Str)) = false := by decide) (he : starEach (e :: es) X.env = (false, eval e X.env) :: starEach es X.env := by rfl)
    (hpl : ((backTo pos (starEach (e :: es) X.env)).any (·.1) || (backToKw pos (keywordEach kws X.env)).any (·.1.isNone)) = false := by rfl) :
    PE X (.Call (.Name x p) (e :: es) kws pos) (tCallN n ks.length sp gV E0 t tk) := by
  obtain ⟨f, fd, ps, g, F, hm, kp, b⟩ := c.ex
  exact pe_callN F (hr.mono hk) hg hm kp b pass0 ha hkw hall hks hdb he hpl
theorem pe_kw0 (c : KCal X.prog X.w X.K X.mg X.base k x sp 0 ks gV) (hr : Room j X.A) (hk : k ≤ j) (hg : Gl X x) (hkw : PK X kws tk)
    (hall : (backToKw pos (keywordEach kws X.env)).all (·.1.isSome) = true := by rfl) (hks : (backToKw pos (keywordEach kws X.env)).filterMap (·.1) = ks := by rfl)
    (hdb : (x == ("__debug__" : Str)) = false := by decide)
    (hpl : ((backTo pos (starEach [] X.env)).any (·.1) || (backToKw pos (keywordEach kws X.env)).any (·.1.isNone)) = false := by rfl) :
    PE X (.Call (.Name x p) [] kws pos) (tCallN 0 ks.length sp gV E0 tNil tk) := by
  obtain ⟨f, fd, ps, g, F, hm, kp, b⟩ := c.ex
  refine ⟨fun pins s σ H Q I h => ?_⟩
  refine wpAny_Call_Name_kw (ld_glob I hg hm ?_ hdb)
  refine PySem.W.callWith_KW0 (h₀ := X.base) I.ok.mod.kin kp hall ?_ hpl
  refine thn (hkw.run pos pins s σ H _ I h) fun ws s2 ⟨zs, H2, I2, rz, l1, l2, q2⟩ => ⟨I2.kIn, ?_⟩
  rw [hks]
  exact run_fnN (us := []) (vs := []) F (hr.mono hk) b pass0 I2 .nil rz rfl l2 q2
/-! ### x(*y), x a local name that holds a def -/
def tCallHS (P : Program) (w : World) (K : PySem.W.Frag) (mg : Str → Option Value) (base : Heap) (k i : Nat) (te : TE) : TE := fun σ H Q => ∃ f sp, σ[i]? = some (some (.ref f)) ∧ Held P w K mg base k f sp ∧
  te σ H fun y H1 => ∃ a xs, y = V.ref a ∧ (SqT K H1 a xs ∨ SqL K H1 a xs) ∧ sp xs H1 Q (fun _ _ _ => False)
theorem pe_callHS {sp_ : Pos} (hr : Room k X.A) (hN : X.N[i]? = some x) (hv : Vis X.env.scope x) (he : PE X e te)
    (hdb : (x == ("__debug__" : Str)) = false := by decide) (hcd : (x == ("__classdict__" : Str)) = false := by decide)
    (hst : starEach [.Starred e sp_] X.env = [(true, eval e X.env)] := by rfl) :
    PE X (.Call (.Name x p) [.Starred e sp_] [] pos) (tCallHS X.prog X.w X.K X.mg X.base k i te) := by
  refine ⟨fun pins s σ H Q I h => ?_⟩
  obtain ⟨f, sp, hs, hH, ht⟩ := h
  obtain ⟨fd, ps, F, hk, hb⟩ := hH.ex
  refine wpAny_Call_Name_kw (thn ((pe_var (pos := p) hN hv hdb hcd).run pins s σ H (fun v H1 => v = .ref f ∧ H1 = H) I ⟨.ref f, hs, rfl, rfl⟩) fun u s1 ⟨v, H1, I1, r1, q1⟩ => ?_)
  obtain ⟨rfl, rfl⟩ := q1
  cases r1
  refine PySem.W.callWith_S (h₀ := X.base) I.ok.mod.kin hk (thn (he.run pins s1 σ _ _ I1 ht) fun v s2 ⟨y, H2, I2, ry, a, xs, ey, hxs, q⟩ => ?_) hst
  subst ey
  obtain rfl : v = Value.ref a := ry
  refine StX.star_any I2 hxs fun us s3 I3 rv => ⟨I3.kIn, ?_⟩
  exact run_fn (E := fun _ _ _ => False) F hr hb .nil (fun _ _ _ _ _ _ _ z => z.elim) I3 rv (by rw [List.append_nil]; exact q)
end
section
variable {K : PySem.W.Frag} {x qual : Str} {params : Arguments} {body : List Stmt} {scope : Scope} {kws : List (Str × V)} {f : Addr} {fd : FuncData} {ps : List Str}
/-- keywords, and keyword-only defaults for those that lack; no other defaults -/
theorem kbinds0 (F : FunD K x qual params body scope [] kws f fd) (n : Nat) (ks : List Str) (g : {α : Type} → List α → List α → List α → List α) (hk : kws ≠ [])
    (hrel : ∀ {vs mz zs : List V} {us mv ws : List Value}, Vals vs us → Vals mz mv → Vals zs ws → Vals (g vs mz zs) (g us mv ws))
    (h : ∀ (D : Addr) (doc pm : Value) (an : Option Addr) (cdv ct : Value) (us mv ws : List Value), us.length = n → mv.length = kws.length → ws.length = ks.length →
      KwChain D ((kws.map (·.1)).zip mv) (bindArgs (PySem.W.fnOf x qual params body scope .none (.ref D) doc pm an cdv ct) ⟨us, ks.zip ws⟩) (ps.zip (g us mv ws))) :
    ∃ mv : List Value, KBn K fd ps n ks (fun us ws => g us mv ws) (fun vs zs => g vs (kws.map (·.2)) zs) := by
  obtain ⟨oc, od, dV, kV, doc, pm, an, cdv, ct, osl, rfl, lk, hcd, hD, hK⟩ := F.ex
  rcases hD with ⟨_, rfl⟩ | ⟨e, _⟩
  · rcases hK with e | ⟨D, rfl, hq⟩
    · exact absurd e hk
    · obtain ⟨mv, hl, rk, hks⟩ := kwd_vals hq
      refine ⟨mv, ⟨fun s us ws X l1 l2 => ?_, fun r1 r2 => hrel r1 rk r2⟩⟩
      exact BindsTo.of_looks fun M => KwChain.looks X hks (h D doc pm an cdv ct us mv ws l1 hl l2)
  · exact absurd rfl e
/-- keywords alone, every parameter named or placed -/
theorem kbindsN (F : FunD K x qual params body scope [] kws f fd) (n : Nat) (ks : List Str) (g : {α : Type} → List α → List α → List α)
    (hrel : ∀ {vs zs : List V} {us ws : List Value}, Vals vs us → Vals zs ws → Vals (g vs zs) (g us ws))
    (h : ∀ (kV doc pm : Value) (an : Option Addr) (cdv ct : Value) (us ws : List Value), us.length = n → ws.length = ks.length →
      bindArgs (PySem.W.fnOf x qual params body scope .none kV doc pm an cdv ct) ⟨us, ks.zip ws⟩ = pure (ps.zip (g us ws))) :
    KBn K fd ps n ks (fun us ws => g us ws) (fun vs zs => g vs zs) := by
  obtain ⟨oc, od, dV, kV, doc, pm, an, cdv, ct, osl, rfl, lk, hcd, hD, hK⟩ := F.ex
  rcases hD with ⟨_, rfl⟩ | ⟨e, _⟩
  · exact ⟨fun s us ws X l1 l2 => .of_eq (h kV doc pm an cdv ct us ws l1 l2), fun r1 r2 => hrel r1 r2⟩
  · exact absurd rfl e
end
/-! ### d.update(e) -/
def rDUpd : V → List V → Hp → VK → Prop := fun x vs H Q => ∃ (a b : Addr) (kvs more : List (Key × V)), x = .ref a ∧ vs = [.ref b] ∧ a ≠ b ∧ H a = some (.dK kvs) ∧ H b = some (.dK more) ∧ kvs.length + more.length ≤ 1000 ∧ Q .non (upd H a (.dK (mergeK kvs more)))
theorem mtd_update {X : Cx} : MtR X "dict.update" rDUpd := by
  intro pins s σ H x vs v us Q I rx rv h
  obtain ⟨a, b, kvs, more, ex, ev, nab, ea, eb, hz, q⟩ := h
  subst ex
  subst ev
  obtain rfl : v = Value.ref a := rx
  obtain ⟨u, eu, ru⟩ := rv.one
  subst eu
  obtain rfl : u = Value.ref b := ru
  obtain ⟨z1, ls1, vs1, r1, d1⟩ := I.hok a _ ea
  obtain ⟨z2, ls2, vs2, r2, d2⟩ := I.hok b _ eb
  have l1 : kvs.length = vs1.length := Paired.length r1
  have l2 : more.length = vs2.length := Paired.length r2
  refine call_meetsIn PySem.F.slot_dict_update d1.typeIs PySem.F.entry_dict_update (PySem.F.args_dict_update_2 _ _) (meets_dict_update (mixKind X.prog X.w) a b nab ls2)
    ⟨vs1, vs2, d1, d2, (by rw [← l1, ← l2]; exact Nat.le_trans hz (by decide)), fun h' hm _ hs => ?_⟩
  refine ⟨.non, upd H a (.dK (mergeK kvs more)), ?_, rfl, q⟩
  have hlen : (mergeK kvs more).length ≤ sizeLine := by
    have := length_mergeK more kvs
    have h2 : (1000 : Nat) ≤ sizeLine := by decide
    omega
  obtain ⟨oo, es', ep', ho', _⟩ := id hm
  exact I.write (t' := s.toks) (e := a) (o := .dK (mergeK kvs more)) (by rw [ea]; trivial) (.inl rfl) (fun c u nc e => (hs.2 c nc).trans e) ⟨oo, ho'⟩ ⟨hlen, ls1, merged vs1 vs2, KV.merge r2 r1, hm⟩
/-! ### defs that make texts of lists and tuples: they run where no such text is under way -/
structure FnG (P : Program) (w : World) (K : PySem.W.Frag) (mg : Str → Option Value) (base : Heap) (k : Nat) (f : Addr) (fd : FuncData) (qs : List Str) (sp : Sp) : Prop where
  size : ∀ xs G R Z, sp xs G R Z → xs.length = qs.length
  goes : ∀ (B : Around) (up : List Env) (t : Shared) (G : Hp) (ar : Args) (ws : List Value) (xs : List V) (R : VK) (Z : XK), B.guards = some [] → Room k B → Env0 P w K mg base B up t G →
    BindsTo t fd ar (qs.zip ws) → Vals xs ws → sp xs G R Z → codeAny (model P w) B (.call (.ref f) ar) (CR CX0 up P w G t R Z) t
section
variable {P : Program} {w : World} {K : PySem.W.Frag} {mg : Str → Option Value} {base : Heap}
theorem fng_of {x qual : Str} {st : Stmt} {f : Addr} {fd : FuncData} {N qs : List Str} {k : Nat} {sp : Sp} (F : L2.Fun K x qual st f fd) (S : FnScope N qs (defScope st)) (size : ∀ xs G R Z, sp xs G R Z → xs.length = qs.length)
    (hb : ∀ (cv : Value) (B : Around) (up : List Env) (t : Shared) (G : Hp) (xs : List V) (R : VK) (Z : XK), (B.deeper (envOfC qual (defScope st) t.heap.objs.size f cv)).guards = some [] → Room k (B.deeper (envOfC qual (defScope st) t.heap.objs.size f cv)) → sp xs G R Z →
      ∃ d, PSs (cxOf CX0 P w K mg base N qual (defScope st) f cv B up t G Z).nox (defBody st) d ∧ d { nx := fun _ G' => R .non G', rt := R } (start N xs) G) : FnG P w K mg base (k + 1) f fd qs sp := by
  obtain ⟨oc, od, kV, doc, pm, an, cv, ct, osl, rfl, at_, co⟩ := F.ex
  refine ⟨size, fun B up t G ar ws xs R Z hg rm e0 bt rel hsp => ?_⟩
  have keepB : ∀ b o, base.get? b = some o → t.heap.get? b = some o := fun b o e => (e0.bs b o e).1
  have inT : K.In t.heap := e0.mod.kin.keeps keepB
  have noL : t.heap.NoLimit := e0.mod.nolimit.keeps keepB
  have kinds : ∀ y ∈ qs.zip ws, (defScope st).names.lookup y.1 = some .local ∨ ((defScope st).names.lookup y.1 = some .cell ∧ ((cellsFrom (t.heap.objs.size + 1) (defScope st).names []).lookup y.1).isSome = true) := by
    rintro ⟨n, v⟩ hy
    rcases S.par n (List.of_mem_zip hy).1 with z | z
    · exact .inl z
    · exact .inr ⟨z, PySem.W.cellsFrom_some _ _ _ (.inl z)⟩
  refine codeAny_call_function rm.depth (inT _ _ at_) rfl S.co S.gen rfl (PySem.W.codeRec_of inT co) (bt _ _ _ _ ?_)
  refine wpAny_newFunctionEnv_cells S.kind kinds fun en hen t1 y => ?_
  subst hen
  refine ⟨noL.keeps y.toInCall.keep, codeAny_func ?_⟩
  obtain ⟨d, hd, hq⟩ := hb cv B up t G xs R Z hg (rm.deeper _) hsp
  have J0 : Inv (cxOf CX0 P w K mg base N qual (defScope st) f cv B up t G Z) [] (start N xs) G t1 := inv_start S rm.hd e0 (size _ _ _ _ hsp) rel y
  refine wpAny_mono (hd.nox.run [] t1 (start N xs) G _ J0 hq) (fun out t' hs => ?_) fun _ _ hs => hs
  cases out with
  | next =>
    obtain ⟨_, G', J, z⟩ := hs
    exact ⟨.non, G', J.os, J.bare, J.base, J.hok, rfl, z⟩
  | ret u =>
    obtain ⟨v, _, G', J, rv, z⟩ := hs
    exact ⟨v, G', J.os, J.bare, J.base, J.hok, rv, z⟩
  | brk =>
    obtain ⟨_, _, _, z⟩ := hs
    exact z.elim
  | cont =>
    obtain ⟨_, _, _, z⟩ := hs
    exact z.elim
end
/-- such a def under its name -/
structure CalG (P : Program) (w : World) (K : PySem.W.Frag) (mg : Str → Option Value) (base : Heap) (k : Nat) (x : Str) (sp : Sp) : Prop where
  ex : ∃ (f : Addr) (fd : FuncData) (qs : List Str), FnG P w K mg base k f fd qs sp ∧ mg x = some (.ref f) ∧ PySem.W.keepIn K (.ref f) = true ∧ Binds K fd qs []
section
variable {X : Cx} {k j : Nat} {x : Str} {sp : Sp} {p pos : Pos} {e : Expr} {es : List Expr} {t : TA}
theorem pe_cG (c : CalG X.prog X.w X.K X.mg X.base k x sp) (hg : X.A.guards = some []) (hr : Room j X.A) (hk : k ≤ j) (gl : Gl X x) (ha : PA X (e :: es) t) (hdb : (x == ("__debug__" : Str)) = false := by decide)
    (he : starEach (e :: es) X.env = (false, eval e X.env) :: starEach es X.env := by rfl) (hpl : (backTo pos (starEach es X.env)).any (·.1) = false := by rfl) : PE X (.Call (.Name x p) (e :: es) [] pos) (tCall sp [] C8.E0 t) := by
  obtain ⟨f, fd, qs, F, hm, kp, b⟩ := c.ex
  refine ⟨fun pins s σ H Q I h => wpAny_Call_Name_kw (ld_glob I gl hm ?_ hdb)⟩
  refine PySem.W.callWith_K (h₀ := X.base) I.ok.mod.kin kp (thn (ha.run pos pins s σ H _ I h) fun us s1 ⟨vs, H1, I1, r, q⟩ => ⟨I1.kIn, ?_⟩) he hpl
  have q2 : sp vs H1 Q C8.E0 := by
    have q3 : sp (vs ++ []) H1 Q C8.E0 := q
    rw [List.append_nil] at q3
    exact q3
  have hl : us.length = qs.length := by
    rw [← r.length]
    exact F.size _ _ _ _ q2
  have bb := b s1 us I1.kIn (by rw [List.append_nil]; exact hl)
  rw [List.append_nil] at bb
  refine wpAny_call (codeAny_mono (F.goes X.A X.stack s1 H1 ⟨us, []⟩ us vs Q C8.E0 hg (hr.mono hk) I1.env0 bb r q2) fun res s' hq => ?_)
  cases res with
  | error er => exact hq.elim
  | ok fl =>
    cases fl with
    | ret u => exact I1.after hq
    | next => exact hq.elim
    | brk => exact hq.elim
    | cont => exact hq.elim
/-- repr of data -/
def rReprD (K : PySem.W.Frag) : List V → Hp → VK → Prop := fun xs H Q => ∃ (v : V) (d : PyData), xs = [v] ∧ Dp K H v d ∧ d.showable = true ∧ d.hasDict = false ∧ d.depth ≤ 100 ∧ d.shown.length ≤ sizeLine ∧ Q (.str d.shown) H
theorem cr_reprD (hg : X.A.guards = some []) (hr : Room j X.A) : CallR X (.builtin "repr") (rReprD X.K) := by
  intro pins s σ H xs us Q I r h
  obtain ⟨v, d, rfl, hd, hs, hn, hp, hz, q⟩ := h
  cases r with
  | cons r1 rr =>
    cases rr
    have un := hr.un
    cases hd with
    | non =>
      cases (show _ = Value.none from r1)
      exact PySem.P.repr_of_none ⟨.str "None", H, I.tok _, ⟨_, rfl⟩, q⟩
    | bl b =>
      cases (show _ = Value.bool b from r1)
      exact PySem.P.repr_of_bool ⟨.str (PyData.shown (.bool b)), H, I.tok _, ⟨_, by cases b <;> rfl⟩, q⟩
    | int i =>
      obtain ⟨t, rfl⟩ := (show ∃ t, _ = Value.int i t from r1)
      exact PySem.P.repr_of_int (of_decide_eq_true hs) ⟨.str (PyData.shown (.int i)), H, I.tok _, ⟨_, rfl⟩, q⟩
    | str z =>
      obtain ⟨t, rfl⟩ := (show ∃ t, _ = Value.str z t from r1)
      exact PySem.P.repr_of_str ⟨.str (PyData.shown (.str z)), H, I.tok _, ⟨_, rfl⟩, q⟩ hz
    | lst h1 h2 =>
      rename_i a xs ds
      obtain rfl : _ = Value.ref a := r1
      obtain ⟨as, rd⟩ := Dp.reads I (.list ds) (.ref a) (.ref a) (.lst h1 h2) rfl
      exact repr_of_reads' rd hs (PyData.noDict_hsm hn) hg (by omega) (fun _ _ e => e) (fun h' u tk hk => ⟨.str _, H, I.kept (t' := tk) hk, ⟨_, rfl⟩, q⟩) hz
    | tup h1 h2 =>
      rename_i a xs ds
      obtain rfl : _ = Value.ref a := r1
      obtain ⟨as, rd⟩ := Dp.reads I (.tuple ds) (.ref a) (.ref a) (.tup h1 h2) rfl
      exact repr_of_reads' rd hs (PyData.noDict_hsm hn) hg (by omega) (fun _ _ e => e) (fun h' u tk hk => ⟨.str _, H, I.kept (t' := tk) hk, ⟨_, rfl⟩, q⟩) hz
end
/-! ### the end, for a law that makes texts of lists and tuples -/
section
variable {P : Program} {w : World} {K : PySem.W.Frag} {mg mb : Str → Option Value} {k : Nat} {fa a : Addr} {fd : FuncData} {x : Str} {sp : Sp} {s1 : Shared} {us : List Value} {ns : List Int}
/-- from a heap in which the script alone may be tracked -/
theorem end_from {H : Hp} (inK : K.In s1.heap) (nm : s1.heap.Ns mainGlobals mg) (nb : s1.heap.Ns builtinsNs mb) (bb : ∀ y : Str, y ≠ "__name__" → mb y = bootBuiltins y) (lim : s1.heap.NoLimit) (gs : s1.gens = #[])
    (at_ : s1.heap.get? a = some { cls := .type "list", data := .seq us.toArray }) (rm : Room k callerA)
    (F : ∀ base : Heap, K.In base → base.Ns mainGlobals mg → FnG P w K mg base k fa fd [x] sp) (bt : ∀ (s : Shared) (u : Value), BindsTo s fd ⟨[u], []⟩ [(x, u)])
    (hO : Only H) (want : sp [.ref a] H (fun v _ => v = .bl true) fun _ _ _ => False) (hok : HOk P w H s1.heap) (onlyA : ∀ b, H b ≠ none → b = a) (offK : H a ≠ none → K.lookup a = none) :
    codeAny (model P w) callerA (.call (.ref fa) ⟨[.ref a], []⟩) (fun r s' => r = .ok (.ret (.bool true)) ∧ OldK s1.heap s'.heap ∧ s'.os = s1.os ∧ AllBare s'.gens) s1 := by
  have untr : ∀ {b : Addr}, (b = a → False) → H b = none := fun {b} nb => by
    cases z : H b with
    | none => rfl
    | some u => exact (nb (onlyA b (by rw [z]; simp))).elim
  have stay : ∀ {b : Addr} {o : Obj}, s1.heap.get? b = some o → H b = none → (hidT s1.heap H).get? b = some o := fun e n => hidT_get e n
  have names : ∀ {b : Addr} {m : Str → Option Value}, s1.heap.Ns b m → (hidT s1.heap H).Ns b m := fun {b m} ⟨o, es, ep, e, d, r⟩ => ⟨o, es, ep, stay e (untr fun z => by
    subst z
    rw [at_] at e
    cases e
    have d2 : Data.seq us.toArray _ = Data.dict es ep := d
    cases d2), d, r⟩
  have inK2 : K.In (hidT s1.heap H) := fun b o e => stay (inK b o e) (by
    cases z : H b with
    | none => rfl
    | some u =>
      have e2 : b = a := onlyA b (by rw [z]; simp)
      subst e2
      rw [offK (by rw [z]; simp)] at e
      cases e)
  obtain ⟨mc, l1, l2⟩ := lim
  have start0 : Env0 P w K mg (hidT s1.heap H) callerA [] s1 H :=
    ⟨rfl, ⟨inK2, names nm, ⟨mb, names nb, bb⟩, ⟨mc, names l1, l2⟩⟩, fun b o e => of_hidT e, Nat.le_of_eq (hidT_size _ _), trivial, fun b hb => absurd (show b ∈ ([] : List Addr) from hb) (by simp), hok, .of_eq gs⟩
  refine codeAny_mono ((F _ inK2 (names nm)).goes callerA [] s1 H ⟨[.ref a], []⟩ [.ref a] [.ref a] _ _ rfl rm start0 (bt s1 (.ref a)) (.cons rfl .nil) want) fun out t hs => ?_
  cases out with
  | error er => exact hs.elim
  | ok fl =>
    cases fl with
    | ret u =>
      obtain ⟨v, H', os, bare, un, hok2, rv, z⟩ := hs
      have z2 : v = .bl true := z
      subst z2
      obtain rfl : u = Value.bool true := rv
      refine ⟨rfl, OldK.of_keep fun b o e => ?_, os, bare⟩
      cases z : H b with
      | none => exact un.keep b o e z (fun y => absurd (show b ∈ ([] : List Addr) from y) (by simp)) (by simp)
      | some h0 =>
        rcases hO b with y | ⟨ob, xs, y⟩
        · rw [z] at y
          cases y
        · obtain ⟨e1, _⟩ := hok b _ y
          obtain ⟨e2, _⟩ := hok2 b _ (un.frzs b ob _ y)
          rw [e] at e1
          cases e1
          exact e2
    | next => exact hs.elim
    | brk => exact hs.elim
    | cont => exact hs.elim
theorem end_call (inK : K.In s1.heap) (nm : s1.heap.Ns mainGlobals mg) (nb : s1.heap.Ns builtinsNs mb) (bb : ∀ y : Str, y ≠ "__name__" → mb y = bootBuiltins y) (lim : s1.heap.NoLimit) (gs : s1.gens = #[])
    (at_ : s1.heap.get? a = some { cls := .type "list", data := .seq us.toArray }) (hIn : IntsAre us ns) (fits : ns.length ≤ sizeLine) (rm : Room k callerA)
    (F : ∀ base : Heap, K.In base → base.Ns mainGlobals mg → FnG P w K mg base k fa fd [x] sp) (bt : ∀ (s : Shared) (u : Value), BindsTo s fd ⟨[u], []⟩ [(x, u)])
    (want : ∀ H : Hp, Only H → SqL K H a (ns.map V.int) → sp [.ref a] H (fun v _ => v = .bl true) fun _ _ _ => False) :
    codeAny (model P w) callerA (.call (.ref fa) ⟨[.ref a], []⟩) (fun r s' => r = .ok (.ret (.bool true)) ∧ OldK s1.heap s'.heap ∧ s'.os = s1.os ∧ AllBare s'.gens) s1 := by
  have rel := vals_ints hIn
  have len := hIn.length
  cases lk : K.lookup a with
  | some o =>
    have e := inK a o lk
    rw [at_] at e
    cases e
    have only0 : Only (fun _ => none) := fun _ => .inl rfl
    exact end_from (H := fun _ => none) inK nm nb bb lim gs at_ rm F bt only0 (want _ only0 (.inr ⟨_, us.toArray, _, lk, rfl, rfl, rfl, by rw [List.size_toArray, len]; exact fits, by simpa using rel⟩))
      (fun b u z => nomatch (show (none : Option HO) = some u from z)) (fun b z => absurd rfl z) fun z => absurd rfl z
  | none =>
    have pos : ∀ {b : Addr}, b = a → (if b = a then some (HO.frz { cls := .type "list", data := .seq us.toArray } (.lst (ns.map V.int))) else none) = some (.frz { cls := .type "list", data := .seq us.toArray } (.lst (ns.map V.int))) := fun e => if_pos e
    have only1 : Only (fun b => if b = a then some (.frz { cls := .type "list", data := .seq us.toArray } (.lst (ns.map V.int))) else none) := fun b => by
      by_cases e : b = a
      · exact .inr ⟨_, _, pos e⟩
      · exact .inl (if_neg e)
    refine end_from inK nm nb bb lim gs at_ rm F bt only1 (want _ only1 (.inl (.inr ⟨{ cls := .type "list", data := .seq us.toArray }, if_pos rfl⟩))) (fun b u z => ?_) (fun b z => ?_) fun _ => lk
    · by_cases e : b = a
      · have y := (pos e).symm.trans z
        cases y
        subst e
        exact ⟨at_, by rw [List.length_map]; exact fits, us, _, rel, at_⟩
      · have y := (if_neg e).symm.trans z
        cases y
    · by_cases e : b = a
      · exact e
      · exact absurd (if_neg e) z
end
theorem walk_ofG {l : PySem.W.OpenLaw} {n k : Nat} {q : Program} {loose : List Str} {XP : (Str → Option Value) → Heap → Prop} {YP : World → Heap → Prop} {d : DefRec} {K : Params → PySem.W.Frag} {sp : World → Sp} {x : Str}
    (hn : l.most = some n) (hn2 : n ≤ sizeLine) (hdf : d.params.defaults = []) (rm : Room k callerA) (inK : ∀ (w : World) (h : Heap), YP w h → (K w.params).In h)
    (F : ∀ (w : World) (mg : Str → Option Value) (fa : Addr) (h : Heap), (K w.params).In h → h.Ns mainGlobals mg → mg d.name = some (.ref fa) →
      ∃ fd : FuncData, (∀ (s : Shared) (u : Value), BindsTo s fd ⟨[u], []⟩ [(x, u)]) ∧ ∀ base : Heap, (K w.params).In base → base.Ns mainGlobals mg → FnG l.prog w (K w.params) mg base k fa fd [x] (sp w))
    (want : ∀ (w : World) (H : Hp) (a : Addr) (ns : List Int), ns.length ≤ n → Only H → SqL (K w.params) H a (ns.map V.int) → sp w [.ref a] H (fun v _ => v = .bl true) fun _ _ _ => False) :
    PySem.W.WalkO q loose XP YP l.row.toRowW d [] (fun f vs => PySem.call f vs) := by
  refine Att.attach_call hn hdf fun w s0 s1 mg mb fa o pm cd doc a us ns G Y ho hd hcd hmg hobj hints hlen hg => ?_
  obtain ⟨fd, bt, go⟩ := F w mg fa _ (inK w _ Y) G.T.g hmg
  exact end_call (inK w _ Y) G.T.g G.T.b G.T.builtins G.T.nolimit hg hobj hints (Nat.le_trans hlen hn2) rm go bt fun H hO hS => want w H a ns hlen hO hS
def top (i : Nat) : Stmt := PySem.Challenge.pw_threereckons_k04_ops_of_any_make.main.body.getD i (.Pass ⟨0, 0, 0, 0⟩)
/-! ### the draws -/
abbrev s__law_take : Stmt := top 5
abbrev N__law_take : List Str := ["_law_box", "_law_many", "_law_found", "_law_once", "_law_twice"]
abbrev P__law_take : List Str := ["_law_box", "_law_many"]
theorem sc__law_take : FnScope N__law_take P__law_take (defScope s__law_take) := ⟨rfl, rfl, rfl, by decide +kernel, rfl, by decide +kernel, by decide +kernel⟩
abbrev s__law_dip : Stmt := top 4
abbrev N__law_dip : List Str := ["_law_script", "_law_k", "_law_cell"]
abbrev P__law_dip : List Str := ["_law_script", "_law_k"]
theorem sc__law_dip : FnScope N__law_dip P__law_dip (defScope s__law_dip) := ⟨rfl, rfl, rfl, by decide +kernel, rfl, by decide +kernel, by decide +kernel⟩
abbrev s__law_folded : Stmt := top 6
abbrev N__law_folded : List Str := ["_law_script", "_law_size", "_law_cells", "_law_k", "_law_cell"]
abbrev P__law_folded : List Str := ["_law_script", "_law_size"]
theorem sc__law_folded : FnScope N__law_folded P__law_folded (defScope s__law_folded) := ⟨rfl, rfl, rfl, by decide +kernel, rfl, by decide +kernel, by decide +kernel⟩
section
variable {P : Program} {w : World} {K : PySem.W.Frag} {mg : Str → Option Value} {base : Heap}
theorem ok_take (D : Dd K mg "_law_take" s__law_take P__law_take) : C8.Cal P w K mg base 1 "_law_take" spTake [] := by
  refine D.cal sc__law_take (fun vs H Q E h => ?_) (fun f cdv A outer s H vs Q E hr h => ?_)
  · obtain ⟨a, many, n, b, rfl, _⟩ := h
    rfl
  · obtain ⟨a, many, n, b, rfl, ha, ⟨b0, b1, b2, rfl, h0, h1, h1', h2, h2'⟩, hn, hm, hm', k⟩ := h
    refine ⟨_, (pss_cons (ps_if (pt_cmpR op_gt (pe_ix ix_list (pv 0) pe_int (fun _ _ => rfl)) pe_int (nomark _))
          (pss_cons (ps_set (i := 2) sc__law_take.nd rfl (Or.inl rfl) (pe_op op_mod (pe_ix ix_list (pv 0) pe_int (fun _ _ => rfl)) (pv 1)))
        (pss_cons (ps_asg (pe_op op_fdiv (pe_ix ix_list (pv 0) pe_int (fun _ _ => rfl)) (pv 1)) (pg_sub (pv 0) pe_int set_list))
        (pss_one (ps_ret (pv 2)))))
          pss_nil)
        (pss_cons (ps_asg (pe_op op_add (pe_ix ix_list (pv 0) pe_int (fun _ _ => rfl)) pe_int) (pg_sub (pv 0) pe_int set_list))
        (pss_cons (ps_set (i := 3) sc__law_take.nd rfl (Or.inl rfl) (pe_op op_mod (pe_op op_pow (pe_op op_add (pe_ix ix_list (pv 0) pe_int (fun _ _ => rfl)) (pe_op op_mul pe_int (pe_ix ix_list (pv 0) pe_int (fun _ _ => rfl)))) pe_int) pe_int))
        (pss_cons (ps_set (i := 4) sc__law_take.nd rfl (Or.inl rfl) (pe_op op_mod (pe_op op_mul (pe_op op_add (pe_op op_add (pv 3) (pe_ix ix_list (pv 0) pe_int (fun _ _ => rfl))) (pe_op op_fdiv (pe_ix ix_list (pv 0) pe_int (fun _ _ => rfl)) pe_int)) (pe_op op_add (pe_op op_add (pe_op op_mod (pv 3) pe_int) pe_int) (pe_ix ix_list (pv 0) pe_int (fun _ _ => rfl)))) pe_int))
        (pss_one (ps_ret (pe_op op_mod (pe_op op_fdiv (pe_op op_mod (pe_op op_add (pe_op op_mul (pv 4) pe_int) (pv 3)) pe_int) pe_int) (pv 1)))))))), ?_⟩
    have hL : SqL K H a [.int b0, .int b1, .int b2] := SqL.of ha
    refine ⟨_, rfl, a, _, 0, .int b0, rfl, rfl, hL, atI_nat (j := 0) rfl, _, _, rfl, rfl, _, rfl, ite2 (fun e => ?_) (fun e => ?_)⟩
    · have e0 : 0 < b0 := of_decide_eq_true e
      refine ⟨_, rfl, a, _, 0, .int b0, rfl, rfl, hL, atI_nat (j := 0) rfl, .int many, rfl, _, _, rfl, rfl, hm, ?_⟩
      refine ⟨_, rfl, a, _, 0, .int b0, rfl, rfl, hL, atI_nat (j := 0) rfl, .int many, rfl, _, _, rfl, rfl, ⟨hm, hm'⟩, ?_⟩
      refine ⟨_, rfl, a, _, 0, 0, rfl, rfl, ha, rfl, _, rfl, ?_⟩
      refine k (b0 % many) _ (Int.emod_nonneg _ (by omega)) (Int.emod_lt_of_pos _ hm) ⟨b0 / many, b1, b2, rfl, Int.ediv_nonneg h0 (by omega), h1, h1', h2, by omega⟩
    · refine ⟨_, rfl, a, _, 2, .int b2, rfl, rfl, hL, atI_nat (j := 2) rfl, _, _, rfl, rfl, _, rfl, a, _, 2, 2, rfl, rfl, ha, rfl, ?_⟩
      have hL2 : SqL K (upd H a (.lst [.int b0, .int b1, .int (b2 + 1)])) a [.int b0, .int b1, .int (b2 + 1)] := SqL.of upd_same
      refine ⟨_, rfl, a, _, 1, .int b1, rfl, rfl, hL2, atI_nat (j := 1) rfl, _, rfl, a, _, 2, .int (b2 + 1), rfl, rfl, hL2, atI_nat (j := 2) rfl, _, _, rfl, rfl, .inl ⟨by decide, by decide⟩, _, _, rfl, rfl, _, _, rfl, rfl,
        ⟨by decide, by decide, by omega⟩, _, _, rfl, rfl, (by show (0 : Int) < _; decide), ?_⟩
      have q : (b1 + 39373 * (b2 + 1)) ^ Int.toNat 5 % 2147483647 = (b1 + 39373 * (b2 + 1)) ^ Int.toNat 5 % 2147483647 := rfl
      generalize (b1 + 39373 * (b2 + 1)) ^ Int.toNat 5 = w5
      have g1 : 0 ≤ w5 % 2147483647 := Int.emod_nonneg _ (by decide)
      have g2 : w5 % 2147483647 < 2147483647 := Int.emod_lt_of_pos _ (by decide)
      have g3 : 0 ≤ b1 / 1000003 := Int.ediv_nonneg h1 (by decide)
      have g4 : b1 / 1000003 ≤ b1 := Int.ediv_le_self _ h1
      have g5 : 0 ≤ w5 % 2147483647 % 40009 := Int.emod_nonneg _ (by decide)
      have g6 : w5 % 2147483647 % 40009 < 40009 := Int.emod_lt_of_pos _ (by decide)
      refine ⟨_, rfl, _, rfl, a, _, 2, .int (b2 + 1), rfl, rfl, hL2, atI_nat (j := 2) rfl, _, _, rfl, rfl, _, rfl, a, _, 1, .int b1, rfl, rfl, hL2, atI_nat (j := 1) rfl, _, _, rfl, rfl, ⟨by decide, by decide⟩, _, _, rfl, rfl,
        _, rfl, _, _, rfl, rfl, (by show (0 : Int) < _; decide), _, _, rfl, rfl, _, rfl, a, _, 2, .int (b2 + 1), rfl, rfl, hL2, atI_nat (j := 2) rfl, _, _, rfl, rfl, _, _, rfl, rfl, .inl ⟨by omega, by omega⟩, _, _, rfl, rfl, (by show (0 : Int) < _; decide), ?_⟩
      generalize (w5 % 2147483647 + (b2 + 1) + b1 / 1000003) * (w5 % 2147483647 % 40009 + 7 + (b2 + 1)) = w6
      refine ⟨_, rfl, _, _, rfl, rfl, .inr ⟨by decide, by decide⟩, _, rfl, _, _, rfl, rfl, _, _, rfl, rfl, (by show (0 : Int) < _; decide), _, _, rfl, rfl, ⟨by decide, by decide⟩, .int many, rfl, _, _, rfl, rfl, hm, ?_⟩
      exact k _ _ (Int.emod_nonneg _ (by omega)) (Int.emod_lt_of_pos _ hm) ⟨b0, b1, b2 + 1, rfl, h0, h1, h1', by omega, by omega⟩
theorem b01 (b : Bool) : -(2 ^ 64) < (if b = true then (1 : Int) else 0) ∧ (if b = true then (1 : Int) else 0) < 2 ^ 64 := by cases b <;> decide
theorem dip_b0 (c : Int) (b : Bool) : 0 ≤ (if c < 0 then -c else c) * (if b = true then 1 else 0) := by
  cases b with
  | false => simp
  | true =>
    rw [if_pos rfl, Int.mul_one]
    split <;> omega
theorem ok_dip (B : Bt mg) (D : Dd K mg "_law_dip" s__law_dip P__law_dip) : C8.Cal P w K mg base 1 "_law_dip" (spDip K) [] := by
  refine D.cal sc__law_dip (fun vs H Q E h => ?_) (fun f cdv A outer s H vs Q E hr h => ?_)
  · obtain ⟨a, k, ns, rfl, _⟩ := h
    rfl
  · obtain ⟨a, k, ns, rfl, hS, hk, q⟩ := h
    have T := B
    refine ⟨_, (pss_cons (ps_set (i := 2) sc__law_dip.nd rfl (Or.inl rfl) (pe_ifExp (pt_cmpR op_lt (pv 1) (pe_callB call_len_seq (by rfl) T.len PySem.boot_len (pa_cons (pv 0) pa_nil)) (nomark _)) (pe_ix ix_list (pv 0) (pv 1) (fun _ _ => rfl)) pe_int))
        (pss_one (ps_ret (pe_lst (pa_cons (pe_op op_mul (pe_callB call_abs (by rfl) T.abs (by decide +kernel) (pa_cons (pv 2) pa_nil)) (pe_callTy call_int1 (by rfl) T.int (by decide +kernel) (pa_cons (pe_cmpR op_ge (pe_callB call_abs (by rfl) T.abs (by decide +kernel) (pa_cons (pv 2) pa_nil)) (pe_op op_pow pe_int pe_int) (nomark _)) pa_nil))) (pa_cons (pe_op op_add (pe_op op_add (pe_op op_mod (pv 2) pe_int) (pe_op op_mul pe_int (pv 1))) pe_int) (pa_cons pe_int pa_nil))))))), ?_⟩
    have rest : ∀ c : Int, (tRet (tLst (tCons (tOp (rI CMul fun i j => .int (i * j)) (tCB (fun xs H Q => ∃ i, xs = [.int i] ∧ Q (.int (if i < 0 then -i else i)) H) (tCons (tVar 2) tNil))
        (tCB (fun xs H Q => (∃ i, xs = [.int i] ∧ Q (.int i) H) ∨ ∃ k, xs = [.bl k] ∧ Q (.int (if k then 1 else 0)) H) (tCons (tOp (rI0 fun i j => .bl (decide (j ≤ i))) (tCB (fun xs H Q => ∃ i, xs = [.int i] ∧ Q (.int (if i < 0 then -i else i)) H) (tCons (tVar 2) tNil)) (tOp (rI CPow fun i j => .int (i ^ j.toNat)) (tC (.int 10)) (tC (.int 18)))) tNil)))
        (tCons (tOp (rI0 fun i j => .int (i + j)) (tOp (rI0 fun i j => .int (i + j)) (tOp (rI (fun _ j => 0 < j) fun i j => .int (i % j)) (tVar 2) (tC (.int 2305843009213693951))) (tOp (rI CMul fun i j => .int (i * j)) (tC (.int 39373)) (tVar 1))) (tC (.int 17))) (tCons (tC (.int 0)) tNil)))))
        { nx := fun _ H' => Q .non H', rt := Q } [some (.ref a), some (.int k), some (.int c)] H := fun c => by
      refine ⟨_, rfl, c, rfl, _, rfl, c, rfl, _, _, rfl, rfl, ⟨by decide, by decide, by decide⟩, _, _, rfl, rfl, .inr ⟨_, rfl, ?_⟩⟩
      refine ⟨_, _, rfl, rfl, .inr (b01 _), ?_⟩
      refine ⟨_, rfl, _, _, rfl, rfl, (by show (0 : Int) < _; decide), _, rfl, _, _, rfl, rfl, .inl ⟨by decide, by decide⟩, _, _, rfl, rfl, _, _, rfl, rfl, ?_⟩
      refine ⟨by show 3 ≤ sizeLine; decide, fun p hp => q p _ hp ⟨_, _, 0, rfl, dip_b0 c _, ?_, ?_, Int.le_refl _, Int.le_refl _⟩⟩
      · have := Int.emod_nonneg c (show (2305843009213693951 : Int) ≠ 0 by decide)
        omega
      · have := Int.emod_lt_of_pos c (show (0 : Int) < 2305843009213693951 by decide)
        omega
    refine ⟨_, rfl, _, rfl, a, _, rfl, .inl hS, _, _, rfl, rfl, _, rfl, ite2 (fun e => ?_) (fun e => ?_)⟩
    · have hlt : k < ns.length := by
        have := of_decide_eq_true e
        rw [List.length_map] at this
        omega
      have g : (ns.map V.int)[k]? = some (.int ns[k]) := by
        rw [List.getElem?_map, List.getElem?_eq_getElem hlt]
        rfl
      exact ⟨_, rfl, _, rfl, a, _, k, .int ns[k], rfl, rfl, hS, atI_nat g, rest _⟩
    · exact rest 0
theorem ixN_nat {n j : Nat} (h : j < n) : ixN n (j : Int) = some j := by
  unfold ixN
  rw [if_pos (by omega), if_pos (by omega)]
  simp
theorem ok_folded (B : Bt mg) (D : Dd K mg "_law_folded" s__law_folded P__law_folded) : C8.Cal P w K mg base 1 "_law_folded" (spFold K) [] := by
  refine D.cal sc__law_folded (fun vs H Q E h => ?_) (fun f cdv A outer s H vs Q E hr h => ?_)
  · obtain ⟨a, size, ns, rfl, _⟩ := h
    rfl
  · obtain ⟨a, size, ns, rfl, hS, hl, h1, h8, q⟩ := h
    have T := B
    refine ⟨_, (pss_cons (ps_set (i := 2) sc__law_folded.nd rfl (Or.inl rfl) (pe_callTy call_list_of (by rfl) T.list (by decide +kernel) (pa_cons (pe_slice sl_list (pv 0) po_none (po_some (pv 1))) pa_nil)))
        (pss_cons (ps_for PassesOwn.never rfl (pi_enum (by rfl) T.enumerate (pa_cons (pe_slice sl_list (pv 0) (po_some (pv 1)) (po_some pe_int)) pa_nil)) (pg_tup rfl (pgs_cons (pg_name (i := 3) sc__law_folded.nd rfl (Or.inl rfl)) (pgs_cons (pg_name (i := 4) sc__law_folded.nd rfl (Or.inl rfl)) pgs_nil)))
          (pss_one (ps_asg (pe_op op_add (pe_ix ix_list (pv 2) (pe_op op_mod (pv 3) (pv 1)) (fun _ _ => rfl)) (pe_op op_mul (pv 4) (pe_op op_add (pv 3) pe_int))) (pg_sub (pv 2) (pe_op op_mod (pv 3) (pv 1)) set_list))))
        (pss_one (ps_ret (pv 2))))), ?_⟩
    -- cells = list(script[:size])
    refine ⟨_, rfl, _, rfl, _, rfl, a, _, rfl, hS, fun c1 n1 => ⟨c1, _, rfl, .inl (SqL.of upd_same), fun l nl => ?_⟩⟩
    have s1 : Same H (upd H c1 (.lst (cutV (ns.map V.int) none (some (size : Int))))) := same_upd n1
    have s2 := s1.trans (same_upd (o := .lst (cutV (ns.map V.int) none (some (size : Int)))) nl)
    -- enumerate(script[size:63])
    refine ⟨_, rfl, _, rfl, _, rfl, _, rfl, a, _, rfl, s2.seq hS, fun c2 n2 => ⟨c2, _, rfl, SqL.of upd_same, ?_⟩⟩
    have nlc : l ≠ c2 := fun e => by
      rw [e] at n2
      rw [← e, upd_same] at n2
      cases n2
    refine for_it walk_enum (fun i σ H3 => ∃ y3 y4, ∃ ms : List Int, σ = [some (.ref a), some (.int size), some (.ref l), y3, y4] ∧ Same H H3 ∧ H3 c2 = some (.lst (cutV (ns.map V.int) (some (size : Int)) (some 63))) ∧ H3 l = some (.lst (ms.map V.int)) ∧ ms.length = min size ns.length)
      ⟨none, none, ns.take size, rfl, s2.trans (same_upd n2), upd_same, ?_, by rw [List.length_take]⟩ (fun i σ H3 _ ⟨_, _, _, _, _, hc, _⟩ => SqL.of hc) ?_ ?_
    · rw [upd_ne nlc, upd_same, cut_to]
    · rintro i v σ H3 H4 hi ⟨y3, y4, ms, rfl, sm, hc, hm, hml⟩ ⟨T, x, y, rfl, nT, rfl, ex, ey⟩
      cases ex
      obtain ⟨rs, ers, _⟩ := cut_ints ns (some (size : Int)) (some 63)
      have hsz : size ≤ ns.length := by
        apply Classical.byContradiction
        intro hh
        rw [cut_from_nil ns size (by omega)] at hi
        simp at hi
      have hms : ms.length = size := by omega
      rw [ers] at ey
      rw [ers, List.length_map] at hi
      have ey' : y = .int rs[i] := by
        replace ey : (List.map V.int rs)[i]? = some y := ey
        rw [List.getElem?_map, List.getElem?_eq_getElem hi] at ey
        exact (Option.some.inj ey).symm
      subst ey'
      have hi63 : i < 63 := by omega
      have nTl : l ≠ T := ne_of_none hm nT
      have nTc : c2 ≠ T := ne_of_none hc nT
      have hm' : (upd H3 T (.tup [.int (i : Nat), .int rs[i]])) l = some (.lst (ms.map V.int)) := by
        rw [upd_ne nTl]
        exact hm
      have hj : i % size < ms.length := by
        rw [hms]
        exact Nat.mod_lt _ (by omega)
      have g : (ms.map V.int)[i % size]? = some (.int ms[i % size]) := by
        rw [List.getElem?_map, List.getElem?_eq_getElem hj]
        rfl
      have ei : ((i : Nat) : Int) % ((size : Nat) : Int) = ((i % size : Nat) : Int) := by omega
      refine ⟨T, _, rfl, SqT.of upd_same, rfl, _, _, rfl, _, _, rfl, rfl, ?_⟩
      refine ⟨_, rfl, _, rfl, _, rfl, _, _, rfl, rfl, (by show (0 : Int) < _; omega), l, _, _, .int ms[i % size], rfl, rfl, SqL.of hm', ?_, ?_⟩
      · rw [ei]
        exact atI_nat g
      refine ⟨_, rfl, _, rfl, _, _, rfl, rfl, _, _, rfl, rfl, .inr ⟨by omega, by omega⟩, _, _, rfl, rfl, _, rfl, _, rfl, _, rfl, _, _, rfl, rfl, (by show (0 : Int) < _; omega), l, _, _, i % size, rfl, rfl, hm', ?_, ?_⟩
      · rw [ei, List.length_map]
        exact ixN_nat hj
      · refine ⟨_, _, ms.set (i % size) (ms[i % size] + rs[i] * ((i : Int) + 2)), rfl, fun b z e => ?_, ?_, ?_, by rw [List.length_set]; exact hml⟩
        · have nb : b ≠ l := by
            intro eb
            rw [eb] at e
            have e2 := s1 _ _ e
            rw [e2] at nl
            cases nl
          rw [upd_ne nb]
          exact same_upd nT _ _ (sm _ _ e)
        · rw [upd_ne nlc.symm, upd_ne nTc]
          exact hc
        · rw [upd_same, List.map_set]
    · rintro σ H3 ⟨y3, y4, ms, rfl, sm, hc, hm, hml⟩
      exact ⟨_, rfl, q H3 l ms sm (s1.free nl) hm (by omega)⟩
end
/-! ### the ops -/
inductive Op where
  | copy | plus | less | times | over | rest | least | most | same | under | pick
  deriving DecidableEq
def Op.w : Op → Str
  | .copy => "copy"
  | .plus => "plus"
  | .less => "less"
  | .times => "times"
  | .over => "over"
  | .rest => "rest"
  | .least => "least"
  | .most => "most"
  | .same => "same"
  | .under => "under"
  | .pick => "pick"
def Op.n : Op → Nat
  | .copy => 1
  | .pick => 3
  | _ => 2
def fineb : Op → Bool
  | .copy => true
  | .plus => true
  | .least => true
  | .most => true
  | _ => false
theorem op_n (o : Op) : 1 ≤ o.n ∧ o.n ≤ 3 := by cases o <;> decide
theorem in_let (o : Op) : inV (.str o.w) [.str "copy", .str "plus", .str "least", .str "most"] = fineb o := by cases o <;> decide +kernel
theorem ifT {c : Bool} {A B : Prop} (h : c = true) (x : A) : if c = true then A else B := by rw [if_pos h]; exact x
theorem ifF {c : Bool} {A B : Prop} (h : c = false) (x : B) : if c = true then A else B := by rw [if_neg (by rw [h]; decide)]; exact x
theorem toQ {Q : VK} {H : Hp} {v v' : V} (e : v = v') (h : Q v' H) : Q v H := e ▸ h
theorem yesT {σ : L2.St} {H : Hp} {A B : Hp → Prop} (h : A H) : tYes σ H (fun b H3 => if b = true then A H3 else B H3) := by
  show (if true = true then A H else B H)
  exact iteT h
theorem Same.at_ {H0 H : Hp} {p : Addr} {o : HO} (s : Same H0 H) (n : H0 p = none) : Same H0 (upd H p o) := fun b x e => by
  rw [upd_ne (ne_of_none e n)]
  exact s b x e
theorem Same.new {H0 H : Hp} {p : Addr} {o : HO} (s : Same H0 H) (n : H p = none) : Same H0 (upd H p o) := s.trans (same_upd n)
theorem Same.but {H0 H H' : Hp} {a : Addr} (s : Same H0 H) (n : H0 a = none) (b : But a H H') : Same H0 H' := fun x o e => b x o (ne_of_none e n) (s x o e)
theorem BoxL.mono {n m : Nat} {b : List V} (h : BoxL n b) (l : n ≤ m) : BoxL m b := by
  obtain ⟨b0, b1, b2, e, h0, h1, h2, h3, h4⟩ := h
  exact ⟨b0, b1, b2, e, h0, h1, h2, h3, by omega⟩
def allOps : List Op := [.copy, .plus, .less, .times, .over, .rest, .least, .most, .same, .under, .pick]
def opOf (z : Str) : Option Op := allOps.find? fun o => decide (o.w = z)
theorem opOf_w (o : Op) : opOf o.w = some o := by cases o <;> decide +kernel
theorem opOf_some {z : Str} {o : Op} (h : opOf z = some o) : o.w = z := by
  have e := List.find?_some (p := fun o : Op => decide (o.w = z)) h
  exact of_decide_eq_true e
theorem opOf_none {z : Str} (h : opOf z = none) (o : Op) : o.w ≠ z := fun e => by
  rw [← e, opOf_w] at h
  cases h
/-- a def: by places, by names -/
structure DdP (K : PySem.W.Frag) (mg : Str → Option Value) (x : Str) (st : Stmt) (ps : List Str) : Prop where
  ex : ∃ (f : Addr) (fd : FuncData), L2.Fun K x x st f fd ∧ FunD K x x (defArgs st) (defBody st) (defScope st) [] [] f fd ∧ mg x = some (.ref f) ∧ Binds K fd ps []
structure DdK (K : PySem.W.Frag) (mg : Str → Option Value) (x : Str) (st : Stmt) (kws : List (Str × V)) : Prop where
  ex : ∃ (f : Addr) (fd : FuncData), FunD K x x (defArgs st) (defBody st) (defScope st) [] kws f fd ∧ mg x = some (.ref f)
/-- the table of ops, in the written part -/
structure PartsAt (K : PySem.W.Frag) (w : World) (PD : Addr) : Prop where
  kd : ∃ es n, KDict K w PD es n
  ops : ∀ o : Op, KDct K w PD o.w (.int o.n) ∧ ∃ u, PySem.W.nsIn K PD o.w = some (some u)
  no : ∀ z : Str, opOf z = none → PySem.W.nsIn K PD z = some none
structure Pt (mg : Str → Option Value) (PD : Addr) : Prop where
  parts : mg "PARTS" = some (.ref PD)
  isinstance : mg "isinstance" = none
  str : mg "str" = none
section
variable {K : PySem.W.Frag} {H H' : Hp}
theorem Same.seqL {a : Addr} {xs : List V} (s : Same H H') (h : SqL K H a xs) : SqL K H' a xs := by
  rcases h with (h | ⟨o, h⟩) | h
  · exact .inl (.inl (s _ _ h))
  · exact .inl (.inr ⟨o, s _ _ h⟩)
  · exact .inr h
theorem Same.seqT {a : Addr} {xs : List V} (s : Same H H') (h : SqT K H a xs) : SqT K H' a xs := by
  rcases h with (h | ⟨o, h⟩) | h
  · exact .inl (.inl (s _ _ h))
  · exact .inl (.inr ⟨o, s _ _ h⟩)
  · exact .inr h
mutual
theorem dp_same (s : Same H H') : ∀ {v : V} {d : PyData}, Dp K H v d → Dp K H' v d
  | _, _, .non => .non
  | _, _, .bl b => .bl b
  | _, _, .int i => .int i
  | _, _, .str x => .str x
  | _, _, .lst h a => .lst (Same.seqL s h) (dpAll_same s a)
  | _, _, .tup h a => .tup (Same.seqT s h) (dpAll_same s a)
theorem dpAll_same (s : Same H H') : ∀ {vs : List V} {ds : List PyData}, DpAll K H vs ds → DpAll K H' vs ds
  | _, _, .nil => .nil
  | _, _, .cons h a => .cons (dp_same s h) (dpAll_same s a)
end
theorem dpAll_len : ∀ {vs : List V} {ds : List PyData}, DpAll K H vs ds → vs.length = ds.length
  | _, _, .nil => rfl
  | _, _, .cons _ a => by
    rw [List.length_cons, List.length_cons, dpAll_len a]
theorem dpAll_at : ∀ {vs : List V} {ds : List PyData}, DpAll K H vs ds → ∀ {i : Nat} {v : V}, vs[i]? = some v → ∃ d, ds[i]? = some d ∧ Dp K H v d
  | _, _, .cons h _, 0, _, e => ⟨_, rfl, by rw [← Option.some.inj e]; exact h⟩
  | _, _, .cons _ a, i + 1, _, e => dpAll_at a (i := i) e
theorem dpAll_snoc : ∀ {vs : List V} {ds : List PyData}, DpAll K H vs ds → ∀ {v : V} {d : PyData}, Dp K H v d → DpAll K H (vs ++ [v]) (ds ++ [d])
  | _, _, .nil, _, _, h => .cons h .nil
  | _, _, .cons h0 a, _, _, h => .cons h0 (dpAll_snoc a h)
theorem tyL {a : Addr} {xs : List V} (h : SqL K H a xs) : TyX K H (.ref a) (.type "list") := by
  rcases h with (h | ⟨o, h⟩) | ⟨o, its, n, l, c, _⟩
  · exact .base (.lst h)
  · exact .base (.frz h)
  · exact .kList l c
theorem tyT {a : Addr} {xs : List V} (h : SqT K H a xs) : TyX K H (.ref a) (.type "tuple") := by
  rcases h with (h | ⟨o, h⟩) | ⟨o, its, n, l, c, _⟩
  · exact .base (.tup h)
  · exact .fTuple h
  · exact .kTuple l c
end
/-- what is new in the second heap -/
def Nw (H H' : Hp) : Hp := fun b => if H b = none then H' b else none
theorem Nw.sub {H H' : Hp} : Same (Nw H H') H' := fun b o e => by
  unfold Nw at e
  split at e
  · exact e
  · cases e
theorem Nw.mk {H H' : Hp} {b : Addr} {o : HO} (h : H b = none) (e : H' b = some o) : Nw H H' b = some o := by
  unfold Nw
  rw [if_pos h]
  exact e
theorem Nw.get {H H' : Hp} {b : Addr} {o : HO} (h : Nw H H' b = some o) : H b = none ∧ H' b = some o := by
  unfold Nw at h
  split at h
  · exact ⟨by assumption, h⟩
  · cases h
def boolText (b : Bool) : Str := if b then "True" else "False"
theorem cr_reprB {X : Cx} : CallR X (.builtin "repr") (fun xs H Q => ∃ b : Bool, xs = [.bl b] ∧ Q (.str (boolText b)) H) := by
  intro pins s σ H xs us Q I r h
  obtain ⟨b, rfl, q⟩ := h
  cases r with
  | cons r1 rr =>
    cases rr
    cases (show _ = Value.bool b from r1)
    exact PySem.P.repr_of_bool ⟨.str (boolText b), H, I.tok _, ⟨_, by unfold boolText; cases b <;> rfl⟩, q⟩
/-- whether data is an op -/
def isOpD : PyData → Bool
  | .str z => (opOf z).isSome
  | _ => false
/-- of a text or of another type -/
theorem dp_ty {K : PySem.W.Frag} {H : Hp} {v : V} {d : PyData} (h : Dp K H v d) : (∃ z, v = .str z ∧ d = .str z) ∨ (isOpD d = false ∧ ∃ t, TyX K H v (.type t) ∧ kitB t "str" = some false) := by
  cases h with
  | non => exact .inr ⟨rfl, _, .base .non, by decide +kernel⟩
  | bl b => exact .inr ⟨rfl, _, .base (.bl b), by decide +kernel⟩
  | int i => exact .inr ⟨rfl, _, .base (.int i), by decide +kernel⟩
  | str z => exact .inl ⟨z, rfl, rfl⟩
  | lst h a => exact .inr ⟨rfl, _, tyL h, by decide +kernel⟩
  | tup h a => exact .inr ⟨rfl, _, tyT h, by decide +kernel⟩
theorem TyX.same {K : PySem.W.Frag} {H H' : Hp} {v : V} {d : PyData} (h : Dp K H v d) (s : Same H H') : Dp K H' v d := dp_same s h
abbrev s_is_op : Stmt := top 2
abbrev N_is_op : List Str := ["thing"]
abbrev P_is_op : List Str := ["thing"]
theorem sc_is_op : FnScope N_is_op P_is_op (defScope s_is_op) := ⟨rfl, rfl, rfl, by decide +kernel, rfl, by decide +kernel, by decide +kernel⟩
abbrev s__law_is_one : Stmt := top 9
abbrev N__law_is_one : List Str := ["_law_odd", "_law_words"]
abbrev P__law_is_one : List Str := ["_law_odd"]
theorem sc__law_is_one : FnScope N__law_is_one P__law_is_one (defScope s__law_is_one) := ⟨rfl, rfl, rfl, by decide +kernel, rfl, by decide +kernel, by decide +kernel⟩
abbrev s__law_right : Stmt := top 10
abbrev N__law_right : List Str := ["_law_odd", "_law_kept", "_law_due"]
abbrev P__law_right : List Str := ["_law_odd"]
theorem sc__law_right : FnScope N__law_right P__law_right (defScope s__law_right) := ⟨rfl, rfl, rfl, by decide +kernel, rfl, by decide +kernel, by decide +kernel⟩
def spIsD (K : PySem.W.Frag) : Sp := fun vs H Q _ => ∃ (v : V) (d : PyData), vs = [v] ∧ Dp K H v d ∧ ∀ H', Same H H' → Q (.bl (isOpD d)) H'
def spRight4 (K : PySem.W.Frag) : Sp := fun vs H Q _ => ∃ (v : V) (d : PyData), vs = [v] ∧ Dp K H v d ∧ d.showable = true ∧ d.hasDict = false ∧ d.depth ≤ 100 ∧ d.shown.length ≤ sizeLine ∧ ∀ H', Same H H' → Q (.bl true) H'
theorem words_in (z : Str) : inV (.str z) [.str "copy", .str "plus", .str "less", .str "times", .str "over", .str "rest", .str "least", .str "most", .str "same", .str "under", .str "pick"] = (opOf z).isSome := by
  cases e : opOf z with
  | some o =>
    rw [← opOf_some e]
    cases o <;> decide +kernel
  | none =>
    have n := opOf_none e
    have h : ∀ o : Op, (decide ((V.str o.w) = V.str z)) = false := fun o => decide_eq_false fun y => n o (V.str.inj y)
    unfold inV
    show (([Op.copy, .plus, .less, .times, .over, .rest, .least, .most, .same, .under, .pick].map fun o => V.str o.w).any fun y => eqV y (.str z)) = false
    rw [List.any_map, List.any_eq_false]
    intro o _
    show ¬ eqV (.str o.w) (.str z) = true
    intro y
    have y2 : decide (o.w = z) = true := y
    exact n o (of_decide_eq_true y2)
structure Rt4 (mg : Str → Option Value) : Prop where
  isinstance : mg "isinstance" = none
  str : mg "str" = none
  repr : mg "repr" = none
section
variable {P : Program} {w : World} {K : PySem.W.Frag} {mg : Str → Option Value} {base : Heap} {PD : Addr}
structure IsOp (P : Program) (w : World) (K : PySem.W.Frag) (mg : Str → Option Value) (base : Heap) : Prop where
  c0 : C8.Cal P w K mg base 1 "is_op" (spIsD K) []
  c1 : KCal P w K mg base 1 "is_op" (spIsD K) 0 ["thing"] (fun _ zs => zs)
theorem ok_is_op (T : Pt mg PD) (A : PartsAt K w PD) (D : DdP K mg "is_op" s_is_op P_is_op) : IsOp P w K mg base := by
  obtain ⟨f, fd, F, F2, g, b⟩ := D.ex
  obtain ⟨es, n, kd⟩ := A.kd
  have ok : FnOk P w K mg base CX0 1 f fd P_is_op (spIsD K) := by
    refine F.ok sc_is_op (fun vs H Q E h => ?_) (fun cdv A' outer s H vs Q E hr h => ?_)
    · obtain ⟨v, d, rfl, _⟩ := h
      rfl
    · obtain ⟨v, d, rfl, hd, q⟩ := h
      refine ⟨_, (pss_one (ps_ret (pe_and (pe_callB call_isi (by rfl) T.isinstance (by decide +kernel) (pa_cons (pv 0) (pa_cons (pe_bltn (v := .ty "str") rfl T.str (by decide +kernel) rfl) pa_nil))) (pe_one (pe_cmpR (op_in_kd kd) (pv 0) (pe_glob (v := .ref PD) rfl T.parts rfl) (by with_unfolding_all rfl)))))), ?_⟩
      rcases dp_ty hd with ⟨z, rfl, rfl⟩ | ⟨nn, t, ht, kt⟩
      · refine ⟨_, rfl, .str z, .ty "str", .type "str", .type "str", true, rfl, .ty "str", .base (.str z), kit_ty (by decide +kernel), true, rfl, iteT ?_⟩
        have q : Q (.bl (opOf z).isSome) H := q H (Same.refl H)
        cases e : opOf z with
        | none =>
          rw [e] at q
          exact ⟨_, rfl, z, none, rfl, rfl, A.no z e, q⟩
        | some o =>
          rw [e] at q
          obtain ⟨u, hu⟩ := (A.ops o).2
          rw [opOf_some e] at hu
          exact ⟨_, rfl, z, some u, rfl, rfl, hu, q⟩
      · refine ⟨_, rfl, v, .ty "str", .type t, .type "str", false, rfl, .ty "str", ht, kit_ty kt, false, rfl, iteF ?_⟩
        have q := q H (Same.refl H)
        rw [nn] at q
        exact q
  have hk := kbindsN (ps := P_is_op) F2 0 ["thing"] (fun _ ws => ws) (fun _ h3 => h3) (fun kV doc pm an cdv ct us ws hl hw => match us, ws, hl, hw with
    | [], [_], _, _ => rfl)
  exact ⟨⟨f, fd, _, [], ok, g, F2.kp, b, .nil⟩, ⟨f, fd, _, _, ok, g, F2.kp, hk⟩⟩
theorem ok_is_one (T : Rt4 mg) (D : Dd K mg "_law_is_one" s__law_is_one P__law_is_one) : C8.Cal P w K mg base 1 "_law_is_one" (spIsD K) [] := by
  refine D.cal sc__law_is_one (fun vs H Q E h => ?_) (fun f cdv A outer s H vs Q E hr h => ?_)
  · obtain ⟨v, d, rfl, _⟩ := h
    rfl
  · obtain ⟨v, d, rfl, hd, q⟩ := h
    refine ⟨_, (pss_cons (ps_set (i := 1) sc__law_is_one.nd rfl (Or.inl rfl) (pe_lst (pa_cons pe_str (pa_cons pe_str (pa_cons pe_str (pa_cons pe_str (pa_cons pe_str (pa_cons pe_str (pa_cons pe_str (pa_cons pe_str (pa_cons pe_str (pa_cons pe_str (pa_cons pe_str pa_nil)))))))))))))
        (pss_one (ps_ret (pe_and (pe_callB call_isi (by rfl) T.isinstance (by decide +kernel) (pa_cons (pv 0) (pa_cons (pe_bltn (v := .ty "str") rfl T.str (by decide +kernel) rfl) pa_nil))) (pe_one (pe_cmpR op_in_seq (pv 0) (pv 1) (by with_unfolding_all rfl))))))), ?_⟩
    refine ⟨by show 11 ≤ sizeLine; decide, fun l nl => ?_⟩
    have s1 := same_upd (o := .lst [.str "copy", .str "plus", .str "less", .str "times", .str "over", .str "rest", .str "least", .str "most", .str "same", .str "under", .str "pick"]) nl
    rcases dp_ty (dp_same s1 hd) with ⟨z, rfl, rfl⟩ | ⟨nn, t, ht, kt⟩
    · refine ⟨_, rfl, .str z, .ty "str", .type "str", .type "str", true, rfl, .ty "str", .base (.str z), kit_ty (by decide +kernel), true, rfl, iteT ?_⟩
      refine ⟨_, rfl, _, rfl, l, _, rfl, .inl (SqL.of upd_same), rfl, by decide +kernel, ?_⟩
      have q : Q (.bl (opOf z).isSome) _ := q _ s1
      rw [← words_in] at q
      exact q
    · refine ⟨_, rfl, v, .ty "str", .type t, .type "str", false, rfl, .ty "str", ht, kit_ty kt, false, rfl, iteF ?_⟩
      have q := q _ s1
      rw [nn] at q
      exact q
theorem ok_right4 (T : Rt4 mg) (I : IsOp P w K mg base) (c_law_is_one : C8.Cal P w K mg base 1 "_law_is_one" (spIsD K) []) (D : Dd K mg "_law_right" s__law_right P__law_right) : CalG P w K mg base 2 "_law_right" (spRight4 K) := by
  have cis_op := I.c0
  have cis_op_0_thing := I.c1
  obtain ⟨f, fd, F, g, b⟩ := D.ex
  refine ⟨f, fd, P__law_right, fng_of F sc__law_right (fun vs H Q E h => ?_) (fun cdv A outer s H vs Q E hg hr h => ?_), g, F.kp, b⟩
  · obtain ⟨v, d, rfl, _⟩ := h
    rfl
  · obtain ⟨v, d, rfl, hd, h1, h2, h3, h4, q⟩ := h
    refine ⟨_, (pss_cons (ps_par rfl sc__law_right.nd (i := 1) (j := 2) rfl rfl (by decide) rfl rfl (pa_cons (pe_callB (cr_reprD hg hr) (by rfl) T.repr (by decide +kernel) (pa_cons (pv 0) pa_nil)) (pa_cons (C8.pe_c c_law_is_one hr (by decide) (by rfl) (pa_cons (pv 0) pa_nil)) pa_nil)) (by rfl))
        (pss_one (ps_ret (pe_cmpR (op_eqV hr.units) (pe_lst (pa_cons (pe_callB cr_reprB (by rfl) T.repr (by decide +kernel) (pa_cons (C8.pe_c cis_op hr (by decide) (by rfl) (pa_cons (pv 0) pa_nil)) pa_nil)) (pa_cons (pe_callB cr_reprB (by rfl) T.repr (by decide +kernel) (pa_cons (pe_kw0 cis_op_0_thing hr (by decide) (by rfl) (pk_cons (pv 0) pk_nil)) pa_nil)) (pa_cons (pe_callB (cr_reprD hg hr) (by rfl) T.repr (by decide +kernel) (pa_cons (pv 0) pa_nil)) pa_nil)))) (pe_lst (pa_cons (pe_callB cr_reprB (by rfl) T.repr (by decide +kernel) (pa_cons (pv 2) pa_nil)) (pa_cons (pe_callB cr_reprB (by rfl) T.repr (by decide +kernel) (pa_cons (pv 2) pa_nil)) (pa_cons (pv 1) pa_nil)))) (nomark _))))), ?_⟩
    refine ⟨_, rfl, v, d, rfl, hd, h1, h2, h3, h4, ?_⟩
    refine ⟨_, rfl, v, d, rfl, hd, fun H1 s1 => ⟨_, _, rfl, ?_⟩⟩
    refine ⟨_, rfl, v, d, rfl, dp_same s1 hd, fun H2 s2 => ⟨_, rfl, ?_⟩⟩
    have s12 := s1.trans s2
    refine ⟨_, rfl, rfl, rfl, v, d, rfl, dp_same s12 hd, fun H3 s3 => ⟨_, rfl, ?_⟩⟩
    have s13 := s12.trans s3
    refine ⟨_, rfl, v, d, rfl, dp_same s13 hd, h1, h2, h3, h4, ?_⟩
    refine ⟨by show 3 ≤ sizeLine; decide, fun l nl => ?_⟩
    have b1 := same_upd (o := .lst [.str (boolText (isOpD d)), .str (boolText (isOpD d)), .str d.shown]) nl
    refine ⟨_, rfl, _, rfl, ⟨_, rfl, _, rfl, ?_⟩⟩
    refine ⟨_, rfl, by show 3 ≤ sizeLine; decide, fun l2 nl2 => ?_⟩
    have b2 := same_upd (o := .lst [.str (boolText (isOpD d)), .str (boolText (isOpD d)), .str d.shown]) nl2
    refine ⟨1, by decide, .inl ⟨l, l2, _, _, rfl, rfl, SqL.of (b2 _ _ upd_same), SqL.of upd_same, .cons (.inl ⟨rfl, rfl⟩) (.cons (.inl ⟨rfl, rfl⟩) (.cons (.inl ⟨rfl, rfl⟩) .nil))⟩, ?_⟩
    exact q _ ((s13.trans b1).trans b2)
end
/-! ### texts of data, how long at most -/
theorem textFrom_le : ∀ (ts : List Str) (k : Nat) (acc : Str), (textFrom k acc ts).length ≤ acc.length + piled ts
  | [], k, acc => by
    rw [piled_nil]
    exact Nat.le_refl _
  | t :: r, k, acc => by
    have ih := textFrom_le r (k + 1) (acc ++ (if k > 0 then ", " else "" : String) ++ t)
    have e2 : ((", " : String) : Str).length = 2 := rfl
    have e0 : (("" : String) : Str).length = 0 := rfl
    have e : (acc ++ (if k > 0 then ", " else "" : String) ++ t).length ≤ acc.length + 2 + t.length := by
      rw [strLen_append, strLen_append]
      by_cases h : k > 0
      · rw [if_pos h, e2]
        exact Nat.le_refl _
      · rw [if_neg h, e0]
        omega
    rw [piled_cons]
    exact Nat.le_trans ih (by omega)
theorem listText_le (ts : List Str) : (listText ts).length ≤ piled ts + 2 := by
  unfold listText
  rw [strLen_append]
  have h := textFrom_le ts 0 "["
  have e1 : (("[" : String) : Str).length = 1 := rfl
  have e2 : (("]" : String) : Str).length = 1 := rfl
  rw [e1] at h
  rw [e2]
  omega
theorem tupleText_le (ts : List Str) : (tupleText ts).length ≤ piled ts + 3 := by
  unfold tupleText
  rw [strLen_append, strLen_append]
  have e1 : (("(" : String) : Str).length = 1 := rfl
  have e2 : ((if ts.length == 1 then ",)" else ")" : String) : Str).length ≤ 2 := by
    by_cases h : (ts.length == 1) = true
    · rw [if_pos h]
      decide
    · rw [if_neg h]
      decide
  rw [e1]
  cases ts with
  | nil =>
    have e3 : (Str.join ", " []).length = 0 := rfl
    rw [e3]
    omega
  | cons t r =>
    have := join_length_add (t :: r) (by simp)
    omega
def gl : Nat → Nat
  | 0 => 12
  | n + 1 => 3 * gl n + 20
structure Gd (n : Nat) (d : PyData) : Prop where
  sh : d.showable = true
  nd : d.hasDict = false
  dp : d.depth ≤ 2 * n
  ln : d.shown.length ≤ gl n
theorem Gd.mono {n : Nat} {d : PyData} (h : Gd n d) : Gd (n + 1) d := ⟨h.sh, h.nd, by have := h.dp; omega, by have := h.ln; show _ ≤ 3 * gl n + 20; omega⟩
theorem Gd.all {n : Nat} : ∀ {ds : List PyData}, (∀ d ∈ ds, Gd n d) → PyData.showableAll ds = true ∧ PyData.hasDictAll ds = false ∧ PyData.depthAll ds ≤ 2 * n ∧ piled (PyData.shownAll ds) ≤ ds.length * (gl n + 2)
  | [], _ => ⟨by simp [PyData.showableAll], by simp [PyData.hasDictAll], by simp [PyData.depthAll], by simp [PyData.shownAll, piled]⟩
  | d :: ds, h => by
    obtain ⟨h1, h2, h3, h4⟩ := Gd.all (ds := ds) fun e he => h e (List.mem_cons_of_mem _ he)
    have g := h d (List.mem_cons_self ..)
    refine ⟨by simp [PyData.showableAll, g.sh, h1], by simp [PyData.hasDictAll, g.nd, h2], ?_, ?_⟩
    · have := g.dp
      show max (PyData.depth d) (PyData.depthAll ds) ≤ 2 * n
      omega
    · show piled (PyData.shown d :: PyData.shownAll ds) ≤ _
      rw [piled_cons, List.length_cons, Nat.add_mul]
      have := g.ln
      omega
section
variable {n : Nat} {ds : List PyData}
theorem Gd.mul (hl : ds.length ≤ 3) : ds.length * (gl n + 2) ≤ 3 * (gl n + 2) := Nat.mul_le_mul_right _ hl
theorem Gd.lst (hl : ds.length ≤ 3) (h : ∀ d ∈ ds, Gd n d) : Gd (n + 1) (.list ds) := by
  obtain ⟨h1, h2, h3, h4⟩ := Gd.all h
  have hm := Gd.mul (n := n) hl
  refine ⟨by simpa [PyData.showable] using h1, by simpa [PyData.hasDict] using h2, ?_, ?_⟩
  · show PyData.depthAll ds + 1 ≤ 2 * (n + 1)
    omega
  · show (listText (PyData.shownAll ds)).length ≤ 3 * gl n + 20
    have := listText_le (PyData.shownAll ds)
    omega
theorem Gd.tup (hl : ds.length ≤ 3) (h : ∀ d ∈ ds, Gd n d) : Gd (n + 1) (.tuple ds) := by
  obtain ⟨h1, h2, h3, h4⟩ := Gd.all h
  have hm := Gd.mul (n := n) hl
  refine ⟨by simpa [PyData.showable] using h1, by simpa [PyData.hasDict] using h2, ?_, ?_⟩
  · show PyData.depthAll ds + 1 ≤ 2 * (n + 1)
    omega
  · show (tupleText (PyData.shownAll ds)).length ≤ 3 * gl n + 20
    have := tupleText_le (PyData.shownAll ds)
    omega
theorem Gd.lst2 (hl : ds.length ≤ 3) (h : ∀ d ∈ ds, Gd n d) : Gd (n + 1) (.list [.list ds, .str "plus"]) := by
  obtain ⟨h1, h2, h3, h4⟩ := Gd.all h
  have hm := Gd.mul (n := n) hl
  refine ⟨by simpa [PyData.showable, PyData.showableAll] using h1, by simpa [PyData.hasDict, PyData.hasDictAll] using h2, ?_, ?_⟩
  · show max (PyData.depthAll ds + 1) (max 0 0) + 1 ≤ 2 * (n + 1)
    omega
  · have e1 := listText_le (PyData.shownAll ds)
    have e2 := listText_le [listText (PyData.shownAll ds), reprText "plus"]
    have e3 : (reprText "plus").length = 6 := by decide +kernel
    rw [piled_cons, piled_cons, piled_nil, e3] at e2
    show (listText [listText (PyData.shownAll ds), reprText "plus"]).length ≤ 3 * gl n + 20
    omega
end
def gdB (d : PyData) : Bool := d.showable && !d.hasDict && decide (d.depth ≤ 0) && decide (d.shown.length ≤ 12)
theorem gd_of {d : PyData} (h : gdB d = true) : Gd 0 d := by
  unfold gdB at h
  simp only [Bool.and_eq_true, Bool.not_eq_true', decide_eq_true_eq] at h
  exact ⟨h.1.1.1, h.1.1.2, h.1.2, h.2⟩
theorem gd_small (r : Int) (h0 : 0 ≤ r) (h1 : r < 12) : Gd 0 (.int (r - 3)) := by
  have hc : r = 0 ∨ r = 1 ∨ r = 2 ∨ r = 3 ∨ r = 4 ∨ r = 5 ∨ r = 6 ∨ r = 7 ∨ r = 8 ∨ r = 9 ∨ r = 10 ∨ r = 11 := by omega
  rcases hc with rfl | rfl | rfl | rfl | rfl | rfl | rfl | rfl | rfl | rfl | rfl | rfl <;> exact gd_of (by decide +kernel)
theorem Gd.up {d : PyData} (h : Gd 0 d) : ∀ n, Gd n d
  | 0 => h
  | n + 1 => (Gd.up h n).mono
/-- how often is drawn -/
def cc : Nat → Nat
  | 0 => 3
  | n + 1 => 3 * cc n + 5
abbrev s__law_made : Stmt := top 7
abbrev N__law_made : List Str := ["_law_box", "_law_deep", "_law_way", "_law_some", "_law_k"]
abbrev P__law_made : List Str := ["_law_box", "_law_deep"]
theorem sc__law_made : FnScope N__law_made P__law_made (defScope s__law_made) := ⟨rfl, rfl, rfl, by decide +kernel, rfl, by decide +kernel, by decide +kernel⟩
def spMade4 (K : PySem.W.Frag) (n : Nat) : Sp := fun vs H Q _ => ∃ (a : Addr) (deep : Int) (m : Nat) (b : List V), vs = [.ref a, .int deep] ∧ deep ≤ n ∧ H a = some (.lst b) ∧ BoxL m b ∧ m + cc n < 900000 ∧
  ∀ (H' : Hp) (v : V) (d : PyData) (b' : List V), But a H H' → H' a = some (.lst b') → BoxL (m + cc n) b' → Dp K (Nw H H') v d → Gd n d → Q v H'
structure Md (mg : Str → Option Value) : Prop where
  range : mg "range" = none
  tuple : mg "tuple" = none
theorem But.free {a b : Addr} {H H' : Hp} {o : HO} (x : But a H H') (ha : H' a = some o) (h : H' b = none) : H b = none := by
  cases e : H b with
  | none => rfl
  | some u =>
    by_cases z : b = a
    · rw [z, ha] at h
      cases h
    · rw [x b u z e] at h
      cases h
section
variable {P : Program} {w : World} {K : PySem.W.Frag} {mg : Str → Option Value} {base : Heap}
/-- an atom is told -/
theorem made_atom {n : Nat} {H Z : Hp} {Q : VK} {a l : Addr} {m : Nat} {b3 : List V} {r2 r3 : Int} (hl : Z l = some (.lst [.int (r2 - 3), .int (10 ^ (9 : Int).toNat), .bl true, .bl false, .non, .str "", .str "own", .str "rest", .str "pick", .str "plus", .str "Copy", .str "1"])) (bt : But a H Z) (hza : Z a = some (.lst b3)) (h20 : 0 ≤ r2) (h21 : r2 < 12) (h30 : 0 ≤ r3) (h31 : r3 < 12) (hB : BoxL (m + 3) b3) (hc : 3 ≤ cc n)
    (q : ∀ (H' : Hp) (v : V) (d : PyData) (b' : List V), But a H H' → H' a = some (.lst b') → BoxL (m + cc n) b' → Dp K (Nw H H') v d → Gd n d → Q v H') :
    ∃ (p : Addr) (xs : List V) (i : Int) (v : V), V.ref l = .ref p ∧ V.int r3 = .int i ∧ SqL K Z p xs ∧ atI xs i = some v ∧ Q v Z := by
  have hB2 := hB.mono (show m + 3 ≤ m + cc n by omega)
  have hc2 : r3 = 0 ∨ r3 = 1 ∨ r3 = 2 ∨ r3 = 3 ∨ r3 = 4 ∨ r3 = 5 ∨ r3 = 6 ∨ r3 = 7 ∨ r3 = 8 ∨ r3 = 9 ∨ r3 = 10 ∨ r3 = 11 := by omega
  rcases hc2 with rfl | rfl | rfl | rfl | rfl | rfl | rfl | rfl | rfl | rfl | rfl | rfl
  · exact ⟨l, _, _, _, rfl, rfl, SqL.of hl, atI_nat (j := 0) rfl, q Z _ _ b3 bt hza hB2 (.int _) ((gd_small r2 h20 h21).up n)⟩
  · exact ⟨l, _, _, _, rfl, rfl, SqL.of hl, atI_nat (j := 1) rfl, q Z _ (.int (10 ^ (9 : Int).toNat)) b3 bt hza hB2 (.int _) ((gd_of (by decide +kernel)).up n)⟩
  · exact ⟨l, _, _, _, rfl, rfl, SqL.of hl, atI_nat (j := 2) rfl, q Z _ (.bool true) b3 bt hza hB2 (.bl _) ((gd_of (by decide +kernel)).up n)⟩
  · exact ⟨l, _, _, _, rfl, rfl, SqL.of hl, atI_nat (j := 3) rfl, q Z _ (.bool false) b3 bt hza hB2 (.bl _) ((gd_of (by decide +kernel)).up n)⟩
  · exact ⟨l, _, _, _, rfl, rfl, SqL.of hl, atI_nat (j := 4) rfl, q Z _ (.none) b3 bt hza hB2 .non ((gd_of (by decide +kernel)).up n)⟩
  · exact ⟨l, _, _, _, rfl, rfl, SqL.of hl, atI_nat (j := 5) rfl, q Z _ (.str "") b3 bt hza hB2 (.str _) ((gd_of (by decide +kernel)).up n)⟩
  · exact ⟨l, _, _, _, rfl, rfl, SqL.of hl, atI_nat (j := 6) rfl, q Z _ (.str "own") b3 bt hza hB2 (.str _) ((gd_of (by decide +kernel)).up n)⟩
  · exact ⟨l, _, _, _, rfl, rfl, SqL.of hl, atI_nat (j := 7) rfl, q Z _ (.str "rest") b3 bt hza hB2 (.str _) ((gd_of (by decide +kernel)).up n)⟩
  · exact ⟨l, _, _, _, rfl, rfl, SqL.of hl, atI_nat (j := 8) rfl, q Z _ (.str "pick") b3 bt hza hB2 (.str _) ((gd_of (by decide +kernel)).up n)⟩
  · exact ⟨l, _, _, _, rfl, rfl, SqL.of hl, atI_nat (j := 9) rfl, q Z _ (.str "plus") b3 bt hza hB2 (.str _) ((gd_of (by decide +kernel)).up n)⟩
  · exact ⟨l, _, _, _, rfl, rfl, SqL.of hl, atI_nat (j := 10) rfl, q Z _ (.str "Copy") b3 bt hza hB2 (.str _) ((gd_of (by decide +kernel)).up n)⟩
  · exact ⟨l, _, _, _, rfl, rfl, SqL.of hl, atI_nat (j := 11) rfl, q Z _ (.str "1") b3 bt hza hB2 (.str _) ((gd_of (by decide +kernel)).up n)⟩
theorem cc3 : ∀ n, 3 ≤ cc n
  | 0 => Nat.le_refl _
  | n + 1 => by
    have := cc3 n
    show 3 ≤ 3 * cc n + 5
    omega
theorem ok_made4 (T : Md mg) (c_law_take : C8.Cal P w K mg base 1 "_law_take" spTake []) (D : Dd K mg "_law_made" s__law_made P__law_made) : ∀ n, C8.Cal P w K mg base (n + 2) "_law_made" (spMade4 K n) [] := by
  intro n
  induction n with
  | zero =>
    refine D.cal sc__law_made (fun vs H Q E h => ?_) (fun f cdv A outer s H vs Q E hr h => ?_)
    · obtain ⟨a, deep, m, b, rfl, _⟩ := h
      rfl
    · obtain ⟨a, deep, m, b, rfl, hdp, ha, hB, hm, q⟩ := h
      refine ⟨_, (pss_cons (ps_set (i := 2) sc__law_made.nd rfl (Or.inl rfl) (C8.pe_c c_law_take hr (by omega) (by rfl) (pa_cons (pv 0) (pa_cons (pe_ifExp (pt_cmpR op_gt (pv 1) pe_int (nomark _)) pe_int pe_int) pa_nil)))) (pss_cons (ps_if (pt_cmpR op_lt (pv 2) pe_int (nomark _)) (pss_cons (ps_set (i := 3) sc__law_made.nd rfl (Or.inl rfl) (pe_lst (pa_cons (pe_op op_sub (C8.pe_c c_law_take hr (by omega) (by rfl) (pa_cons (pv 0) (pa_cons pe_int pa_nil))) pe_int) (pa_cons (pe_op op_pow pe_int pe_int) (pa_cons pe_bl (pa_cons pe_bl (pa_cons pe_non (pa_cons pe_str (pa_cons pe_str (pa_cons pe_str (pa_cons pe_str (pa_cons pe_str (pa_cons pe_str (pa_cons pe_str pa_nil)))))))))))))) (pss_one (ps_ret (pe_ix ix_list (pv 3) (C8.pe_c c_law_take hr (by omega) (by rfl) (pa_cons (pv 0) (pa_cons pe_int pa_nil))) (fun _ _ => rfl))))) pss_nil) (pss_cons ps_never (pss_one ps_never)))), ?_⟩
      have hm : m + 3 < 900000 := hm
      refine ⟨_, rfl, _, rfl, ⟨_, _, rfl, rfl, _, rfl, ifF (decide_eq_false (by omega)) ?_⟩⟩
      refine ⟨a, 7, m, b, rfl, ha, hB, by omega, by decide, by decide, fun w1 b1 w10 w11 hB1 => ?_⟩
      refine ⟨_, rfl, _, _, rfl, rfl, _, rfl, ifT (decide_eq_true (by omega)) ?_⟩
      refine ⟨_, rfl, a, 12, m + 1, b1, rfl, upd_same, hB1, by omega, by decide, by decide, fun r2 b2 r20 r21 hB2 => ⟨_, _, rfl, rfl, ⟨_, _, rfl, rfl, ⟨by decide, by decide, by decide⟩, by show 12 ≤ sizeLine; decide, fun l nl => ?_⟩⟩⟩
      have nla : l ≠ a := fun z => by
        rw [z, upd_same] at nl
        cases nl
      refine ⟨_, rfl, _, rfl, a, 12, m + 2, b2, rfl, by rw [upd_ne nla.symm, upd_same], hB2, by omega, by decide, by decide, fun r3 b3 r30 r31 hB3 => ?_⟩
      exact made_atom (n := 0) (b3 := b3) (by rw [upd_ne nla, upd_same]) (But.upd (But.new (But.upd (But.upd (But.refl a H))) nl)) upd_same r20 r21 r30 r31 hB3 (cc3 _) q
  | succ n c_law_made =>
    refine D.cal sc__law_made (fun vs H Q E h => ?_) (fun f cdv A outer s H vs Q E hr h => ?_)
    · obtain ⟨a, deep, m, b, rfl, _⟩ := h
      rfl
    · obtain ⟨a, deep, m, b, rfl, hdp, ha, hB, hm, q⟩ := h
      refine ⟨_, (pss_cons (ps_set (i := 2) sc__law_made.nd rfl (Or.inl rfl) (C8.pe_c c_law_take hr (by omega) (by rfl) (pa_cons (pv 0) (pa_cons (pe_ifExp (pt_cmpR op_gt (pv 1) pe_int (nomark _)) pe_int pe_int) pa_nil))))
          (pss_cons (ps_if (pt_cmpR op_lt (pv 2) pe_int (nomark _))
            (pss_cons (ps_set (i := 3) sc__law_made.nd rfl (Or.inl rfl) (pe_lst (pa_cons (pe_op op_sub (C8.pe_c c_law_take hr (by omega) (by rfl) (pa_cons (pv 0) (pa_cons pe_int pa_nil))) pe_int) (pa_cons (pe_op op_pow pe_int pe_int) (pa_cons pe_bl (pa_cons pe_bl (pa_cons pe_non (pa_cons pe_str (pa_cons pe_str (pa_cons pe_str (pa_cons pe_str (pa_cons pe_str (pa_cons pe_str (pa_cons pe_str pa_nil))))))))))))))
          (pss_one (ps_ret (pe_ix ix_list (pv 3) (C8.pe_c c_law_take hr (by omega) (by rfl) (pa_cons (pv 0) (pa_cons pe_int pa_nil))) (fun _ _ => rfl)))))
            pss_nil)
          (pss_cons (ps_setLc (i := 3) (own := [("_law_k", 4)]) (by exact rfl) sc__law_made.nd rfl rfl (sw_true rfl rfl rfl (by decide +kernel)) (pi_range1 rfl T.range (pa_cons (C8.pe_c c_law_take hr (by omega) (by rfl) (pa_cons (pv 0) (pa_cons pe_int pa_nil))) pa_nil)) (blkOk_by (own := [("_law_k", 4)]) (N := N__law_made) (sc := defScope s__law_made) (by decide +kernel)) (fun _ _ _ _ _ => (pg_name (i := 4) sc__law_made.nd rfl (Or.inl rfl))) (fun _ _ _ _ _ => pts_nil) (fun _ _ _ _ _ => (C8.pe_c c_law_made hr (by omega) (by rfl) (pa_cons (pv 0) (pa_cons (pe_op op_sub (pv 1) pe_int) pa_nil)))))
          (pss_one (ps_ret (pe_ix ix_list (pe_lst (pa_cons (pv 3) (pa_cons (pe_callTy call_tuple_of (by rfl) T.tuple (by decide +kernel) (pa_cons (pv 3) pa_nil)) (pa_cons (pe_lst (pa_cons (pv 3) (pa_cons pe_str pa_nil))) pa_nil)))) (pe_op op_sub (pv 2) pe_int) (fun _ _ => rfl))))))), ?_⟩
      have hm2 : m + (3 * cc n + 5) < 900000 := hm
      have c3 := cc3 n
      by_cases dz : 0 < deep
      · refine ⟨_, rfl, _, rfl, ⟨_, _, rfl, rfl, _, rfl, ifT (decide_eq_true dz) ?_⟩⟩
        refine ⟨a, 10, m, b, rfl, ha, hB, by omega, by decide, by decide, fun w1 b1 w10 w11 hB1 => ?_⟩
        by_cases wz : w1 < 7
        · refine ⟨_, rfl, _, _, rfl, rfl, _, rfl, ifT (decide_eq_true wz) ?_⟩
          refine ⟨_, rfl, a, 12, m + 1, b1, rfl, upd_same, hB1, by omega, by decide, by decide, fun r2 b2 r20 r21 hB2 => ⟨_, _, rfl, rfl, ⟨_, _, rfl, rfl, ⟨by decide, by decide, by decide⟩, by show 12 ≤ sizeLine; decide, fun l nl => ?_⟩⟩⟩
          have nla : l ≠ a := fun z => by
            rw [z, upd_same] at nl
            cases nl
          refine ⟨_, rfl, _, rfl, a, 12, m + 2, b2, rfl, by rw [upd_ne nla.symm, upd_same], hB2, by omega, by decide, by decide, fun r3 b3 r30 r31 hB3 => ?_⟩
          exact made_atom (n := n + 1) (b3 := b3) (by rw [upd_ne nla, upd_same]) (But.upd (But.new (But.upd (But.upd (But.refl a H))) nl)) upd_same r20 r21 r30 r31 hB3 (cc3 _) q
        · refine ⟨_, rfl, _, _, rfl, rfl, _, rfl, ifF (decide_eq_false wz) ?_⟩
          refine ⟨_, rfl, a, 4, m + 1, b1, rfl, upd_same, hB1, by omega, by decide, by decide, fun r4 b2 r40 r41 hB2 => ⟨r4, rfl, by omega, by omega, fun D nD => ?_⟩⟩
          have haZ : (upd (upd H a (.lst b1)) a (.lst b2)) a = some (.lst b2) := upd_same
          have btZ : But a H (upd (upd H a (.lst b1)) a (.lst b2)) := But.upd (But.upd (But.refl a H))
          obtain ⟨Z, eZ⟩ : ∃ Z, Z = upd (upd H a (.lst b1)) a (.lst b2) := ⟨_, rfl⟩
          rw [← eZ] at nD haZ btZ ⊢
          have nDa : D ≠ a := fun z => by
            rw [z, haZ] at nD
            cases nD
          have nDH : H D = none := But.free btZ haZ nD
          refine lc_range (lo := 0) (n := r4.toNat) (fun j H' => But a Z H' ∧ (∃ b', H' a = some (.lst b') ∧ BoxL (m + 2 + j * cc n) b') ∧ ∃ vs ds, H' D = some (.lst vs) ∧ vs.length = j ∧ DpAll K (Nw (upd Z D (.lst [])) H') vs ds ∧ ∀ d ∈ ds, Gd n d)
            ⟨But.of (same_upd nD), ⟨b2, by rw [upd_ne nDa.symm]; exact haZ, by rw [Nat.zero_mul]; exact hB2⟩, [], [], upd_same, rfl, .nil, fun d hd => nomatch hd⟩ ?_ ?_
          · rintro j H4 hj ⟨bt4, ⟨b4, hb4, hB4⟩, vs, ds, hD4, hlen, hdp4, hgd⟩
            have hj3 : j < 3 := by omega
            have hjm : j * cc n ≤ 2 * cc n := Nat.mul_le_mul_right _ (by omega)
            refine ⟨rfl, yesT ?_⟩
            refine ⟨_, rfl, _, rfl, ⟨_, _, rfl, rfl, ?_⟩⟩
            refine ⟨a, deep - 1, _, b4, rfl, by omega, hb4, hB4, by omega, fun H5 v d b5 bt5 hb5 hB5 hv gv => ?_⟩
            have hD5 : H5 D = some (.lst vs) := bt5 _ _ nDa hD4
            refine ⟨vs, hD5, by rw [hlen]; exact small1000 (by omega), ?_, ⟨b5, by rw [upd_ne nDa.symm]; exact hb5, ?_⟩, vs ++ [v], ds ++ [d], upd_same, by rw [List.length_append, hlen]; rfl, ?_, ?_⟩
            · refine fun c o nc hc => ?_
              have nD2 : c ≠ D := ne_of_none hc nD
              rw [upd_ne nD2]
              exact bt5 _ _ nc (bt4 _ _ nc hc)
            · rw [Nat.add_mul, Nat.one_mul, ← Nat.add_assoc]
              exact hB5
            · refine dpAll_snoc (dpAll_same (fun c o e => ?_) hdp4) (dp_same (fun c o e => ?_) hv)
              · obtain ⟨e1, e2⟩ := Nw.get e
                have nc : c ≠ D := fun z => by
                  rw [z, upd_same] at e1
                  cases e1
                have nca : c ≠ a := fun z => by
                  rw [z, upd_ne nDa.symm, haZ] at e1
                  cases e1
                exact Nw.mk e1 (by rw [upd_ne nc]; exact bt5 _ _ nca e2)
              · obtain ⟨e1, e2⟩ := Nw.get e
                have nc : c ≠ D := fun z => by
                  rw [z, hD4] at e1
                  cases e1
                exact Nw.mk (by rw [upd_ne nc]; exact But.free bt4 hb4 e1) (by rw [upd_ne nc]; exact e2)
            · intro e he
              rcases List.mem_append.mp he with z | z
              · exact hgd e z
              · rw [List.mem_singleton.mp z]
                exact gv
          · rintro H4 ⟨bt4, ⟨b4, hb4, hB4⟩, vs, ds, hD4, hlen, hdp4, hgd⟩
            have hld : ds.length ≤ 3 := by
              have := dpAll_len hdp4
              omega
            have hlv : vs.length ≤ sizeLine := Nat.le_of_lt (small1000 (by omega))
            have hjm : r4.toNat * cc n ≤ 3 * cc n := Nat.mul_le_mul_right _ (by omega)
            have hB6 : BoxL (m + cc (n + 1)) b4 := hB4.mono (show m + 2 + r4.toNat * cc n ≤ m + (3 * cc n + 5) by omega)
            refine ⟨_, rfl, _, rfl, D, vs, rfl, .inl ⟨SqL.of hD4, fun t nt => ?_⟩⟩
            refine ⟨_, rfl, by show 2 ≤ sizeLine; decide, fun l2 n2 => ?_⟩
            refine ⟨by show 3 ≤ sizeLine; decide, fun l3 n3 => ?_⟩
            have k1 := same_upd (o := .tup vs) nt
            have k2 := same_upd (o := .lst [.ref D, .str "plus"]) n2
            have k3 := same_upd (o := .lst [.ref D, .ref t, .ref l2]) n3
            have kk := (k1.trans k2).trans k3
            have btF := (btZ.trans bt4).trans (But.of kk)
            have hat := k3 _ _ (k2 _ _ (upd_same (H := H4) (a := t) (o := .tup vs)))
            have hal := k3 _ _ (upd_same (H := upd H4 t (.tup vs)) (a := l2) (o := .lst [.ref D, .str "plus"]))
            have haD := kk _ _ hD4
            have hba := kk _ _ hb4
            have f1 : H t = none := But.free (btZ.trans bt4) hb4 nt
            have f2 : H l2 = none := But.free (btZ.trans (bt4.trans (But.of k1))) (k1 _ _ hb4) n2
            have hq3 := upd_same (H := upd (upd H4 t (.tup vs)) l2 (.lst [.ref D, .str "plus"])) (a := l3) (o := .lst [.ref D, .ref t, .ref l2])
            obtain ⟨Y, eY⟩ : ∃ Y, Y = upd (upd (upd H4 t (.tup vs)) l2 (.lst [.ref D, .str "plus"])) l3 (.lst [.ref D, .ref t, .ref l2]) := ⟨_, rfl⟩
            rw [← eY] at kk btF hat hal haD hba hq3 ⊢
            have dAll : DpAll K (Nw H Y) vs ds := dpAll_same (fun c o e => by
              obtain ⟨e1, e2⟩ := Nw.get e
              have nc : c ≠ D := fun z => by
                rw [z, upd_same] at e1
                cases e1
              rw [upd_ne nc] at e1
              exact Nw.mk (But.free btZ haZ e1) (kk _ _ e2)) hdp4
            have dL : Dp K (Nw H Y) (.ref D) (.list ds) := .lst (SqL.of (Nw.mk nDH haD)) dAll
            have hc : w1 = 7 ∨ w1 = 8 ∨ w1 = 9 := by omega
            rcases hc with rfl | rfl | rfl
            · exact ⟨_, rfl, _, _, rfl, rfl, l3, _, _, _, rfl, rfl, SqL.of hq3, atI_nat (j := 0) rfl, q Y _ _ b4 btF hba hB6 dL (Gd.lst hld hgd)⟩
            · exact ⟨_, rfl, _, _, rfl, rfl, l3, _, _, _, rfl, rfl, SqL.of hq3, atI_nat (j := 1) rfl, q Y _ (.tuple ds) b4 btF hba hB6 (.tup (SqT.of (Nw.mk f1 hat)) dAll) (Gd.tup hld hgd)⟩
            · exact ⟨_, rfl, _, _, rfl, rfl, l3, _, _, _, rfl, rfl, SqL.of hq3, atI_nat (j := 2) rfl, q Y _ (.list [.list ds, .str "plus"]) b4 btF hba hB6 (.lst (SqL.of (Nw.mk f2 hal)) (.cons dL (.cons (.str _) .nil))) (Gd.lst2 hld hgd)⟩
      · refine ⟨_, rfl, _, rfl, ⟨_, _, rfl, rfl, _, rfl, ifF (decide_eq_false dz) ?_⟩⟩
        refine ⟨a, 7, m, b, rfl, ha, hB, by omega, by decide, by decide, fun w1 b1 w10 w11 hB1 => ?_⟩
        refine ⟨_, rfl, _, _, rfl, rfl, _, rfl, ifT (decide_eq_true (by omega)) ?_⟩
        refine ⟨_, rfl, a, 12, m + 1, b1, rfl, upd_same, hB1, by omega, by decide, by decide, fun r2 b2 r20 r21 hB2 => ⟨_, _, rfl, rfl, ⟨_, _, rfl, rfl, ⟨by decide, by decide, by decide⟩, by show 12 ≤ sizeLine; decide, fun l nl => ?_⟩⟩⟩
        have nla : l ≠ a := fun z => by
          rw [z, upd_same] at nl
          cases nl
        refine ⟨_, rfl, _, rfl, a, 12, m + 2, b2, rfl, by rw [upd_ne nla.symm, upd_same], hB2, by omega, by decide, by decide, fun r3 b3 r30 r31 hB3 => ?_⟩
        exact made_atom (n := n + 1) (b3 := b3) (by rw [upd_ne nla, upd_same]) (But.upd (But.new (But.upd (But.upd (But.refl a H))) nl)) upd_same r20 r21 r30 r31 hB3 (cc3 _) q
end
abbrev s__law_within : Stmt := top 8
abbrev N__law_within : List Str := ["_law_odd", "_law_deep", "_law_turn"]
abbrev P__law_within : List Str := ["_law_odd", "_law_deep"]
theorem sc__law_within : FnScope N__law_within P__law_within (defScope s__law_within) := ⟨rfl, rfl, rfl, by decide +kernel, rfl, by decide +kernel, by decide +kernel⟩
abbrev s_law : Stmt := top 11
abbrev N_law : List Str := ["_law_script", "_law_cells", "_law_fixed", "_law_k", "_law_box", "_law_turn", "_law_odd"]
abbrev P_law : List Str := ["_law_script"]
theorem sc_law : FnScope N_law P_law (defScope s_law) := ⟨rfl, rfl, rfl, by decide +kernel, rfl, by decide +kernel, by decide +kernel⟩
def wrapD : Nat → PyData → PyData
  | 0, d => d
  | n + 1, d => if n % 2 = 0 then .list [wrapD n d] else .tuple [wrapD n d]
/-- data whose text can be told -/
structure Tl (d : PyData) : Prop where
  sh : d.showable = true
  nd : d.hasDict = false
  dp : d.depth ≤ 100
  ln : d.shown.length ≤ sizeLine
theorem wrap_all (d : PyData) (h1 : d.showable = true) (h2 : d.hasDict = false) (h3 : d.depth ≤ 1) (h4 : d.shown.length ≤ 20) : ∀ n, (wrapD n d).showable = true ∧ (wrapD n d).hasDict = false ∧ (wrapD n d).depth ≤ n + 1 ∧ (wrapD n d).shown.length ≤ 20 + 5 * n
  | 0 => ⟨h1, h2, h3, h4⟩
  | n + 1 => by
    obtain ⟨g1, g2, g3, g4⟩ := wrap_all d h1 h2 h3 h4 n
    by_cases e : n % 2 = 0
    · rw [show wrapD (n + 1) d = .list [wrapD n d] from if_pos e]
      refine ⟨by simpa [PyData.showable, PyData.showableAll] using g1, by simpa [PyData.hasDict, PyData.hasDictAll] using g2, ?_, ?_⟩
      · show max (PyData.depth (wrapD n d)) 0 + 1 ≤ n + 1 + 1
        omega
      · have := listText_le [PyData.shown (wrapD n d)]
        rw [piled_cons, piled_nil] at this
        show (listText [PyData.shown (wrapD n d)]).length ≤ _
        omega
    · rw [show wrapD (n + 1) d = .tuple [wrapD n d] from if_neg e]
      refine ⟨by simpa [PyData.showable, PyData.showableAll] using g1, by simpa [PyData.hasDict, PyData.hasDictAll] using g2, ?_, ?_⟩
      · show max (PyData.depth (wrapD n d)) 0 + 1 ≤ n + 1 + 1
        omega
      · have := tupleText_le [PyData.shown (wrapD n d)]
        rw [piled_cons, piled_nil] at this
        show (tupleText [PyData.shown (wrapD n d)]).length ≤ _
        omega
theorem wrap_tl {d : PyData} (h1 : d.showable = true) (h2 : d.hasDict = false) (h3 : d.depth ≤ 1) (h4 : d.shown.length ≤ 20) {n : Nat} (hn : n ≤ 90) : Tl (wrapD n d) := by
  obtain ⟨g1, g2, g3, g4⟩ := wrap_all d h1 h2 h3 h4 n
  exact ⟨g1, g2, by omega, Nat.le_trans g4 (Nat.le_trans (show 20 + 5 * n ≤ 1000 by omega) (by decide))⟩
theorem tl_of {n : Nat} {d : PyData} (h : Gd n d) (hn : n ≤ 4) : Tl d := by
  have g : gl n ≤ 10000 := by
    have hc : n = 0 ∨ n = 1 ∨ n = 2 ∨ n = 3 ∨ n = 4 := by omega
    rcases hc with rfl | rfl | rfl | rfl | rfl <;> decide
  have := h.dp
  have := h.ln
  exact ⟨h.sh, h.nd, by omega, Nat.le_trans (show d.shown.length ≤ 10000 by omega) (by decide)⟩
def tlB (d : PyData) : Bool := d.showable && !d.hasDict && decide (d.depth ≤ 100) && decide (d.shown.length ≤ 1000)
theorem tl_by {d : PyData} (h : tlB d = true) : Tl d := by
  unfold tlB at h
  simp only [Bool.and_eq_true, Bool.not_eq_true', decide_eq_true_eq] at h
  exact ⟨h.1.1.1, h.1.1.2, h.1.2, Nat.le_trans h.2 (by decide)⟩
def spWithin (K : PySem.W.Frag) : Sp := fun vs H Q _ => ∃ (v : V) (n : Nat) (d : PyData), vs = [v, .int n] ∧ n ≤ 90 ∧ Dp K H v d ∧ ∀ H' v', Same H H' → Dp K H' v' (wrapD n d) → Q v' H'
def spLaw (K : PySem.W.Frag) : Sp := fun vs H Q _ => ∃ (a : Addr) (ns : List Int), vs = [.ref a] ∧ SqL K H a (ns.map V.int) ∧ ns.length ≤ 63 ∧ ∀ H', Q (.bl true) H'
structure Lw (mg : Str → Option Value) : Prop where
  range : mg "range" = none
  all : mg "all" = none
  len : mg "len" = none
theorem allTrue (n : Nat) : (List.replicate n true).all id = true := by
  rw [List.all_eq_true]
  intro x hx
  rw [List.eq_of_mem_replicate hx]
  rfl
theorem dpAll_app {K : PySem.W.Frag} {H : Hp} : ∀ {vs ws : List V} {ds es : List PyData}, DpAll K H vs ds → DpAll K H ws es → DpAll K H (vs ++ ws) (ds ++ es)
  | _, _, _, _, .nil, h => h
  | _, _, _, _, .cons h a, k => .cons h (dpAll_app a k)
theorem fixed_tl : ∀ d ∈ [.int 0, .int 1, .int (-1), .int 2, .bool true, .bool false, .none, .str "", .tuple [], .list [], .str "copy", .list [.str "copy"], .tuple [.str "copy"], .tuple [.str "plus", .int 2], .str "copy ", .str " copy"] ++ [wrapD 79 (.str "most"), wrapD 78 (.tuple []), .list [.list [.str "same"], .str "same"], .str "\n", .str "over\n", .int (10 ^ (40 : Int).toNat)], Tl d := by
  intro d hd
  rcases List.mem_append.mp hd with h | h
  · have hh : ([.int 0, .int 1, .int (-1), .int 2, .bool true, .bool false, .none, .str "", .tuple [], .list [], .str "copy", .list [.str "copy"], .tuple [.str "copy"], .tuple [.str "plus", .int 2], .str "copy ", .str " copy"]).all tlB = true := by decide +kernel
    exact tl_by (List.all_eq_true.mp hh d h)
  · simp only [List.mem_cons, List.not_mem_nil, or_false] at h
    rcases h with rfl | rfl | rfl | rfl | rfl | rfl
    · exact wrap_tl (by decide +kernel) (by decide +kernel) (by decide +kernel) (by decide +kernel) (by decide)
    · exact wrap_tl (by decide +kernel) (by decide +kernel) (by decide +kernel) (by decide +kernel) (by decide)
    · exact tl_by (by decide +kernel)
    · exact tl_by (by decide +kernel)
    · exact tl_by (by decide +kernel)
    · exact tl_by (by decide +kernel)
section
variable {P : Program} {w : World} {K : PySem.W.Frag} {mg : Str → Option Value} {base : Heap}
theorem ok_within (T : Lw mg) (D : Dd K mg "_law_within" s__law_within P__law_within) : C8.Cal P w K mg base 1 "_law_within" (spWithin K) [] := by
  refine D.cal sc__law_within (fun vs H Q E h => ?_) (fun f cdv A outer s H vs Q E hr h => ?_)
  · obtain ⟨v, n, d, rfl, _⟩ := h
    rfl
  · obtain ⟨v, n, d, rfl, hn, hd, q⟩ := h
    refine ⟨_, (pss_cons (ps_for PassesOwn.never rfl (pi_range1 rfl T.range (pa_cons (pv 1) pa_nil)) (pg_name (i := 2) sc__law_within.nd rfl (Or.inl rfl))
          (pss_one (ps_set (i := 0) sc__law_within.nd rfl (Or.inl rfl) (pe_ifExp (pt_cmpR op_eq (pe_op op_mod (pv 2) pe_int) pe_int (nomark _)) (pe_lst (pa_cons (pv 0) pa_nil)) (pe_tup (pa_cons (pv 0) pa_nil))))))
        (pss_one (ps_ret (pv 0)))), ?_⟩
    refine ⟨_, rfl, _, rfl, by omega, by omega, ?_⟩
    refine for_range (lo := 0) (fun i σ H2 => ∃ y x2, σ = [some y, some (.int n), x2] ∧ Same H H2 ∧ Dp K H2 y (wrapD i d)) ⟨v, none, rfl, Same.refl _, hd⟩ ?_ ?_
    · rintro i σ H2 hi ⟨y, x2, rfl, s2, hy⟩
      rw [Int.zero_add]
      refine ⟨_, rfl, _, _, rfl, rfl, (by show (0 : Int) < 2; decide), rfl, _, rfl, ?_⟩
      by_cases e : i % 2 = 0
      · refine ifT (decide_eq_true (show V.int ((i : Int) % 2) = V.int 0 from congrArg V.int (by omega))) ⟨_, rfl, by show 1 ≤ sizeLine; decide, fun p np => ?_⟩
        refine ⟨_, _, rfl, s2.trans (same_upd np), ?_⟩
        rw [show wrapD (i + 1) d = .list [wrapD i d] from if_pos e]
        exact .lst (SqL.of upd_same) (.cons (dp_same (same_upd np) hy) .nil)
      · refine ifF (decide_eq_false (fun z => ?_)) ⟨_, rfl, by show 1 ≤ sizeLine; decide, fun p np => ?_⟩
        · have z2 : (i : Int) % 2 = 0 := V.int.inj z
          omega
        · refine ⟨_, _, rfl, s2.trans (same_upd np), ?_⟩
          rw [show wrapD (i + 1) d = .tuple [wrapD i d] from if_neg e]
          exact .tup (SqT.of upd_same) (.cons (dp_same (same_upd np) hy) .nil)
    · rintro σ H2 ⟨y, x2, rfl, s2, hy⟩
      exact ⟨_, rfl, q _ _ s2 hy⟩
theorem ok_law4 (T : Lw mg) (c_law_folded : C8.Cal P w K mg base 1 "_law_folded" (spFold K) []) (c_law_dip : C8.Cal P w K mg base 1 "_law_dip" (spDip K) []) (c_law_take : C8.Cal P w K mg base 1 "_law_take" spTake [])
    (c_law_made : C8.Cal P w K mg base 6 "_law_made" (spMade4 K 4) []) (c_law_within : C8.Cal P w K mg base 1 "_law_within" (spWithin K) []) (c_law_right : CalG P w K mg base 2 "_law_right" (spRight4 K))
    {f : Addr} {fd : FuncData} (F : L2.Fun K "law" "law" s_law f fd) : FnG P w K mg base 7 f fd ["_law_script"] (spLaw K) := by
  refine fng_of F sc_law (fun vs H Q E h => ?_) (fun cdv A outer s H vs Q E hg hr h => ?_)
  · obtain ⟨a, ns, rfl, _⟩ := h
    rfl
  · obtain ⟨a, ns, rfl, hS, hlen, q⟩ := h
    refine ⟨_, (pss_cons (ps_set (i := 1) sc_law.nd rfl (Or.inl rfl) (C8.pe_c c_law_folded hr (by decide) (by rfl) (pa_cons (pv 0) (pa_cons pe_int pa_nil))))
        (pss_cons (ps_set (i := 2) sc_law.nd rfl (Or.inl rfl) (pe_lst (pa_cons pe_int (pa_cons pe_int (pa_cons (pe_un un_neg pe_int) (pa_cons pe_int (pa_cons pe_bl (pa_cons pe_bl (pa_cons pe_non (pa_cons pe_str (pa_cons (pe_tup pa_nil) (pa_cons (pe_lst pa_nil) (pa_cons pe_str (pa_cons (pe_lst (pa_cons pe_str pa_nil)) (pa_cons (pe_tup (pa_cons pe_str pa_nil)) (pa_cons (pe_tup (pa_cons pe_str (pa_cons pe_int pa_nil))) (pa_cons pe_str (pa_cons pe_str pa_nil))))))))))))))))))
        (pss_cons (ps_set (i := 2) sc_law.nd rfl (Or.inl rfl) (pe_op op_cat (pv 2) (pe_lst (pa_cons (C8.pe_c c_law_within hr (by decide) (by rfl) (pa_cons pe_str (pa_cons pe_int pa_nil))) (pa_cons (C8.pe_c c_law_within hr (by decide) (by rfl) (pa_cons (pe_tup pa_nil) (pa_cons pe_int pa_nil))) (pa_cons (pe_lst (pa_cons (pe_lst (pa_cons pe_str pa_nil)) (pa_cons pe_str pa_nil))) (pa_cons pe_str (pa_cons pe_str (pa_cons (pe_op op_pow pe_int pe_int) pa_nil)))))))))
        (pss_cons (ps_if (pt_not (pt_val (pe_callB (cr_all rfl) (by rfl) T.all (by decide +kernel) (pa_cons (pe_lc (own := [("_law_odd", 6)]) (by exact rfl) sc_law.nd (pi_list (pv 2)) (blkOk_by (own := [("_law_odd", 6)]) (N := N_law) (sc := defScope s_law) (by decide +kernel)) (fun _ _ _ _ _ => (pg_name (i := 6) sc_law.nd rfl (Or.inl rfl))) (fun _ _ _ _ _ => pts_nil) (fun _ _ _ _ _ => (pe_cG c_law_right hg hr (by decide) (by rfl) (pa_cons (pv 6) pa_nil)))) pa_nil))))
          (pss_one (ps_ret pe_bl))
          pss_nil)
        (pss_cons (ps_for PassesOwn.never rfl (pi_range1 rfl T.range (pa_cons (pe_op op_add pe_int (pe_callB call_len_seq (by rfl) T.len PySem.boot_len (pa_cons (pv 1) pa_nil))) pa_nil)) (pg_name (i := 3) sc_law.nd rfl (Or.inl rfl))
          (pss_cons (ps_set (i := 4) sc_law.nd rfl (Or.inl rfl) (C8.pe_c c_law_dip hr (by decide) (by rfl) (pa_cons (pv 1) (pa_cons (pv 3) pa_nil))))
        (pss_one (ps_for PassesOwn.never rfl (pi_range1 rfl T.range (pa_cons pe_int pa_nil)) (pg_name (i := 5) sc_law.nd rfl (Or.inl rfl))
          (pss_one (ps_if (pt_not (pt_val (pe_cG c_law_right hg hr (by decide) (by rfl) (pa_cons (C8.pe_c c_law_made hr (by decide) (by rfl) (pa_cons (pv 4) (pa_cons (pe_op op_add pe_int (C8.pe_c c_law_take hr (by decide) (by rfl) (pa_cons (pv 4) (pa_cons pe_int pa_nil)))) pa_nil))) pa_nil))))
          (pss_one (ps_ret pe_bl))
          pss_nil))))))
        (pss_one (ps_ret pe_bl))))))), ?_⟩
    refine ⟨_, rfl, a, 4, ns, rfl, hS, hlen, by decide, by decide, fun H0 cp ms s1 ncp hcp hml => ?_⟩
    refine ⟨_, rfl, by show 0 ≤ sizeLine; decide, fun t1 n1 => ⟨by show 0 ≤ sizeLine; decide, fun l1 m1 => ⟨by show 1 ≤ sizeLine; decide, fun l2 m2 => ⟨by show 1 ≤ sizeLine; decide, fun t2 n2 => ⟨by show 2 ≤ sizeLine; decide, fun t3 n3 => ⟨by show 16 ≤ sizeLine; decide, fun f1 g1 => ?_⟩⟩⟩⟩⟩⟩
    have a1 := same_upd (o := .tup []) n1
    have a2 := same_upd (o := .lst []) m1
    have a3 := same_upd (o := .lst [.str "copy"]) m2
    have a4 := same_upd (o := .tup [.str "copy"]) n2
    have a5 := same_upd (o := .tup [.str "plus", .int 2]) n3
    have a6 := same_upd (o := .lst [.int 0, .int 1, .int (-1), .int 2, .bl true, .bl false, .non, .str "", .ref t1, .ref l1, .str "copy", .ref l2, .ref t2, .ref t3, .str "copy ", .str " copy"]) g1
    have d6 : DpAll K _ [.int 0, .int 1, .int (-1), .int 2, .bl true, .bl false, .non, .str "", .ref t1, .ref l1, .str "copy", .ref l2, .ref t2, .ref t3, .str "copy ", .str " copy"]
        [.int 0, .int 1, .int (-1), .int 2, .bool true, .bool false, .none, .str "", .tuple [], .list [], .str "copy", .list [.str "copy"], .tuple [.str "copy"], .tuple [.str "plus", .int 2], .str "copy ", .str " copy"] :=
      .cons (.int _) (.cons (.int _) (.cons (.int _) (.cons (.int _) (.cons (.bl _) (.cons (.bl _) (.cons .non (.cons (.str _) (.cons (.tup (SqT.of (a6 _ _ (a5 _ _ (a4 _ _ (a3 _ _ (a2 _ _ upd_same)))))) .nil) (.cons (.lst (SqL.of (a6 _ _ (a5 _ _ (a4 _ _ (a3 _ _ upd_same))))) .nil) (.cons (.str _)
        (.cons (.lst (SqL.of (a6 _ _ (a5 _ _ (a4 _ _ upd_same)))) (.cons (.str _) .nil)) (.cons (.tup (SqT.of (a6 _ _ (a5 _ _ upd_same))) (.cons (.str _) .nil)) (.cons (.tup (SqT.of (a6 _ _ upd_same)) (.cons (.str _) (.cons (.int _) .nil))) (.cons (.str _) (.cons (.str _) .nil)))))))))))))))
    have hf1 := upd_same (H := upd (upd (upd (upd (upd H0 t1 (.tup [])) l1 (.lst [])) l2 (.lst [.str "copy"])) t2 (.tup [.str "copy"])) t3 (.tup [.str "plus", .int 2])) (a := f1) (o := .lst [.int 0, .int 1, .int (-1), .int 2, .bl true, .bl false, .non, .str "", .ref t1, .ref l1, .str "copy", .ref l2, .ref t2, .ref t3, .str "copy ", .str " copy"])
    have hcp1 := a6 _ _ (a5 _ _ (a4 _ _ (a3 _ _ (a2 _ _ (a1 _ _ hcp)))))
    obtain ⟨H1, e1⟩ : ∃ H1, H1 = upd (upd (upd (upd (upd (upd H0 t1 (.tup [])) l1 (.lst [])) l2 (.lst [.str "copy"])) t2 (.tup [.str "copy"])) t3 (.tup [.str "plus", .int 2])) f1 (.lst [.int 0, .int 1, .int (-1), .int 2, .bl true, .bl false, .non, .str "", .ref t1, .ref l1, .str "copy", .ref l2, .ref t2, .ref t3, .str "copy ", .str " copy"]) := ⟨_, rfl⟩
    rw [← e1] at d6 hf1 hcp1 ⊢
    clear a1 a2 a3 a4 a5 a6 e1
    refine ⟨_, rfl, .str "most", 79, .str "most", rfl, by decide, .str _, fun H2 v1 s2 dv1 => ?_⟩
    refine ⟨by show 0 ≤ sizeLine; decide, fun t4 n4 => ⟨.ref t4, 78, .tuple [], rfl, by decide, .tup (SqT.of upd_same) .nil, fun H3 v2 s3 dv2 => ?_⟩⟩
    refine ⟨by show 1 ≤ sizeLine; decide, fun l3 m3 => ⟨by show 2 ≤ sizeLine; decide, fun l4 m4 => ⟨_, _, rfl, rfl, ⟨by decide, by decide, by decide⟩, by show 6 ≤ sizeLine; decide, fun f2 g2 => ?_⟩⟩⟩
    have c1 := same_upd (o := .lst [.str "same"]) m3
    have c2 := same_upd (o := .lst [.ref l3, .str "same"]) m4
    have c3 := same_upd (o := .lst [v1, v2, .ref l4, .str "\n", .str "over\n", .int (10 ^ (40 : Int).toNat)]) g2
    have s23 := s2.trans ((same_upd n4).trans s3)
    have s13 := s23.trans ((c1.trans c2).trans c3)
    refine ⟨f1, f2, _, _, rfl, rfl, s13 _ _ hf1, upd_same, by show 22 ≤ sizeLine; decide, fun fx gx => ?_⟩
    have c4 := same_upd (o := .lst ([.int 0, .int 1, .int (-1), .int 2, .bl true, .bl false, .non, .str "", .ref t1, .ref l1, .str "copy", .ref l2, .ref t2, .ref t3, .str "copy ", .str " copy"] ++ [v1, v2, .ref l4, .str "\n", .str "over\n", .int (10 ^ (40 : Int).toNat)])) gx
    have hfx := upd_same (a := fx) (o := .lst ([.int 0, .int 1, .int (-1), .int 2, .bl true, .bl false, .non, .str "", .ref t1, .ref l1, .str "copy", .ref l2, .ref t2, .ref t3, .str "copy ", .str " copy"] ++ [v1, v2, .ref l4, .str "\n", .str "over\n", .int (10 ^ (40 : Int).toNat)])) (H := upd (upd (upd H3 l3 (.lst [.str "same"])) l4 (.lst [.ref l3, .str "same"])) f2 (.lst [v1, v2, .ref l4, .str "\n", .str "over\n", .int (10 ^ (40 : Int).toNat)]))
    have dAll : DpAll K (upd (upd (upd (upd H3 l3 (.lst [.str "same"])) l4 (.lst [.ref l3, .str "same"])) f2 (.lst [v1, v2, .ref l4, .str "\n", .str "over\n", .int (10 ^ (40 : Int).toNat)])) fx (.lst ([.int 0, .int 1, .int (-1), .int 2, .bl true, .bl false, .non, .str "", .ref t1, .ref l1, .str "copy", .ref l2, .ref t2, .ref t3, .str "copy ", .str " copy"] ++ [v1, v2, .ref l4, .str "\n", .str "over\n", .int (10 ^ (40 : Int).toNat)]))) ([.int 0, .int 1, .int (-1), .int 2, .bl true, .bl false, .non, .str "", .ref t1, .ref l1, .str "copy", .ref l2, .ref t2, .ref t3, .str "copy ", .str " copy"] ++ [v1, v2, .ref l4, .str "\n", .str "over\n", .int (10 ^ (40 : Int).toNat)]) ([.int 0, .int 1, .int (-1), .int 2, .bool true, .bool false, .none, .str "", .tuple [], .list [], .str "copy", .list [.str "copy"], .tuple [.str "copy"], .tuple [.str "plus", .int 2], .str "copy ", .str " copy"] ++ [wrapD 79 (.str "most"), wrapD 78 (.tuple []), .list [.list [.str "same"], .str "same"], .str "\n", .str "over\n", .int (10 ^ (40 : Int).toNat)]) :=
      dpAll_app (dpAll_same (s13.trans c4) d6) (.cons (dp_same ((((same_upd n4).trans s3).trans ((c1.trans c2).trans c3)).trans c4) dv1) (.cons (dp_same (((c1.trans c2).trans c3).trans c4) dv2) (.cons (.lst (SqL.of (c4 _ _ (c3 _ _ upd_same))) (.cons (.lst (SqL.of (c4 _ _ (c3 _ _ (c2 _ _ upd_same)))) (.cons (.str _) .nil)) (.cons (.str _) .nil))) (.cons (.str _) (.cons (.str _) (.cons (.int _) .nil))))))
    have hcp2 := c4 _ _ (s13 _ _ hcp1)
    obtain ⟨HF, eF⟩ : ∃ HF, HF = upd (upd (upd (upd H3 l3 (.lst [.str "same"])) l4 (.lst [.ref l3, .str "same"])) f2 (.lst [v1, v2, .ref l4, .str "\n", .str "over\n", .int (10 ^ (40 : Int).toNat)])) fx (.lst ([.int 0, .int 1, .int (-1), .int 2, .bl true, .bl false, .non, .str "", .ref t1, .ref l1, .str "copy", .ref l2, .ref t2, .ref t3, .str "copy ", .str " copy"] ++ [v1, v2, .ref l4, .str "\n", .str "over\n", .int (10 ^ (40 : Int).toNat)])) := ⟨_, rfl⟩
    rw [← eF] at hfx dAll hcp2 ⊢
    clear c1 c2 c3 c4 s13 eF
    refine ⟨_, rfl, fx, rfl, ⟨_, SqL.of hfx⟩, fun D nD => ?_⟩
    refine lc_list (K := K) (a := fx) (xs := [.int 0, .int 1, .int (-1), .int 2, .bl true, .bl false, .non, .str "", .ref t1, .ref l1, .str "copy", .ref l2, .ref t2, .ref t3, .str "copy ", .str " copy"] ++ [v1, v2, .ref l4, .str "\n", .str "over\n", .int (10 ^ (40 : Int).toNat)]) (fun i H' => Same HF H' ∧ H' D = some (.lst ((List.replicate i true).map V.bl))) ⟨same_upd nD, upd_same⟩ (fun i H' _ h => SqL.of (h.1 _ _ hfx)) ?_ ?_
    · rintro i x H' hx ⟨sm, hD⟩
      obtain ⟨d, hd1, hd2⟩ := dpAll_at dAll hx
      have hi : i < 22 := (List.getElem?_eq_some_iff.mp hx).1
      have tl := fixed_tl d (List.mem_of_getElem? hd1)
      refine ⟨rfl, yesT ?_⟩
      refine ⟨_, rfl, x, d, rfl, dp_same sm hd2, tl.sh, tl.nd, tl.dp, tl.ln, fun H5 s5 => ?_⟩
      refine ⟨_, s5 _ _ hD, by rw [List.length_map, List.length_replicate]; exact small1000 (by omega), Same.at_ (sm.trans s5) nD, ?_⟩
      rw [upd_same, List.replicate_succ', List.map_append]
      rfl
    rintro H6 ⟨s6, hD⟩
    refine ⟨D, _, rfl, SqL.of hD, _, rfl, iteF ?_⟩
    have hcp6 := s6 _ _ hcp2
    have hlm : ((ms.map V.int).length : Int) ≤ 4 := by
      rw [List.length_map]
      omega
    refine ⟨_, rfl, cp, _, rfl, .inl (SqL.of hcp6), _, _, rfl, rfl, _, rfl, by omega, by omega, ?_⟩
    refine for_range (lo := 0) (fun i σ H2 => ∃ y3 y4 y5, σ = [some (.ref a), some (.ref cp), some (.ref fx), y3, y4, y5, none] ∧ Same H6 H2) ⟨none, none, none, rfl, Same.refl _⟩ ?_ ?_
    · rintro i σ H7 hi ⟨y3, y4, y5, rfl, s7⟩
      rw [Int.zero_add]
      refine ⟨_, rfl, _, rfl, cp, i, ms, rfl, SqL.of (s7 _ _ hcp6), by omega, fun bx b nbx hB => ?_⟩
      have n0 := s7.free nbx
      refine ⟨30, rfl, by decide, by decide, for_range (lo := 0) (n := Int.toNat 30) (fun j σ H8 => ∃ y5 b', σ = [some (.ref a), some (.ref cp), some (.ref fx), some (.int i), some (.ref bx), y5, none] ∧ Same H6 H8 ∧ H8 bx = some (.lst b') ∧ BoxL (444 * j) b') ⟨y5, b, rfl, Same.new s7 nbx, upd_same, hB⟩ ?_ ?_⟩
      · rintro j σ H8 hj ⟨y5, b8, rfl, s8, hb8, hB8⟩
        have hj : j < 30 := hj
        refine ⟨_, rfl, _, rfl, bx, 4, 444 * j, b8, rfl, hb8, hB8, by omega, by decide, by decide, fun r b9 r0 r4 hB9 => ?_⟩
        refine ⟨_, _, rfl, rfl, ?_⟩
        refine ⟨bx, 1 + r, 444 * j + 1, b9, rfl, by omega, upd_same, hB9, (by show 444 * j + 1 + 443 < 900000; omega), fun H9 v d b10 bt hb10 hB10 hv gd => ?_⟩
        have tl := tl_of gd (by decide)
        refine ⟨v, d, rfl, dp_same Nw.sub hv, tl.sh, tl.nd, tl.dp, tl.ln, fun HA sA => ?_⟩
        refine ⟨_, rfl, iteF ?_⟩
        refine ⟨_, b10, rfl, (Same.but s8 n0 ((But.upd (But.refl bx H8)).trans bt)).trans sA, sA _ _ hb10, ?_⟩
        exact (show 444 * j + 1 + 443 = 444 * (j + 1) by omega) ▸ hB10
      · rintro σ H8 ⟨y5, b8, rfl, s8, _, _⟩
        exact ⟨_, _, _, rfl, s8⟩
    · rintro σ H7 ⟨y3, y4, y5, rfl, s7⟩
      exact q _
end
/-! ### from what the top has written -/
section
variable {w : World} {K : PySem.W.Frag} {h : Heap} {mg : Str → Option Value}
theorem fun_dd {x : Str} {st : Stmt} {ps : List Str} {f : Addr} {oc : Value} {od an : Option Addr} {osl : Array (Option Value)} {kV doc pm cdv ct : Value} (X : K.In h) (G : h.Ns mainGlobals mg) (a : PySem.W.nsIn K mainGlobals x = some (some (.ref f)))
    (l : K.lookup f = some ⟨oc, od, .func (PySem.W.fnOf x x (defArgs st) (defBody st) (defScope st) .none kV doc pm an cdv ct), osl⟩) (c : PySem.W.codeIn K cdv x = true) (k : PySem.W.keepIn K (.ref f) = true)
    (hb : ∀ (kV doc pm : Value) (an : Option Addr) (cdv ct : Value) (us : List Value), us.length = ps.length → bindArgs (PySem.W.fnOf x x (defArgs st) (defBody st) (defScope st) .none kV doc pm an cdv ct) ⟨us, []⟩ = pure (ps.zip us)) : Dd K mg x st ps :=
  ⟨f, _, fun_mk (st := st) l c k, PySem.W.mg_of X G a, (fun_mk (st := st) l c k).binds hb⟩
theorem fun_ddk {x kn : Str} {kv : V} {ku : Value} {st : Stmt} {f kd : Addr} {oc : Value} {od an : Option Addr} {osl : Array (Option Value)} {doc pm cdv ct : Value} (X : K.In h) (G : h.Ns mainGlobals mg) (a : PySem.W.nsIn K mainGlobals x = some (some (.ref f)))
    (l : K.lookup f = some ⟨oc, od, .func (PySem.W.fnOf x x (defArgs st) (defBody st) (defScope st) .none (.ref kd) doc pm an cdv ct), osl⟩) (c : PySem.W.codeIn K cdv x = true) (k : PySem.W.keepIn K (.ref f) = true)
    (d : PySem.W.nsIn K kd kn = some (some ku)) (r : RelV kv ku) : DdK K mg x st [(kn, kv)] :=
  ⟨f, _, ⟨⟨_, _, _, _, _, _, _, _, _, _, rfl, l, c, .inl ⟨rfl, rfl⟩, .inr ⟨kd, rfl, fun q hq => by
    rw [List.mem_singleton.mp hq]
    exact ⟨_, d, r⟩⟩⟩, k⟩, PySem.W.mg_of X G a⟩
theorem fun_ddp {x : Str} {st : Stmt} {ps : List Str} {f : Addr} {oc : Value} {od an : Option Addr} {osl : Array (Option Value)} {kV doc pm cdv ct : Value} (X : K.In h) (G : h.Ns mainGlobals mg) (a : PySem.W.nsIn K mainGlobals x = some (some (.ref f)))
    (l : K.lookup f = some ⟨oc, od, .func (PySem.W.fnOf x x (defArgs st) (defBody st) (defScope st) .none kV doc pm an cdv ct), osl⟩) (c : PySem.W.codeIn K cdv x = true) (k : PySem.W.keepIn K (.ref f) = true)
    (hb : ∀ (kV doc pm : Value) (an : Option Addr) (cdv ct : Value) (us : List Value), us.length = ps.length → bindArgs (PySem.W.fnOf x x (defArgs st) (defBody st) (defScope st) .none kV doc pm an cdv ct) ⟨us, []⟩ = pure (ps.zip us)) : DdP K mg x st ps :=
  ⟨f, _, fun_mk (st := st) l c k, ⟨⟨_, _, _, _, _, _, _, _, _, _, rfl, l, c, .inl ⟨rfl, rfl⟩, .inl rfl⟩, k⟩, PySem.W.mg_of X G a, (fun_mk (st := st) l c k).binds hb⟩
/-- a dict whose keys are the ops -/
def AllOp : List DictEntry → Prop
  | [] => True
  | e :: r => (∃ (o : Op) (t : Tok), e.key = .str o.w t) ∧ AllOp r
theorem AllOp.mem : ∀ {l : List DictEntry}, AllOp l → ∀ e ∈ l, ∃ (o : Op) (t : Tok), e.key = .str o.w t
  | _ :: _, ⟨h, _⟩, _, .head _ => h
  | _ :: _, ⟨_, r⟩, e, .tail _ m => r.mem e m
theorem parts_at {PD : Addr} {es : Array DictEntry} {n : Nat} (l : K.lookup PD = some ⟨.type "dict", none, .dict es n, #[]⟩) (kl : PySem.W.KeysLit w.params es.toList) (lo : (PD == sysModules) = false) (ko : AllOp es.toList)
    (ns : ∀ o : Op, ∃ t, PySem.W.nsIn K PD o.w = some (some (.int (o.n : Nat) t))) : PartsAt K w PD where
  kd := ⟨es, n, l, kl, lo⟩
  ops := fun o => by
    obtain ⟨t, e⟩ := ns o
    exact ⟨⟨es, n, _, l, kl, e, ⟨_, rfl⟩⟩, _, e⟩
  no := fun z hz => by
    have f1 : es.toList.find? (·.key.isStr z) = none := List.find?_eq_none.mpr fun e he => by
      obtain ⟨o, t, hk⟩ := ko.mem e he
      rw [hk, PySem.W.isStr_of]
      have ne := opOf_none hz o
      simp [Value.isStrOf, ne]
    have f2 : es.toList.any (·.refKey) = false := by
      rw [List.any_eq_false]
      intro e he
      obtain ⟨o, t, hk⟩ := ko.mem e he
      unfold DictEntry.refKey
      rw [hk]
      simp
    unfold PySem.W.nsIn
    rw [l]
    show (match es.toList.find? (·.key.isStr z) with
      | some e => some (some e.val)
      | none => if es.toList.any (·.refKey) then none else some none) = some none
    rw [f1, f2]
    rfl
theorem ops_of {PD : Addr} {t1 t2 t3 t4 t5 t6 t7 t8 t9 t10 t11 : Tok} (h1 : PySem.W.nsIn K PD "copy" = some (some (.int 1 t1))) (h2 : PySem.W.nsIn K PD "plus" = some (some (.int 2 t2))) (h3 : PySem.W.nsIn K PD "less" = some (some (.int 2 t3))) (h4 : PySem.W.nsIn K PD "times" = some (some (.int 2 t4))) (h5 : PySem.W.nsIn K PD "over" = some (some (.int 2 t5))) (h6 : PySem.W.nsIn K PD "rest" = some (some (.int 2 t6))) (h7 : PySem.W.nsIn K PD "least" = some (some (.int 2 t7))) (h8 : PySem.W.nsIn K PD "most" = some (some (.int 2 t8))) (h9 : PySem.W.nsIn K PD "same" = some (some (.int 2 t9))) (h10 : PySem.W.nsIn K PD "under" = some (some (.int 2 t10))) (h11 : PySem.W.nsIn K PD "pick" = some (some (.int 3 t11))) : ∀ o : Op, ∃ t, PySem.W.nsIn K PD o.w = some (some (.int (o.n : Nat) t)) := fun o => by
  cases o with
  | copy => exact ⟨_, h1⟩
  | plus => exact ⟨_, h2⟩
  | less => exact ⟨_, h3⟩
  | times => exact ⟨_, h4⟩
  | over => exact ⟨_, h5⟩
  | rest => exact ⟨_, h6⟩
  | least => exact ⟨_, h7⟩
  | most => exact ⟨_, h8⟩
  | same => exact ⟨_, h9⟩
  | under => exact ⟨_, h10⟩
  | pick => exact ⟨_, h11⟩
end
theorem all_mk {l : PySem.W.OpenLaw} {w : World} {K : PySem.W.Frag} {h : Heap} {mg : Str → Option Value} {fa PD f4 : Addr} (X : K.In h) (G : h.Ns mainGlobals mg) (hfa : mg "law" = some (.ref fa))
    (aP : PySem.W.nsIn K mainGlobals "PARTS" = some (some (.ref PD))) (PA : PartsAt K w PD)
    (z0 : PySem.W.nsIn K mainGlobals "len" = some none) (z1 : PySem.W.nsIn K mainGlobals "abs" = some none) (z2 : PySem.W.nsIn K mainGlobals "int" = some none) (z3 : PySem.W.nsIn K mainGlobals "list" = some none) (z4 : PySem.W.nsIn K mainGlobals "enumerate" = some none) (z5 : PySem.W.nsIn K mainGlobals "range" = some none) (z6 : PySem.W.nsIn K mainGlobals "isinstance" = some none) (z7 : PySem.W.nsIn K mainGlobals "str" = some none) (z8 : PySem.W.nsIn K mainGlobals "repr" = some none) (z9 : PySem.W.nsIn K mainGlobals "tuple" = some none) (z10 : PySem.W.nsIn K mainGlobals "all" = some none)
    (DI : DdP K mg "is_op" s_is_op P_is_op)
    (D0 : Dd K mg "_law_take" s__law_take P__law_take) (D1 : Dd K mg "_law_dip" s__law_dip P__law_dip) (D2 : Dd K mg "_law_folded" s__law_folded P__law_folded) (D3 : Dd K mg "_law_made" s__law_made P__law_made) (D4 : Dd K mg "_law_within" s__law_within P__law_within) (D5 : Dd K mg "_law_is_one" s__law_is_one P__law_is_one) (D6 : Dd K mg "_law_right" s__law_right P__law_right)
    {od4 an4 : Option Addr} {sl4 : Array (Option Value)} {oc4 kV4 dc4 pm4 cd4 ct4 : Value}
    (a4 : PySem.W.nsIn K mainGlobals "law" = some (some (.ref f4))) (l4 : K.lookup f4 = some ⟨oc4, od4, .func (PySem.W.fnOf "law" "law" (defArgs s_law) (defBody s_law) (defScope s_law) .none kV4 dc4 pm4 an4 cd4 ct4), sl4⟩) (c4 : PySem.W.codeIn K cd4 "law" = true) (k4 : PySem.W.keepIn K (.ref f4) = true) :
    ∃ fd : FuncData, (∀ (s : Shared) (v : Value), BindsTo s fd ⟨[v], []⟩ [("_law_script", v)]) ∧ ∀ base : Heap, K.In base → base.Ns mainGlobals mg → FnG l.prog w K mg base 7 fa fd ["_law_script"] (spLaw K) := by
  have e := hfa.symm.trans (PySem.W.mg_of X G a4)
  cases e
  have F4 := fun_mk (st := s_law) l4 c4 k4
  have m0 := PySem.W.mg_none_of X G z0
  have m1 := PySem.W.mg_none_of X G z1
  have m2 := PySem.W.mg_none_of X G z2
  have m3 := PySem.W.mg_none_of X G z3
  have m4 := PySem.W.mg_none_of X G z4
  have m5 := PySem.W.mg_none_of X G z5
  have m6 := PySem.W.mg_none_of X G z6
  have m7 := PySem.W.mg_none_of X G z7
  have m8 := PySem.W.mg_none_of X G z8
  have m9 := PySem.W.mg_none_of X G z9
  have m10 := PySem.W.mg_none_of X G z10
  have TB : Bt mg := ⟨m0, m1, m2, m3, m4, m5⟩
  have TP : Pt mg PD := ⟨PySem.W.mg_of X G aP, m6, m7⟩
  have TR : Rt4 mg := ⟨m6, m7, m8⟩
  have TM : Md mg := ⟨m5, m9⟩
  have TL : Lw mg := ⟨m5, m10, m0⟩
  refine ⟨PySem.W.fnOf "law" "law" (defArgs s_law) (defBody s_law) (defScope s_law) .none kV4 dc4 pm4 an4 cd4 ct4, fun s v => .of_eq rfl, fun base _ _ => ?_⟩
  have ct := ok_take (P := l.prog) (w := w) (base := base) D0
  exact ok_law4 TL (ok_folded TB D2) (ok_dip TB D1) ct (ok_made4 TM ct D3 4) (ok_within TL D4) (ok_right4 TR (ok_is_op TP PA DI) (ok_is_one TR D5) D6) F4
end Thr
open PySem PySem.W PyProof.Rows
set_option maxRecDepth 100000 in
set_option maxHeartbeats 0 in
theorem PySem.Challenge.cw_threereckons_k04_ops_of_any_make_holds : PySem.Challenge.rw_threereckons_k04_ops_of_any_make.Holds := by
  w_on; o_law; k_head; (case hw => w_witness2)
  k_fill
  refine Thr.walk_ofG (l := PySem.Challenge.rw_threereckons_k04_ops_of_any_make) (n := 63) (k := 7) (x := "_law_script") (sp := fun w => Thr.spLaw _) rfl (by decide) rfl ⟨rfl, by decide, by decide⟩ (fun w h Y => PySem.W.kIn_of Y) ?F (fun _ _ a ns hl _ hS => ⟨a, ns, rfl, hS, hl, fun _ => rfl⟩)
  case F =>
    intro w mg fa h KX G hmg
    refine' Thr.all_mk KX G hmg ?aP (Thr.parts_at ?lP ?kl ?lo ?ko (Thr.ops_of ?n1 ?n2 ?n3 ?n4 ?n5 ?n6 ?n7 ?n8 ?n9 ?n10 ?n11))
      ?z0 ?z1 ?z2 ?z3 ?z4 ?z5 ?z6 ?z7 ?z8 ?z9 ?z10 (Thr.fun_ddp KX G ?xi ?wi ?ui ?ti ?si)
      (Thr.fun_dd KX G ?x0 ?w0 ?u0 ?t0 ?s0)
      (Thr.fun_dd KX G ?x1 ?w1 ?u1 ?t1 ?s1)
      (Thr.fun_dd KX G ?x2 ?w2 ?u2 ?t2 ?s2)
      (Thr.fun_dd KX G ?x3 ?w3 ?u3 ?t3 ?s3)
      (Thr.fun_dd KX G ?x4 ?w4 ?u4 ?t4 ?s4)
      (Thr.fun_dd KX G ?x5 ?w5 ?u5 ?t5 ?s5)
      (Thr.fun_dd KX G ?x6 ?w6 ?u6 ?t6 ?s6)
      ?a4 ?l4 ?c4 ?k4
    (case aP => k_is)
    (case lP => k_is)
    (case kl => (repeat (first | exact trivial | refine ⟨⟨_, _, rfl, rfl⟩, ?_⟩)))
    (case lo => rfl)
    (case ko => exact ⟨⟨.copy, _, rfl⟩, ⟨.plus, _, rfl⟩, ⟨.less, _, rfl⟩, ⟨.times, _, rfl⟩, ⟨.over, _, rfl⟩, ⟨.rest, _, rfl⟩, ⟨.least, _, rfl⟩, ⟨.most, _, rfl⟩, ⟨.same, _, rfl⟩, ⟨.under, _, rfl⟩, ⟨.pick, _, rfl⟩, trivial⟩)
    (case n1 => k_is)
    (case n2 => k_is)
    (case n3 => k_is)
    (case n4 => k_is)
    (case n5 => k_is)
    (case n6 => k_is)
    (case n7 => k_is)
    (case n8 => k_is)
    (case n9 => k_is)
    (case n10 => k_is)
    (case n11 => k_is)
    (case z0 => k_is)
    (case z1 => k_is)
    (case z2 => k_is)
    (case z3 => k_is)
    (case z4 => k_is)
    (case z5 => k_is)
    (case z6 => k_is)
    (case z7 => k_is)
    (case z8 => k_is)
    (case z9 => k_is)
    (case z10 => k_is)
    (case xi => k_is)
    (case wi => k_is)
    (case ui => k_is)
    (case ti => k_is)
    (case si => exact fun _ _ _ _ _ _ us hl => match us, hl with | [_], _ => rfl)
    (case x0 => k_is)
    (case w0 => k_is)
    (case u0 => k_is)
    (case t0 => k_is)
    (case s0 => exact fun _ _ _ _ _ _ us hl => match us, hl with | [_, _], _ => rfl)
    (case x1 => k_is)
    (case w1 => k_is)
    (case u1 => k_is)
    (case t1 => k_is)
    (case s1 => exact fun _ _ _ _ _ _ us hl => match us, hl with | [_, _], _ => rfl)
    (case x2 => k_is)
    (case w2 => k_is)
    (case u2 => k_is)
    (case t2 => k_is)
    (case s2 => exact fun _ _ _ _ _ _ us hl => match us, hl with | [_, _], _ => rfl)
    (case x3 => k_is)
    (case w3 => k_is)
    (case u3 => k_is)
    (case t3 => k_is)
    (case s3 => exact fun _ _ _ _ _ _ us hl => match us, hl with | [_, _], _ => rfl)
    (case x4 => k_is)
    (case w4 => k_is)
    (case u4 => k_is)
    (case t4 => k_is)
    (case s4 => exact fun _ _ _ _ _ _ us hl => match us, hl with | [_, _], _ => rfl)
    (case x5 => k_is)
    (case w5 => k_is)
    (case u5 => k_is)
    (case t5 => k_is)
    (case s5 => exact fun _ _ _ _ _ _ us hl => match us, hl with | [_], _ => rfl)
    (case x6 => k_is)
    (case w6 => k_is)
    (case u6 => k_is)
    (case t6 => k_is)
    (case s6 => exact fun _ _ _ _ _ _ us hl => match us, hl with | [_], _ => rfl)
    (case a4 => k_is)
    (case l4 => k_is)
    (case c4 => k_is)
    (case k4 => k_is)
