import PyProof.Rows.All
import Wide.All
import OpenK.AllK
import Wide.FinOn
import HandS.ForMost
import HandS.Walk
import HandS.Codes
import HandS.IsInst
import HandS.Defaults
import HandS.Star
import HandS.Flow
import HandS.Style
import HandS.CallLocal
import HandS.More
import HandS.ForExc
import HandS.ExcInit
import HandS.ExcIs
import HandS.ExcField
import KE.KExcIs
import KE.KExcInit
import HandS.Zip
import HandS.DeepEq
import PyProof.Rows.NestShow
import HandS.TupAny
import HandS.RevRange
import HandS.Text
import PyProof.StrLawsRepr
import PySem.Challenge.RW_threereckons_k16_no_node_there
set_option Elab.async false
set_option linter.all false
set_option maxRecDepth 100000
set_option maxHeartbeats 4000000
namespace Thr
open PySem PySem.Spec PyProof.Rows L2
/-! ### heaps -/
theorem same_upd {H : Hp} {p : Addr} {o : HO} (h : H p = none) : Same H (upd H p o) := fun b x e => by
  rw [upd_ne (ne_of_none e h)]
  exact e
/-- all but what stands at a -/
def But (a : Addr) (H H' : Hp) : Prop := ∀ b o, b ≠ a → H b = some o → H' b = some o
theorem But.refl (a : Addr) (H : Hp) : But a H H := fun _ _ _ h => h
theorem But.trans {a : Addr} {H H1 H2 : Hp} (x : But a H H1) (y : But a H1 H2) : But a H H2 := fun b o n h => y b o n (x b o n h)
theorem But.of {a : Addr} {H H' : Hp} (s : Same H H') : But a H H' := fun b o _ h => s b o h
theorem But.upd {a : Addr} {H H' : Hp} {o : HO} (x : But a H H') : But a H (upd H' a o) := fun b u n h => by
  rw [upd_ne n]
  exact x b u n h
theorem But.new {a p : Addr} {H H' : Hp} {o : HO} (x : But a H H') (h : H' p = none) : But a H (L2.upd H' p o) := fun b u n e => by
  have e' := x b u n e
  rw [upd_ne (ne_of_none e' h)]
  exact e'
theorem But.seq {K : PySem.W.Frag} {H H' : Hp} {a b : Addr} {xs : List V} (e : But a H H') (n : b ≠ a) (h : SqL K H b xs) : SqL K H' b xs := by
  rcases h with (h | ⟨o, h⟩) | h
  · exact .inl (.inl (e _ _ n h))
  · exact .inl (.inr ⟨o, e _ _ n h⟩)
  · exact .inr h
/-! ### a def of the top, under its name -/
structure Dd (K : PySem.W.Frag) (mg : Str → Option Value) (x : Str) (st : Stmt) (ps : List Str) : Prop where
  ex : ∃ (f : Addr) (fd : FuncData), L2.Fun K x x st f fd ∧ mg x = some (.ref f) ∧ Binds K fd ps []
section
variable {P : Program} {w : World} {K : PySem.W.Frag} {mg : Str → Option Value} {base : Heap}
theorem Dd.cal {x : Str} {st : Stmt} {N ps : List Str} {k : Nat} {sp : Sp} (D : Dd K mg x st ps) (S : FnScope N ps (defScope st)) (len : ∀ vs H Q E, sp vs H Q E → vs.length = ps.length)
    (hbody : ∀ (f : Addr) (cdv : Value) (A : Around) (outer : List Env) (s : Shared) (H : Hp) (vs : List V) (Q : VK) (E : XK), Room k (A.deeper (envOfC x (defScope st) s.heap.objs.size f cdv)) → sp vs H Q E →
      ∃ t, PSs (cxOf CX0 P w K mg base N x (defScope st) f cdv A outer s H E).nox (defBody st) t ∧ t { nx := fun _ H' => Q .non H', rt := Q } (start N vs) H) : C8.Cal P w K mg base (k + 1) x sp [] := by
  obtain ⟨f, fd, F, g, b⟩ := D.ex
  exact ⟨f, fd, ps, [], F.ok S len (fun cdv A outer s H vs Q E hr h => hbody f cdv A outer s H vs Q E hr h), g, F.kp, b, .nil⟩
end
/-! ### what is drawn from -/
def BoxL (n : Nat) (b : List V) : Prop := ∃ b0 b1 b2 : Int, b = [.int b0, .int b1, .int b2] ∧ 0 ≤ b0 ∧ 0 ≤ b1 ∧ b1 < 4611686018427387904 ∧ 0 ≤ b2 ∧ b2 ≤ n
def spTake : Sp := fun vs H Q _ => ∃ (a : Addr) (many : Int) (n : Nat) (b : List V), vs = [.ref a, .int many] ∧ H a = some (.lst b) ∧ BoxL n b ∧ n < 1000000 ∧ 0 < many ∧ many < 1073741824 ∧
  ∀ (r : Int) (b' : List V), 0 ≤ r → r < many → BoxL (n + 1) b' → Q (.int r) (upd H a (.lst b'))
def spDip (K : PySem.W.Frag) : Sp := fun vs H Q _ => ∃ (a : Addr) (k : Nat) (ns : List Int), vs = [.ref a, .int k] ∧ SqL K H a (ns.map V.int) ∧ k ≤ 63 ∧
  ∀ (p : Addr) (b : List V), H p = none → BoxL 0 b → Q (.ref p) (upd H p (.lst b))
def spFold (K : PySem.W.Frag) : Sp := fun vs H Q _ => ∃ (a : Addr) (size : Nat) (ns : List Int), vs = [.ref a, .int size] ∧ SqL K H a (ns.map V.int) ∧ ns.length ≤ 63 ∧ 1 ≤ size ∧ size ≤ 8 ∧
  ∀ (H' : Hp) (p : Addr) (ms : List Int), Same H H' → H p = none → H' p = some (.lst (ms.map V.int)) → ms.length ≤ size → Q (.ref p) H'
/-- the built-in names that the law uses stand as they were -/
structure Bt (mg : Str → Option Value) : Prop where
  len : mg "len" = none
  abs : mg "abs" = none
  int : mg "int" = none
  list : mg "list" = none
  enumerate : mg "enumerate" = none
  range : mg "range" = none
theorem cut_len (xs : List V) (lo hi : Option Int) : (cutV xs lo hi).length ≤ xs.length := by
  unfold cutV
  rw [List.length_take, List.length_drop]
  omega
theorem cut_ints (ns : List Int) (lo hi : Option Int) : ∃ ms : List Int, cutV (ns.map V.int) lo hi = ms.map V.int ∧ ms.length ≤ ns.length := by
  refine ⟨(ns.drop (HT.sIx (ns.map V.int).length 0 lo)).take (HT.sIx (ns.map V.int).length (ns.map V.int).length hi - HT.sIx (ns.map V.int).length 0 lo), ?_, ?_⟩
  · unfold cutV
    rw [List.map_take, List.map_drop]
  · rw [List.length_take, List.length_drop]
    omega
theorem cut_to (ns : List Int) (size : Nat) : cutV (ns.map V.int) none (some (size : Int)) = (ns.take size).map V.int := by
  unfold cutV
  rw [HT.sIx_none, show HT.sIx (ns.map V.int).length (ns.map V.int).length (some (size : Int)) = min size (ns.map V.int).length from HT.sIx_nat _ _ size, List.map_take, List.length_map]
  show ((ns.map V.int).drop 0).take (min size ns.length - 0) = _
  rw [List.drop_zero, Nat.sub_zero]
  by_cases h : size ≤ ns.length
  · rw [Nat.min_eq_left h]
  · rw [Nat.min_eq_right (by omega), List.take_of_length_le (by rw [List.length_map]; omega), List.take_of_length_le (by rw [List.length_map]; omega)]
theorem cut_from_nil (ns : List Int) (size : Nat) (h : ns.length ≤ size) (hi : Option Int) : cutV (ns.map V.int) (some (size : Int)) hi = [] := by
  unfold cutV
  rw [show HT.sIx (ns.map V.int).length 0 (some (size : Int)) = min size (ns.map V.int).length from HT.sIx_nat _ _ size, List.drop_eq_nil_of_le (by rw [List.length_map]; omega), List.take_nil]
section
variable {X : Cx} {k j n i : Nat} {x : Str} {sp : Sp} {p pos : Pos} {e : Expr} {es : List Expr} {kws : List Keyword} {t tk : TA} {te : TE} {ks : List Str} {gV : List V → List V → List V}
/-! ### what is never reached -/
theorem pe_never {e : Expr} : PE X e (fun _ _ _ => False) := ⟨fun _ _ _ _ _ _ h => h.elim⟩
theorem pt_never {e : Expr} : PT X e (fun _ _ _ => False) := ⟨fun _ _ _ _ _ _ h => h.elim⟩
/-! ### calls with keywords -/
structure KCal (P : Program) (w : World) (K : PySem.W.Frag) (mg : Str → Option Value) (base : Heap) (k : Nat) (x : Str) (sp : Sp) (n : Nat) (ks : List Str) (gV : List V → List V → List V) : Prop where
  ex : ∃ (f : Addr) (fd : FuncData) (ps : List Str) (g : List Value → List Value → List Value), FnOk P w K mg base CX0 k f fd ps sp ∧ mg x = some (.ref f) ∧ PySem.W.keepIn K (.ref f) = true ∧ KBn K fd ps n ks g gV
theorem pe_kw (c : KCal X.prog X.w X.K X.mg X.base k x sp n ks gV) (hr : Room j X.A) (hk : k ≤ j) (hg : Gl X x) (ha : PA X (e :: es) t) (hkw : PK X kws tk)
    (hall : (backToKw pos (keywordEach kws X.env)).all (·.1.isSome) = true := by rfl) (hks : (backToKw pos (keywordEach kws X.env)).filterMap (·.1) = ks := by rfl)
    (hdb : (x == ("__debug__" : Str)) = false := by decide) (he : starEach (e :: es) X.env = (false, eval e X.env) :: starEach es X.env := by rfl)
    (hpl : ((backTo pos (starEach (e :: es) X.env)).any (·.1) || (backToKw pos (keywordEach kws X.env)).any (·.1.isNone)) = false := by rfl) :
    PE X (.Call (.Name x p) (e :: es) kws pos) (tCallN n ks.length sp gV E0 t tk) := by
  obtain ⟨f, fd, ps, g, F, hm, kp, b⟩ := c.ex
  exact pe_callN F (hr.mono hk) hg hm kp b pass0 ha hkw hall hks hdb he hpl
theorem pe_kw0 (c : KCal X.prog X.w X.K X.mg X.base k x sp 0 ks gV) (hr : Room j X.A) (hk : k ≤ j) (hg : Gl X x) (hkw : PK X kws tk)
    (hall : (backToKw pos (keywordEach kws X.env)).all (·.1.isSome) = true := by rfl) (hks : (backToKw pos (keywordEach kws X.env)).filterMap (·.1) = ks := by rfl)
    (hdb : (x == ("__debug__" : Str)) = false := by decide)
    (hpl : ((backTo pos (starEach [] X.env)).any (·.1) || (backToKw pos (keywordEach kws X.env)).any (·.1.isNone)) = false := by rfl) :
    PE X (.Call (.Name x p) [] kws pos) (tCallN 0 ks.length sp gV E0 tNil tk) := by
  obtain ⟨f, fd, ps, g, F, hm, kp, b⟩ := c.ex
  refine ⟨fun pins s σ H Q I h => ?_⟩
  refine wpAny_Call_Name_kw (ld_glob I hg hm ?_ hdb)
  refine PySem.W.callWith_KW0 (h₀ := X.base) I.ok.mod.kin kp hall ?_ hpl
  refine thn (hkw.run pos pins s σ H _ I h) fun ws s2 ⟨zs, H2, I2, rz, l1, l2, q2⟩ => ⟨I2.kIn, ?_⟩
  rw [hks]
  exact run_fnN (us := []) (vs := []) F (hr.mono hk) b pass0 I2 .nil rz rfl l2 q2
/-! ### x(*y), x a local name that holds a def -/
def tCallHS (P : Program) (w : World) (K : PySem.W.Frag) (mg : Str → Option Value) (base : Heap) (k i : Nat) (te : TE) : TE := fun σ H Q => ∃ f sp, σ[i]? = some (some (.ref f)) ∧ Held P w K mg base k f sp ∧
  te σ H fun y H1 => ∃ a xs, y = V.ref a ∧ (SqT K H1 a xs ∨ SqL K H1 a xs) ∧ sp xs H1 Q (fun _ _ _ => False)
theorem pe_callHS {sp_ : Pos} (hr : Room k X.A) (hN : X.N[i]? = some x) (hv : Vis X.env.scope x) (he : PE X e te)
    (hdb : (x == ("__debug__" : Str)) = false := by decide) (hcd : (x == ("__classdict__" : Str)) = false := by decide)
    (hst : starEach [.Starred e sp_] X.env = [(true, eval e X.env)] := by rfl) :
    PE X (.Call (.Name x p) [.Starred e sp_] [] pos) (tCallHS X.prog X.w X.K X.mg X.base k i te) := by
  refine ⟨fun pins s σ H Q I h => ?_⟩
  obtain ⟨f, sp, hs, hH, ht⟩ := h
  obtain ⟨fd, ps, F, hk, hb⟩ := hH.ex
  refine wpAny_Call_Name_kw (thn ((pe_var (pos := p) hN hv hdb hcd).run pins s σ H (fun v H1 => v = .ref f ∧ H1 = H) I ⟨.ref f, hs, rfl, rfl⟩) fun u s1 ⟨v, H1, I1, r1, q1⟩ => ?_)
  obtain ⟨rfl, rfl⟩ := q1
  cases r1
  refine PySem.W.callWith_S (h₀ := X.base) I.ok.mod.kin hk (thn (he.run pins s1 σ _ _ I1 ht) fun v s2 ⟨y, H2, I2, ry, a, xs, ey, hxs, q⟩ => ?_) hst
  subst ey
  obtain rfl : v = Value.ref a := ry
  refine StX.star_any I2 hxs fun us s3 I3 rv => ⟨I3.kIn, ?_⟩
  exact run_fn (E := fun _ _ _ => False) F hr hb .nil (fun _ _ _ _ _ _ _ z => z.elim) I3 rv (by rw [List.append_nil]; exact q)
end
section
variable {K : PySem.W.Frag} {x qual : Str} {params : Arguments} {body : List Stmt} {scope : Scope} {kws : List (Str × V)} {f : Addr} {fd : FuncData} {ps : List Str}
/-- keywords, and keyword-only defaults for those that lack; no other defaults -/
theorem kbinds0 (F : FunD K x qual params body scope [] kws f fd) (n : Nat) (ks : List Str) (g : {α : Type} → List α → List α → List α → List α) (hk : kws ≠ [])
    (hrel : ∀ {vs mz zs : List V} {us mv ws : List Value}, Vals vs us → Vals mz mv → Vals zs ws → Vals (g vs mz zs) (g us mv ws))
    (h : ∀ (D : Addr) (doc pm : Value) (an : Option Addr) (cdv ct : Value) (us mv ws : List Value), us.length = n → mv.length = kws.length → ws.length = ks.length →
      KwChain D ((kws.map (·.1)).zip mv) (bindArgs (PySem.W.fnOf x qual params body scope .none (.ref D) doc pm an cdv ct) ⟨us, ks.zip ws⟩) (ps.zip (g us mv ws))) :
    ∃ mv : List Value, KBn K fd ps n ks (fun us ws => g us mv ws) (fun vs zs => g vs (kws.map (·.2)) zs) := by
  obtain ⟨oc, od, dV, kV, doc, pm, an, cdv, ct, osl, rfl, lk, hcd, hD, hK⟩ := F.ex
  rcases hD with ⟨_, rfl⟩ | ⟨e, _⟩
  · rcases hK with e | ⟨D, rfl, hq⟩
    · exact absurd e hk
    · obtain ⟨mv, hl, rk, hks⟩ := kwd_vals hq
      refine ⟨mv, ⟨fun s us ws X l1 l2 => ?_, fun r1 r2 => hrel r1 rk r2⟩⟩
      exact BindsTo.of_looks fun M => KwChain.looks X hks (h D doc pm an cdv ct us mv ws l1 hl l2)
  · exact absurd rfl e
/-- keywords alone, every parameter named or placed -/
theorem kbindsN (F : FunD K x qual params body scope [] kws f fd) (n : Nat) (ks : List Str) (g : {α : Type} → List α → List α → List α)
    (hrel : ∀ {vs zs : List V} {us ws : List Value}, Vals vs us → Vals zs ws → Vals (g vs zs) (g us ws))
    (h : ∀ (kV doc pm : Value) (an : Option Addr) (cdv ct : Value) (us ws : List Value), us.length = n → ws.length = ks.length →
      bindArgs (PySem.W.fnOf x qual params body scope .none kV doc pm an cdv ct) ⟨us, ks.zip ws⟩ = pure (ps.zip (g us ws))) :
    KBn K fd ps n ks (fun us ws => g us ws) (fun vs zs => g vs zs) := by
  obtain ⟨oc, od, dV, kV, doc, pm, an, cdv, ct, osl, rfl, lk, hcd, hD, hK⟩ := F.ex
  rcases hD with ⟨_, rfl⟩ | ⟨e, _⟩
  · exact ⟨fun s us ws X l1 l2 => .of_eq (h kV doc pm an cdv ct us ws l1 l2), fun r1 r2 => hrel r1 r2⟩
  · exact absurd rfl e
end
/-! ### d.update(e) -/
def rDUpd : V → List V → Hp → VK → Prop := fun x vs H Q => ∃ (a b : Addr) (kvs more : List (Key × V)), x = .ref a ∧ vs = [.ref b] ∧ a ≠ b ∧ H a = some (.dK kvs) ∧ H b = some (.dK more) ∧ kvs.length + more.length ≤ 1000 ∧ Q .non (upd H a (.dK (mergeK kvs more)))
theorem mtd_update {X : Cx} : MtR X "dict.update" rDUpd := by
  intro pins s σ H x vs v us Q I rx rv h
  obtain ⟨a, b, kvs, more, ex, ev, nab, ea, eb, hz, q⟩ := h
  subst ex
  subst ev
  obtain rfl : v = Value.ref a := rx
  obtain ⟨u, eu, ru⟩ := rv.one
  subst eu
  obtain rfl : u = Value.ref b := ru
  obtain ⟨z1, ls1, vs1, r1, d1⟩ := I.hok a _ ea
  obtain ⟨z2, ls2, vs2, r2, d2⟩ := I.hok b _ eb
  have l1 : kvs.length = vs1.length := Paired.length r1
  have l2 : more.length = vs2.length := Paired.length r2
  refine call_meetsIn PySem.F.slot_dict_update d1.typeIs PySem.F.entry_dict_update (PySem.F.args_dict_update_2 _ _) (meets_dict_update (mixKind X.prog X.w) a b nab ls2)
    ⟨vs1, vs2, d1, d2, (by rw [← l1, ← l2]; exact Nat.le_trans hz (by decide)), fun h' hm _ hs => ?_⟩
  refine ⟨.non, upd H a (.dK (mergeK kvs more)), ?_, rfl, q⟩
  have hlen : (mergeK kvs more).length ≤ sizeLine := by
    have := length_mergeK more kvs
    have h2 : (1000 : Nat) ≤ sizeLine := by decide
    omega
  obtain ⟨oo, es', ep', ho', _⟩ := id hm
  exact I.write (t' := s.toks) (e := a) (o := .dK (mergeK kvs more)) (by rw [ea]; trivial) (.inl rfl) (fun c u nc e => (hs.2 c nc).trans e) ⟨oo, ho'⟩ ⟨hlen, ls1, merged vs1 vs2, KV.merge r2 r1, hm⟩
/-! ### an exception that is held as a value: its class, its own dict -/
def exv (a C d : Addr) : HO := .ext fun g => ∃ ob fv, g.get? a = some ob ∧ ob.cls = .ref C ∧ ob.dict = some d ∧ ob.data = .fields fv
theorem exv_ok {P : Program} {w : World} {H : Hp} {g : Heap} {a C d : Addr} {ob : Obj} {fv : Array Value} (h1 : g.get? a = some ob) (h2 : ob.cls = .ref C) (h3 : ob.dict = some d) (h4 : ob.data = .fields fv) : ObjOk P w H g a (exv a C d) :=
  ⟨⟨ob, fv, h1, h2, h3, h4⟩, ⟨ob, h1⟩, fun g1 g2 ⟨o2, f2, e1, e2, e3, e4⟩ k => ⟨o2, f2, k _ e1, e2, e3, e4⟩⟩
theorem exv_at {P : Program} {w : World} {H : Hp} {g : Heap} {a C d : Addr} (ok : HOk P w H g) (e : H a = some (exv a C d)) : ∃ ob fv, g.get? a = some ob ∧ ob.cls = .ref C ∧ ob.dict = some d ∧ ob.data = .fields fv := by
  have z : ObjOk P w H g a (.ext fun g => ∃ ob fv, g.get? a = some ob ∧ ob.cls = .ref C ∧ ob.dict = some d ∧ ob.data = .fields fv) := ok a _ e
  exact z.1
section
variable {X : Cx} {pins : List (Addr × Obj)} {σ : L2.St} {H : Hp} {s : Shared}
/-- an object that was made here and is not yet tracked is tracked from now on -/
theorem inv_track {a : Addr} {u : HO} (I : Inv X pins σ H s) (na : H a = none) (nw : ∀ o, X.s_0.heap.get? a ≠ some o) (nL : a ≠ X.env.locals) (nC : ∀ x c, X.env.cells.lookup x = some c → c ≠ a) (nP : ∀ p ∈ X.pn ++ pins, p.1 ≠ a)
    (new : ObjOk X.prog X.w (upd H a u) s.heap a u) : Inv X pins σ (upd H a u) s where
  ok := I.ok
  os := I.os
  bare := I.bare
  base := {
    keep := I.base.keep
    slot := I.base.slot
    free := fun b o e n hx => by
      have nb : b ≠ a := fun z => nw o (z ▸ e)
      rw [upd_ne nb]
      exact I.base.free b o e n hx
    there := I.base.there
    tups := fun b xs e => by
      have e' := I.base.tups b xs e
      rw [upd_ne (ne_of_none e' na)]
      exact e'
    frzs := fun b o xs e => by
      have e' := I.base.frzs b o xs e
      rw [upd_ne (ne_of_none e' na)]
      exact e'
    tbls := fun b ps e => by
      obtain ⟨m, e'⟩ := I.base.tbls b ps e
      exact ⟨m, by rw [upd_ne (ne_of_none e' na)]; exact e'⟩ }
  loc := I.loc
  cell := I.cell
  free := by
    rw [upd_ne (Ne.symm nL)]
    exact I.free
  freeC := fun x c e => by
    rw [upd_ne (nC x c e)]
    exact I.freeC x c e
  pin := fun p hp => by
    obtain ⟨p1, p2, p3⟩ := I.pin p hp
    exact ⟨p1, by rw [upd_ne (nP p hp)]; exact p2, p3⟩
  hok := fun b o e => by
    by_cases hb : b = a
    · subst hb
      rw [upd_same] at e
      cases e
      exact new
    · rw [upd_ne hb] at e
      exact (I.hok b o e).stay (fun _ _ _ z => z) (fun c z => by rw [upd_ne (ne_of_none z na)]; exact z) (fun c xs z => by rw [upd_ne (ne_of_none z na)]; exact z)
  len := I.len
end
/-- what 'except x as n' wishes, where the exception is tracked behind the suite -/
def wKeep (K : PySem.W.Frag) (c : Value) (i : Nat) (ts : Addr → Value → Option Addr → TS) (Wout : WX) (D : Ends) : WX := fun cls d σ H =>
  ∃ (C dd : Addr) (b : Bool), cls = .ref C ∧ d = some dd ∧ PySem.W.exmOne K cls c = some b ∧
    (b = true → ∀ a, H a = none → ts a cls d { nx := fun σ2 H2 => D.nx (σ2.set i none) (upd H2 a (exv a C dd)), rt := D.rt, bk := fun _ _ => False, ct := fun _ _ => False } (σ.set i (some (.ref a))) H) ∧ (b = false → Wout cls d σ H)
section
variable {X : Cx} {x n : Str} {c : Value} {i : Nat} {body suite : List Stmt} {b0 : Stmt} {np pos pos' : Pos} {tb : WX → TS} {ts : Addr → Value → Option Addr → TS} {Wout : WX}
theorem ps_try_keep (hst : X.stack = X.env :: X.outer) (hfr0 : X.env.frame = some X.env.locals) (hex : X.ex = []) (nd : X.N.Nodup) (hi : X.N[i]? = some n) (hk : X.env.kindOf n = some .local) (hnm : Names X x c) (tk : Takes X Wout)
    (hbody : ∀ (W : WX) (pn : List (Addr × Obj)) (xe : Value → Shared → Prop), Takes (X.tr pn xe) W → PassesOwn (model X.prog X.w) X.A X.env xe → PSs (X.tr pn xe) body (tb W))
    (hsuite : ∀ (a : Addr) (oe : Obj) (cls : Value) (d : Option Addr) (pn : List (Addr × Obj)), Zc cls d oe → (∃ vs, oe.data = .fields vs) → PSs (X.suite a ((a, oe) :: pn)) (b0 :: suite) (ts a cls d)) :
    PS X (.Try body [.ExceptHandler (some (.Name x np)) (some n) (b0 :: suite) pos'] [] [] pos) (fun D σ H => tb (wKeep X.K c i ts Wout D) D σ H) := by
  refine ⟨fun pins s σ H D I rd => ?_⟩
  have okX := I.ok
  have hA : X.A.frames = some (X.env :: X.outer) := okX.frames.trans (congrArg some hst)
  refine wpAny_Try_except (wpAny_mono ((hbody (wKeep X.K c i ts Wout D) (X.pn ++ pins)
    (fun e s1 => wpAny (model X.prog X.w) X.A (noteFrame e X.env) (fun _ s2 => wpAny (model X.prog X.w) X.A (setFlight e none) (fun _ s3 => wpAny (model X.prog X.w) X.A (handleBy e X.env [.ExceptHandler (some (.Name x np)) (some n) (b0 :: suite) pos']) (SP X pins D) X.xe s3) X.xe s2) X.xe s1)
    (fun u t xx => ?_) PassesOwn.looking).run [] s σ H D (I.toTry _) rd) (fun fl s1 hfl => ?_) (fun _ _ z => z))
  · obtain ⟨a, G, sI, pins2, σ2, H2, cls, d, eu, J0, inG, upS, sky0, na, eos, bare, C, dd, b, ecls, ed, hexm, hyes, hno⟩ := xx
    subst eu
    subst ecls
    subst ed
    have J : Inv X pins σ2 H2 sI := J0.ofTry okX
    rw [hst] at sky0
    refine Sky.land Zc.steady hA hfr0 sky0 fun g3 fly3 up3 => ?_
    have J3 : Inv X pins σ2 H2 { t with heap := g3 } := J.landed inG fly3.1 (upS.trans up3) eos bare
    obtain ⟨o3, f3, at3, z3, dat3⟩ := fly3.there
    have offF : a ∉ frs (X.env :: X.outer) := fun hm => by
      obtain ⟨_, ob, eo, nof⟩ := fly3.2.2.1.mem hm
      have eq : o3 = ob := Option.some.inj (at3.symm.trans eo)
      exact nof _ (eq ▸ dat3)
    have nLoc : a ≠ X.env.locals := fun z => offF (List.mem_filterMap.mpr ⟨X.env, List.mem_cons_self, by rw [hfr0, z]⟩)
    have nFs : a ∉ X.fs := fun hm => by
      obtain ⟨ev, hev, qe⟩ := List.mem_filterMap.mp hm
      exact offF (List.mem_filterMap.mpr ⟨ev, List.mem_cons_of_mem _ hev, qe⟩)
    have outG : G.get? a = none := fly3.2.1
    have outI : ∀ o, sI.heap.get? a ≠ some o := fun o z => by
      have z2 := inG a o z (by rw [hst]; exact offF)
      rw [outG] at z2
      cases z2
    have out0 : ∀ o, X.s_0.heap.get? a ≠ some o := fun o z => by
      obtain ⟨o', z2⟩ := J.base.there a o z (by rw [hex]; exact List.not_mem_nil)
      exact outI o' z2
    have noPin : ∀ p ∈ X.pn ++ pins, p.1 ≠ a := fun p hp z => outI p.2 (z ▸ (J.pin p hp).1)
    refine wpAny_handleBy_cons (codeAny_handlers_test ?_) (fun q => by cases q)
    have isT : PySem.W.Looks (model X.prog X.w) g3 (typeOf (.ref a)) (.ref C) := fun _ _ _ _ kp q => wpAny_typeOf_ref (kp _ _ at3) (by rw [z3.1]; exact q)
    have asks := PySem.W.exm_one (M := model X.prog X.w) J3.kIn isT hexm
    have S3 := J3.suite at3 dat3 na nLoc nFs
    have named : ∀ {Q E : Value → Shared → Prop}, Q c { t with heap := g3 } → wpAny (model X.prog X.w) (X.A.mark (some (.ref a))) (eval (.Name x np) X.env) Q E { t with heap := g3 } := fun {Q E} q => by
      obtain ⟨gl, db, way⟩ := hnm
      rcases way with m1 | ⟨m1, m2, m3⟩
      · exact ld_glob (X := X.suite a ((a, o3) :: (X.pn ++ pins))) S3 gl m1 q db
      · exact ld_blt (X := X.suite a ((a, o3) :: (X.pn ++ pins))) S3 gl m1 m2 q m3 db
    refine named (asks.here ?_)
    cases b with
    | true =>
      refine codeAny_handlers_suite_as (HandSPX.lands_againZ fly3 fun g4 fly4 up4 => ?_)
      have J4 : Inv X pins σ2 H2 { t with heap := g4 } := J.landed inG fly4.1 ((upS.trans up3).trans up4) eos bare
      obtain ⟨o4, f4, at4, z4, dat4⟩ := fly4.there
      have S4 := J4.suite at4 dat4 na nLoc nFs
      refine store_ok (X := X.suite a ((a, o4) :: (X.pn ++ pins))) (v := .ref a) S4 nd hi (.inl hk) rfl (fun s5 S5 => ?_) (.inr hk)
      refine wpAny_mono ((hsuite a o4 (.ref C) (some dd) (X.pn ++ pins) z4 ⟨_, dat4⟩).run [] s5 _ H2 _ S5 (hyes rfl a na)) (fun fl s6 hfl => ?_) (fun _ _ z => z.elim)
      cases fl with
      | next =>
        obtain ⟨σ6, H6, S6, q6⟩ := hfl
        refine gone_ok (X := X.suite a ((a, o4) :: (X.pn ++ pins))) S6 nd hi hk fun s7 S7 => ?_
        obtain ⟨at7, na7, _, _, nc7⟩ := S7.pin (a, o4) (by rw [List.append_nil]; exact List.mem_cons_self)
        have J7 : Inv X pins (σ6.set i none) H6 s7 := S7.unsuite okX
        refine ⟨_, _, inv_track (u := exv a C dd) J7 na7 out0 nLoc (fun y cc e z => ?_) noPin (exv_ok at7 z4.1 z4.2 dat4), q6⟩
        obtain ⟨vv, oc, ec, dc⟩ := J7.cell y cc e
        rw [z, at7] at ec
        cases ec
        rw [dat4] at dc
        cases dc
      | ret u =>
        obtain ⟨v6, σ6, H6, S6, r6, q6⟩ := hfl
        exact gone_ok (S6.unsuite okX) nd hi hk fun s7 J7 => ⟨_, _, _, J7, r6, q6⟩
      | brk =>
        obtain ⟨_, _, _, q6⟩ := hfl
        exact q6.elim
      | cont =>
        obtain ⟨_, _, _, q6⟩ := hfl
        exact q6.elim
    | false =>
      refine wpAny_handleBy_nil ?_
      obtain ⟨_, _, _, ob, fv, T, oT, _, eo, _, dat, h1, _⟩ := id fly3
      unfold PySem.passOn
      refine wpAny_bind (wpAny_field eo dat h1 ?_)
      rw [if_neg (show ¬ ((Value.ref T == Value.none) = true) by simp)]
      have leave : wpAny (model X.prog X.w) X.A (setFlight (.ref a) X.env.frame) (fun _ s4 => wpAny (model X.prog X.w) X.A (throw (.ref a) : Sem Flow) (SP X pins D) X.xe s4) X.xe { t with heap := g3 } := by
        rw [hfr0]
        refine HandSPX.setFlight_upZ fly3 fun g4 held4 up4 => wpAny_throw (tk _ _ ⟨a, G, sI, pins, σ2, H2, .ref C, some dd, rfl, J, inG, (upS.trans up3).trans up4, .inr (.inr ?_), na, eos, bare, hno rfl⟩)
        rw [hst]
        exact held4
      first
        | exact wpAny_bind (wpAny_pure (wpAny_bind leave))
        | exact wpAny_bind leave
  · cases fl with
    | next =>
      obtain ⟨σ1, H1, J1, q1⟩ := hfl
      exact wpAny_execs_nil ⟨_, _, J1.ofTry okX, q1⟩
    | brk =>
      obtain ⟨σ1, H1, J1, q1⟩ := hfl
      exact ⟨_, _, J1.ofTry okX, q1⟩
    | cont =>
      obtain ⟨σ1, H1, J1, q1⟩ := hfl
      exact ⟨_, _, J1.ofTry okX, q1⟩
    | ret u =>
      obtain ⟨v1, σ1, H1, J1, r1, q1⟩ := hfl
      exact ⟨_, _, _, J1.ofTry okX, r1, q1⟩
end
/-! ### what such a value bears, and of which class it is -/
structure XvC (K : PySem.W.Frag) (C : Addr) : Prop where
  ga : PySem.W.findIn K (.ref C) "__getattribute__" = some (some (.builtin "BaseException.__getattribute__"))
  gg : PySem.W.findIn K (.ref C) "__getattr__" = some none
  sb : PySem.W.subIn K (.ref C) (.type "BaseException") = some true
  hd : PySem.W.hasDictIn K C = true
  kl : PySem.W.findIn K (.ref C) "__class__" = some (some (.builtin "object.__class__"))
  kg : PySem.W.specialIn K (.builtin "object.__class__") "__get__" = some (some (.builtin "getset_descriptor.__get__"))
  kt : PySem.W.takesIn K (.builtin "object.__class__") = some true
  ob : PySem.W.mroIn K C (.type "object") = some true
def tXv (K : PySem.W.Frag) (f : Str) (te : TE) : TE := fun σ H Q => te σ H fun y H1 => ∃ (a C d : Addr) (fs : List (Str × V)) (v : V), y = .ref a ∧ H1 a = some (exv a C d) ∧ XvC K C ∧ PySem.W.findIn K (.ref C) f = some none ∧ H1 d = some (.xd fs) ∧ fs.lookup f = some v ∧ Q v H1
theorem inst_of {X : Cx} {pins : List (Addr × Obj)} {σ : L2.St} {H : Hp} {s : Shared} {a C d : Addr} {fs : List (Str × V)} (I : Inv X pins σ H s) (ea : H a = some (exv a C d)) (ed : H d = some (.xd fs)) :
    ∃ (ob od : Obj) (mA : Str → Option Value), PySem.W.InstAt s.heap a ob C (some od) ∧ (∀ f, RelO (fs.lookup f) (mA f)) ∧ ∀ nm, PySem.W.lookIn nm od = some (mA nm) := by
  obtain ⟨ob, fv, h1, h2, h3, h4⟩ := exv_at I.hok ea
  obtain ⟨mA, hns, hr⟩ : ObjOk X.prog X.w H s.heap d (.xd fs) := I.hok d _ ed
  obtain ⟨od, ho, hl⟩ := lookIn_ns hns
  refine ⟨ob, od, mA, ⟨h1, h2, ?_, ?_⟩, hr, hl⟩
  · unfold PySem.W.notCls
    rw [h4]
  · rw [h3]
    exact ho
theorem pe_xv {X : Cx} {e : Expr} {te : TE} {pos : Pos} {f : Str} (he : PE X e te) (hb : attributeBase e f X.env (eval e X.env) = eval e X.env := by rfl) : PE X (.Attribute e f pos) (tXv X.K f te) := by
  refine ⟨fun pins s σ H Q I rd => attr_of hb (thn (he.run pins s σ H _ I rd) fun u s1 hh => ?_)⟩
  obtain ⟨y, H1, I1, ry, a, C, d, fs, v, ey, ea, T, hno, ed, hl, q⟩ := hh
  subst ey
  obtain rfl : u = Value.ref a := ry
  obtain ⟨ob, od, mA, J, hr, hlk⟩ := inst_of I1 ea ed
  obtain ⟨u2, e2, r2⟩ := RelO.some_of (v := v) (o := mA f) (by rw [← hl]; exact hr f)
  exact HandSPX.exc_get I1.kIn J T.ga T.gg T.sb (PySem.W.findObj_own T.hd hno rfl (by rw [hlk, e2])) (handed_of r2) ⟨v, H1, I1.tok _, r2, q⟩
/-- isinstance(e, c) -/
def rXvI (K : PySem.W.Frag) : List V → Hp → VK → Prop := fun xs H Q => ∃ (a C d : Addr) (fs : List (Str × V)) (c : V) (cu : Value) (b : Bool), xs = [.ref a, c] ∧ H a = some (exv a C d) ∧ XvC K C ∧ H d = some (.xd fs) ∧ ClsV c cu ∧ PySem.W.kitOne K (.ref C) cu = some b ∧ Q (.bl b) H
theorem call_isXv {X : Cx} : CallR X (.builtin "isinstance") (rXvI X.K) := by
  intro pins s σ H xs us Q I r h
  obtain ⟨a, C, d, fs, c, cu, b, rfl, ea, T, ed, hc, hk, q⟩ := h
  cases r with
  | cons r1 rr =>
    cases rr with
    | cons r2 r3 =>
      cases r3
      cases r1
      have ec := hc.eq r2
      subst ec
      obtain ⟨ob, od, mA, J, hr, hlk⟩ := inst_of I ea ed
      have hcl : (PySem.W.clsIn X.K C).isSome = true := by
        obtain ⟨cd, e1, _⟩ := PySem.W.any_some T.hd
        rw [e1]
        rfl
      exact PySem.W.kia_one (PySem.W.kitx_exc hcl T.ga T.gg T.sb T.kl T.kg T.kt T.ob) I.kIn J hk (fun z => nomatch z) fun tk => ⟨.bl b, H, I.kept (t' := tk) fun _ _ z => z, rfl, q⟩
/-- isinstance(e, (c1, c2, ..)) -/
def rXvT (K : PySem.W.Frag) : List V → Hp → VK → Prop := fun xs H Q => ∃ (a C d tp : Addr) (fs : List (Str × V)) (cs : List V) (cu : List Value) (b : Bool), xs = [.ref a, .ref tp] ∧ H a = some (exv a C d) ∧ XvC K C ∧ H d = some (.xd fs) ∧ H tp = some (.tup cs) ∧ Paired ClsV cs cu ∧
  PySem.W.kitAny K (.ref C) cu = some b ∧ Q (.bl b) H
theorem call_isXvT {X : Cx} : CallR X (.builtin "isinstance") (rXvT X.K) := by
  intro pins s σ H xs us Q I r h
  obtain ⟨a, C, d, tp, fs, cs, cu, b, rfl, ea, T, ed, et, hc, hk, q⟩ := h
  cases r with
  | cons r1 rr =>
    cases rr with
    | cons r2 r3 =>
      cases r3
      cases r1
      cases r2
      obtain ⟨ob, od, mA, J, hr, hlk⟩ := inst_of I ea ed
      have hcl : (PySem.W.clsIn X.K C).isSome = true := by
        obtain ⟨cd, e1, _⟩ := PySem.W.any_some T.hd
        rw [e1]
        rfl
      obtain ⟨hz, its, rv, ⟨c5, d5, t5, s5⟩, p1, p2, n5, p3⟩ : ObjOk X.prog X.w H s.heap tp (.tup cs) := I.hok tp _ et
      have ei := ClsV.all hc rv
      subst ei
      dsimp only at p2 p3
      subst p2 p3
      exact PySem.W.kia_tup (PySem.W.kitx_exc hcl T.ga T.gg T.sb T.kl T.kg T.kt T.ob) I.kIn J p1 hk (fun z => nomatch z) fun tk => ⟨.bl b, H, I.kept (t' := tk) fun _ _ z => z, rfl, q⟩
/-! ### calls with keywords of a def that may let an error out -/
structure KCalX (P : Program) (w : World) (K : PySem.W.Frag) (mg : Str → Option Value) (base : Heap) (k : Nat) (x : Str) (sp : Sp) (n : Nat) (ks : List Str) (gV : List V → List V → List V) : Prop where
  ex : ∃ (f : Addr) (fd : FuncData) (ps : List Str) (g : List Value → List Value → List Value), FnOk P w K mg base (L2.CX P w) k f fd ps sp ∧ mg x = some (.ref f) ∧ PySem.W.keepIn K (.ref f) = true ∧ KBn K fd ps n ks g gV
structure CalX (P : Program) (w : World) (K : PySem.W.Frag) (mg : Str → Option Value) (base : Heap) (k : Nat) (x : Str) (sp : Sp) (dvs : List V) : Prop where
  ex : ∃ (f : Addr) (fd : FuncData) (ps : List Str) (ds : List Value), FnOk P w K mg base (L2.CX P w) k f fd ps sp ∧ mg x = some (.ref f) ∧ PySem.W.keepIn K (.ref f) = true ∧ Binds K fd ps ds ∧ Vals dvs ds
theorem passX {X : Cx} : Passes (L2.CX X.prog X.w) X (fun _ _ _ => False) := fun _ _ _ _ _ _ _ h => by
  obtain ⟨_, _, _, _, _, _, _, _, _, _, _, _, z⟩ := h
  exact z.elim
section
variable {X : Cx} {k j n : Nat} {x : Str} {sp : Sp} {p pos : Pos} {e : Expr} {es : List Expr} {kws : List Keyword} {t tk : TA} {ks : List Str} {gV : List V → List V → List V} {dvs : List V}
theorem pe_cX (c : CalX X.prog X.w X.K X.mg X.base k x sp dvs) (hr : Room j X.A) (hk : k ≤ j) (hg : Gl X x) (ha : PA X (e :: es) t)
    (hdb : (x == ("__debug__" : Str)) = false := by decide) (he : starEach (e :: es) X.env = (false, eval e X.env) :: starEach es X.env := by rfl) (hpl : (backTo pos (starEach es X.env)).any (·.1) = false := by rfl) :
    PE X (.Call (.Name x p) (e :: es) [] pos) (tCall sp dvs (fun _ _ _ => False) t) := by
  obtain ⟨f, fd, ps, ds, F, hm, kp, b, d⟩ := c.ex
  exact pe_call F (hr.mono hk) hg hm kp b d passX ha hdb he hpl
theorem pe_kwX (c : KCalX X.prog X.w X.K X.mg X.base k x sp n ks gV) (hr : Room j X.A) (hk : k ≤ j) (hg : Gl X x) (ha : PA X (e :: es) t) (hkw : PK X kws tk)
    (hall : (backToKw pos (keywordEach kws X.env)).all (·.1.isSome) = true := by rfl) (hks : (backToKw pos (keywordEach kws X.env)).filterMap (·.1) = ks := by rfl)
    (hdb : (x == ("__debug__" : Str)) = false := by decide) (he : starEach (e :: es) X.env = (false, eval e X.env) :: starEach es X.env := by rfl)
    (hpl : ((backTo pos (starEach (e :: es) X.env)).any (·.1) || (backToKw pos (keywordEach kws X.env)).any (·.1.isNone)) = false := by rfl) :
    PE X (.Call (.Name x p) (e :: es) kws pos) (tCallN n ks.length sp gV (fun _ _ _ => False) t tk) := by
  obtain ⟨f, fd, ps, g, F, hm, kp, b⟩ := c.ex
  exact pe_callN F (hr.mono hk) hg hm kp b passX ha hkw hall hks hdb he hpl
theorem pe_kw0X (c : KCalX X.prog X.w X.K X.mg X.base k x sp 0 ks gV) (hr : Room j X.A) (hk : k ≤ j) (hg : Gl X x) (hkw : PK X kws tk)
    (hall : (backToKw pos (keywordEach kws X.env)).all (·.1.isSome) = true := by rfl) (hks : (backToKw pos (keywordEach kws X.env)).filterMap (·.1) = ks := by rfl)
    (hdb : (x == ("__debug__" : Str)) = false := by decide)
    (hpl : ((backTo pos (starEach [] X.env)).any (·.1) || (backToKw pos (keywordEach kws X.env)).any (·.1.isNone)) = false := by rfl) :
    PE X (.Call (.Name x p) [] kws pos) (tCallN 0 ks.length sp gV (fun _ _ _ => False) tNil tk) := by
  obtain ⟨f, fd, ps, g, F, hm, kp, b⟩ := c.ex
  refine ⟨fun pins s σ H Q I h => ?_⟩
  refine wpAny_Call_Name_kw (ld_glob I hg hm ?_ hdb)
  refine PySem.W.callWith_KW0 (h₀ := X.base) I.ok.mod.kin kp hall ?_ hpl
  refine thn (hkw.run pos pins s σ H _ I h) fun ws s2 ⟨zs, H2, I2, rz, l1, l2, q2⟩ => ⟨I2.kIn, ?_⟩
  rw [hks]
  exact run_fnN (us := []) (vs := []) F (hr.mono hk) b passX I2 .nil rz rfl l2 q2
/-- what it lets out is wished for at the caller's slots -/
def tCallNT (n m : Nat) (sp : Sp) (gV : List V → List V → List V) (W : WX) (t tk : TA) : TE := fun σ H Q => t σ H fun vs H1 => tk σ H1 fun zs H2 => vs.length = n ∧ zs.length = m ∧ sp (gV vs zs) H2 Q (WE W σ)
theorem pe_kwT {W : WX} (c : KCalX X.prog X.w X.K X.mg X.base k x sp n ks gV) (hr : Room j X.A) (hk : k ≤ j) (hg : Gl X x) (tkw : Takes X W) (ha : PA X (e :: es) t) (hkw : PK X kws tk)
    (hall : (backToKw pos (keywordEach kws X.env)).all (·.1.isSome) = true := by rfl) (hks : (backToKw pos (keywordEach kws X.env)).filterMap (·.1) = ks := by rfl)
    (hdb : (x == ("__debug__" : Str)) = false := by decide) (he : starEach (e :: es) X.env = (false, eval e X.env) :: starEach es X.env := by rfl)
    (hpl : ((backTo pos (starEach (e :: es) X.env)).any (·.1) || (backToKw pos (keywordEach kws X.env)).any (·.1.isNone)) = false := by rfl) :
    PE X (.Call (.Name x p) (e :: es) kws pos) (tCallNT n ks.length sp gV W t tk) := by
  obtain ⟨f, fd, ps, g, F, hm, kp, b⟩ := c.ex
  refine ⟨fun pins s σ H Q I h => ?_⟩
  refine wpAny_Call_Name_kw (ld_glob I hg hm ?_ hdb)
  refine PySem.W.callWith_KW (h₀ := X.base) I.ok.mod.kin kp hall (thn (ha.run pos pins s σ H _ I h) fun us s1 ⟨vs, H1, I1, r, q⟩ => ?_) hpl he
  refine thn (hkw.run pos pins s1 σ H1 _ I1 q) fun ws s2 ⟨zs, H2, I2, rz, l1, l2, q2⟩ => ⟨I2.kIn, ?_⟩
  rw [hks]
  have r2 := b.rel r rz
  refine wpAny_call (codeAny_mono (F.run X.A X.stack s2 H2 ⟨us, ks.zip ws⟩ (g us ws) (gV vs zs) Q (WE W σ) (hr.mono hk) I2.env0 (b.to s2 us ws I2.kIn (r.length.symm.trans l1) (rz.length.symm.trans l2)) r2 q2) fun res s' hq => ?_)
  cases res with
  | error er => exact passAt tkw σ pins H2 s2 er s' I2 hq
  | ok fl =>
    cases fl with
    | ret u => exact I2.after hq
    | next => exact hq.elim
    | brk => exact hq.elim
    | cont => exact hq.elim
end
end Thr
namespace PySem
namespace Oxb
open PySem.W PySem.Calls PyProof.Rows PySem.HandSPX
section
open Builtin Builtin.ObjectAttr
variable {prog : Program} {w : World} {A : Around} {R : Result → Shared → Prop} {h0 : Heap} {gs : Array GenState} {dr : Drawn} {tn : Nat} {os : OsState}
/-- the mro of such a class lets a field be stored -/
structure MroOk (m : List Value) : Prop where
  pass : ∀ self, refuseLoop self "__setattr__" m = pure ()
  obj : m.contains (.type "object") = true
  full : m.isEmpty = false
theorem sub_obj {K : W.Frag} {e C : Addr} {ob : Obj} {od : Option Obj} {cd : ClassData} (X : K.In h0) (I : W.InstAt h0 e ob C od) (hcd : W.clsIn K C = some cd) (hm : MroOk cd.mro) : W.Looks (model prog w) h0 (isInstance (.ref e) (.type "object")) true := by
  refine I.type.andThen (W.looks_mroIn X ?_)
  unfold W.mroIn
  rw [hcd, Option.bind_some, if_neg (by rw [hm.full]; decide), hm.obj]
/-- the first field: the dict is laid -/
theorem store_first {K : W.Frag} {nm : Str} {tk : Tok} {v : Value} {e C : Addr} {fv : Array Value} {cd : ClassData} (X : K.In h0) (he : h0.get? e = some { cls := .ref C, data := .fields fv }) (hcd : W.clsIn K C = some cd) (hm : MroOk cd.mro) (hh : cd.hasDict = true) (ha : W.findIn K (.ref C) nm = some none)
    (hq : ∀ h1 t1 dx, (∀ b o, b ≠ e → h0.get? b = some o → h1.get? b = some o) → h0.objs.size ≤ dx → dx ≠ e → h1.get? e = some { cls := .ref C, dict := some dx, data := .fields fv } → h1.Ns1 dx (fun y => if y = nm then some v else none) → R (.ok (.ret .none)) ⟨h1, gs, dr, t1, os⟩) :
    codeAny (model prog w) A (.call (.builtin "object.__setattr__") ⟨[.ref e, .str nm tk, v], []⟩) R ⟨h0, gs, dr, tn, os⟩ := by
  have J : W.InstAt h0 e { cls := .ref C, data := .fields fv } C none := ⟨he, rfl, rfl, trivial⟩
  have hes : e ≠ h0.objs.size := Nat.ne_of_lt (Heap.lt_size he)
  have L1 : W.Looks (model prog w) h0 (mroOf (.ref C)) cd.mro := (W.looks_clsIn X hcd).andThen .now
  have L2 : W.Looks (model prog w) h0 (storeTaker? none) none := .now
  have L4 : W.Looks (model prog w) h0 (classData C) cd := W.looks_clsIn X hcd
  refine codeAny_call_builtin F.store_object.slot.plain F.store_object.entry (@W.check_slot (model prog w) _ _ ⟨h0, gs, dr, tn, os⟩ "object.__setattr__" "object" "__setattr__" (.ref e) [.str nm tk, v] [] _ F.store_object.kind F.store_object.split (sub_obj X J hcd hm) (F.store_object.args (.ref e) (.str nm tk) v) ?_)
  rw [W.osa_eq, refuse_eq]
  refine wpAny_bind (wpAny_bind (J.type.at (wpAny_bind (L1.at ?_))))
  rw [hm.pass]
  refine wpAny_pure (wpAny_bind (J.type.at (wpAny_bind ((W.looks_findIn X ha).at (wpAny_bind (L2.at ?_))))))
  show wpAny _ _ (storeInOwnDict (.ref e) (.ref C) (.str nm tk) nm v false) _ _ _
  obtain ⟨c1, c2, c3, c4, c5, c6, c7, c8, c9, c10, c11⟩ := cd
  dsimp only at hh
  subst hh
  unfold storeInOwnDict ownDictForStores
  repeat (first | with_reducible refine store_in_new ?_ ?_ | with_reducible refine wpAny_loadPart_at he ?_ | with_reducible refine L4.at ?_ | wp_step)
  · exact ⟨_, #[], _, (Heap.get?_update_ne _ _ _ _ hes.symm).trans (Heap.get?_push_at rfl rfl), rfl, fun x hx => absurd hx (by simp), fun _ => rfl⟩
  · intro h1 t1 hn hs
    have he1 : (h0.push { cls := .type "dict", data := .dict #[] }).get? e = some { cls := .ref C, data := .fields fv } := Heap.get?_push_of_some _ he
    refine hq h1 t1 h0.objs.size (fun b o hb ho => ?_) (Nat.le_refl _) hes.symm ((hs.2 e hes).trans (Heap.get?_update_self _ he1 rfl)) hn
    exact (hs.2 b (Nat.ne_of_lt (Heap.lt_size ho))).trans ((Heap.get?_update_ne _ _ _ _ hb).trans (Heap.get?_push_of_some _ ho))
/-- a further field -/
theorem store_more {K : W.Frag} {nm : Str} {tk : Tok} {v : Value} {e C dx : Addr} {fv : Array Value} {cd : ClassData} {m0 : Str → Option Value} {nl : List Str} (X : K.In h0) (he : h0.get? e = some { cls := .ref C, dict := some dx, data := .fields fv }) (hns : h0.Ns1 dx m0) (hw : Within m0 nl) (hz : nl.length ≤ 1000)
    (hcd : W.clsIn K C = some cd) (hm : MroOk cd.mro) (hh : cd.hasDict = true) (ha : W.findIn K (.ref C) nm = some none)
    (hq : ∀ h1 t1, (∀ b o, b ≠ dx → h0.get? b = some o → h1.get? b = some o) → h1.Ns1 dx (fun y => if y = nm then some v else m0 y) → R (.ok (.ret .none)) ⟨h1, gs, dr, t1, os⟩) :
    codeAny (model prog w) A (.call (.builtin "object.__setattr__") ⟨[.ref e, .str nm tk, v], []⟩) R ⟨h0, gs, dr, tn, os⟩ := by
  obtain ⟨oD, esD, epD, hoD, _, _⟩ := hns.count hw
  have J : W.InstAt h0 e { cls := .ref C, dict := some dx, data := .fields fv } C (some oD) := ⟨he, rfl, rfl, hoD⟩
  have L1 : W.Looks (model prog w) h0 (mroOf (.ref C)) cd.mro := (W.looks_clsIn X hcd).andThen .now
  have L2 : W.Looks (model prog w) h0 (storeTaker? none) none := .now
  have L4 : W.Looks (model prog w) h0 (classData C) cd := W.looks_clsIn X hcd
  refine codeAny_call_builtin F.store_object.slot.plain F.store_object.entry (@W.check_slot (model prog w) _ _ ⟨h0, gs, dr, tn, os⟩ "object.__setattr__" "object" "__setattr__" (.ref e) [.str nm tk, v] [] _ F.store_object.kind F.store_object.split (sub_obj X J hcd hm) (F.store_object.args (.ref e) (.str nm tk) v) ?_)
  rw [W.osa_eq, refuse_eq]
  refine wpAny_bind (wpAny_bind (J.type.at (wpAny_bind (L1.at ?_))))
  rw [hm.pass]
  refine wpAny_pure (wpAny_bind (J.type.at (wpAny_bind ((W.looks_findIn X ha).at (wpAny_bind (L2.at ?_))))))
  show wpAny _ _ (storeInOwnDict (.ref e) (.ref C) (.str nm tk) nm v false) _ _ _
  obtain ⟨c1, c2, c3, c4, c5, c6, c7, c8, c9, c10, c11⟩ := cd
  dsimp only at hh
  subst hh
  unfold storeInOwnDict ownDictForStores
  repeat (first | with_reducible refine PySem.OEX.store_in_old hns hw hz ?_ | with_reducible refine wpAny_loadPart_at he ?_ | with_reducible refine L4.at ?_ | wp_step)
  exact fun h1 t1 hn hs => hq h1 t1 (fun b o hb ho => (hs.2 b hb).trans ho) hn
end
/-! ### making such an error: the built-in __new__ that it inherits, then its own __init__ -/
structure NewOk (newId : String) (bm : List Value) : Prop where
  ex : ∃ (Bn initn : String) (bn : List Value), ExcBaseFacts Bn newId initn bn ∧ bm.contains (.type Bn) = true ∧ bm.contains (.type "AttributeError") = false ∧ bm.contains (.type "NameError") = false
structure InitOk (B : String) (bm : List Value) : Prop where
  plain : plainId (B ++ ".__init__") = true
  entry : entryFor table (B ++ ".__init__") = some Builtin.«BaseException.__init__»
  kind : builtinKind (B ++ ".__init__") = some .slot
  split : splitId (B ++ ".__init__") = some (B, "__init__")
  row : Manifest.signature? (B ++ ".__init__") = some ⟨.positional, "*", B, .self, [⟨"args", .varPos, false⟩]⟩
  star : (B != "*") = true
  has : bm.contains (.type B) = true
section
variable {prog : Program} {w : World} {A : Around} {E : Value → Shared → Prop} {R : Result → Shared → Prop} {hp : Heap} {ga : Array GenState} {dw : Drawn} {tn : Nat} {os : OsState}
variable {n1 n2 : Str} {C N : Addr} {b1 bm : List Value} {hd : Bool} {s1 : List Str} {s2 : List Value} {ab : Bool} {co : Option Bool} {d1 : Option Addr} {k0 k1 k2 k3 k5 : Option Value} {B newId : String}
theorem init_any (I : InitOk B bm) {e t0 : Addr} {more : List Value} (hC : hp.get? C = some (excClassObj n1 n2 C N b1 bm hd s1 s2 ab co d1 k0 k1 k2 k3 k5 newId)) (he : hp.get? e = some (excO C t0)) (hl : more.length ≤ sizeLine)
    (hq : ∀ h2 t2, (∀ b o, b ≠ e → hp.get? b = some o → h2.get? b = some o) → h2.get? e = some (excO C t2) → R (.ok (.ret .none)) ⟨h2, ga, dw, tn, os⟩) :
    codeAny (model prog w) A (.call (.builtin (B ++ ".__init__")) ⟨.ref e :: more, []⟩) R ⟨hp, ga, dw, tn, os⟩ := by
  have hin : (Value.ref C :: bm).contains (.type B) = true := by
    rw [List.contains_cons, I.has, Bool.or_true]
  have hst := I.star
  refine codeAny_call_builtin I.plain I.entry ?_
  have chk : ∀ {Q : Unit → Shared → Prop} {E : Value → Shared → Prop} {A : Around}, Q () ⟨hp, ga, dw, tn, os⟩ → wpAny (model prog w) A (checkBuiltinCall (B ++ ".__init__") ⟨.ref e :: more, []⟩) Q E ⟨hp, ga, dw, tn, os⟩ := fun {Q E A} q => by
    simp only [checkBuiltinCall, I.kind, I.split, I.row]
    repeat (first | (with_reducible refine wpAny_loadPart_at he ?_) | with_reducible refine wpAny_loadPart_at hC ?_ | (with_reducible refine wpAny_isSubtype_exc hC ?_; rw [hin]) | wp_step)
    refine wpAny_onRaise ?_
    rw [show ∀ (x y : String) (n : Nat), Bind.check ⟨.positional, "*", B, .self, [⟨"args", .varPos, false⟩]⟩ x y n (List.map (fun z => z.fst) ({ pos := Value.ref e :: more } : Args).kw) = pure () from
      fun _ _ _ => check_star_args _ _ _ _ _ _]
    exact wpAny_pure q
  refine chk ?_
  wp_walk
  refine hq _ hp.objs.size (fun b o hb ho => ?_) ?_
  · exact (Heap.get?_update_other _ _ (Ne.symm hb)).trans (Heap.get?_push_of_some _ ho)
  · exact Heap.get?_update_self _ (Heap.get?_push_of_some _ he) rfl
theorem new_any (Nw : NewOk newId bm) {more : List Value} (hC : hp.get? C = some (excClassObj n1 n2 C N b1 bm hd s1 s2 ab co d1 k0 k1 k2 k3 k5 newId)) (hl : more.length ≤ sizeLine)
    (hq : R (.ok (.ret (.ref (hp.objs.size + 1)))) ⟨(hp.push { cls := .type "tuple", data := .seq more.toArray }).push { cls := .ref C, data := .fields #[.ref hp.objs.size, .none, .none, .none, .bool false, .none] }, ga, dw, tn, os⟩) :
    codeAny (model prog w) A (.builtin newId ⟨.ref C :: more, []⟩) R ⟨hp, ga, dw, tn, os⟩ := by
  obtain ⟨Bn, initn, bn, FB, c1, c2, c3⟩ := Nw.ex
  have e0 := FB.ends
  have e1 : (Value.ref C :: bm).contains (.type Bn) = true := by
    rw [List.contains_cons, c1, Bool.or_true]
  have e2 : (Value.ref C :: bm).contains (.type "AttributeError") = false := by
    rw [List.contains_cons, c2]
    rfl
  have e3 : (Value.ref C :: bm).contains (.type "NameError") = false := by
    rw [List.contains_cons, c3]
    rfl
  refine codeAny_builtinAt FB.entry ?_
  unfold Builtin.«BaseException.__new__»
  refine wpAt_bind ?_
  show wpAt _ _ _ (stack >>= _) _ _ _
  refine wpAt_bind (wpAt_stack fun p below => wpAt_of_wpAny ?_)
  wp_walk
  refine wpAt_of_wpAny ?_
  rw [FB.owner]
  repeat (first | with_reducible refine wpAny_madeHere_exc FB.canon hC ?_ | with_reducible refine wpAny_loadPart_at hC ?_ | (with_reducible refine wpAny_isSubtype_exc hC ?_; first | rw [e1] | rw [e2] | rw [e3]) | wp_step)
  show R _ _
  rw [Heap.size_push]
  exact hq
theorem check_any (Nw : NewOk newId bm) {M : Model} {more : List Value} {Q : Unit → Shared → Prop} (hC : hp.get? C = some (excClassObj n1 n2 C N b1 bm hd s1 s2 ab co d1 k0 k1 k2 k3 k5 newId)) (q : Q () ⟨hp, ga, dw, tn, os⟩) :
    wpAny M A (checkBuiltinCall newId ⟨.ref C :: more, []⟩) Q E ⟨hp, ga, dw, tn, os⟩ := by
  obtain ⟨Bn, initn, bn, FB, c1, c2, c3⟩ := Nw.ex
  have e1 : (Value.ref C :: bm).contains (.type Bn) = true := by
    rw [List.contains_cons, c1, Bool.or_true]
  have e0 := FB.noStar
  simp only [checkBuiltinCall, FB.newKind, FB.newSplit, FB.newRow]
  repeat (first | refine wpAny_loadPart_at hC ?_ | (refine wpAny_isSubtype_exc hC ?_; rw [e1]) | refine wpAny_staticBase_exc hC ?_ | refine wpAny_madeBy_exc hC ?_ | simp only [bne_self_eq_false, Bool.false_eq_true, if_false] | wp_step)
  exact q
theorem typeCall_any (Nw : NewOk newId bm) {more : List Value} {fI : Addr} {Q : Fin → Shared → Prop} (hC : hp.get? C = some (excClassObj n1 n2 C N b1 bm hd s1 s2 ab co d1 k0 k1 k2 k3 k5 newId))
    (hi : W.Looks (model prog w) hp (typeLookup (.ref C) "__init__") (some (.ref fI))) (hb : ∀ self, W.Looks (model prog w) hp (bindSpecial (.ref fI) self) (.ref fI, [self])) (hl : more.length ≤ sizeLine)
    (hq : codeAny (model prog w) A (.call (.ref fI) ⟨.ref (hp.objs.size + 1) :: more, []⟩) (fun res z => match res with | .ok (.ret v) => v = .none ∧ Q (.done (.ret (.ref (hp.objs.size + 1)))) z | .ok _ => False | .error er => E er z) ⟨(hp.push (W.kdv_tup more)).push (excO C hp.objs.size), ga, dw, tn, os⟩) :
    wpAny (model prog w) A (Builtin.«type.__call__» ⟨.ref C :: more, []⟩) Q E ⟨hp, ga, dw, tn, os⟩ := by
  obtain ⟨Bn, initn, bn, FB, _, _, _⟩ := id Nw.ex
  repeat (first | with_reducible refine wpAny_loadPart_at hC ?_ | with_reducible refine wpAny_madeBy_exc hC ?_ | wp_step)
  refine codeAny_call_builtin_code (Code.quiet_builtin _ FB.quiet) (check_any Nw hC ?_)
  refine new_any Nw hC hl ?_
  show wpAny _ _ _ _ _ _
  have up : ∀ b o, hp.get? b = some o → ((hp.push (W.kdv_tup more)).push (excO C hp.objs.size)).get? b = some o := fun b o z => Heap.get?_push_of_some _ (Heap.get?_push_of_some _ z)
  have hC2 := up _ _ hC
  have hE : ((hp.push (W.kdv_tup more)).push (excO C hp.objs.size)).get? (hp.objs.size + 1) = some (excO C hp.objs.size) := by heap_get
  have self_in : (Value.ref C :: bm).contains (.ref C) = true := by simp
  have l1 := hi.keeps up
  have l2 := (hb (.ref (hp.objs.size + 1))).keeps up
  unfold isInstance
  repeat (first | with_reducible refine wpAny_loadPart_at hE ?_ | (with_reducible refine wpAny_isSubtype_exc hC2 ?_; rw [self_in]) | wp_step)
  show wpAny _ _ (typeLookup (.ref C) _) _ _ _
  refine l1.at (wpAny_holding (wpAny_bind (l2.at ?_)))
  refine wpAny_bind (wpAny_call (codeAny_mono hq fun res z q => ?_))
  rcases res with er | (v | _ | _ | _) <;> first | exact q | exact q.elim | skip
  obtain ⟨rfl, q⟩ := q
  first
    | exact wpAny_pure (wpAny_pure q)
    | (wp_walk; exact q)
theorem call_any (Nw : NewOk newId bm) {more : List Value} {fI : Addr} (hC : hp.get? C = some (excClassObj n1 n2 C N b1 bm hd s1 s2 ab co d1 k0 k1 k2 k3 k5 newId))
    (hi : W.Looks (model prog w) hp (typeLookup (.ref C) "__init__") (some (.ref fI))) (hb : ∀ self, W.Looks (model prog w) hp (bindSpecial (.ref fI) self) (.ref fI, [self])) (hl : more.length ≤ sizeLine)
    (hq : codeAny (model prog w) (A.under (.builtin "type.__call__" ⟨.ref C :: more, []⟩)) (.call (.ref fI) ⟨.ref (hp.objs.size + 1) :: more, []⟩) (W.InitBack (hp.objs.size + 1) R) ⟨(hp.push (W.kdv_tup more)).push (excO C hp.objs.size), ga, dw, tn, os⟩) :
    codeAny (model prog w) A (.call (.ref C) ⟨more, []⟩) R ⟨hp, ga, dw, tn, os⟩ := by
  have g1 := tc_lookup
  have g2 := tc_bind (.ref C)
  have hty : (⟨hp, ga, dw, tn, os⟩ : Shared).TypeIs (.ref C) "type" := ⟨_, hC, rfl⟩
  refine codeAny_of_tree ?_
  show wpAny _ _ (callAny (.ref C) _) _ _ _
  repeat (any_goals (first | assumption | with_reducible refine wpAny_loadPart_at hC ?_ | wp_step))
  refine ⟨rfl, codeAny_call_builtin_at (Code.quiet_builtin _ (by decide +kernel)) entry_typeCall (wpAny_check_type_call_sub hC (typeCall_any Nw hC hi hb hl (codeAny_mono hq fun res z q => ?_)))⟩
  rcases res with er | (v | _ | _ | _) <;> exact q
end
end Oxb
end PySem
namespace Thr
open PySem PySem.Spec PyProof.Rows L2
/-! ### an own error straight over a built-in one (B), whose __init__ is walked as a def -/
structure OxC (K : PySem.W.Frag) (C : Addr) (B : String) : Prop where
  cls : ∃ nm q N bs bm sn sub ab col dd k0 k1 k2 k3 k5 newId, K.lookup C = some (excClassObj nm q C N bs bm true sn sub ab col dd k0 k1 k2 k3 k5 newId) ∧ PySem.Oxb.NewOk newId bm ∧ PySem.Oxb.InitOk B bm ∧ PySem.Oxb.MroOk (.ref C :: bm)
  sa : PySem.W.findIn K (.ref C) "__setattr__" = some (some (.builtin "object.__setattr__"))
  exC : PySem.W.subIn K (.ref C) (.type "BaseException") = some true
  tyC : PySem.W.typeIn K (.ref C) = some (.type "type")
  kC : PySem.W.keepIn K (.ref C) = true
section
variable {X : Cx} {pins : List (Addr × Obj)} {σ : L2.St} {H : Hp} {s : Shared} {a C dx : Addr} {f : Str} {y : V} {u : Value} {fs : List (Str × V)} {Q : Unit → Shared → Prop} {E : Value → Shared → Prop} {A : Around} {B : String}
theorem ox_first (T : OxC X.K C B) (I : Inv X pins σ H s) (e : H a = some (exo a C none)) (hno : PySem.W.findIn X.K (.ref C) f = some none) (ry : RelV y u)
    (h : ∀ dx s1, H dx = none → dx ≠ a → Inv X pins σ (upd (upd H dx (exd dx [(f, y)])) a (exo a C (some dx))) s1 → Q () s1) : wpAny (model X.prog X.w) A (setAttr (.ref a) f u) Q E s := by
  obtain ⟨nm, q, N, bs, bm, sn, sub, ab, col, dd, k0, k1, k2, k3, k5, newId, hC, _, _, hm⟩ := T.cls
  have hcl : ∃ cd, PySem.W.clsIn X.K C = some cd ∧ cd.mro = .ref C :: bm ∧ cd.hasDict = true := by
    unfold PySem.W.clsIn
    rw [hC]
    exact ⟨_, rfl, rfl, rfl⟩
  obtain ⟨cd, hcd, em, ehd⟩ := hcl
  obtain ⟨t1, ho⟩ := exo_at I.hok e
  obtain ⟨h0, gs, dr, tn, os⟩ := s
  refine PySem.W.set_plain I.kIn (ox := { cls := .ref C, dict := none, data := .fields #[.ref t1, .none, .none, .none, .bool false, .none] }) (od := none) ⟨ho, rfl, rfl, trivial⟩ T.sa ?_
  refine PySem.Oxb.store_first I.kIn ho hcd (em ▸ hm) ehd hno (fun h1 t2 dx kp hbig hne hx hn => ?_)
  have fresh : H dx = none := I.hok.fresh hbig
  have offD : ∀ {b : Addr} {o : Obj}, h0.get? b = some o → b ≠ dx := fun z => Nat.ne_of_lt (Nat.lt_of_lt_of_le (Heap.lt_size z) hbig)
  have offA : ∀ {b : Addr}, H b = none → b ≠ a := fun {b} z1 z2 => by
    rw [z2, e] at z1
    cases z1
  have U : Un X.fs [] H (upd (upd H dx (exd dx [(f, y)])) a (exo a C (some dx))) h0 h1 :=
    ⟨fun b o z n _ _ => kp b o (offA n) z, fun b o z n _ _ => ⟨o.slots, kp b o (offA n) z⟩, fun b o z n _ => by rw [upd_ne (offA n), upd_ne (offD z)]; exact n,
      fun b o z _ => by
        by_cases hb : b = a
        · exact ⟨_, hb ▸ hx⟩
        · exact ⟨o, kp b o hb z⟩,
      fun b xs z => by rw [upd_ne (at_ne e z exo_tup), upd_ne (ne_of_none z fresh)]; exact z,
      fun b o v z => by rw [upd_ne (at_ne e z exo_frz), upd_ne (ne_of_none z fresh)]; exact z,
      fun b ps z => ⟨#[], by rw [upd_ne (at_ne e z exo_tbl), upd_ne (ne_of_none z fresh), z]; simp⟩⟩
  refine h dx _ fresh hne (I.un (t' := t2) U fun b o z => ?_)
  by_cases hb : b = a
  · subst hb
    rw [upd_same] at z
    cases z
    exact exo_ok hx
  rw [upd_ne hb] at z
  by_cases hd : b = dx
  · subst hd
    rw [upd_same] at z
    cases z
    exact exd_ok hn (relO_put (fs := []) ry fun _ => True.intro)
  rw [upd_ne hd] at z
  refine (I.hok b o z).stay (fun c v hc z2 => kp c v (fun z3 => ?_) z2) (fun c hc => by rw [upd_ne (at_ne e hc exo_own), upd_ne (ne_of_none hc fresh)]; exact hc) (fun c xs hc => by rw [upd_ne (at_ne e hc exo_tup), upd_ne (ne_of_none hc fresh)]; exact hc)
  rcases hc with hc | hc
  · exact hb (hc.symm.trans z3)
  · exact at_ne e hc exo_own z3
theorem ox_more (T : OxC X.K C B) (I : Inv X pins σ H s) (e : H a = some (exo a C (some dx))) (ed : H dx = some (exd dx fs)) (hl : fs.length ≤ 900) (hno : PySem.W.findIn X.K (.ref C) f = some none) (ry : RelV y u)
    (h : ∀ s1, Inv X pins σ (upd H dx (exd dx ((f, y) :: fs))) s1 → Q () s1) : wpAny (model X.prog X.w) A (setAttr (.ref a) f u) Q E s := by
  obtain ⟨nm, q, N, bs, bm, sn, sub, ab, col, dd, k0, k1, k2, k3, k5, newId, hC, _, _, hm⟩ := T.cls
  have hcl : ∃ cd, PySem.W.clsIn X.K C = some cd ∧ cd.mro = .ref C :: bm ∧ cd.hasDict = true := by
    unfold PySem.W.clsIn
    rw [hC]
    exact ⟨_, rfl, rfl, rfl⟩
  obtain ⟨cd, hcd, em, ehd⟩ := hcl
  obtain ⟨t1, ho⟩ := exo_at I.hok e
  obtain ⟨mA, hns, rel⟩ := exd_at I.hok ed
  have hw := within_of rel
  obtain ⟨h0, gs, dr, tn, os⟩ := s
  obtain ⟨oD, _, _, hoD, _, _⟩ := hns.count hw
  refine PySem.W.set_plain I.kIn (ox := { cls := .ref C, dict := some dx, data := .fields #[.ref t1, .none, .none, .none, .bool false, .none] }) (od := some oD) ⟨ho, rfl, rfl, hoD⟩ T.sa ?_
  refine PySem.Oxb.store_more I.kIn ho hns hw (by rw [List.length_map]; omega) hcd (em ▸ hm) ehd hno (fun h1 t2 kp hn => ?_)
  obtain ⟨o2, _, _, e2, _⟩ := id hn
  exact h _ (I.write (t' := t2) (x := dx) (e := dx) (o := exd dx ((f, y) :: fs)) (by rw [ed]; exact True.intro) (.inl rfl) kp ⟨o2, e2⟩ (exd_ok hn (relO_put ry rel)))
theorem ox_init {us : List Value} {Q : Value → Shared → Prop} (T : OxC X.K C B) (I : Inv X pins σ H s) (e : H a = some (exo a C none)) (hl : us.length ≤ sizeLine) (h : ∀ s1, Inv X pins σ H s1 → Q .none s1) :
    wpAny (model X.prog X.w) A (call (.builtin (B ++ ".__init__")) (.ref a :: us)) Q E s := by
  obtain ⟨nm, q, N, bs, bm, sn, sub, ab, col, dd, k0, k1, k2, k3, k5, newId, hC, _, FB, _⟩ := T.cls
  obtain ⟨t1, ho⟩ := exo_at I.hok e
  obtain ⟨h0, gs, dr, tn, os⟩ := s
  refine wpAny_call (PySem.Oxb.init_any FB (I.kIn _ _ hC) ho hl fun h1 t2 kp hx => ?_)
  have J := I.write (t' := tn) (x := a) (e := a) (o := exo a C none) (by rw [e]; exact True.intro) (.inl rfl) kp ⟨_, hx⟩ (exo_ok hx)
  have same : upd H a (exo a C none) = H := funext fun b => by
    by_cases hb : b = a
    · rw [hb, upd_same, e]
    · rw [upd_ne hb]
  rw [same] at J
  exact h _ J
end
/-- B.__init__(self, ..) -/
def tBI (K : PySem.W.Frag) (B : String) (ta : TA) : TE := fun σ H Q => ta σ H fun vs H1 => ∃ (a C : Addr) (ws : List V), vs = .ref a :: ws ∧ ws.length ≤ 1000 ∧ OxC K C B ∧ H1 a = some (exo a C none) ∧ Q .non H1
/-- self.f = e -/
def tOxs (K : PySem.W.Frag) (f : Str) (to te : TE) : TS := fun D σ H => te σ H fun y H1 => to σ H1 fun x H2 => ∃ (a C : Addr) (B : String), x = .ref a ∧ OxC K C B ∧ PySem.W.findIn K (.ref C) f = some none ∧
  ((H2 a = some (exo a C none) ∧ ∀ dx, H2 dx = none → dx ≠ a → D.nx σ (upd (upd H2 dx (exd dx [(f, y)])) a (exo a C (some dx)))) ∨
    ∃ (dx : Addr) (fs : List (Str × V)), H2 a = some (exo a C (some dx)) ∧ H2 dx = some (exd dx fs) ∧ fs.length ≤ 900 ∧ D.nx σ (upd H2 dx (exd dx ((f, y) :: fs))))
section
variable {X : Cx} {o e : Expr} {es : List Expr} {to te : TE} {ta : TA} {f : Str} {p p' p1 p2 pos : Pos} {B : String}
/-- B's own facts: the name, its type, its __init__ -/
structure BInit (K : PySem.W.Frag) (B : String) : Prop where
  boot : bootBuiltins (Str.ofString B) = some (.type B)
  ty : typeOf (.type B) = pure (.type "type")
  stub : Manifest.isStub B = false
  fnd : PySem.W.findCls K (.type B) (.type "type") "__init__" = some (.val (.builtin (B ++ ".__init__")))
  out : PySem.W.handedIn (.builtin (B ++ ".__init__")) = true
  nn : Str.ofString B ≠ "__name__"
  nd : (Str.ofString B == ("__debug__" : Str)) = false
theorem pe_binit {pl : Sem Bool} (b : BInit X.K B) (hg : Gl X (Str.ofString B)) (hm : X.mg (Str.ofString B) = none) (ha : PA X (e :: es) ta)
    (hc : eval (.Call (.Attribute (.Name (Str.ofString B) p1) "__init__" p2) (e :: es) [] pos) X.env = (do
      let ov ← eval (.Name (Str.ofString B) p1) X.env
      standAt p2.atName
      let (fn, first) ← holding [ov] (getMethod ov "__init__" pl)
      callWith pos fn first (backTo pos (starEach (e :: es) X.env)) (backToKw pos (keywordEach [] X.env))) := by rfl)
    (he : starEach (e :: es) X.env = (false, eval e X.env) :: starEach es X.env := by rfl) (hpl : (backTo pos (starEach es X.env)).any (·.1) = false := by rfl) :
    PE X (.Call (.Attribute (.Name (Str.ofString B) p1) "__init__" p2) (e :: es) [] pos) (tBI X.K B ta) := by
  refine ⟨fun pins s σ H Q I rd => ?_⟩
  refine PySem.W.methodCall_KW (ld_blt I hg hm b.boot ?_ b.nn b.nd) hc
  obtain ⟨m, fr⟩ := I.fr
  refine PySem.W.method_type fr I.ok.mod.kin b.ty b.stub b.fnd b.out ?_
  show wpAny _ _ (callWith pos (Value.builtin (B ++ ".__init__")) [] (backTo pos (starEach (e :: es) X.env)) []) _ _ _
  refine PyProof.Rows.callWith_method1 (thn (ha.run pos pins _ σ H _ (I.tok _) rd) fun us s1 ⟨vs, H1, I1, r1, a, C, ws, ev, hl, T, ea, q⟩ => ?_) he hpl
  subst ev
  cases r1 with
  | cons ra rs =>
    cases ra
    exact ox_init T I1 ea (by rw [← Paired.length rs, sizeLine_eq]; omega) fun s2 J => ⟨.non, H1, J, rfl, q⟩
theorem ps_oxs (ho : PE X o to) (he : PE X e te) (hs : swapsWith e (some (.Attribute o f p')) pos.line X.env = pure false := by rfl) : PS X (.Assign [.Attribute o f p'] e pos) (tOxs X.K f to te) := by
  refine ⟨fun pins s σ H D I rd => plainObj_wpAny_Assign_Attribute (thn (he.run pins s σ H _ I rd) fun v s1 ⟨y, H1, I1, r1, q1⟩ => thn (ho.run pins s1 σ H1 _ I1 q1) fun u s2 ⟨z, H2, I2, r2, a, C, B, ez, T, hno, q⟩ => ?_) hs⟩
  subst ez
  cases r2
  rcases q with ⟨ea, q⟩ | ⟨dx, fs, ea, ed, hl, q⟩
  · exact ox_first T I2 ea hno r1 fun dx s3 n ne J => ⟨σ, _, J, q dx n ne⟩
  · exact ox_more T I2 ea ed hl hno r1 fun s3 J => ⟨σ, _, J, q⟩
end
/-- C(e, ..) as a value: tracked from then on -/
def tMkV (C : Addr) (sp : Sp) (ta : TA) : TE := fun σ H Q => ta σ H fun vs H1 => vs.length ≤ 1000 ∧ ∀ a, H1 a = none → sp (.ref a :: vs) (upd H1 a (exo a C none))
  (fun v H2 => v = .non ∧ ∃ (d : Addr) (fs : List (Str × V)), H2 a = some (exo a C (some d)) ∧ H2 d = some (exd d fs) ∧ Q (.ref a) (upd (upd H2 a (exv a C d)) d (.xd fs))) (fun _ _ _ => False)
section
variable {X : Cx} {e : Expr} {es : List Expr} {ta : TA} {p pos : Pos} {B : String} {CX : CXT} {x : Str} {C fI : Addr} {k : Nat} {fd : FuncData} {ps : List Str} {sp : Sp}
/-- the exception that its __init__ has left, as a value -/
theorem inv_value {pins : List (Addr × Obj)} {σ : L2.St} {H : Hp} {s : Shared} {a d : Addr} {fs : List (Str × V)} (I : Inv X pins σ H s) (ea : H a = some (exo a C (some d))) (ed : H d = some (exd d fs)) :
    Inv X pins σ (upd (upd H a (exv a C d)) d (.xd fs)) s := by
  obtain ⟨t1, h1⟩ := exo_at I.hok ea
  obtain ⟨mA, h2, rel⟩ := exd_at I.hok ed
  obtain ⟨od, es', ep', h3, h4, _⟩ := id h2
  have nda : d ≠ a := fun z => by
    rw [z, h1] at h3
    have z2 := Option.some.inj h3
    subst z2
    cases h4
  have I1 := I.write (t' := s.toks) (x := a) (e := a) (o := exv a C d) (h' := s.heap) (by rw [ea]; exact True.intro) (.inl rfl) (fun _ _ _ z => z) ⟨_, h1⟩ (exv_ok h1 rfl rfl rfl)
  have ed1 : (upd H a (exv a C d)) d = some (exd d fs) := by
    rw [upd_ne nda]
    exact ed
  exact I1.write (t' := s.toks) (x := d) (e := d) (o := .xd fs) (h' := s.heap) (by rw [ed1]; exact True.intro) (.inl rfl) (fun _ _ _ z => z) ⟨_, h3⟩ ⟨mA, h2, rel⟩
theorem run_ox {pins : List (Addr × Obj)} {σ : L2.St} {H1 : Hp} {vs : List V} {us : List Value} {hp : Heap} {gs : Array GenState} {dr : Drawn} {tk : Nat} {os : OsState} {Qk : V → Hp → Prop} {G : Value → Shared → Prop} (T : OxC X.K C B) (iC : PySem.W.findIn X.K (.ref C) "__init__" = some (some (.ref fI)))
    (tI : PySem.W.typeIn X.K (.ref fI) = some (.type "function")) (F1 : FnOk X.prog X.w X.K X.mg X.base CX k fI fd ps sp) (hr : Room (k + 1) X.A) (hb : Binds X.K fd ps []) (hx : Passes CX X (fun _ _ _ => False)) (I1 : Inv X pins σ H1 ⟨hp, gs, dr, tk, os⟩) (r1 : Vals vs us) (hz : vs.length ≤ 1000)
    (q1 : sp (.ref (hp.objs.size + 1) :: vs) (upd H1 (hp.objs.size + 1) (exo (hp.objs.size + 1) C none)) Qk (fun _ _ _ => False))
    (fin : ∀ (kk : ∀ b o, hp.get? b = some o → ((hp.push (PySem.W.kdv_tup us)).push (PySem.HandSPX.excO C hp.objs.size)).get? b = some o)
      (I2 : Inv X pins σ (upd H1 (hp.objs.size + 1) (exo (hp.objs.size + 1) C none)) ⟨(hp.push (PySem.W.kdv_tup us)).push (PySem.HandSPX.excO C hp.objs.size), gs, dr, tk, os⟩) (v : V) (u : Value) (H2 : Hp) (s2 : Shared), s2.os = os → AllBare s2.gens →
      Un (frs X.stack) [] (upd H1 (hp.objs.size + 1) (exo (hp.objs.size + 1) C none)) H2 ((hp.push (PySem.W.kdv_tup us)).push (PySem.HandSPX.excO C hp.objs.size)) s2.heap → HOk X.prog X.w H2 s2.heap → RelV v u → Qk v H2 → u = .none ∧ G (.ref (hp.objs.size + 1)) s2) :
    wpAny (model X.prog X.w) X.A (call (.ref C) us) G X.xe ⟨hp, gs, dr, tk, os⟩ := by
  obtain ⟨nm, q, N, bs, bm, sn, sub, ab, col, dd, k0, k1, k2, k3, k5, newId, hC, Nw, _, _⟩ := T.cls
  have kk : ∀ b o, hp.get? b = some o → ((hp.push (PySem.W.kdv_tup us)).push (PySem.HandSPX.excO C hp.objs.size)).get? b = some o := fun b o z => Heap.get?_push_of_some _ (Heap.get?_push_of_some _ z)
  have hE : ((hp.push (PySem.W.kdv_tup us)).push (PySem.HandSPX.excO C hp.objs.size)).get? (hp.objs.size + 1) = some (PySem.HandSPX.excO C hp.objs.size) := by heap_get
  have I2 := I1.laid (t' := tk) (a := hp.objs.size + 1) (o := exo (hp.objs.size + 1) C none) kk (Nat.le_succ _) (exo_ok hE)
  have r2 : Vals (V.ref (hp.objs.size + 1) :: vs) (Value.ref (hp.objs.size + 1) :: us) := .cons rfl r1
  have hl : (Value.ref (hp.objs.size + 1) :: us ++ []).length = ps.length := by
    rw [List.append_nil, ← r2.length]
    exact F1.len _ _ _ _ q1
  have bd := hb _ (Value.ref (hp.objs.size + 1) :: us) I2.kIn hl
  rw [List.append_nil] at bd
  refine wpAny_call (PySem.Oxb.call_any Nw (I1.kIn _ _ hC) (PySem.W.looks_findIn I1.kIn iC) (fun self => PySem.W.bind_fn I1.kIn self tI) (by rw [← Paired.length r1, sizeLine_eq]; omega)
    (codeAny_mono (F1.run _ X.stack _ _ ⟨Value.ref (hp.objs.size + 1) :: us, []⟩ (Value.ref (hp.objs.size + 1) :: us) _ _ (fun _ _ _ => False) (hr.make C us []) (I2.env0.make C us []) bd r2 q1) fun res s2 hq => ?_))
  cases res with
  | error er => exact hx pins σ _ _ er s2 I2 hq
  | ok fl =>
    cases fl with
    | ret u =>
      obtain ⟨v, H2, o2, b2, un2, ok2, rv, qv⟩ := hq
      exact fin kk I2 v u H2 s2 o2 b2 un2 ok2 rv qv
    | next => exact hq.elim
    | brk => exact hq.elim
    | cont => exact hq.elim
/-- raise C(e, ..) -/
theorem pmk_ox (T : OxC X.K C B) (iC : PySem.W.findIn X.K (.ref C) "__init__" = some (some (.ref fI))) (tI : PySem.W.typeIn X.K (.ref fI) = some (.type "function"))
    (F1 : FnOk X.prog X.w X.K X.mg X.base CX k fI fd ps sp) (hr : Room (k + 1) X.A) (hb : Binds X.K fd ps []) (hx : Passes CX X (fun _ _ _ => False)) (hg : Gl X x) (hm : X.mg x = some (.ref C)) (ha : PA X (e :: es) ta)
    (hdb : (x == ("__debug__" : Str)) = false := by decide) (he : starEach (e :: es) X.env = (false, eval e X.env) :: starEach es X.env := by rfl) (hpl : (backTo pos (starEach es X.env)).any (·.1) = false := by rfl) :
    PMk X (.Call (.Name x p) (e :: es) [] pos) (tMkO C sp [] ta) := by
  intro pins s σ H Q I rd
  refine wpAny_Call_Name_kw (ld_glob I hg hm ?_ hdb)
  refine PySem.W.callWith_K (h₀ := X.base) I.ok.mod.kin T.kC (thn (ha.run pos pins s σ H _ I rd) fun us s1 ⟨vs, H1, I1, r1, hz, q1⟩ => ⟨I1.kIn, ?_⟩) he hpl
  show wpAny _ _ (call (.ref C) us) _ _ _
  obtain ⟨hp, gs, dr, tk, os⟩ := s1
  have q2 := q1 (hp.objs.size + 1) (I1.hok.fresh (Nat.le_succ _))
  rw [List.append_nil] at q2
  refine run_ox T iC tI F1 hr hb hx I1 r1 hz q2 (fun kk I2 v u H2 s2 o2 b2 un2 ok2 rv qv => ?_)
  obtain ⟨ev, d, fs, ea, ed, hd1, q3⟩ := qv
  subst ev
  obtain ⟨h2, g2, d2, t2, os2⟩ := s2
  exact ⟨rv, mk_end (raises_own T.exC T.tyC) I1 (Nat.le_succ _) kk un2 ok2 o2 b2 ea ed hd1 q3⟩
theorem pe_mkv (T : OxC X.K C B) (iC : PySem.W.findIn X.K (.ref C) "__init__" = some (some (.ref fI))) (tI : PySem.W.typeIn X.K (.ref fI) = some (.type "function"))
    (F1 : FnOk X.prog X.w X.K X.mg X.base CX k fI fd ps sp) (hr : Room (k + 1) X.A) (hb : Binds X.K fd ps []) (hx : Passes CX X (fun _ _ _ => False)) (hg : Gl X x) (hm : X.mg x = some (.ref C)) (ha : PA X (e :: es) ta)
    (hdb : (x == ("__debug__" : Str)) = false := by decide) (he : starEach (e :: es) X.env = (false, eval e X.env) :: starEach es X.env := by rfl) (hpl : (backTo pos (starEach es X.env)).any (·.1) = false := by rfl) :
    PE X (.Call (.Name x p) (e :: es) [] pos) (tMkV C sp ta) := by
  refine ⟨fun pins s σ H Q I rd => ?_⟩
  refine wpAny_Call_Name_kw (ld_glob I hg hm ?_ hdb)
  refine PySem.W.callWith_K (h₀ := X.base) I.ok.mod.kin T.kC (thn (ha.run pos pins s σ H _ I rd) fun us s1 ⟨vs, H1, I1, r1, hz, q1⟩ => ⟨I1.kIn, ?_⟩) he hpl
  show wpAny _ _ (call (.ref C) us) _ _ _
  obtain ⟨hp, gs, dr, tk, os⟩ := s1
  have q2 := q1 (hp.objs.size + 1) (I1.hok.fresh (Nat.le_succ _))
  refine run_ox T iC tI F1 hr hb hx I1 r1 hz q2 (fun kk I2 v u H2 s2 o2 b2 un2 ok2 rv qv => ?_)
  obtain ⟨ev, d, fs, ea, ed, q3⟩ := qv
  subst ev
  exact ⟨rv, .ref (hp.objs.size + 1), _, inv_value (I2.call' (ch := []) o2 un2 ok2 b2 (fun _ z => nomatch z)) ea ed, rfl, q3⟩
end
/-! ### the built-in errors that own ones stand under -/
section
open PySem.Oxb
theorem cont_obj {C : Addr} {l : List Value} (h : l.contains (.type "object") = true) : (Value.ref C :: l).contains (.type "object") = true := by
  rw [List.contains_cons, h, Bool.or_true]
theorem new_VE : NewOk "ValueError.__new__" [.type "ValueError", .type "Exception", .type "BaseException", .type "object"] := ⟨_, _, _, PySem.F.excBase_ValueError, by decide +kernel, by decide +kernel, by decide +kernel⟩
theorem init_VE : InitOk "ValueError" [.type "ValueError", .type "Exception", .type "BaseException", .type "object"] :=
  ⟨PySem.F.excBase_ValueError.init.plain, PySem.F.excBase_ValueError.initEntry, PySem.F.excBase_ValueError.initKind, PySem.F.excBase_ValueError.initSplit, PySem.F.excBase_ValueError.initRow, PySem.F.excBase_ValueError.noStar, by decide +kernel⟩
theorem mro_VE (C : Addr) : MroOk (.ref C :: [.type "ValueError", .type "Exception", .type "BaseException", .type "object"]) :=
  ⟨fun self => by rw [refuseLoop_ref]; exact PySem.F.store_ValueError.passes self, cont_obj (by decide +kernel), rfl⟩
theorem new_KE : NewOk "LookupError.__new__" [.type "KeyError", .type "LookupError", .type "Exception", .type "BaseException", .type "object"] := ⟨_, _, _, PySem.F.excBase_LookupError, by decide +kernel, by decide +kernel, by decide +kernel⟩
theorem init_KE : InitOk "KeyError" [.type "KeyError", .type "LookupError", .type "Exception", .type "BaseException", .type "object"] where
  plain := by decide +kernel
  entry := entryFor_alias (id' := "BaseException.__init__") (by rw [fastTable_eq_tree]; kernel_rfl)
    (by first | rfl | decide +kernel) (by decide +kernel) (by rw [fastTable_eq_tree]; kernel_rfl)
  kind := by kernel_rfl
  split := by kernel_rfl
  row := by kernel_rfl
  star := by decide +kernel
  has := by decide +kernel
theorem mro_KE (C : Addr) : MroOk (.ref C :: [.type "KeyError", .type "LookupError", .type "Exception", .type "BaseException", .type "object"]) :=
  ⟨fun self => by rw [refuseLoop_ref]; kernel_rfl, cont_obj (by decide +kernel), rfl⟩
end
/-! ### further built-in errors that own ones stand under -/
section
open PySem.Oxb
theorem new_LE : NewOk "LookupError.__new__" [.type "LookupError", .type "Exception", .type "BaseException", .type "object"] := ⟨_, _, _, PySem.F.excBase_LookupError, by decide +kernel, by decide +kernel, by decide +kernel⟩
theorem init_LE : InitOk "LookupError" [.type "LookupError", .type "Exception", .type "BaseException", .type "object"] :=
  ⟨PySem.F.excBase_LookupError.init.plain, PySem.F.excBase_LookupError.initEntry, PySem.F.excBase_LookupError.initKind, PySem.F.excBase_LookupError.initSplit, PySem.F.excBase_LookupError.initRow, PySem.F.excBase_LookupError.noStar, by decide +kernel⟩
theorem mro_LE (C : Addr) : MroOk (.ref C :: [.type "LookupError", .type "Exception", .type "BaseException", .type "object"]) :=
  ⟨fun self => by rw [refuseLoop_ref]; kernel_rfl, cont_obj (by decide +kernel), rfl⟩
theorem new_IE : NewOk "IndexError.__new__" [.type "IndexError", .type "LookupError", .type "Exception", .type "BaseException", .type "object"] := ⟨_, _, _, PySem.F.excBase_IndexError, by decide +kernel, by decide +kernel, by decide +kernel⟩
theorem init_IE : InitOk "IndexError" [.type "IndexError", .type "LookupError", .type "Exception", .type "BaseException", .type "object"] :=
  ⟨PySem.F.excBase_IndexError.init.plain, PySem.F.excBase_IndexError.initEntry, PySem.F.excBase_IndexError.initKind, PySem.F.excBase_IndexError.initSplit, PySem.F.excBase_IndexError.initRow, PySem.F.excBase_IndexError.noStar, by decide +kernel⟩
theorem mro_IE (C : Addr) : MroOk (.ref C :: [.type "IndexError", .type "LookupError", .type "Exception", .type "BaseException", .type "object"]) :=
  ⟨fun self => by rw [refuseLoop_ref]; kernel_rfl, cont_obj (by decide +kernel), rfl⟩
theorem new_RE : NewOk "RuntimeError.__new__" [.type "RuntimeError", .type "Exception", .type "BaseException", .type "object"] := ⟨_, _, _, PySem.F.excBase_RuntimeError, by decide +kernel, by decide +kernel, by decide +kernel⟩
theorem init_RE : InitOk "RuntimeError" [.type "RuntimeError", .type "Exception", .type "BaseException", .type "object"] :=
  ⟨PySem.F.excBase_RuntimeError.init.plain, PySem.F.excBase_RuntimeError.initEntry, PySem.F.excBase_RuntimeError.initKind, PySem.F.excBase_RuntimeError.initSplit, PySem.F.excBase_RuntimeError.initRow, PySem.F.excBase_RuntimeError.noStar, by decide +kernel⟩
theorem mro_RE (C : Addr) : MroOk (.ref C :: [.type "RuntimeError", .type "Exception", .type "BaseException", .type "object"]) :=
  ⟨fun self => by rw [refuseLoop_ref]; kernel_rfl, cont_obj (by decide +kernel), rfl⟩
theorem new_AE : NewOk "ArithmeticError.__new__" [.type "ArithmeticError", .type "Exception", .type "BaseException", .type "object"] := ⟨_, _, _, PySem.F.excBase_ArithmeticError, by decide +kernel, by decide +kernel, by decide +kernel⟩
theorem init_AE : InitOk "ArithmeticError" [.type "ArithmeticError", .type "Exception", .type "BaseException", .type "object"] :=
  ⟨PySem.F.excBase_ArithmeticError.init.plain, PySem.F.excBase_ArithmeticError.initEntry, PySem.F.excBase_ArithmeticError.initKind, PySem.F.excBase_ArithmeticError.initSplit, PySem.F.excBase_ArithmeticError.initRow, PySem.F.excBase_ArithmeticError.noStar, by decide +kernel⟩
theorem mro_AE (C : Addr) : MroOk (.ref C :: [.type "ArithmeticError", .type "Exception", .type "BaseException", .type "object"]) :=
  ⟨fun self => by rw [refuseLoop_ref]; kernel_rfl, cont_obj (by decide +kernel), rfl⟩
theorem new_OE : NewOk "OverflowError.__new__" [.type "OverflowError", .type "ArithmeticError", .type "Exception", .type "BaseException", .type "object"] := ⟨_, _, _, PySem.F.excBase_OverflowError, by decide +kernel, by decide +kernel, by decide +kernel⟩
theorem init_OE : InitOk "OverflowError" [.type "OverflowError", .type "ArithmeticError", .type "Exception", .type "BaseException", .type "object"] :=
  ⟨PySem.F.excBase_OverflowError.init.plain, PySem.F.excBase_OverflowError.initEntry, PySem.F.excBase_OverflowError.initKind, PySem.F.excBase_OverflowError.initSplit, PySem.F.excBase_OverflowError.initRow, PySem.F.excBase_OverflowError.noStar, by decide +kernel⟩
theorem mro_OE (C : Addr) : MroOk (.ref C :: [.type "OverflowError", .type "ArithmeticError", .type "Exception", .type "BaseException", .type "object"]) :=
  ⟨fun self => by rw [refuseLoop_ref]; kernel_rfl, cont_obj (by decide +kernel), rfl⟩
end
end Thr
namespace PySem
namespace Oxb
open PySem.W PySem.Calls PyProof.Rows PySem.HandSPX
section
variable {prog : Program} {w : World} {A : Around} {E : Value → Shared → Prop} {R : Result → Shared → Prop} {hp : Heap} {ga : Array GenState} {dw : Drawn} {tn : Nat} {os : OsState}
variable {n1 n2 : Str} {C N : Addr} {b1 bm : List Value} {hd : Bool} {s1 : List Str} {s2 : List Value} {ab : Bool} {co : Option Bool} {d1 : Option Addr} {k0 k1 k2 k3 k5 : Option Value} {B newId : String}
theorem new_kw (Nw : NewOk newId bm) {more : List Value} {kw : List (Str × Value)} (hC : hp.get? C = some (excClassObj n1 n2 C N b1 bm hd s1 s2 ab co d1 k0 k1 k2 k3 k5 newId)) (hl : more.length ≤ sizeLine)
    (hq : R (.ok (.ret (.ref (hp.objs.size + 1)))) ⟨(hp.push { cls := .type "tuple", data := .seq more.toArray }).push { cls := .ref C, data := .fields #[.ref hp.objs.size, .none, .none, .none, .bool false, .none] }, ga, dw, tn, os⟩) :
    codeAny (model prog w) A (.builtin newId ⟨.ref C :: more, kw⟩) R ⟨hp, ga, dw, tn, os⟩ := by
  obtain ⟨Bn, initn, bn, FB, c1, c2, c3⟩ := Nw.ex
  have e0 := FB.ends
  have e1 : (Value.ref C :: bm).contains (.type Bn) = true := by
    rw [List.contains_cons, c1, Bool.or_true]
  have e2 : (Value.ref C :: bm).contains (.type "AttributeError") = false := by
    rw [List.contains_cons, c2]
    rfl
  have e3 : (Value.ref C :: bm).contains (.type "NameError") = false := by
    rw [List.contains_cons, c3]
    rfl
  refine codeAny_builtinAt FB.entry ?_
  unfold Builtin.«BaseException.__new__»
  refine wpAt_bind ?_
  show wpAt _ _ _ (stack >>= _) _ _ _
  refine wpAt_bind (wpAt_stack fun p below => wpAt_of_wpAny ?_)
  wp_walk
  refine wpAt_of_wpAny ?_
  rw [FB.owner]
  repeat (first | with_reducible refine wpAny_madeHere_exc FB.canon hC ?_ | with_reducible refine wpAny_loadPart_at hC ?_ | (with_reducible refine wpAny_isSubtype_exc hC ?_; first | rw [e1] | rw [e2] | rw [e3]) | wp_step)
  show R _ _
  rw [Heap.size_push]
  exact hq
theorem check_kw (Nw : NewOk newId bm) {M : Model} {more : List Value} {kw : List (Str × Value)} {Q : Unit → Shared → Prop} (hC : hp.get? C = some (excClassObj n1 n2 C N b1 bm hd s1 s2 ab co d1 k0 k1 k2 k3 k5 newId)) (q : Q () ⟨hp, ga, dw, tn, os⟩) :
    wpAny M A (checkBuiltinCall newId ⟨.ref C :: more, kw⟩) Q E ⟨hp, ga, dw, tn, os⟩ := by
  obtain ⟨Bn, initn, bn, FB, c1, c2, c3⟩ := Nw.ex
  have e1 : (Value.ref C :: bm).contains (.type Bn) = true := by
    rw [List.contains_cons, c1, Bool.or_true]
  have e0 := FB.noStar
  simp only [checkBuiltinCall, FB.newKind, FB.newSplit, FB.newRow]
  repeat (first | refine wpAny_loadPart_at hC ?_ | (refine wpAny_isSubtype_exc hC ?_; rw [e1]) | refine wpAny_staticBase_exc hC ?_ | refine wpAny_madeBy_exc hC ?_ | simp only [bne_self_eq_false, Bool.false_eq_true, if_false] | wp_step)
  exact q
theorem typeCall_kw (Nw : NewOk newId bm) {more : List Value} {kw : List (Str × Value)} {fI : Addr} {Q : Fin → Shared → Prop} (hC : hp.get? C = some (excClassObj n1 n2 C N b1 bm hd s1 s2 ab co d1 k0 k1 k2 k3 k5 newId))
    (hi : W.Looks (model prog w) hp (typeLookup (.ref C) "__init__") (some (.ref fI))) (hb : ∀ self, W.Looks (model prog w) hp (bindSpecial (.ref fI) self) (.ref fI, [self])) (hl : more.length ≤ sizeLine)
    (hq : codeAny (model prog w) A (.call (.ref fI) ⟨.ref (hp.objs.size + 1) :: more, kw⟩) (fun res z => match res with | .ok (.ret v) => v = .none ∧ Q (.done (.ret (.ref (hp.objs.size + 1)))) z | .ok _ => False | .error er => E er z) ⟨(hp.push (W.kdv_tup more)).push (excO C hp.objs.size), ga, dw, tn, os⟩) :
    wpAny (model prog w) A (Builtin.«type.__call__» ⟨.ref C :: more, kw⟩) Q E ⟨hp, ga, dw, tn, os⟩ := by
  obtain ⟨Bn, initn, bn, FB, _, _, _⟩ := id Nw.ex
  repeat (first | with_reducible refine wpAny_loadPart_at hC ?_ | with_reducible refine wpAny_madeBy_exc hC ?_ | wp_step)
  refine codeAny_call_builtin_code (Code.quiet_builtin _ FB.quiet) (check_kw Nw hC ?_)
  refine new_kw Nw hC hl ?_
  show wpAny _ _ _ _ _ _
  have up : ∀ b o, hp.get? b = some o → ((hp.push (W.kdv_tup more)).push (excO C hp.objs.size)).get? b = some o := fun b o z => Heap.get?_push_of_some _ (Heap.get?_push_of_some _ z)
  have hC2 := up _ _ hC
  have hE : ((hp.push (W.kdv_tup more)).push (excO C hp.objs.size)).get? (hp.objs.size + 1) = some (excO C hp.objs.size) := by heap_get
  have self_in : (Value.ref C :: bm).contains (.ref C) = true := by simp
  have l1 := hi.keeps up
  have l2 := (hb (.ref (hp.objs.size + 1))).keeps up
  unfold isInstance
  repeat (first | with_reducible refine wpAny_loadPart_at hE ?_ | (with_reducible refine wpAny_isSubtype_exc hC2 ?_; rw [self_in]) | wp_step)
  show wpAny _ _ (typeLookup (.ref C) _) _ _ _
  refine l1.at (wpAny_holding (wpAny_bind (l2.at ?_)))
  refine wpAny_bind (wpAny_call (codeAny_mono hq fun res z q => ?_))
  rcases res with er | (v | _ | _ | _) <;> first | exact q | exact q.elim | skip
  obtain ⟨rfl, q⟩ := q
  first
    | exact wpAny_pure (wpAny_pure q)
    | (wp_walk; exact q)
theorem call_kw (Nw : NewOk newId bm) {more : List Value} {kw : List (Str × Value)} {fI : Addr} (hC : hp.get? C = some (excClassObj n1 n2 C N b1 bm hd s1 s2 ab co d1 k0 k1 k2 k3 k5 newId))
    (hi : W.Looks (model prog w) hp (typeLookup (.ref C) "__init__") (some (.ref fI))) (hb : ∀ self, W.Looks (model prog w) hp (bindSpecial (.ref fI) self) (.ref fI, [self])) (hl : more.length ≤ sizeLine)
    (hq : codeAny (model prog w) (A.under (.builtin "type.__call__" ⟨.ref C :: more, kw⟩)) (.call (.ref fI) ⟨.ref (hp.objs.size + 1) :: more, kw⟩) (W.InitBack (hp.objs.size + 1) R) ⟨(hp.push (W.kdv_tup more)).push (excO C hp.objs.size), ga, dw, tn, os⟩) :
    codeAny (model prog w) A (.call (.ref C) ⟨more, kw⟩) R ⟨hp, ga, dw, tn, os⟩ := by
  have g1 := tc_lookup
  have g2 := tc_bind (.ref C)
  have hty : (⟨hp, ga, dw, tn, os⟩ : Shared).TypeIs (.ref C) "type" := ⟨_, hC, rfl⟩
  refine codeAny_of_tree ?_
  show wpAny _ _ (callAny (.ref C) _) _ _ _
  repeat (any_goals (first | assumption | with_reducible refine wpAny_loadPart_at hC ?_ | wp_step))
  refine ⟨rfl, codeAny_call_builtin_at (Code.quiet_builtin _ (by decide +kernel)) entry_typeCall (wpAny_check_type_call_sub hC (typeCall_kw Nw hC hi hb hl (codeAny_mono hq fun res z q => ?_)))⟩
  rcases res with er | (v | _ | _ | _) <;> exact q
end
end Oxb
end PySem
namespace Thr
open PySem PySem.Spec PyProof.Rows L2
/-! ### C(k=e, ..) as a value -/
def tMkVK (C : Addr) (sp : Sp) (gV : List V → List V → List V) (m : Nat) (tk : TA) : TE := fun σ H Q => tk σ H fun zs H1 => zs.length = m ∧ ∀ a, H1 a = none → sp (gV [.ref a] zs) (upd H1 a (exo a C none))
  (fun v H2 => v = .non ∧ ∃ (d : Addr) (fs : List (Str × V)), H2 a = some (exo a C (some d)) ∧ H2 d = some (exd d fs) ∧ Q (.ref a) (upd (upd H2 a (exv a C d)) d (.xd fs))) (fun _ _ _ => False)
section
variable {X : Cx} {kws : List Keyword} {tk : TA} {p pos : Pos} {B : String} {CX : CXT} {x : Str} {C fI : Addr} {k : Nat} {fd : FuncData} {ps ks : List Str} {sp : Sp} {g : List Value → List Value → List Value} {gV : List V → List V → List V}
theorem pe_mkvK (T : OxC X.K C B) (iC : PySem.W.findIn X.K (.ref C) "__init__" = some (some (.ref fI))) (tI : PySem.W.typeIn X.K (.ref fI) = some (.type "function"))
    (F1 : FnOk X.prog X.w X.K X.mg X.base CX k fI fd ps sp) (hr : Room (k + 1) X.A) (hb : KBn X.K fd ps 1 ks g gV) (hx : Passes CX X (fun _ _ _ => False)) (hg : Gl X x) (hm : X.mg x = some (.ref C)) (hkw : PK X kws tk)
    (hall : (backToKw pos (keywordEach kws X.env)).all (·.1.isSome) = true := by rfl) (hks : (backToKw pos (keywordEach kws X.env)).filterMap (·.1) = ks := by rfl) (hdb : (x == ("__debug__" : Str)) = false := by decide)
    (hpl : ((backTo pos (starEach [] X.env)).any (·.1) || (backToKw pos (keywordEach kws X.env)).any (·.1.isNone)) = false := by rfl) :
    PE X (.Call (.Name x p) [] kws pos) (tMkVK C sp gV ks.length tk) := by
  refine ⟨fun pins s σ H Q I rd => wpAny_Call_Name_kw (ld_glob I hg hm ?_ hdb)⟩
  refine PySem.W.callWith_KW0 (h₀ := X.base) I.ok.mod.kin T.kC hall ?_ hpl
  refine thn (hkw.run pos pins s σ H _ I rd) fun ws s1 ⟨zs, H1, I1, rz, l2, q1⟩ => ⟨I1.kIn, ?_⟩
  rw [hks]
  show wpAny _ _ (call (.ref C) [] (ks.zip ws)) _ _ _
  obtain ⟨hp, gs, dr, tk, os⟩ := s1
  have q2 := q1 (hp.objs.size + 1) (I1.hok.fresh (Nat.le_succ _))
  obtain ⟨nm, q, N, bs, bm, sn, sub, ab, col, dd, k0, k1, k2, k3, k5, newId, hC, Nw, _, _⟩ := T.cls
  have kk : ∀ b o, hp.get? b = some o → ((hp.push (PySem.W.kdv_tup [])).push (PySem.HandSPX.excO C hp.objs.size)).get? b = some o := fun b o z => Heap.get?_push_of_some _ (Heap.get?_push_of_some _ z)
  have hE : ((hp.push (PySem.W.kdv_tup [])).push (PySem.HandSPX.excO C hp.objs.size)).get? (hp.objs.size + 1) = some (PySem.HandSPX.excO C hp.objs.size) := by heap_get
  have I2 := I1.laid (t' := tk) (a := hp.objs.size + 1) (o := exo (hp.objs.size + 1) C none) kk (Nat.le_succ _) (exo_ok hE)
  have rs : Vals [V.ref (hp.objs.size + 1)] [Value.ref (hp.objs.size + 1)] := .cons rfl .nil
  have r2 := hb.rel rs rz
  refine wpAny_call (PySem.Oxb.call_kw (more := []) (kw := ks.zip ws) Nw (I1.kIn _ _ hC) (PySem.W.looks_findIn I1.kIn iC) (fun self => PySem.W.bind_fn I1.kIn self tI) (by decide)
    (codeAny_mono (F1.run _ X.stack _ _ ⟨[Value.ref (hp.objs.size + 1)], ks.zip ws⟩ (g [Value.ref (hp.objs.size + 1)] ws) (gV [V.ref (hp.objs.size + 1)] zs) _ (fun _ _ _ => False) (hr.make C [] _) (I2.env0.make C [] _) (hb.to _ _ ws I2.kIn rfl (rz.length.symm.trans l2)) r2 q2) fun res s2 hq => ?_))
  cases res with
  | error er => exact hx pins σ _ _ er s2 I2 hq
  | ok fl =>
    cases fl with
    | ret u =>
      obtain ⟨v, H2, o2, b2, un2, ok2, rv, ev, d, fs, ea, ed, q3⟩ := hq
      subst ev
      exact ⟨rv, .ref (hp.objs.size + 1), _, inv_value (I2.call' (ch := []) o2 un2 ok2 b2 (fun _ z => nomatch z)) ea ed, rfl, q3⟩
    | next => exact hq.elim
    | brk => exact hq.elim
    | cont => exact hq.elim
end
/-! ### defs that make texts of lists and tuples: they run where no such text is under way -/
structure FnG (P : Program) (w : World) (K : PySem.W.Frag) (mg : Str → Option Value) (base : Heap) (k : Nat) (f : Addr) (fd : FuncData) (qs : List Str) (sp : Sp) : Prop where
  size : ∀ xs G R Z, sp xs G R Z → xs.length = qs.length
  goes : ∀ (B : Around) (up : List Env) (t : Shared) (G : Hp) (ar : Args) (ws : List Value) (xs : List V) (R : VK) (Z : XK), B.guards = some [] → Room k B → Env0 P w K mg base B up t G →
    BindsTo t fd ar (qs.zip ws) → Vals xs ws → sp xs G R Z → codeAny (model P w) B (.call (.ref f) ar) (CR CX0 up P w G t R Z) t
section
variable {P : Program} {w : World} {K : PySem.W.Frag} {mg : Str → Option Value} {base : Heap}
theorem fng_of {x qual : Str} {st : Stmt} {f : Addr} {fd : FuncData} {N qs : List Str} {k : Nat} {sp : Sp} (F : L2.Fun K x qual st f fd) (S : FnScope N qs (defScope st)) (size : ∀ xs G R Z, sp xs G R Z → xs.length = qs.length)
    (hb : ∀ (cv : Value) (B : Around) (up : List Env) (t : Shared) (G : Hp) (xs : List V) (R : VK) (Z : XK), (B.deeper (envOfC qual (defScope st) t.heap.objs.size f cv)).guards = some [] → Room k (B.deeper (envOfC qual (defScope st) t.heap.objs.size f cv)) → sp xs G R Z →
      ∃ d, PSs (cxOf CX0 P w K mg base N qual (defScope st) f cv B up t G Z).nox (defBody st) d ∧ d { nx := fun _ G' => R .non G', rt := R } (start N xs) G) : FnG P w K mg base (k + 1) f fd qs sp := by
  obtain ⟨oc, od, kV, doc, pm, an, cv, ct, osl, rfl, at_, co⟩ := F.ex
  refine ⟨size, fun B up t G ar ws xs R Z hg rm e0 bt rel hsp => ?_⟩
  have keepB : ∀ b o, base.get? b = some o → t.heap.get? b = some o := fun b o e => (e0.bs b o e).1
  have inT : K.In t.heap := e0.mod.kin.keeps keepB
  have noL : t.heap.NoLimit := e0.mod.nolimit.keeps keepB
  have kinds : ∀ y ∈ qs.zip ws, (defScope st).names.lookup y.1 = some .local ∨ ((defScope st).names.lookup y.1 = some .cell ∧ ((cellsFrom (t.heap.objs.size + 1) (defScope st).names []).lookup y.1).isSome = true) := by
    rintro ⟨n, v⟩ hy
    rcases S.par n (List.of_mem_zip hy).1 with z | z
    · exact .inl z
    · exact .inr ⟨z, PySem.W.cellsFrom_some _ _ _ (.inl z)⟩
  refine codeAny_call_function rm.depth (inT _ _ at_) rfl S.co S.gen rfl (PySem.W.codeRec_of inT co) (bt _ _ _ _ ?_)
  refine wpAny_newFunctionEnv_cells S.kind kinds fun en hen t1 y => ?_
  subst hen
  refine ⟨noL.keeps y.toInCall.keep, codeAny_func ?_⟩
  obtain ⟨d, hd, hq⟩ := hb cv B up t G xs R Z hg (rm.deeper _) hsp
  have J0 : Inv (cxOf CX0 P w K mg base N qual (defScope st) f cv B up t G Z) [] (start N xs) G t1 := inv_start S rm.hd e0 (size _ _ _ _ hsp) rel y
  refine wpAny_mono (hd.nox.run [] t1 (start N xs) G _ J0 hq) (fun out t' hs => ?_) fun _ _ hs => hs
  cases out with
  | next =>
    obtain ⟨_, G', J, z⟩ := hs
    exact ⟨.non, G', J.os, J.bare, J.base, J.hok, rfl, z⟩
  | ret u =>
    obtain ⟨v, _, G', J, rv, z⟩ := hs
    exact ⟨v, G', J.os, J.bare, J.base, J.hok, rv, z⟩
  | brk =>
    obtain ⟨_, _, _, z⟩ := hs
    exact z.elim
  | cont =>
    obtain ⟨_, _, _, z⟩ := hs
    exact z.elim
end
/-- such a def under its name -/
structure CalG (P : Program) (w : World) (K : PySem.W.Frag) (mg : Str → Option Value) (base : Heap) (k : Nat) (x : Str) (sp : Sp) : Prop where
  ex : ∃ (f : Addr) (fd : FuncData) (qs : List Str), FnG P w K mg base k f fd qs sp ∧ mg x = some (.ref f) ∧ PySem.W.keepIn K (.ref f) = true ∧ Binds K fd qs []
section
variable {X : Cx} {k j : Nat} {x : Str} {sp : Sp} {p pos : Pos} {e : Expr} {es : List Expr} {t : TA}
theorem pe_cG (c : CalG X.prog X.w X.K X.mg X.base k x sp) (hg : X.A.guards = some []) (hr : Room j X.A) (hk : k ≤ j) (gl : Gl X x) (ha : PA X (e :: es) t) (hdb : (x == ("__debug__" : Str)) = false := by decide)
    (he : starEach (e :: es) X.env = (false, eval e X.env) :: starEach es X.env := by rfl) (hpl : (backTo pos (starEach es X.env)).any (·.1) = false := by rfl) : PE X (.Call (.Name x p) (e :: es) [] pos) (tCall sp [] C8.E0 t) := by
  obtain ⟨f, fd, qs, F, hm, kp, b⟩ := c.ex
  refine ⟨fun pins s σ H Q I h => wpAny_Call_Name_kw (ld_glob I gl hm ?_ hdb)⟩
  refine PySem.W.callWith_K (h₀ := X.base) I.ok.mod.kin kp (thn (ha.run pos pins s σ H _ I h) fun us s1 ⟨vs, H1, I1, r, q⟩ => ⟨I1.kIn, ?_⟩) he hpl
  have q2 : sp vs H1 Q C8.E0 := by
    have q3 : sp (vs ++ []) H1 Q C8.E0 := q
    rw [List.append_nil] at q3
    exact q3
  have hl : us.length = qs.length := by
    rw [← r.length]
    exact F.size _ _ _ _ q2
  have bb := b s1 us I1.kIn (by rw [List.append_nil]; exact hl)
  rw [List.append_nil] at bb
  refine wpAny_call (codeAny_mono (F.goes X.A X.stack s1 H1 ⟨us, []⟩ us vs Q C8.E0 hg (hr.mono hk) I1.env0 bb r q2) fun res s' hq => ?_)
  cases res with
  | error er => exact hq.elim
  | ok fl =>
    cases fl with
    | ret u => exact I1.after hq
    | next => exact hq.elim
    | brk => exact hq.elim
    | cont => exact hq.elim
/-- repr of data -/
def rReprD (K : PySem.W.Frag) : List V → Hp → VK → Prop := fun xs H Q => ∃ (v : V) (d : PyData), xs = [v] ∧ Dp K H v d ∧ d.showable = true ∧ d.hasDict = false ∧ d.depth ≤ 100 ∧ d.shown.length ≤ sizeLine ∧ Q (.str d.shown) H
theorem cr_reprD (hg : X.A.guards = some []) (hr : Room j X.A) : CallR X (.builtin "repr") (rReprD X.K) := by
  intro pins s σ H xs us Q I r h
  obtain ⟨v, d, rfl, hd, hs, hn, hp, hz, q⟩ := h
  cases r with
  | cons r1 rr =>
    cases rr
    have un := hr.un
    cases hd with
    | non =>
      cases (show _ = Value.none from r1)
      exact PySem.P.repr_of_none ⟨.str "None", H, I.tok _, ⟨_, rfl⟩, q⟩
    | bl b =>
      cases (show _ = Value.bool b from r1)
      exact PySem.P.repr_of_bool ⟨.str (PyData.shown (.bool b)), H, I.tok _, ⟨_, by cases b <;> rfl⟩, q⟩
    | int i =>
      obtain ⟨t, rfl⟩ := (show ∃ t, _ = Value.int i t from r1)
      exact PySem.P.repr_of_int (of_decide_eq_true hs) ⟨.str (PyData.shown (.int i)), H, I.tok _, ⟨_, rfl⟩, q⟩
    | str z =>
      obtain ⟨t, rfl⟩ := (show ∃ t, _ = Value.str z t from r1)
      exact PySem.P.repr_of_str ⟨.str (PyData.shown (.str z)), H, I.tok _, ⟨_, rfl⟩, q⟩ hz
    | lst h1 h2 =>
      rename_i a xs ds
      obtain rfl : _ = Value.ref a := r1
      obtain ⟨as, rd⟩ := Dp.reads I (.list ds) (.ref a) (.ref a) (.lst h1 h2) rfl
      exact repr_of_reads' rd hs (PyData.noDict_hsm hn) hg (by omega) (fun _ _ e => e) (fun h' u tk hk => ⟨.str _, H, I.kept (t' := tk) hk, ⟨_, rfl⟩, q⟩) hz
    | tup h1 h2 =>
      rename_i a xs ds
      obtain rfl : _ = Value.ref a := r1
      obtain ⟨as, rd⟩ := Dp.reads I (.tuple ds) (.ref a) (.ref a) (.tup h1 h2) rfl
      exact repr_of_reads' rd hs (PyData.noDict_hsm hn) hg (by omega) (fun _ _ e => e) (fun h' u tk hk => ⟨.str _, H, I.kept (t' := tk) hk, ⟨_, rfl⟩, q⟩) hz
end
/-! ### the end, for a law that makes texts of lists and tuples -/
section
variable {P : Program} {w : World} {K : PySem.W.Frag} {mg mb : Str → Option Value} {k : Nat} {fa a : Addr} {fd : FuncData} {x : Str} {sp : Sp} {s1 : Shared} {us : List Value} {ns : List Int}
/-- from a heap in which the script alone may be tracked -/
theorem end_from {H : Hp} (inK : K.In s1.heap) (nm : s1.heap.Ns mainGlobals mg) (nb : s1.heap.Ns builtinsNs mb) (bb : ∀ y : Str, y ≠ "__name__" → mb y = bootBuiltins y) (lim : s1.heap.NoLimit) (gs : s1.gens = #[])
    (at_ : s1.heap.get? a = some { cls := .type "list", data := .seq us.toArray }) (rm : Room k callerA)
    (F : ∀ base : Heap, K.In base → base.Ns mainGlobals mg → FnG P w K mg base k fa fd [x] sp) (bt : ∀ (s : Shared) (u : Value), BindsTo s fd ⟨[u], []⟩ [(x, u)])
    (hO : Only H) (want : sp [.ref a] H (fun v _ => v = .bl true) fun _ _ _ => False) (hok : HOk P w H s1.heap) (onlyA : ∀ b, H b ≠ none → b = a) (offK : H a ≠ none → K.lookup a = none) :
    codeAny (model P w) callerA (.call (.ref fa) ⟨[.ref a], []⟩) (fun r s' => r = .ok (.ret (.bool true)) ∧ OldK s1.heap s'.heap ∧ s'.os = s1.os ∧ AllBare s'.gens) s1 := by
  have untr : ∀ {b : Addr}, (b = a → False) → H b = none := fun {b} nb => by
    cases z : H b with
    | none => rfl
    | some u => exact (nb (onlyA b (by rw [z]; simp))).elim
  have stay : ∀ {b : Addr} {o : Obj}, s1.heap.get? b = some o → H b = none → (hidT s1.heap H).get? b = some o := fun e n => hidT_get e n
  have names : ∀ {b : Addr} {m : Str → Option Value}, s1.heap.Ns b m → (hidT s1.heap H).Ns b m := fun {b m} ⟨o, es, ep, e, d, r⟩ => ⟨o, es, ep, stay e (untr fun z => by
    subst z
    rw [at_] at e
    cases e
    have d2 : Data.seq us.toArray _ = Data.dict es ep := d
    cases d2), d, r⟩
  have inK2 : K.In (hidT s1.heap H) := fun b o e => stay (inK b o e) (by
    cases z : H b with
    | none => rfl
    | some u =>
      have e2 : b = a := onlyA b (by rw [z]; simp)
      subst e2
      rw [offK (by rw [z]; simp)] at e
      cases e)
  obtain ⟨mc, l1, l2⟩ := lim
  have start0 : Env0 P w K mg (hidT s1.heap H) callerA [] s1 H :=
    ⟨rfl, ⟨inK2, names nm, ⟨mb, names nb, bb⟩, ⟨mc, names l1, l2⟩⟩, fun b o e => of_hidT e, Nat.le_of_eq (hidT_size _ _), trivial, fun b hb => absurd (show b ∈ ([] : List Addr) from hb) (by simp), hok, .of_eq gs⟩
  refine codeAny_mono ((F _ inK2 (names nm)).goes callerA [] s1 H ⟨[.ref a], []⟩ [.ref a] [.ref a] _ _ rfl rm start0 (bt s1 (.ref a)) (.cons rfl .nil) want) fun out t hs => ?_
  cases out with
  | error er => exact hs.elim
  | ok fl =>
    cases fl with
    | ret u =>
      obtain ⟨v, H', os, bare, un, hok2, rv, z⟩ := hs
      have z2 : v = .bl true := z
      subst z2
      obtain rfl : u = Value.bool true := rv
      refine ⟨rfl, OldK.of_keep fun b o e => ?_, os, bare⟩
      cases z : H b with
      | none => exact un.keep b o e z (fun y => absurd (show b ∈ ([] : List Addr) from y) (by simp)) (by simp)
      | some h0 =>
        rcases hO b with y | ⟨ob, xs, y⟩
        · rw [z] at y
          cases y
        · obtain ⟨e1, _⟩ := hok b _ y
          obtain ⟨e2, _⟩ := hok2 b _ (un.frzs b ob _ y)
          rw [e] at e1
          cases e1
          exact e2
    | next => exact hs.elim
    | brk => exact hs.elim
    | cont => exact hs.elim
theorem end_call (inK : K.In s1.heap) (nm : s1.heap.Ns mainGlobals mg) (nb : s1.heap.Ns builtinsNs mb) (bb : ∀ y : Str, y ≠ "__name__" → mb y = bootBuiltins y) (lim : s1.heap.NoLimit) (gs : s1.gens = #[])
    (at_ : s1.heap.get? a = some { cls := .type "list", data := .seq us.toArray }) (hIn : IntsAre us ns) (fits : ns.length ≤ sizeLine) (rm : Room k callerA)
    (F : ∀ base : Heap, K.In base → base.Ns mainGlobals mg → FnG P w K mg base k fa fd [x] sp) (bt : ∀ (s : Shared) (u : Value), BindsTo s fd ⟨[u], []⟩ [(x, u)])
    (want : ∀ H : Hp, Only H → SqL K H a (ns.map V.int) → sp [.ref a] H (fun v _ => v = .bl true) fun _ _ _ => False) :
    codeAny (model P w) callerA (.call (.ref fa) ⟨[.ref a], []⟩) (fun r s' => r = .ok (.ret (.bool true)) ∧ OldK s1.heap s'.heap ∧ s'.os = s1.os ∧ AllBare s'.gens) s1 := by
  have rel := vals_ints hIn
  have len := hIn.length
  cases lk : K.lookup a with
  | some o =>
    have e := inK a o lk
    rw [at_] at e
    cases e
    have only0 : Only (fun _ => none) := fun _ => .inl rfl
    exact end_from (H := fun _ => none) inK nm nb bb lim gs at_ rm F bt only0 (want _ only0 (.inr ⟨_, us.toArray, _, lk, rfl, rfl, rfl, by rw [List.size_toArray, len]; exact fits, by simpa using rel⟩))
      (fun b u z => nomatch (show (none : Option HO) = some u from z)) (fun b z => absurd rfl z) fun z => absurd rfl z
  | none =>
    have pos : ∀ {b : Addr}, b = a → (if b = a then some (HO.frz { cls := .type "list", data := .seq us.toArray } (.lst (ns.map V.int))) else none) = some (.frz { cls := .type "list", data := .seq us.toArray } (.lst (ns.map V.int))) := fun e => if_pos e
    have only1 : Only (fun b => if b = a then some (.frz { cls := .type "list", data := .seq us.toArray } (.lst (ns.map V.int))) else none) := fun b => by
      by_cases e : b = a
      · exact .inr ⟨_, _, pos e⟩
      · exact .inl (if_neg e)
    refine end_from inK nm nb bb lim gs at_ rm F bt only1 (want _ only1 (.inl (.inr ⟨{ cls := .type "list", data := .seq us.toArray }, if_pos rfl⟩))) (fun b u z => ?_) (fun b z => ?_) fun _ => lk
    · by_cases e : b = a
      · have y := (pos e).symm.trans z
        cases y
        subst e
        exact ⟨at_, by rw [List.length_map]; exact fits, us, _, rel, at_⟩
      · have y := (if_neg e).symm.trans z
        cases y
    · by_cases e : b = a
      · exact e
      · exact absurd (if_neg e) z
end
theorem walk_ofG {l : PySem.W.OpenLaw} {n k : Nat} {q : Program} {loose : List Str} {XP : (Str → Option Value) → Heap → Prop} {YP : World → Heap → Prop} {d : DefRec} {K : Params → PySem.W.Frag} {sp : World → Sp} {x : Str}
    (hn : l.most = some n) (hn2 : n ≤ sizeLine) (hdf : d.params.defaults = []) (rm : Room k callerA) (inK : ∀ (w : World) (h : Heap), YP w h → (K w.params).In h)
    (F : ∀ (w : World) (mg : Str → Option Value) (fa : Addr) (h : Heap), (K w.params).In h → h.Ns mainGlobals mg → mg d.name = some (.ref fa) →
      ∃ fd : FuncData, (∀ (s : Shared) (u : Value), BindsTo s fd ⟨[u], []⟩ [(x, u)]) ∧ ∀ base : Heap, (K w.params).In base → base.Ns mainGlobals mg → FnG l.prog w (K w.params) mg base k fa fd [x] (sp w))
    (want : ∀ (w : World) (H : Hp) (a : Addr) (ns : List Int), ns.length ≤ n → Only H → SqL (K w.params) H a (ns.map V.int) → sp w [.ref a] H (fun v _ => v = .bl true) fun _ _ _ => False) :
    PySem.W.WalkO q loose XP YP l.row.toRowW d [] (fun f vs => PySem.call f vs) := by
  refine Att.attach_call hn hdf fun w s0 s1 mg mb fa o pm cd doc a us ns G Y ho hd hcd hmg hobj hints hlen hg => ?_
  obtain ⟨fd, bt, go⟩ := F w mg fa _ (inK w _ Y) G.T.g hmg
  exact end_call (inK w _ Y) G.T.g G.T.b G.T.builtins G.T.nolimit hg hobj hints (Nat.le_trans hlen hn2) rm go bt fun H hO hS => want w H a ns hlen hO hS
def top (i : Nat) : Stmt := PySem.Challenge.pw_threereckons_k16_no_node_there.main.body.getD i (.Pass ⟨0, 0, 0, 0⟩)
/-! ### the draws -/
abbrev s__law_take : Stmt := top 18
abbrev N__law_take : List Str := ["_law_box", "_law_many", "_law_found", "_law_once", "_law_twice"]
abbrev P__law_take : List Str := ["_law_box", "_law_many"]
theorem sc__law_take : FnScope N__law_take P__law_take (defScope s__law_take) := ⟨rfl, rfl, rfl, by decide +kernel, rfl, by decide +kernel, by decide +kernel⟩
abbrev s__law_dip : Stmt := top 17
abbrev N__law_dip : List Str := ["_law_script", "_law_k", "_law_cell"]
abbrev P__law_dip : List Str := ["_law_script", "_law_k"]
theorem sc__law_dip : FnScope N__law_dip P__law_dip (defScope s__law_dip) := ⟨rfl, rfl, rfl, by decide +kernel, rfl, by decide +kernel, by decide +kernel⟩
abbrev s__law_folded : Stmt := top 19
abbrev N__law_folded : List Str := ["_law_script", "_law_size", "_law_cells", "_law_k", "_law_cell"]
abbrev P__law_folded : List Str := ["_law_script", "_law_size"]
theorem sc__law_folded : FnScope N__law_folded P__law_folded (defScope s__law_folded) := ⟨rfl, rfl, rfl, by decide +kernel, rfl, by decide +kernel, by decide +kernel⟩
section
variable {P : Program} {w : World} {K : PySem.W.Frag} {mg : Str → Option Value} {base : Heap}
theorem ok_take (D : Dd K mg "_law_take" s__law_take P__law_take) : C8.Cal P w K mg base 1 "_law_take" spTake [] := by
  refine D.cal sc__law_take (fun vs H Q E h => ?_) (fun f cdv A outer s H vs Q E hr h => ?_)
  · obtain ⟨a, many, n, b, rfl, _⟩ := h
    rfl
  · obtain ⟨a, many, n, b, rfl, ha, ⟨b0, b1, b2, rfl, h0, h1, h1', h2, h2'⟩, hn, hm, hm', k⟩ := h
    refine ⟨_, (pss_cons (ps_if (pt_cmpR op_gt (pe_ix ix_list (pv 0) pe_int (fun _ _ => rfl)) pe_int (nomark _))
          (pss_cons (ps_set (i := 2) sc__law_take.nd rfl (Or.inl rfl) (pe_op op_mod (pe_ix ix_list (pv 0) pe_int (fun _ _ => rfl)) (pv 1)))
        (pss_cons (ps_asg (pe_op op_fdiv (pe_ix ix_list (pv 0) pe_int (fun _ _ => rfl)) (pv 1)) (pg_sub (pv 0) pe_int set_list))
        (pss_one (ps_ret (pv 2)))))
          pss_nil)
        (pss_cons (ps_asg (pe_op op_add (pe_ix ix_list (pv 0) pe_int (fun _ _ => rfl)) pe_int) (pg_sub (pv 0) pe_int set_list))
        (pss_cons (ps_set (i := 3) sc__law_take.nd rfl (Or.inl rfl) (pe_op op_mod (pe_op op_pow (pe_op op_add (pe_ix ix_list (pv 0) pe_int (fun _ _ => rfl)) (pe_op op_mul pe_int (pe_ix ix_list (pv 0) pe_int (fun _ _ => rfl)))) pe_int) pe_int))
        (pss_cons (ps_set (i := 4) sc__law_take.nd rfl (Or.inl rfl) (pe_op op_mod (pe_op op_mul (pe_op op_add (pe_op op_add (pv 3) (pe_ix ix_list (pv 0) pe_int (fun _ _ => rfl))) (pe_op op_fdiv (pe_ix ix_list (pv 0) pe_int (fun _ _ => rfl)) pe_int)) (pe_op op_add (pe_op op_add (pe_op op_mod (pv 3) pe_int) pe_int) (pe_ix ix_list (pv 0) pe_int (fun _ _ => rfl)))) pe_int))
        (pss_one (ps_ret (pe_op op_mod (pe_op op_fdiv (pe_op op_mod (pe_op op_add (pe_op op_mul (pv 4) pe_int) (pv 3)) pe_int) pe_int) (pv 1)))))))), ?_⟩
    have hL : SqL K H a [.int b0, .int b1, .int b2] := SqL.of ha
    refine ⟨_, rfl, a, _, 0, .int b0, rfl, rfl, hL, atI_nat (j := 0) rfl, _, _, rfl, rfl, _, rfl, ite2 (fun e => ?_) (fun e => ?_)⟩
    · have e0 : 0 < b0 := of_decide_eq_true e
      refine ⟨_, rfl, a, _, 0, .int b0, rfl, rfl, hL, atI_nat (j := 0) rfl, .int many, rfl, _, _, rfl, rfl, hm, ?_⟩
      refine ⟨_, rfl, a, _, 0, .int b0, rfl, rfl, hL, atI_nat (j := 0) rfl, .int many, rfl, _, _, rfl, rfl, ⟨hm, hm'⟩, ?_⟩
      refine ⟨_, rfl, a, _, 0, 0, rfl, rfl, ha, rfl, _, rfl, ?_⟩
      refine k (b0 % many) _ (Int.emod_nonneg _ (by omega)) (Int.emod_lt_of_pos _ hm) ⟨b0 / many, b1, b2, rfl, Int.ediv_nonneg h0 (by omega), h1, h1', h2, by omega⟩
    · refine ⟨_, rfl, a, _, 2, .int b2, rfl, rfl, hL, atI_nat (j := 2) rfl, _, _, rfl, rfl, _, rfl, a, _, 2, 2, rfl, rfl, ha, rfl, ?_⟩
      have hL2 : SqL K (upd H a (.lst [.int b0, .int b1, .int (b2 + 1)])) a [.int b0, .int b1, .int (b2 + 1)] := SqL.of upd_same
      refine ⟨_, rfl, a, _, 1, .int b1, rfl, rfl, hL2, atI_nat (j := 1) rfl, _, rfl, a, _, 2, .int (b2 + 1), rfl, rfl, hL2, atI_nat (j := 2) rfl, _, _, rfl, rfl, .inl ⟨by decide, by decide⟩, _, _, rfl, rfl, _, _, rfl, rfl,
        ⟨by decide, by decide, by omega⟩, _, _, rfl, rfl, (by show (0 : Int) < _; decide), ?_⟩
      have q : (b1 + 39373 * (b2 + 1)) ^ Int.toNat 5 % 2147483647 = (b1 + 39373 * (b2 + 1)) ^ Int.toNat 5 % 2147483647 := rfl
      generalize (b1 + 39373 * (b2 + 1)) ^ Int.toNat 5 = w5
      have g1 : 0 ≤ w5 % 2147483647 := Int.emod_nonneg _ (by decide)
      have g2 : w5 % 2147483647 < 2147483647 := Int.emod_lt_of_pos _ (by decide)
      have g3 : 0 ≤ b1 / 1000003 := Int.ediv_nonneg h1 (by decide)
      have g4 : b1 / 1000003 ≤ b1 := Int.ediv_le_self _ h1
      have g5 : 0 ≤ w5 % 2147483647 % 40009 := Int.emod_nonneg _ (by decide)
      have g6 : w5 % 2147483647 % 40009 < 40009 := Int.emod_lt_of_pos _ (by decide)
      refine ⟨_, rfl, _, rfl, a, _, 2, .int (b2 + 1), rfl, rfl, hL2, atI_nat (j := 2) rfl, _, _, rfl, rfl, _, rfl, a, _, 1, .int b1, rfl, rfl, hL2, atI_nat (j := 1) rfl, _, _, rfl, rfl, ⟨by decide, by decide⟩, _, _, rfl, rfl,
        _, rfl, _, _, rfl, rfl, (by show (0 : Int) < _; decide), _, _, rfl, rfl, _, rfl, a, _, 2, .int (b2 + 1), rfl, rfl, hL2, atI_nat (j := 2) rfl, _, _, rfl, rfl, _, _, rfl, rfl, .inl ⟨by omega, by omega⟩, _, _, rfl, rfl, (by show (0 : Int) < _; decide), ?_⟩
      generalize (w5 % 2147483647 + (b2 + 1) + b1 / 1000003) * (w5 % 2147483647 % 40009 + 7 + (b2 + 1)) = w6
      refine ⟨_, rfl, _, _, rfl, rfl, .inr ⟨by decide, by decide⟩, _, rfl, _, _, rfl, rfl, _, _, rfl, rfl, (by show (0 : Int) < _; decide), _, _, rfl, rfl, ⟨by decide, by decide⟩, .int many, rfl, _, _, rfl, rfl, hm, ?_⟩
      exact k _ _ (Int.emod_nonneg _ (by omega)) (Int.emod_lt_of_pos _ hm) ⟨b0, b1, b2 + 1, rfl, h0, h1, h1', by omega, by omega⟩
theorem b01 (b : Bool) : -(2 ^ 64) < (if b = true then (1 : Int) else 0) ∧ (if b = true then (1 : Int) else 0) < 2 ^ 64 := by cases b <;> decide
theorem dip_b0 (c : Int) (b : Bool) : 0 ≤ (if c < 0 then -c else c) * (if b = true then 1 else 0) := by
  cases b with
  | false => simp
  | true =>
    rw [if_pos rfl, Int.mul_one]
    split <;> omega
theorem ok_dip (B : Bt mg) (D : Dd K mg "_law_dip" s__law_dip P__law_dip) : C8.Cal P w K mg base 1 "_law_dip" (spDip K) [] := by
  refine D.cal sc__law_dip (fun vs H Q E h => ?_) (fun f cdv A outer s H vs Q E hr h => ?_)
  · obtain ⟨a, k, ns, rfl, _⟩ := h
    rfl
  · obtain ⟨a, k, ns, rfl, hS, hk, q⟩ := h
    have T := B
    refine ⟨_, (pss_cons (ps_set (i := 2) sc__law_dip.nd rfl (Or.inl rfl) (pe_ifExp (pt_cmpR op_lt (pv 1) (pe_callB call_len_seq (by rfl) T.len PySem.boot_len (pa_cons (pv 0) pa_nil)) (nomark _)) (pe_ix ix_list (pv 0) (pv 1) (fun _ _ => rfl)) pe_int))
        (pss_one (ps_ret (pe_lst (pa_cons (pe_op op_mul (pe_callB call_abs (by rfl) T.abs (by decide +kernel) (pa_cons (pv 2) pa_nil)) (pe_callTy call_int1 (by rfl) T.int (by decide +kernel) (pa_cons (pe_cmpR op_ge (pe_callB call_abs (by rfl) T.abs (by decide +kernel) (pa_cons (pv 2) pa_nil)) (pe_op op_pow pe_int pe_int) (nomark _)) pa_nil))) (pa_cons (pe_op op_add (pe_op op_add (pe_op op_mod (pv 2) pe_int) (pe_op op_mul pe_int (pv 1))) pe_int) (pa_cons pe_int pa_nil))))))), ?_⟩
    have rest : ∀ c : Int, (tRet (tLst (tCons (tOp (rI CMul fun i j => .int (i * j)) (tCB (fun xs H Q => ∃ i, xs = [.int i] ∧ Q (.int (if i < 0 then -i else i)) H) (tCons (tVar 2) tNil))
        (tCB (fun xs H Q => (∃ i, xs = [.int i] ∧ Q (.int i) H) ∨ ∃ k, xs = [.bl k] ∧ Q (.int (if k then 1 else 0)) H) (tCons (tOp (rI0 fun i j => .bl (decide (j ≤ i))) (tCB (fun xs H Q => ∃ i, xs = [.int i] ∧ Q (.int (if i < 0 then -i else i)) H) (tCons (tVar 2) tNil)) (tOp (rI CPow fun i j => .int (i ^ j.toNat)) (tC (.int 10)) (tC (.int 18)))) tNil)))
        (tCons (tOp (rI0 fun i j => .int (i + j)) (tOp (rI0 fun i j => .int (i + j)) (tOp (rI (fun _ j => 0 < j) fun i j => .int (i % j)) (tVar 2) (tC (.int 2305843009213693951))) (tOp (rI CMul fun i j => .int (i * j)) (tC (.int 39373)) (tVar 1))) (tC (.int 17))) (tCons (tC (.int 0)) tNil)))))
        { nx := fun _ H' => Q .non H', rt := Q } [some (.ref a), some (.int k), some (.int c)] H := fun c => by
      refine ⟨_, rfl, c, rfl, _, rfl, c, rfl, _, _, rfl, rfl, ⟨by decide, by decide, by decide⟩, _, _, rfl, rfl, .inr ⟨_, rfl, ?_⟩⟩
      refine ⟨_, _, rfl, rfl, .inr (b01 _), ?_⟩
      refine ⟨_, rfl, _, _, rfl, rfl, (by show (0 : Int) < _; decide), _, rfl, _, _, rfl, rfl, .inl ⟨by decide, by decide⟩, _, _, rfl, rfl, _, _, rfl, rfl, ?_⟩
      refine ⟨by show 3 ≤ sizeLine; decide, fun p hp => q p _ hp ⟨_, _, 0, rfl, dip_b0 c _, ?_, ?_, Int.le_refl _, Int.le_refl _⟩⟩
      · have := Int.emod_nonneg c (show (2305843009213693951 : Int) ≠ 0 by decide)
        omega
      · have := Int.emod_lt_of_pos c (show (0 : Int) < 2305843009213693951 by decide)
        omega
    refine ⟨_, rfl, _, rfl, a, _, rfl, .inl hS, _, _, rfl, rfl, _, rfl, ite2 (fun e => ?_) (fun e => ?_)⟩
    · have hlt : k < ns.length := by
        have := of_decide_eq_true e
        rw [List.length_map] at this
        omega
      have g : (ns.map V.int)[k]? = some (.int ns[k]) := by
        rw [List.getElem?_map, List.getElem?_eq_getElem hlt]
        rfl
      exact ⟨_, rfl, _, rfl, a, _, k, .int ns[k], rfl, rfl, hS, atI_nat g, rest _⟩
    · exact rest 0
theorem ixN_nat {n j : Nat} (h : j < n) : ixN n (j : Int) = some j := by
  unfold ixN
  rw [if_pos (by omega), if_pos (by omega)]
  simp
theorem ok_folded (B : Bt mg) (D : Dd K mg "_law_folded" s__law_folded P__law_folded) : C8.Cal P w K mg base 1 "_law_folded" (spFold K) [] := by
  refine D.cal sc__law_folded (fun vs H Q E h => ?_) (fun f cdv A outer s H vs Q E hr h => ?_)
  · obtain ⟨a, size, ns, rfl, _⟩ := h
    rfl
  · obtain ⟨a, size, ns, rfl, hS, hl, h1, h8, q⟩ := h
    have T := B
    refine ⟨_, (pss_cons (ps_set (i := 2) sc__law_folded.nd rfl (Or.inl rfl) (pe_callTy call_list_of (by rfl) T.list (by decide +kernel) (pa_cons (pe_slice sl_list (pv 0) po_none (po_some (pv 1))) pa_nil)))
        (pss_cons (ps_for PassesOwn.never rfl (pi_enum (by rfl) T.enumerate (pa_cons (pe_slice sl_list (pv 0) (po_some (pv 1)) (po_some pe_int)) pa_nil)) (pg_tup rfl (pgs_cons (pg_name (i := 3) sc__law_folded.nd rfl (Or.inl rfl)) (pgs_cons (pg_name (i := 4) sc__law_folded.nd rfl (Or.inl rfl)) pgs_nil)))
          (pss_one (ps_asg (pe_op op_add (pe_ix ix_list (pv 2) (pe_op op_mod (pv 3) (pv 1)) (fun _ _ => rfl)) (pe_op op_mul (pv 4) (pe_op op_add (pv 3) pe_int))) (pg_sub (pv 2) (pe_op op_mod (pv 3) (pv 1)) set_list))))
        (pss_one (ps_ret (pv 2))))), ?_⟩
    -- cells = list(script[:size])
    refine ⟨_, rfl, _, rfl, _, rfl, a, _, rfl, hS, fun c1 n1 => ⟨c1, _, rfl, .inl (SqL.of upd_same), fun l nl => ?_⟩⟩
    have s1 : Same H (upd H c1 (.lst (cutV (ns.map V.int) none (some (size : Int))))) := same_upd n1
    have s2 := s1.trans (same_upd (o := .lst (cutV (ns.map V.int) none (some (size : Int)))) nl)
    -- enumerate(script[size:63])
    refine ⟨_, rfl, _, rfl, _, rfl, _, rfl, a, _, rfl, s2.seq hS, fun c2 n2 => ⟨c2, _, rfl, SqL.of upd_same, ?_⟩⟩
    have nlc : l ≠ c2 := fun e => by
      rw [e] at n2
      rw [← e, upd_same] at n2
      cases n2
    refine for_it walk_enum (fun i σ H3 => ∃ y3 y4, ∃ ms : List Int, σ = [some (.ref a), some (.int size), some (.ref l), y3, y4] ∧ Same H H3 ∧ H3 c2 = some (.lst (cutV (ns.map V.int) (some (size : Int)) (some 63))) ∧ H3 l = some (.lst (ms.map V.int)) ∧ ms.length = min size ns.length)
      ⟨none, none, ns.take size, rfl, s2.trans (same_upd n2), upd_same, ?_, by rw [List.length_take]⟩ (fun i σ H3 _ ⟨_, _, _, _, _, hc, _⟩ => SqL.of hc) ?_ ?_
    · rw [upd_ne nlc, upd_same, cut_to]
    · rintro i v σ H3 H4 hi ⟨y3, y4, ms, rfl, sm, hc, hm, hml⟩ ⟨T, x, y, rfl, nT, rfl, ex, ey⟩
      cases ex
      obtain ⟨rs, ers, _⟩ := cut_ints ns (some (size : Int)) (some 63)
      have hsz : size ≤ ns.length := by
        apply Classical.byContradiction
        intro hh
        rw [cut_from_nil ns size (by omega)] at hi
        simp at hi
      have hms : ms.length = size := by omega
      rw [ers] at ey
      rw [ers, List.length_map] at hi
      have ey' : y = .int rs[i] := by
        replace ey : (List.map V.int rs)[i]? = some y := ey
        rw [List.getElem?_map, List.getElem?_eq_getElem hi] at ey
        exact (Option.some.inj ey).symm
      subst ey'
      have hi63 : i < 63 := by omega
      have nTl : l ≠ T := ne_of_none hm nT
      have nTc : c2 ≠ T := ne_of_none hc nT
      have hm' : (upd H3 T (.tup [.int (i : Nat), .int rs[i]])) l = some (.lst (ms.map V.int)) := by
        rw [upd_ne nTl]
        exact hm
      have hj : i % size < ms.length := by
        rw [hms]
        exact Nat.mod_lt _ (by omega)
      have g : (ms.map V.int)[i % size]? = some (.int ms[i % size]) := by
        rw [List.getElem?_map, List.getElem?_eq_getElem hj]
        rfl
      have ei : ((i : Nat) : Int) % ((size : Nat) : Int) = ((i % size : Nat) : Int) := by omega
      refine ⟨T, _, rfl, SqT.of upd_same, rfl, _, _, rfl, _, _, rfl, rfl, ?_⟩
      refine ⟨_, rfl, _, rfl, _, rfl, _, _, rfl, rfl, (by show (0 : Int) < _; omega), l, _, _, .int ms[i % size], rfl, rfl, SqL.of hm', ?_, ?_⟩
      · rw [ei]
        exact atI_nat g
      refine ⟨_, rfl, _, rfl, _, _, rfl, rfl, _, _, rfl, rfl, .inr ⟨by omega, by omega⟩, _, _, rfl, rfl, _, rfl, _, rfl, _, rfl, _, _, rfl, rfl, (by show (0 : Int) < _; omega), l, _, _, i % size, rfl, rfl, hm', ?_, ?_⟩
      · rw [ei, List.length_map]
        exact ixN_nat hj
      · refine ⟨_, _, ms.set (i % size) (ms[i % size] + rs[i] * ((i : Int) + 2)), rfl, fun b z e => ?_, ?_, ?_, by rw [List.length_set]; exact hml⟩
        · have nb : b ≠ l := by
            intro eb
            rw [eb] at e
            have e2 := s1 _ _ e
            rw [e2] at nl
            cases nl
          rw [upd_ne nb]
          exact same_upd nT _ _ (sm _ _ e)
        · rw [upd_ne nlc.symm, upd_ne nTc]
          exact hc
        · rw [upd_same, List.map_set]
    · rintro σ H3 ⟨y3, y4, ms, rfl, sm, hc, hm, hml⟩
      exact ⟨_, rfl, q H3 l ms sm (s1.free nl) hm (by omega)⟩
end
/-! ### own_copy, of data of any depth -/
abbrev s_own_copy : Stmt := top 1
abbrev N_own_copy : List Str := ["thing", "copied", "part"]
abbrev P_own_copy : List Str := ["thing"]
theorem sc_own_copy : FnScope N_own_copy P_own_copy (defScope s_own_copy) := ⟨rfl, rfl, rfl, by decide +kernel, rfl, by decide +kernel, by decide +kernel⟩
structure Ot (mg : Str → Option Value) : Prop where
  isinstance : mg "isinstance" = none
  list : mg "list" = none
  tuple : mg "tuple" = none
/-- data so deep at most, no list or tuple of more than 500 -/
inductive Sm : Nat → PyData → Prop where
  | non (n : Nat) : Sm n .none
  | bl (n : Nat) (b : Bool) : Sm n (.bool b)
  | int (n : Nat) (i : Int) : Sm n (.int i)
  | str (n : Nat) (x : Str) : Sm n (.str x)
  | lst (n : Nat) {ds : List PyData} (h : ds.length ≤ 500) (a : ∀ d ∈ ds, Sm n d) : Sm (n + 1) (.list ds)
  | tup (n : Nat) {ds : List PyData} (h : ds.length ≤ 500) (a : ∀ d ∈ ds, Sm n d) : Sm (n + 1) (.tuple ds)
section
variable {K : PySem.W.Frag} {H H' : Hp}
theorem Same.seqL {a : Addr} {xs : List V} (s : Same H H') (h : SqL K H a xs) : SqL K H' a xs := by
  rcases h with (h | ⟨o, h⟩) | h
  · exact .inl (.inl (s _ _ h))
  · exact .inl (.inr ⟨o, s _ _ h⟩)
  · exact .inr h
theorem Same.seqT {a : Addr} {xs : List V} (s : Same H H') (h : SqT K H a xs) : SqT K H' a xs := by
  rcases h with (h | ⟨o, h⟩) | h
  · exact .inl (.inl (s _ _ h))
  · exact .inl (.inr ⟨o, s _ _ h⟩)
  · exact .inr h
mutual
theorem dp_same (s : Same H H') : ∀ {v : V} {d : PyData}, Dp K H v d → Dp K H' v d
  | _, _, .non => .non
  | _, _, .bl b => .bl b
  | _, _, .int i => .int i
  | _, _, .str x => .str x
  | _, _, .lst h a => .lst (Same.seqL s h) (dpAll_same s a)
  | _, _, .tup h a => .tup (Same.seqT s h) (dpAll_same s a)
theorem dpAll_same (s : Same H H') : ∀ {vs : List V} {ds : List PyData}, DpAll K H vs ds → DpAll K H' vs ds
  | _, _, .nil => .nil
  | _, _, .cons h a => .cons (dp_same s h) (dpAll_same s a)
end
theorem dpAll_len : ∀ {vs : List V} {ds : List PyData}, DpAll K H vs ds → vs.length = ds.length
  | _, _, .nil => rfl
  | _, _, .cons _ a => by
    rw [List.length_cons, List.length_cons, dpAll_len a]
theorem dpAll_at : ∀ {vs : List V} {ds : List PyData}, DpAll K H vs ds → ∀ {i : Nat} {v : V}, vs[i]? = some v → ∃ d, ds[i]? = some d ∧ Dp K H v d
  | _, _, .cons h _, 0, _, e => ⟨_, rfl, by rw [← Option.some.inj e]; exact h⟩
  | _, _, .cons _ a, i + 1, _, e => dpAll_at a (i := i) e
theorem dpAll_snoc : ∀ {vs : List V} {ds : List PyData}, DpAll K H vs ds → ∀ {v : V} {d : PyData}, Dp K H v d → DpAll K H (vs ++ [v]) (ds ++ [d])
  | _, _, .nil, _, _, h => .cons h .nil
  | _, _, .cons h0 a, _, _, h => .cons h0 (dpAll_snoc a h)
theorem tyL {a : Addr} {xs : List V} (h : SqL K H a xs) : TyX K H (.ref a) (.type "list") := by
  rcases h with (h | ⟨o, h⟩) | ⟨o, its, n, l, c, _⟩
  · exact .base (.lst h)
  · exact .base (.frz h)
  · exact .kList l c
theorem tyT {a : Addr} {xs : List V} (h : SqT K H a xs) : TyX K H (.ref a) (.type "tuple") := by
  rcases h with (h | ⟨o, h⟩) | ⟨o, its, n, l, c, _⟩
  · exact .base (.tup h)
  · exact .fTuple h
  · exact .kTuple l c
theorem kitLT {t : String} {b : Bool} (h : kitB t "list" = some b) (h2 : b = false → kitB t "tuple" = some false) : PySem.W.kitAny K (.type t) [.type "list", .type "tuple"] = some b := by
  refine kitAny_cons (kit_ty h) (fun e => ?_) (fun e => e)
  rw [e]
  exact kitAny_cons (b := false) (kit_ty (h2 e)) (fun _ => kitAny_nil) (fun e => nomatch e)
end
/-- what is new in H', the address c left out -/
def Nw (H H' : Hp) : Hp := fun b => if H b = none then H' b else none
theorem Nw.sub {H H' : Hp} : Same (Nw H H') H' := fun b o e => by
  unfold Nw at e
  split at e
  · exact e
  · cases e
theorem Nw.mk {H H' : Hp} {b : Addr} {o : HO} (h : H b = none) (e : H' b = some o) : Nw H H' b = some o := by
  unfold Nw
  rw [if_pos h]
  exact e
theorem Nw.get {H H' : Hp} {b : Addr} {o : HO} (h : Nw H H' b = some o) : H b = none ∧ H' b = some o := by
  unfold Nw at h
  split at h
  · exact ⟨by assumption, h⟩
  · cases h
theorem kitLT2 {K : PySem.W.Frag} : PySem.W.kitAny K (.type "tuple") [.type "list", .type "tuple"] = some true :=
  kitAny_cons (b := false) (kit_ty (by decide +kernel)) (fun _ => kitAny_cons (b := true) (kit_ty (by decide +kernel)) (fun e => nomatch e) (fun _ => rfl)) (fun e => nomatch e)
def spOwnD (K : PySem.W.Frag) (n : Nat) : Sp := fun vs H Q _ => ∃ (x : V) (d : PyData), vs = [x] ∧ Dp K H x d ∧ Sm n d ∧ ∀ (H' : Hp) (y : V), Same H H' → Dp K (Nw H H') y d → Q y H'
section
variable {P : Program} {w : World} {K : PySem.W.Frag} {mg : Str → Option Value} {base : Heap}
theorem own_flat (T : Ot mg) (f : Addr) (cdv : Value) (A : Around) (outer : List Env) (s : Shared) (H : Hp) (Q : VK) (E : XK) {x : V} {t : String} (ty : ∀ H', TyX K H' x (.type t)) (k1 : kitB t "list" = some false) (k2 : kitB t "tuple" = some false) (q : ∀ H', Same H H' → Q x H') :
    ∃ t, PSs (cxOf CX0 P w K mg base N_own_copy "own_copy" (defScope s_own_copy) f cdv A outer s H E).nox (defBody s_own_copy) t ∧ t { nx := fun _ H' => Q .non H', rt := Q } (start N_own_copy [x]) H := by
  refine ⟨_, (pss_cons (ps_if (pt_not (pt_val (pe_callB call_isiT (by rfl) T.isinstance (by decide +kernel) (pa_cons (pv 0) (pa_cons (pe_tup (pa_cons (pe_bltn (v := .ty "list") rfl T.list (by decide +kernel) rfl) (pa_cons (pe_bltn (v := .ty "tuple") rfl T.tuple (by decide +kernel) rfl) pa_nil))) pa_nil)))))
      (pss_one (ps_ret (pv 0))) pss_nil) (pss_cons ps_never (pss_cons ps_never (pss_cons ps_never (pss_one ps_never))))), ?_⟩
  refine ⟨_, rfl, by show 2 ≤ sizeLine; decide, fun tp nt => ?_⟩
  refine ⟨x, tp, _, .type t, [.type "list", .type "tuple"], false, rfl, upd_same, .cons (.ty "list") (.cons (.ty "tuple") .nil), ty _, kitLT k1 (fun _ => k2), _, rfl, ?_⟩
  exact iteT ⟨_, rfl, q _ (same_upd nt)⟩
theorem ok_ownD (T : Ot mg) (D : Dd K mg "own_copy" s_own_copy P_own_copy) : ∀ n, C8.Cal P w K mg base (n + 1) "own_copy" (spOwnD K n) [] := by
  intro n
  induction n with
  | zero =>
    refine D.cal sc_own_copy (fun vs H Q E h => ?_) (fun f cdv A outer s H vs Q E hr h => ?_)
    · obtain ⟨x, d, rfl, _⟩ := h
      rfl
    · obtain ⟨x, d, rfl, hx, hs, q⟩ := h
      cases hs with
      | non => cases hx; exact own_flat T f cdv A outer s H Q E (fun _ => .base .non) (by decide +kernel) (by decide +kernel) fun H' e => q H' _ e .non
      | bl _ b => cases hx; exact own_flat T f cdv A outer s H Q E (fun _ => .base (.bl b)) (by decide +kernel) (by decide +kernel) fun H' e => q H' _ e (.bl b)
      | int _ i => cases hx; exact own_flat T f cdv A outer s H Q E (fun _ => .base (.int i)) (by decide +kernel) (by decide +kernel) fun H' e => q H' _ e (.int i)
      | str _ z => cases hx; exact own_flat T f cdv A outer s H Q E (fun _ => .base (.str z)) (by decide +kernel) (by decide +kernel) fun H' e => q H' _ e (.str z)
  | succ n cown_copy =>
    refine D.cal sc_own_copy (fun vs H Q E h => ?_) (fun f cdv A outer s H vs Q E hr h => ?_)
    · obtain ⟨x, d, rfl, _⟩ := h
      rfl
    · obtain ⟨x, d, rfl, hx, hs, q⟩ := h
      cases hs with
      | non => cases hx; exact own_flat T f cdv A outer s H Q E (fun _ => .base .non) (by decide +kernel) (by decide +kernel) fun H' e => q H' _ e .non
      | bl _ b => cases hx; exact own_flat T f cdv A outer s H Q E (fun _ => .base (.bl b)) (by decide +kernel) (by decide +kernel) fun H' e => q H' _ e (.bl b)
      | int _ i => cases hx; exact own_flat T f cdv A outer s H Q E (fun _ => .base (.int i)) (by decide +kernel) (by decide +kernel) fun H' e => q H' _ e (.int i)
      | str _ z => cases hx; exact own_flat T f cdv A outer s H Q E (fun _ => .base (.str z)) (by decide +kernel) (by decide +kernel) fun H' e => q H' _ e (.str z)
      | lst _ hlen hall =>
        rename_i ds
        cases hx with
        | lst hS hd =>
          rename_i a xs
          refine ⟨_, (pss_cons (ps_if (pt_not (pt_val (pe_callB call_isiT (by rfl) T.isinstance (by decide +kernel) (pa_cons (pv 0) (pa_cons (pe_tup (pa_cons (pe_bltn (v := .ty "list") rfl T.list (by decide +kernel) rfl) (pa_cons (pe_bltn (v := .ty "tuple") rfl T.tuple (by decide +kernel) rfl) pa_nil))) pa_nil)))))
                (pss_one (ps_ret (pv 0)))
                pss_nil)
              (pss_cons (ps_set (i := 1) sc_own_copy.nd rfl (Or.inl rfl) (pe_lst pa_nil))
              (pss_cons (ps_for PassesOwn.never rfl (pi_list (pv 0)) (pg_name (i := 2) sc_own_copy.nd rfl (Or.inl rfl))
                (pss_one (ps_expr (pe_bm PySem.F.plainAttrs_list PySem.F.slot_list_append PySem.F.type_list_append mt_append (pv 1) (pa_cons (C8.pe_c cown_copy hr (by omega) (by rfl) (pa_cons (pv 2) pa_nil)) pa_nil)))))
              (pss_cons (ps_if (pt_val (pe_callB call_isi (by rfl) T.isinstance (by decide +kernel) (pa_cons (pv 0) (pa_cons (pe_bltn (v := .ty "tuple") rfl T.tuple (by decide +kernel) rfl) pa_nil))))
                (pss_one (ps_ret (pe_callTy call_tuple_of (by rfl) T.tuple (by decide +kernel) (pa_cons (pv 1) pa_nil))))
                pss_nil)
              (pss_one (ps_ret (pv 1))))))), ?_⟩
          have lx := dpAll_len hd
          refine ⟨_, rfl, by show 2 ≤ sizeLine; decide, fun tp nt => ?_⟩
          have s1 := same_upd (o := .tup [.ty "list", .ty "tuple"]) nt
          refine ⟨.ref a, tp, _, .type "list", [.type "list", .type "tuple"], true, rfl, upd_same, .cons (.ty "list") (.cons (.ty "tuple") .nil), tyL (Same.seqL s1 hS), kitLT (by decide +kernel) (fun e => nomatch e), _, rfl, iteF ?_⟩
          refine ⟨by show 0 ≤ sizeLine; decide, fun c nc => ?_⟩
          have s2 := s1.trans (same_upd (o := .lst []) nc)
          have nc0 : H c = none := s1.free nc
          refine ⟨_, rfl, a, rfl, ⟨_, Same.seqL s2 hS⟩, for_list (K := K) (a := a) (xs := xs) (fun i σ H3 => ∃ y2 ys, σ = [some (.ref a), some (.ref c), y2] ∧ Same H H3 ∧ H3 c = some (.lst ys) ∧ DpAll K (Nw (upd H c (.lst [])) H3) ys (ds.take i) ∧ i ≤ ds.length)
            ⟨none, [], rfl, s2, upd_same, .nil, by omega⟩ (fun i σ H3 _ ⟨_, _, _, s3, _⟩ => Same.seqL s3 hS) ?_ ?_⟩
          · rintro i x σ H3 hxi ⟨y2, ys, rfl, s3, hc, hys, hi⟩
            obtain ⟨d, hdi, hdp⟩ := dpAll_at hd hxi
            have hi2 : i < ds.length := (List.getElem?_eq_some_iff.mp hdi).1
            have ly := dpAll_len hys
            rw [List.length_take] at ly
            refine ⟨_, rfl, .inl ⟨rfl, _, SqL.of hc⟩, _, rfl, x, d, rfl, dp_same s3 hdp, hall d (List.mem_of_getElem? hdi), fun H4 y s4 hy => ?_⟩
            refine ⟨c, ys, y, rfl, rfl, s4 _ _ hc, small1000 (by omega), ?_⟩
            refine ⟨_, ys ++ [y], rfl, fun b o e => ?_, upd_same, ?_, by omega⟩
            · rw [upd_ne (ne_of_none e nc0)]
              exact s4 _ _ (s3 _ _ e)
            · rw [List.take_add_one, hdi]
              refine dpAll_snoc (dpAll_same (fun b o e => ?_) hys) (dp_same (fun b o e => ?_) hy)
              · obtain ⟨e1, e2⟩ := Nw.get e
                have nb : b ≠ c := fun z => by
                  rw [z, upd_same] at e1
                  cases e1
                exact Nw.mk e1 (by rw [upd_ne nb]; exact s4 _ _ e2)
              · obtain ⟨e1, e2⟩ := Nw.get e
                have nb : b ≠ c := fun z => by
                  rw [z, hc] at e1
                  cases e1
                exact Nw.mk (by rw [upd_ne nb]; exact s3.free e1) (by rw [upd_ne nb]; exact e2)
          · rintro σ H3 ⟨y2, ys, rfl, s3, hc, hys, _⟩
            rw [lx, List.take_length] at hys
            have toN : ∀ H5, Same H3 H5 → Same (Nw (upd H c (.lst [])) H3) (Nw H H5) := fun H5 s5 b o e => by
              obtain ⟨e1, e2⟩ := Nw.get e
              have nb : b ≠ c := fun z => by
                rw [z, upd_same] at e1
                cases e1
              rw [upd_ne nb] at e1
              exact Nw.mk e1 (s5 _ _ e2)
            refine ⟨_, rfl, .ref a, .ty "tuple", .type "list", .type "tuple", false, rfl, .ty "tuple", tyL (Same.seqL s3 hS), kit_ty (by decide +kernel), _, rfl, iteF ?_⟩
            exact ⟨_, rfl, q _ _ s3 (.lst (SqL.of (Nw.mk nc0 hc)) (dpAll_same (toN _ (Same.refl _)) hys))⟩
      | tup _ hlen hall =>
        rename_i ds
        cases hx with
        | tup hS hd =>
          rename_i a xs
          refine ⟨_, (pss_cons (ps_if (pt_not (pt_val (pe_callB call_isiT (by rfl) T.isinstance (by decide +kernel) (pa_cons (pv 0) (pa_cons (pe_tup (pa_cons (pe_bltn (v := .ty "list") rfl T.list (by decide +kernel) rfl) (pa_cons (pe_bltn (v := .ty "tuple") rfl T.tuple (by decide +kernel) rfl) pa_nil))) pa_nil)))))
                (pss_one (ps_ret (pv 0)))
                pss_nil)
              (pss_cons (ps_set (i := 1) sc_own_copy.nd rfl (Or.inl rfl) (pe_lst pa_nil))
              (pss_cons (ps_for PassesOwn.never rfl (pi_tup (pv 0)) (pg_name (i := 2) sc_own_copy.nd rfl (Or.inl rfl))
                (pss_one (ps_expr (pe_bm PySem.F.plainAttrs_list PySem.F.slot_list_append PySem.F.type_list_append mt_append (pv 1) (pa_cons (C8.pe_c cown_copy hr (by omega) (by rfl) (pa_cons (pv 2) pa_nil)) pa_nil)))))
              (pss_cons (ps_if (pt_val (pe_callB call_isi (by rfl) T.isinstance (by decide +kernel) (pa_cons (pv 0) (pa_cons (pe_bltn (v := .ty "tuple") rfl T.tuple (by decide +kernel) rfl) pa_nil))))
                (pss_one (ps_ret (pe_callTy call_tuple_of (by rfl) T.tuple (by decide +kernel) (pa_cons (pv 1) pa_nil))))
                pss_nil)
              (pss_one (ps_ret (pv 1))))))), ?_⟩
          have lx := dpAll_len hd
          refine ⟨_, rfl, by show 2 ≤ sizeLine; decide, fun tp nt => ?_⟩
          have s1 := same_upd (o := .tup [.ty "list", .ty "tuple"]) nt
          refine ⟨.ref a, tp, _, .type "tuple", [.type "list", .type "tuple"], true, rfl, upd_same, .cons (.ty "list") (.cons (.ty "tuple") .nil), tyT (Same.seqT s1 hS), kitLT2, _, rfl, iteF ?_⟩
          refine ⟨by show 0 ≤ sizeLine; decide, fun c nc => ?_⟩
          have s2 := s1.trans (same_upd (o := .lst []) nc)
          have nc0 : H c = none := s1.free nc
          refine ⟨_, rfl, a, rfl, ⟨_, Same.seqT s2 hS⟩, for_tup (K := K) (a := a) (xs := xs) (fun i σ H3 => ∃ y2 ys, σ = [some (.ref a), some (.ref c), y2] ∧ Same H H3 ∧ H3 c = some (.lst ys) ∧ DpAll K (Nw (upd H c (.lst [])) H3) ys (ds.take i) ∧ i ≤ ds.length)
            ⟨none, [], rfl, s2, upd_same, .nil, by omega⟩ (fun i σ H3 _ ⟨_, _, _, s3, _⟩ => Same.seqT s3 hS) ?_ ?_⟩
          · rintro i x σ H3 hxi ⟨y2, ys, rfl, s3, hc, hys, hi⟩
            obtain ⟨d, hdi, hdp⟩ := dpAll_at hd hxi
            have hi2 : i < ds.length := (List.getElem?_eq_some_iff.mp hdi).1
            have ly := dpAll_len hys
            rw [List.length_take] at ly
            refine ⟨_, rfl, .inl ⟨rfl, _, SqL.of hc⟩, _, rfl, x, d, rfl, dp_same s3 hdp, hall d (List.mem_of_getElem? hdi), fun H4 y s4 hy => ?_⟩
            refine ⟨c, ys, y, rfl, rfl, s4 _ _ hc, small1000 (by omega), ?_⟩
            refine ⟨_, ys ++ [y], rfl, fun b o e => ?_, upd_same, ?_, by omega⟩
            · rw [upd_ne (ne_of_none e nc0)]
              exact s4 _ _ (s3 _ _ e)
            · rw [List.take_add_one, hdi]
              refine dpAll_snoc (dpAll_same (fun b o e => ?_) hys) (dp_same (fun b o e => ?_) hy)
              · obtain ⟨e1, e2⟩ := Nw.get e
                have nb : b ≠ c := fun z => by
                  rw [z, upd_same] at e1
                  cases e1
                exact Nw.mk e1 (by rw [upd_ne nb]; exact s4 _ _ e2)
              · obtain ⟨e1, e2⟩ := Nw.get e
                have nb : b ≠ c := fun z => by
                  rw [z, hc] at e1
                  cases e1
                exact Nw.mk (by rw [upd_ne nb]; exact s3.free e1) (by rw [upd_ne nb]; exact e2)
          · rintro σ H3 ⟨y2, ys, rfl, s3, hc, hys, _⟩
            rw [lx, List.take_length] at hys
            have toN : ∀ H5, Same H3 H5 → Same (Nw (upd H c (.lst [])) H3) (Nw H H5) := fun H5 s5 b o e => by
              obtain ⟨e1, e2⟩ := Nw.get e
              have nb : b ≠ c := fun z => by
                rw [z, upd_same] at e1
                cases e1
              rw [upd_ne nb] at e1
              exact Nw.mk e1 (s5 _ _ e2)
            refine ⟨_, rfl, .ref a, .ty "tuple", .type "tuple", .type "tuple", true, rfl, .ty "tuple", tyT (Same.seqT s3 hS), kit_ty (by decide +kernel), _, rfl, iteT ?_⟩
            refine ⟨_, rfl, c, ys, rfl, .inl ⟨SqL.of hc, fun l nl => ?_⟩⟩
            exact q _ _ (s3.trans (same_upd nl)) (.tup (SqT.of (Nw.mk (s3.free nl) upd_same)) (dpAll_same (toN _ (same_upd nl)) hys))
end
/-! ### what is drawn: one of some, some in another order, numbers -/
theorem ifT {c : Bool} {A B : Prop} (h : c = true) (x : A) : if c = true then A else B := by rw [if_pos h]; exact x
theorem ifF {c : Bool} {A B : Prop} (h : c = false) (x : B) : if c = true then A else B := by rw [if_neg (by rw [h]; decide)]; exact x
theorem yesT {σ : L2.St} {H : Hp} {A B : Hp → Prop} (h : A H) : tYes σ H (fun b H3 => if b = true then A H3 else B H3) := by
  show (if true = true then A H else B H)
  exact iteT h
theorem Same.at_ {H0 H : Hp} {p : Addr} {o : HO} (s : Same H0 H) (n : H0 p = none) : Same H0 (upd H p o) := fun b x e => by
  rw [upd_ne (ne_of_none e n)]
  exact s b x e
theorem Same.new {H0 H : Hp} {p : Addr} {o : HO} (s : Same H0 H) (n : H p = none) : Same H0 (upd H p o) := s.trans (same_upd n)
theorem Same.but {H0 H H' : Hp} {a : Addr} (s : Same H0 H) (n : H0 a = none) (b : But a H H') : Same H0 H' := fun x o e => b x o (ne_of_none e n) (s x o e)
theorem BoxL.mono {n m : Nat} {b : List V} (h : BoxL n b) (l : n ≤ m) : BoxL m b := by
  obtain ⟨b0, b1, b2, e, h0, h1, h2, h3, h4⟩ := h
  exact ⟨b0, b1, b2, e, h0, h1, h2, h3, by omega⟩
theorem But.free {a b : Addr} {H H' : Hp} {o : HO} (x : But a H H') (ha : H' a = some o) (h : H' b = none) : H b = none := by
  cases e : H b with
  | none => rfl
  | some u =>
    by_cases z : b = a
    · rw [z, ha] at h
      cases h
    · rw [x b u z e] at h
      cases h
abbrev s__law_one_of : Stmt := top 20
abbrev N__law_one_of : List Str := ["_law_box", "_law_some"]
abbrev P__law_one_of : List Str := ["_law_box", "_law_some"]
theorem sc__law_one_of : FnScope N__law_one_of P__law_one_of (defScope s__law_one_of) := ⟨rfl, rfl, rfl, by decide +kernel, rfl, by decide +kernel, by decide +kernel⟩
abbrev s__law_strewn : Stmt := top 21
abbrev N__law_strewn : List Str := ["_law_box", "_law_some", "_law_found", "_law_one"]
abbrev P__law_strewn : List Str := ["_law_box", "_law_some"]
theorem sc__law_strewn : FnScope N__law_strewn P__law_strewn (defScope s__law_strewn) := ⟨rfl, rfl, rfl, by decide +kernel, rfl, by decide +kernel, by decide +kernel⟩
abbrev s__law_number : Stmt := top 23
abbrev N__law_number : List Str := ["_law_box"]
abbrev P__law_number : List Str := ["_law_box"]
theorem sc__law_number : FnScope N__law_number P__law_number (defScope s__law_number) := ⟨rfl, rfl, rfl, by decide +kernel, rfl, by decide +kernel, by decide +kernel⟩
def spOneOf (K : PySem.W.Frag) : Sp := fun vs H Q _ => ∃ (a sl : Addr) (m : Nat) (b xs : List V), vs = [.ref a, .ref sl] ∧ H a = some (.lst b) ∧ BoxL m b ∧ m < 900000 ∧ SqL K H sl xs ∧ sl ≠ a ∧ 0 < xs.length ∧ xs.length ≤ 1000 ∧
  ∀ (i : Nat) (v : V) (b' : List V), xs[i]? = some v → BoxL (m + 1) b' → Q v (upd H a (.lst b'))
def spStrewn (K : PySem.W.Frag) : Sp := fun vs H Q _ => ∃ (a sl : Addr) (m : Nat) (b xs : List V), vs = [.ref a, .ref sl] ∧ H a = some (.lst b) ∧ BoxL m b ∧ m + xs.length < 900000 ∧ SqL K H sl xs ∧ sl ≠ a ∧ xs.length ≤ 100000 ∧
  ∀ (H' : Hp) (l : Addr) (ys b' : List V), But a H H' → H l = none → H' l = some (.lst ys) → ys.Perm xs → H' a = some (.lst b') → BoxL (m + xs.length) b' → Q (.ref l) H'
def spNumber : Sp := fun vs H Q _ => ∃ (a : Addr) (m : Nat) (b : List V), vs = [.ref a] ∧ H a = some (.lst b) ∧ BoxL m b ∧ m + 4 < 900000 ∧
  ∀ (H' : Hp) (r : Int) (b' : List V), But a H H' → H' a = some (.lst b') → BoxL (m + 4) b' → 0 ≤ r → r < 1000000 → Q (.int r) H'
section
variable {P : Program} {w : World} {K : PySem.W.Frag} {mg : Str → Option Value} {base : Heap}
theorem ok_one_of (T : Bt mg) (c_law_take : C8.Cal P w K mg base 1 "_law_take" spTake []) (D : Dd K mg "_law_one_of" s__law_one_of P__law_one_of) : C8.Cal P w K mg base 2 "_law_one_of" (spOneOf K) [] := by
  refine D.cal sc__law_one_of (fun vs H Q E h => ?_) (fun f cdv A outer s H vs Q E hr h => ?_)
  · obtain ⟨a, sl, m, b, xs, rfl, _⟩ := h
    rfl
  · obtain ⟨a, sl, m, b, xs, rfl, ha, hB, hm, hS, ns, h0, h1, q⟩ := h
    refine ⟨_, (pss_one (ps_ret (pe_ix ix_list (pv 1) (C8.pe_c c_law_take hr (by decide) (by rfl) (pa_cons (pv 0) (pa_cons (pe_callB call_len_seq (by rfl) T.len PySem.boot_len (pa_cons (pv 1) pa_nil)) pa_nil))) (fun _ _ => rfl)))), ?_⟩
    refine ⟨_, rfl, _, rfl, _, rfl, sl, xs, rfl, .inl hS, a, xs.length, m, b, rfl, ha, hB, by omega, by omega, by omega, fun r b' r0 r1 hB' => ?_⟩
    obtain ⟨i, rfl⟩ : ∃ i : Nat, r = (i : Int) := ⟨r.toNat, by omega⟩
    have hi : i < xs.length := by omega
    exact ⟨sl, xs, _, xs[i], rfl, rfl, But.seq (But.upd (But.refl a H)) ns hS, atI_nat (j := i) (by simp [hi]), q i _ b' (by simp [hi]) hB'⟩
theorem ok_strewn (T : Bt mg) (c_law_take : C8.Cal P w K mg base 1 "_law_take" spTake []) (D : Dd K mg "_law_strewn" s__law_strewn P__law_strewn) : C8.Cal P w K mg base 2 "_law_strewn" (spStrewn K) [] := by
  refine D.cal sc__law_strewn (fun vs H Q E h => ?_) (fun f cdv A outer s H vs Q E hr h => ?_)
  · obtain ⟨a, sl, m, b, xs, rfl, _⟩ := h
    rfl
  · obtain ⟨a, sl, m, b, xs, rfl, ha, hB, hm, hS, ns, h1, q⟩ := h
    refine ⟨_, (pss_cons (ps_set (i := 2) sc__law_strewn.nd rfl (Or.inl rfl) (pe_lst pa_nil))
        (pss_cons (ps_for PassesOwn.never rfl (pi_list (pv 1)) (pg_name (i := 3) sc__law_strewn.nd rfl (Or.inl rfl))
          (pss_one (ps_expr (pe_bm PySem.F.plainAttrs_list PySem.F.slot_list_insert PySem.F.type_list_insert mt_insert (pv 2) (pa_cons (C8.pe_c c_law_take hr (by decide) (by rfl) (pa_cons (pv 0) (pa_cons (pe_op op_add (pe_callB call_len_seq (by rfl) T.len PySem.boot_len (pa_cons (pv 2) pa_nil)) pe_int) pa_nil))) (pa_cons (pv 3) pa_nil))))))
        (pss_one (ps_ret (pv 2))))), ?_⟩
    refine ⟨by show 0 ≤ sizeLine; decide, fun l nl => ?_⟩
    have nla : a ≠ l := ne_of_none ha nl
    have s1 := same_upd (o := .lst []) nl
    refine ⟨_, rfl, sl, rfl, ⟨_, (But.seq (a := a) (But.of s1) ns hS)⟩, for_list (K := K) (a := sl) (xs := xs) (fun i σ H3 => ∃ y ys b', σ = [some (.ref a), some (.ref sl), some (.ref l), y] ∧ But a H H3 ∧ H3 l = some (.lst ys) ∧ ys.Perm (xs.take i) ∧ H3 a = some (.lst b') ∧ BoxL (m + i) b' ∧ SqL K H3 sl xs ∧ i ≤ xs.length)
      ⟨none, [], b, rfl, But.of s1, upd_same, .nil, s1 _ _ ha, hB, (But.seq (a := a) (But.of s1) ns hS), Nat.zero_le _⟩ (fun i σ H3 _ ⟨_, _, _, _, _, _, _, _, _, h, _⟩ => h) ?_ ?_⟩
    · rintro i x σ H3 hx ⟨y, ys, b', rfl, bt, hl, hp, hb', hB', hS3, hi⟩
      have hi2 : i < xs.length := (List.getElem?_eq_some_iff.mp hx).1
      have ly : ys.length = i := by
        rw [hp.length_eq, List.length_take]
        omega
      refine ⟨_, rfl, .inl ⟨rfl, _, SqL.of hl⟩, _, rfl, _, rfl, l, ys, rfl, .inl (SqL.of hl), _, _, rfl, rfl, a, _, _, b', rfl, hb', hB', by omega, by omega, by omega, fun r b2 r0 r1 hB2 => ?_⟩
      have hl2 : (upd H3 a (.lst b2)) l = some (.lst ys) := by
        rw [upd_ne nla.symm]
        exact hl
      refine ⟨_, rfl, l, ys, r, x, rfl, rfl, hl2, by rw [ly]; exact Nat.lt_of_le_of_lt (Nat.le_of_lt hi2) (Nat.lt_of_le_of_lt h1 (by decide)), r0, by omega, ?_⟩
      have bt2 : But a H (upd (upd H3 a (.lst b2)) l (.lst (ys.take r.toNat ++ [x] ++ ys.drop r.toNat))) := fun c o nc hc => by
        rw [upd_ne (ne_of_none hc nl), upd_ne nc]
        exact bt _ _ nc hc
      refine ⟨_, _, b2, rfl, bt2, upd_same, ?_, by rw [upd_ne nla, upd_same], hB2, But.seq bt2 ns hS, by omega⟩
      rw [List.take_add_one, hx]
      refine List.Perm.trans ?_ (List.Perm.append hp (List.Perm.refl [x]))
      rw [List.append_assoc]
      refine List.Perm.trans (List.Perm.append_left _ List.perm_append_comm) ?_
      rw [← List.append_assoc, List.take_append_drop]
    · rintro σ H3 ⟨y, ys, b', rfl, bt, hl, hp, hb', hB', hS3, hi⟩
      rw [List.take_length] at hp
      exact ⟨_, rfl, q _ l ys b' bt nl hl hp hb' hB'⟩
theorem ok_number (c_law_take : C8.Cal P w K mg base 1 "_law_take" spTake []) (D : Dd K mg "_law_number" s__law_number P__law_number) : C8.Cal P w K mg base 2 "_law_number" spNumber [] := by
  refine D.cal sc__law_number (fun vs H Q E h => ?_) (fun f cdv A outer s H vs Q E hr h => ?_)
  · obtain ⟨a, m, b, rfl, _⟩ := h
    rfl
  · obtain ⟨a, m, b, rfl, ha, hB, hm, q⟩ := h
    refine ⟨_, (pss_one (ps_ret (pe_ix ix_list (pe_lst (pa_cons (C8.pe_c c_law_take hr (by decide) (by rfl) (pa_cons (pv 0) (pa_cons pe_int pa_nil))) (pa_cons (C8.pe_c c_law_take hr (by decide) (by rfl) (pa_cons (pv 0) (pa_cons pe_int pa_nil))) (pa_cons (C8.pe_c c_law_take hr (by decide) (by rfl) (pa_cons (pv 0) (pa_cons (pe_op op_pow pe_int pe_int) pa_nil))) pa_nil)))) (C8.pe_c c_law_take hr (by decide) (by rfl) (pa_cons (pv 0) (pa_cons pe_int pa_nil))) (fun _ _ => rfl)))), ?_⟩
    refine ⟨_, rfl, a, 4, m, b, rfl, ha, hB, by omega, by decide, by decide, fun r1 b1 r10 r11 hB1 => ?_⟩
    refine ⟨_, rfl, a, 30, m + 1, b1, rfl, upd_same, hB1, by omega, by decide, by decide, fun r2 b2 r20 r21 hB2 => ?_⟩
    refine ⟨_, rfl, _, _, rfl, rfl, ⟨by decide, by decide, by decide⟩, a, _, m + 2, b2, rfl, upd_same, hB2, by omega, by decide, by decide, fun r3 b3 r30 r31 hB3 => ?_⟩
    refine ⟨by show 3 ≤ sizeLine; decide, fun l nl => ?_⟩
    have nla : l ≠ a := fun z => by
      rw [z, upd_same] at nl
      cases nl
    refine ⟨_, rfl, a, 3, m + 3, b3, rfl, by rw [upd_ne nla.symm, upd_same], hB3, by omega, by decide, by decide, fun r4 b4 r40 r41 hB4 => ?_⟩
    have hl : (upd (upd (upd (upd (upd H a (.lst b1)) a (.lst b2)) a (.lst b3)) l (.lst [.int r1, .int r2, .int r3])) a (.lst b4)) l = some (.lst [.int r1, .int r2, .int r3]) := by
      rw [upd_ne nla, upd_same]
    have bt : But a H (upd (upd (upd (upd (upd H a (.lst b1)) a (.lst b2)) a (.lst b3)) l (.lst [.int r1, .int r2, .int r3])) a (.lst b4)) := But.upd (But.new (But.upd (But.upd (But.upd (But.refl a H)))) nl)
    have r31' : r3 < 1000000 := r31
    have hc : r4 = 0 ∨ r4 = 1 ∨ r4 = 2 := by omega
    rcases hc with rfl | rfl | rfl
    · exact ⟨l, _, _, _, rfl, rfl, SqL.of hl, atI_nat (j := 0) rfl, q _ _ b4 bt upd_same hB4 r10 (by omega)⟩
    · exact ⟨l, _, _, _, rfl, rfl, SqL.of hl, atI_nat (j := 1) rfl, q _ _ b4 bt upd_same hB4 r20 (by omega)⟩
    · exact ⟨l, _, _, _, rfl, rfl, SqL.of hl, atI_nat (j := 2) rfl, q _ _ b4 bt upd_same hB4 r30 r31'⟩
end
/-! ### names -/
abbrev s__law_named : Stmt := top 22
abbrev N__law_named : List Str := ["_law_box", "_law_many", "_law_letters", "_law_found", "_law_words", "_law_k", "_law_name", "_law_turn"]
abbrev P__law_named : List Str := ["_law_box", "_law_many"]
theorem sc__law_named : FnScope N__law_named P__law_named (defScope s__law_named) := ⟨rfl, rfl, rfl, by decide +kernel, rfl, by decide +kernel, by decide +kernel⟩
def Nm (z : Str) : Prop := z.length ≤ 6 ∧ ∀ c ∈ z.cps.toList, c < 128
def LET : Str := "abcdefghijklmnopqrstuvwxyz"
theorem let_len : LET.cps.toList.length = 26 := by decide +kernel
theorem let_at {r : Int} (h0 : 0 ≤ r) (h1 : r < 26) : ∃ c, atI LET.cps.toList r = some c ∧ c < 128 := by
  obtain ⟨i, rfl⟩ : ∃ i : Nat, r = (i : Int) := ⟨r.toNat, by omega⟩
  have hi : i < LET.cps.toList.length := by
    rw [let_len]
    omega
  refine ⟨LET.cps.toList[i], atI_nat (by simp [hi]), ?_⟩
  have hall : LET.cps.toList.all (fun c => decide (c < 128)) = true := by decide +kernel
  exact of_decide_eq_true (List.all_eq_true.mp hall _ (List.getElem_mem hi))
theorem nm_one {c : Nat} (h : c < 128) : Nm ⟨#[c]⟩ := ⟨by show 1 ≤ 6; decide, fun x hx => by
  have e : x = c := by simpa using hx
  rw [e]
  exact h⟩
/-- single signs joined -/
theorem nm_join {ys : List Str} (hl : ys.length ≤ 6) (h : ∀ z ∈ ys, z.length = 1 ∧ ∀ c ∈ z.cps.toList, c < 128) : Nm (Txt.join "" ys) := by
  have e : (Txt.join "" ys).cps.toList = (ys.map fun z => z.cps.toList).flatten := by
    have hj : ∀ ps : List (List Nat), TL.joinL [] ps = ps.flatten := fun ps => by
      induction ps with
      | nil => rfl
      | cons p r ih =>
        cases r with
        | nil => simp [TL.joinL]
        | cons q r =>
          show p ++ ([] ++ TL.joinL [] (q :: r)) = _
          rw [ih]
          rfl
    have hg : Txt.join "" ys = Str.join "" ys := PySem.StrLaws.glued_eq_join "" ys
    rw [hg]
    exact (TL.tl_join "" ys).trans (hj _)
  refine ⟨?_, fun c hc => ?_⟩
  · show (Txt.join "" ys).cps.size ≤ 6
    rw [← Array.length_toList, e, List.length_flatten]
    have hs : ∀ zs : List Str, (∀ z ∈ zs, z.length = 1) → ((zs.map fun z => z.cps.toList).map List.length).sum = zs.length := fun zs => by
      induction zs with
      | nil => intro _; rfl
      | cons z r ih =>
        intro hz
        have h1 : z.cps.toList.length = 1 := by
          rw [Array.length_toList]
          exact hz z (List.mem_cons_self ..)
        rw [List.map_cons, List.map_cons, List.sum_cons, h1, ih fun y hy => hz y (List.mem_cons_of_mem _ hy), List.length_cons]
        omega
    rw [hs ys fun z hz => (h z hz).1]
    exact hl
  · rw [e, List.mem_flatten] at hc
    obtain ⟨l, hl1, hl2⟩ := hc
    obtain ⟨z, hz1, rfl⟩ := List.mem_map.mp hl1
    exact (h z hz1).2 c hl2
theorem nm_more {z : Str} {c d : Nat} (h : Nm z) (hc : c < 128) (hd : d < 128) : Nm (cutS z none (some 4) ++ ⟨#[c]⟩ ++ ⟨#[d]⟩) := by
  have e : (cutS z none (some 4) ++ ⟨#[c]⟩ ++ ⟨#[d]⟩ : Str).cps.toList = (cutS z none (some 4)).cps.toList ++ [c] ++ [d] := by
    show ((cutS z none (some 4)).cps ++ #[c] ++ #[d]).toList = _
    rw [Array.toList_append, Array.toList_append]
  have e2 : (cutS z none (some 4)).cps.toList = z.cps.toList.take (HT.sIx z.length z.length (some 4)) := by
    show ((z.cps.toList.drop (HT.sIx z.length 0 none)).take (HT.sIx z.length z.length (some 4) - HT.sIx z.length 0 none)) = _
    rw [HT.sIx_none, List.drop_zero, Nat.sub_zero]
  have e3 : HT.sIx z.length z.length (some 4) ≤ 4 := by
    rw [show HT.sIx z.length z.length (some (4 : Int)) = min 4 z.length from HT.sIx_nat _ _ 4]
    omega
  refine ⟨?_, fun x hx => ?_⟩
  · show (cutS z none (some 4) ++ ⟨#[c]⟩ ++ ⟨#[d]⟩ : Str).cps.size ≤ 6
    rw [← Array.length_toList, e, e2, List.length_append, List.length_append, List.length_take, List.length_singleton, List.length_singleton]
    omega
  · rw [e, List.mem_append, List.mem_append] at hx
    rcases hx with (hx | hx) | hx
    · rw [e2] at hx
      exact h.2 x (List.mem_of_mem_take hx)
    · rw [List.mem_singleton.mp hx]
      exact hc
    · rw [List.mem_singleton.mp hx]
      exact hd
def WORDS : Str := "copy plus less over rest least same pick sort make rule cap kept at number lay put end ask tree"
theorem words_nm : (Txt.split WORDS " ").length = 20 ∧ ∀ z ∈ Txt.split WORDS " ", Nm z := by
  have hall : (Txt.split WORDS " ").length = 20 ∧ (Txt.split WORDS " ").all (fun z => decide (z.length ≤ 6) && z.cps.toList.all fun c => decide (c < 128)) = true := by decide +kernel
  refine ⟨hall.1, fun z hz => ?_⟩
  have hh := List.all_eq_true.mp hall.2 z hz
  simp only [Bool.and_eq_true, decide_eq_true_eq] at hh
  exact ⟨hh.1, fun c hc => of_decide_eq_true (List.all_eq_true.mp hh.2 c hc)⟩
def spNamed : Sp := fun vs H Q _ => ∃ (a : Addr) (many m : Nat) (b : List V), vs = [.ref a, .int many] ∧ many ≤ 20 ∧ H a = some (.lst b) ∧ BoxL m b ∧ m + 10 * many < 900000 ∧
  ∀ (H' : Hp) (l : Addr) (zs : List Str) (b' : List V), But a H H' → H l = none → H' l = some (.lst (zs.map V.str)) → zs.length = many → (∀ z ∈ zs, Nm z) → H' a = some (.lst b') → BoxL (m + 10 * many) b' → Q (.ref l) H'
theorem flat_strs : ∀ zs : List Str, (zs.map V.str).all flatV = true
  | [] => rfl
  | z :: zs => by
    rw [List.map_cons, List.all_cons, flat_strs zs]
    rfl
section
variable {P : Program} {w : World} {K : PySem.W.Frag} {mg : Str → Option Value} {base : Heap}
theorem ok_named (T : Bt mg) (c_law_take : C8.Cal P w K mg base 1 "_law_take" spTake []) (D : Dd K mg "_law_named" s__law_named P__law_named) : C8.Cal P w K mg base 2 "_law_named" spNamed [] := by
  refine D.cal sc__law_named (fun vs H Q E h => ?_) (fun f cdv A outer s H vs Q E hr h => ?_)
  · obtain ⟨a, many, m, b, rfl, _⟩ := h
    rfl
  · obtain ⟨a, many, m, b, rfl, hmany, ha, hB, hm, q⟩ := h
    refine ⟨_, (pss_cons (ps_asg (pe_tup (pa_cons pe_str (pa_cons (pe_lst pa_nil) pa_nil))) (pg_tup rfl (pgs_cons (pg_name (i := 2) sc__law_named.nd rfl (Or.inr rfl)) (pgs_cons (pg_name (i := 3) sc__law_named.nd rfl (Or.inl rfl)) pgs_nil))))
        (pss_cons (ps_set (i := 4) sc__law_named.nd rfl (Or.inl rfl) pe_str)
        (pss_cons (ps_for PassesOwn.never rfl (pi_range1 rfl T.range (pa_cons (pv 1) pa_nil)) (pg_name (i := 5) sc__law_named.nd rfl (Or.inl rfl))
          (pss_cons (ps_set (i := 6) sc__law_named.nd rfl (Or.inl rfl) (pe_bm PySem.F.plainAttrs_str PySem.F.slot_str_join PySem.F.type_str_join mt_join pe_str (pa_cons (pe_lc (own := [("_law_turn", 7)]) (by exact rfl) sc__law_named.nd (pi_range1 rfl T.range (pa_cons (pe_ix ix_list (pe_lst (pa_cons pe_int (pa_cons pe_int (pa_cons pe_int (pa_cons pe_int pa_nil))))) (C8.pe_c c_law_take hr (by decide) (by rfl) (pa_cons (pv 0) (pa_cons pe_int pa_nil))) (fun _ _ => rfl)) pa_nil)) (blkOk_by (own := [("_law_turn", 7)]) (N := N__law_named) (sc := defScope s__law_named) (by decide +kernel)) (fun _ _ _ _ _ => (pg_name (i := 7) sc__law_named.nd rfl (Or.inl rfl))) (fun _ _ _ _ _ => pts_nil) (fun _ _ _ _ _ => (pe_ix ix_str (pv 2) (C8.pe_c c_law_take hr (by decide) (by rfl) (pa_cons (pv 0) (pa_cons pe_int pa_nil))) (fun _ _ => rfl)))) pa_nil)))
        (C8.pss_cut (ps_if (pt_cmpR op_eq (C8.pe_c c_law_take hr (by decide) (by rfl) (pa_cons (pv 0) (pa_cons pe_int pa_nil))) pe_int (nomark _))
          (pss_one (ps_set (i := 6) sc__law_named.nd rfl (Or.inl rfl) (pe_ix ix_list (pe_bm PySem.F.plainAttrs_str PySem.F.slot_str_split PySem.F.type_str_split mt_split (pv 4) (pa_cons pe_str pa_nil)) (C8.pe_c c_law_take hr (by decide) (by rfl) (pa_cons (pv 0) (pa_cons pe_int pa_nil))) (fun _ _ => rfl))))
          pss_nil)
        (pss_cons (ps_for PassesOwn.never rfl (pi_range1 rfl T.range (pa_cons (pe_op op_add (pe_callB call_len_seq (by rfl) T.len PySem.boot_len (pa_cons (pv 3) pa_nil)) pe_int) pa_nil)) (pg_name (i := 7) sc__law_named.nd rfl (Or.inl rfl))
          (pss_one (ps_if (PW.pt (pw_or (pt_cmpR op_in_seq (pv 6) (pv 3) (by with_unfolding_all rfl)) (pw_or1 (pt_cmpR op_eq (pv 6) pe_str (nomark _)))))
          (pss_one (ps_set (i := 6) sc__law_named.nd rfl (Or.inl rfl) (pe_op op_add_str (pe_op op_add_str (pe_slice sl_str (pv 6) po_none (po_some pe_int)) (pe_ix ix_str (pv 2) (pe_op op_fdiv (pv 7) pe_int) (fun _ _ => rfl))) (pe_ix ix_str (pv 2) (pe_op op_mod (pv 7) pe_int) (fun _ _ => rfl)))))
          pss_nil)))
        (pss_one (ps_expr (pe_bm PySem.F.plainAttrs_list PySem.F.slot_list_append PySem.F.type_list_append mt_append (pv 3) (pa_cons (pv 6) pa_nil))))))))
        (pss_one (ps_ret (pv 3)))))), ?_⟩
    refine ⟨by show 0 ≤ sizeLine; decide, fun l nl => ⟨by show 2 ≤ sizeLine; decide, fun tp nt => ⟨tp, _, rfl, SqT.of upd_same, rfl, _, _, rfl, _, _, rfl, rfl, ?_⟩⟩⟩
    have nla : a ≠ l := ne_of_none ha nl
    have s1 := same_upd (o := .lst []) nl
    have s2 := same_upd (o := .tup [.str "abcdefghijklmnopqrstuvwxyz", .ref l]) nt
    have hl0 := s2 _ _ (upd_same (H := H) (a := l) (o := .lst []))
    have ha0 := s2 _ _ (s1 _ _ ha)
    have s12 := s1.trans s2
    obtain ⟨H0, e0⟩ : ∃ H0, H0 = upd (upd H l (.lst [])) tp (.tup [.str "abcdefghijklmnopqrstuvwxyz", .ref l]) := ⟨_, rfl⟩
    rw [← e0] at hl0 ha0 s12 ⊢
    refine ⟨_, rfl, _, rfl, by omega, by omega, ?_⟩
    refine for_range (lo := 0) (fun i σ H2 => ∃ y5 y6 y7 zs b', σ = [some (.ref a), some (.int many), some (.str "abcdefghijklmnopqrstuvwxyz"), some (.ref l), some (.str "copy plus less over rest least same pick sort make rule cap kept at number lay put end ask tree"), y5, y6, y7] ∧ But a H H2 ∧ H2 l = some (.lst (zs.map V.str)) ∧ zs.length = i ∧ (∀ z ∈ zs, Nm z) ∧ H2 a = some (.lst b') ∧ BoxL (m + 10 * i) b')
      ⟨none, none, none, [], b, rfl, But.of s12, hl0, rfl, (fun z hz => nomatch hz), ha0, hB⟩ ?_ ?_
    · rintro i σ H2 hi ⟨y5, y6, y7, zs, b2, rfl, bt2, hl2, hzl, hzs, hb2, hB2⟩
      rw [Int.zero_add]
      have hi' : i < 20 := by omega
      refine ⟨rfl, by show 4 ≤ sizeLine; decide, fun l4 n4 => ?_⟩
      have na4 : a ≠ l4 := ne_of_none hb2 n4
      refine ⟨_, rfl, a, 4, m + 10 * i, b2, rfl, same_upd n4 _ _ hb2, hB2, by omega, by decide, by decide, fun r4 b3 r40 r41 hB3 => ?_⟩
      obtain ⟨nn, hnn, hat⟩ : ∃ nn : Nat, nn ≤ 6 ∧ atI [V.int 1, .int 2, .int 3, .int 6] r4 = some (.int nn) := by
        have hc : r4 = 0 ∨ r4 = 1 ∨ r4 = 2 ∨ r4 = 3 := by omega
        rcases hc with rfl | rfl | rfl | rfl
        · exact ⟨1, by decide, atI_nat (j := 0) rfl⟩
        · exact ⟨2, by decide, atI_nat (j := 1) rfl⟩
        · exact ⟨3, by decide, atI_nat (j := 2) rfl⟩
        · exact ⟨6, by decide, atI_nat (j := 3) rfl⟩
      refine ⟨l4, _, _, _, rfl, rfl, SqL.of (by rw [upd_ne na4.symm, upd_same]), hat, nn, rfl, by omega, by omega, fun D nD => ?_⟩
      have hl3 : (upd (upd H2 l4 (.lst [.int 1, .int 2, .int 3, .int 6])) a (.lst b3)) l = some (.lst (zs.map V.str)) := by
        rw [upd_ne nla.symm]
        exact same_upd n4 _ _ hl2
      have hb3 : (upd (upd H2 l4 (.lst [.int 1, .int 2, .int 3, .int 6])) a (.lst b3)) a = some (.lst b3) := upd_same
      have bt3 : But a H (upd (upd H2 l4 (.lst [.int 1, .int 2, .int 3, .int 6])) a (.lst b3)) := But.upd (But.new bt2 n4)
      obtain ⟨Z, eZ⟩ : ∃ Z, Z = upd (upd H2 l4 (.lst [.int 1, .int 2, .int 3, .int 6])) a (.lst b3) := ⟨_, rfl⟩
      rw [← eZ] at nD hl3 hb3 bt3 ⊢
      have nDa : a ≠ D := ne_of_none hb3 nD
      refine lc_range (lo := 0) (n := (nn : Int).toNat) (fun j H' => But a Z H' ∧ ∃ b' ys, H' a = some (.lst b') ∧ BoxL (m + 10 * i + 1 + j) b' ∧ H' D = some (.lst (ys.map V.str)) ∧ ys.length = j ∧ ∀ z ∈ ys, z.length = 1 ∧ ∀ c ∈ z.cps.toList, c < 128)
        ⟨But.of (same_upd nD), b3, [], by rw [upd_ne nDa]; exact hb3, hB3, upd_same, rfl, (fun z hz => nomatch hz)⟩ ?_ ?_
      · rintro j H4 hj ⟨bt4, b4, ys, hb4, hB4, hD4, hyl, hys⟩
        refine ⟨rfl, yesT ?_⟩
        refine ⟨_, rfl, _, rfl, a, 26, _, b4, rfl, hb4, hB4, by omega, by decide, by decide, fun r b5 r0 r1 hB5 => ?_⟩
        obtain ⟨c, hc, c128⟩ := let_at r0 r1
        refine ⟨LET, r, c, rfl, rfl, by decide +kernel, hc, ?_⟩
        refine ⟨_, by rw [upd_ne nDa.symm]; exact hD4, by rw [List.length_map, hyl]; exact small1000 (by omega), ?_, b5, ys ++ [⟨#[c]⟩], by rw [upd_ne nDa, upd_same], hB5, by rw [upd_same, List.map_append]; rfl, by rw [List.length_append, hyl]; rfl, fun z hz => ?_⟩
        · refine fun x o nx hx => ?_
          rw [upd_ne (ne_of_none hx nD), upd_ne nx]
          exact bt4 _ _ nx hx
        · rcases List.mem_append.mp hz with h | h
          · exact hys z h
          · rw [List.mem_singleton.mp h]
            exact ⟨rfl, (nm_one c128).2⟩
      rintro H4 ⟨bt4, b4, ys, hb4, hB4, hD4, hyl, hys⟩
      have hy6 : ys.length ≤ 6 := by omega
      have hB4 := hB4.mono (show m + 10 * i + 1 + (nn : Int).toNat ≤ m + 10 * i + 7 by omega)
      refine ⟨"", D, ys, rfl, rfl, .inl (SqL.of hD4), ?_, ?_⟩
      · have hs : ∀ zs : List Str, (∀ z ∈ zs, z.length = 1) → (zs.map fun x => x.length).sum = zs.length := fun zs => by
          induction zs with
          | nil => intro _; rfl
          | cons z r ih =>
            intro hz
            rw [List.map_cons, List.sum_cons, hz z (List.mem_cons_self ..), ih fun y hy => hz y (List.mem_cons_of_mem _ hy), List.length_cons]
            omega
        rw [hs ys fun z hz => (hys z hz).1, show (("" : String) : Str).length = 0 from rfl]
        omega
      have nm0 := nm_join hy6 hys
      have hl4 := bt4 _ _ nla.symm hl3
      have btA := bt3.trans bt4
      refine ⟨fun σ H5 => ∃ z b5, σ = [some (.ref a), some (.int many), some (.str "abcdefghijklmnopqrstuvwxyz"), some (.ref l), some (.str "copy plus less over rest least same pick sort make rule cap kept at number lay put end ask tree"), some (.int i), some (.str z), y7] ∧ Nm z ∧ But a H H5 ∧ H5 l = some (.lst (zs.map V.str)) ∧ H5 a = some (.lst b5) ∧ BoxL (m + 10 * i + 9) b5, ?_, ?_⟩
      · refine ⟨_, rfl, a, 12, m + 10 * i + 7, b4, rfl, hb4, hB4, by omega, by decide, by decide, fun r b5 r0 r1 hB5 => ⟨rfl, _, rfl, ?_⟩⟩
        have hl5 : (upd H4 a (.lst b5)) l = some (.lst (zs.map V.str)) := by
          rw [upd_ne nla.symm]
          exact hl4
        have bt5 : But a H (upd H4 a (.lst b5)) := But.upd btA
        by_cases e : r = 0
        · refine ifT (decide_eq_true (by rw [e])) ?_
          refine ⟨_, rfl, rfl, WORDS, " ", rfl, rfl, rfl, by decide +kernel, fun p np => ?_⟩
          have npa : a ≠ p := fun z => by
            rw [← z, upd_same] at np
            cases np
          refine ⟨_, rfl, a, 20, m + 10 * i + 8, b5, rfl, same_upd np _ _ upd_same, hB5, by omega, by decide, by decide, fun r2 b6 r20 r21 hB6 => ?_⟩
          obtain ⟨w20, wnm⟩ := words_nm
          obtain ⟨k, rfl⟩ : ∃ k : Nat, r2 = (k : Int) := ⟨r2.toNat, by omega⟩
          have hk : k < (Txt.split WORDS " ").length := by
            rw [w20]
            omega
          refine ⟨p, _, _, .str (Txt.split WORDS " ")[k], rfl, rfl, SqL.of (by rw [upd_ne npa.symm, upd_same]), atI_nat (j := k) (by rw [List.getElem?_map, List.getElem?_eq_getElem hk]; rfl), ?_⟩
          exact ⟨_, b6, rfl, wnm _ (List.getElem_mem hk), But.upd (But.new bt5 np), by rw [upd_ne nla.symm]; exact same_upd np _ _ hl5, upd_same, hB6⟩
        · exact ifF (decide_eq_false fun z => e (V.int.inj z)) ⟨_, b5, rfl, nm0, bt5, hl5, upd_same, hB5.mono (by omega)⟩
      · rintro σ H5 ⟨z0, b5, rfl, hz0, bt5, hl5, hb5, hB5⟩
        have hzl2 : ((zs.map V.str).length : Int) ≤ 20 := by
          rw [List.length_map]
          omega
        refine ⟨_, rfl, l, _, rfl, .inl (SqL.of hl5), _, _, rfl, rfl, _, rfl, by omega, by omega, ?_⟩
        refine for_range (lo := 0) (fun j σ H6 => H6 = H5 ∧ ∃ z y, σ = [some (.ref a), some (.int many), some (.str "abcdefghijklmnopqrstuvwxyz"), some (.ref l), some (.str "copy plus less over rest least same pick sort make rule cap kept at number lay put end ask tree"), some (.int i), some (.str z), y] ∧ Nm z) ⟨rfl, z0, y7, rfl, hz0⟩ ?_ ?_
        · rintro j σ H6 hj ⟨rfl, z, y, rfl, hz⟩
          rw [Int.zero_add]
          have hj2 : j < 26 := by omega
          obtain ⟨c1, hc1, k1⟩ := let_at (r := (j : Int) / 26) (by omega) (by omega)
          obtain ⟨c2, hc2, k2⟩ := let_at (r := (j : Int) % 26) (by omega) (by omega)
          refine ⟨_, rfl, _, rfl, l, _, rfl, .inl (SqL.of hl5), rfl, flat_strs zs, _, rfl, ?_⟩
          cases hc : inV (.str z) (zs.map V.str) with
          | true =>
            refine ifT rfl (iteT ?_)
            -- the name's first four signs, and two letters
            refine ⟨_, rfl, 4, rfl, z, rfl, Nat.le_trans hz.1 (by decide), ?_⟩
            refine ⟨_, rfl, _, rfl, _, _, rfl, rfl, ⟨by show (0 : Int) < 26; decide, by decide⟩, LET, _, c1, rfl, rfl, by decide +kernel, hc1, ?_⟩
            refine ⟨_, _, rfl, rfl, Nat.le_trans (show _ ≤ 7 from by
              have := cutS_length z none (some 4)
              have := hz.1
              show (cutS z none (some 4)).length + 1 ≤ 7
              omega) (by decide), ?_⟩
            refine ⟨_, rfl, _, rfl, _, _, rfl, rfl, (by show (0 : Int) < 26; decide), LET, _, c2, rfl, rfl, by decide +kernel, hc2, ?_⟩
            refine ⟨_, _, rfl, rfl, Nat.le_trans (show _ ≤ 8 from by
              have := cutS_length z none (some 4)
              have := hz.1
              rw [strLen_append]
              show (cutS z none (some 4)).length + 1 + 1 ≤ 8
              omega) (by decide), ?_⟩
            exact ⟨rfl, _, _, rfl, nm_more hz k1 k2⟩
          | false =>
            refine ifF rfl ?_
            refine ⟨_, rfl, rfl, _, rfl, ?_⟩
            by_cases e : z = ("own" : String)
            · refine ifT (decide_eq_true (congrArg V.str e)) ?_
              -- the name's first four signs, and two letters
              refine ⟨_, rfl, 4, rfl, z, rfl, Nat.le_trans hz.1 (by decide), ?_⟩
              refine ⟨_, rfl, _, rfl, _, _, rfl, rfl, ⟨by show (0 : Int) < 26; decide, by decide⟩, LET, _, c1, rfl, rfl, by decide +kernel, hc1, ?_⟩
              refine ⟨_, _, rfl, rfl, Nat.le_trans (show _ ≤ 7 from by
                have := cutS_length z none (some 4)
                have := hz.1
                show (cutS z none (some 4)).length + 1 ≤ 7
                omega) (by decide), ?_⟩
              refine ⟨_, rfl, _, rfl, _, _, rfl, rfl, (by show (0 : Int) < 26; decide), LET, _, c2, rfl, rfl, by decide +kernel, hc2, ?_⟩
              refine ⟨_, _, rfl, rfl, Nat.le_trans (show _ ≤ 8 from by
                have := cutS_length z none (some 4)
                have := hz.1
                rw [strLen_append]
                show (cutS z none (some 4)).length + 1 + 1 ≤ 8
                omega) (by decide), ?_⟩
              exact ⟨rfl, _, _, rfl, nm_more hz k1 k2⟩
            · exact ifF (decide_eq_false fun y => e (V.str.inj y)) ⟨rfl, _, _, rfl, hz⟩
        · rintro σ H6 ⟨rfl, z, y, rfl, hz⟩
          refine ⟨_, rfl, .inl ⟨rfl, _, SqL.of hl5⟩, _, rfl, l, _, .str z, rfl, rfl, hl5, by rw [List.length_map]; exact small1000 (by omega), ?_⟩
          refine ⟨_, _, _, zs ++ [z], b5, rfl, ?_, by rw [upd_same, List.map_append]; rfl, by rw [List.length_append, hzl]; rfl, fun x hx => ?_, by rw [upd_ne nla]; exact hb5, hB5.mono (by omega)⟩
          · refine fun x o nx hx => ?_
            rw [upd_ne (ne_of_none hx nl)]
            exact bt5 _ _ nx hx
          · rcases List.mem_append.mp hx with h | h
            · exact hzs x h
            · rw [List.mem_singleton.mp h]
              exact hz
    · rintro σ H2 ⟨y5, y6, y7, zs, b2, rfl, bt2, hl2, hzl, hzs, hb2, hB2⟩
      exact ⟨_, rfl, q _ l zs b2 bt2 nl hl2 hzl hzs hb2 hB2⟩
end
/-! ### trees of any names -/
abbrev s__law_wild : Stmt := top 25
abbrev N__law_wild : List Str := ["_law_box", "_law_names", "_law_room", "_law_deep", "_law_many", "_law_left", "_law_parts", "_law_k", "_law_some"]
abbrev P__law_wild : List Str := ["_law_box", "_law_names", "_law_room", "_law_deep"]
theorem sc__law_wild : FnScope N__law_wild P__law_wild (defScope s__law_wild) := ⟨rfl, rfl, rfl, by decide +kernel, rfl, by decide +kernel, by decide +kernel⟩
mutual
/-- a tree so deep, of so many nodes -/
inductive Tr : Nat → Nat → PyData → Prop where
  | mk {n k : Nat} {z : Str} {i : Int} {ds : List PyData} (hz : Nm z) (h0 : 0 ≤ i) (h1 : i < 1000000) (hl : ds.length ≤ 2) (h : TrAll n k ds) : Tr (n + 1) (k + 1) (.tuple [.str z, .int i, .tuple ds])
inductive TrAll : Nat → Nat → List PyData → Prop where
  | nil (n : Nat) : TrAll n 0 []
  | cons {n k k' : Nat} {d : PyData} {ds : List PyData} (h : Tr n k d) (a : TrAll n k' ds) : TrAll n (k + k') (d :: ds)
end
theorem TrAll.snoc : ∀ {n k : Nat} {ds : List PyData}, TrAll n k ds → ∀ {k' : Nat} {d : PyData}, Tr n k' d → TrAll n (k + k') (ds ++ [d])
  | _, _, _, .nil n, k', d, h => by
    rw [Nat.zero_add]
    exact (show TrAll n (k' + 0) [d] from .cons h (.nil n))
  | _, _, _, .cons h0 a, k', d, h => by
    rw [Nat.add_assoc]
    exact .cons h0 (TrAll.snoc a h)
def spWild (K : PySem.W.Frag) (n : Nat) : Sp := fun vs H Q _ => ∃ (a nl : Addr) (room deep : Int) (m : Nat) (b : List V) (zs : List Str), vs = [.ref a, .ref nl, .int room, .int deep] ∧ deep ≤ n ∧ 1 ≤ room ∧ room ≤ 1000 ∧ H a = some (.lst b) ∧ BoxL m b ∧ m + 9 * room.toNat < 900000 ∧
  SqL K H nl (zs.map V.str) ∧ nl ≠ a ∧ 0 < zs.length ∧ zs.length ≤ 1000 ∧ (∀ z ∈ zs, Nm z) ∧
  ∀ (H' : Hp) (v : V) (d : PyData) (k : Nat) (b' : List V), But a H H' → H' a = some (.lst b') → BoxL (m + 9 * room.toNat) b' → Dp K (Nw H H') v d → Tr (n + 1) k d → k ≤ room.toNat → Q v H'
structure Wl (mg : Str → Option Value) : Prop where
  range : mg "range" = none
  min : mg "min" = none
  tuple : mg "tuple" = none
section
variable {P : Program} {w : World} {K : PySem.W.Frag} {mg : Str → Option Value} {base : Heap}
theorem ok_wild (T : Wl mg) (c_law_take : C8.Cal P w K mg base 1 "_law_take" spTake []) (c_law_one_of : C8.Cal P w K mg base 2 "_law_one_of" (spOneOf K) []) (c_law_number : C8.Cal P w K mg base 2 "_law_number" spNumber [])
    (D : Dd K mg "_law_wild" s__law_wild P__law_wild) : ∀ n, C8.Cal P w K mg base (n + 3) "_law_wild" (spWild K n) [] := by
  intro n
  induction n with
  | zero =>
    refine D.cal sc__law_wild (fun vs H Q E h => ?_) (fun f cdv A outer s H vs Q E hr h => ?_)
    · obtain ⟨a, nl, room, deep, m, b, zs, rfl, _⟩ := h
      rfl
    · obtain ⟨a, nl, room, deep, m, b, zs, rfl, hdp, hr1, hr2, ha, hB, hm, hN, nn, z0, z1, hz, q⟩ := h
      refine ⟨_, (pss_cons (ps_par3 rfl sc__law_wild.nd (i := 4) (j := 5) (l := 6) rfl rfl rfl (by decide) (by decide) (by decide) rfl rfl rfl (pa_cons (pe_ifExp (pt_cmpR op_gt (pv 3) pe_int (nomark _)) (C8.pe_c c_law_take hr (by omega) (by rfl) (pa_cons (pv 0) (pa_cons pe_int pa_nil))) pe_int) (pa_cons (pe_op op_sub (pv 2) pe_int) (pa_cons (pe_lst pa_nil) pa_nil))) (by rfl))
          (pss_cons (ps_for PassesOwn.never rfl (pi_range1 rfl T.range (pa_cons (pe_callB (call_min2 rfl) (by rfl) T.min (by decide +kernel) (pa_cons (pv 4) (pa_cons (pv 5) pa_nil))) pa_nil)) (pg_name (i := 7) sc__law_wild.nd rfl (Or.inl rfl)) (pss_cons ps_never (pss_cons ps_never (pss_cons ps_never (pss_one ps_never)))))
          (pss_one (ps_ret (pe_tup (pa_cons (C8.pe_c c_law_one_of hr (by omega) (by rfl) (pa_cons (pv 0) (pa_cons (pv 1) pa_nil))) (pa_cons (pe_ix ix_list (pe_lst (pa_cons pe_int (pa_cons pe_int (pa_cons pe_int (pa_cons (C8.pe_c c_law_number hr (by omega) (by rfl) (pa_cons (pv 0) pa_nil)) pa_nil))))) (C8.pe_c c_law_take hr (by omega) (by rfl) (pa_cons (pv 0) (pa_cons pe_int pa_nil))) (fun _ _ => rfl)) (pa_cons (pe_callTy call_tuple_of (by rfl) T.tuple (by decide +kernel) (pa_cons (pv 6) pa_nil)) pa_nil)))))))), ?_⟩
      refine ⟨_, rfl, _, _, rfl, rfl, _, rfl, ifF (decide_eq_false (by omega)) ?_⟩
      refine ⟨_, rfl, _, _, rfl, rfl, by show 0 ≤ sizeLine; decide, fun L nLH => ⟨_, _, _, rfl, ?_⟩⟩
      have e0 : (if room - 1 < 0 then room - 1 else 0) = (0 : Int) := if_neg (by omega)
      refine ⟨_, rfl, _, rfl, _, _, rfl, _, rfl, by rw [e0]; decide, by rw [e0]; decide, ?_⟩
      refine for_range (lo := 0) (fun j σ H3 => σ = [some (.ref a), some (.ref nl), some (.int room), some (.int deep), some (.int 0), some (.int (room - 1)), some (.ref L), none, none] ∧ H3 = upd H L (.lst [])) ⟨rfl, rfl⟩ (fun i σ H3 hi _ => absurd hi (by rw [e0]; exact Nat.not_lt_zero i)) ?_
      rintro σ H3 ⟨rfl, rfl⟩
      have btZ : But a H (upd H L (.lst [])) := But.of (same_upd nLH)
      have hbZ := same_upd (o := .lst []) nLH _ _ ha
      have hBZ := hB
      have hL : (upd H L (.lst [])) L = some (.lst []) := upd_same
      obtain ⟨vs, ds, k, hL, dAll, trA, hl2, hk⟩ : ∃ (vs : List V) (ds : List PyData) (k : Nat), (upd H L (.lst [])) L = some (.lst vs) ∧ DpAll K (Nw H (upd H L (.lst []))) vs ds ∧ TrAll 0 k ds ∧ ds.length ≤ 2 ∧ k + 1 ≤ room.toNat := ⟨[], [], 0, hL, .nil, .nil 0, by decide, by omega⟩
      obtain ⟨Z, eZ⟩ : ∃ Z, Z = upd H L (.lst []) := ⟨_, rfl⟩
      rw [← eZ] at btZ hbZ hL dAll ⊢
      obtain ⟨m1, em⟩ : ∃ m1, m1 = m := ⟨_, rfl⟩
      rw [← em] at hBZ
      obtain ⟨b1, eb⟩ : ∃ b1, b1 = b := ⟨_, rfl⟩
      rw [← eb] at hbZ hBZ
      refine ⟨_, rfl, _, rfl, a, nl, m1, b1, zs.map V.str, rfl, hbZ, hBZ, by omega, But.seq btZ nn hN, nn, by rw [List.length_map]; exact z0, by rw [List.length_map]; exact z1, fun i v b2 hv hB2 => ?_⟩
      obtain ⟨z, hzi, rfl⟩ : ∃ z, zs[i]? = some z ∧ v = .str z := by
        rw [List.getElem?_map] at hv
        cases e : zs[i]? with
        | none => rw [e] at hv; cases hv
        | some t => rw [e] at hv; exact ⟨t, rfl, (Option.some.inj hv).symm⟩
      have nma := hz z (List.mem_of_getElem? hzi)
      refine ⟨_, rfl, a, m1 + 1, b2, rfl, upd_same, hB2, by omega, fun H3 r b3 bt3 hb3 hB3 r0 r1 => ?_⟩
      refine ⟨by show 4 ≤ sizeLine; decide, fun l4 n4 => ?_⟩
      have nl4 : a ≠ l4 := ne_of_none hb3 n4
      refine ⟨_, rfl, a, 4, m1 + 5, b3, rfl, same_upd n4 _ _ hb3, hB3, by omega, by decide, by decide, fun r4 b4 r40 r41 hB4 => ?_⟩
      obtain ⟨oi, o0, o1, hat⟩ : ∃ oi : Int, 0 ≤ oi ∧ oi < 1000000 ∧ atI [V.int 0, .int 0, .int 1, .int r] r4 = some (.int oi) := by
        have hc : r4 = 0 ∨ r4 = 1 ∨ r4 = 2 ∨ r4 = 3 := by omega
        rcases hc with rfl | rfl | rfl | rfl
        · exact ⟨0, by decide, by decide, atI_nat (j := 0) rfl⟩
        · exact ⟨0, by decide, by decide, atI_nat (j := 1) rfl⟩
        · exact ⟨1, by decide, by decide, atI_nat (j := 2) rfl⟩
        · exact ⟨r, r0, r1, atI_nat (j := 3) rfl⟩
      refine ⟨l4, _, _, _, rfl, rfl, SqL.of (by rw [upd_ne nl4.symm, upd_same]), hat, ?_⟩
      have nLa : L ≠ a := fun y => by
        rw [y, ha] at nLH
        cases nLH
      have btZ5 : But a Z (upd (upd H3 l4 (.lst [.int 0, .int 0, .int 1, .int r])) a (.lst b4)) := But.upd (But.new ((But.upd (But.refl a Z)).trans bt3) n4)
      have hb5 : (upd (upd H3 l4 (.lst [.int 0, .int 0, .int 1, .int r])) a (.lst b4)) a = some (.lst b4) := upd_same
      have hL5 := btZ5 _ _ nLa hL
      obtain ⟨Z5, e5⟩ : ∃ Z5, Z5 = upd (upd H3 l4 (.lst [.int 0, .int 0, .int 1, .int r])) a (.lst b4) := ⟨_, rfl⟩
      rw [← e5] at btZ5 hb5 hL5 ⊢
      refine ⟨_, rfl, L, vs, rfl, .inl ⟨SqL.of hL5, fun t nt => ?_⟩⟩
      refine ⟨by show 3 ≤ sizeLine; decide, fun p np => ?_⟩
      have k1 := same_upd (o := .tup vs) nt
      have k2 := same_upd (o := .tup [.str z, .int oi, .ref t]) np
      have kk := k1.trans k2
      have bt5 := btZ.trans btZ5
      have f1 : H t = none := But.free bt5 hb5 nt
      have f2 : H p = none := But.free (bt5.trans (But.of k1)) (k1 _ _ hb5) np
      have dA2 : DpAll K (Nw H (upd (upd Z5 t (.tup vs)) p (.tup [.str z, .int oi, .ref t]))) vs ds := dpAll_same (fun c o e => by
        obtain ⟨c1, c2⟩ := Nw.get e
        have nca : c ≠ a := fun y => by
          rw [y, ha] at c1
          cases c1
        exact Nw.mk c1 (kk _ _ (btZ5 _ _ nca c2))) dAll
      exact q _ _ _ (k + 1) b4 (bt5.trans (But.of kk)) (kk _ _ hb5) (hB4.mono (by omega)) (.tup (SqT.of (Nw.mk f2 upd_same)) (.cons (.str _) (.cons (.int _) (.cons (.tup (SqT.of (Nw.mk f1 (k2 _ _ upd_same))) dA2) .nil)))) (.mk nma o0 o1 hl2 trA) hk
  | succ n c_law_wild =>
    refine D.cal sc__law_wild (fun vs H Q E h => ?_) (fun f cdv A outer s H vs Q E hr h => ?_)
    · obtain ⟨a, nl, room, deep, m, b, zs, rfl, _⟩ := h
      rfl
    · obtain ⟨a, nl, room, deep, m, b, zs, rfl, hdp, hr1, hr2, ha, hB, hm, hN, nn, z0, z1, hz, q⟩ := h
      refine ⟨_, (pss_cons (ps_par3 rfl sc__law_wild.nd (i := 4) (j := 5) (l := 6) rfl rfl rfl (by decide) (by decide) (by decide) rfl rfl rfl (pa_cons (pe_ifExp (pt_cmpR op_gt (pv 3) pe_int (nomark _)) (C8.pe_c c_law_take hr (by omega) (by rfl) (pa_cons (pv 0) (pa_cons pe_int pa_nil))) pe_int) (pa_cons (pe_op op_sub (pv 2) pe_int) (pa_cons (pe_lst pa_nil) pa_nil))) (by rfl))
          (pss_cons (ps_for PassesOwn.never rfl (pi_range1 rfl T.range (pa_cons (pe_callB (call_min2 rfl) (by rfl) T.min (by decide +kernel) (pa_cons (pv 4) (pa_cons (pv 5) pa_nil))) pa_nil)) (pg_name (i := 7) sc__law_wild.nd rfl (Or.inl rfl))
            (C8.pss_cut (ps_set (i := 8) sc__law_wild.nd rfl (Or.inl rfl) (pe_ifExp (pt_cmpR op_eq (pe_op op_add (pv 7) pe_int) (pe_callB (call_min2 rfl) (by rfl) T.min (by decide +kernel) (pa_cons (pv 4) (pa_cons (pv 5) pa_nil))) (nomark _)) (pv 5) (pe_op op_add (C8.pe_c c_law_take hr (by omega) (by rfl) (pa_cons (pv 0) (pa_cons (pv 5) pa_nil))) pe_int)))
          (pss_cons (ps_set (i := 8) sc__law_wild.nd rfl (Or.inl rfl) (pe_callB (call_min2 rfl) (by rfl) T.min (by decide +kernel) (pa_cons (pv 8) (pa_cons (pe_op op_sub (pv 5) (pe_op op_sub (pe_op op_sub (pe_callB (call_min2 rfl) (by rfl) T.min (by decide +kernel) (pa_cons (pv 4) (pa_cons (pv 5) pa_nil))) (pv 7)) pe_int)) pa_nil))))
          (pss_cons (ps_expr (pe_bm PySem.F.plainAttrs_list PySem.F.slot_list_append PySem.F.type_list_append mt_append (pv 6) (pa_cons (C8.pe_c c_law_wild hr (by omega) (by rfl) (pa_cons (pv 0) (pa_cons (pv 1) (pa_cons (pv 8) (pa_cons (pe_op op_sub (pv 3) pe_int) pa_nil))))) pa_nil)))
          (pss_one (ps_set (i := 5) sc__law_wild.nd rfl (Or.inl rfl) (pe_op op_sub (pv 5) (pv 8))))))))
          (pss_one (ps_ret (pe_tup (pa_cons (C8.pe_c c_law_one_of hr (by omega) (by rfl) (pa_cons (pv 0) (pa_cons (pv 1) pa_nil))) (pa_cons (pe_ix ix_list (pe_lst (pa_cons pe_int (pa_cons pe_int (pa_cons pe_int (pa_cons (C8.pe_c c_law_number hr (by omega) (by rfl) (pa_cons (pv 0) pa_nil)) pa_nil))))) (C8.pe_c c_law_take hr (by omega) (by rfl) (pa_cons (pv 0) (pa_cons pe_int pa_nil))) (fun _ _ => rfl)) (pa_cons (pe_callTy call_tuple_of (by rfl) T.tuple (by decide +kernel) (pa_cons (pv 6) pa_nil)) pa_nil)))))))), ?_⟩
      by_cases dz : 0 < deep
      · refine ⟨_, rfl, _, _, rfl, rfl, _, rfl, ifT (decide_eq_true dz) ?_⟩
        refine ⟨_, rfl, a, 3, m, b, rfl, ha, hB, by omega, by decide, by decide, fun many b0 mn0 mn1 hB0 => ?_⟩
        refine ⟨_, rfl, _, _, rfl, rfl, by show 0 ≤ sizeLine; decide, fun L nL => ⟨_, _, _, rfl, ?_⟩⟩
        have nLa : L ≠ a := fun y => by
          rw [y, upd_same] at nL
          cases nL
        have nLH : H L = none := by
          rw [upd_ne nLa] at nL
          exact nL
        refine ⟨_, rfl, _, rfl, _, _, rfl, _, rfl, by split <;> omega, by split <;> omega, ?_⟩
        obtain ⟨KK, eK⟩ : ∃ KK : Int, KK = if room - 1 < many then room - 1 else many := ⟨_, rfl⟩
        have hK : 0 ≤ KK ∧ KK ≤ 2 ∧ (KK = 2 → many = 2 ∧ 2 ≤ room - 1) ∧ KK ≤ room - 1 := by
          rw [eK]
          split <;> omega
        rw [← eK]
        obtain ⟨hK0, hK2, hKm, hKr⟩ := hK
        refine for_range (lo := 0) (n := KK.toNat) (fun j σ H3 => ∃ left y7 y8 vs ds k b', σ = [some (.ref a), some (.ref nl), some (.int room), some (.int deep), some (.int many), some (.int left), some (.ref L), y7, y8] ∧ But a H H3 ∧ H3 a = some (.lst b') ∧ H3 L = some (.lst vs) ∧ vs.length = j ∧ DpAll K (Nw (upd H L (.lst [])) H3) vs ds ∧ TrAll (n + 1) k ds ∧ 0 ≤ left ∧ left ≤ room - 1 ∧ (k : Int) ≤ room - 1 - left ∧ (j < KK.toNat → 1 ≤ left) ∧ (j = 0 → left = room - 1) ∧ BoxL (m + 1 + j + 9 * (room - 1 - left).toNat) b')
          ⟨room - 1, none, none, [], [], 0, b0, rfl, But.new (But.upd (But.refl a H)) nL, by rw [upd_ne nLa.symm, upd_same], upd_same, rfl, .nil, .nil _, by omega, by omega, by omega, fun _ => by omega, fun _ => rfl, hB0.mono (by omega)⟩ ?_ ?_
        · rintro j σ H3 hj ⟨left, y7, y8, vs, ds, k, b3, rfl, bt3, hb3, hL3, hvl, hdp3, htr, l0, l1, hk, hl, hj0, hB3⟩
          rw [Int.zero_add]
          have hl := hl hj
          have hj2 : j < 2 := by omega
          refine ⟨fun σ H4 => ∃ s1 b4, σ = [some (.ref a), some (.ref nl), some (.int room), some (.int deep), some (.int many), some (.int left), some (.ref L), some (.int j), some (.int s1)] ∧ But a H3 H4 ∧ H4 a = some (.lst b4) ∧ 1 ≤ s1 ∧ s1 ≤ left ∧ BoxL (m + 1 + j + 9 * (room - 1 - left).toNat + 1) b4, ?_, ?_⟩
          · refine ⟨_, rfl, _, _, rfl, rfl, _, rfl, _, rfl, _, _, rfl, rfl, _, rfl, ?_⟩
            by_cases e : (j : Int) + 1 = (if left < many then left else many)
            · exact ifT (decide_eq_true (congrArg V.int e)) ⟨_, rfl, left, b3, rfl, But.refl a H3, hb3, hl, by omega, hB3.mono (by omega)⟩
            · refine ifF (decide_eq_false fun z => e (V.int.inj z)) ?_
              refine ⟨_, rfl, _, rfl, a, left, _, b3, rfl, hb3, hB3, by omega, by omega, by omega, fun r b4 r0 r1 hB4 => ⟨_, _, rfl, rfl, ?_⟩⟩
              exact ⟨r + 1, b4, rfl, But.upd (But.refl a H3), upd_same, by omega, by omega, hB4⟩
          · rintro σ H4 ⟨s1, b4, rfl, bt4, hb4, s10, s11, hB4⟩
            refine ⟨_, rfl, _, rfl, _, rfl, _, rfl, _, _, rfl, _, rfl, _, _, rfl, rfl, _, _, rfl, rfl, _, _, rfl, rfl, _, _, rfl, ?_⟩
            obtain ⟨s2, e2⟩ : ∃ s2 : Int, s2 = (if left - ((if left < many then left else many) - (j : Int) - 1) < s1 then left - ((if left < many then left else many) - (j : Int) - 1) else s1) := ⟨_, rfl⟩
            have hs2 : 1 ≤ s2 ∧ s2 ≤ left ∧ (j = 0 → KK = 2 → s2 ≤ left - 1) := by
              have hmn : (if left < many then left else many) ≤ left ∧ (if left < many then left else many) ≤ 2 ∧ (j = 0 → KK = 2 → (if left < many then left else many) = 2) := by
                split <;> refine ⟨by omega, by omega, fun h1 h2 => ?_⟩
                · have := hj0 h1
                  have := hKm h2
                  omega
                · have := hKm h2
                  omega
              obtain ⟨g1, g2, g3⟩ := hmn
              rw [e2]
              split
              · refine ⟨by omega, by omega, fun h1 h2 => ?_⟩
                have := g3 h1 h2
                omega
              · refine ⟨by omega, by omega, fun h1 h2 => ?_⟩
                have := g3 h1 h2
                omega
            rw [← e2]
            obtain ⟨s20, s21, s22⟩ := hs2
            have hL4 := bt4 _ _ nLa hL3
            refine ⟨_, rfl, .inl ⟨rfl, _, SqL.of hL4⟩, _, rfl, _, rfl, _, rfl, _, rfl, _, _, rfl, rfl, ?_⟩
            refine ⟨a, nl, s2, deep - 1, _, b4, zs, rfl, by omega, s20, by omega, hb4, hB4, by omega, But.seq (bt3.trans bt4) nn hN, nn, z0, z1, hz, fun H5 v d k2 b5 bt5 hb5 hB5 hv tr5 hk2 => ?_⟩
            have hL5 := bt5 _ _ nLa hL4
            refine ⟨L, vs, v, rfl, rfl, hL5, by rw [hvl]; exact small1000 (by omega), ?_⟩
            refine ⟨_, rfl, _, rfl, _, _, rfl, rfl, ?_⟩
            refine ⟨left - s2, _, _, vs ++ [v], ds ++ [d], k + k2, b5, rfl, ?_, by rw [upd_ne nLa.symm]; exact hb5, upd_same, by rw [List.length_append, hvl]; rfl, ?_, htr.snoc tr5, by omega, by omega, by omega, fun h => ?_, fun h => absurd h (by omega), hB5.mono (by omega)⟩
            · refine fun c o nc hc => ?_
              rw [upd_ne (ne_of_none hc nLH)]
              exact bt5 _ _ nc (bt4 _ _ nc (bt3 _ _ nc hc))
            · refine dpAll_snoc (dpAll_same (fun c o e => ?_) hdp3) (dp_same (fun c o e => ?_) hv)
              · obtain ⟨c1, c2⟩ := Nw.get e
                have nc : c ≠ L := fun z => by
                  rw [z, upd_same] at c1
                  cases c1
                have nca : c ≠ a := fun z => by
                  rw [z, upd_ne nLa.symm, ha] at c1
                  cases c1
                exact Nw.mk c1 (by rw [upd_ne nc]; exact bt5 _ _ nca (bt4 _ _ nca c2))
              · obtain ⟨c1, c2⟩ := Nw.get e
                have nc : c ≠ L := fun z => by
                  rw [z, hL4] at c1
                  cases c1
                exact Nw.mk (by rw [upd_ne nc]; exact But.free (bt3.trans bt4) hb4 c1) (by rw [upd_ne nc]; exact c2)
            · have h0 : j = 0 := by omega
              have := s22 h0 (by omega)
              omega
        · rintro σ Z ⟨left, y7, y8, vs, ds, k, b1, rfl, btZ, hbZ, hL, hvl, hdp3, trA, l0, l1, hk', hl, hj0, hBZ⟩
          have lds := dpAll_len hdp3
          have hl2 : ds.length ≤ 2 := by omega
          have hk : k + 1 ≤ room.toNat := by omega
          obtain ⟨m1, em⟩ : ∃ m1, m1 = m + 1 + KK.toNat + 9 * (room - 1 - left).toNat := ⟨_, rfl⟩
          rw [← em] at hBZ
          have dAll : DpAll K (Nw H Z) vs ds := dpAll_same (fun c o e => by
            obtain ⟨c1, c2⟩ := Nw.get e
            have nc : c ≠ L := fun z => by
              rw [z, upd_same] at c1
              cases c1
            rw [upd_ne nc] at c1
            exact Nw.mk c1 c2) hdp3
          refine ⟨_, rfl, _, rfl, a, nl, m1, b1, zs.map V.str, rfl, hbZ, hBZ, by omega, But.seq btZ nn hN, nn, by rw [List.length_map]; exact z0, by rw [List.length_map]; exact z1, fun i v b2 hv hB2 => ?_⟩
          obtain ⟨z, hzi, rfl⟩ : ∃ z, zs[i]? = some z ∧ v = .str z := by
            rw [List.getElem?_map] at hv
            cases e : zs[i]? with
            | none => rw [e] at hv; cases hv
            | some t => rw [e] at hv; exact ⟨t, rfl, (Option.some.inj hv).symm⟩
          have nma := hz z (List.mem_of_getElem? hzi)
          refine ⟨_, rfl, a, m1 + 1, b2, rfl, upd_same, hB2, by omega, fun H3 r b3 bt3 hb3 hB3 r0 r1 => ?_⟩
          refine ⟨by show 4 ≤ sizeLine; decide, fun l4 n4 => ?_⟩
          have nl4 : a ≠ l4 := ne_of_none hb3 n4
          refine ⟨_, rfl, a, 4, m1 + 5, b3, rfl, same_upd n4 _ _ hb3, hB3, by omega, by decide, by decide, fun r4 b4 r40 r41 hB4 => ?_⟩
          obtain ⟨oi, o0, o1, hat⟩ : ∃ oi : Int, 0 ≤ oi ∧ oi < 1000000 ∧ atI [V.int 0, .int 0, .int 1, .int r] r4 = some (.int oi) := by
            have hc : r4 = 0 ∨ r4 = 1 ∨ r4 = 2 ∨ r4 = 3 := by omega
            rcases hc with rfl | rfl | rfl | rfl
            · exact ⟨0, by decide, by decide, atI_nat (j := 0) rfl⟩
            · exact ⟨0, by decide, by decide, atI_nat (j := 1) rfl⟩
            · exact ⟨1, by decide, by decide, atI_nat (j := 2) rfl⟩
            · exact ⟨r, r0, r1, atI_nat (j := 3) rfl⟩
          refine ⟨l4, _, _, _, rfl, rfl, SqL.of (by rw [upd_ne nl4.symm, upd_same]), hat, ?_⟩
          have nLa : L ≠ a := fun y => by
            rw [y, ha] at nLH
            cases nLH
          have btZ5 : But a Z (upd (upd H3 l4 (.lst [.int 0, .int 0, .int 1, .int r])) a (.lst b4)) := But.upd (But.new ((But.upd (But.refl a Z)).trans bt3) n4)
          have hb5 : (upd (upd H3 l4 (.lst [.int 0, .int 0, .int 1, .int r])) a (.lst b4)) a = some (.lst b4) := upd_same
          have hL5 := btZ5 _ _ nLa hL
          obtain ⟨Z5, e5⟩ : ∃ Z5, Z5 = upd (upd H3 l4 (.lst [.int 0, .int 0, .int 1, .int r])) a (.lst b4) := ⟨_, rfl⟩
          rw [← e5] at btZ5 hb5 hL5 ⊢
          refine ⟨_, rfl, L, vs, rfl, .inl ⟨SqL.of hL5, fun t nt => ?_⟩⟩
          refine ⟨by show 3 ≤ sizeLine; decide, fun p np => ?_⟩
          have k1 := same_upd (o := .tup vs) nt
          have k2 := same_upd (o := .tup [.str z, .int oi, .ref t]) np
          have kk := k1.trans k2
          have bt5 := btZ.trans btZ5
          have f1 : H t = none := But.free bt5 hb5 nt
          have f2 : H p = none := But.free (bt5.trans (But.of k1)) (k1 _ _ hb5) np
          have dA2 : DpAll K (Nw H (upd (upd Z5 t (.tup vs)) p (.tup [.str z, .int oi, .ref t]))) vs ds := dpAll_same (fun c o e => by
            obtain ⟨c1, c2⟩ := Nw.get e
            have nca : c ≠ a := fun y => by
              rw [y, ha] at c1
              cases c1
            exact Nw.mk c1 (kk _ _ (btZ5 _ _ nca c2))) dAll
          exact q _ _ _ (k + 1) b4 (bt5.trans (But.of kk)) (kk _ _ hb5) (hB4.mono (by omega)) (.tup (SqT.of (Nw.mk f2 upd_same)) (.cons (.str _) (.cons (.int _) (.cons (.tup (SqT.of (Nw.mk f1 (k2 _ _ upd_same))) dA2) .nil)))) (.mk nma o0 o1 hl2 trA) hk
      · have dz' := dz
        refine ⟨_, rfl, _, _, rfl, rfl, _, rfl, ifF (decide_eq_false dz) ?_⟩
        refine ⟨_, rfl, _, _, rfl, rfl, by show 0 ≤ sizeLine; decide, fun L nLH => ⟨_, _, _, rfl, ?_⟩⟩
        have e0 : (if room - 1 < 0 then room - 1 else 0) = (0 : Int) := if_neg (by omega)
        refine ⟨_, rfl, _, rfl, _, _, rfl, _, rfl, by rw [e0]; decide, by rw [e0]; decide, ?_⟩
        refine for_range (lo := 0) (fun j σ H3 => σ = [some (.ref a), some (.ref nl), some (.int room), some (.int deep), some (.int 0), some (.int (room - 1)), some (.ref L), none, none] ∧ H3 = upd H L (.lst [])) ⟨rfl, rfl⟩ (fun i σ H3 hi _ => absurd hi (by rw [e0]; exact Nat.not_lt_zero i)) ?_
        rintro σ H3 ⟨rfl, rfl⟩
        have btZ : But a H (upd H L (.lst [])) := But.of (same_upd nLH)
        have hbZ := same_upd (o := .lst []) nLH _ _ ha
        have hBZ := hB
        have hL : (upd H L (.lst [])) L = some (.lst []) := upd_same
        obtain ⟨vs, ds, k, hL, dAll, trA, hl2, hk⟩ : ∃ (vs : List V) (ds : List PyData) (k : Nat), (upd H L (.lst [])) L = some (.lst vs) ∧ DpAll K (Nw H (upd H L (.lst []))) vs ds ∧ TrAll (n + 1) k ds ∧ ds.length ≤ 2 ∧ k + 1 ≤ room.toNat := ⟨[], [], 0, hL, .nil, .nil (n + 1), by decide, by omega⟩
        obtain ⟨Z, eZ⟩ : ∃ Z, Z = upd H L (.lst []) := ⟨_, rfl⟩
        rw [← eZ] at btZ hbZ hL dAll ⊢
        obtain ⟨m1, em⟩ : ∃ m1, m1 = m := ⟨_, rfl⟩
        rw [← em] at hBZ
        obtain ⟨b1, eb⟩ : ∃ b1, b1 = b := ⟨_, rfl⟩
        rw [← eb] at hbZ hBZ
        refine ⟨_, rfl, _, rfl, a, nl, m1, b1, zs.map V.str, rfl, hbZ, hBZ, by omega, But.seq btZ nn hN, nn, by rw [List.length_map]; exact z0, by rw [List.length_map]; exact z1, fun i v b2 hv hB2 => ?_⟩
        obtain ⟨z, hzi, rfl⟩ : ∃ z, zs[i]? = some z ∧ v = .str z := by
          rw [List.getElem?_map] at hv
          cases e : zs[i]? with
          | none => rw [e] at hv; cases hv
          | some t => rw [e] at hv; exact ⟨t, rfl, (Option.some.inj hv).symm⟩
        have nma := hz z (List.mem_of_getElem? hzi)
        refine ⟨_, rfl, a, m1 + 1, b2, rfl, upd_same, hB2, by omega, fun H3 r b3 bt3 hb3 hB3 r0 r1 => ?_⟩
        refine ⟨by show 4 ≤ sizeLine; decide, fun l4 n4 => ?_⟩
        have nl4 : a ≠ l4 := ne_of_none hb3 n4
        refine ⟨_, rfl, a, 4, m1 + 5, b3, rfl, same_upd n4 _ _ hb3, hB3, by omega, by decide, by decide, fun r4 b4 r40 r41 hB4 => ?_⟩
        obtain ⟨oi, o0, o1, hat⟩ : ∃ oi : Int, 0 ≤ oi ∧ oi < 1000000 ∧ atI [V.int 0, .int 0, .int 1, .int r] r4 = some (.int oi) := by
          have hc : r4 = 0 ∨ r4 = 1 ∨ r4 = 2 ∨ r4 = 3 := by omega
          rcases hc with rfl | rfl | rfl | rfl
          · exact ⟨0, by decide, by decide, atI_nat (j := 0) rfl⟩
          · exact ⟨0, by decide, by decide, atI_nat (j := 1) rfl⟩
          · exact ⟨1, by decide, by decide, atI_nat (j := 2) rfl⟩
          · exact ⟨r, r0, r1, atI_nat (j := 3) rfl⟩
        refine ⟨l4, _, _, _, rfl, rfl, SqL.of (by rw [upd_ne nl4.symm, upd_same]), hat, ?_⟩
        have nLa : L ≠ a := fun y => by
          rw [y, ha] at nLH
          cases nLH
        have btZ5 : But a Z (upd (upd H3 l4 (.lst [.int 0, .int 0, .int 1, .int r])) a (.lst b4)) := But.upd (But.new ((But.upd (But.refl a Z)).trans bt3) n4)
        have hb5 : (upd (upd H3 l4 (.lst [.int 0, .int 0, .int 1, .int r])) a (.lst b4)) a = some (.lst b4) := upd_same
        have hL5 := btZ5 _ _ nLa hL
        obtain ⟨Z5, e5⟩ : ∃ Z5, Z5 = upd (upd H3 l4 (.lst [.int 0, .int 0, .int 1, .int r])) a (.lst b4) := ⟨_, rfl⟩
        rw [← e5] at btZ5 hb5 hL5 ⊢
        refine ⟨_, rfl, L, vs, rfl, .inl ⟨SqL.of hL5, fun t nt => ?_⟩⟩
        refine ⟨by show 3 ≤ sizeLine; decide, fun p np => ?_⟩
        have k1 := same_upd (o := .tup vs) nt
        have k2 := same_upd (o := .tup [.str z, .int oi, .ref t]) np
        have kk := k1.trans k2
        have bt5 := btZ.trans btZ5
        have f1 : H t = none := But.free bt5 hb5 nt
        have f2 : H p = none := But.free (bt5.trans (But.of k1)) (k1 _ _ hb5) np
        have dA2 : DpAll K (Nw H (upd (upd Z5 t (.tup vs)) p (.tup [.str z, .int oi, .ref t]))) vs ds := dpAll_same (fun c o e => by
          obtain ⟨c1, c2⟩ := Nw.get e
          have nca : c ≠ a := fun y => by
            rw [y, ha] at c1
            cases c1
          exact Nw.mk c1 (kk _ _ (btZ5 _ _ nca c2))) dAll
        exact q _ _ _ (k + 1) b4 (bt5.trans (But.of kk)) (kk _ _ hb5) (hB4.mono (by omega)) (.tup (SqT.of (Nw.mk f2 upd_same)) (.cons (.str _) (.cons (.int _) (.cons (.tup (SqT.of (Nw.mk f1 (k2 _ _ upd_same))) dA2) .nil)))) (.mk nma o0 o1 hl2 trA) hk
end
/-! ### whether a node is there -/
abbrev s_is_number : Stmt := top 2
abbrev N_is_number : List Str := ["thing"]
abbrev P_is_number : List Str := ["thing"]
theorem sc_is_number : FnScope N_is_number P_is_number (defScope s_is_number) := ⟨rfl, rfl, rfl, by decide +kernel, rfl, by decide +kernel, by decide +kernel⟩
abbrev s__law_is_there : Stmt := top 26
abbrev N__law_is_there : List Str := ["_law_tree", "_law_path", "_law_node", "_law_place"]
abbrev P__law_is_there : List Str := ["_law_tree", "_law_path"]
theorem sc__law_is_there : FnScope N__law_is_there P__law_is_there (defScope s__law_is_there) := ⟨rfl, rfl, rfl, by decide +kernel, rfl, by decide +kernel, by decide +kernel⟩
def numB : PyData → Bool
  | .int i => decide (0 ≤ i)
  | _ => false
def partsD : PyData → List PyData
  | .tuple [_, _, .tuple ds] => ds
  | _ => []
/-- going by places -/
def stepD (t : PyData) : PyData → Option PyData
  | .int i => if 1 ≤ i ∧ i ≤ (partsD t).length then (partsD t)[(i - 1).toNat]? else none
  | _ => none
def goD : PyData → List PyData → Option PyData
  | t, [] => some t
  | t, p :: ps => match stepD t p with
    | some u => goD u ps
    | none => none
def thereD (t : PyData) : PyData → Bool
  | .tuple ps => (goD t ps).isSome
  | _ => false
theorem goD_snoc (t : PyData) : ∀ (ps : List PyData) (p : PyData), goD t (ps ++ [p]) = match goD t ps with
    | some u => stepD u p
    | none => none := by
  intro ps
  induction ps generalizing t with
  | nil =>
    intro p
    show (match stepD t p with | some u => goD u [] | none => none) = stepD t p
    cases stepD t p <;> rfl
  | cons q r ih =>
    intro p
    show (match stepD t q with | some u => goD u (r ++ [p]) | none => none) = _
    show _ = match (match stepD t q with | some u => goD u r | none => none) with
      | some u => stepD u p
      | none => none
    cases stepD t q with
    | none => rfl
    | some u => exact ih u p
theorem goD_none (t : PyData) : ∀ (ps qs : List PyData), goD t ps = none → goD t (ps ++ qs) = none := by
  intro ps
  induction ps generalizing t with
  | nil =>
    intro qs h
    cases h
  | cons q r ih =>
    intro qs h
    show (match stepD t q with | some u => goD u (r ++ qs) | none => none) = none
    have h2 : (match stepD t q with | some u => goD u r | none => none) = none := h
    cases e : stepD t q with
    | none => rfl
    | some u =>
      rw [e] at h2
      exact ih u qs h2
theorem Tr.part {n k : Nat} {t p u : PyData} (h : Tr n k t) (e : stepD t p = some u) : ∃ n' k', n' < n ∧ Tr n' k' u := by
  cases h with
  | mk hz h0 h1 hl ha =>
    rename_i n k z i ds
    have mem : u ∈ ds := by
      cases p with
      | int j =>
        have e2 : (if 1 ≤ j ∧ j ≤ ds.length then ds[(j - 1).toNat]? else none) = some u := e
        split at e2
        · exact List.mem_of_getElem? e2
        · cases e2
      | none => cases e
      | bool b => cases e
      | str z => cases e
      | list xs => cases e
      | tuple xs => cases e
      | dict kv => cases e
    have all : ∀ {k : Nat} {ds : List PyData}, TrAll n k ds → ∀ u ∈ ds, ∃ k', Tr n k' u := by
      intro k ds
      induction ds generalizing k with
      | nil => intro _ u hu; cases hu
      | cons d ds ih =>
        intro hh u hu
        cases hh with
        | cons h1 h2 =>
          rcases List.mem_cons.mp hu with rfl | hu
          · exact ⟨_, h1⟩
          · exact ih h2 u hu
    obtain ⟨k', hk'⟩ := all ha u mem
    exact ⟨n, k', Nat.lt_succ_self n, hk'⟩
/-- what a tree is on the heap -/
theorem tr_heap {K : PySem.W.Frag} {H : Hp} {n k : Nat} {v : V} {t : PyData} (h : Tr n k t) (hd : Dp K H v t) : ∃ (q r : Addr) (x y : V) (vs : List V), v = .ref q ∧ SqT K H q [x, y, .ref r] ∧ SqT K H r vs ∧ DpAll K H vs (partsD t) ∧ vs.length ≤ 2 := by
  cases h with
  | mk hz h0 h1 hl ha =>
    cases hd with
    | tup hS hA =>
      cases hA with
      | cons a1 hA =>
        cases hA with
        | cons a2 hA =>
          cases hA with
          | cons a3 hA =>
            cases hA
            cases a3 with
            | tup hS2 hA2 =>
              refine ⟨_, _, _, _, _, rfl, hS, hS2, hA2, ?_⟩
              rw [dpAll_len hA2]
              exact hl
theorem at_place {ws : List V} {j : Int} (hj : (j - 1).toNat < ws.length) (e1 : (1 : Int) ≤ j) : ∃ v, ws[(j - 1).toNat]? = some v ∧ atI ws (j - 1) = some v := by
  obtain ⟨m, hm⟩ : ∃ m : Nat, j - 1 = (m : Int) := ⟨(j - 1).toNat, by omega⟩
  rw [hm] at hj ⊢
  have hj : m < ws.length := by
    rw [Int.toNat_natCast] at hj
    exact hj
  rw [Int.toNat_natCast]
  exact ⟨ws[m], by simp [hj], atI_nat (by simp [hj])⟩
structure Nu (mg : Str → Option Value) : Prop where
  isinstance : mg "isinstance" = none
  int : mg "int" = none
  bool : mg "bool" = none
  tuple : mg "tuple" = none
  len : mg "len" = none
/-- the type of data -/
def tyD : PyData → String
  | .none => "NoneType"
  | .bool _ => "bool"
  | .int _ => "int"
  | .str _ => "str"
  | .list _ => "list"
  | .tuple _ => "tuple"
  | .dict _ => "dict"
theorem dp_tyD {K : PySem.W.Frag} {H : Hp} {v : V} {d : PyData} (h : Dp K H v d) : TyX K H v (.type (tyD d)) := by
  cases h with
  | non => exact .base .non
  | bl b => exact .base (.bl b)
  | int i => exact .base (.int i)
  | str z => exact .base (.str z)
  | lst h a => exact tyL h
  | tup h a => exact tyT h
def isT : PyData → Bool
  | .tuple _ => true
  | _ => false
def isI : PyData → Bool
  | .int _ => true
  | .bool _ => true
  | _ => false
def isB : PyData → Bool
  | .bool _ => true
  | _ => false
theorem kit_tup {K : PySem.W.Frag} {H : Hp} {v : V} {d : PyData} (h : Dp K H v d) : kitB (tyD d) "tuple" = some (isT d) := by
  cases h with
  | non => exact (show kitB "NoneType" "tuple" = some false by decide +kernel)
  | bl _ => exact (show kitB "bool" "tuple" = some false by decide +kernel)
  | int _ => exact (show kitB "int" "tuple" = some false by decide +kernel)
  | str _ => exact (show kitB "str" "tuple" = some false by decide +kernel)
  | lst _ _ => exact (show kitB "list" "tuple" = some false by decide +kernel)
  | tup _ _ => exact (show kitB "tuple" "tuple" = some true by decide +kernel)
theorem kit_intD {K : PySem.W.Frag} {H : Hp} {v : V} {d : PyData} (h : Dp K H v d) : kitB (tyD d) "int" = some (isI d) := by
  cases h with
  | non => exact (show kitB "NoneType" "int" = some false by decide +kernel)
  | bl _ => exact (show kitB "bool" "int" = some true by decide +kernel)
  | int _ => exact (show kitB "int" "int" = some true by decide +kernel)
  | str _ => exact (show kitB "str" "int" = some false by decide +kernel)
  | lst _ _ => exact (show kitB "list" "int" = some false by decide +kernel)
  | tup _ _ => exact (show kitB "tuple" "int" = some false by decide +kernel)
theorem kit_boolD {K : PySem.W.Frag} {H : Hp} {v : V} {d : PyData} (h : Dp K H v d) : kitB (tyD d) "bool" = some (isB d) := by
  cases h with
  | non => exact (show kitB "NoneType" "bool" = some false by decide +kernel)
  | bl _ => exact (show kitB "bool" "bool" = some true by decide +kernel)
  | int _ => exact (show kitB "int" "bool" = some false by decide +kernel)
  | str _ => exact (show kitB "str" "bool" = some false by decide +kernel)
  | lst _ _ => exact (show kitB "list" "bool" = some false by decide +kernel)
  | tup _ _ => exact (show kitB "tuple" "bool" = some false by decide +kernel)
def spIsNum (K : PySem.W.Frag) : Sp := fun vs H Q _ => ∃ (v : V) (d : PyData), vs = [v] ∧ Dp K H v d ∧ Q (.bl (numB d)) H
def spThere (K : PySem.W.Frag) : Sp := fun vs H Q _ => ∃ (v x : V) (t d : PyData) (n k : Nat), vs = [v, x] ∧ Dp K H v t ∧ Tr n k t ∧ Dp K H x d ∧ Q (.bl (thereD t d)) H
section
variable {P : Program} {w : World} {K : PySem.W.Frag} {mg : Str → Option Value} {base : Heap}
theorem ok_is_number (T : Nu mg) (D : Dd K mg "is_number" s_is_number P_is_number) : C8.Cal P w K mg base 1 "is_number" (spIsNum K) [] := by
  refine D.cal sc_is_number (fun vs H Q E h => ?_) (fun f cdv A outer s H vs Q E hr h => ?_)
  · obtain ⟨v, d, rfl, _⟩ := h
    rfl
  · obtain ⟨v, d, rfl, hd, q⟩ := h
    refine ⟨_, (pss_one (ps_ret (pe_and (pe_callB call_isi (by rfl) T.isinstance (by decide +kernel) (pa_cons (pv 0) (pa_cons (pe_bltn (v := .ty "int") rfl T.int (by decide +kernel) rfl) pa_nil))) (pe_and (pe_not (pe_callB call_isi (by rfl) T.isinstance (by decide +kernel) (pa_cons (pv 0) (pa_cons (pe_bltn (v := .ty "bool") rfl T.bool (by decide +kernel) rfl) pa_nil)))) (pe_one (pe_cmpR op_ge (pv 0) pe_int (nomark _))))))), ?_⟩
    refine ⟨_, rfl, v, .ty "int", .type (tyD d), .type "int", _, rfl, .ty "int", dp_tyD hd, kit_ty (kit_intD hd), _, rfl, ?_⟩
    cases hd with
    | int i =>
      refine iteT ?_
      refine ⟨_, rfl, .int i, .ty "bool", .type "int", .type "bool", false, rfl, .ty "bool", .base (.int i), kit_ty (by decide +kernel), _, rfl, _, rfl, iteT ?_⟩
      exact ⟨_, rfl, _, _, rfl, rfl, q⟩
    | bl b =>
      refine iteT ?_
      exact ⟨_, rfl, .bl b, .ty "bool", .type "bool", .type "bool", true, rfl, .ty "bool", .base (.bl b), kit_ty (by decide +kernel), _, rfl, _, rfl, iteF q⟩
    | non => exact iteF q
    | str z => exact iteF q
    | lst h a => exact iteF q
    | tup h a => exact iteF q
theorem ok_is_there (T : Nu mg) (D : Dd K mg "_law_is_there" s__law_is_there P__law_is_there) : C8.Cal P w K mg base 1 "_law_is_there" (spThere K) [] := by
  refine D.cal sc__law_is_there (fun vs H Q E h => ?_) (fun f cdv A outer s H vs Q E hr h => ?_)
  · obtain ⟨v, x, t, d, n, k, rfl, _⟩ := h
    rfl
  · obtain ⟨v, x, t, d, n, k, rfl, hv, tr, hx, q⟩ := h
    refine ⟨_, (pss_cons (ps_if (pt_not (pt_val (pe_callB call_isi (by rfl) T.isinstance (by decide +kernel) (pa_cons (pv 1) (pa_cons (pe_bltn (v := .ty "tuple") rfl T.tuple (by decide +kernel) rfl) pa_nil)))))
          (pss_one (ps_ret pe_bl))
          pss_nil)
        (pss_cons (ps_set (i := 2) sc__law_is_there.nd rfl (Or.inl rfl) (pv 0))
        (pss_cons (ps_for PassesOwn.never rfl (pi_tup (pv 1)) (pg_name (i := 3) sc__law_is_there.nd rfl (Or.inl rfl))
          (pss_cons (ps_if (PW.pt (pw_or (pt_not (pt_val (pe_callB call_isi (by rfl) T.isinstance (by decide +kernel) (pa_cons (pv 3) (pa_cons (pe_bltn (v := .ty "int") rfl T.int (by decide +kernel) rfl) pa_nil))))) (pw_or (pt_val (pe_callB call_isi (by rfl) T.isinstance (by decide +kernel) (pa_cons (pv 3) (pa_cons (pe_bltn (v := .ty "bool") rfl T.bool (by decide +kernel) rfl) pa_nil)))) (pw_or1 (pt_not (pt_chain op_le op_le pe_int (pv 3) (pe_callB call_len_seq (by rfl) T.len PySem.boot_len (pa_cons (pe_ix ix_tup (pv 2) pe_int (fun _ _ => rfl)) pa_nil))))))))
          (pss_one (ps_ret pe_bl))
          pss_nil)
        (pss_one (ps_set (i := 2) sc__law_is_there.nd rfl (Or.inl rfl) (pe_ix ix_tup (pe_ix ix_tup (pv 2) pe_int (fun _ _ => rfl)) (pe_op op_sub (pv 3) pe_int) (fun _ _ => rfl))))))
        (pss_one (ps_ret pe_bl))))), ?_⟩
    refine ⟨_, rfl, x, .ty "tuple", .type (tyD d), .type "tuple", _, rfl, .ty "tuple", dp_tyD hx, kit_ty (kit_tup hx), _, rfl, ?_⟩
    cases hx with
    | non => exact iteT q
    | bl b => exact iteT q
    | int i => exact iteT q
    | str z => exact iteT q
    | lst h a => exact iteT q
    | tup hS hA =>
      rename_i c xs ds
      refine iteF ?_
      have lxs := dpAll_len hA
      refine ⟨_, rfl, _, rfl, c, rfl, ⟨_, hS⟩, for_tup (K := K) (a := c) (xs := xs) (fun i σ H3 => H3 = H ∧ ∃ u tu n' k' y, σ = [some v, some (.ref c), some u, y] ∧ goD t (ds.take i) = some tu ∧ Dp K H u tu ∧ Tr n' k' tu)
        ⟨rfl, v, t, n, k, none, rfl, rfl, hv, tr⟩ (fun i σ H3 _ ⟨e, _⟩ => by rw [e]; exact hS) ?_ ?_⟩
      · rintro i p σ H3 hp ⟨rfl, u, tu, n', k', y, rfl, hg, hu, htr⟩
        obtain ⟨dp, hdp, hpd⟩ := dpAll_at hA hp
        obtain ⟨q1, q2, y1, y2, ws, rfl, hS1, hS2, hA2, _⟩ := tr_heap htr hu
        have lw := dpAll_len hA2
        have hgs : goD t (ds.take (i + 1)) = stepD tu dp := by
          rw [List.take_add_one, hdp]
          show goD t (ds.take i ++ [dp]) = _
          rw [goD_snoc, hg]
        have out : stepD tu dp = none → Q (.bl false) H3 := fun e => by
          have z : thereD t (.tuple ds) = false := by
            show (goD t ds).isSome = false
            have e2 := goD_none t (ds.take (i + 1)) (ds.drop (i + 1)) (hgs.trans e)
            rw [List.take_append_drop] at e2
            rw [e2]
            rfl
          rw [z] at q
          exact q
        refine ⟨_, rfl, p, .ty "int", .type (tyD dp), .type "int", _, rfl, .ty "int", dp_tyD hpd, kit_ty (kit_intD hpd), _, rfl, ?_⟩
        cases hpd with
        | non => exact iteT (iteT (out rfl))
        | str z => exact iteT (iteT (out rfl))
        | lst h a => exact iteT (iteT (out rfl))
        | tup h a => exact iteT (iteT (out rfl))
        | bl b =>
          refine iteF ?_
          exact ⟨_, rfl, .bl b, .ty "bool", .type "bool", .type "bool", true, rfl, .ty "bool", .base (.bl b), kit_ty (by decide +kernel), _, rfl, iteT (iteT (out rfl))⟩
        | int j =>
          refine iteF ?_
          refine ⟨_, rfl, .int j, .ty "bool", .type "int", .type "bool", false, rfl, .ty "bool", .base (.int j), kit_ty (by decide +kernel), _, rfl, iteF ?_⟩
          by_cases e1 : (1 : Int) ≤ j
          · refine ⟨_, rfl, _, _, rfl, rfl, _, rfl, ifT (decide_eq_true e1) ?_⟩
            refine ⟨_, rfl, q1, _, 2, .ref q2, rfl, rfl, hS1, atI_nat (j := 2) rfl, q2, ws, rfl, .inr hS2, _, _, rfl, rfl, _, rfl, ?_⟩
            by_cases e2 : j ≤ (ws.length : Int)
            · rw [decide_eq_true e2]
              refine iteF ?_
              have hj : (j - 1).toNat < ws.length := by omega
              obtain ⟨wv, hwv, hat⟩ := at_place hj e1
              obtain ⟨du, hdu, hwu⟩ := dpAll_at hA2 hwv
              have hst : stepD tu (.int j) = some du := by
                show (if 1 ≤ j ∧ j ≤ (partsD tu).length then (partsD tu)[(j - 1).toNat]? else none) = _
                rw [if_pos ⟨e1, by omega⟩]
                exact hdu
              obtain ⟨n2, k2, _, htr2⟩ := htr.part hst
              refine ⟨_, rfl, q1, _, 2, .ref q2, rfl, rfl, hS1, atI_nat (j := 2) rfl, ?_⟩
              exact ⟨_, rfl, _, _, rfl, rfl, q2, ws, _, wv, rfl, rfl, hS2, hat, rfl, _, du, n2, k2, _, rfl, hgs.trans hst, hwu, htr2⟩
            · rw [decide_eq_false e2]
              refine iteT (out ?_)
              show (if 1 ≤ j ∧ j ≤ (partsD tu).length then (partsD tu)[(j - 1).toNat]? else none) = none
              exact if_neg (by omega)
          · refine ⟨_, rfl, _, _, rfl, rfl, _, rfl, ifF (decide_eq_false e1) ⟨_, rfl, iteT (out ?_)⟩⟩
            show (if 1 ≤ j ∧ j ≤ (partsD tu).length then (partsD tu)[(j - 1).toNat]? else none) = none
            exact if_neg (by omega)
      · rintro σ H3 ⟨rfl, u, tu, n', k', y, rfl, hg, hu, htr⟩
        have z : thereD t (.tuple ds) = true := by
          show (goD t ds).isSome = true
          rw [lxs, List.take_length] at hg
          rw [hg]
          rfl
        rw [z] at q
        exact q
end
/-! ### the eighteen errors: what __init__ leaves -/
def spOneD (K : PySem.W.Frag) (C : Addr) (f : Str) (n : Nat) : Sp := fun vs H Q _ => ∃ (e : Addr) (x : V) (d : PyData), vs = [.ref e, x] ∧ Dp K H x d ∧ Sm n d ∧ H e = some (exo e C none) ∧
  ∀ (H' : Hp) (dd : Addr) (y : V), H dd = none → dd ≠ e → H' e = some (exo e C (some dd)) → H' dd = some (exd dd [(f, y)]) → But e H H' → Dp K (Nw H H') y d → Q .non H'
def spTwoD (K : PySem.W.Frag) (C : Addr) (f1 f2 : Str) (n : Nat) : Sp := fun vs H Q _ => ∃ (e : Addr) (x1 x2 : V) (d1 d2 : PyData), vs = [.ref e, x1, x2] ∧ Dp K H x1 d1 ∧ Sm n d1 ∧ Dp K H x2 d2 ∧ Sm n d2 ∧ H e = some (exo e C none) ∧
  ∀ (H' : Hp) (dd : Addr) (y1 y2 : V), H dd = none → dd ≠ e → H' e = some (exo e C (some dd)) → H' dd = some (exd dd [(f2, y2), (f1, y1)]) → But e H H' → Dp K (Nw H H') y1 d1 → Dp K (Nw H H') y2 d2 → Q .non H'
abbrev s_NoNode : Stmt := inClass (top 9) 0
abbrev N_NoNode : List Str := ["self", "path"]
theorem sc_NoNode : FnScope N_NoNode N_NoNode (defScope s_NoNode) := ⟨rfl, rfl, rfl, by decide +kernel, rfl, by decide +kernel, by decide +kernel⟩
section
variable {K : PySem.W.Frag} {H H' : Hp} {e C : Addr}
theorem exo_lst {od : Option Addr} {xs : List V} : exo e C od ≠ .lst xs := fun z => by
  have z' : HO.ext _ = HO.lst xs := z
  cases z'
theorem exo_tup' {od : Option Addr} {xs : List V} : exo e C od ≠ .tup xs := fun z => by
  have z' : HO.ext _ = HO.tup xs := z
  cases z'
theorem exo_frz' {od : Option Addr} {o : Obj} {v : HO} : exo e C od ≠ .frz o v := fun z => by
  have z' : HO.ext _ = HO.frz o v := z
  cases z'
theorem off_exo {od : Option Addr} {a : Addr} {o : HO} (he : H e = some (exo e C od)) (h : H a = some o) (n : exo e C od ≠ o) : a ≠ e := fun z => by
  rw [z, he] at h
  exact n (Option.some.inj h)
mutual
theorem dp_but {od : Option Addr} (he : H e = some (exo e C od)) (s : But e H H') : ∀ {v : V} {d : PyData}, Dp K H v d → Dp K H' v d
  | _, _, .non => .non
  | _, _, .bl b => .bl b
  | _, _, .int i => .int i
  | _, _, .str x => .str x
  | _, _, .lst h a => .lst (by
    rcases h with (h | ⟨o, h⟩) | h
    · exact .inl (.inl (s _ _ (off_exo he h exo_lst) h))
    · exact .inl (.inr ⟨o, s _ _ (off_exo he h exo_frz') h⟩)
    · exact .inr h) (dpAll_but he s a)
  | _, _, .tup h a => .tup (by
    rcases h with (h | ⟨o, h⟩) | h
    · exact .inl (.inl (s _ _ (off_exo he h exo_tup') h))
    · exact .inl (.inr ⟨o, s _ _ (off_exo he h exo_frz') h⟩)
    · exact .inr h) (dpAll_but he s a)
theorem dpAll_but {od : Option Addr} (he : H e = some (exo e C od)) (s : But e H H') : ∀ {vs : List V} {ds : List PyData}, DpAll K H vs ds → DpAll K H' vs ds
  | _, _, .nil => .nil
  | _, _, .cons h a => .cons (dp_but he s h) (dpAll_but he s a)
end
end
section
variable {K : PySem.W.Frag} {C : Addr} {B : String} {n : Nat}
theorem one_left {f : Str} {m : Str} {Q : VK} {H : Hp} {e : Addr} {x : V} {d : PyData} (O : OxC K C B) (h1 : PySem.W.findIn K (.ref C) f = some none) (hx : Dp K H x d) (hs : Sm n d) (he : H e = some (exo e C none))
    (q : ∀ (H' : Hp) (dd : Addr) (y : V), H dd = none → dd ≠ e → H' e = some (exo e C (some dd)) → H' dd = some (exd dd [(f, y)]) → But e H H' → Dp K (Nw H H') y d → Q .non H') :
    tSeq (tDrop (tBI K B (tCons (tVar 0) (tCons (tC (.str m)) tNil)))) (tOxs K f (tVar 0) (tCall (spOwnD K n) [] E0 (tCons (tVar 1) tNil))) { nx := fun _ H' => Q .non H', rt := Q } [some (.ref e), some x] H := by
  refine ⟨_, rfl, e, C, _, rfl, by show 1 ≤ 1000; decide, O, he, ?_⟩
  refine ⟨_, rfl, x, d, rfl, hx, hs, fun H1 y s1 hy => ?_⟩
  refine ⟨_, rfl, e, C, B, rfl, O, h1, .inl ⟨s1 _ _ he, fun dd nd nde => ?_⟩⟩
  refine q _ dd y (s1.free nd) nde upd_same (by rw [upd_ne nde, upd_same]) (fun z o nz hz => ?_) (dp_same (fun z o hz => ?_) hy)
  · rw [upd_ne nz, upd_ne (ne_of_none (s1 _ _ hz) nd)]
    exact s1 _ _ hz
  · obtain ⟨e1, e2⟩ := Nw.get hz
    exact Nw.mk e1 (by rw [upd_ne (fun z2 => by rw [z2, he] at e1; cases e1), upd_ne (ne_of_none e2 nd)]; exact e2)
theorem two_left {f1 f2 : Str} {m : Str} {Q : VK} {H : Hp} {e : Addr} {x1 x2 : V} {d1 d2 : PyData} (O : OxC K C B) (h1 : PySem.W.findIn K (.ref C) f1 = some none) (h2 : PySem.W.findIn K (.ref C) f2 = some none) (hx1 : Dp K H x1 d1) (hs1 : Sm n d1) (hx2 : Dp K H x2 d2) (hs2 : Sm n d2) (he : H e = some (exo e C none))
    (q : ∀ (H' : Hp) (dd : Addr) (y1 y2 : V), H dd = none → dd ≠ e → H' e = some (exo e C (some dd)) → H' dd = some (exd dd [(f2, y2), (f1, y1)]) → But e H H' → Dp K (Nw H H') y1 d1 → Dp K (Nw H H') y2 d2 → Q .non H') :
    tSeq (tDrop (tBI K B (tCons (tVar 0) (tCons (tC (.str m)) tNil)))) (tSeq (tOxs K f1 (tVar 0) (tCall (spOwnD K n) [] E0 (tCons (tVar 1) tNil))) (tOxs K f2 (tVar 0) (tCall (spOwnD K n) [] E0 (tCons (tVar 2) tNil)))) { nx := fun _ H' => Q .non H', rt := Q } [some (.ref e), some x1, some x2] H := by
  refine ⟨_, rfl, e, C, _, rfl, by show 1 ≤ 1000; decide, O, he, ?_⟩
  refine ⟨_, rfl, x1, d1, rfl, hx1, hs1, fun H1 y1 s1 hy1 => ?_⟩
  refine ⟨_, rfl, e, C, B, rfl, O, h1, .inl ⟨s1 _ _ he, fun dd nd nde => ?_⟩⟩
  have b1 : But e H (upd (upd H1 dd (exd dd [(f1, y1)])) e (exo e C (some dd))) := fun z o nz hz => by
    rw [upd_ne nz, upd_ne (ne_of_none (s1 _ _ hz) nd)]
    exact s1 _ _ hz
  refine ⟨_, rfl, x2, d2, rfl, ?_, hs2, fun H2 y2 s2 hy2 => ?_⟩
  · exact dp_but he b1 hx2
  have e2 : H2 e = some (exo e C (some dd)) := s2 _ _ upd_same
  have g2 : H2 dd = some (exd dd [(f1, y1)]) := s2 _ _ (by rw [upd_ne nde, upd_same])
  refine ⟨_, rfl, e, C, B, rfl, O, h2, .inr ⟨dd, _, e2, g2, by show 1 ≤ 900; decide, ?_⟩⟩
  refine q _ dd y1 y2 (s1.free nd) nde (by rw [upd_ne nde.symm]; exact e2) upd_same (fun z o nz hz => ?_) (dp_same (fun z o hz => ?_) hy1) (dp_same (fun z o hz => ?_) hy2)
  · rw [upd_ne (ne_of_none (s1 _ _ hz) nd)]
    exact s2 _ _ (b1 _ _ nz hz)
  · obtain ⟨w1, w2⟩ := Nw.get hz
    have nze : z ≠ e := fun z2 => by
      rw [z2, he] at w1
      cases w1
    have nzd : z ≠ dd := ne_of_none w2 nd
    exact Nw.mk w1 (by rw [upd_ne nzd]; exact s2 _ _ (by rw [upd_ne nze, upd_ne nzd]; exact w2))
  · obtain ⟨w1, w2⟩ := Nw.get hz
    have nze : z ≠ e := fun z2 => by
      rw [z2, upd_same] at w1
      cases w1
    have nzd : z ≠ dd := fun z2 => by
      rw [z2, upd_ne nde, upd_same] at w1
      cases w1
    rw [upd_ne nze, upd_ne nzd] at w1
    exact Nw.mk (s1.free w1) (by rw [upd_ne nzd]; exact w2)
end
section
variable {P : Program} {w : World} {K : PySem.W.Frag} {mg : Str → Option Value} {base : Heap} {C : Addr}
theorem ok_NoNode {n : Nat} {f : Addr} {fd : FuncData} (cown_copy : C8.Cal P w K mg base (n + 1) "own_copy" (spOwnD K n) []) (F : L2.Fun K "__init__" "NoNode.__init__" s_NoNode f fd) (O : OxC K C "IndexError") (b : BInit K "IndexError") (mV : mg "IndexError" = none) (h1 : PySem.W.findIn K (.ref C) "path" = some none) :
    FnOk P w K mg base CX0 (n + 2) f fd N_NoNode (spOneD K C "path" n) := by
  refine F.ok sc_NoNode (fun vs H Q E h => ?_) (fun cdv A outer s H vs Q E hr h => ?_)
  · obtain ⟨e, x, d, rfl, _⟩ := h
    rfl
  · obtain ⟨e, x, d, rfl, hx, hs, he, q⟩ := h
    refine ⟨_, pss_cons (ps_expr (pe_binit b (by rfl) mV (pa_cons (pv 0) (pa_cons pe_str pa_nil)))) (pss_one (ps_oxs (pv 0) (C8.pe_c cown_copy hr (by omega) (by rfl) (pa_cons (pv 1) pa_nil)))), ?_⟩
    exact one_left O h1 hx hs he q
end
/-! ### errors held as values, and what they bear -/
def SeqO (o : HO) : Prop := (∃ xs, o = .lst xs) ∨ (∃ xs, o = .tup xs) ∨ ∃ o' v, o = .frz o' v
section
variable {K : PySem.W.Frag} {H H' : Hp}
mutual
theorem dp_tr (s : ∀ a o, SeqO o → H a = some o → H' a = some o) : ∀ {v : V} {d : PyData}, Dp K H v d → Dp K H' v d
  | _, _, .non => .non
  | _, _, .bl b => .bl b
  | _, _, .int i => .int i
  | _, _, .str x => .str x
  | _, _, .lst h a => .lst (by
    rcases h with (h | ⟨o, h⟩) | h
    · exact .inl (.inl (s _ _ (.inl ⟨_, rfl⟩) h))
    · exact .inl (.inr ⟨o, s _ _ (.inr (.inr ⟨_, _, rfl⟩)) h⟩)
    · exact .inr h) (dpAll_tr s a)
  | _, _, .tup h a => .tup (by
    rcases h with (h | ⟨o, h⟩) | h
    · exact .inl (.inl (s _ _ (.inr (.inl ⟨_, rfl⟩)) h))
    · exact .inl (.inr ⟨o, s _ _ (.inr (.inr ⟨_, _, rfl⟩)) h⟩)
    · exact .inr h) (dpAll_tr s a)
theorem dpAll_tr (s : ∀ a o, SeqO o → H a = some o → H' a = some o) : ∀ {vs : List V} {ds : List PyData}, DpAll K H vs ds → DpAll K H' vs ds
  | _, _, .nil => .nil
  | _, _, .cons h a => .cons (dp_tr s h) (dpAll_tr s a)
end
theorem exd_seq {d : Addr} {fs : List (Str × V)} : ¬ SeqO (exd d fs) := by
  rintro (⟨xs, z⟩ | ⟨xs, z⟩ | ⟨o', v, z⟩)
  · have z' : HO.ext _ = HO.lst xs := z
    cases z'
  · have z' : HO.ext _ = HO.tup xs := z
    cases z'
  · have z' : HO.ext _ = HO.frz o' v := z
    cases z'
theorem exo_seq {e C : Addr} {od : Option Addr} : ¬ SeqO (exo e C od) := by
  rintro (⟨xs, z⟩ | ⟨xs, z⟩ | ⟨o', v, z⟩)
  · exact exo_lst z
  · exact exo_tup' z
  · exact exo_frz' z
/-- an error of the class at C, its fields -/
def ErAt (H : Hp) (e C : Addr) (fs : List (Str × V)) : Prop := ∃ d, H e = some (exv e C d) ∧ H d = some (.xd fs)
theorem ErAt.same {e C : Addr} {fs : List (Str × V)} (h : ErAt H e C fs) (s : Same H H') : ErAt H' e C fs := by
  obtain ⟨d, h1, h2⟩ := h
  exact ⟨d, s _ _ h1, s _ _ h2⟩
/-- behind the making -/
theorem made_same {e C dd : Addr} {fs gs : List (Str × V)} (ne : H e = none) (nd : (upd H e (exo e C none)) dd = none) (b : But e (upd H e (exo e C none)) H') : Same H (upd (upd H' e (exv e C dd)) dd (.xd fs)) := fun z o hz => by
  have nze : z ≠ e := ne_of_none hz ne
  have hz2 : (upd H e (exo e C none)) z = some o := by
    rw [upd_ne nze]
    exact hz
  rw [upd_ne (ne_of_none hz2 nd), upd_ne nze]
  exact b _ _ nze hz2
theorem made_dp {e C dd : Addr} {fs gs : List (Str × V)} {y : V} {d : PyData} (he : H' e = some (exo e C (some dd))) (hd : H' dd = some (exd dd gs)) (h : Dp K (Nw (upd H e (exo e C none)) H') y d) : Dp K (upd (upd H' e (exv e C dd)) dd (.xd fs)) y d :=
  dp_tr (fun a o so ha => by
    obtain ⟨_, h2⟩ := Nw.get ha
    have n1 : a ≠ e := fun z => by
      rw [z, he] at h2
      cases h2
      exact exo_seq so
    have n2 : a ≠ dd := fun z => by
      rw [z, hd] at h2
      cases h2
      exact exd_seq so
    rw [upd_ne n2, upd_ne n1]
    exact h2) h
theorem mkv_one {C : Addr} {f : Str} {n : Nat} {x : V} {d : PyData} {Q : VK} (hx : Dp K H x d) (hs : Sm n d) (q : ∀ (G : Hp) (e : Addr) (y : V), Same H G → ErAt G e C [(f, y)] → Dp K G y d → Q (.ref e) G) :
    ∀ e, H e = none → spOneD K C f n [.ref e, x] (upd H e (exo e C none)) (fun v H2 => v = .non ∧ ∃ (d : Addr) (fs : List (Str × V)), H2 e = some (exo e C (some d)) ∧ H2 d = some (exd d fs) ∧ Q (.ref e) (upd (upd H2 e (exv e C d)) d (.xd fs))) (fun _ _ _ => False) := by
  intro e ne
  refine ⟨e, x, d, rfl, dp_same (same_upd ne) hx, hs, upd_same, fun H' dd y nd nde he hd b hy => ⟨rfl, dd, _, he, hd, ?_⟩⟩
  refine q _ e y (made_same (gs := []) ne nd b) ⟨dd, by rw [upd_ne nde.symm, upd_same], upd_same⟩ (made_dp he hd hy)
theorem mkv_two {C : Addr} {f1 f2 : Str} {n : Nat} {x1 x2 : V} {d1 d2 : PyData} {Q : VK} (hx1 : Dp K H x1 d1) (hs1 : Sm n d1) (hx2 : Dp K H x2 d2) (hs2 : Sm n d2)
    (q : ∀ (G : Hp) (e : Addr) (y1 y2 : V), Same H G → ErAt G e C [(f2, y2), (f1, y1)] → Dp K G y1 d1 → Dp K G y2 d2 → Q (.ref e) G) :
    ∀ e, H e = none → spTwoD K C f1 f2 n [.ref e, x1, x2] (upd H e (exo e C none)) (fun v H2 => v = .non ∧ ∃ (d : Addr) (fs : List (Str × V)), H2 e = some (exo e C (some d)) ∧ H2 d = some (exd d fs) ∧ Q (.ref e) (upd (upd H2 e (exv e C d)) d (.xd fs))) (fun _ _ _ => False) := by
  intro e ne
  refine ⟨e, x1, x2, d1, d2, rfl, dp_same (same_upd ne) hx1, hs1, dp_same (same_upd ne) hx2, hs2, upd_same, fun H' dd y1 y2 nd nde he hd b hy1 hy2 => ⟨rfl, dd, _, he, hd, ?_⟩⟩
  exact q _ e y1 y2 (made_same (gs := []) ne nd b) ⟨dd, by rw [upd_ne nde.symm, upd_same], upd_same⟩ (made_dp he hd hy1) (made_dp he hd hy2)
end
/-! ### the way to a node -/
abbrev s_way_to : Stmt := top 13
abbrev N_way_to : List Str := ["tree", "path", "nodes", "place", "parts"]
abbrev P_way_to : List Str := ["tree", "path"]
theorem sc_way_to : FnScope N_way_to P_way_to (defScope s_way_to) := ⟨rfl, rfl, rfl, by decide +kernel, rfl, by decide +kernel, by decide +kernel⟩
abbrev s_part_at : Stmt := top 14
abbrev N_part_at : List Str := ["tree", "path"]
abbrev P_part_at : List Str := ["tree", "path"]
theorem sc_part_at : FnScope N_part_at P_part_at (defScope s_part_at) := ⟨rfl, rfl, rfl, by decide +kernel, rfl, by decide +kernel, by decide +kernel⟩
def tCallT (sp : Sp) (dvs : List V) (W : WX) (t : TA) : TE := fun σ H Q => t σ H fun vs H1 => sp (vs ++ dvs) H1 Q (WE W σ)
section
variable {X : Cx} {k j : Nat} {x : Str} {sp : Sp} {p pos : Pos} {e : Expr} {es : List Expr} {t : TA} {dvs : List V}
theorem pe_cT {W : WX} (c : CalX X.prog X.w X.K X.mg X.base k x sp dvs) (hr : Room j X.A) (hk : k ≤ j) (hg : Gl X x) (tkw : Takes X W) (ha : PA X (e :: es) t) (hdb : (x == ("__debug__" : Str)) = false := by decide)
    (he : starEach (e :: es) X.env = (false, eval e X.env) :: starEach es X.env := by rfl) (hpl : (backTo pos (starEach es X.env)).any (·.1) = false := by rfl) :
    PE X (.Call (.Name x p) (e :: es) [] pos) (tCallT sp dvs W t) := by
  obtain ⟨f, fd, ps, ds, F, hm, kp, b, d⟩ := c.ex
  refine ⟨fun pins s σ H Q I h => wpAny_Call_Name_kw (ld_glob I hg hm ?_ hdb)⟩
  refine PySem.W.callWith_K (h₀ := X.base) I.ok.mod.kin kp (thn (ha.run pos pins s σ H _ I h) fun us s1 ⟨vs, H1, I1, r, q⟩ => ⟨I1.kIn, ?_⟩) he hpl
  have r2 : Vals (vs ++ dvs) (us ++ ds) := Vals.append r d
  have hl : (us ++ ds).length = ps.length := by
    rw [← r2.length]
    exact F.len _ _ _ _ q
  refine wpAny_call (codeAny_mono (F.run X.A X.stack s1 H1 ⟨us, []⟩ (us ++ ds) (vs ++ dvs) Q (WE W σ) (hr.mono hk) I1.env0 (b s1 us I1.kIn hl) r2 q) fun res s' hq => ?_)
  cases res with
  | error er => exact passAt tkw σ pins H1 s1 er s' I1 hq
  | ok fl =>
    cases fl with
    | ret u => exact I1.after hq
    | next => exact hq.elim
    | brk => exact hq.elim
    | cont => exact hq.elim
end
structure OxD (K : PySem.W.Frag) (mg : Str → Option Value) (C : Addr) (B : String) (x qual : Str) (st : Stmt) (ps : List Str) : Prop where
  ex : ∃ (f : Addr) (fd : FuncData), L2.Fun K "__init__" qual st f fd ∧ Binds K fd ps [] ∧ PySem.W.findIn K (.ref C) "__init__" = some (some (.ref f)) ∧ PySem.W.typeIn K (.ref f) = some (.type "function")
  ox : OxC K C B
  mg : mg x = some (.ref C)
/-- what is wished for where no node is there -/
def NoWay (K : PySem.W.Frag) (C : Addr) (H : Hp) (d : PyData) (E : XK) : Prop := ∀ (H' : Hp) (dd : Addr) (y : V), Same H H' → H dd = none → H' dd = some (.xd [("path", y)]) → Dp K (Nw H H') y d → E (.ref C) (some dd) H'
def spWay (K : PySem.W.Frag) (C : Addr) : Sp := fun vs H Q E => ∃ (v x : V) (t d : PyData) (n k : Nat), vs = [v, x] ∧ Dp K H v t ∧ Tr n k t ∧ Dp K H x d ∧ Sm 6 d ∧
  ((thereD t d = true ∧ ∀ (H' : Hp) (L : Addr) (ws : List V) (ps : List PyData), d = .tuple ps → Same H H' → H L = none → H' L = some (.lst ws) → ws.length = ps.length + 1 →
      (∀ i u, ws[i]? = some u → ∃ tu n' k', goD t (ps.take i) = some tu ∧ Dp K H u tu ∧ Tr n' k' tu) → Q (.ref L) H') ∨ (thereD t d = false ∧ NoWay K C H d E))
def spPart (K : PySem.W.Frag) (C : Addr) : Sp := fun vs H Q E => ∃ (v x : V) (t d : PyData) (n k : Nat), vs = [v, x] ∧ Dp K H v t ∧ Tr n k t ∧ Dp K H x d ∧ Sm 6 d ∧
  ((thereD t d = true ∧ ∀ (H' : Hp) (u : V), Same H H' → Q u H') ∨ (thereD t d = false ∧ NoWay K C H d E))
theorem NoWay.grow {K : PySem.W.Frag} {C : Addr} {H H2 : Hp} {d : PyData} {E : XK} (h : NoWay K C H d E) (s : Same H H2) : NoWay K C H2 d E := fun H' dd y s2 nd e hy => h H' dd y (s.trans s2) (s.free nd) e (dp_same (fun b o z => by
  obtain ⟨z1, z2⟩ := Nw.get z
  exact Nw.mk (s.free z1) z2) hy)
theorem at_last {ws : List V} {i : Nat} {u : V} (h : ws.length = i + 1) (e : ws[i]? = some u) : atI ws (-1) = some u := by
  unfold atI ixN
  rw [if_neg (by decide), if_pos (by omega)]
  show ws[(-1 + (ws.length : Int)).toNat]? = some u
  have : (-1 + (ws.length : Int)).toNat = i := by omega
  rw [this]
  exact e
section
variable {P : Program} {w : World} {K : PySem.W.Frag} {mg : Str → Option Value} {base : Heap} {C : Addr}
/-- the error is made and raised -/
theorem raise_left {H : Hp} {x : V} {d : PyData} {E : XK} {R : Hp → Addr → List (Str × V) → Prop} (hx : Dp K H x d) (hs : Sm 6 d) (hE : NoWay K C H d E) {a : Addr} (na : H a = none)
    (hR : ∀ H' dd y, H dd = none → dd ≠ a → H' a = some (exo a C (some dd)) → H' dd = some (exd dd [("path", y)]) → E (.ref C) (some dd) (upd (del H' a) dd (.xd [("path", y)])) → R H' dd [("path", y)]) :
    spOneD K C "path" 6 [.ref a, x] (upd H a (exo a C none)) (fun v H2 => v = .non ∧ ∃ dd fs, R H2 dd fs) (fun _ _ _ => False) := by
  refine ⟨a, x, d, rfl, dp_same (same_upd na) hx, hs, upd_same, fun H' dd y nd nda ha hd2 hb hy => ⟨rfl, dd, _, hR H' dd y ?_ nda ha hd2 ?_⟩⟩
  · rw [upd_ne nda] at nd
    exact nd
  · rw [upd_ne nda] at nd
    refine hE _ dd y (fun b o e => ?_) nd upd_same (dp_tr (fun b o so e => ?_) hy)
    · have nba : b ≠ a := ne_of_none e na
      rw [upd_ne (ne_of_none e nd), del_ne nba]
      refine hb _ _ nba ?_
      rw [upd_ne nba]
      exact e
    · obtain ⟨e1, e2⟩ := Nw.get e
      have nba : b ≠ a := fun z => by
        rw [z, upd_same] at e1
        cases e1
      have nbd : b ≠ dd := fun z => by
        rw [z, hd2] at e2
        cases e2
        exact exd_seq so
      rw [upd_ne nba] at e1
      exact Nw.mk e1 (by rw [upd_ne nbd, del_ne nba]; exact e2)
theorem ok_way_to (T : Nu mg) (cis_number : C8.Cal P w K mg base 1 "is_number" (spIsNum K) []) (N : OxD K mg C "IndexError" "NoNode" "NoNode.__init__" s_NoNode N_NoNode)
    (nl : ∀ f fd, L2.Fun K "__init__" "NoNode.__init__" s_NoNode f fd → FnOk P w K mg base CX0 8 f fd N_NoNode (spOneD K C "path" 6)) (D : Dd K mg "way_to" s_way_to P_way_to) : CalX P w K mg base 10 "way_to" (spWay K C) [] := by
  obtain ⟨f, fd, F, g, b⟩ := D.ex
  obtain ⟨fN, fdN, FF, bN, iN, tN⟩ := N.ex
  have FN := nl _ _ FF
  refine ⟨f, fd, _, [], F.okX sc_way_to (fun vs H Q E h => ?_) (fun cdv A' outer s H vs Q E hr h => ?_), g, F.kp, b, .nil⟩
  · obtain ⟨v, x, t, d, n, k, rfl, _⟩ := h
    rfl
  · obtain ⟨v, x, t, d, n, k, rfl, hv, tr, hx, hs, hq⟩ := h
    refine ⟨_, (pss_cons (ps_if (pt_not (pt_val (pe_callB call_isi (by rfl) T.isinstance (by decide +kernel) (pa_cons (pv 1) (pa_cons (pe_bltn (v := .ty "tuple") rfl T.tuple (by decide +kernel) rfl) pa_nil)))))
          (pss_one (ps_raise rfl (takes_of rfl rfl rfl rfl) (pmk_ox N.ox iN tN FN (hr.mono (by omega)) bN pass0 (by rfl) N.mg (pa_cons (pv 1) pa_nil))))
          pss_nil)
        (pss_cons (ps_set (i := 2) sc_way_to.nd rfl (Or.inl rfl) (pe_lst (pa_cons (pv 0) pa_nil)))
        (pss_cons (ps_for (passes_of rfl) rfl (pi_tup (pv 1)) (pg_name (i := 3) sc_way_to.nd rfl (Or.inl rfl))
          (pss_cons (ps_set (i := 4) sc_way_to.nd rfl (Or.inl rfl) (pe_ix ix_tup (pe_ix ix_list (pv 2) (pe_un un_neg pe_int) (fun _ _ => rfl)) pe_int (fun _ _ => rfl)))
        (pss_cons (ps_if (PW.pt (pw_or (pt_not (pt_val (C8.pe_c cis_number hr (by decide) (by rfl) (pa_cons (pv 3) pa_nil)))) (pw_or1 (pt_not (pt_chain op_le op_le pe_int (pv 3) (pe_callB call_len_seq (by rfl) T.len PySem.boot_len (pa_cons (pv 4) pa_nil)))))))
          (pss_one (ps_raise rfl (takes_of rfl rfl rfl rfl) (pmk_ox N.ox iN tN FN (hr.mono (by omega)) bN pass0 (by rfl) N.mg (pa_cons (pv 1) pa_nil))))
          pss_nil)
        (pss_one (ps_expr (pe_bm PySem.F.plainAttrs_list PySem.F.slot_list_append PySem.F.type_list_append mt_append (pv 2) (pa_cons (pe_ix ix_tup (pv 4) (pe_op op_sub (pv 3) pe_int) (fun _ _ => rfl)) pa_nil)))))))
        (pss_one (ps_ret (pv 2)))))), ?_⟩
    refine ⟨_, rfl, x, .ty "tuple", .type (tyD d), .type "tuple", _, rfl, .ty "tuple", dp_tyD hx, kit_ty (kit_tup hx), _, rfl, ?_⟩
    have bad : thereD t d = false → NoWay K C H d E := fun e => by
      rcases hq with ⟨h, _⟩ | ⟨_, h⟩
      · rw [e] at h
        cases h
      · exact h
    cases hx with
    | non => exact iteT ⟨_, rfl, by show 1 ≤ 1000; decide, fun a na => raise_left .non hs (bad rfl) na fun H' dd y nd nda ha hd2 hE' => ⟨ha, hd2, nd, hE'⟩⟩
    | bl b => exact iteT ⟨_, rfl, by show 1 ≤ 1000; decide, fun a na => raise_left (.bl b) hs (bad rfl) na fun H' dd y nd nda ha hd2 hE' => ⟨ha, hd2, nd, hE'⟩⟩
    | int i => exact iteT ⟨_, rfl, by show 1 ≤ 1000; decide, fun a na => raise_left (.int i) hs (bad rfl) na fun H' dd y nd nda ha hd2 hE' => ⟨ha, hd2, nd, hE'⟩⟩
    | str z => exact iteT ⟨_, rfl, by show 1 ≤ 1000; decide, fun a na => raise_left (.str z) hs (bad rfl) na fun H' dd y nd nda ha hd2 hE' => ⟨ha, hd2, nd, hE'⟩⟩
    | lst h a => exact iteT ⟨_, rfl, by show 1 ≤ 1000; decide, fun p np => raise_left (.lst h a) hs (bad rfl) np fun H' dd y nd nda ha hd2 hE' => ⟨ha, hd2, nd, hE'⟩⟩
    | tup hS hA =>
      rename_i c xs ds
      refine iteF ?_
      have lxs := dpAll_len hA
      have hds : ds.length ≤ 500 := by
        cases hs with
        | tup _ h _ => exact h
      refine ⟨_, rfl, by show 1 ≤ sizeLine; decide, fun L nL => ?_⟩
      have s1 := same_upd (o := .lst [v]) nL
      refine ⟨_, rfl, c, rfl, ⟨_, Same.seqT s1 hS⟩, for_tup (K := K) (a := c) (xs := xs) (fun i σ H3 => ∃ ws y3 y4, σ = [some v, some (.ref c), some (.ref L), y3, y4] ∧ Same H H3 ∧ H3 L = some (.lst ws) ∧ ws.length = i + 1 ∧ i ≤ ds.length ∧ ∀ j u, ws[j]? = some u → ∃ tu n' k', goD t (ds.take j) = some tu ∧ Dp K H u tu ∧ Tr n' k' tu)
        ⟨[v], none, none, rfl, s1, upd_same, rfl, Nat.zero_le _, fun j u e => ?_⟩ (fun i σ H3 _ ⟨_, _, _, _, s3, _⟩ => Same.seqT s3 hS) ?_ ?_⟩
      · match j, e with
        | 0, e => exact ⟨t, n, k, rfl, by rw [← Option.some.inj e]; exact hv, tr⟩
      · rintro i p σ H3 hp ⟨ws, y3, y4, rfl, s3, hL, hwl, hi, hws⟩
        have hi2 : i < ds.length := by
          rw [← lxs]
          exact (List.getElem?_eq_some_iff.mp hp).1
        obtain ⟨dp, hdp, hpd⟩ := dpAll_at hA hp
        have hil : i < ws.length := by omega
        obtain ⟨tu, n', k', hg, hu, htr⟩ := hws i ws[i] (by simp [hil])
        obtain ⟨q1, q2, y1, y2, us, eu, hS1, hS2, hA2, _⟩ := tr_heap htr hu
        have lw := dpAll_len hA2
        have hgs : goD t (ds.take (i + 1)) = stepD tu dp := by
          rw [List.take_add_one, hdp]
          show goD t (ds.take i ++ [dp]) = _
          rw [goD_snoc, hg]
        have out : stepD tu dp = none → NoWay K C H3 (.tuple ds) E := fun e => by
          refine (bad ?_).grow s3
          show (goD t ds).isSome = false
          have e2 := goD_none t (ds.take (i + 1)) (ds.drop (i + 1)) (hgs.trans e)
          rw [List.take_append_drop] at e2
          rw [e2]
          rfl
        have hx3 : Dp K H3 (.ref c) (.tuple ds) := dp_same s3 (.tup hS hA)
        have hlast : atI ws (-1) = some (.ref q1) := by
          rw [← eu]
          have e1 : ws[i]? = some ws[i] := by simp [hil]
          exact at_last hwl e1
        refine ⟨_, rfl, _, rfl, L, ws, _, .ref q1, rfl, rfl, SqL.of hL, hlast, q1, _, 2, .ref q2, rfl, rfl, Same.seqT s3 hS1, atI_nat (j := 2) rfl, ?_⟩
        refine ⟨_, rfl, p, dp, rfl, dp_same s3 hpd, _, rfl, ?_⟩
        cases hpd with
        | non => exact iteT (iteT ⟨_, rfl, by show 1 ≤ 1000; decide, fun a na => raise_left hx3 hs (out (rfl)) na fun H' dd y nd nda ha hd2 hE' => ⟨ha, hd2, nd, hE'⟩⟩)
        | bl b => exact iteT (iteT ⟨_, rfl, by show 1 ≤ 1000; decide, fun a na => raise_left hx3 hs (out (rfl)) na fun H' dd y nd nda ha hd2 hE' => ⟨ha, hd2, nd, hE'⟩⟩)
        | str z => exact iteT (iteT ⟨_, rfl, by show 1 ≤ 1000; decide, fun a na => raise_left hx3 hs (out (rfl)) na fun H' dd y nd nda ha hd2 hE' => ⟨ha, hd2, nd, hE'⟩⟩)
        | lst h a => exact iteT (iteT ⟨_, rfl, by show 1 ≤ 1000; decide, fun a na => raise_left hx3 hs (out (rfl)) na fun H' dd y nd nda ha hd2 hE' => ⟨ha, hd2, nd, hE'⟩⟩)
        | tup h a => exact iteT (iteT ⟨_, rfl, by show 1 ≤ 1000; decide, fun a na => raise_left hx3 hs (out (rfl)) na fun H' dd y nd nda ha hd2 hE' => ⟨ha, hd2, nd, hE'⟩⟩)
        | int j =>
          by_cases e0 : (0 : Int) ≤ j
          · refine ifF (by rw [show numB (.int j) = decide (0 ≤ j) from rfl, decide_eq_true e0]; rfl) ?_
            by_cases e1 : (1 : Int) ≤ j
            · refine ⟨_, rfl, _, _, rfl, rfl, _, rfl, ifT (decide_eq_true e1) ?_⟩
              refine ⟨_, rfl, q2, us, rfl, .inr (Same.seqT s3 hS2), _, _, rfl, rfl, _, rfl, ?_⟩
              by_cases e2 : j ≤ (us.length : Int)
              · rw [decide_eq_true e2]
                refine iteF ?_
                have hj : (j - 1).toNat < us.length := by omega
                obtain ⟨wv, hwv, hat⟩ := at_place hj e1
                obtain ⟨du, hdu, hwu⟩ := dpAll_at hA2 hwv
                have hst : stepD tu (.int j) = some du := by
                  show (if 1 ≤ j ∧ j ≤ (partsD tu).length then (partsD tu)[(j - 1).toNat]? else none) = _
                  rw [if_pos ⟨e1, by omega⟩]
                  exact hdu
                obtain ⟨n2, k2, _, htr2⟩ := htr.part hst
                refine ⟨_, rfl, .inl ⟨rfl, _, SqL.of hL⟩, _, rfl, _, rfl, _, _, rfl, rfl, q2, us, _, wv, rfl, rfl, Same.seqT s3 hS2, hat, ?_⟩
                refine ⟨L, ws, wv, rfl, rfl, hL, by rw [hwl]; exact small1000 (by omega), ?_⟩
                refine ⟨ws ++ [wv], _, _, rfl, Same.at_ s3 nL, upd_same, by rw [List.length_append, hwl]; rfl, by omega, fun m u e => ?_⟩
                by_cases hm : m < ws.length
                · rw [List.getElem?_append_left hm] at e
                  exact hws m u e
                · rw [List.getElem?_append_right (by omega)] at e
                  have em : m = i + 1 := by
                    cases e9 : m - ws.length with
                    | zero => omega
                    | succ r => rw [e9] at e; cases e
                  subst em
                  rw [show i + 1 - ws.length = 0 by omega] at e
                  cases e
                  exact ⟨du, n2, k2, hgs.trans hst, hwu, htr2⟩
              · rw [decide_eq_false e2]
                exact iteT ⟨_, rfl, by show 1 ≤ 1000; decide, fun a na => raise_left hx3 hs (out (show (if 1 ≤ j ∧ j ≤ (partsD tu).length then (partsD tu)[(j - 1).toNat]? else none) = none from if_neg (by omega))) na fun H' dd y nd nda ha hd2 hE' => ⟨ha, hd2, nd, hE'⟩⟩
            · exact ⟨_, rfl, _, _, rfl, rfl, _, rfl, ifF (decide_eq_false e1) ⟨_, rfl, iteT ⟨_, rfl, by show 1 ≤ 1000; decide, fun a na => raise_left hx3 hs (out (show (if 1 ≤ j ∧ j ≤ (partsD tu).length then (partsD tu)[(j - 1).toNat]? else none) = none from if_neg (by omega))) na fun H' dd y nd nda ha hd2 hE' => ⟨ha, hd2, nd, hE'⟩⟩⟩⟩
          · exact ifT (by rw [show numB (.int j) = decide (0 ≤ j) from rfl, decide_eq_false e0]; rfl) (iteT ⟨_, rfl, by show 1 ≤ 1000; decide, fun a na => raise_left hx3 hs (out (show (if 1 ≤ j ∧ j ≤ (partsD tu).length then (partsD tu)[(j - 1).toNat]? else none) = none from if_neg (by omega))) na fun H' dd y nd nda ha hd2 hE' => ⟨ha, hd2, nd, hE'⟩⟩)
      · rintro σ H3 ⟨ws, y3, y4, rfl, s3, hL, hwl, hi, hws⟩
        refine ⟨_, rfl, ?_⟩
        rw [lxs] at hwl
        rcases hq with ⟨_, q⟩ | ⟨h, _⟩
        · exact q _ L ws ds rfl s3 nL hL hwl hws
        · have e : (goD t ds).isSome = false := h
          have hil : ds.length < ws.length := by omega
          obtain ⟨tu, n', k', hg, _, _⟩ := hws ds.length ws[ds.length] (by simp [hil])
          rw [List.take_length] at hg
          rw [hg] at e
          cases e
end
/-! ### slices and sums of tuples -/
def rSlAny (K : PySem.W.Frag) : V → Option Int → Option Int → Hp → VK → Prop := fun x lo hi H Q => ∃ (a : Addr) (xs : List V), x = .ref a ∧ SqT K H a xs ∧ ∀ (H' : Hp) (p : Addr), Same H H' → SqT K H' p (cutV xs lo hi) → Q (.ref p) H'
theorem cut_whole {xs : List V} {lo hi : Option Int} (h : HT.sIx xs.length 0 lo = 0 ∧ HT.sIx xs.length xs.length hi = xs.length) : cutV xs lo hi = xs := by
  unfold cutV
  rw [h.1, h.2, List.drop_zero, Nat.sub_zero, List.take_length]
theorem sl_any {X : Cx} : SlR X (rSlAny X.K) := by
  intro pins s σ H x v vl vu lo hi sl Q I rx hs pl pu h
  obtain ⟨a, xs, ex, hS, q⟩ := h
  exact sl_tupA pins s σ H x v vl vu lo hi sl Q I rx hs pl pu ⟨a, xs, ex, hS, fun e => q H a (Same.refl H) (by rw [cut_whole e]; exact hS), fun _ p np => q _ p (same_upd np) (SqT.of upd_same)⟩
theorem dp_int {K : PySem.W.Frag} {H : Hp} {x : V} {j : Int} (h : Dp K H x (.int j)) : x = .int j := by
  cases h
  rfl
def rCatAny (K : PySem.W.Frag) : V → V → Hp → VK → Prop := fun x y H Q => ∃ (a b : Addr) (xs ys : List V), x = .ref a ∧ y = .ref b ∧ SqT K H a xs ∧ SqT K H b ys ∧ xs.length + ys.length ≤ sizeLine ∧ ∀ (H' : Hp) (p : Addr), Same H H' → SqT K H' p (xs ++ ys) → Q (.ref p) H'
theorem op_catAny {X : Cx} : OpR X (binaryOp .Add) (rCatAny X.K) := by
  intro pins s σ H x y v u Q I rx ry h
  obtain ⟨a, b, xs, ys, ex, ey, hX, hY, hl, q⟩ := h
  refine op_catA pins s σ H x y v u Q I rx ry ⟨a, b, xs, ys, ex, ey, hX, hY, hl, fun e => q H b (Same.refl H) (by rw [e]; exact hY), fun _ e => q H a (Same.refl H) (by rw [e, List.append_nil]; exact hX), fun _ _ p np => q _ p (same_upd np) (SqT.of upd_same)⟩
abbrev s_put_at : Stmt := top 15
abbrev N_put_at : List Str := ["tree", "path", "part", "nodes", "whole", "at", "making", "own", "parts", "place"]
abbrev P_put_at : List Str := ["tree", "path", "part"]
theorem sc_put_at : FnScope N_put_at P_put_at (defScope s_put_at) := ⟨rfl, rfl, rfl, by decide +kernel, rfl, by decide +kernel, by decide +kernel⟩
def spPut (K : PySem.W.Frag) (C : Addr) : Sp := fun vs H Q E => ∃ (v x r : V) (t d : PyData) (n k : Nat), vs = [v, x, r] ∧ Dp K H v t ∧ Tr n k t ∧ Dp K H x d ∧ Sm 6 d ∧
  ((thereD t d = true ∧ ∀ (H' : Hp) (u : V), Same H H' → Q u H') ∨ (thereD t d = false ∧ NoWay K C H d E))
structure Pu (mg : Str → Option Value) : Prop where
  reversed : mg "reversed" = none
  range : mg "range" = none
  len : mg "len" = none
section
variable {P : Program} {w : World} {K : PySem.W.Frag} {mg : Str → Option Value} {base : Heap} {C : Addr}
theorem ok_part_at (cway_to : CalX P w K mg base 10 "way_to" (spWay K C) []) (D : Dd K mg "part_at" s_part_at P_part_at) : CalX P w K mg base 11 "part_at" (spPart K C) [] := by
  obtain ⟨f, fd, F, g, b⟩ := D.ex
  refine ⟨f, fd, _, [], F.okX sc_part_at (fun vs H Q E h => ?_) (fun cdv A' outer s H vs Q E hr h => ?_), g, F.kp, b, .nil⟩
  · obtain ⟨v, x, t, d, n, k, rfl, _⟩ := h
    rfl
  · obtain ⟨v, x, t, d, n, k, rfl, hv, tr, hx, hs, hq⟩ := h
    refine ⟨_, (pss_one (ps_ret (pe_ix ix_list (pe_cT cway_to hr (by omega) (by rfl) (takes_of rfl rfl rfl rfl) (pa_cons (pv 0) (pa_cons (pv 1) pa_nil))) (pe_un un_neg pe_int) (fun _ _ => rfl)))), ?_⟩
    refine ⟨_, rfl, _, rfl, v, x, t, d, n, k, rfl, hv, tr, hx, hs, ?_⟩
    rcases hq with ⟨h, q⟩ | ⟨h, q⟩
    · refine .inl ⟨h, fun H' L ws ps ed s1 nL hL hwl hws => ?_⟩
      have hil : ps.length < ws.length := by omega
      exact ⟨_, rfl, L, ws, _, ws[ps.length], rfl, rfl, SqL.of hL, at_last hwl (by simp [hil]), q _ _ s1⟩
    · exact .inr ⟨h, q⟩
theorem ok_put_at (T : Pu mg) (cway_to : CalX P w K mg base 10 "way_to" (spWay K C) []) (D : Dd K mg "put_at" s_put_at P_put_at) : CalX P w K mg base 11 "put_at" (spPut K C) [] := by
  obtain ⟨f, fd, F, g, b⟩ := D.ex
  refine ⟨f, fd, _, [], F.okX sc_put_at (fun vs H Q E h => ?_) (fun cdv A' outer s H vs Q E hr h => ?_), g, F.kp, b, .nil⟩
  · obtain ⟨v, x, r, t, d, n, k, rfl, _⟩ := h
    rfl
  · obtain ⟨v, x, r, t, d, n, k, rfl, hv, tr, hx, hs, hq⟩ := h
    refine ⟨_, (pss_cons (ps_set (i := 3) sc_put_at.nd rfl (Or.inl rfl) (pe_cT cway_to hr (by omega) (by rfl) (takes_of rfl rfl rfl rfl) (pa_cons (pv 0) (pa_cons (pv 1) pa_nil))))
        (pss_cons (ps_set (i := 4) sc_put_at.nd rfl (Or.inl rfl) (pv 2))
        (pss_cons (ps_for (passes_of rfl) rfl (pi_revR (by rfl) T.reversed (prg_1 (by rfl) T.range (pe_callB call_len_seq (by rfl) T.len PySem.boot_len (pa_cons (pv 1) pa_nil)))) (pg_name (i := 5) sc_put_at.nd rfl (Or.inl rfl))
          (pss_cons (ps_asg (pe_ix ix_list (pv 3) (pv 5) (fun _ _ => rfl)) (pg_tup rfl (pgs_cons (pg_name (i := 6) sc_put_at.nd rfl (Or.inl rfl)) (pgs_cons (pg_name (i := 7) sc_put_at.nd rfl (Or.inl rfl)) (pgs_cons (pg_name (i := 8) sc_put_at.nd rfl (Or.inl rfl)) pgs_nil)))))
        (pss_cons (ps_set (i := 9) sc_put_at.nd rfl (Or.inl rfl) (pe_ix ix_tup (pv 1) (pv 5) (fun _ _ => rfl)))
        (pss_one (ps_set (i := 4) sc_put_at.nd rfl (Or.inl rfl) (pe_tup (pa_cons (pv 6) (pa_cons (pv 7) (pa_cons (pe_op op_catAny (pe_op op_catAny (pe_slice sl_any (pv 8) po_none (po_some (pe_op op_sub (pv 9) pe_int))) (pe_tup (pa_cons (pv 4) pa_nil))) (pe_slice sl_any (pv 8) (po_some (pv 9)) po_none)) pa_nil)))))))))
        (pss_one (ps_ret (pv 4)))))), ?_⟩
    refine ⟨_, rfl, _, rfl, v, x, t, d, n, k, rfl, hv, tr, hx, hs, ?_⟩
    rcases hq with ⟨h, q⟩ | ⟨h, q⟩
    · refine .inl ⟨h, fun H1 L ws ps ed s1 nL hL hwl hws => ?_⟩
      subst ed
      cases hx with
      | tup hS hA =>
        rename_i c xs
        have lxs := dpAll_len hA
        have hps : ps.length ≤ 500 := by
          cases hs with
          | tup _ h _ => exact h
        refine ⟨_, rfl, _, rfl, c, xs, rfl, .inr (Same.seqT s1 hS), _, rfl, by decide, by decide, by omega, by omega, ?_⟩
        refine for_rangeC (fun i σ H3 => ∃ u y5 y6 y7 y8 y9, σ = [some v, some (.ref c), some r, some (.ref L), some u, y5, y6, y7, y8, y9] ∧ Same H1 H3) ⟨r, none, none, none, none, none, rfl, Same.refl _⟩ ?_ ?_
        · rintro i σ H3 hi ⟨u, y5, y6, y7, y8, y9, rfl, s3⟩
          obtain ⟨m, hm, hml⟩ : ∃ m : Nat, (0 + (((xs.length : Int) - 0).toNat : Int) - 1 + (i : Nat) * (-1) : Int) = (m : Int) ∧ m < xs.length := ⟨xs.length - 1 - i, by omega, by omega⟩
          rw [hm]
          have hmw : m < ws.length := by omega
          have hmw2 : m + 1 < ws.length := by omega
          obtain ⟨tu, n', k', hg, hu, htr⟩ := hws m ws[m] (by simp [hmw])
          obtain ⟨tu2, n2, k2, hg2, _, _⟩ := hws (m + 1) ws[m + 1] (by simp [hmw2])
          obtain ⟨q1, q2, y1, y2, us, eu, hS1, hS2, hA2, hus⟩ := tr_heap htr hu
          have lw := dpAll_len hA2
          obtain ⟨dp, hdp, hpd⟩ := dpAll_at hA (i := m) (v := xs[m]) (by simp [hml])
          have hst : stepD tu dp = some tu2 := by
            rw [List.take_add_one, hdp] at hg2
            have hg3 : goD t (ps.take m ++ [dp]) = some tu2 := hg2
            rw [goD_snoc, hg] at hg3
            exact hg3
          obtain ⟨j, rfl, j1, j2⟩ : ∃ j : Int, dp = .int j ∧ 1 ≤ j ∧ j ≤ us.length := by
            cases dp with
            | int j =>
              have e2 : (if 1 ≤ j ∧ j ≤ (partsD tu).length then (partsD tu)[(j - 1).toNat]? else none) = some tu2 := hst
              split at e2
              · rename_i hh
                exact ⟨j, rfl, hh.1, by omega⟩
              · cases e2
            | none => cases hst
            | bool b => cases hst
            | str z => cases hst
            | list xs => cases hst
            | tuple xs => cases hst
            | dict kv => cases hst
          have exv : xs[m] = .int j := dp_int hpd
          have s13 := s1.trans s3
          refine ⟨_, rfl, _, rfl, L, ws, _, .ref q1, rfl, rfl, SqL.of (s3 _ _ hL), ?_, q1, _, rfl, Same.seqT s13 hS1, rfl, _, _, rfl, _, _, rfl, _, _, rfl, rfl, ?_⟩
          · rw [← eu]
            exact atI_nat (by simp [hmw])
          refine ⟨_, rfl, _, rfl, c, xs, _, .int j, rfl, rfl, Same.seqT s13 hS, ?_, ?_⟩
          · rw [← exv]
            exact atI_nat (by simp [hml])
          refine ⟨_, rfl, _, rfl, _, rfl, _, rfl, _, _, rfl, rfl, _, rfl, q2, us, rfl, Same.seqT s13 hS2, fun H4 p4 s4 hp4 => ?_⟩
          refine ⟨_, rfl, by show 1 ≤ sizeLine; decide, fun p5 n5 => ?_⟩
          have s5 := same_upd (o := .tup [u]) n5
          have hc1 := cut_len us none (some (j - 1))
          have hc2 := cut_len us (some j) none
          refine ⟨p4, p5, _, [u], rfl, rfl, Same.seqT s5 hp4, SqT.of upd_same, Nat.le_trans (show _ ≤ 3 from by
            show (cutV us none (some (j - 1))).length + 1 ≤ 3
            omega) (by decide), fun H6 p6 s6 hp6 => ?_⟩
          have s46 := (s4.trans s5).trans s6
          refine ⟨_, rfl, _, rfl, _, rfl, q2, us, rfl, Same.seqT (s13.trans s46) hS2, fun H7 p7 s7 hp7 => ?_⟩
          refine ⟨p6, p7, _, _, rfl, rfl, Same.seqT s7 hp6, hp7, Nat.le_trans (show _ ≤ 5 from by
            rw [List.length_append]
            show (cutV us none (some (j - 1))).length + 1 + (cutV us (some j) none).length ≤ 5
            omega) (by decide), fun H8 p8 s8 hp8 => ?_⟩
          refine ⟨by show 3 ≤ sizeLine; decide, fun p9 n9 => ?_⟩
          exact ⟨_, _, _, _, _, _, rfl, s3.trans (((s46.trans s7).trans s8).trans (same_upd n9))⟩
        · rintro σ H3 ⟨u, y5, y6, y7, y8, y9, rfl, s3⟩
          exact ⟨_, rfl, q _ _ (s1.trans s3)⟩
    · exact .inr ⟨h, q⟩
end
/-! ### all nodes -/
abbrev s_walk_of : Stmt := top 11
abbrev N_walk_of : List Str := ["tree", "steps", "waiting", "path", "node", "parts", "at"]
abbrev P_walk_of : List Str := ["tree"]
theorem sc_walk_of : FnScope N_walk_of P_walk_of (defScope s_walk_of) := ⟨rfl, rfl, rfl, by decide +kernel, rfl, by decide +kernel, by decide +kernel⟩
abbrev s_nodes_of : Stmt := top 12
abbrev N_nodes_of : List Str := ["tree", "path", "node"]
abbrev P_nodes_of : List Str := ["tree"]
theorem sc_nodes_of : FnScope N_nodes_of P_nodes_of (defScope s_nodes_of) := ⟨rfl, rfl, rfl, by decide +kernel, rfl, by decide +kernel, by decide +kernel⟩
def kidsF : Nat → List Int → List PyData → List (List Int × PyData)
  | _, _, [] => []
  | i, p, d :: ds => (p ++ [(i : Int) + 1], d) :: kidsF (i + 1) p ds
def walkW : Nat → List (List Int × PyData) → List (List Int)
  | 0, _ => []
  | _ + 1, [] => []
  | c + 1, (p, t) :: st => p :: walkW c (kidsF 0 p (partsD t) ++ st)
/-- what waits: so many nodes in all, no path above B -/
inductive Stk (B : Nat) : Nat → List (List Int × PyData) → Prop where
  | nil : Stk B 0 []
  | cons {n k c : Nat} {p : List Int} {t : PyData} {st : List (List Int × PyData)} (h : Tr n k t) (hb : p.length + n ≤ B) (r : Stk B c st) : Stk B (k + c) ((p, t) :: st)
theorem Stk.kids {B n c : Nat} {p : List Int} {st : List (List Int × PyData)} (hb : p.length + 1 + n ≤ B) (r : Stk B c st) : ∀ {k i : Nat} {ds : List PyData}, TrAll n k ds → Stk B (k + c) (kidsF i p ds ++ st)
  | _, _, _, .nil n => by
    rw [Nat.zero_add]
    exact r
  | _, i, _, .cons h a => by
    rw [Nat.add_assoc]
    exact .cons h (by rw [List.length_append, List.length_singleton]; exact hb) (Stk.kids hb r a)
theorem Tr.pos {n k : Nat} {t : PyData} (h : Tr n k t) : 1 ≤ k := by
  cases h
  omega
theorem Stk.len {B c : Nat} {st : List (List Int × PyData)} (h : Stk B c st) : st.length ≤ c := by
  induction h with
  | nil => exact Nat.le_refl _
  | cons h hb r ih =>
    have := h.pos
    rw [List.length_cons]
    omega
theorem kidsF_len : ∀ (i : Nat) (p : List Int) (ds : List PyData), (kidsF i p ds).length = ds.length
  | _, _, [] => rfl
  | i, p, d :: ds => by
    show (kidsF (i + 1) p ds).length + 1 = _
    rw [kidsF_len]
    rfl
theorem kidsF_at : ∀ (i : Nat) (p : List Int) (ds : List PyData) (j : Nat) (d : PyData), ds[j]? = some d → (kidsF i p ds)[j]? = some (p ++ [((i + j : Nat) : Int) + 1], d)
  | i, p, d0 :: ds, 0, d, e => by
    cases e
    rfl
  | i, p, d0 :: ds, j + 1, d, e => by
    have h := kidsF_at (i + 1) p ds j d e
    show (kidsF (i + 1) p ds)[j]? = _
    rw [h, show i + 1 + j = i + (j + 1) by omega]
/-- paths told by walkW are not long -/
theorem walk_short {B : Nat} : ∀ (c : Nat) (st : List (List Int × PyData)), Stk B c st → ∀ p ∈ walkW c st, p.length ≤ B := by
  intro c
  induction c with
  | zero =>
    intro st _ p h
    cases h
  | succ c ih =>
    intro st h p hp
    cases st with
    | nil => cases hp
    | cons x st =>
      obtain ⟨p0, t⟩ := x
      generalize e : c + 1 = m at h
      cases h with
      | cons htr hb r =>
        cases htr with
        | mk hz h0 h1 hl ha =>
          rename_i k' n k z i ds
          have hc : c = k + k' := by omega
          rcases List.mem_cons.mp hp with rfl | hp
          · omega
          · refine ih _ ?_ p hp
            rw [hc]
            exact Stk.kids (by omega) r ha
theorem walkW_len : ∀ (c : Nat) (st : List (List Int × PyData)), (walkW c st).length ≤ c
  | 0, _ => Nat.le_refl _
  | _ + 1, [] => Nat.zero_le _
  | c + 1, (p, t) :: st => by
    show (walkW c _).length + 1 ≤ c + 1
    have := walkW_len c (kidsF 0 p (partsD t) ++ st)
    omega
def rCatNew (K : PySem.W.Frag) : V → V → Hp → VK → Prop := fun x y H Q => ∃ (a b : Addr) (xs ys : List V), x = .ref a ∧ y = .ref b ∧ SqT K H a xs ∧ SqT K H b ys ∧ ys ≠ [] ∧ xs.length + ys.length ≤ sizeLine ∧ ∀ (H' : Hp) (p : Addr), Same H H' → (p = b ∧ xs = [] ∧ H' = H ∨ H p = none ∧ H' p = some (.tup (xs ++ ys))) → Q (.ref p) H'
theorem op_catNew {X : Cx} : OpR X (binaryOp .Add) (rCatNew X.K) := by
  intro pins s σ H x y v u Q I rx ry h
  obtain ⟨a, b, xs, ys, ex, ey, hX, hY, hne, hl, q⟩ := h
  refine op_catA pins s σ H x y v u Q I rx ry ⟨a, b, xs, ys, ex, ey, hX, hY, hl, fun e => q H b (Same.refl H) (.inl ⟨rfl, e, rfl⟩), fun _ e => absurd e hne, fun _ _ p np => q _ p (same_upd np) (.inr ⟨np, upd_same⟩)⟩
def pathD (p : List Int) : PyData := .tuple (p.map PyData.int)
def spNodes (K : PySem.W.Frag) : Sp := fun vs H Q _ => ∃ (v : V) (t : PyData) (n k : Nat), vs = [v] ∧ Dp K H v t ∧ Tr n k t ∧ k ≤ 900 ∧ n ≤ 100 ∧
  ∀ (H' : Hp) (l : Addr) (ws : List V), Same H H' → H l = none → H' l = some (.lst ws) → DpAll K (Nw H H') ws ((walkW k [([], t)]).map pathD) → Q (.ref l) H'
/-- one that waits, or was taken -/
def En (K : PySem.W.Frag) (H G : Hp) (e : V) (pt : List Int × PyData) : Prop := ∃ (q : Addr) (pv nv : V), e = .ref q ∧ SqT K (Nw H G) q [pv, nv] ∧ Dp K (Nw H G) pv (pathD pt.1) ∧ Dp K H nv pt.2
theorem En.grow {K : PySem.W.Frag} {H G G' : Hp} {e : V} {pt : List Int × PyData} (h : En K H G e pt) (s : Same G G') : En K H G' e pt := by
  obtain ⟨q, pv, nv, h1, h2, h3, h4⟩ := h
  have s2 : Same (Nw H G) (Nw H G') := fun b o e => by
    obtain ⟨e1, e2⟩ := Nw.get e
    exact Nw.mk e1 (s _ _ e2)
  exact ⟨q, pv, nv, h1, Same.seqT s2 h2, dp_same s2 h3, h4⟩
inductive Ens (K : PySem.W.Frag) (H G : Hp) : List V → List (List Int × PyData) → Prop where
  | nil : Ens K H G [] []
  | cons {e : V} {x : List Int × PyData} {es : List V} {xs : List (List Int × PyData)} (h : En K H G e x) (r : Ens K H G es xs) : Ens K H G (e :: es) (x :: xs)
section
variable {K : PySem.W.Frag} {H G G' : Hp}
theorem Ens.grow (s : Same G G') : ∀ {es : List V} {xs : List (List Int × PyData)}, Ens K H G es xs → Ens K H G' es xs
  | _, _, .nil => .nil
  | _, _, .cons h r => .cons (h.grow s) (Ens.grow s r)
theorem Ens.snoc : ∀ {es : List V} {xs : List (List Int × PyData)}, Ens K H G es xs → ∀ {e : V} {x : List Int × PyData}, En K H G e x → Ens K H G (es ++ [e]) (xs ++ [x])
  | _, _, .nil, _, _, h => .cons h .nil
  | _, _, .cons h0 r, _, _, h => .cons h0 (Ens.snoc r h)
theorem Ens.len : ∀ {es : List V} {xs : List (List Int × PyData)}, Ens K H G es xs → es.length = xs.length
  | _, _, .nil => rfl
  | _, _, .cons _ r => by rw [List.length_cons, List.length_cons, Ens.len r]
theorem Ens.at_ : ∀ {es : List V} {xs : List (List Int × PyData)}, Ens K H G es xs → ∀ {i : Nat} {e : V}, es[i]? = some e → ∃ x, xs[i]? = some x ∧ En K H G e x
  | _, _, .cons h _, 0, _, e => ⟨_, rfl, by rw [← Option.some.inj e]; exact h⟩
  | _, _, .cons _ r, i + 1, _, e => Ens.at_ r (i := i) e
theorem Ens.last {xs : List (List Int × PyData)} : ∀ {es : List V} {x : List Int × PyData}, Ens K H G es (xs ++ [x]) → ∃ es' e, es = es' ++ [e] ∧ Ens K H G es' xs ∧ En K H G e x := by
  induction xs with
  | nil =>
    intro es x h
    cases h with
    | cons h r =>
      cases r
      exact ⟨[], _, rfl, .nil, h⟩
  | cons y xs ih =>
    intro es x h
    cases h with
    | cons h r =>
      obtain ⟨es', e, h1, h2, h3⟩ := ih r
      exact ⟨_ :: es', e, by rw [h1]; rfl, .cons h h2, h3⟩
end
/-- all but two -/
def Off2 (a b : Addr) (H : Hp) : Hp := fun c => if c = a ∨ c = b then none else H c
theorem Off2.get {a b c : Addr} {H : Hp} {o : HO} (h : Off2 a b H c = some o) : c ≠ a ∧ c ≠ b ∧ H c = some o := by
  unfold Off2 at h
  split at h
  · cases h
  · rename_i n
    exact ⟨fun z => n (.inl z), fun z => n (.inr z), h⟩
theorem Off2.mk {a b c : Addr} {H : Hp} {o : HO} (n1 : c ≠ a) (n2 : c ≠ b) (h : H c = some o) : Off2 a b H c = some o := by
  unfold Off2
  rw [if_neg (by rintro (z | z); exact n1 z; exact n2 z)]
  exact h
theorem Off2.upd1 {a b : Addr} {H : Hp} {o : HO} : Same (Off2 a b H) (Off2 a b (upd H a o)) := fun c x e => by
  obtain ⟨n1, n2, h⟩ := Off2.get e
  exact Off2.mk n1 n2 (by rw [upd_ne n1]; exact h)
theorem Off2.upd2 {a b : Addr} {H : Hp} {o : HO} : Same (Off2 a b H) (Off2 a b (upd H b o)) := fun c x e => by
  obtain ⟨n1, n2, h⟩ := Off2.get e
  exact Off2.mk n1 n2 (by rw [upd_ne n2]; exact h)
theorem Off2.same {a b : Addr} {H H' : Hp} (s : Same H H') : Same (Off2 a b H) (Off2 a b H') := fun c x e => by
  obtain ⟨n1, n2, h⟩ := Off2.get e
  exact Off2.mk n1 n2 (s _ _ h)
theorem Off2.sub {a b : Addr} {H : Hp} : Same (Off2 a b H) H := fun c x e => (Off2.get e).2.2
structure Wk (mg : Str → Option Value) : Prop where
  reversed : mg "reversed" = none
  range : mg "range" = none
  len : mg "len" = none
def spWalk (K : PySem.W.Frag) : Sp := fun vs H Q _ => ∃ (v : V) (t : PyData) (n k : Nat), vs = [v] ∧ Dp K H v t ∧ Tr n k t ∧ k ≤ 900 ∧ n ≤ 100 ∧
  ∀ (H' : Hp) (l : Addr) (es : List V) (ps : List (List Int × PyData)), Same H H' → H l = none → H' l = some (.lst es) → ps.map (·.1) = walkW k [([], t)] → Ens K H H' es ps → Q (.ref l) H'
section
variable {P : Program} {w : World} {K : PySem.W.Frag} {mg : Str → Option Value} {base : Heap}
theorem ok_walk_of (T : Wk mg) (D : Dd K mg "walk_of" s_walk_of P_walk_of) : C8.Cal P w K mg base 1 "walk_of" (spWalk K) [] := by
  refine D.cal sc_walk_of (fun vs H Q E h => ?_) (fun f cdv A outer s H vs Q E hr h => ?_)
  · obtain ⟨v, t, n, k, rfl, _⟩ := h
    rfl
  · obtain ⟨v, t, n, k, rfl, hv, tr, hk, hn, q⟩ := h
    refine ⟨_, (pss_cons (ps_set (i := 1) sc_walk_of.nd rfl (Or.inl rfl) (pe_lst pa_nil))
        (pss_cons (ps_set (i := 2) sc_walk_of.nd rfl (Or.inl rfl) (pe_lst (pa_cons (pe_tup (pa_cons (pe_tup pa_nil) (pa_cons (pv 0) pa_nil))) pa_nil)))
        (pss_cons (ps_while PassesOwn.never (pt_truth (pv 2) (by intro _; rfl))
          (pss_cons (ps_asg (pe_bm0 PySem.F.plainAttrs_list PySem.F.slot_list_pop PySem.F.type_list_pop mt_pop (pv 2)) (pg_tup rfl (pgs_cons (pg_name (i := 3) sc_walk_of.nd rfl (Or.inl rfl)) (pgs_cons (pg_name (i := 4) sc_walk_of.nd rfl (Or.inl rfl)) pgs_nil))))
        (pss_cons (ps_expr (pe_bm PySem.F.plainAttrs_list PySem.F.slot_list_append PySem.F.type_list_append mt_append (pv 1) (pa_cons (pe_tup (pa_cons (pv 3) (pa_cons (pv 4) pa_nil))) pa_nil)))
        (pss_cons (ps_set (i := 5) sc_walk_of.nd rfl (Or.inl rfl) (pe_ix ix_tup (pv 4) pe_int (fun _ _ => rfl)))
        (pss_one (ps_for PassesOwn.never rfl (pi_revR (by rfl) T.reversed (prg_1 (by rfl) T.range (pe_callB call_len_seq (by rfl) T.len PySem.boot_len (pa_cons (pv 5) pa_nil)))) (pg_name (i := 6) sc_walk_of.nd rfl (Or.inl rfl))
          (pss_one (ps_expr (pe_bm PySem.F.plainAttrs_list PySem.F.slot_list_append PySem.F.type_list_append mt_append (pv 2) (pa_cons (pe_tup (pa_cons (pe_op op_catNew (pv 3) (pe_tup (pa_cons (pe_op op_add (pv 6) pe_int) pa_nil))) (pa_cons (pe_ix ix_tup (pv 5) (pv 6) (fun _ _ => rfl)) pa_nil))) pa_nil))))))))))
        (pss_one (ps_ret (pv 1)))))), ?_⟩
    refine ⟨by show 0 ≤ sizeLine; decide, fun S nS => ?_⟩
    refine ⟨by show 0 ≤ sizeLine; decide, fun p0 n0 => ⟨_, rfl, by show 2 ≤ sizeLine; decide, fun e0 m0 => ⟨by show 1 ≤ sizeLine; decide, fun W nW => ?_⟩⟩⟩
    have b1 := same_upd (o := .lst []) nS
    have b2 := same_upd (o := .tup []) n0
    have b3 := same_upd (o := .tup [.ref p0, v]) m0
    have b4 := same_upd (o := .lst [.ref e0]) nW
    have sI := ((b1.trans b2).trans b3).trans b4
    have nWH : H W = none := ((b1.trans b2).trans b3).free nW
    have n0H : H p0 = none := b1.free n0
    have m0H : H e0 = none := (b1.trans b2).free m0
    have hS0 := b4 _ _ (b3 _ _ (b2 _ _ (upd_same (H := H) (a := S) (o := .lst []))))
    have hp0 := b4 _ _ (b3 _ _ (upd_same (H := upd H S (.lst [])) (a := p0) (o := .tup [])))
    have he0 := b4 _ _ (upd_same (H := upd (upd H S (.lst [])) p0 (.tup [])) (a := e0) (o := .tup [.ref p0, v]))
    have nSW : S ≠ W := ne_of_none (b3 _ _ (b2 _ _ (upd_same (H := H) (a := S) (o := .lst [])))) nW
    have np0S : p0 ≠ S := fun z => by
      rw [z, upd_same] at n0
      cases n0
    have ne0S : e0 ≠ S := fun z => by
      rw [z, b2 _ _ upd_same] at m0
      cases m0
    have np0W : p0 ≠ W := ne_of_none (b3 _ _ upd_same) nW
    have ne0W : e0 ≠ W := ne_of_none upd_same nW
    have hW0 := upd_same (H := upd (upd (upd H S (.lst [])) p0 (.tup [])) e0 (.tup [.ref p0, v])) (a := W) (o := .lst [.ref e0])
    obtain ⟨HI, eI⟩ : ∃ HI, HI = upd (upd (upd (upd H S (.lst [])) p0 (.tup [])) e0 (.tup [.ref p0, v])) W (.lst [.ref e0]) := ⟨_, rfl⟩
    rw [← eI] at sI hS0 hp0 he0 hW0 ⊢
    have en0 : En K H (Off2 S W HI) (.ref e0) ([], t) := ⟨e0, .ref p0, v, rfl, SqT.of (Nw.mk m0H (Off2.mk ne0S ne0W he0)), .tup (SqT.of (Nw.mk n0H (Off2.mk np0S np0W hp0))) .nil, hv⟩
    refine ⟨fun m σ H3 => ∃ y3 y4 y5 y6 es done ents st, σ = [some v, some (.ref S), some (.ref W), y3, y4, y5, y6] ∧ Same H H3 ∧ H3 S = some (.lst es) ∧ H3 W = some (.lst ents) ∧ Ens K H (Off2 S W H3) es done ∧ Ens K H (Off2 S W H3) ents st.reverse ∧ Stk n m st ∧ done.map (·.1) ++ walkW m st = walkW k [([], t)] ∧ m ≤ k,
      ⟨k, none, none, none, none, [], [], [.ref e0], [([], t)], rfl, sI, hS0, hW0, .nil, .cons en0 .nil, ?_, rfl, Nat.le_refl k⟩, ?_⟩
    · exact (show Stk n (k + 0) [([], t)] from .cons tr (by show 0 + n ≤ n; omega) .nil)
    · rintro m σ H3 ⟨y3, y4, y5, y6, es, done, ents, st, rfl, s3, hS3, hW3, hes, hen, hst, hw, hmk⟩
      refine ⟨_, rfl, _, .inl ⟨ents, SqL.of hW3, rfl⟩, ?_⟩
      have hdl : es.length ≤ 1000 := by
        have h1 := hes.len
        have h2 := congrArg List.length hw
        rw [List.length_append, List.length_map] at h2
        have h3 := walkW_len k [([], t)]
        omega
      cases st with
      | nil =>
        have h0 := hen.len
        have e0' : ents = [] := List.eq_nil_of_length_eq_zero h0
        subst e0'
        refine iteF ?_
        cases hst
        have hw2 : done.map (·.1) = walkW k [([], t)] := by
          rw [← hw]
          exact (List.append_nil _).symm
        exact ⟨_, rfl, q _ S es done s3 nS hS3 hw2 (hes.grow Off2.sub)⟩
      | cons x st =>
        obtain ⟨p, tt⟩ := x
        rw [List.reverse_cons] at hen
        obtain ⟨en', e, rfl, hen', q0, pv, nv, rfl, hSq, hpv, hnv⟩ := hen.last
        refine ifT (by simp) ?_
        cases hst with
        | cons htr hb hr2 =>
          rename_i n1 k1 c1
          obtain ⟨q1, q2, x1, x2, us, rfl, hN1, hN2, hA2, hus⟩ := tr_heap htr hnv
          have lus := dpAll_len hA2
          obtain ⟨pa, px, rfl, hPS, hPA⟩ : ∃ pa px, pv = .ref pa ∧ SqT K (Nw H (Off2 S W H3)) pa px ∧ DpAll K (Nw H (Off2 S W H3)) px (p.map PyData.int) := by
            cases hpv with
            | tup h1 h2 => exact ⟨_, _, rfl, h1, h2⟩
          have lpx := dpAll_len hPA
          rw [List.length_map] at lpx
          refine ⟨fun σ' H' => ∃ y3 y4 y5 y6 es done ents st, σ' = [some v, some (.ref S), some (.ref W), y3, y4, y5, y6] ∧ Same H H' ∧ H' S = some (.lst es) ∧ H' W = some (.lst ents) ∧ Ens K H (Off2 S W H') es done ∧ Ens K H (Off2 S W H') ents st.reverse ∧ Stk n (k1 + c1 - 1) st ∧ done.map (·.1) ++ walkW (k1 + c1 - 1) st = walkW k [([], t)] ∧ k1 + c1 - 1 ≤ k, fun σ' H' h => ⟨k1 + c1 - 1, ?_, h⟩, ?_⟩
          · cases htr
            omega
          refine ⟨_, rfl, .inl ⟨rfl, _, SqL.of hW3⟩, W, _, .ref q0, rfl, rfl, hW3, by simp, ?_⟩
          rw [List.dropLast_concat]
          have hW4 : (upd H3 W (.lst en')) W = some (.lst en') := upd_same
          have hS4 : (upd H3 W (.lst en')) S = some (.lst es) := by
            rw [upd_ne nSW]
            exact hS3
          have s4 : Same H (upd H3 W (.lst en')) := Same.at_ s3 nWH
          have g4 : Same (Off2 S W H3) (Off2 S W (upd H3 W (.lst en'))) := Off2.upd2
          obtain ⟨H4, e4⟩ : ∃ H4, H4 = upd H3 W (.lst en') := ⟨_, rfl⟩
          rw [← e4] at hW4 hS4 s4 g4 ⊢
          have nw4 : Same (Nw H (Off2 S W H3)) (Nw H (Off2 S W H4)) := fun b o e => by
            obtain ⟨z1, z2⟩ := Nw.get e
            exact Nw.mk z1 (g4 _ _ z2)
          have toH : ∀ X, Same (Nw H (Off2 S W X)) X := fun X => Nw.sub.trans Off2.sub
          refine ⟨q0, _, rfl, Same.seqT (nw4.trans (toH H4)) hSq, rfl, _, _, rfl, _, _, rfl, rfl, ?_⟩
          refine ⟨_, rfl, .inl ⟨rfl, _, SqL.of hS4⟩, _, rfl, _, rfl, by show 2 ≤ sizeLine; decide, fun e2 n2 => ?_⟩
          have g5 := same_upd (o := .tup [.ref pa, .ref q1]) n2
          have hS5 := g5 _ _ hS4
          refine ⟨S, es, .ref e2, rfl, rfl, hS5, small1000 (by omega), ?_⟩
          have ne2S : e2 ≠ S := fun z => by
            rw [z, hS4] at n2
            cases n2
          have ne2W : e2 ≠ W := fun z => by
            rw [z, hW4] at n2
            cases n2
          have hW6 : (upd (upd H4 e2 (.tup [.ref pa, .ref q1])) S (.lst (es ++ [.ref e2]))) W = some (.lst en') := by
            rw [upd_ne nSW.symm]
            exact g5 _ _ hW4
          have hS6 : (upd (upd H4 e2 (.tup [.ref pa, .ref q1])) S (.lst (es ++ [.ref e2]))) S = some (.lst (es ++ [.ref e2])) := upd_same
          have he6 : (upd (upd H4 e2 (.tup [.ref pa, .ref q1])) S (.lst (es ++ [.ref e2]))) e2 = some (.tup [.ref pa, .ref q1]) := by
            rw [upd_ne ne2S, upd_same]
          have s6 : Same H (upd (upd H4 e2 (.tup [.ref pa, .ref q1])) S (.lst (es ++ [.ref e2]))) := Same.at_ (s4.trans g5) nS
          have g6 : Same (Off2 S W H4) (Off2 S W (upd (upd H4 e2 (.tup [.ref pa, .ref q1])) S (.lst (es ++ [.ref e2])))) := (Off2.same g5).trans Off2.upd1
          have n2H : H e2 = none := s4.free n2
          obtain ⟨H6, e6⟩ : ∃ H6, H6 = upd (upd H4 e2 (.tup [.ref pa, .ref q1])) S (.lst (es ++ [.ref e2])) := ⟨_, rfl⟩
          rw [← e6] at hW6 hS6 he6 s6 g6 ⊢
          have g36 := g4.trans g6
          have nw6 : Same (Nw H (Off2 S W H3)) (Nw H (Off2 S W H6)) := fun b o e => by
            obtain ⟨z1, z2⟩ := Nw.get e
            exact Nw.mk z1 (g36 _ _ z2)
          have en6 : En K H (Off2 S W H6) (.ref e2) (p, tt) := ⟨e2, .ref pa, .ref q1, rfl, SqT.of (Nw.mk n2H (Off2.mk ne2S ne2W he6)), .tup (Same.seqT nw6 hPS) (dpAll_same nw6 hPA), hnv⟩
          have hes6 := (hes.grow g36).snoc en6
          have hen6 := hen'.grow g36
          refine ⟨_, rfl, q1, _, 2, .ref q2, rfl, rfl, Same.seqT s6 hN1, atI_nat (j := 2) rfl, ?_⟩
          refine ⟨_, rfl, q2, us, rfl, .inr (Same.seqT s6 hN2), _, rfl, by decide, by decide, by omega, by omega, ?_⟩
          have kl := kidsF_len 0 p (partsD tt)
          have lst := Stk.len hr2
          refine for_rangeC (fun i σ H7 => ∃ y6 ents7, σ = [some v, some (.ref S), some (.ref W), some (.ref pa), some (.ref q1), some (.ref q2), y6] ∧ Same H H7 ∧ H7 S = some (.lst (es ++ [.ref e2])) ∧ H7 W = some (.lst ents7) ∧ Same (Off2 S W H6) (Off2 S W H7) ∧ Ens K H (Off2 S W H7) ents7 (st.reverse ++ ((kidsF 0 p (partsD tt)).drop (us.length - i)).reverse) ∧ i ≤ us.length)
            ⟨y6, en', rfl, s6, hS6, hW6, Same.refl _, by rw [List.drop_eq_nil_of_le (by rw [kl]; omega), List.reverse_nil, List.append_nil]; exact hen6, Nat.zero_le _⟩ ?_ ?_
          · rintro i σ H7 hi ⟨y6, ents7, rfl, s7, hS7, hW7, g7, hen7, hi2⟩
            have hi3 : i < us.length := by omega
            obtain ⟨m0, hm0, hml, hmi⟩ : ∃ m0 : Nat, (0 + (((us.length : Int) - 0).toNat : Int) - 1 + (i : Nat) * (-1) : Int) = (m0 : Int) ∧ m0 < us.length ∧ us.length - i = m0 + 1 := ⟨us.length - 1 - i, by omega, by omega, by omega⟩
            rw [hm0]
            obtain ⟨dd, hdd, hud⟩ := dpAll_at hA2 (i := m0) (v := us[m0]) (by simp [hml])
            have nw7 : Same (Nw H (Off2 S W H3)) (Nw H (Off2 S W H7)) := fun b o e => by
              obtain ⟨z1, z2⟩ := Nw.get e
              exact Nw.mk z1 (g7 _ _ (g36 _ _ z2))
            have el7 := hen7.len
            rw [List.length_append, List.length_reverse, List.length_reverse, List.length_drop, kl] at el7
            refine ⟨_, rfl, .inl ⟨rfl, _, SqL.of hW7⟩, _, rfl, _, rfl, _, _, rfl, rfl, by show 1 ≤ sizeLine; decide, fun a1 na1 => ?_⟩
            have h1 := same_upd (o := .tup [.int ((m0 : Int) + 1)]) na1
            have na1S : a1 ≠ S := fun z => by
              rw [z, hS7] at na1
              cases na1
            have na1W : a1 ≠ W := fun z => by
              rw [z, hW7] at na1
              cases na1
            refine ⟨pa, a1, px, _, rfl, rfl, Same.seqT ((nw7.trans (toH H7)).trans h1) hPS, SqT.of upd_same, by simp, Nat.le_trans (show _ ≤ 200 from by
              show px.length + 1 ≤ 200
              omega) (by decide), fun H9 r s9 hr => ?_⟩
            obtain ⟨hr1, hr2', hr3, hr4⟩ : H9 r = some (.tup (px ++ [.int ((m0 : Int) + 1)])) ∧ H r = none ∧ r ≠ S ∧ r ≠ W := by
              rcases hr with ⟨rfl, e1, rfl⟩ | ⟨e1, e2⟩
              · exact ⟨by rw [upd_same, e1]; rfl, s7.free na1, na1S, na1W⟩
              · refine ⟨e2, (s7.trans h1).free e1, fun z => ?_, fun z => ?_⟩
                · rw [z, h1 _ _ hS7] at e1
                  cases e1
                · rw [z, h1 _ _ hW7] at e1
                  cases e1
            have h9 := h1.trans s9
            refine ⟨_, rfl, _, rfl, q2, us, _, us[m0], rfl, rfl, Same.seqT (s7.trans h9) hN2, atI_nat (by simp [hml]), by show 2 ≤ sizeLine; decide, fun e9 n9 => ?_⟩
            have h10 := same_upd (o := .tup [.ref r, us[m0]]) n9
            have hW9 := h10 _ _ (h9 _ _ hW7)
            have ne9S : e9 ≠ S := fun z => by
              rw [z, h9 _ _ hS7] at n9
              cases n9
            have ne9W : e9 ≠ W := fun z => by
              rw [z, h9 _ _ hW7] at n9
              cases n9
            refine ⟨W, ents7, .ref e9, rfl, rfl, hW9, small1000 (by omega), ?_⟩
            have gA : Same (Off2 S W H7) (Off2 S W (upd (upd H9 e9 (.tup [.ref r, us[m0]])) W (.lst (ents7 ++ [.ref e9])))) := (Off2.same (h9.trans h10)).trans Off2.upd2
            have nwA : Same (Nw H (Off2 S W H3)) (Nw H (Off2 S W (upd (upd H9 e9 (.tup [.ref r, us[m0]])) W (.lst (ents7 ++ [.ref e9]))))) := fun b o e => by
              obtain ⟨z1, z2⟩ := Nw.get e
              exact Nw.mk z1 (gA _ _ (g7 _ _ (g36 _ _ z2)))
            have enA : En K H (Off2 S W (upd (upd H9 e9 (.tup [.ref r, us[m0]])) W (.lst (ents7 ++ [.ref e9])))) (.ref e9) (p ++ [((0 + m0 : Nat) : Int) + 1], dd) := by
              refine ⟨e9, .ref r, us[m0], rfl, SqT.of (Nw.mk ((s7.trans h9).free n9) (Off2.mk ne9S ne9W (by rw [upd_ne ne9W, upd_same]))), .tup (SqT.of (Nw.mk hr2' (Off2.mk hr3 hr4 (by rw [upd_ne hr4]; exact h10 _ _ hr1)))) ?_, hud⟩
              rw [List.map_append, Nat.zero_add]
              exact dpAll_snoc (dpAll_same nwA hPA) (.int _)
            refine ⟨_, ents7 ++ [.ref e9], rfl, Same.at_ (s7.trans (h9.trans h10)) nWH, by rw [upd_ne nSW]; exact h10 _ _ (h9 _ _ hS7), upd_same, g7.trans gA, ?_, by omega⟩
            rw [show us.length - (i + 1) = m0 by omega]
            have hk0 := kidsF_at 0 p (partsD tt) m0 dd hdd
            have hkl : m0 < (kidsF 0 p (partsD tt)).length := by
              rw [kl]
              omega
            rw [List.drop_eq_getElem_cons hkl, List.reverse_cons, ← List.append_assoc]
            have hke : (kidsF 0 p (partsD tt))[m0] = (p ++ [((0 + m0 : Nat) : Int) + 1], dd) := by
              rw [List.getElem?_eq_getElem hkl] at hk0
              exact Option.some.inj hk0
            rw [hke]
            rw [hmi] at hen7
            exact (hen7.grow gA).snoc enA
          · rintro σ H7 ⟨y6, ents7, rfl, s7, hS7, hW7, g7, hen7, hi2⟩
            have hz : us.length - ((us.length : Int) - 0).toNat = 0 := by omega
            rw [hz, List.drop_zero, ← List.reverse_append] at hen7
            refine ⟨_, _, _, _, _, done ++ [(p, tt)], ents7, kidsF 0 p (partsD tt) ++ st, rfl, s7, hS7, hW7, hes6.grow g7, hen7, ?_, ?_, by omega⟩
            · cases htr with
              | mk z1 z2 z3 z4 z5 =>
                rename_i n0 k0 z0 i0 ds0
                rw [show k0 + 1 + c1 - 1 = k0 + c1 by omega]
                exact Stk.kids (by omega) hr2 z5
            · rw [List.map_append, List.append_assoc, ← hw]
              cases htr with
              | mk z1 z2 z3 z4 z5 =>
                rename_i n0 k0 z0 i0 ds0
                rw [show k0 + 1 + c1 - 1 = k0 + c1 by omega, show k0 + 1 + c1 = (k0 + c1) + 1 by omega]
                rfl
end
section
variable {P : Program} {w : World} {K : PySem.W.Frag} {mg : Str → Option Value} {base : Heap}
theorem ok_nodes_of (cwalk_of : C8.Cal P w K mg base 1 "walk_of" (spWalk K) []) (D : Dd K mg "nodes_of" s_nodes_of P_nodes_of) : C8.Cal P w K mg base 2 "nodes_of" (spNodes K) [] := by
  refine D.cal sc_nodes_of (fun vs H Q E h => ?_) (fun f cdv A outer s H vs Q E hr h => ?_)
  · obtain ⟨v, t, n, k, rfl, _⟩ := h
    rfl
  · obtain ⟨v, t, n, k, rfl, hv, tr, hk, hn, q⟩ := h
    refine ⟨_, (pss_one (ps_ret (pe_lc (g := gTup K 2 (gCons (gName 1) (gCons (gName 2) gNil))) (own := [("path", 1), ("node", 2)]) (by exact rfl) sc_nodes_of.nd (pi_list (C8.pe_c cwalk_of hr (by decide) (by rfl) (pa_cons (pv 0) pa_nil))) (blkOk_by (own := [("path", 1), ("node", 2)]) (N := N_nodes_of) (sc := defScope s_nodes_of) (by decide +kernel)) (fun _ _ _ _ _ => (pg_tup (n := 2) rfl (pgs_cons (pg_name (i := 1) sc_nodes_of.nd rfl (Or.inl rfl) (Or.inr rfl)) (pgs_cons (pg_name (i := 2) sc_nodes_of.nd rfl (Or.inl rfl) (Or.inr rfl)) pgs_nil)))) (fun _ _ _ _ _ => pts_nil) (fun _ _ _ _ _ => (pv 1))))), ?_⟩
    refine ⟨_, rfl, v, t, n, k, rfl, hv, tr, hk, hn, fun H1 L es ps s1 nL hL hps hen => ⟨L, rfl, ⟨_, SqL.of hL⟩, fun D nD => ?_⟩⟩
    have lps : ps.length ≤ 900 := by
      have h1 := congrArg List.length hps
      rw [List.length_map] at h1
      have h2 := walkW_len k [([], t)]
      omega
    have les := hen.len
    refine lc_list (K := K) (a := L) (xs := es) (fun j H' => Same H1 H' ∧ ∃ ws, H' D = some (.lst ws) ∧ ws.length = j ∧ DpAll K (Nw H H1) ws ((ps.take j).map fun x => pathD x.1)) ⟨same_upd nD, [], upd_same, rfl, .nil⟩ (fun j H' _ h => SqL.of (h.1 _ _ hL)) ?_ ?_
    · rintro j e H' he ⟨sm, ws, hD, hwl, hdp⟩
      obtain ⟨x, hx, q0, pv, nv, rfl, hSq, hpv, hnv⟩ := hen.at_ he
      have hj : j < es.length := (List.getElem?_eq_some_iff.mp he).1
      refine ⟨q0, _, rfl, Same.seqT (Nw.sub.trans sm) hSq, rfl, _, _, rfl, _, _, rfl, rfl, ?_⟩
      refine ⟨rfl, yesT ?_⟩
      refine ⟨_, rfl, _, hD, by rw [hwl]; exact small1000 (by omega), Same.at_ sm nD, ws ++ [pv], upd_same, by rw [List.length_append, hwl]; rfl, ?_⟩
      rw [List.take_add_one, hx, List.map_append]
      exact dpAll_snoc hdp hpv
    · rintro H' ⟨sm, ws, hD, hwl, hdp⟩
      rw [les, List.take_length] at hdp
      refine q H' D ws (s1.trans sm) (s1.free nD) hD ?_
      rw [← hps, List.map_map]
      exact dpAll_same (fun b o e => by
        obtain ⟨e1, e2⟩ := Nw.get e
        exact Nw.mk e1 (sm _ _ e2)) hdp
end
/-! ### an error in its except suite -/
abbrev s__law_told : Stmt := top 27
abbrev N__law_told : List Str := ["_law_tree", "_law_path", "_law_part", "_law_found", "_law_way", "error", "_law_plain"]
abbrev P__law_told : List Str := ["_law_tree", "_law_path", "_law_part"]
theorem sc__law_told : FnScope N__law_told P__law_told (defScope s__law_told) := ⟨rfl, rfl, rfl, by decide +kernel, rfl, by decide +kernel, by decide +kernel⟩
theorem takes_no {X : Cx} : Takes X (fun _ _ _ _ => False) := fun _ _ ⟨_, _, _, _, _, _, _, _, _, _, _, _, _, _, _, _, h⟩ => h.elim
theorem inst_pin {X : Cx} {a C dd : Addr} {oe : Obj} {pn pins : List (Addr × Obj)} {σ : L2.St} {H : Hp} {s : Shared} {fs : List (Str × V)} (I : Inv (X.suite a ((a, oe) :: pn)) pins σ H s) (hz : Zc (.ref C) (some dd) oe) (hf : ∃ vs, oe.data = .fields vs) (ed : H dd = some (.xd fs)) :
    ∃ od, PySem.W.InstAt s.heap a oe C (some od) := by
  obtain ⟨ha, _⟩ := I.pin (a, oe) (List.mem_append_left _ List.mem_cons_self)
  obtain ⟨vs, hd⟩ := hf
  obtain ⟨mA, hns, hr⟩ : ObjOk X.prog X.w H s.heap dd (.xd fs) := I.hok dd _ ed
  obtain ⟨od, ho, hl⟩ := lookIn_ns hns
  exact ⟨od, ha, hz.1, by unfold PySem.W.notCls; rw [hd] <;> rfl, by rw [hz.2]; exact ho⟩
def rIsS (K : PySem.W.Frag) (a : Addr) (cls : Value) (d : Option Addr) : List V → Hp → VK → Prop := fun xs H Q => ∃ (C dd : Addr) (fs : List (Str × V)) (c : V) (cu : Value) (b : Bool), xs = [.ref a, c] ∧ cls = .ref C ∧ d = some dd ∧ XvC K C ∧ H dd = some (.xd fs) ∧ ClsV c cu ∧ PySem.W.kitOne K (.ref C) cu = some b ∧ Q (.bl b) H
theorem call_isS {X : Cx} {a : Addr} {oe : Obj} {cls : Value} {d : Option Addr} {pn : List (Addr × Obj)} (hz : Zc cls d oe) (hf : ∃ vs, oe.data = .fields vs) : CallR (X.suite a ((a, oe) :: pn)) (.builtin "isinstance") (rIsS X.K a cls d) := by
  intro pins s σ H xs us Q I r h
  obtain ⟨C, dd, fs, c, cu, b, rfl, rfl, rfl, T, ed, hc, hk, q⟩ := h
  cases r with
  | cons r1 rr =>
    cases rr with
    | cons r2 r3 =>
      cases r3
      cases r1
      have ec := hc.eq r2
      subst ec
      obtain ⟨od, J⟩ := inst_pin I hz hf ed
      have hcl : (PySem.W.clsIn X.K C).isSome = true := by
        obtain ⟨cd, e1, _⟩ := PySem.W.any_some T.hd
        rw [e1]
        rfl
      exact PySem.W.kia_one (PySem.W.kitx_exc hcl T.ga T.gg T.sb T.kl T.kg T.kt T.ob) I.kIn J hk (fun z => nomatch z) fun tk => ⟨.bl b, H, I.kept (t' := tk) fun _ _ z => z, rfl, q⟩
def rIsST (K : PySem.W.Frag) (a : Addr) (cls : Value) (d : Option Addr) : List V → Hp → VK → Prop := fun xs H Q => ∃ (C dd tp : Addr) (fs : List (Str × V)) (cs : List V) (cu : List Value) (b : Bool), xs = [.ref a, .ref tp] ∧ cls = .ref C ∧ d = some dd ∧ XvC K C ∧ H dd = some (.xd fs) ∧ H tp = some (.tup cs) ∧ Paired ClsV cs cu ∧ PySem.W.kitAny K (.ref C) cu = some b ∧ Q (.bl b) H
theorem call_isST {X : Cx} {a : Addr} {oe : Obj} {cls : Value} {d : Option Addr} {pn : List (Addr × Obj)} (hz : Zc cls d oe) (hf : ∃ vs, oe.data = .fields vs) : CallR (X.suite a ((a, oe) :: pn)) (.builtin "isinstance") (rIsST X.K a cls d) := by
  intro pins s σ H xs us Q I r h
  obtain ⟨C, dd, tp, fs, cs, cu, b, rfl, rfl, rfl, T, ed, et, hc, hk, q⟩ := h
  cases r with
  | cons r1 rr =>
    cases rr with
    | cons r2 r3 =>
      cases r3
      cases r1
      cases r2
      obtain ⟨od, J⟩ := inst_pin I hz hf ed
      have hcl : (PySem.W.clsIn X.K C).isSome = true := by
        obtain ⟨cd, e1, _⟩ := PySem.W.any_some T.hd
        rw [e1]
        rfl
      obtain ⟨hz', its, rv, ⟨c5, d5, t5, s5⟩, p1, p2, n5, p3⟩ : ObjOk X.prog X.w H s.heap tp (.tup cs) := I.hok tp _ et
      have ei := ClsV.all hc rv
      subst ei
      dsimp only at p2 p3
      subst p2 p3
      exact PySem.W.kia_tup (PySem.W.kitx_exc hcl T.ga T.gg T.sb T.kl T.kg T.kt T.ob) I.kIn J p1 hk (fun z => nomatch z) fun tk => ⟨.bl b, H, I.kept (t' := tk) fun _ _ z => z, rfl, q⟩
/-- what the law asks of the error's class -/
structure Nn (K : PySem.W.Frag) (mg : Str → Option Value) (C Y1 Y2 Y3 Y4 Y5 : Addr) : Prop where
  nn : mg "NoNode" = some (.ref C)
  y1 : mg "NoName" = some (.ref Y1)
  y2 : mg "NoRow" = some (.ref Y2)
  y3 : mg "NoSpot" = some (.ref Y3)
  y4 : mg "BadText" = some (.ref Y4)
  y5 : mg "NoTree" = some (.ref Y5)
  ex : PySem.W.exmOne K (.ref C) (.ref C) = some true
  xv : XvC K C
  xf : XfC K C
  pth : PySem.W.findIn K (.ref C) "path" = some none
  others : PySem.W.kitAny K (.ref C) [.ref Y1, .ref Y2, .ref Y3, .ref Y4, .ref Y5] = some false
  ie : PySem.W.kitOne K (.ref C) (.type "IndexError") = some true
structure To (mg : Str → Option Value) : Prop where
  isinstance : mg "isinstance" = none
  range : mg "range" = none
  ie : mg "IndexError" = none
def wordOf (b : Bool) : Str := if b then "told" else "none"
def spTold6 (K : PySem.W.Frag) : Sp := fun vs H Q _ => ∃ (v x r : V) (t d : PyData) (n k : Nat), vs = [v, x, r] ∧ Dp K H v t ∧ Tr n k t ∧ Dp K H x d ∧ Sm 6 d ∧
  ∀ (H' : Hp) (l e1 e2 : Addr) (y1 y2 : V), Same H H' → H' l = some (.lst [.ref e1, .ref e2]) → H' e1 = some (.tup [.str (wordOf (thereD t d)), y1]) → H' e2 = some (.tup [.str (wordOf (thereD t d)), y2]) → (thereD t d = false → Dp K H' y1 d ∧ Dp K H' y2 d) → Q (.ref l) H'
/-- a told one, off the list at F -/
def Tl6 (K : PySem.W.Frag) (F : Addr) (H : Hp) (b : Bool) (d : PyData) (e : V) : Prop := ∃ q y, e = .ref q ∧ q ≠ F ∧ H q = some (.tup [.str (wordOf b), y]) ∧ (b = false → ∃ G, Same G H ∧ G F = none ∧ Dp K G y d)
theorem Tl6.grow {K : PySem.W.Frag} {F : Addr} {H H' : Hp} {b : Bool} {d : PyData} {e : V} (h : Tl6 K F H b d e) (s : ∀ c o, c ≠ F → H c = some o → H' c = some o) : Tl6 K F H' b d e := by
  obtain ⟨q, y, h1, h2, h3, h4⟩ := h
  refine ⟨q, y, h1, h2, s _ _ h2 h3, fun e => ?_⟩
  obtain ⟨G, g1, g2, g3⟩ := h4 e
  exact ⟨G, fun c o hc => s c o (ne_of_none hc g2) (g1 _ _ hc), g2, g3⟩
section
variable {P : Program} {w : World} {K : PySem.W.Frag} {mg : Str → Option Value} {base : Heap} {C Y1 Y2 Y3 Y4 Y5 : Addr}
theorem ok_told6 (T : To mg) (N : Nn K mg C Y1 Y2 Y3 Y4 Y5) (cpart_at : CalX P w K mg base 11 "part_at" (spPart K C) []) (cput_at : CalX P w K mg base 11 "put_at" (spPut K C) []) (D : Dd K mg "_law_told" s__law_told P__law_told) : C8.Cal P w K mg base 12 "_law_told" (spTold6 K) [] := by
  refine D.cal sc__law_told (fun vs H Q E h => ?_) (fun f cdv A outer s H vs Q E hr h => ?_)
  · obtain ⟨v, x, r, t, d, n, k, rfl, _⟩ := h
    rfl
  · obtain ⟨v, x, r, t, d, n, k, rfl, hv, tr, hx, hs, q⟩ := h
    refine ⟨_, (pss_cons (ps_set (i := 3) sc__law_told.nd rfl (Or.inl rfl) (pe_lst pa_nil))
        (pss_cons (ps_for PassesOwn.never rfl (pi_range1 rfl T.range (pa_cons pe_int pa_nil)) (pg_name (i := 4) sc__law_told.nd rfl (Or.inl rfl))
          (pss_one (by exact (ps_try_as (tb := fun W => tDrop (tBM K "list" rAppend (tVar 3) (tCons (tTup (tCons (tC (.str "told")) (tCons (tIf (tTest (tOp rEq (tVar 4) (tC (.int 0)))) (tCallT (spPart K C) [] W (tCons (tVar 0) (tCons (tVar 1) tNil))) (tCallT (spPut K C) [] W (tCons (tVar 0) (tCons (tVar 1) (tCons (tVar 2) tNil))))) tNil))) tNil))) (ts := fun a cls d => tSeq (tAsg (tAndV (tCB (rIsS K a cls d) (tCons (tVar 5) (tCons (tC (.ty "IndexError")) tNil))) (tNotV (tCB (rIsST K a cls d) (tCons (tVar 5) (tCons (tTup (tCons (tC (.ref Y1)) (tCons (tC (.ref Y2)) (tCons (tC (.ref Y3)) (tCons (tC (.ref Y4)) (tCons (tC (.ref Y5)) tNil)))))) tNil))))) (gName 6)) (tDrop (tBM K "list" rAppend (tVar 3) (tCons (tIf (tB (tVar 6)) (tTup (tCons (tC (.str "none")) (tCons (tXf a cls d C "path" (tVar 5)) tNil))) (tTup (tCons (tC (.str "other")) (tCons (tC .non) tNil)))) tNil)))) (i := 5) rfl rfl sc__law_told.nd rfl rfl ⟨by rfl, by decide, .inl N.nn⟩ takes_no (fun W pn xe tk hp => by exact pss_one (ps_expr (pe_bm PySem.F.plainAttrs_list PySem.F.slot_list_append PySem.F.type_list_append mt_append (pv 3) (pa_cons (pe_tup (pa_cons (pe_str (x := "told")) (pa_cons (pe_ifExp (pt_cmpR op_eq (pv 4) (pe_int (i := 0)) (nomark _)) (pe_cT cpart_at hr (by decide) (by rfl) tk (pa_cons (pv 0) (pa_cons (pv 1) pa_nil))) (pe_cT cput_at hr (by decide) (by rfl) tk (pa_cons (pv 0) (pa_cons (pv 1) (pa_cons (pv 2) pa_nil))))) pa_nil))) pa_nil)))) (fun a oe cls d pn hz hd => by exact pss_cons (ps_set (i := 6) sc__law_told.nd rfl (Or.inl rfl) (pe_and (pe_callB (call_isS hz hd) (by rfl) T.isinstance (by decide +kernel) (pa_cons (pv 5) (pa_cons (pe_bltn (v := .ty "IndexError") rfl T.ie (by decide +kernel) rfl) pa_nil))) (pe_one (pe_not (pe_callB (call_isST hz hd) (by rfl) T.isinstance (by decide +kernel) (pa_cons (pv 5) (pa_cons (pe_tup (pa_cons (pe_glob (v := .ref Y1) rfl N.y1 rfl) (pa_cons (pe_glob (v := .ref Y2) rfl N.y2 rfl) (pa_cons (pe_glob (v := .ref Y3) rfl N.y3 rfl) (pa_cons (pe_glob (v := .ref Y4) rfl N.y4 rfl) (pa_cons (pe_glob (v := .ref Y5) rfl N.y5 rfl) pa_nil)))))) pa_nil))))))) (pss_one (ps_expr (pe_bm PySem.F.plainAttrs_list PySem.F.slot_list_append PySem.F.type_list_append mt_append (pv 3) (pa_cons (pe_ifExp (pt_val (pv 6)) (pe_tup (pa_cons (pe_str (x := "none")) (pa_cons (pe_xf (n := "path") N.xf N.pth hz hd (pv 5)) pa_nil))) (pe_tup (pa_cons (pe_str (x := "other")) (pa_cons pe_non pa_nil)))) pa_nil)))))))))
        (pss_one (ps_ret (pv 3))))), ?_⟩
    refine ⟨by show 0 ≤ sizeLine; decide, fun F nF => ?_⟩
    refine ⟨2, rfl, by decide, by decide, ?_⟩
    refine ⟨fun i m σ H3 => m = 2 - i ∧ i ≤ 2 ∧ (∃ y4 y6 es, σ = [some v, some x, some r, some (.ref F), y4, none, y6] ∧ Same H H3 ∧ H3 F = some (.lst es) ∧ es.length = i ∧ ∀ e ∈ es, Tl6 K F H3 (thereD t d) d e), ⟨2, rfl, by decide, none, none, [], rfl, same_upd nF, upd_same, rfl, (fun e he => nomatch he)⟩, ?_⟩
    rintro i m σ H3 ⟨rfl, hi2, y4, y6, es, rfl, s3, hF, hel, hes⟩
    by_cases hlt : i < 2
    · refine .inr ⟨hlt, fun σ H3 => ∃ y4 y6 es, σ = [some v, some x, some r, some (.ref F), y4, none, y6] ∧ Same H H3 ∧ H3 F = some (.lst es) ∧ es.length = i + 1 ∧ ∀ e ∈ es, Tl6 K F H3 (thereD t d) d e, fun σ' H' p => ⟨2 - (i + 1), by omega, rfl, by omega, p⟩, ?_⟩
      rintro x' H' ⟨rfl, rfl⟩
      rw [Int.zero_add]
      refine ⟨_, rfl, .inl ⟨rfl, _, SqL.of hF⟩, _, rfl, rfl, _, rfl, ?_⟩
      by_cases i0 : i = 0
      · refine ifT (decide_eq_true (congrArg V.int (by omega))) ?_
        refine ⟨_, rfl, _, rfl, v, x, t, d, n, k, rfl, dp_same s3 hv, tr, dp_same s3 hx, hs, ?_⟩
        cases hth : thereD t d with
        | true =>
          rw [hth] at hes
          refine .inl ⟨rfl, fun H4 u s4 => ?_⟩
          refine ⟨by show 2 ≤ sizeLine; decide, fun p np => ?_⟩
          have nFp : F ≠ p := ne_of_none (s4 _ _ hF) np
          refine ⟨F, es, .ref p, rfl, rfl, same_upd np _ _ (s4 _ _ hF), small1000 (by omega), ?_⟩
          refine ⟨_, _, es ++ [.ref p], rfl, Same.at_ ((s3.trans s4).trans (same_upd np)) nF, upd_same, by rw [List.length_append, hel]; rfl, fun e he => ?_⟩
          rcases List.mem_append.mp he with z | z
          · refine (hes e z).grow ?_
            intro c o nc hc
            rw [upd_ne nc]
            exact same_upd np _ _ (s4 _ _ hc)
          · rw [List.mem_singleton.mp z]
            refine ⟨p, u, rfl, nFp.symm, by rw [upd_ne nFp.symm, upd_same]; rfl, fun e => ?_⟩
            cases e
        | false =>
          rw [hth] at hes
          refine .inr ⟨rfl, fun H4 dd y s4 nd hdd hy => ?_⟩
          refine ⟨true, N.ex, fun _ a na => ?_, fun z => nomatch z⟩
          refine ⟨_, rfl, C, dd, _, _, _, true, rfl, rfl, rfl, N.xv, hdd, .ty "IndexError", N.ie, true, rfl, iteT ?_⟩
          refine ⟨_, rfl, by show 5 ≤ sizeLine; decide, fun tp nt => ?_⟩
          have h5 := same_upd (o := .tup [.ref Y1, .ref Y2, .ref Y3, .ref Y4, .ref Y5]) nt
          refine ⟨C, dd, tp, _, _, [.ref Y1, .ref Y2, .ref Y3, .ref Y4, .ref Y5], false, rfl, rfl, rfl, N.xv, h5 _ _ hdd, upd_same, .cons (.own Y1) (.cons (.own Y2) (.cons (.own Y3) (.cons (.own Y4) (.cons (.own Y5) .nil)))), N.others, _, rfl, ?_⟩
          have hF5 := h5 _ _ (s4 _ _ hF)
          refine ⟨_, rfl, .inl ⟨rfl, _, SqL.of hF5⟩, _, rfl, _, rfl, iteT ?_⟩
          refine ⟨_, rfl, rfl, rfl, dd, _, y, rfl, h5 _ _ hdd, rfl, by show 2 ≤ sizeLine; decide, fun p np => ?_⟩
          have nFp : F ≠ p := ne_of_none hF5 np
          refine ⟨F, es, .ref p, rfl, rfl, same_upd np _ _ hF5, small1000 (by omega), ?_⟩
          have s6 := (s4.trans h5).trans (same_upd (o := .tup [.str "none", y]) np)
          refine ⟨_, _, es ++ [.ref p], rfl, Same.at_ (s3.trans s6) nF, upd_same, by rw [List.length_append, hel]; rfl, fun e he => ?_⟩
          rcases List.mem_append.mp he with z | z
          · refine (hes e z).grow ?_
            intro c o nc hc
            rw [upd_ne nc]
            exact s6 _ _ hc
          · rw [List.mem_singleton.mp z]
            refine ⟨p, y, rfl, nFp.symm, by rw [upd_ne nFp.symm, upd_same]; rfl, fun _ => ⟨Nw H' H4, fun c o hc => ?_, ?_, hy⟩⟩
            · obtain ⟨c1, c2⟩ := Nw.get hc
              have ncF : c ≠ F := fun z => by
                rw [z, hF] at c1
                cases c1
              rw [upd_ne ncF]
              exact same_upd np _ _ (h5 _ _ c2)
            · unfold Nw
              rw [if_neg (by rw [hF]; exact fun z => nomatch z)]
      · refine ifF (decide_eq_false (fun z => i0 (by have := V.int.inj z; omega))) ?_
        refine ⟨_, rfl, _, rfl, _, rfl, v, x, r, t, d, n, k, rfl, dp_same s3 hv, tr, dp_same s3 hx, hs, ?_⟩
        cases hth : thereD t d with
        | true =>
          rw [hth] at hes
          refine .inl ⟨rfl, fun H4 u s4 => ?_⟩
          refine ⟨by show 2 ≤ sizeLine; decide, fun p np => ?_⟩
          have nFp : F ≠ p := ne_of_none (s4 _ _ hF) np
          refine ⟨F, es, .ref p, rfl, rfl, same_upd np _ _ (s4 _ _ hF), small1000 (by omega), ?_⟩
          refine ⟨_, _, es ++ [.ref p], rfl, Same.at_ ((s3.trans s4).trans (same_upd np)) nF, upd_same, by rw [List.length_append, hel]; rfl, fun e he => ?_⟩
          rcases List.mem_append.mp he with z | z
          · refine (hes e z).grow ?_
            intro c o nc hc
            rw [upd_ne nc]
            exact same_upd np _ _ (s4 _ _ hc)
          · rw [List.mem_singleton.mp z]
            refine ⟨p, u, rfl, nFp.symm, by rw [upd_ne nFp.symm, upd_same]; rfl, fun e => ?_⟩
            cases e
        | false =>
          rw [hth] at hes
          refine .inr ⟨rfl, fun H4 dd y s4 nd hdd hy => ?_⟩
          refine ⟨true, N.ex, fun _ a na => ?_, fun z => nomatch z⟩
          refine ⟨_, rfl, C, dd, _, _, _, true, rfl, rfl, rfl, N.xv, hdd, .ty "IndexError", N.ie, true, rfl, iteT ?_⟩
          refine ⟨_, rfl, by show 5 ≤ sizeLine; decide, fun tp nt => ?_⟩
          have h5 := same_upd (o := .tup [.ref Y1, .ref Y2, .ref Y3, .ref Y4, .ref Y5]) nt
          refine ⟨C, dd, tp, _, _, [.ref Y1, .ref Y2, .ref Y3, .ref Y4, .ref Y5], false, rfl, rfl, rfl, N.xv, h5 _ _ hdd, upd_same, .cons (.own Y1) (.cons (.own Y2) (.cons (.own Y3) (.cons (.own Y4) (.cons (.own Y5) .nil)))), N.others, _, rfl, ?_⟩
          have hF5 := h5 _ _ (s4 _ _ hF)
          refine ⟨_, rfl, .inl ⟨rfl, _, SqL.of hF5⟩, _, rfl, _, rfl, iteT ?_⟩
          refine ⟨_, rfl, rfl, rfl, dd, _, y, rfl, h5 _ _ hdd, rfl, by show 2 ≤ sizeLine; decide, fun p np => ?_⟩
          have nFp : F ≠ p := ne_of_none hF5 np
          refine ⟨F, es, .ref p, rfl, rfl, same_upd np _ _ hF5, small1000 (by omega), ?_⟩
          have s6 := (s4.trans h5).trans (same_upd (o := .tup [.str "none", y]) np)
          refine ⟨_, _, es ++ [.ref p], rfl, Same.at_ (s3.trans s6) nF, upd_same, by rw [List.length_append, hel]; rfl, fun e he => ?_⟩
          rcases List.mem_append.mp he with z | z
          · refine (hes e z).grow ?_
            intro c o nc hc
            rw [upd_ne nc]
            exact s6 _ _ hc
          · rw [List.mem_singleton.mp z]
            refine ⟨p, y, rfl, nFp.symm, by rw [upd_ne nFp.symm, upd_same]; rfl, fun _ => ⟨Nw H' H4, fun c o hc => ?_, ?_, hy⟩⟩
            · obtain ⟨c1, c2⟩ := Nw.get hc
              have ncF : c ≠ F := fun z => by
                rw [z, hF] at c1
                cases c1
              rw [upd_ne ncF]
              exact same_upd np _ _ (h5 _ _ c2)
            · unfold Nw
              rw [if_neg (by rw [hF]; exact fun z => nomatch z)]
    · refine .inl ⟨by show 2 ≤ i; omega, ?_⟩
      have hel : es.length = 2 := by omega
      match es, hel with
      | [a1, a2], _ =>
        obtain ⟨q1, z1, rfl, _, h1, h2⟩ := hes a1 (by simp)
        obtain ⟨q2, z2, rfl, _, h3, h4⟩ := hes a2 (by simp)
        refine ⟨_, rfl, q _ F q1 q2 z1 z2 s3 hF h1 h3 fun e => ?_⟩
        obtain ⟨G1, g1, _, g3⟩ := h2 e
        obtain ⟨G2, g4, _, g6⟩ := h4 e
        exact ⟨dp_same g1 g3, dp_same g4 g6⟩
end
theorem allTrue (n : Nat) : (List.replicate n true).all id = true := by
  rw [List.all_eq_true]
  intro x hx
  rw [List.eq_of_mem_replicate hx]
  rfl
abbrev s__law_same : Stmt := top 24
abbrev N__law_same : List Str := ["_law_found", "_law_due", "_law_one", "_law_other"]
abbrev P__law_same : List Str := ["_law_found", "_law_due"]
theorem sc__law_same : FnScope N__law_same P__law_same (defScope s__law_same) := ⟨rfl, rfl, rfl, by decide +kernel, rfl, by decide +kernel, by decide +kernel⟩
structure Sa (mg : Str → Option Value) : Prop where
  isinstance : mg "isinstance" = none
  list : mg "list" = none
  tuple : mg "tuple" = none
  bool : mg "bool" = none
  str : mg "str" = none
  int : mg "int" = none
  len : mg "len" = none
  zip : mg "zip" = none
  all : mg "all" = none
  range : mg "range" = none
theorem walk_zipT {K : PySem.W.Frag} {a b : Addr} {xs ys : List V} {n : Nat} (hn : n = min xs.length ys.length) : Walk (RZ.ItzT K a b) n (fun H => SqT K H a xs ∧ SqT K H b ys) (YPair (fun i => xs[i]?) (fun i => ys[i]?)) := by
  subst hn
  refine ⟨fun i _ hi q => ?_, fun _ q => ⟨xs, ys, q.1, q.2, by omega⟩, fun i H v H' _ q y => ?_⟩
  · have h1 : i < xs.length := by omega
    have h2 : i < ys.length := by omega
    exact ⟨xs, ys, xs[i], ys[i], q.1, q.2, by simp [h1], by simp [h2]⟩
  · obtain ⟨T, x, z, h1, h2, h3, h4, h5⟩ := y
    exact ⟨T, x, z, h1, h2, h3, h4 xs q.1, h5 ys q.2⟩
def spSame (K : PySem.W.Frag) (n : Nat) : Sp := fun vs H Q _ => ∃ (x y : V) (d : PyData), vs = [x, y] ∧ Dp K H x d ∧ Dp K H y d ∧ Sm n d ∧ ∀ H', Same H H' → Q (.bl true) H'
section
variable {P : Program} {w : World} {K : PySem.W.Frag} {mg : Str → Option Value} {base : Heap}
theorem same_non (T : Sa mg) (f : Addr) (cdv : Value) (A : Around) (outer : List Env) (s : Shared) (H : Hp) (Q : VK) (E : XK) (q : ∀ H', Same H H' → Q (.bl true) H') :
    ∃ t, PSs (cxOf CX0 P w K mg base N__law_same "_law_same" (defScope s__law_same) f cdv A outer s H E).nox (defBody s__law_same) t ∧ t { nx := fun _ H' => Q .non H', rt := Q } (start N__law_same [.non, .non]) H := by
  refine ⟨_, (pss_cons (ps_if (pt_val (pe_callB call_isiT (by rfl) T.isinstance (by decide +kernel) (pa_cons (pv 1) (pa_cons (pe_tup (pa_cons (pe_bltn (v := .ty "list") rfl T.list (by decide +kernel) rfl) (pa_cons (pe_bltn (v := .ty "tuple") rfl T.tuple (by decide +kernel) rfl) pa_nil))) pa_nil))))
      (pss_cons ps_never (pss_one ps_never)) pss_nil)
    (pss_cons (ps_if (PW.pt (pw_or (pt_cmpR op_isN (pv 1) pe_non (nomark _)) (pw_or1 (pt_cmpR op_isN (pv 0) pe_non (nomark _)))))
      (pss_one (ps_ret (pe_and (pe_cmpR op_isN (pv 1) pe_non (nomark _)) (pe_one (pe_cmpR op_isN (pv 0) pe_non (nomark _))))))
      pss_nil) (pss_cons ps_never (pss_one ps_never)))), ?_⟩
  refine ⟨_, rfl, by show 2 ≤ sizeLine; decide, fun tp nt => ?_⟩
  refine ⟨.non, tp, _, .type "NoneType", [.type "list", .type "tuple"], false, rfl, upd_same, .cons (.ty "list") (.cons (.ty "tuple") .nil), .base .non, kitLT (by decide +kernel) (fun _ => by decide +kernel), _, rfl, iteF ?_⟩
  refine ⟨_, rfl, rfl, _, rfl, ifT (decide_eq_true rfl) (iteT ?_)⟩
  refine ⟨_, rfl, rfl, _, rfl, ifT (decide_eq_true rfl) ?_⟩
  refine ⟨_, rfl, rfl, ?_⟩
  rw [decide_eq_true rfl]
  exact q _ (same_upd nt)
theorem same_atom (T : Sa mg) (f : Addr) (cdv : Value) (A : Around) (outer : List Env) (s : Shared) (H : Hp) (Q : VK) (E : XK) {x : V} {t : String} (ty : ∀ H', TyX K H' x (.type t)) (nx : x ≠ .non) (k1 : kitB t "list" = some false) (k2 : kitB t "tuple" = some false)
    (kk : (kitB t "bool" = some true) ∨ (kitB t "bool" = some false ∧ kitB t "str" = some true) ∨ (kitB t "bool" = some false ∧ kitB t "str" = some false ∧ kitB t "int" = some true)) (sc : scal x x = true) (q : ∀ H', Same H H' → Q (.bl true) H') :
    ∃ t, PSs (cxOf CX0 P w K mg base N__law_same "_law_same" (defScope s__law_same) f cdv A outer s H E).nox (defBody s__law_same) t ∧ t { nx := fun _ H' => Q .non H', rt := Q } (start N__law_same [x, x]) H := by
  refine ⟨_, (pss_cons (ps_if (pt_val (pe_callB call_isiT (by rfl) T.isinstance (by decide +kernel) (pa_cons (pv 1) (pa_cons (pe_tup (pa_cons (pe_bltn (v := .ty "list") rfl T.list (by decide +kernel) rfl) (pa_cons (pe_bltn (v := .ty "tuple") rfl T.tuple (by decide +kernel) rfl) pa_nil))) pa_nil))))
      (pss_cons ps_never (pss_one ps_never)) pss_nil)
    (pss_cons (ps_if (PW.pt (pw_or (pt_cmpR op_isN (pv 1) pe_non (nomark _)) (pw_or1 (pt_cmpR op_isN (pv 0) pe_non (nomark _)))))
      (pss_one ps_never) pss_nil)
    (pss_cons (ps_if (PW.pt (pw_or (pt_val (pe_callB call_isi (by rfl) T.isinstance (by decide +kernel) (pa_cons (pv 1) (pa_cons (pe_bltn (v := .ty "bool") rfl T.bool (by decide +kernel) rfl) pa_nil)))) (pw_or1 (pt_val (pe_callB call_isi (by rfl) T.isinstance (by decide +kernel) (pa_cons (pv 1) (pa_cons (pe_bltn (v := .ty "str") rfl T.str (by decide +kernel) rfl) pa_nil)))))))
      (pss_one (ps_ret (pe_and (pe_cmpR op_eq (pe_callB call_isi (by rfl) T.isinstance (by decide +kernel) (pa_cons (pv 0) (pa_cons (pe_bltn (v := .ty "bool") rfl T.bool (by decide +kernel) rfl) pa_nil))) (pe_callB call_isi (by rfl) T.isinstance (by decide +kernel) (pa_cons (pv 1) (pa_cons (pe_bltn (v := .ty "bool") rfl T.bool (by decide +kernel) rfl) pa_nil))) (nomark _)) (pe_one (pe_cmpR op_eq (pv 0) (pv 1) (nomark _))))))
      pss_nil)
    (pss_one (ps_ret (pe_and (pe_callB call_isi (by rfl) T.isinstance (by decide +kernel) (pa_cons (pv 0) (pa_cons (pe_bltn (v := .ty "int") rfl T.int (by decide +kernel) rfl) pa_nil))) (pe_and (pe_not (pe_callB call_isi (by rfl) T.isinstance (by decide +kernel) (pa_cons (pv 0) (pa_cons (pe_bltn (v := .ty "bool") rfl T.bool (by decide +kernel) rfl) pa_nil)))) (pe_one (pe_cmpR op_eq (pv 0) (pv 1) (nomark _)))))))))), ?_⟩
  refine ⟨_, rfl, by show 2 ≤ sizeLine; decide, fun tp nt => ?_⟩
  refine ⟨x, tp, _, .type t, [.type "list", .type "tuple"], false, rfl, upd_same, .cons (.ty "list") (.cons (.ty "tuple") .nil), ty _, kitLT k1 (fun _ => k2), _, rfl, iteF ?_⟩
  refine ⟨_, rfl, rfl, _, rfl, ifF (decide_eq_false nx) ?_⟩
  refine ⟨_, rfl, rfl, _, rfl, ifF (decide_eq_false nx) ?_⟩
  rcases kk with kb | ⟨kb, ks⟩ | ⟨kb, ks, ki⟩
  · refine ⟨_, rfl, x, .ty "bool", .type t, .type "bool", true, rfl, .ty "bool", ty _, kit_ty kb, _, rfl, iteT (iteT ?_)⟩
    refine ⟨_, rfl, x, .ty "bool", .type t, .type "bool", true, rfl, .ty "bool", ty _, kit_ty kb, ?_⟩
    refine ⟨_, rfl, x, .ty "bool", .type t, .type "bool", true, rfl, .ty "bool", ty _, kit_ty kb, ?_⟩
    refine ⟨rfl, _, rfl, ifT (decide_eq_true rfl) ?_⟩
    refine ⟨_, rfl, _, rfl, sc, ?_⟩
    rw [decide_eq_true rfl]
    exact q _ (same_upd nt)
  · refine ⟨_, rfl, x, .ty "bool", .type t, .type "bool", false, rfl, .ty "bool", ty _, kit_ty kb, _, rfl, iteF ?_⟩
    refine ⟨_, rfl, x, .ty "str", .type t, .type "str", true, rfl, .ty "str", ty _, kit_ty ks, _, rfl, iteT ?_⟩
    refine ⟨_, rfl, x, .ty "bool", .type t, .type "bool", false, rfl, .ty "bool", ty _, kit_ty kb, ?_⟩
    refine ⟨_, rfl, x, .ty "bool", .type t, .type "bool", false, rfl, .ty "bool", ty _, kit_ty kb, ?_⟩
    refine ⟨rfl, _, rfl, ifT (decide_eq_true rfl) ?_⟩
    refine ⟨_, rfl, _, rfl, sc, ?_⟩
    rw [decide_eq_true rfl]
    exact q _ (same_upd nt)
  · refine ⟨_, rfl, x, .ty "bool", .type t, .type "bool", false, rfl, .ty "bool", ty _, kit_ty kb, _, rfl, iteF ?_⟩
    refine ⟨_, rfl, x, .ty "str", .type t, .type "str", false, rfl, .ty "str", ty _, kit_ty ks, _, rfl, iteF ?_⟩
    refine ⟨_, rfl, x, .ty "int", .type t, .type "int", true, rfl, .ty "int", ty _, kit_ty ki, _, rfl, iteT ?_⟩
    refine ⟨_, rfl, x, .ty "bool", .type t, .type "bool", false, rfl, .ty "bool", ty _, kit_ty kb, _, rfl, _, rfl, iteT ?_⟩
    refine ⟨_, rfl, _, rfl, sc, ?_⟩
    rw [decide_eq_true rfl]
    exact q _ (same_upd nt)
theorem ok_same (T : Sa mg) (D : Dd K mg "_law_same" s__law_same P__law_same) : ∀ n, C8.Cal P w K mg base (n + 1) "_law_same" (spSame K n) [] := by
  intro n
  induction n with
  | zero =>
    refine D.cal sc__law_same (fun vs H Q E h => ?_) (fun f cdv A outer s H vs Q E hr h => ?_)
    · obtain ⟨x, y, d, rfl, _⟩ := h
      rfl
    · obtain ⟨x, y, d, rfl, hx, hy, hs, q⟩ := h
      cases hs with
      | non => cases hx; cases hy; exact same_non T f cdv A outer s H Q E q
      | bl _ b => cases hx; cases hy; exact same_atom T f cdv A outer s H Q E (fun _ => .base (.bl b)) (fun z => nomatch z) (by decide +kernel) (by decide +kernel) (.inl (by decide +kernel)) rfl q
      | int _ i => cases hx; cases hy; exact same_atom T f cdv A outer s H Q E (fun _ => .base (.int i)) (fun z => nomatch z) (by decide +kernel) (by decide +kernel) (.inr (.inr ⟨by decide +kernel, by decide +kernel, by decide +kernel⟩)) rfl q
      | str _ z => cases hx; cases hy; exact same_atom T f cdv A outer s H Q E (fun _ => .base (.str z)) (fun z => nomatch z) (by decide +kernel) (by decide +kernel) (.inr (.inl ⟨by decide +kernel, by decide +kernel⟩)) rfl q
  | succ n c_law_same =>
    refine D.cal sc__law_same (fun vs H Q E h => ?_) (fun f cdv A outer s H vs Q E hr h => ?_)
    · obtain ⟨x, y, d, rfl, _⟩ := h
      rfl
    · obtain ⟨x, y, d, rfl, hx, hy, hs, q⟩ := h
      cases hs with
      | non => cases hx; cases hy; exact same_non T f cdv A outer s H Q E q
      | bl _ b => cases hx; cases hy; exact same_atom T f cdv A outer s H Q E (fun _ => .base (.bl b)) (fun z => nomatch z) (by decide +kernel) (by decide +kernel) (.inl (by decide +kernel)) rfl q
      | int _ i => cases hx; cases hy; exact same_atom T f cdv A outer s H Q E (fun _ => .base (.int i)) (fun z => nomatch z) (by decide +kernel) (by decide +kernel) (.inr (.inr ⟨by decide +kernel, by decide +kernel, by decide +kernel⟩)) rfl q
      | str _ z => cases hx; cases hy; exact same_atom T f cdv A outer s H Q E (fun _ => .base (.str z)) (fun z => nomatch z) (by decide +kernel) (by decide +kernel) (.inr (.inl ⟨by decide +kernel, by decide +kernel⟩)) rfl q
      | lst _ hlen hall =>
        rename_i ds
        cases hx with
        | lst hS hd =>
          rename_i a xs
          cases hy with
          | lst hS2 hd2 =>
            rename_i b ys
            refine ⟨_, (pss_cons (ps_if (pt_val (pe_callB call_isiT (by rfl) T.isinstance (by decide +kernel) (pa_cons (pv 1) (pa_cons (pe_tup (pa_cons (pe_bltn (v := .ty "list") rfl T.list (by decide +kernel) rfl) (pa_cons (pe_bltn (v := .ty "tuple") rfl T.tuple (by decide +kernel) rfl) pa_nil))) pa_nil))))
      (pss_cons (ps_if (PW.pt (pw_or (pt_cmpR op_ne (pe_callB call_isi (by rfl) T.isinstance (by decide +kernel) (pa_cons (pv 0) (pa_cons (pe_bltn (v := .ty "list") rfl T.list (by decide +kernel) rfl) pa_nil))) (pe_callB call_isi (by rfl) T.isinstance (by decide +kernel) (pa_cons (pv 1) (pa_cons (pe_bltn (v := .ty "list") rfl T.list (by decide +kernel) rfl) pa_nil))) (nomark _)) (pw_or1 (pt_cmpR op_ne (pe_callB call_isi (by rfl) T.isinstance (by decide +kernel) (pa_cons (pv 0) (pa_cons (pe_bltn (v := .ty "tuple") rfl T.tuple (by decide +kernel) rfl) pa_nil))) (pe_callB call_isi (by rfl) T.isinstance (by decide +kernel) (pa_cons (pv 1) (pa_cons (pe_bltn (v := .ty "tuple") rfl T.tuple (by decide +kernel) rfl) pa_nil))) (nomark _)))))
      (pss_one ps_never)
      pss_nil)
    (pss_one (ps_ret (pe_and (pe_cmpR op_eq (pe_callB call_len_seq (by rfl) T.len PySem.boot_len (pa_cons (pv 0) pa_nil)) (pe_callB call_len_seq (by rfl) T.len PySem.boot_len (pa_cons (pv 1) pa_nil)) (nomark _)) (pe_one (pe_callB (cr_all rfl) (by rfl) T.all (by decide +kernel) (pa_cons (pe_lc (g := gTup K 2 (gCons (gName 2) (gCons (gName 3) gNil))) (own := [("_law_one", 2), ("_law_other", 3)]) (by exact rfl) sc__law_same.nd (RZ.pi_zipA (by rfl) T.zip (pa_cons (pv 0) (pa_cons (pv 1) pa_nil))) (blkOk_by (own := [("_law_one", 2), ("_law_other", 3)]) (N := N__law_same) (sc := defScope s__law_same) (by decide +kernel)) (fun _ _ _ _ _ => (pg_tup (n := 2) rfl (pgs_cons (pg_name (i := 2) sc__law_same.nd rfl (Or.inl rfl) (Or.inr rfl)) (pgs_cons (pg_name (i := 3) sc__law_same.nd rfl (Or.inl rfl) (Or.inr rfl)) pgs_nil)))) (fun _ _ _ _ _ => pts_nil) (fun _ _ _ _ _ => (C8.pe_c c_law_same hr (by omega) (by rfl) (pa_cons (pv 2) (pa_cons (pv 3) pa_nil))))) pa_nil)))))))
      pss_nil)
    (pss_cons ps_never (pss_cons ps_never (pss_one ps_never)))), ?_⟩
            have lx := dpAll_len hd
            have ly := dpAll_len hd2
            refine ⟨_, rfl, by show 2 ≤ sizeLine; decide, fun tp nt => ?_⟩
            have s1 := same_upd (o := .tup [.ty "list", .ty "tuple"]) nt
            have h1 := Same.seqL s1 hS
            have h2 := Same.seqL s1 hS2
            refine ⟨.ref b, tp, _, .type "list", [.type "list", .type "tuple"], true, rfl, upd_same, .cons (.ty "list") (.cons (.ty "tuple") .nil), tyL h2, kitLT (by decide +kernel) (fun e => nomatch e), _, rfl, iteT ?_⟩
            refine ⟨_, rfl, .ref a, .ty "list", .type "list", .type "list", true, rfl, .ty "list", tyL h1, kit_ty (by decide +kernel), ?_⟩
            refine ⟨_, rfl, .ref b, .ty "list", .type "list", .type "list", true, rfl, .ty "list", tyL h2, kit_ty (by decide +kernel), rfl, _, rfl, iteF ?_⟩
            refine ⟨_, rfl, .ref a, .ty "tuple", .type "list", .type "tuple", false, rfl, .ty "tuple", tyL h1, kit_ty (by decide +kernel), ?_⟩
            refine ⟨_, rfl, .ref b, .ty "tuple", .type "list", .type "tuple", false, rfl, .ty "tuple", tyL h2, kit_ty (by decide +kernel), rfl, _, rfl, iteF ?_⟩
            refine ⟨_, rfl, a, xs, rfl, .inl h1, ?_⟩
            refine ⟨_, rfl, b, ys, rfl, .inl h2, rfl, _, rfl, ifT (by rw [lx, ly]; exact decide_eq_true rfl) ?_⟩
            refine ⟨_, rfl, _, rfl, a, b, xs, ys, rfl, .inl ⟨h1, h2, fun D nD => ?_⟩⟩
            refine lc_it (walk_zip (K := K) (a := a) (b := b) (xs := xs) (ys := ys) rfl) (fun j H' => Same H H' ∧ H' D = some (.lst ((List.replicate j true).map V.bl)))
              ⟨Same.trans s1 (same_upd nD), upd_same⟩ (fun j H' _ h => ⟨Same.seqL h.1 hS, Same.seqL h.1 hS2⟩) ?_ ?_
            · rintro j v H3 H4 hj ⟨sm, hD⟩ ⟨U, x, y, rfl, nU, rfl, ex, ey⟩
              obtain ⟨d1, e1, g1⟩ := dpAll_at hd ex
              obtain ⟨d2, e2, g2⟩ := dpAll_at hd2 ey
              rw [e1] at e2
              cases e2
              have sU : Same H3 (upd H3 U (.tup [x, y])) := same_upd nU
              have s5 := sm.trans sU
              refine ⟨U, _, rfl, SqT.of upd_same, rfl, _, _, rfl, _, _, rfl, rfl, ?_⟩
              refine ⟨rfl, yesT ?_⟩
              refine ⟨_, rfl, _, rfl, x, y, d1, rfl, dp_same s5 g1, dp_same s5 g2, hall d1 (List.mem_of_getElem? e1), fun H6 s6 => ?_⟩
              refine ⟨_, s6 _ _ (sU _ _ hD), by rw [List.length_map, List.length_replicate]; exact small1000 (by omega), Same.at_ (s5.trans s6) (s1.free nD), ?_⟩
              rw [upd_same, List.replicate_succ', List.map_append]
              rfl
            · rintro H6 ⟨s6, hD⟩
              refine ⟨D, _, rfl, SqL.of hD, ?_⟩
              rw [allTrue]
              exact q H6 s6
      | tup _ hlen hall =>
        rename_i ds
        cases hx with
        | tup hS hd =>
          rename_i a xs
          cases hy with
          | tup hS2 hd2 =>
            rename_i b ys
            refine ⟨_, (pss_cons (ps_if (pt_val (pe_callB call_isiT (by rfl) T.isinstance (by decide +kernel) (pa_cons (pv 1) (pa_cons (pe_tup (pa_cons (pe_bltn (v := .ty "list") rfl T.list (by decide +kernel) rfl) (pa_cons (pe_bltn (v := .ty "tuple") rfl T.tuple (by decide +kernel) rfl) pa_nil))) pa_nil))))
      (pss_cons (ps_if (PW.pt (pw_or (pt_cmpR op_ne (pe_callB call_isi (by rfl) T.isinstance (by decide +kernel) (pa_cons (pv 0) (pa_cons (pe_bltn (v := .ty "list") rfl T.list (by decide +kernel) rfl) pa_nil))) (pe_callB call_isi (by rfl) T.isinstance (by decide +kernel) (pa_cons (pv 1) (pa_cons (pe_bltn (v := .ty "list") rfl T.list (by decide +kernel) rfl) pa_nil))) (nomark _)) (pw_or1 (pt_cmpR op_ne (pe_callB call_isi (by rfl) T.isinstance (by decide +kernel) (pa_cons (pv 0) (pa_cons (pe_bltn (v := .ty "tuple") rfl T.tuple (by decide +kernel) rfl) pa_nil))) (pe_callB call_isi (by rfl) T.isinstance (by decide +kernel) (pa_cons (pv 1) (pa_cons (pe_bltn (v := .ty "tuple") rfl T.tuple (by decide +kernel) rfl) pa_nil))) (nomark _)))))
      (pss_one ps_never)
      pss_nil)
    (pss_one (ps_ret (pe_and (pe_cmpR op_eq (pe_callB call_len_seq (by rfl) T.len PySem.boot_len (pa_cons (pv 0) pa_nil)) (pe_callB call_len_seq (by rfl) T.len PySem.boot_len (pa_cons (pv 1) pa_nil)) (nomark _)) (pe_one (pe_callB (cr_all rfl) (by rfl) T.all (by decide +kernel) (pa_cons (pe_lc (g := gTup K 2 (gCons (gName 2) (gCons (gName 3) gNil))) (own := [("_law_one", 2), ("_law_other", 3)]) (by exact rfl) sc__law_same.nd (RZ.pi_zipA (by rfl) T.zip (pa_cons (pv 0) (pa_cons (pv 1) pa_nil))) (blkOk_by (own := [("_law_one", 2), ("_law_other", 3)]) (N := N__law_same) (sc := defScope s__law_same) (by decide +kernel)) (fun _ _ _ _ _ => (pg_tup (n := 2) rfl (pgs_cons (pg_name (i := 2) sc__law_same.nd rfl (Or.inl rfl) (Or.inr rfl)) (pgs_cons (pg_name (i := 3) sc__law_same.nd rfl (Or.inl rfl) (Or.inr rfl)) pgs_nil)))) (fun _ _ _ _ _ => pts_nil) (fun _ _ _ _ _ => (C8.pe_c c_law_same hr (by omega) (by rfl) (pa_cons (pv 2) (pa_cons (pv 3) pa_nil))))) pa_nil)))))))
      pss_nil)
    (pss_cons ps_never (pss_cons ps_never (pss_one ps_never)))), ?_⟩
            have lx := dpAll_len hd
            have ly := dpAll_len hd2
            refine ⟨_, rfl, by show 2 ≤ sizeLine; decide, fun tp nt => ?_⟩
            have s1 := same_upd (o := .tup [.ty "list", .ty "tuple"]) nt
            have h1 := Same.seqT s1 hS
            have h2 := Same.seqT s1 hS2
            refine ⟨.ref b, tp, _, .type "tuple", [.type "list", .type "tuple"], true, rfl, upd_same, .cons (.ty "list") (.cons (.ty "tuple") .nil), tyT h2, kitLT2, _, rfl, iteT ?_⟩
            refine ⟨_, rfl, .ref a, .ty "list", .type "tuple", .type "list", false, rfl, .ty "list", tyT h1, kit_ty (by decide +kernel), ?_⟩
            refine ⟨_, rfl, .ref b, .ty "list", .type "tuple", .type "list", false, rfl, .ty "list", tyT h2, kit_ty (by decide +kernel), rfl, _, rfl, iteF ?_⟩
            refine ⟨_, rfl, .ref a, .ty "tuple", .type "tuple", .type "tuple", true, rfl, .ty "tuple", tyT h1, kit_ty (by decide +kernel), ?_⟩
            refine ⟨_, rfl, .ref b, .ty "tuple", .type "tuple", .type "tuple", true, rfl, .ty "tuple", tyT h2, kit_ty (by decide +kernel), rfl, _, rfl, iteF ?_⟩
            refine ⟨_, rfl, a, xs, rfl, .inr h1, ?_⟩
            refine ⟨_, rfl, b, ys, rfl, .inr h2, rfl, _, rfl, ifT (by rw [lx, ly]; exact decide_eq_true rfl) ?_⟩
            refine ⟨_, rfl, _, rfl, a, b, xs, ys, rfl, .inr ⟨h1, h2, fun D nD => ?_⟩⟩
            refine lc_it (walk_zipT (K := K) (a := a) (b := b) (xs := xs) (ys := ys) rfl) (fun j H' => Same H H' ∧ H' D = some (.lst ((List.replicate j true).map V.bl)))
              ⟨Same.trans s1 (same_upd nD), upd_same⟩ (fun j H' _ h => ⟨Same.seqT h.1 hS, Same.seqT h.1 hS2⟩) ?_ ?_
            · rintro j v H3 H4 hj ⟨sm, hD⟩ ⟨U, x, y, rfl, nU, rfl, ex, ey⟩
              obtain ⟨d1, e1, g1⟩ := dpAll_at hd ex
              obtain ⟨d2, e2, g2⟩ := dpAll_at hd2 ey
              rw [e1] at e2
              cases e2
              have sU : Same H3 (upd H3 U (.tup [x, y])) := same_upd nU
              have s5 := sm.trans sU
              refine ⟨U, _, rfl, SqT.of upd_same, rfl, _, _, rfl, _, _, rfl, rfl, ?_⟩
              refine ⟨rfl, yesT ?_⟩
              refine ⟨_, rfl, _, rfl, x, y, d1, rfl, dp_same s5 g1, dp_same s5 g2, hall d1 (List.mem_of_getElem? e1), fun H6 s6 => ?_⟩
              refine ⟨_, s6 _ _ (sU _ _ hD), by rw [List.length_map, List.length_replicate]; exact small1000 (by omega), Same.at_ (s5.trans s6) (s1.free nD), ?_⟩
              rw [upd_same, List.replicate_succ', List.map_append]
              rfl
            · rintro H6 ⟨s6, hD⟩
              refine ⟨D, _, rfl, SqL.of hD, ?_⟩
              rw [allTrue]
              exact q H6 s6
end
/-! ### paths that are, and that are not -/
abbrev s__law_paths : Stmt := top 28
abbrev N__law_paths : List Str := ["_law_box", "_law_tree", "_law_odd", "_law_found", "_law_path", "_law_at"]
abbrev P__law_paths : List Str := ["_law_box", "_law_tree", "_law_odd"]
theorem sc__law_paths : FnScope N__law_paths P__law_paths (defScope s__law_paths) := ⟨rfl, rfl, rfl, by decide +kernel, rfl, by decide +kernel, by decide +kernel⟩
/-- data so deep at most -/
def Gv (K : PySem.W.Frag) (n : Nat) (G : Hp) (x : V) : Prop := ∃ d, Dp K G x d ∧ Sm n d
section
variable {K : PySem.W.Frag} {n : Nat} {G G' : Hp}
theorem Gv.same {x : V} (h : Gv K n G x) (s : Same G G') : Gv K n G' x := by
  obtain ⟨d, h1, h2⟩ := h
  exact ⟨d, dp_same s h1, h2⟩
theorem Gv.int {i : Int} : Gv K n G (.int i) := ⟨_, .int i, .int n i⟩
theorem gv_all : ∀ {xs : List V}, (∀ x ∈ xs, Gv K n G x) → ∃ ds, DpAll K G xs ds ∧ ∀ d ∈ ds, Sm n d
  | [], _ => ⟨[], .nil, fun d h => nomatch h⟩
  | x :: xs, h => by
    obtain ⟨d, h1, h2⟩ := h x (List.mem_cons_self ..)
    obtain ⟨ds, h3, h4⟩ := gv_all (xs := xs) fun y hy => h y (List.mem_cons_of_mem _ hy)
    refine ⟨d :: ds, .cons h1 h3, fun e he => ?_⟩
    rcases List.mem_cons.mp he with rfl | he
    · exact h2
    · exact h4 e he
theorem Gv.tup {p : Addr} {xs : List V} (hS : SqT K G p xs) (hl : xs.length ≤ 500) (h : ∀ x ∈ xs, Gv K n G x) : Gv K (n + 1) G (.ref p) := by
  obtain ⟨ds, h1, h2⟩ := gv_all h
  exact ⟨_, .tup hS h1, .tup n (by rw [← dpAll_len h1]; exact hl) h2⟩
theorem Gv.lst {p : Addr} {xs : List V} (hS : SqL K G p xs) (hl : xs.length ≤ 500) (h : ∀ x ∈ xs, Gv K n G x) : Gv K (n + 1) G (.ref p) := by
  obtain ⟨ds, h1, h2⟩ := gv_all h
  exact ⟨_, .lst hS h1, .lst n (by rw [← dpAll_len h1]; exact hl) h2⟩
theorem gv_ints {is : List Int} : ∀ x ∈ is.map V.int, Gv K n G x := fun x hx => by
  obtain ⟨i, _, rfl⟩ := List.mem_map.mp hx
  exact .int
theorem gv_app {xs ys : List V} (h1 : ∀ x ∈ xs, Gv K n G x) (h2 : ∀ x ∈ ys, Gv K n G x) : ∀ x ∈ xs ++ ys, Gv K n G x := fun x hx => by
  rcases List.mem_append.mp hx with h | h
  · exact h1 x h
  · exact h2 x h
theorem gv_one {x : V} (h : Gv K n G x) : ∀ y ∈ [x], Gv K n G y := fun y hy => by
  rw [List.mem_singleton.mp hy]
  exact h
end
section
variable {K : PySem.W.Frag} {H H' : Hp} {a b p : Addr} {xs ys zs : List V}
theorem Off2.but (h : But a H H') : Same (Off2 a b H) (Off2 a b H') := fun c x e => by
  obtain ⟨n1, n2, h1⟩ := Off2.get e
  exact Off2.mk n1 n2 (h c x n1 h1)
theorem Off2.move {F : Addr} (h : But a H H') (n : H F = none) : Same (Off2 a b H) (Off2 a F H') := fun c x e => by
  obtain ⟨n1, n2, h1⟩ := Off2.get e
  exact Off2.mk n1 (ne_of_none h1 n) (h c x n1 h1)
theorem Off2.seqT (ha : H a = some (.lst ys)) (hb : H b = some (.lst zs)) (h : SqT K H p xs) : SqT K (Off2 a b H) p xs := by
  rcases h with (h | ⟨o, h⟩) | h
  · refine .inl (.inl (Off2.mk (fun z => ?_) (fun z => ?_) h))
    · rw [z, ha] at h
      cases h
    · rw [z, hb] at h
      cases h
  · refine .inl (.inr ⟨o, Off2.mk (fun z => ?_) (fun z => ?_) h⟩)
    · rw [z, ha] at h
      cases h
    · rw [z, hb] at h
      cases h
  · exact .inr h
theorem Off2.tup (ha : H a = some (.lst ys)) (hb : H b = some (.lst zs)) (h : H p = some (.tup xs)) : SqT K (Off2 a b H) p xs := Off2.seqT ha hb (SqT.of h)
end
theorem path_at {K : PySem.W.Frag} {G : Hp} {v : V} {p : List Int} (h : Dp K G v (pathD p)) : ∃ pa, v = .ref pa ∧ SqT K G pa (p.map V.int) := by
  cases h with
  | tup h1 h2 =>
    refine ⟨_, rfl, ?_⟩
    have : ∀ {xs : List V} {is : List Int}, DpAll K G xs (is.map PyData.int) → xs = is.map V.int := fun {xs is} => by
      induction is generalizing xs with
      | nil => intro h; cases h; rfl
      | cons i is ih =>
        intro h
        cases h with
        | cons a b =>
          rw [dp_int a, ih b]
          rfl
    rw [← this h2]
    exact h1
def spPaths (K : PySem.W.Frag) : Sp := fun vs H Q _ => ∃ (a o : Addr) (v : V) (t : PyData) (n k m : Nat) (b xs : List V), vs = [.ref a, v, .ref o] ∧ H a = some (.lst b) ∧ BoxL m b ∧ m + 1000 < 900000 ∧ Dp K (Off2 a a H) v t ∧ Tr n k t ∧ k ≤ 100 ∧ n ≤ 100 ∧
  SqL K H o xs ∧ o ≠ a ∧ 0 < xs.length ∧ xs.length ≤ 1000 ∧ (∀ x ∈ xs, Gv K 5 (Off2 a a H) x) ∧
  ∀ (H' : Hp) (l : Addr) (ws b' : List V), But a H H' → H l = none → H' l = some (.lst ws) → ws.length ≤ 100 → (∀ x ∈ ws, Gv K 6 (Off2 a l H') x) → H' a = some (.lst b') → BoxL (m + 1000) b' → Q (.ref l) H'
section
variable {P : Program} {w : World} {K : PySem.W.Frag} {mg : Str → Option Value} {base : Heap}
theorem ok_paths (T : Bt mg) (c_law_take : C8.Cal P w K mg base 1 "_law_take" spTake []) (c_law_one_of : C8.Cal P w K mg base 2 "_law_one_of" (spOneOf K) []) (c_law_strewn : C8.Cal P w K mg base 2 "_law_strewn" (spStrewn K) []) (cnodes_of : C8.Cal P w K mg base 2 "nodes_of" (spNodes K) [])
    (D : Dd K mg "_law_paths" s__law_paths P__law_paths) : C8.Cal P w K mg base 3 "_law_paths" (spPaths K) [] := by
  refine D.cal sc__law_paths (fun vs H Q E h => ?_) (fun f cdv A outer s H vs Q E hr h => ?_)
  · obtain ⟨a, o, v, t, n, k, m, b, xs, rfl, _⟩ := h
    rfl
  · obtain ⟨a, o, v, t, n, k, m, b, xs, rfl, ha, hB, hm, hv, tr, hk, hn, hO, noa, x0, x1, hxs, q⟩ := h
    refine ⟨_, (pss_cons (ps_set (i := 3) sc__law_paths.nd rfl (Or.inl rfl) (pe_lst pa_nil))
        (pss_cons (ps_for PassesOwn.never rfl (pi_list (pe_slice sl_list (C8.pe_c c_law_strewn hr (by decide) (by rfl) (pa_cons (pv 0) (pa_cons (C8.pe_c cnodes_of hr (by decide) (by rfl) (pa_cons (pv 1) pa_nil)) pa_nil))) po_none (po_some pe_int))) (pg_name (i := 4) sc__law_paths.nd rfl (Or.inl rfl))
          (pss_cons (ps_set (i := 5) sc__law_paths.nd rfl (Or.inl rfl) (C8.pe_c c_law_take hr (by decide) (by rfl) (pa_cons (pv 0) (pa_cons (pe_op op_add (pe_callB call_len_seq (by rfl) T.len PySem.boot_len (pa_cons (pv 4) pa_nil)) pe_int) pa_nil))))
        (pss_cons (ps_set (i := 3) sc__law_paths.nd rfl (Or.inl rfl) (pe_op op_cat (pv 3) (pe_lst (pa_cons (pv 4) (pa_cons (pe_callTy call_list_of (by rfl) T.list (by decide +kernel) (pa_cons (pv 4) pa_nil)) (pa_cons (pe_op op_catAny (pv 4) (pe_tup (pa_cons (C8.pe_c c_law_one_of hr (by decide) (by rfl) (pa_cons (pv 0) (pa_cons (pv 2) pa_nil))) pa_nil))) (pa_cons (pe_op op_catAny (pv 4) (pe_tup (pa_cons pe_int pa_nil))) (pa_cons (pe_op op_catAny (pv 4) (pe_tup (pa_cons pe_int pa_nil))) pa_nil))))))))
        (pss_cons (ps_expr (pe_bm PySem.F.plainAttrs_list PySem.F.slot_list_append PySem.F.type_list_append mt_append (pv 3) (pa_cons (pe_op op_catAny (pe_op op_catAny (pe_slice sl_any (pv 4) po_none (po_some (pv 5))) (pe_tup (pa_cons (C8.pe_c c_law_one_of hr (by decide) (by rfl) (pa_cons (pv 0) (pa_cons (pv 2) pa_nil))) pa_nil))) (pe_slice sl_any (pv 4) (po_some (pe_op op_add (pv 5) pe_int)) po_none)) pa_nil)))
        (pss_one (ps_expr (pe_bm PySem.F.plainAttrs_list PySem.F.slot_list_append PySem.F.type_list_append mt_append (pv 3) (pa_cons (pe_op op_catAny (pe_op op_catAny (pe_slice sl_any (pv 4) po_none (po_some (pv 5))) (pe_slice sl_any (pv 4) (po_some (pv 5)) (po_some (pe_op op_add (pv 5) pe_int)))) (pe_slice sl_any (pv 4) (po_some (pv 5)) po_none)) pa_nil))))))))
        (pss_one (ps_ret (pv 3))))), ?_⟩
    refine ⟨by show 0 ≤ sizeLine; decide, fun F0 nF0 => ?_⟩
    have nF0a : a ≠ F0 := ne_of_none ha nF0
    have s1 := same_upd (o := .lst []) nF0
    have ha1 := s1 _ _ ha
    have hF1 : (upd H F0 (.lst [])) F0 = some (.lst []) := upd_same
    obtain ⟨H1, e1⟩ : ∃ H1, H1 = upd H F0 (.lst []) := ⟨_, rfl⟩
    rw [← e1] at s1 ha1 hF1 ⊢
    refine ⟨_, rfl, _, rfl, v, t, n, k, rfl, dp_same (Off2.sub.trans s1) hv, tr, by omega, by omega, fun H2 l2 ws s2 nl2 hl2 hdp => ?_⟩
    have ha2 := s2 _ _ ha1
    have hF2 := s2 _ _ hF1
    have nl2a : l2 ≠ a := fun z => by
      rw [z, ha1] at nl2
      cases nl2
    have hwl := dpAll_len hdp
    rw [List.length_map] at hwl
    have hwk := walkW_len k [([], t)]
    refine ⟨a, l2, m, b, ws, rfl, ha2, hB, by omega, SqL.of hl2, nl2a, by omega, fun H3 L ys b3 bt3 nL hL hperm ha3 hB3 => ?_⟩
    have btL : But a H H3 := (But.of (s1.trans s2)).trans bt3
    have nLH : H L = none := s1.free (s2.free nL)
    have hF3 := bt3 _ _ nF0a.symm hF2
    -- each one a path
    have hys : ∀ y ∈ ys, ∃ p : List Int, p.length ≤ 100 ∧ Dp K (Nw H1 H2) y (pathD p) := fun y hy => by
      obtain ⟨i, hi⟩ := List.getElem?_of_mem (hperm.mem_iff.mp hy)
      obtain ⟨d, hd, hdd⟩ := dpAll_at hdp hi
      rw [List.getElem?_map] at hd
      cases e : (walkW k [([], t)])[i]? with
      | none => rw [e] at hd; cases hd
      | some p =>
        rw [e] at hd
        cases hd
        refine ⟨p, ?_, hdd⟩
        have st : Stk n (k + 0) [([], t)] := .cons tr (by show 0 + n ≤ n; omega) .nil
        have := walk_short k _ st p (List.mem_of_getElem? e)
        omega
    refine ⟨6, rfl, L, ys, rfl, SqL.of hL, fun c nc => ?_⟩
    have hcut : ∀ y ∈ cutV ys none (some 6), y ∈ ys := fun y hy => by
      unfold cutV at hy
      exact List.mem_of_mem_drop (List.mem_of_mem_take hy)
    have lcut : (cutV ys none (some 6)).length ≤ 6 := by
      unfold cutV
      rw [HT.sIx_none, show HT.sIx ys.length ys.length (some (6 : Int)) = min 6 ys.length from HT.sIx_nat _ _ 6, List.length_take]
      omega
    obtain ⟨cs, ecs⟩ : ∃ cs, cs = cutV ys none (some 6) := ⟨_, rfl⟩
    rw [← ecs] at hcut lcut ⊢
    have s4 := same_upd (o := .lst cs) nc
    have hc4 : (upd H3 c (.lst cs)) c = some (.lst cs) := upd_same
    have ha4 := s4 _ _ ha3
    have hF4 := s4 _ _ hF3
    have nFc0 : F0 ≠ c := ne_of_none hF3 nc
    have bt4 : But a H (upd H3 c (.lst cs)) := btL.trans (But.of s4)
    have b24 : But a H2 (upd H3 c (.lst cs)) := bt3.trans (But.of s4)
    obtain ⟨H4, e4⟩ : ∃ H4, H4 = upd H3 c (.lst cs) := ⟨_, rfl⟩
    rw [← e4] at hc4 ha4 hF4 bt4 b24 ⊢
    refine ⟨c, rfl, ⟨_, SqL.of hc4⟩, for_list (K := K) (a := c) (xs := cs) (fun i σ X => ∃ F ws y4 y5 b', σ = [some (.ref a), some v, some (.ref o), some (.ref F), y4, y5] ∧ But a H X ∧ H F = none ∧ X F = some (.lst ws) ∧ ws.length = 7 * i ∧ (∀ x ∈ ws, Gv K 6 (Off2 a F X) x) ∧ X a = some (.lst b') ∧ BoxL (m + 100 + 3 * i) b' ∧ X c = some (.lst cs) ∧ F ≠ c ∧ (∀ y ∈ cs, ∃ p : List Int, p.length ≤ 100 ∧ Dp K (Off2 a F X) y (pathD p)))
      ⟨F0, [], none, none, b3, rfl, bt4, nF0, hF4, rfl, (fun x hx => nomatch hx), ha4, hB3.mono (by omega), hc4, nFc0, fun y hy => ?_⟩ (fun i σ X _ ⟨_, _, _, _, _, _, _, _, _, _, _, _, _, h, _⟩ => SqL.of h) ?_ ?_⟩
    · obtain ⟨p, hp, hpd⟩ := hys y (hcut y hy)
      refine ⟨p, hp, dp_same (fun d x e => ?_) hpd⟩
      obtain ⟨z1, z2⟩ := Nw.get e
      have nda : d ≠ a := fun z => by
        rw [z, ha1] at z1
        cases z1
      have ndF : d ≠ F0 := fun z => by
        rw [z, hF1] at z1
        cases z1
      exact Off2.mk nda ndF (b24 _ _ nda z2)
    · rintro i y σ X hy ⟨F, ws, y4, y5, b4, rfl, bt, nFH, hF, hwl, hws, hb, hBx, hc, nFc, hps⟩
      have hi6 : i < cs.length := (List.getElem?_eq_some_iff.mp hy).1
      obtain ⟨p, hp, hpd⟩ := hps y (List.mem_of_getElem? hy)
      obtain ⟨pa, rfl, hPS⟩ := path_at hpd
      have nFa : F ≠ a := fun z => by
        rw [z, ha] at nFH
        cases nFH
      have nca : c ≠ a := fun z => by
        rw [z] at hc4
        rw [z, ha3] at nc
        cases nc
      have lpx : (p.map V.int).length ≤ 100 := by
        rw [List.length_map]
        exact hp
      refine ⟨_, rfl, _, rfl, pa, _, rfl, .inr (Same.seqT Off2.sub hPS), _, _, rfl, rfl, a, _, _, b4, rfl, hb, hBx, by omega, by omega, by omega, fun r b5 r0 r1 hB5 => ?_⟩
      have ha1 : (upd X a (.lst b5)) a = some (.lst b5) := upd_same
      have hF1 : (upd X a (.lst b5)) F = some (.lst ws) := by
        rw [upd_ne nFa]
        exact hF
      have bX1 : But a X (upd X a (.lst b5)) := But.upd (But.refl a X)
      obtain ⟨X1, eX1⟩ : ∃ X1, X1 = upd X a (.lst b5) := ⟨_, rfl⟩
      rw [← eX1] at ha1 hF1 bX1 ⊢
      -- the path stands wherever all but the box stands
      have pth : ∀ {Y : Hp}, But a X Y → SqT K Y pa (p.map V.int) := fun {Y} z => Same.seqT ((Off2.but (b := F) z).trans Off2.sub) hPS
      have odd : ∀ {Y : Hp}, But a X Y → SqL K Y o xs := fun {Y} z => But.seq (bt.trans z) noa hO
      refine ⟨_, rfl, _, rfl, _, rfl, pa, _, rfl, .inr (pth bX1), fun l1 nl1 => ?_⟩
      have g2 := same_upd (o := .lst (p.map V.int)) nl1
      have hl1 : (upd X1 l1 (.lst (p.map V.int))) l1 = some (.lst (p.map V.int)) := upd_same
      have nl1a : l1 ≠ a := fun z => by
        rw [z, ha1] at nl1
        cases nl1
      have bX2 := bX1.trans (But.of (a := a) g2)
      have ha2 := g2 _ _ ha1
      obtain ⟨X2, eX2⟩ : ∃ X2, X2 = upd X1 l1 (.lst (p.map V.int)) := ⟨_, rfl⟩
      rw [← eX2] at g2 hl1 bX2 ha2 ⊢
      refine ⟨_, rfl, _, rfl, _, rfl, a, o, _, b5, xs, rfl, ha2, hB5, by omega, odd bX2, noa, x0, x1, fun j x b6 hx hB6 => ?_⟩
      have gx := hxs x (List.mem_of_getElem? hx)
      have ha3 : (upd X2 a (.lst b6)) a = some (.lst b6) := upd_same
      have b23 : But a X2 (upd X2 a (.lst b6)) := But.upd (But.refl a X2)
      obtain ⟨X3, eX3⟩ : ∃ X3, X3 = upd X2 a (.lst b6) := ⟨_, rfl⟩
      rw [← eX3] at ha3 b23 ⊢
      refine ⟨by show 1 ≤ sizeLine; decide, fun t1 nt1 => ?_⟩
      have g4 := same_upd (o := .tup [x]) nt1
      refine ⟨pa, t1, _, _, rfl, rfl, pth (bX2.trans (b23.trans (But.of g4))), SqT.of upd_same, Nat.le_trans (show _ ≤ 200 from by
        show (p.map V.int).length + 1 ≤ 200
        omega) (by decide), fun X5 p5 s5 hp5 => ?_⟩
      have g35 := g4.trans s5
      refine ⟨_, rfl, by show 1 ≤ sizeLine; decide, fun t2 nt2 => ?_⟩
      have g6 := same_upd (o := .tup [.int 1]) nt2
      refine ⟨pa, t2, _, _, rfl, rfl, pth (bX2.trans (b23.trans (But.of (g35.trans g6)))), SqT.of upd_same, Nat.le_trans (show _ ≤ 200 from by
        show (p.map V.int).length + 1 ≤ 200
        omega) (by decide), fun X7 p7 s7 hp7 => ?_⟩
      have g57 := g6.trans s7
      refine ⟨_, rfl, by show 1 ≤ sizeLine; decide, fun t3 nt3 => ?_⟩
      have g8 := same_upd (o := .tup [.int 2]) nt3
      refine ⟨pa, t3, _, _, rfl, rfl, pth (bX2.trans (b23.trans (But.of ((g35.trans g57).trans g8)))), SqT.of upd_same, Nat.le_trans (show _ ≤ 200 from by
        show (p.map V.int).length + 1 ≤ 200
        omega) (by decide), fun X9 p9 s9 hp9 => ?_⟩
      have g79 := g8.trans s9
      refine ⟨by show 5 ≤ sizeLine; decide, fun l5 nl5 => ?_⟩
      have gA := same_upd (o := .lst [.ref pa, .ref l1, .ref p5, .ref p7, .ref p9]) nl5
      have s3A := ((g35.trans g57).trans g79).trans gA
      have bXA := bX2.trans (b23.trans (But.of (a := a) s3A))
      have hFA : (upd X9 l5 (.lst [.ref pa, .ref l1, .ref p5, .ref p7, .ref p9])) F = some (.lst ws) := bXA _ _ nFa hF
      have haA := s3A _ _ ha3
      have lws : ws.length ≤ 42 := by omega
      refine ⟨F, l5, _, _, rfl, rfl, hFA, upd_same, Nat.le_trans (show _ ≤ 100 from by
        show ws.length + 5 ≤ 100
        omega) (by decide), fun F' nF' => ?_⟩
      have gB := same_upd (o := .lst (ws ++ [.ref pa, .ref l1, .ref p5, .ref p7, .ref p9])) nF'
      have hFB := upd_same (H := upd X9 l5 (.lst [.ref pa, .ref l1, .ref p5, .ref p7, .ref p9])) (a := F') (o := .lst (ws ++ [.ref pa, .ref l1, .ref p5, .ref p7, .ref p9]))
      have nFX : X F' = none := But.free bXA haA nF'
      have nF'H : H F' = none := But.free bt hb nFX
      have nF'a : F' ≠ a := fun z => by
        rw [z, haA] at nF'
        cases nF'
      have nF'c : F' ≠ c := fun z => by
        rw [z, hc] at nFX
        cases nFX
      have bXB := bXA.trans (But.of (a := a) gB)
      have haB := gB _ _ haA
      have s5B := (((g57.trans g79).trans gA).trans gB)
      have s7B := ((g79.trans gA).trans gB)
      have s9B := gA.trans gB
      have nl1F : l1 ≠ F' := ne_of_none ((b23.trans (But.of (a := a) s3A)) _ _ nl1a hl1) nF'
      have hl1B := (b23.trans (But.of (a := a) (s3A.trans gB))) _ _ nl1a hl1
      obtain ⟨XB, eXB⟩ : ∃ XB, XB = upd (upd X9 l5 (.lst [.ref pa, .ref l1, .ref p5, .ref p7, .ref p9])) F' (.lst (ws ++ [.ref pa, .ref l1, .ref p5, .ref p7, .ref p9])) := ⟨_, rfl⟩
      rw [← eXB] at gB hFB bXB haB s5B s7B s9B hl1B ⊢
      have mv : Same (Off2 a F X) (Off2 a F' XB) := Off2.move bXB nFX
      have gxB : Gv K 5 (Off2 a F' XB) x := gx.same (Off2.move (bt.trans bXB) nF'H)
      have pthB : SqT K (Off2 a F' XB) pa (p.map V.int) := Same.seqT mv hPS
      have all5 : ∀ z ∈ ws ++ [.ref pa, .ref l1, .ref p5, .ref p7, .ref p9], Gv K 6 (Off2 a F' XB) z := by
        refine gv_app (fun z hz => (hws z hz).same mv) fun z hz => ?_
        simp only [List.mem_cons, List.not_mem_nil, or_false] at hz
        rcases hz with rfl | rfl | rfl | rfl | rfl
        · exact Gv.tup pthB (by omega) gv_ints
        · exact Gv.lst (SqL.of (Off2.mk nl1a nl1F hl1B)) (by omega) gv_ints
        · exact Gv.tup (Off2.seqT haB hFB (Same.seqT s5B hp5)) (by rw [List.length_append]; show _ + 1 ≤ 500; omega) (gv_app gv_ints (gv_one gxB))
        · exact Gv.tup (Off2.seqT haB hFB (Same.seqT s7B hp7)) (by rw [List.length_append]; show _ + 1 ≤ 500; omega) (gv_app gv_ints (gv_one .int))
        · exact Gv.tup (Off2.seqT haB hFB (Same.seqT s9B hp9)) (by rw [List.length_append]; show _ + 1 ≤ 500; omega) (gv_app gv_ints (gv_one .int))
      have l5 : (ws ++ [V.ref pa, .ref l1, .ref p5, .ref p7, .ref p9]).length = 7 * i + 5 := by
        rw [List.length_append, hwl]
        rfl
      obtain ⟨us, eus⟩ : ∃ us, us = ws ++ [V.ref pa, .ref l1, .ref p5, .ref p7, .ref p9] := ⟨_, rfl⟩
      rw [← eus] at hFB all5 l5
      -- the first of the two that are put behind
      refine ⟨_, rfl, .inl ⟨rfl, _, SqL.of hFB⟩, ?_⟩
      refine ⟨_, rfl, _, rfl, _, rfl, pa, _, rfl, pth bXB, fun Y1 p11 u1 hp11 => ?_⟩
      have haY1 := u1 _ _ haB
      refine ⟨_, rfl, _, rfl, a, o, _, b6, xs, rfl, haY1, hB6, by omega, odd (bXB.trans (But.of u1)), noa, x0, x1, fun j2 x2 b7 hx2 hB7 => ?_⟩
      have gx2 := hxs x2 (List.mem_of_getElem? hx2)
      have haY2 : (upd Y1 a (.lst b7)) a = some (.lst b7) := upd_same
      have bY2 : But a Y1 (upd Y1 a (.lst b7)) := But.upd (But.refl a Y1)
      have hp11' : SqT K (upd Y1 a (.lst b7)) p11 (cutV (p.map V.int) none (some r)) := by
        have h1 := Off2.seqT (b := a) haY1 haY1 hp11
        exact Same.seqT ((Off2.but (b := a) bY2).trans Off2.sub) h1
      obtain ⟨Y2, eY2⟩ : ∃ Y2, Y2 = upd Y1 a (.lst b7) := ⟨_, rfl⟩
      rw [← eY2] at haY2 bY2 hp11' ⊢
      refine ⟨by show 1 ≤ sizeLine; decide, fun t4 nt4 => ?_⟩
      have u3 := same_upd (o := .tup [x2]) nt4
      have c1 := cut_len (p.map V.int) none (some r)
      have c2 := cut_len (p.map V.int) (some (r + 1)) none
      have c3 := cut_len (p.map V.int) (some r) (some (r + 1))
      have c4 := cut_len (p.map V.int) (some r) none
      refine ⟨p11, t4, _, _, rfl, rfl, Same.seqT u3 hp11', SqT.of upd_same, Nat.le_trans (show _ ≤ 200 from by
        show (cutV (p.map V.int) none (some r)).length + 1 ≤ 200
        omega) (by decide), fun Y4 p14 u4 hp14 => ?_⟩
      have u24 := u3.trans u4
      have bXY4 := bXB.trans ((But.of (a := a) u1).trans (bY2.trans (But.of u24)))
      refine ⟨_, rfl, _, rfl, _, _, rfl, rfl, _, rfl, pa, _, rfl, pth bXY4, fun Y5 p15 u5 hp15 => ?_⟩
      refine ⟨p14, p15, _, _, rfl, rfl, Same.seqT u5 hp14, hp15, Nat.le_trans (show _ ≤ 400 from by
        rw [List.length_append]
        show (cutV (p.map V.int) none (some r)).length + 1 + (cutV (p.map V.int) (some (r + 1)) none).length ≤ 400
        omega) (by decide), fun Y6 p16 u6 hp16 => ?_⟩
      have u26 := u24.trans (u5.trans u6)
      have bB6 := (But.of (a := a) u1).trans (bY2.trans (But.of u26))
      have hF6 := bB6 _ _ nF'a hFB
      have haY6 := u26 _ _ haY2
      refine ⟨F', _, .ref p16, rfl, rfl, hF6, small1000 (by omega), ?_⟩
      obtain ⟨is1, ei1, _⟩ := cut_ints p none (some r)
      obtain ⟨is2, ei2, _⟩ := cut_ints p (some (r + 1)) none
      obtain ⟨is3, ei3, _⟩ := cut_ints p (some r) (some (r + 1))
      obtain ⟨is4, ei4, _⟩ := cut_ints p (some r) none
      have hFY : (upd Y6 F' (.lst (us ++ [.ref p16]))) F' = some (.lst (us ++ [.ref p16])) := upd_same
      have haY : (upd Y6 F' (.lst (us ++ [.ref p16]))) a = some (.lst b7) := by
        rw [upd_ne nF'a.symm]
        exact haY6
      have gY : Same (Off2 a F' Y6) (Off2 a F' (upd Y6 F' (.lst (us ++ [.ref p16])))) := Off2.upd2
      have gBY := (Off2.but (b := F') bB6).trans gY
      have gx2Y : Gv K 5 (Off2 a F' (upd Y6 F' (.lst (us ++ [.ref p16])))) x2 := gx2.same ((Off2.move (bt.trans bXB) nF'H).trans gBY)
      have all6 : ∀ z ∈ us ++ [.ref p16], Gv K 6 (Off2 a F' (upd Y6 F' (.lst (us ++ [.ref p16])))) z := by
        refine gv_app (fun z hz => (all5 z hz).same gBY) (gv_one ?_)
        refine Gv.tup (Same.seqT gY (Off2.seqT haY6 hF6 hp16)) ?_ ?_
        · rw [List.length_append, List.length_append]
          show (cutV (p.map V.int) none (some r)).length + 1 + (cutV (p.map V.int) (some (r + 1)) none).length ≤ 500
          omega
        · rw [ei1, ei2]
          exact gv_app (gv_app gv_ints (gv_one gx2Y)) gv_ints
      have bX7 : But a X Y6 := bXB.trans bB6
      have pthY : SqT K (Off2 a F' (upd Y6 F' (.lst (us ++ [.ref p16])))) pa (p.map V.int) := Same.seqT gBY pthB
      have toY : But a H (upd Y6 F' (.lst (us ++ [.ref p16]))) := fun d z nd hd => by
        rw [upd_ne (ne_of_none hd nF'H)]
        exact (bt.trans bX7) d z nd hd
      have hcY : (upd Y6 F' (.lst (us ++ [.ref p16]))) c = some (.lst cs) := by
        rw [upd_ne nF'c.symm]
        exact bX7 _ _ nca hc
      obtain ⟨Z, eZ⟩ : ∃ Z, Z = upd Y6 F' (.lst (us ++ [.ref p16])) := ⟨_, rfl⟩
      rw [← eZ] at hFY haY gY gBY all6 pthY toY hcY ⊢
      -- the second
      refine ⟨_, rfl, .inl ⟨rfl, _, SqL.of hFY⟩, ?_⟩
      have pZ : ∀ {Y : Hp}, Same Z Y → SqT K Y pa (p.map V.int) := fun {Y} z => Same.seqT (Off2.sub.trans z) pthY
      refine ⟨_, rfl, _, rfl, _, rfl, pa, _, rfl, pZ (Same.refl Z), fun Z1 p21 w1 hp21 => ?_⟩
      refine ⟨_, rfl, _, rfl, _, rfl, _, rfl, _, _, rfl, rfl, _, rfl, pa, _, rfl, pZ w1, fun Z2 p22 w2 hp22 => ?_⟩
      refine ⟨p21, p22, _, _, rfl, rfl, Same.seqT w2 hp21, hp22, Nat.le_trans (show _ ≤ 400 from by
        show (cutV (p.map V.int) none (some r)).length + (cutV (p.map V.int) (some r) (some (r + 1))).length ≤ 400
        omega) (by decide), fun Z3 p23 w3 hp23 => ?_⟩
      refine ⟨_, rfl, _, rfl, _, rfl, pa, _, rfl, pZ ((w1.trans w2).trans w3), fun Z4 p24 w4 hp24 => ?_⟩
      refine ⟨p23, p24, _, _, rfl, rfl, Same.seqT w4 hp23, hp24, Nat.le_trans (show _ ≤ 400 from by
        rw [List.length_append]
        show (cutV (p.map V.int) none (some r)).length + (cutV (p.map V.int) (some r) (some (r + 1))).length + (cutV (p.map V.int) (some r) none).length ≤ 400
        omega) (by decide), fun Z5 p25 w5 hp25 => ?_⟩
      have w05 := (((w1.trans w2).trans w3).trans w4).trans w5
      have hF5 := w05 _ _ hFY
      have ha5 := w05 _ _ haY
      refine ⟨F', _, .ref p25, rfl, rfl, hF5, small1000 (by rw [List.length_append, l5]; show _ + 1 ≤ 1000; omega), ?_⟩
      have gE : Same (Off2 a F' Z5) (Off2 a F' (upd Z5 F' (.lst (us ++ [.ref p16] ++ [.ref p25])))) := Off2.upd2
      have gZE := (Off2.same (a := a) (b := F') w05).trans gE
      refine ⟨F', _, _, _, b7, rfl, fun d z nd hd => ?_, nF'H, upd_same, ?_, ?_, by rw [upd_ne nF'a.symm]; exact ha5, hB7.mono (by omega), by rw [upd_ne nF'c.symm]; exact w05 _ _ hcY, nF'c, fun y hy => ?_⟩
      · rw [upd_ne (ne_of_none hd nF'H)]
        exact w05 _ _ (toY d z nd hd)
      · rw [List.length_append, List.length_append, l5]
        show 7 * i + 5 + 1 + 1 = _
        omega
      · refine gv_app (fun z hz => (all6 z hz).same gZE) (gv_one ?_)
        refine Gv.tup (Same.seqT gE (Off2.seqT ha5 hF5 hp25)) ?_ ?_
        · rw [List.length_append, List.length_append]
          omega
        · rw [ei1, ei3, ei4]
          exact gv_app (gv_app gv_ints gv_ints) gv_ints
      · obtain ⟨p', hp', hpd'⟩ := hps y hy
        exact ⟨p', hp', dp_same ((mv.trans gBY).trans gZE) hpd'⟩
    · rintro σ X ⟨F, ws, y4, y5, b4, rfl, bt, nFH, hF, hwl, hws, hb, hBx, hc, nFc, hps⟩
      exact ⟨_, rfl, q X F ws b4 bt nFH hF (by omega) hws hb (hBx.mono (by omega))⟩
end
/-! ### texts of data, how long at most -/
theorem textFrom_le : ∀ (ts : List Str) (k : Nat) (acc : Str), (textFrom k acc ts).length ≤ acc.length + piled ts
  | [], k, acc => by
    rw [piled_nil]
    exact Nat.le_refl _
  | t :: r, k, acc => by
    have ih := textFrom_le r (k + 1) (acc ++ (if k > 0 then ", " else "" : String) ++ t)
    have e2 : ((", " : String) : Str).length = 2 := rfl
    have e0 : (("" : String) : Str).length = 0 := rfl
    have e : (acc ++ (if k > 0 then ", " else "" : String) ++ t).length ≤ acc.length + 2 + t.length := by
      rw [strLen_append, strLen_append]
      by_cases h : k > 0
      · rw [if_pos h, e2]
        exact Nat.le_refl _
      · rw [if_neg h, e0]
        omega
    rw [piled_cons]
    exact Nat.le_trans ih (by omega)
theorem listText_le (ts : List Str) : (listText ts).length ≤ piled ts + 2 := by
  unfold listText
  rw [strLen_append]
  have h := textFrom_le ts 0 "["
  have e1 : (("[" : String) : Str).length = 1 := rfl
  have e2 : (("]" : String) : Str).length = 1 := rfl
  rw [e1] at h
  rw [e2]
  omega
theorem tupleText_le (ts : List Str) : (tupleText ts).length ≤ piled ts + 3 := by
  unfold tupleText
  rw [strLen_append, strLen_append]
  have e1 : (("(" : String) : Str).length = 1 := rfl
  have e2 : ((if ts.length == 1 then ",)" else ")" : String) : Str).length ≤ 2 := by
    by_cases h : (ts.length == 1) = true
    · rw [if_pos h]
      decide
    · rw [if_neg h]
      decide
  rw [e1]
  cases ts with
  | nil =>
    have e3 : (Str.join ", " []).length = 0 := rfl
    rw [e3]
    omega
  | cons t r =>
    have := join_length_add (t :: r) (by simp)
    omega
/-! ### how long the text of a tree is -/
theorem fig_len {i : Int} (h0 : 0 ≤ i) (h1 : i < 1000000) : (PyData.shown (.int i)).length ≤ 6 := by
  obtain ⟨n, rfl⟩ : ∃ n : Nat, i = (n : Int) := ⟨i.toNat, by omega⟩
  show (Str.ofString (toString (n : Int))).length ≤ 6
  rw [PySem.ofString_length]
  show (Nat.repr n).length ≤ 6
  exact (Nat.length_repr_le_iff (by decide)).mpr (by omega)
theorem fig_shown {i : Int} (h0 : 0 ≤ i) (h1 : i < 1000000) : PyData.showable (.int i) = true := by
  show decide (i.natAbs.log2 < 1920) = true
  refine decide_eq_true ?_
  by_cases z : i.natAbs = 0
  · rw [z]
    decide
  · have : i.natAbs.log2 < 20 := (Nat.log2_lt z).mpr (by
      have : (2 : Nat) ^ 20 = 1048576 := by decide
      omega)
    omega
theorem name_len {z : Str} (h : Nm z) : (reprText z).length ≤ 62 := by
  have := StrLaws.reprText_len z (fun c hc => Nat.lt_trans (h.2 c hc) (by decide))
  have := h.1
  omega
mutual
theorem Tr.show_ : ∀ {n k : Nat} {d : PyData}, Tr n k d → d.showable = true ∧ d.hasDict = false ∧ d.depth ≤ 2 * n ∧ d.shown.length ≤ 100 * k
  | _, _, _, .mk hz h0 h1 hl h => by
    rename_i n k z i ds
    obtain ⟨g1, g2, g3, g4⟩ := TrAll.show_ h
    refine ⟨?_, ?_, ?_, ?_⟩
    · show (PyData.showable (.str z) && (PyData.showable (.int i) && (PyData.showableAll ds && true))) = true
      rw [fig_shown h0 h1, g1]
      rfl
    · show (false || (false || (PyData.hasDictAll ds || false))) = false
      rw [g2]
      rfl
    · show max 0 (max 0 (max (PyData.depthAll ds + 1) 0)) + 1 ≤ 2 * (n + 1)
      omega
    · show (tupleText [reprText z, PyData.shown (.int i), tupleText (PyData.shownAll ds)]).length ≤ 100 * (k + 1)
      have e := tupleText_le [reprText z, PyData.shown (.int i), tupleText (PyData.shownAll ds)]
      rw [piled_cons, piled_cons, piled_cons, piled_nil] at e
      have e1 := name_len hz
      have e2 := fig_len h0 h1
      have e3 := tupleText_le (PyData.shownAll ds)
      omega
theorem TrAll.show_ : ∀ {n k : Nat} {ds : List PyData}, TrAll n k ds → PyData.showableAll ds = true ∧ PyData.hasDictAll ds = false ∧ PyData.depthAll ds ≤ 2 * n ∧ piled (PyData.shownAll ds) ≤ 100 * k + 2 * ds.length
  | _, _, _, .nil n => ⟨rfl, rfl, Nat.zero_le _, Nat.le_refl _⟩
  | _, _, _, .cons h a => by
    rename_i n k k' d ds
    obtain ⟨f1, f2, f3, f4⟩ := Tr.show_ h
    obtain ⟨g1, g2, g3, g4⟩ := TrAll.show_ a
    refine ⟨?_, ?_, ?_, ?_⟩
    · show (PyData.showable d && PyData.showableAll ds) = true
      rw [f1, g1]
      rfl
    · show (PyData.hasDict d || PyData.hasDictAll ds) = false
      rw [f2, g2]
      rfl
    · show max (PyData.depth d) (PyData.depthAll ds) ≤ 2 * n
      omega
    · show piled (PyData.shown d :: PyData.shownAll ds) ≤ 100 * (k + k') + 2 * (ds.length + 1)
      rw [piled_cons]
      omega
end
theorem two_show {n k k' : Nat} {t p : PyData} (h : Tr n k t) (h' : Tr n k' p) (hn : n ≤ 40) (hk : k + k' ≤ 1000) : (PyData.list [t, p]).showable = true ∧ (PyData.list [t, p]).hasDict = false ∧ (PyData.list [t, p]).depth ≤ 100 ∧ (PyData.list [t, p]).shown.length ≤ sizeLine := by
  obtain ⟨f1, f2, f3, f4⟩ := h.show_
  obtain ⟨g1, g2, g3, g4⟩ := h'.show_
  refine ⟨?_, ?_, ?_, ?_⟩
  · show (PyData.showable t && (PyData.showable p && true)) = true
    rw [f1, g1]
    rfl
  · show (PyData.hasDict t || (PyData.hasDict p || false)) = false
    rw [f2, g2]
    rfl
  · show max (PyData.depth t) (max (PyData.depth p) 0) + 1 ≤ 100
    omega
  · refine Nat.le_trans (show (listText [PyData.shown t, PyData.shown p]).length ≤ 200000 from ?_) (by decide)
    have e := listText_le [PyData.shown t, PyData.shown p]
    rw [piled_cons, piled_cons, piled_nil] at e
    omega
/-! ### lists of paths are like themselves -/
theorem ints_lay : ∀ p : List Int, PyData.canLayAll0 (p.map PyData.int) = true ∧ PyData.depthAll (p.map PyData.int) = 0
  | [] => ⟨rfl, rfl⟩
  | i :: p => by
    obtain ⟨h1, h2⟩ := ints_lay p
    refine ⟨?_, ?_⟩
    · show (true && PyData.canLayAll0 (p.map PyData.int)) = true
      rw [h1]
      rfl
    · show max 0 (PyData.depthAll (p.map PyData.int)) = 0
      rw [h2]
      rfl
theorem paths_lay : ∀ ps : List (List Int), PyData.canLayAll0 (ps.map pathD) = true ∧ PyData.depthAll (ps.map pathD) ≤ 1
  | [] => ⟨rfl, Nat.zero_le _⟩
  | p :: ps => by
    obtain ⟨h1, h2⟩ := paths_lay ps
    obtain ⟨g1, g2⟩ := ints_lay p
    refine ⟨?_, ?_⟩
    · show (PyData.canLayAll0 (p.map PyData.int) && PyData.canLayAll0 (ps.map pathD)) = true
      rw [h1, g1]
      rfl
    · show max (PyData.depthAll (p.map PyData.int) + 1) (PyData.depthAll (ps.map pathD)) ≤ 1
      rw [g2]
      omega
theorem paths_like (ps : List (List Int)) : SeqAt.shaped (.list (ps.map pathD)) = true ∧ PyData.eqv (.list (ps.map pathD)) (.list (ps.map pathD)) = true := by
  obtain ⟨h1, h2⟩ := paths_lay ps
  have c : PyData.canLay0 (.list (ps.map pathD)) = true := h1
  refine ⟨?_, ?_⟩
  · unfold SeqAt.shaped
    rw [c, decide_eq_true (show PyData.depth (.list (ps.map pathD)) ≤ 64 from by
      show PyData.depthAll (ps.map pathD) + 1 ≤ 64
      omega)]
    rfl
  · exact SeqAt.eqv_refl _ c
theorem words_like (b : Bool) : SeqAt.shaped (.list [.str (wordOf b), .str (wordOf b)]) = true ∧ PyData.eqv (.list [.str (wordOf b), .str (wordOf b)]) (.list [.str (wordOf b), .str (wordOf b)]) = true := by
  cases b <;> decide +kernel
theorem Sm.mono {n : Nat} {d : PyData} (h : Sm n d) : Sm (n + 1) d := by
  induction h with
  | non n => exact .non _
  | bl n b => exact .bl _ b
  | int n i => exact .int _ i
  | str n z => exact .str _ z
  | lst n h _ ih => exact .lst _ h ih
  | tup n h _ ih => exact .tup _ h ih
/-! ### the law -/
abbrev s__law_right : Stmt := top 29
abbrev N__law_right : List Str := ["_law_box", "_law_names", "_law_odd", "_law_turn", "_law_tree", "_law_part", "_law_kept", "_law_ahead", "_law_thing", "_law_due", "_law_found", "_law_one"]
abbrev P__law_right : List Str := ["_law_box"]
theorem sc__law_right : FnScope N__law_right P__law_right (defScope s__law_right) := ⟨rfl, rfl, rfl, by decide +kernel, rfl, by decide +kernel, by decide +kernel⟩
abbrev s_law : Stmt := top 30
abbrev N_law : List Str := ["_law_script", "_law_cells", "_law_k"]
abbrev P_law : List Str := ["_law_script"]
theorem sc_law : FnScope N_law P_law (defScope s_law) := ⟨rfl, rfl, rfl, by decide +kernel, rfl, by decide +kernel, by decide +kernel⟩
structure Ri (mg : Str → Option Value) : Prop where
  range : mg "range" = none
  repr : mg "repr" = none
  all : mg "all" = none
  max : mg "max" = none
  len : mg "len" = none
def spRight6 : Sp := fun vs H Q _ => ∃ (a : Addr) (b : List V), vs = [.ref a] ∧ H a = some (.lst b) ∧ BoxL 0 b ∧ ∀ H', But a H H' → Q (.bl true) H'
def spLaw (K : PySem.W.Frag) : Sp := fun vs H Q _ => ∃ (a : Addr) (ns : List Int), vs = [.ref a] ∧ SqL K H a (ns.map V.int) ∧ ns.length ≤ 63 ∧ ∀ H', Q (.bl true) H'
theorem nw_off {a : Addr} {H H' Y : Hp} {o : HO} (ha : H a = some o) (b : But a H' Y) : Same (Nw H H') (Off2 a a Y) := fun c x e => by
  obtain ⟨z1, z2⟩ := Nw.get e
  have nca : c ≠ a := fun z => by
    rw [z, ha] at z1
    cases z1
  exact Off2.mk nca nca (b _ _ nca z2)
section
variable {P : Program} {w : World} {K : PySem.W.Frag} {mg : Str → Option Value} {base : Heap}
theorem ok_right6 (T : Ri mg) (c_law_take : C8.Cal P w K mg base 1 "_law_take" spTake []) (c_law_named : C8.Cal P w K mg base 2 "_law_named" spNamed []) (c_law_wild : C8.Cal P w K mg base 12 "_law_wild" (spWild K 9) []) (cnodes_of : C8.Cal P w K mg base 2 "nodes_of" (spNodes K) [])
    (c_law_paths : C8.Cal P w K mg base 3 "_law_paths" (spPaths K) []) (c_law_is_there : C8.Cal P w K mg base 1 "_law_is_there" (spThere K) []) (c_law_told : C8.Cal P w K mg base 12 "_law_told" (spTold6 K) []) (c_law_same : C8.Cal P w K mg base 8 "_law_same" (spSame K 7) [])
    (D : Dd K mg "_law_right" s__law_right P__law_right) : CalG P w K mg base 13 "_law_right" spRight6 := by
  obtain ⟨f, fd, F, g, bd⟩ := D.ex
  refine ⟨f, fd, _, fng_of F sc__law_right (fun vs H Q E h => ?_) (fun cdv A outer s H vs Q E hg hr h => ?_), g, F.kp, bd⟩
  · obtain ⟨a, b, rfl, _⟩ := h
    rfl
  · obtain ⟨a, b, rfl, ha, hB, q⟩ := h
    refine ⟨_, (pss_cons (ps_par rfl sc__law_right.nd (i := 1) (j := 2) rfl rfl (by decide) rfl rfl (pa_cons (C8.pe_c c_law_named hr (by decide) (by rfl) (pa_cons (pv 0) (pa_cons pe_int pa_nil))) (pa_cons (pe_lst (pa_cons pe_int (pa_cons pe_int (pa_cons (pe_un un_neg pe_int) (pa_cons pe_bl (pa_cons pe_bl (pa_cons pe_non (pa_cons pe_str (pa_cons (pe_tup (pa_cons pe_int pa_nil)) (pa_cons (pe_lst (pa_cons pe_int pa_nil)) (pa_cons (pe_op op_pow pe_int pe_int) pa_nil))))))))))) pa_nil)) (by rfl))
        (pss_cons (ps_for PassesOwn.never rfl (pi_range1 rfl T.range (pa_cons pe_int pa_nil)) (pg_name (i := 3) sc__law_right.nd rfl (Or.inl rfl))
          (pss_cons (ps_par rfl sc__law_right.nd (i := 4) (j := 5) rfl rfl (by decide) rfl rfl (pa_cons (C8.pe_c c_law_wild hr (by decide) (by rfl) (pa_cons (pv 0) (pa_cons (pv 1) (pa_cons (pe_op op_add pe_int (C8.pe_c c_law_take hr (by decide) (by rfl) (pa_cons (pv 0) (pa_cons pe_int pa_nil)))) (pa_cons pe_int pa_nil))))) (pa_cons (C8.pe_c c_law_wild hr (by decide) (by rfl) (pa_cons (pv 0) (pa_cons (pv 1) (pa_cons pe_int (pa_cons pe_int pa_nil))))) pa_nil)) (by rfl))
        (pss_cons (ps_par rfl sc__law_right.nd (i := 6) (j := 7) rfl rfl (by decide) rfl rfl (pa_cons (pe_callB (cr_reprD hg hr) (by rfl) T.repr (by decide +kernel) (pa_cons (pe_lst (pa_cons (pv 4) (pa_cons (pv 5) pa_nil))) pa_nil)) (pa_cons (C8.pe_c cnodes_of hr (by decide) (by rfl) (pa_cons (pv 4) pa_nil)) pa_nil)) (by rfl))
        (pss_cons (ps_for PassesOwn.never rfl (pi_list (pe_op op_cat (pe_op op_cat (pv 2) (pe_lst (pa_cons (pe_tup pa_nil) (pa_cons (pe_lst pa_nil) (pa_cons pe_str pa_nil))))) (C8.pe_c c_law_paths hr (by decide) (by rfl) (pa_cons (pv 0) (pa_cons (pv 4) (pa_cons (pv 2) pa_nil)))))) (pg_name (i := 8) sc__law_right.nd rfl (Or.inl rfl))
          (C8.pss_cut (ps_set (i := 9) sc__law_right.nd rfl (Or.inl rfl) (pe_ifExp (pt_val (C8.pe_c c_law_is_there hr (by decide) (by rfl) (pa_cons (pv 4) (pa_cons (pv 8) pa_nil)))) pe_str pe_str))
        (pss_cons (ps_set (i := 10) sc__law_right.nd rfl (Or.inl rfl) (C8.pe_c c_law_told hr (by decide) (by rfl) (pa_cons (pv 4) (pa_cons (pv 8) (pa_cons (pv 5) pa_nil)))))
        (pss_cons (ps_if (PW.pt (pw_or (pt_cmpR (op_neD hr.units) (pe_lc (own := [("_law_one", 11)]) (by exact rfl) sc__law_right.nd (pi_list (pv 10)) (blkOk_by (own := [("_law_one", 11)]) (N := N__law_right) (sc := defScope s__law_right) (by decide +kernel)) (fun _ _ _ _ _ => (pg_name (i := 11) sc__law_right.nd rfl (Or.inl rfl))) (fun _ _ _ _ _ => pts_nil) (fun _ _ _ _ _ => (pe_ix (r := rIxT K) ix_tup (pv 11) pe_int (fun _ _ => rfl)))) (pe_op op_rep (pe_lst (pa_cons (pv 9) pa_nil)) pe_int) (nomark _)) (pw_or1 (pt_cmpR op_ne (pe_callB (cr_reprD hg hr) (by rfl) T.repr (by decide +kernel) (pa_cons (pe_lst (pa_cons (pv 4) (pa_cons (pv 5) pa_nil))) pa_nil)) (pv 6) (nomark _)))))
          (pss_one (ps_ret pe_bl))
          pss_nil)
        (pss_one (ps_if (PW.pt (pw_and (pt_cmpR op_eq (pv 9) pe_str (nomark _)) (pw_and1 (pt_not (pt_val (C8.pe_c c_law_same hr (by decide) (by rfl) (pa_cons (pe_lc (own := [("_law_one", 11)]) (by exact rfl) sc__law_right.nd (pi_list (pv 10)) (blkOk_by (own := [("_law_one", 11)]) (N := N__law_right) (sc := defScope s__law_right) (by decide +kernel)) (fun _ _ _ _ _ => (pg_name (i := 11) sc__law_right.nd rfl (Or.inl rfl))) (fun _ _ _ _ _ => pts_nil) (fun _ _ _ _ _ => (pe_ix (r := rIxT K) ix_tup (pv 11) pe_int (fun _ _ => rfl)))) (pa_cons (pe_op op_rep (pe_lst (pa_cons (pv 8) pa_nil)) pe_int) pa_nil))))))))
          (pss_one (ps_ret pe_bl))
          pss_nil))))))
        (pss_one (ps_if (pt_cmpR (op_neD hr.units) (C8.pe_c cnodes_of hr (by decide) (by rfl) (pa_cons (pv 4) pa_nil)) (pv 7) (nomark _))
          (pss_one (ps_ret pe_bl))
          pss_nil))))))
        (pss_one (ps_ret pe_bl)))), ?_⟩
    refine ⟨_, rfl, a, 4, 0, b, rfl, by decide, ha, hB, by decide, fun H1 l zs b1 bt1 nl hl hzl hzs hb1 hB1 => ?_⟩
    refine ⟨_, rfl, by show 1 ≤ sizeLine; decide, fun t1 n1 => ⟨by show 1 ≤ sizeLine; decide, fun l1 m1 => ⟨_, _, rfl, rfl, ⟨by decide, by decide, by decide⟩, by show 10 ≤ sizeLine; decide, fun od nod => ⟨_, _, rfl, ?_⟩⟩⟩⟩
    have c1 := same_upd (o := .tup [.int 1]) n1
    have c2 := same_upd (o := .lst [.int 1]) m1
    have c3 := same_upd (o := .lst [.int 0, .int 3, .int (-1), .bl true, .bl false, .non, .str "1", .ref t1, .ref l1, .int (10 ^ (9 : Int).toNat)]) nod
    have hod := upd_same (H := upd (upd H1 t1 (.tup [.int 1])) l1 (.lst [.int 1])) (a := od) (o := .lst [.int 0, .int 3, .int (-1), .bl true, .bl false, .non, .str "1", .ref t1, .ref l1, .int (10 ^ (9 : Int).toNat)])
    have ht1 := c3 _ _ (c2 _ _ (upd_same (H := H1) (a := t1) (o := .tup [.int 1])))
    have hl1 := c3 _ _ (upd_same (H := upd H1 t1 (.tup [.int 1])) (a := l1) (o := .lst [.int 1]))
    have c13 := (c1.trans c2).trans c3
    have nt1a : t1 ≠ a := fun z => by
      rw [z, hb1] at n1
      cases n1
    have nl1a : l1 ≠ a := fun z => by
      rw [z, c1 _ _ hb1] at m1
      cases m1
    have noda : od ≠ a := fun z => by
      rw [z, c2 _ _ (c1 _ _ hb1)] at nod
      cases nod
    have nla : l ≠ a := fun z => by
      rw [z, ha] at nl
      cases nl
    obtain ⟨A3, eA⟩ : ∃ A3, A3 = upd (upd (upd H1 t1 (.tup [.int 1])) l1 (.lst [.int 1])) od (.lst [.int 0, .int 3, .int (-1), .bl true, .bl false, .non, .str "1", .ref t1, .ref l1, .int (10 ^ (9 : Int).toNat)]) := ⟨_, rfl⟩
    rw [← eA] at hod ht1 hl1 c13 ⊢
    clear c1 c2 c3
    have btA : But a H A3 := bt1.trans (But.of c13)
    have hbA := c13 _ _ hb1
    have hlA := c13 _ _ hl
    have hodd : ∀ x ∈ [V.int 0, .int 3, .int (-1), .bl true, .bl false, .non, .str "1", .ref t1, .ref l1, .int (10 ^ (9 : Int).toNat)], Gv K 5 (Off2 a a A3) x := fun x hx => by
      simp only [List.mem_cons, List.not_mem_nil, or_false] at hx
      rcases hx with rfl | rfl | rfl | rfl | rfl | rfl | rfl | rfl | rfl | rfl
      · exact .int
      · exact .int
      · exact .int
      · exact ⟨_, .bl _, .bl _ _⟩
      · exact ⟨_, .bl _, .bl _ _⟩
      · exact ⟨_, .non, .non _⟩
      · exact ⟨_, .str _, .str _ _⟩
      · exact Gv.tup (SqT.of (Off2.mk nt1a nt1a ht1)) (by decide) (gv_one .int)
      · exact Gv.lst (SqL.of (Off2.mk nl1a nl1a hl1)) (by decide) (gv_one .int)
      · exact .int
    obtain ⟨os, eos⟩ : ∃ os, os = [V.int 0, .int 3, .int (-1), .bl true, .bl false, .non, .str "1", .ref t1, .ref l1, .int (10 ^ (9 : Int).toNat)] := ⟨_, rfl⟩
    have los : os.length = 10 := by
      rw [eos]
      rfl
    rw [← eos] at hod hodd
    refine ⟨4, rfl, by decide, by decide, for_range (lo := 0) (n := Int.toNat 4) (fun i σ X => ∃ y3 y4 y5 y6 y7 y8 y9 y10 b', σ = [some (.ref a), some (.ref l), some (.ref od), y3, y4, y5, y6, y7, y8, y9, y10, none] ∧ But a A3 X ∧ X a = some (.lst b') ∧ BoxL (40 + 2000 * i) b')
      ⟨none, none, none, none, none, none, none, none, b1, rfl, But.refl a A3, hbA, hB1⟩ ?_ ?_⟩
    · rintro i σ X hi ⟨y3, y4, y5, y6, y7, y8, y9, y10, b2, rfl, btX, hbX, hBX⟩
      have hi : i < 4 := hi
      refine ⟨_, rfl, _, rfl, _, rfl, a, 20, _, b2, rfl, hbX, hBX, by omega, by decide, by decide, fun r b3 r0 r1 hB3 => ⟨_, _, rfl, rfl, ?_⟩⟩
      have bX1 : But a X (upd X a (.lst b3)) := But.upd (But.refl a X)
      have ha1 : (upd X a (.lst b3)) a = some (.lst b3) := upd_same
      obtain ⟨X1, e1⟩ : ∃ X1, X1 = upd X a (.lst b3) := ⟨_, rfl⟩
      rw [← e1] at bX1 ha1 ⊢
      have bA1 := btX.trans bX1
      have zl0 : 0 < zs.length := by omega
      have zl1 : zs.length ≤ 1000 := by omega
      refine ⟨a, l, 1 + r, 9, _, b3, zs, rfl, by decide, by omega, by omega, ha1, hB3, by omega, SqL.of (bA1 _ _ nla hlA), nla, zl0, zl1, hzs, fun X2 tv td kt b4 bt2 hb4 hB4 htv trt hkt => ?_⟩
      have bA2 := bA1.trans bt2
      refine ⟨_, rfl, _, rfl, a, l, 3, 2, _, b4, zs, rfl, by decide, by decide, by decide, hb4, hB4, (by show _ + 9 * 3 < 900000; omega), SqL.of (bA2 _ _ nla hlA), nla, zl0, zl1, hzs, fun X3 pv pd kp b5 bt3 hb5 hB5 hpv trp hkp => ⟨_, _, rfl, ?_⟩⟩
      have hkp3 : kp ≤ 3 := hkp
      have hB5 : BoxL (40 + 2000 * i + 1 + 9 * (1 + r).toNat + 27) b5 := hB5
      have gt : ∀ {Y : Hp}, But a X3 Y → Dp K (Off2 a a Y) tv td := fun {Y} z => dp_same (nw_off ha1 (bt3.trans z)) htv
      have gp : ∀ {Y : Hp}, But a X3 Y → Dp K (Off2 a a Y) pv pd := fun {Y} z => dp_same (nw_off hb4 z) hpv
      have dt : ∀ {Y : Hp}, But a X3 Y → Dp K Y tv td := fun {Y} z => dp_same Off2.sub (gt z)
      have dp : ∀ {Y : Hp}, But a X3 Y → Dp K Y pv pd := fun {Y} z => dp_same Off2.sub (gp z)
      have bA3 := bA2.trans bt3
      obtain ⟨w1, w2, w3, w4⟩ := two_show trt trp (by decide) (by omega)
      refine ⟨_, rfl, _, rfl, by show 2 ≤ sizeLine; decide, fun l2 n2 => ?_⟩
      have g4 := same_upd (o := .lst [tv, pv]) n2
      refine ⟨.ref l2, .list [td, pd], rfl, .lst (SqL.of upd_same) (.cons (dt (But.of g4)) (.cons (dp (But.of g4)) .nil)), w1, w2, w3, w4, ?_⟩
      refine ⟨_, rfl, tv, td, 10, kt, rfl, dt (But.of g4), trt, by omega, by decide, fun X5 lh wh s5 nlh hlh hdh => ⟨_, _, rfl, ?_⟩⟩
      have g35 := g4.trans s5
      have hb5' := g35 _ _ hb5
      have hod5 := g35 _ _ (bA3 _ _ noda hod)
      -- the things
      refine ⟨_, rfl, by show 0 ≤ sizeLine; decide, fun t6 n6 => ⟨by show 0 ≤ sizeLine; decide, fun l6 m6 => ⟨by show 3 ≤ sizeLine; decide, fun l7 m7 => ?_⟩⟩⟩
      have g6 := same_upd (o := .tup []) n6
      have g7 := same_upd (o := .lst []) m6
      have g8 := same_upd (o := .lst [.ref t6, .ref l6, .str ""]) m7
      have g58 := (g6.trans g7).trans g8
      have ht6 := g8 _ _ (g7 _ _ (upd_same (H := X5) (a := t6) (o := .tup [])))
      have hl6 := g8 _ _ (upd_same (H := upd X5 t6 (.tup [])) (a := l6) (o := .lst []))
      have hl7 := upd_same (H := upd (upd X5 t6 (.tup [])) l6 (.lst [])) (a := l7) (o := .lst [.ref t6, .ref l6, .str ""])
      obtain ⟨X8, e8⟩ : ∃ X8, X8 = upd (upd (upd X5 t6 (.tup [])) l6 (.lst [])) l7 (.lst [.ref t6, .ref l6, .str ""]) := ⟨_, rfl⟩
      rw [← e8] at g58 ht6 hl6 hl7 ⊢
      clear g6 g7 g8
      have nt6a : t6 ≠ a := fun z => by
        have z1 := g58 _ _ hb5'
        rw [← z, ht6] at z1
        cases z1
      have nl6a : l6 ≠ a := fun z => by
        rw [z, same_upd n6 _ _ hb5'] at m6
        cases m6
      refine ⟨od, l7, _, _, rfl, rfl, g58 _ _ hod5, hl7, Nat.le_trans (show _ ≤ 13 from by
        rw [los]
        show 10 + 3 ≤ 13
        decide) (by decide), fun l9 n9 => ?_⟩
      have g9 := same_upd (o := .lst (os ++ [.ref t6, .ref l6, .str ""])) n9
      have hl9 := upd_same (H := X8) (a := l9) (o := .lst (os ++ [.ref t6, .ref l6, .str ""]))
      have nl9a : l9 ≠ a := fun z => by
        rw [z, g58 _ _ hb5'] at n9
        cases n9
      obtain ⟨X9, e9⟩ : ∃ X9, X9 = upd X8 l9 (.lst (os ++ [.ref t6, .ref l6, .str ""])) := ⟨_, rfl⟩
      rw [← e9] at g9 hl9 ⊢
      have g59 := g58.trans g9
      have b39 : But a X3 X9 := But.of (g35.trans g59)
      have bA9 := bA3.trans b39
      refine ⟨_, rfl, _, rfl, _, rfl, a, od, tv, td, 10, kt, _, b5, os, rfl, g59 _ _ hb5', hB5, by omega, gt b39, trt, by omega, by decide, SqL.of (g59 _ _ hod5), noda, by omega, by omega, fun x hx => (hodd x hx).same (Off2.but bA9), fun X10 lp wp b6 bt10 nlp hlp hwl hwp hb6 hB6 => ?_⟩
      have b310 := b39.trans bt10
      have bA10 := bA9.trans bt10
      refine ⟨l9, lp, _, _, rfl, rfl, bt10 _ _ nl9a hl9, hlp, Nat.le_trans (show _ ≤ 200 from by
        rw [List.length_append, los]
        show 10 + 3 + wp.length ≤ 200
        omega) (by decide), fun lt nlt => ?_⟩
      have g11 := same_upd (o := .lst (os ++ [.ref t6, .ref l6, .str ""] ++ wp)) nlt
      have hlt := upd_same (H := X10) (a := lt) (o := .lst (os ++ [.ref t6, .ref l6, .str ""] ++ wp))
      obtain ⟨X11, e11⟩ : ∃ X11, X11 = upd X10 lt (.lst (os ++ [.ref t6, .ref l6, .str ""] ++ wp)) := ⟨_, rfl⟩
      rw [← e11] at g11 hlt ⊢
      have b311 := b310.trans (But.of (a := a) g11)
      have bA11 := bA10.trans (But.of (a := a) g11)
      have hthings : ∀ x ∈ os ++ [.ref t6, .ref l6, .str ""] ++ wp, Gv K 6 X11 x := by
        have m56 : ∀ {x : V}, Gv K 5 X11 x → Gv K 6 X11 x := fun {x} ⟨d, h1, h2⟩ => ⟨d, h1, h2.mono⟩
        have b811 : But a X8 X11 := (But.of g9).trans (bt10.trans (But.of g11))
        refine gv_app (gv_app (fun x hx => m56 ((hodd x hx).same ((Off2.but bA11).trans Off2.sub))) fun x hx => ?_) fun x hx => (hwp x hx).same (Off2.sub.trans g11)
        simp only [List.mem_cons, List.not_mem_nil, or_false] at hx
        rcases hx with rfl | rfl | rfl
        · exact ⟨.tuple [], .tup (SqT.of (b811 _ _ nt6a ht6)) .nil, .tup _ (by decide) fun d h => nomatch h⟩
        · exact ⟨.list [], .lst (SqL.of (b811 _ _ nl6a hl6)) .nil, .lst _ (by decide) fun d h => nomatch h⟩
        · exact ⟨_, .str _, .str _ _⟩
      have hb11 := g11 _ _ hb6
      have hd11 : DpAll K X11 wh ((walkW kt [([], td)]).map pathD) := by
        have hd5 : DpAll K (Nw (upd X3 l2 (.lst [tv, pv])) X5) wh ((walkW kt [([], td)]).map pathD) := hdh
        refine dpAll_same (fun c x e => ?_) hd5
        obtain ⟨z1, z2⟩ := Nw.get e
        have nca : c ≠ a := fun z => by
          rw [z, g4 _ _ hb5] at z1
          cases z1
        exact ((But.of (a := a) g59).trans (bt10.trans (But.of g11))) _ _ nca z2
      have hlh11 : X11 lh = some (.lst wh) := by
        have nlha : lh ≠ a := fun z => by
          rw [z, g4 _ _ hb5] at nlh
          cases nlh
        exact ((But.of (a := a) g59).trans (bt10.trans (But.of g11))) _ _ nlha hlh
      obtain ⟨xs, exs⟩ : ∃ xs, xs = os ++ [.ref t6, .ref l6, .str ""] ++ wp := ⟨_, rfl⟩
      rw [← exs] at hlt hthings
      clear exs e11 hwp g9
      refine ⟨lt, rfl, ⟨_, SqL.of hlt⟩, for_list (K := K) (a := lt) (xs := xs) (fun j σ Y => ∃ y8 y9 y10, σ = [some (.ref a), some (.ref l), some (.ref od), some (.int (0 + (i : Nat))), some tv, some pv, some (.str (PyData.shown (.list [td, pd]))), some (.ref lh), y8, y9, y10, none] ∧ Same X11 Y)
        ⟨y8, y9, y10, rfl, Same.refl _⟩ (fun j σ Y _ ⟨_, _, _, _, h⟩ => SqL.of (h _ _ hlt)) ?_ ?_⟩
      · rintro j x σ Y hx ⟨z8, z9, z10, rfl, sY⟩
        obtain ⟨d, hd, sd⟩ := hthings x (List.mem_of_getElem? hx)
        have tY : ∀ {Z : Hp}, Same Y Z → Dp K Z tv td := fun {Z} z => dt (b311.trans (But.of (sY.trans z)))
        have pY : ∀ {Z : Hp}, Same Y Z → Dp K Z pv pd := fun {Z} z => dp (b311.trans (But.of (sY.trans z)))
        have xY : ∀ {Z : Hp}, Same Y Z → Dp K Z x d := fun {Z} z => dp_same (sY.trans z) hd
        refine ⟨fun σ Z => Z = Y ∧ σ = [some (.ref a), some (.ref l), some (.ref od), some (.int (0 + (i : Nat))), some tv, some pv, some (.str (PyData.shown (.list [td, pd]))), some (.ref lh), some x, some (.str (wordOf (thereD td d))), z10, none], ?_, ?_⟩
        · refine ⟨_, rfl, _, rfl, tv, x, td, d, 10, kt, rfl, tY (Same.refl Y), trt, xY (Same.refl Y), _, rfl, ?_⟩
          cases hth : thereD td d with
          | true => exact iteT ⟨rfl, rfl⟩
          | false => exact iteF ⟨rfl, rfl⟩
        · rintro σ Z ⟨rfl, rfl⟩
          refine ⟨_, rfl, _, rfl, _, rfl, tv, x, pv, td, d, 10, kt, rfl, tY (Same.refl _), trt, xY (Same.refl _), sd, fun Y2 lf e1 e2 u1 u2 s2 hlf he1 he2 hu => ?_⟩
          have hE : ∀ (k : Nat) (e : V), [V.ref e1, .ref e2][k]? = some e → ∃ q u, e = .ref q ∧ Y2 q = some (.tup [.str (wordOf (thereD td d)), u]) ∧ [u1, u2][k]? = some u := fun k e he => by
            match k, he with
            | 0, he => cases he; exact ⟨e1, u1, rfl, he1, rfl⟩
            | 1, he => cases he; exact ⟨e2, u2, rfl, he2, rfl⟩
          refine ⟨_, rfl, lf, rfl, ⟨_, SqL.of hlf⟩, fun D nD => ?_⟩
          refine lc_list (K := K) (a := lf) (xs := [.ref e1, .ref e2]) (fun k H' => Same Y2 H' ∧ H' D = some (.lst (List.replicate k (.str (wordOf (thereD td d)))))) ⟨same_upd nD, upd_same⟩ (fun k H' _ h => SqL.of (h.1 _ _ hlf)) ?_ ?_
          · rintro k e H' he ⟨sm, hD⟩
            have hk : k < 2 := (List.getElem?_eq_some_iff.mp he).1
            obtain ⟨q1, u, rfl, hq1, _⟩ := hE k e he
            refine ⟨rfl, yesT ?_⟩
            refine ⟨_, rfl, q1, _, 0, .str (wordOf (thereD td d)), rfl, rfl, SqT.of (sm _ _ hq1), atI_nat (j := 0) rfl, ?_⟩
            refine ⟨_, hD, by rw [List.length_replicate]; exact small1000 (by omega), Same.at_ sm nD, ?_⟩
            rw [upd_same, List.replicate_succ']
          rintro Y3 ⟨s3, hD⟩
          refine ⟨_, rfl, by show 1 ≤ sizeLine; decide, fun l8 n8 => ⟨l8, 2, _, rfl, rfl, upd_same, by decide, by decide, by show 1 * 2 ≤ sizeLine; decide, fun l10 n10 => ?_⟩⟩
          have k8 := same_upd (o := .lst [.str (wordOf (thereD td d))]) n8
          have k10 := same_upd (o := .lst (List.replicate (2 : Int).toNat [V.str (wordOf (thereD td d))]).flatten) n10
          obtain ⟨like1, like2⟩ := words_like (thereD td d)
          refine ⟨.list [.str (wordOf (thereD td d)), .str (wordOf (thereD td d))], .list [.str (wordOf (thereD td d)), .str (wordOf (thereD td d))], .lst (SqL.of (k10 _ _ (k8 _ _ hD))) (.cons (.str _) (.cons (.str _) .nil)), .lst (SqL.of upd_same) (.cons (.str _) (.cons (.str _) .nil)), like1, like1, ?_⟩
          rw [like2]
          refine ⟨_, rfl, iteF ?_⟩
          have s4 := ((s2.trans s3).trans k8).trans k10
          refine ⟨_, rfl, _, rfl, by show 2 ≤ sizeLine; decide, fun l12 n12 => ?_⟩
          have k12 := same_upd (o := .lst [tv, pv]) n12
          refine ⟨.ref l12, .list [td, pd], rfl, .lst (SqL.of upd_same) (.cons (tY (s4.trans k12)) (.cons (pY (s4.trans k12)) .nil)), w1, w2, w3, w4, ?_⟩
          refine ⟨_, rfl, rfl, _, rfl, ifF (by rw [decide_eq_true rfl]; rfl) ?_⟩
          have s5 := s4.trans k12
          have s25 := ((s3.trans k8).trans k10).trans k12
          have hlf5 := s25 _ _ hlf
          obtain ⟨Z5, eZ5⟩ : ∃ Z5, Z5 = upd (upd (upd Y3 l8 (.lst [.str (wordOf (thereD td d))])) l10 (.lst (List.replicate (2 : Int).toNat [V.str (wordOf (thereD td d))]).flatten)) l12 (.lst [tv, pv]) := ⟨_, rfl⟩
          rw [← eZ5] at s5 s25 hlf5 ⊢
          refine ⟨_, rfl, rfl, _, rfl, ?_⟩
          by_cases hth : thereD td d = true
          · exact ifF (by rw [hth]; decide +kernel) ⟨_, _, _, rfl, sY.trans s5⟩
          · have hth : thereD td d = false := by
              cases z : thereD td d with
              | true => exact absurd z hth
              | false => rfl
            obtain ⟨h1, h2⟩ := hu hth
            refine ifT (by rw [hth]; decide +kernel) ?_
            refine ⟨_, rfl, lf, rfl, ⟨_, SqL.of hlf5⟩, fun D2 nD2 => ?_⟩
            refine lc_list (K := K) (a := lf) (xs := [.ref e1, .ref e2]) (fun k H' => Same Z5 H' ∧ H' D2 = some (.lst ([u1, u2].take k))) ⟨same_upd nD2, upd_same⟩ (fun k H' _ h => SqL.of (h.1 _ _ hlf5)) ?_ ?_
            · rintro k e H' he ⟨sm, hD⟩
              have hk : k < 2 := (List.getElem?_eq_some_iff.mp he).1
              obtain ⟨q1, u, rfl, hq1, hu1⟩ := hE k e he
              refine ⟨rfl, yesT ?_⟩
              refine ⟨_, rfl, q1, _, 1, u, rfl, rfl, SqT.of (sm _ _ (s25 _ _ hq1)), atI_nat (j := 1) rfl, ?_⟩
              refine ⟨_, hD, by rw [List.length_take]; exact small1000 (by omega), Same.at_ sm nD2, ?_⟩
              rw [upd_same, List.take_add_one, hu1]
              rfl
            rintro Z6 ⟨s6, hD2⟩
            refine ⟨_, rfl, by show 1 ≤ sizeLine; decide, fun l13 n13 => ⟨l13, 2, _, rfl, rfl, upd_same, by decide, by decide, by show 1 * 2 ≤ sizeLine; decide, fun l14 n14 => ?_⟩⟩
            have k13 := same_upd (o := .lst [x]) n13
            have k14 := same_upd (o := .lst (List.replicate (2 : Int).toNat [x]).flatten) n14
            have s26 := ((s25.trans s6).trans k13).trans k14
            have sY6 := ((s5.trans s6).trans k13).trans k14
            refine ⟨.ref D2, .ref l14, .list [d, d], rfl, .lst (SqL.of (k14 _ _ (k13 _ _ hD2))) (.cons (dp_same s26 h1) (.cons (dp_same s26 h2) .nil)), .lst (SqL.of upd_same) (.cons (xY sY6) (.cons (xY sY6) .nil)), .lst _ (by show 2 ≤ 500; decide) (fun e he => ?_), fun Z8 s8 => ?_⟩
            · simp only [List.mem_cons, List.not_mem_nil, or_false] at he
              rcases he with rfl | rfl <;> exact sd
            · refine ⟨_, rfl, iteF ?_⟩
              exact ⟨_, _, _, rfl, sY.trans (sY6.trans s8)⟩
      · rintro σ Y ⟨z8, z9, z10, rfl, sY⟩
        refine ⟨_, rfl, tv, td, 10, kt, rfl, dt (b311.trans (But.of sY)), trt, by omega, by decide, fun Y2 lk wk s2 nlk hlk hdk => ?_⟩
        obtain ⟨like1, like2⟩ := paths_like (walkW kt [([], td)])
        refine ⟨_, rfl, .list ((walkW kt [([], td)]).map pathD), .list ((walkW kt [([], td)]).map pathD), .lst (SqL.of hlk) (dpAll_same Nw.sub hdk), .lst (SqL.of (s2 _ _ (sY _ _ hlh11))) (dpAll_same (sY.trans s2) hd11), like1, like1, ?_⟩
        rw [like2]
        refine ⟨_, rfl, iteF ?_⟩
        refine ⟨_, _, _, _, _, _, _, _, b6, rfl, bA11.trans (But.of (sY.trans s2)), s2 _ _ (sY _ _ hb11), hB6.mono (by omega)⟩
    · rintro σ X ⟨y3, y4, y5, y6, y7, y8, y9, y10, b2, rfl, btX, hbX, hBX⟩
      exact q _ (btA.trans btX)
end
section
variable {P : Program} {w : World} {K : PySem.W.Frag} {mg : Str → Option Value} {base : Heap}
theorem ok_law6 (T : Ri mg) (c_law_folded : C8.Cal P w K mg base 1 "_law_folded" (spFold K) []) (c_law_dip : C8.Cal P w K mg base 1 "_law_dip" (spDip K) []) (c_law_right : CalG P w K mg base 13 "_law_right" spRight6)
    {f : Addr} {fd : FuncData} (F : L2.Fun K "law" "law" s_law f fd) : FnG P w K mg base 14 f fd ["_law_script"] (spLaw K) := by
  refine fng_of F sc_law (fun vs H Q E h => ?_) (fun cdv A outer s H vs Q E hg hr h => ?_)
  · obtain ⟨a, ns, rfl, _⟩ := h
    rfl
  · obtain ⟨a, ns, rfl, hS, hlen, q⟩ := h
    refine ⟨_, (pss_cons (ps_set (i := 1) sc_law.nd rfl (Or.inr rfl) (C8.pe_c c_law_folded hr (by decide) (by rfl) (pa_cons (pv 0) (pa_cons pe_int pa_nil))))
        (pss_one (ps_ret (pe_callB (cr_all rfl) (by rfl) T.all (by decide +kernel) (pa_cons (pe_lc (own := [("_law_k", 2)]) (by exact rfl) sc_law.nd (pi_range1 rfl T.range (pa_cons (pe_callB (call_max2 rfl) (by rfl) T.max (by decide +kernel) (pa_cons pe_int (pa_cons (pe_callB call_len_seq (by rfl) T.len PySem.boot_len (pa_cons (pv 1) pa_nil)) pa_nil))) pa_nil)) (blkOk_by (own := [("_law_k", 2)]) (N := N_law) (sc := defScope s_law) (by decide +kernel)) (fun _ _ _ _ _ => (pg_name (i := 2) sc_law.nd rfl (Or.inl rfl))) (fun _ _ _ _ _ => pts_nil) (fun _ _ _ _ _ => (pe_cG c_law_right hg hr (by decide) (by rfl) (pa_cons (C8.pe_c c_law_dip hr (by decide) (by rfl) (pa_cons (pv 1) (pa_cons (pv 2) pa_nil))) pa_nil)))) pa_nil))))), ?_⟩
    refine ⟨_, rfl, a, 3, ns, rfl, hS, hlen, by decide, by decide, fun H0 cp ms s1 ncp hcp hml => ?_⟩
    refine ⟨_, rfl, cp, _, rfl, .inl (SqL.of hcp), _, _, rfl, _, rfl, ?_, ?_, fun D nD => ?_⟩
    · rw [List.length_map]
      split <;> omega
    · rw [List.length_map]
      split <;> omega
    have nDc : cp ≠ D := ne_of_none hcp nD
    rw [List.length_map]
    refine lc_range (lo := 0) (fun j H' => H' cp = some (.lst (ms.map V.int)) ∧ H' D = some (.lst ((List.replicate j true).map V.bl))) ⟨same_upd nD _ _ hcp, upd_same⟩ ?_ ?_
    · rintro j H' hj ⟨h1, h2⟩
      rw [Int.zero_add]
      have hj4 : j < 4 := by
        split at hj <;> omega
      refine ⟨rfl, yesT ?_⟩
      refine ⟨_, rfl, _, rfl, cp, j, ms, rfl, SqL.of h1, by omega, fun p b np hB => ?_⟩
      have npc : cp ≠ p := ne_of_none h1 np
      have npD : D ≠ p := ne_of_none h2 np
      refine ⟨p, b, rfl, upd_same, hB, fun H2 bt => ?_⟩
      have g1 := bt _ _ npc (same_upd np _ _ h1)
      have g2 := bt _ _ npD (same_upd np _ _ h2)
      refine ⟨_, g2, by rw [List.length_map, List.length_replicate]; exact small1000 (by omega), by rw [upd_ne nDc]; exact g1, ?_⟩
      rw [upd_same, List.replicate_succ', List.map_append]
      rfl
    · rintro H' ⟨h1, h2⟩
      refine ⟨D, _, rfl, SqL.of h2, ?_⟩
      rw [allTrue]
      exact q _
end
section
variable {w : World} {K : PySem.W.Frag} {h : Heap} {mg : Str → Option Value}
theorem fun_dd {x : Str} {st : Stmt} {ps : List Str} {f : Addr} {oc : Value} {od an : Option Addr} {osl : Array (Option Value)} {kV doc pm cdv ct : Value} (X : K.In h) (G : h.Ns mainGlobals mg) (a : PySem.W.nsIn K mainGlobals x = some (some (.ref f)))
    (l : K.lookup f = some ⟨oc, od, .func (PySem.W.fnOf x x (defArgs st) (defBody st) (defScope st) .none kV doc pm an cdv ct), osl⟩) (c : PySem.W.codeIn K cdv x = true) (k : PySem.W.keepIn K (.ref f) = true)
    (hb : ∀ (kV doc pm : Value) (an : Option Addr) (cdv ct : Value) (us : List Value), us.length = ps.length → bindArgs (PySem.W.fnOf x x (defArgs st) (defBody st) (defScope st) .none kV doc pm an cdv ct) ⟨us, []⟩ = pure (ps.zip us)) : Dd K mg x st ps :=
  ⟨f, _, fun_mk (st := st) l c k, PySem.W.mg_of X G a, (fun_mk (st := st) l c k).binds hb⟩
end
section
variable {w : World} {K : PySem.W.Frag} {h : Heap} {mg : Str → Option Value}
theorem fun_oxd {x qual : Str} {st : Stmt} {ps : List Str} {B newId : String} {C f N : Addr} {oc : Value} {od an : Option Addr} {osl : Array (Option Value)} {kV doc pm cdv ct : Value} {nm q : Str} {bs bm : List Value} {sn : List Str} {sub : List Value} {ab : Bool} {col : Option Bool} {dd : Option Addr} {k0 k1 k2 k3 k5 : Option Value}
    (X : K.In h) (G : h.Ns mainGlobals mg) (a : PySem.W.nsIn K mainGlobals x = some (some (.ref C))) (lC : K.lookup C = some (excClassObj nm q C N bs bm true sn sub ab col dd k0 k1 k2 k3 k5 newId)) (Nw : PySem.Oxb.NewOk newId bm) (FB : PySem.Oxb.InitOk B bm) (M : PySem.Oxb.MroOk (.ref C :: bm))
    (sa : PySem.W.findIn K (.ref C) "__setattr__" = some (some (.builtin "object.__setattr__"))) (exC : PySem.W.subIn K (.ref C) (.type "BaseException") = some true) (tyC : PySem.W.typeIn K (.ref C) = some (.type "type")) (kC : PySem.W.keepIn K (.ref C) = true)
    (iC : PySem.W.findIn K (.ref C) "__init__" = some (some (.ref f))) (tI : PySem.W.typeIn K (.ref f) = some (.type "function"))
    (l : K.lookup f = some ⟨oc, od, .func (PySem.W.fnOf "__init__" qual (defArgs st) (defBody st) (defScope st) .none kV doc pm an cdv ct), osl⟩) (c : PySem.W.codeIn K cdv qual = true) (k : PySem.W.keepIn K (.ref f) = true)
    (hb : ∀ (kV doc pm : Value) (an : Option Addr) (cdv ct : Value) (us : List Value), us.length = ps.length → bindArgs (PySem.W.fnOf "__init__" qual (defArgs st) (defBody st) (defScope st) .none kV doc pm an cdv ct) ⟨us, []⟩ = pure (ps.zip us)) : OxD K mg C B x qual st ps where
  ex := ⟨f, _, fun_mk (st := st) l c k, (fun_mk (st := st) l c k).binds hb, iC, tI⟩
  ox := ⟨⟨nm, q, N, bs, bm, sn, sub, ab, col, dd, k0, k1, k2, k3, k5, newId, lC, Nw, FB, M⟩, sa, exC, tyC, kC⟩
  mg := PySem.W.mg_of X G a
theorem cls_some {D : Addr} (hd : PySem.W.hasDictIn K D = true) : (PySem.W.clsIn K D).isSome = true := by
  obtain ⟨cd, e1, _⟩ := PySem.W.any_some hd
  rw [e1]
  rfl
theorem kit_cls {t : Value} {D : Addr} {b : Bool} (hd : PySem.W.hasDictIn K D = true) (ht : PySem.W.typeIn K (.ref D) = some (.type "type")) (hs : PySem.W.subIn K t (.ref D) = some b) : PySem.W.kitCls K t (.ref D) = some b := by
  show (if ((PySem.W.clsIn K D).isSome && PySem.W.typeIn K (.ref D) == some (.type "type")) = true then PySem.W.subIn K t (.ref D) else none) = some b
  rw [cls_some hd, ht, hs]
  rfl
theorem kit_other {C D : Addr} {b : Bool} (n : (Value.ref C == Value.ref D) = false) (hd : PySem.W.hasDictIn K D = true) (ht : PySem.W.typeIn K (.ref D) = some (.type "type")) (hs : PySem.W.subIn K (.ref C) (.ref D) = some b) : PySem.W.kitOne K (.ref C) (.ref D) = some b := by
  unfold PySem.W.kitOne
  rw [n]
  exact kit_cls hd ht hs
theorem kit_base {C : Addr} {T : String} {b : Bool} (m : PySem.W.kitMeta T = true) (hs : PySem.W.subIn K (.ref C) (.type T) = some b) : PySem.W.kitOne K (.ref C) (.type T) = some b := by
  have n : (Value.ref C == Value.type T) = false := rfl
  unfold PySem.W.kitOne
  rw [n]
  show (if PySem.W.kitMeta T = true then PySem.W.subIn K (.ref C) (.type T) else none) = some b
  rw [if_pos m, hs]
theorem exm_own {t : Value} {D : Addr} {b : Bool} (hB : PySem.W.subIn K (.ref D) (.type "BaseException") = some true) (hd : PySem.W.hasDictIn K D = true) (ht : PySem.W.typeIn K (.ref D) = some (.type "type")) (hs : PySem.W.subIn K t (.ref D) = some b) : PySem.W.exmOne K t (.ref D) = some b := by
  unfold PySem.W.exmOne
  rw [hB]
  exact kit_cls hd ht hs
end
theorem all_mk {l : PySem.W.OpenLaw} {w : World} {K : PySem.W.Frag} {h : Heap} {mg : Str → Option Value} {fa C Y1 Y2 Y3 Y4 Y5 f4 : Addr} (X : K.In h) (G : h.Ns mainGlobals mg) (hfa : mg "law" = some (.ref fa))
    (N : OxD K mg C "IndexError" "NoNode" "NoNode.__init__" s_NoNode N_NoNode) (bV : PySem.W.findCls K (.type "IndexError") (.type "type") "__init__" = some (.val (.builtin "IndexError.__init__")))
    (aY1 : PySem.W.nsIn K mainGlobals "NoName" = some (some (.ref Y1))) (aY2 : PySem.W.nsIn K mainGlobals "NoRow" = some (some (.ref Y2))) (aY3 : PySem.W.nsIn K mainGlobals "NoSpot" = some (some (.ref Y3))) (aY4 : PySem.W.nsIn K mainGlobals "BadText" = some (some (.ref Y4))) (aY5 : PySem.W.nsIn K mainGlobals "NoTree" = some (some (.ref Y5)))
    (e1 : PySem.W.exmOne K (.ref C) (.ref C) = some true) (e2 : XvC K C) (e3 : PySem.W.findIn K (.ref C) "path" = some none) (e5 : PySem.W.kitAny K (.ref C) [.ref Y1, .ref Y2, .ref Y3, .ref Y4, .ref Y5] = some false) (e6 : PySem.W.kitOne K (.ref C) (.type "IndexError") = some true)
    (z0 : PySem.W.nsIn K mainGlobals "len" = some none) (z1 : PySem.W.nsIn K mainGlobals "abs" = some none) (z2 : PySem.W.nsIn K mainGlobals "int" = some none) (z3 : PySem.W.nsIn K mainGlobals "list" = some none) (z4 : PySem.W.nsIn K mainGlobals "enumerate" = some none) (z5 : PySem.W.nsIn K mainGlobals "range" = some none) (z6 : PySem.W.nsIn K mainGlobals "isinstance" = some none) (z7 : PySem.W.nsIn K mainGlobals "bool" = some none) (z8 : PySem.W.nsIn K mainGlobals "all" = some none) (z9 : PySem.W.nsIn K mainGlobals "zip" = some none) (z10 : PySem.W.nsIn K mainGlobals "tuple" = some none) (z11 : PySem.W.nsIn K mainGlobals "str" = some none) (z12 : PySem.W.nsIn K mainGlobals "repr" = some none) (z13 : PySem.W.nsIn K mainGlobals "max" = some none) (z14 : PySem.W.nsIn K mainGlobals "min" = some none) (z15 : PySem.W.nsIn K mainGlobals "reversed" = some none) (z16 : PySem.W.nsIn K mainGlobals "IndexError" = some none)
    (D0 : Dd K mg "own_copy" s_own_copy P_own_copy) (D1 : Dd K mg "is_number" s_is_number P_is_number) (D2 : Dd K mg "walk_of" s_walk_of P_walk_of) (D3 : Dd K mg "nodes_of" s_nodes_of P_nodes_of) (D4 : Dd K mg "way_to" s_way_to P_way_to) (D5 : Dd K mg "part_at" s_part_at P_part_at) (D6 : Dd K mg "put_at" s_put_at P_put_at) (D7 : Dd K mg "_law_take" s__law_take P__law_take) (D8 : Dd K mg "_law_dip" s__law_dip P__law_dip) (D9 : Dd K mg "_law_folded" s__law_folded P__law_folded) (D10 : Dd K mg "_law_one_of" s__law_one_of P__law_one_of) (D11 : Dd K mg "_law_strewn" s__law_strewn P__law_strewn) (D12 : Dd K mg "_law_named" s__law_named P__law_named) (D13 : Dd K mg "_law_number" s__law_number P__law_number) (D14 : Dd K mg "_law_same" s__law_same P__law_same) (D15 : Dd K mg "_law_wild" s__law_wild P__law_wild) (D16 : Dd K mg "_law_is_there" s__law_is_there P__law_is_there) (D17 : Dd K mg "_law_told" s__law_told P__law_told) (D18 : Dd K mg "_law_paths" s__law_paths P__law_paths) (D19 : Dd K mg "_law_right" s__law_right P__law_right)
    {od4 an4 : Option Addr} {sl4 : Array (Option Value)} {oc4 kV4 dc4 pm4 cd4 ct4 : Value}
    (a4 : PySem.W.nsIn K mainGlobals "law" = some (some (.ref f4))) (l4 : K.lookup f4 = some ⟨oc4, od4, .func (PySem.W.fnOf "law" "law" (defArgs s_law) (defBody s_law) (defScope s_law) .none kV4 dc4 pm4 an4 cd4 ct4), sl4⟩) (c4 : PySem.W.codeIn K cd4 "law" = true) (k4 : PySem.W.keepIn K (.ref f4) = true) :
    ∃ fd : FuncData, (∀ (s : Shared) (v : Value), BindsTo s fd ⟨[v], []⟩ [("_law_script", v)]) ∧ ∀ base : Heap, K.In base → base.Ns mainGlobals mg → FnG l.prog w K mg base 14 fa fd ["_law_script"] (spLaw K) := by
  have e := hfa.symm.trans (PySem.W.mg_of X G a4)
  cases e
  have F4 := fun_mk (st := s_law) l4 c4 k4
  have m0 := PySem.W.mg_none_of X G z0
  have m1 := PySem.W.mg_none_of X G z1
  have m2 := PySem.W.mg_none_of X G z2
  have m3 := PySem.W.mg_none_of X G z3
  have m4 := PySem.W.mg_none_of X G z4
  have m5 := PySem.W.mg_none_of X G z5
  have m6 := PySem.W.mg_none_of X G z6
  have m7 := PySem.W.mg_none_of X G z7
  have m8 := PySem.W.mg_none_of X G z8
  have m9 := PySem.W.mg_none_of X G z9
  have m10 := PySem.W.mg_none_of X G z10
  have m11 := PySem.W.mg_none_of X G z11
  have m12 := PySem.W.mg_none_of X G z12
  have m13 := PySem.W.mg_none_of X G z13
  have m14 := PySem.W.mg_none_of X G z14
  have m15 := PySem.W.mg_none_of X G z15
  have m16 := PySem.W.mg_none_of X G z16
  have TB : Bt mg := ⟨m0, m1, m2, m3, m4, m5⟩
  have TO : Ot mg := ⟨m6, m3, m10⟩
  have TS : Sa mg := ⟨m6, m3, m10, m7, m11, m2, m0, m9, m8, m5⟩
  have TW : Wl mg := ⟨m5, m14, m10⟩
  have TN : Nu mg := ⟨m6, m2, m7, m10, m0⟩
  have TP : Pu mg := ⟨m15, m5, m0⟩
  have TK : Wk mg := ⟨m15, m5, m0⟩
  have TT : To mg := ⟨m6, m5, m16⟩
  have TR : Ri mg := ⟨m5, m12, m8, m13, m0⟩
  have NN : Nn K mg C Y1 Y2 Y3 Y4 Y5 := ⟨N.mg, PySem.W.mg_of X G aY1, PySem.W.mg_of X G aY2, PySem.W.mg_of X G aY3, PySem.W.mg_of X G aY4, PySem.W.mg_of X G aY5, e1, e2, ⟨e2.ga, e2.gg, e2.sb, e2.hd⟩, e3, e5, e6⟩
  have bI : BInit K "IndexError" := ⟨by decide +kernel, rfl, by decide +kernel, bV, rfl, by decide +kernel, by decide +kernel⟩
  refine ⟨PySem.W.fnOf "law" "law" (defArgs s_law) (defBody s_law) (defScope s_law) .none kV4 dc4 pm4 an4 cd4 ct4, fun s v => .of_eq rfl, fun base _ _ => ?_⟩
  have cw := ok_ownD (P := l.prog) (w := w) (base := base) TO D0 6
  have ct := ok_take (P := l.prog) (w := w) (base := base) D7
  have co := ok_one_of TB ct D10
  have cn := ok_nodes_of (ok_walk_of (P := l.prog) (w := w) (base := base) TK D2) D3
  have cy := ok_way_to TN (ok_is_number (P := l.prog) (w := w) (base := base) TN D1) N (fun f fd F => ok_NoNode cw F N.ox bI m16 e3) D4
  have cd := ok_told6 TT NN (ok_part_at cy D5) (ok_put_at TP cy D6) D17
  exact ok_law6 TR (ok_folded TB D9) (ok_dip TB D8) (ok_right6 TR ct (ok_named TB ct D12) (ok_wild TW ct co (ok_number ct D13) D15 9) cn (ok_paths TB ct co (ok_strewn TB ct D11) cn D18) (ok_is_there TN D16) cd (ok_same TS D14 7) D19) F4
end Thr
open PySem PySem.W PyProof.Rows
set_option maxRecDepth 100000 in
set_option maxHeartbeats 0 in
theorem PySem.Challenge.cw_threereckons_k16_no_node_there_holds : PySem.Challenge.rw_threereckons_k16_no_node_there.Holds := by
  w_on; o_law; k_head; (case hw => w_witness2)
  k_fill
  refine Thr.walk_ofG (l := PySem.Challenge.rw_threereckons_k16_no_node_there) (n := 63) (k := 14) (x := "_law_script") (sp := fun w => Thr.spLaw _) rfl (by decide) rfl ⟨rfl, by decide, by decide⟩ (fun w h Y => PySem.W.kIn_of Y) ?F (fun _ _ a ns hl _ hS => ⟨a, ns, rfl, hS, hl, fun _ => rfl⟩)
  case F =>
    intro w mg fa h KX G hmg
    refine' Thr.all_mk KX G hmg
      (Thr.fun_oxd (newId := "IndexError.__new__") (bm := [.type "IndexError", .type "LookupError", .type "Exception", .type "BaseException", .type "object"]) KX G ?o1 ?o2 Thr.new_IE Thr.init_IE (Thr.mro_IE _) ?o3 ?o4 ?o5 ?o6 ?o7 ?o8 ?o9 ?o10 ?o11 ?o12) ?bV ?aY1 ?aY2 ?aY3 ?aY4 ?aY5
      (Thr.exm_own ?e1a ?e1b ?e1c ?e1d) ⟨?v1, ?v2, ?v3, ?v4, ?v5, ?v6, ?v7, ?v8⟩ ?e3 (L2.kitAny_cons (b := false) (Thr.kit_other ?qa1 ?qb1 ?qc1 ?qd1) (fun _ => (L2.kitAny_cons (b := false) (Thr.kit_other ?qa2 ?qb2 ?qc2 ?qd2) (fun _ => (L2.kitAny_cons (b := false) (Thr.kit_other ?qa3 ?qb3 ?qc3 ?qd3) (fun _ => (L2.kitAny_cons (b := false) (Thr.kit_other ?qa4 ?qb4 ?qc4 ?qd4) (fun _ => (L2.kitAny_cons (b := false) (Thr.kit_other ?qa5 ?qb5 ?qc5 ?qd5) (fun _ => L2.kitAny_nil) (fun e => nomatch e))) (fun e => nomatch e))) (fun e => nomatch e))) (fun e => nomatch e))) (fun e => nomatch e)) (Thr.kit_base ?e6a ?e6b)
      ?z0 ?z1 ?z2 ?z3 ?z4 ?z5 ?z6 ?z7 ?z8 ?z9 ?z10 ?z11 ?z12 ?z13 ?z14 ?z15 ?z16
      (Thr.fun_dd KX G ?x0 ?w0 ?u0 ?t0 ?s0)
      (Thr.fun_dd KX G ?x1 ?w1 ?u1 ?t1 ?s1)
      (Thr.fun_dd KX G ?x2 ?w2 ?u2 ?t2 ?s2)
      (Thr.fun_dd KX G ?x3 ?w3 ?u3 ?t3 ?s3)
      (Thr.fun_dd KX G ?x4 ?w4 ?u4 ?t4 ?s4)
      (Thr.fun_dd KX G ?x5 ?w5 ?u5 ?t5 ?s5)
      (Thr.fun_dd KX G ?x6 ?w6 ?u6 ?t6 ?s6)
      (Thr.fun_dd KX G ?x7 ?w7 ?u7 ?t7 ?s7)
      (Thr.fun_dd KX G ?x8 ?w8 ?u8 ?t8 ?s8)
      (Thr.fun_dd KX G ?x9 ?w9 ?u9 ?t9 ?s9)
      (Thr.fun_dd KX G ?x10 ?w10 ?u10 ?t10 ?s10)
      (Thr.fun_dd KX G ?x11 ?w11 ?u11 ?t11 ?s11)
      (Thr.fun_dd KX G ?x12 ?w12 ?u12 ?t12 ?s12)
      (Thr.fun_dd KX G ?x13 ?w13 ?u13 ?t13 ?s13)
      (Thr.fun_dd KX G ?x14 ?w14 ?u14 ?t14 ?s14)
      (Thr.fun_dd KX G ?x15 ?w15 ?u15 ?t15 ?s15)
      (Thr.fun_dd KX G ?x16 ?w16 ?u16 ?t16 ?s16)
      (Thr.fun_dd KX G ?x17 ?w17 ?u17 ?t17 ?s17)
      (Thr.fun_dd KX G ?x18 ?w18 ?u18 ?t18 ?s18)
      (Thr.fun_dd KX G ?x19 ?w19 ?u19 ?t19 ?s19)
      ?a4 ?l4 ?c4 ?k4
    (case o1 => k_is)
    (case o2 => k_is)
    (case o3 => k_is)
    (case o4 => k_is)
    (case o5 => k_is)
    (case o6 => k_is)
    (case o7 => k_is)
    (case o8 => k_is)
    (case o9 => k_is)
    (case o10 => k_is)
    (case o11 => k_is)
    (case o12 => exact fun _ _ _ _ _ _ us hl => match us, hl with | [_, _], _ => rfl)
    (case bV => k_is)
    (case aY1 => k_is)
    (case aY2 => k_is)
    (case aY3 => k_is)
    (case aY4 => k_is)
    (case aY5 => k_is)
    (case e1a => k_is)
    (case e1b => k_is)
    (case e1c => k_is)
    (case e1d => k_is)
    (case v1 => k_is)
    (case v2 => k_is)
    (case v3 => k_is)
    (case v4 => k_is)
    (case v5 => k_is)
    (case v6 => k_is)
    (case v7 => k_is)
    (case v8 => k_is)
    (case e3 => k_is)
    (case qa1 => rfl)
    (case qb1 => k_is)
    (case qc1 => k_is)
    (case qd1 => k_is)
    (case qa2 => rfl)
    (case qb2 => k_is)
    (case qc2 => k_is)
    (case qd2 => k_is)
    (case qa3 => rfl)
    (case qb3 => k_is)
    (case qc3 => k_is)
    (case qd3 => k_is)
    (case qa4 => rfl)
    (case qb4 => k_is)
    (case qc4 => k_is)
    (case qd4 => k_is)
    (case qa5 => rfl)
    (case qb5 => k_is)
    (case qc5 => k_is)
    (case qd5 => k_is)
    (case e6a => decide +kernel)
    (case e6b => k_is)
    (case z0 => k_is)
    (case z1 => k_is)
    (case z2 => k_is)
    (case z3 => k_is)
    (case z4 => k_is)
    (case z5 => k_is)
    (case z6 => k_is)
    (case z7 => k_is)
    (case z8 => k_is)
    (case z9 => k_is)
    (case z10 => k_is)
    (case z11 => k_is)
    (case z12 => k_is)
    (case z13 => k_is)
    (case z14 => k_is)
    (case z15 => k_is)
    (case z16 => k_is)
    (case x0 => k_is)
    (case w0 => k_is)
    (case u0 => k_is)
    (case t0 => k_is)
    (case s0 => exact fun _ _ _ _ _ _ us hl => match us, hl with | [_], _ => rfl)
    (case x1 => k_is)
    (case w1 => k_is)
    (case u1 => k_is)
    (case t1 => k_is)
    (case s1 => exact fun _ _ _ _ _ _ us hl => match us, hl with | [_], _ => rfl)
    (case x2 => k_is)
    (case w2 => k_is)
    (case u2 => k_is)
    (case t2 => k_is)
    (case s2 => exact fun _ _ _ _ _ _ us hl => match us, hl with | [_], _ => rfl)
    (case x3 => k_is)
    (case w3 => k_is)
    (case u3 => k_is)
    (case t3 => k_is)
    (case s3 => exact fun _ _ _ _ _ _ us hl => match us, hl with | [_], _ => rfl)
    (case x4 => k_is)
    (case w4 => k_is)
    (case u4 => k_is)
    (case t4 => k_is)
    (case s4 => exact fun _ _ _ _ _ _ us hl => match us, hl with | [_, _], _ => rfl)
    (case x5 => k_is)
    (case w5 => k_is)
    (case u5 => k_is)
    (case t5 => k_is)
    (case s5 => exact fun _ _ _ _ _ _ us hl => match us, hl with | [_, _], _ => rfl)
    (case x6 => k_is)
    (case w6 => k_is)
    (case u6 => k_is)
    (case t6 => k_is)
    (case s6 => exact fun _ _ _ _ _ _ us hl => match us, hl with | [_, _, _], _ => rfl)
    (case x7 => k_is)
    (case w7 => k_is)
    (case u7 => k_is)
    (case t7 => k_is)
    (case s7 => exact fun _ _ _ _ _ _ us hl => match us, hl with | [_, _], _ => rfl)
    (case x8 => k_is)
    (case w8 => k_is)
    (case u8 => k_is)
    (case t8 => k_is)
    (case s8 => exact fun _ _ _ _ _ _ us hl => match us, hl with | [_, _], _ => rfl)
    (case x9 => k_is)
    (case w9 => k_is)
    (case u9 => k_is)
    (case t9 => k_is)
    (case s9 => exact fun _ _ _ _ _ _ us hl => match us, hl with | [_, _], _ => rfl)
    (case x10 => k_is)
    (case w10 => k_is)
    (case u10 => k_is)
    (case t10 => k_is)
    (case s10 => exact fun _ _ _ _ _ _ us hl => match us, hl with | [_, _], _ => rfl)
    (case x11 => k_is)
    (case w11 => k_is)
    (case u11 => k_is)
    (case t11 => k_is)
    (case s11 => exact fun _ _ _ _ _ _ us hl => match us, hl with | [_, _], _ => rfl)
    (case x12 => k_is)
    (case w12 => k_is)
    (case u12 => k_is)
    (case t12 => k_is)
    (case s12 => exact fun _ _ _ _ _ _ us hl => match us, hl with | [_, _], _ => rfl)
    (case x13 => k_is)
    (case w13 => k_is)
    (case u13 => k_is)
    (case t13 => k_is)
    (case s13 => exact fun _ _ _ _ _ _ us hl => match us, hl with | [_], _ => rfl)
    (case x14 => k_is)
    (case w14 => k_is)
    (case u14 => k_is)
    (case t14 => k_is)
    (case s14 => exact fun _ _ _ _ _ _ us hl => match us, hl with | [_, _], _ => rfl)
    (case x15 => k_is)
    (case w15 => k_is)
    (case u15 => k_is)
    (case t15 => k_is)
    (case s15 => exact fun _ _ _ _ _ _ us hl => match us, hl with | [_, _, _, _], _ => rfl)
    (case x16 => k_is)
    (case w16 => k_is)
    (case u16 => k_is)
    (case t16 => k_is)
    (case s16 => exact fun _ _ _ _ _ _ us hl => match us, hl with | [_, _], _ => rfl)
    (case x17 => k_is)
    (case w17 => k_is)
    (case u17 => k_is)
    (case t17 => k_is)
    (case s17 => exact fun _ _ _ _ _ _ us hl => match us, hl with | [_, _, _], _ => rfl)
    (case x18 => k_is)
    (case w18 => k_is)
    (case u18 => k_is)
    (case t18 => k_is)
    (case s18 => exact fun _ _ _ _ _ _ us hl => match us, hl with | [_, _, _], _ => rfl)
    (case x19 => k_is)
    (case w19 => k_is)
    (case u19 => k_is)
    (case t19 => k_is)
    (case s19 => exact fun _ _ _ _ _ _ us hl => match us, hl with | [_], _ => rfl)
    (case a4 => k_is)
    (case l4 => k_is)
    (case c4 => k_is)
    (case k4 => k_is)
