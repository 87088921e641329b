import PyProof.Rows.All
import Wide.All
import OpenK.AllK
import Wide.FinOn
import HandS.ForMost
import HandS.Walk
import HandS.Codes
import HandS.IsInst
import HandS.Defaults
import HandS.Star
import HandS.Flow
import HandS.Style
import HandS.CallLocal
import HandS.More
import HandS.ForExc
import HandS.ExcInit
import HandS.ExcIs
import HandS.ExcField
import KE.KExcIs
import KE.KExcInit
import HandS.Zip
import HandS.DeepEq
import PyProof.Rows.NestShow
import HandS.TupAny
import HandS.RevRange
import HandS.Text
import PyProof.StrLawsRepr
import HandS.StrMore
import KE.IntTextText
import KE.KDictKeyed
import KE.GoesMore
import PyProof.EnumMake
import PyProof.Draws
import HandS.DictComp
import HandS.Conv
import HandS.Deep
import HandS.Dict
import HandS.FStr
import HandS.TryOnly
import HandS.DictTup
import HandS.TupLen
import HandS.SetFor
import HandS.Strs
import HandS.Set
import HandS.Spec
import PyProof.AutoSeq1
import HandS.Sort
import KE.LtData
import KE.DataEq
import HandS.MakeKwOnly
import HandS.TupMul
import HandS.List
import KE.DataMinMax
import PyProof.Claim2Refuses
import HandS.OwnEq
import KE.KCallOwn
import HandS.SortOrd
import HandS.RaiseMore
import KE.GoesNew
import KE.GoesEnum
import PyProof.NeKinds
import HandS.Iter
import KE.DataCmp

import PySem.Challenge.RW_threereckons_k08_grammars_alike
set_option Elab.async false
set_option linter.all false
set_option maxRecDepth 100000
set_option maxHeartbeats 4000000
namespace Thr
open PySem PySem.Spec PyProof.Rows L2
/-! ### heaps -/
theorem same_upd {H : Hp} {p : Addr} {o : HO} (h : H p = none) : Same H (upd H p o) := fun b x e => by
  rw [upd_ne (ne_of_none e h)]
  exact e
/-- all but what stands at a -/
def But (a : Addr) (H H' : Hp) : Prop := ∀ b o, b ≠ a → H b = some o → H' b = some o
theorem But.refl (a : Addr) (H : Hp) : But a H H := fun _ _ _ h => h
theorem But.trans {a : Addr} {H H1 H2 : Hp} (x : But a H H1) (y : But a H1 H2) : But a H H2 := fun b o n h => y b o n (x b o n h)
theorem But.of {a : Addr} {H H' : Hp} (s : Same H H') : But a H H' := fun b o _ h => s b o h
theorem But.upd {a : Addr} {H H' : Hp} {o : HO} (x : But a H H') : But a H (upd H' a o) := fun b u n h => by
  rw [upd_ne n]
  exact x b u n h
theorem But.new {a p : Addr} {H H' : Hp} {o : HO} (x : But a H H') (h : H' p = none) : But a H (L2.upd H' p o) := fun b u n e => by
  have e' := x b u n e
  rw [upd_ne (ne_of_none e' h)]
  exact e'
theorem But.seq {K : PySem.W.Frag} {H H' : Hp} {a b : Addr} {xs : List V} (e : But a H H') (n : b ≠ a) (h : SqL K H b xs) : SqL K H' b xs := by
  rcases h with (h | ⟨o, h⟩) | h
  · exact .inl (.inl (e _ _ n h))
  · exact .inl (.inr ⟨o, e _ _ n h⟩)
  · exact .inr h
/-! ### a def of the top, under its name -/
structure Dd (K : PySem.W.Frag) (mg : Str → Option Value) (x : Str) (st : Stmt) (ps : List Str) : Prop where
  ex : ∃ (f : Addr) (fd : FuncData), L2.Fun K x x st f fd ∧ mg x = some (.ref f) ∧ Binds K fd ps []
section
variable {P : Program} {w : World} {K : PySem.W.Frag} {mg : Str → Option Value} {base : Heap}
theorem Dd.cal {x : Str} {st : Stmt} {N ps : List Str} {k : Nat} {sp : Sp} (D : Dd K mg x st ps) (S : FnScope N ps (defScope st)) (len : ∀ vs H Q E, sp vs H Q E → vs.length = ps.length)
    (hbody : ∀ (f : Addr) (cdv : Value) (A : Around) (outer : List Env) (s : Shared) (H : Hp) (vs : List V) (Q : VK) (E : XK), Room k (A.deeper (envOfC x (defScope st) s.heap.objs.size f cdv)) → sp vs H Q E →
      ∃ t, PSs (cxOf CX0 P w K mg base N x (defScope st) f cdv A outer s H E).nox (defBody st) t ∧ t { nx := fun _ H' => Q .non H', rt := Q } (start N vs) H) : C8.Cal P w K mg base (k + 1) x sp [] := by
  obtain ⟨f, fd, F, g, b⟩ := D.ex
  exact ⟨f, fd, ps, [], F.ok S len (fun cdv A outer s H vs Q E hr h => hbody f cdv A outer s H vs Q E hr h), g, F.kp, b, .nil⟩
end
/-! ### what is drawn from -/
def BoxL (n : Nat) (b : List V) : Prop := ∃ b0 b1 b2 : Int, b = [.int b0, .int b1, .int b2] ∧ 0 ≤ b0 ∧ 0 ≤ b1 ∧ b1 < 4611686018427387904 ∧ 0 ≤ b2 ∧ b2 ≤ n
def spTake : Sp := fun vs H Q _ => ∃ (a : Addr) (many : Int) (n : Nat) (b : List V), vs = [.ref a, .int many] ∧ H a = some (.lst b) ∧ BoxL n b ∧ n < 1000000 ∧ 0 < many ∧ many < 1073741824 ∧
  ∀ (r : Int) (b' : List V), 0 ≤ r → r < many → BoxL (n + 1) b' → Q (.int r) (upd H a (.lst b'))
def spDip (K : PySem.W.Frag) : Sp := fun vs H Q _ => ∃ (a : Addr) (k : Nat) (ns : List Int), vs = [.ref a, .int k] ∧ SqL K H a (ns.map V.int) ∧ k ≤ 63 ∧
  ∀ (p : Addr) (b : List V), H p = none → BoxL 0 b → Q (.ref p) (upd H p (.lst b))
def spFold (K : PySem.W.Frag) : Sp := fun vs H Q _ => ∃ (a : Addr) (size : Nat) (ns : List Int), vs = [.ref a, .int size] ∧ SqL K H a (ns.map V.int) ∧ ns.length ≤ 63 ∧ 1 ≤ size ∧ size ≤ 8 ∧
  ∀ (H' : Hp) (p : Addr) (ms : List Int), Same H H' → H p = none → H' p = some (.lst (ms.map V.int)) → ms.length ≤ size → Q (.ref p) H'
/-- the built-in names that the law uses stand as they were -/
structure Bt (mg : Str → Option Value) : Prop where
  len : mg "len" = none
  abs : mg "abs" = none
  int : mg "int" = none
  list : mg "list" = none
  enumerate : mg "enumerate" = none
  range : mg "range" = none
theorem cut_len (xs : List V) (lo hi : Option Int) : (cutV xs lo hi).length ≤ xs.length := by
  unfold cutV
  rw [List.length_take, List.length_drop]
  omega
theorem cut_ints (ns : List Int) (lo hi : Option Int) : ∃ ms : List Int, cutV (ns.map V.int) lo hi = ms.map V.int ∧ ms.length ≤ ns.length := by
  refine ⟨(ns.drop (HT.sIx (ns.map V.int).length 0 lo)).take (HT.sIx (ns.map V.int).length (ns.map V.int).length hi - HT.sIx (ns.map V.int).length 0 lo), ?_, ?_⟩
  · unfold cutV
    rw [List.map_take, List.map_drop]
  · rw [List.length_take, List.length_drop]
    omega
theorem cut_to (ns : List Int) (size : Nat) : cutV (ns.map V.int) none (some (size : Int)) = (ns.take size).map V.int := by
  unfold cutV
  rw [HT.sIx_none, show HT.sIx (ns.map V.int).length (ns.map V.int).length (some (size : Int)) = min size (ns.map V.int).length from HT.sIx_nat _ _ size, List.map_take, List.length_map]
  show ((ns.map V.int).drop 0).take (min size ns.length - 0) = _
  rw [List.drop_zero, Nat.sub_zero]
  by_cases h : size ≤ ns.length
  · rw [Nat.min_eq_left h]
  · rw [Nat.min_eq_right (by omega), List.take_of_length_le (by rw [List.length_map]; omega), List.take_of_length_le (by rw [List.length_map]; omega)]
theorem cut_from_nil (ns : List Int) (size : Nat) (h : ns.length ≤ size) (hi : Option Int) : cutV (ns.map V.int) (some (size : Int)) hi = [] := by
  unfold cutV
  rw [show HT.sIx (ns.map V.int).length 0 (some (size : Int)) = min size (ns.map V.int).length from HT.sIx_nat _ _ size, List.drop_eq_nil_of_le (by rw [List.length_map]; omega), List.take_nil]
section
variable {X : Cx} {k j n i : Nat} {x : Str} {sp : Sp} {p pos : Pos} {e : Expr} {es : List Expr} {kws : List Keyword} {t tk : TA} {te : TE} {ks : List Str} {gV : List V → List V → List V}
/-! ### what is never reached -/
theorem pe_never {e : Expr} : PE X e (fun _ _ _ => False) := ⟨fun _ _ _ _ _ _ h => h.elim⟩
theorem pt_never {e : Expr} : PT X e (fun _ _ _ => False) := ⟨fun _ _ _ _ _ _ h => h.elim⟩
/-! ### calls with keywords -/
structure KCal (P : Program) (w : World) (K : PySem.W.Frag) (mg : Str → Option Value) (base : Heap) (k : Nat) (x : Str) (sp : Sp) (n : Nat) (ks : List Str) (gV : List V → List V → List V) : Prop where
  ex : ∃ (f : Addr) (fd : FuncData) (ps : List Str) (g : List Value → List Value → List Value), FnOk P w K mg base CX0 k f fd ps sp ∧ mg x = some (.ref f) ∧ PySem.W.keepIn K (.ref f) = true ∧ KBn K fd ps n ks g gV
theorem pe_kw (c : KCal X.prog X.w X.K X.mg X.base k x sp n ks gV) (hr : Room j X.A) (hk : k ≤ j) (hg : Gl X x) (ha : PA X (e :: es) t) (hkw : PK X kws tk)
    (hall : (backToKw pos (keywordEach kws X.env)).all (·.1.isSome) = true := by rfl) (hks : (backToKw pos (keywordEach kws X.env)).filterMap (·.1) = ks := by rfl)
    (hdb : (x == ("__debug__" : Str)) = false := by decide) (he : starEach (e :: es) X.env = (false, eval e X.env) :: starEach es X.env := by rfl)
    (hpl : ((backTo pos (starEach (e :: es) X.env)).any (·.1) || (backToKw pos (keywordEach kws X.env)).any (·.1.isNone)) = false := by rfl) :
    PE X (.Call (.Name x p) (e :: es) kws pos) (tCallN n ks.length sp gV E0 t tk) := by
  obtain ⟨f, fd, ps, g, F, hm, kp, b⟩ := c.ex
  exact pe_callN F (hr.mono hk) hg hm kp b pass0 ha hkw hall hks hdb he hpl
theorem pe_kw0 (c : KCal X.prog X.w X.K X.mg X.base k x sp 0 ks gV) (hr : Room j X.A) (hk : k ≤ j) (hg : Gl X x) (hkw : PK X kws tk)
    (hall : (backToKw pos (keywordEach kws X.env)).all (·.1.isSome) = true := by rfl) (hks : (backToKw pos (keywordEach kws X.env)).filterMap (·.1) = ks := by rfl)
    (hdb : (x == ("__debug__" : Str)) = false := by decide)
    (hpl : ((backTo pos (starEach [] X.env)).any (·.1) || (backToKw pos (keywordEach kws X.env)).any (·.1.isNone)) = false := by rfl) :
    PE X (.Call (.Name x p) [] kws pos) (tCallN 0 ks.length sp gV E0 tNil tk) := by
  obtain ⟨f, fd, ps, g, F, hm, kp, b⟩ := c.ex
  refine ⟨fun pins s σ H Q I h => ?_⟩
  refine wpAny_Call_Name_kw (ld_glob I hg hm ?_ hdb)
  refine PySem.W.callWith_KW0 (h₀ := X.base) I.ok.mod.kin kp hall ?_ hpl
  refine thn (hkw.run pos pins s σ H _ I h) fun ws s2 ⟨zs, H2, I2, rz, l1, l2, q2⟩ => ⟨I2.kIn, ?_⟩
  rw [hks]
  exact run_fnN (us := []) (vs := []) F (hr.mono hk) b pass0 I2 .nil rz rfl l2 q2
/-! ### x(*y), x a local name that holds a def -/
def tCallHS (P : Program) (w : World) (K : PySem.W.Frag) (mg : Str → Option Value) (base : Heap) (k i : Nat) (te : TE) : TE := fun σ H Q => ∃ f sp, σ[i]? = some (some (.ref f)) ∧ Held P w K mg base k f sp ∧
  te σ H fun y H1 => ∃ a xs, y = V.ref a ∧ (SqT K H1 a xs ∨ SqL K H1 a xs) ∧ sp xs H1 Q (fun _ _ _ => False)
theorem pe_callHS {sp_ : Pos} (hr : Room k X.A) (hN : X.N[i]? = some x) (hv : Vis X.env.scope x) (he : PE X e te)
    (hdb : (x == ("__debug__" : Str)) = false := by decide) (hcd : (x == ("__classdict__" : Str)) = false := by decide)
    (hst : starEach [.Starred e sp_] X.env = [(true, eval e X.env)] := by rfl) :
    PE X (.Call (.Name x p) [.Starred e sp_] [] pos) (tCallHS X.prog X.w X.K X.mg X.base k i te) := by
  refine ⟨fun pins s σ H Q I h => ?_⟩
  obtain ⟨f, sp, hs, hH, ht⟩ := h
  obtain ⟨fd, ps, F, hk, hb⟩ := hH.ex
  refine wpAny_Call_Name_kw (thn ((pe_var (pos := p) hN hv hdb hcd).run pins s σ H (fun v H1 => v = .ref f ∧ H1 = H) I ⟨.ref f, hs, rfl, rfl⟩) fun u s1 ⟨v, H1, I1, r1, q1⟩ => ?_)
  obtain ⟨rfl, rfl⟩ := q1
  cases r1
  refine PySem.W.callWith_S (h₀ := X.base) I.ok.mod.kin hk (thn (he.run pins s1 σ _ _ I1 ht) fun v s2 ⟨y, H2, I2, ry, a, xs, ey, hxs, q⟩ => ?_) hst
  subst ey
  obtain rfl : v = Value.ref a := ry
  refine StX.star_any I2 hxs fun us s3 I3 rv => ⟨I3.kIn, ?_⟩
  exact run_fn (E := fun _ _ _ => False) F hr hb .nil (fun _ _ _ _ _ _ _ z => z.elim) I3 rv (by rw [List.append_nil]; exact q)
end
section
variable {K : PySem.W.Frag} {x qual : Str} {params : Arguments} {body : List Stmt} {scope : Scope} {kws : List (Str × V)} {f : Addr} {fd : FuncData} {ps : List Str}
/-- keywords, and keyword-only defaults for those that lack; no other defaults -/
theorem kbinds0 (F : FunD K x qual params body scope [] kws f fd) (n : Nat) (ks : List Str) (g : {α : Type} → List α → List α → List α → List α) (hk : kws ≠ [])
    (hrel : ∀ {vs mz zs : List V} {us mv ws : List Value}, Vals vs us → Vals mz mv → Vals zs ws → Vals (g vs mz zs) (g us mv ws))
    (h : ∀ (D : Addr) (doc pm : Value) (an : Option Addr) (cdv ct : Value) (us mv ws : List Value), us.length = n → mv.length = kws.length → ws.length = ks.length →
      KwChain D ((kws.map (·.1)).zip mv) (bindArgs (PySem.W.fnOf x qual params body scope .none (.ref D) doc pm an cdv ct) ⟨us, ks.zip ws⟩) (ps.zip (g us mv ws))) :
    ∃ mv : List Value, KBn K fd ps n ks (fun us ws => g us mv ws) (fun vs zs => g vs (kws.map (·.2)) zs) := by
  obtain ⟨oc, od, dV, kV, doc, pm, an, cdv, ct, osl, rfl, lk, hcd, hD, hK⟩ := F.ex
  rcases hD with ⟨_, rfl⟩ | ⟨e, _⟩
  · rcases hK with e | ⟨D, rfl, hq⟩
    · exact absurd e hk
    · obtain ⟨mv, hl, rk, hks⟩ := kwd_vals hq
      refine ⟨mv, ⟨fun s us ws X l1 l2 => ?_, fun r1 r2 => hrel r1 rk r2⟩⟩
      exact BindsTo.of_looks fun M => KwChain.looks X hks (h D doc pm an cdv ct us mv ws l1 hl l2)
  · exact absurd rfl e
/-- keywords alone, every parameter named or placed -/
theorem kbindsN (F : FunD K x qual params body scope [] kws f fd) (n : Nat) (ks : List Str) (g : {α : Type} → List α → List α → List α)
    (hrel : ∀ {vs zs : List V} {us ws : List Value}, Vals vs us → Vals zs ws → Vals (g vs zs) (g us ws))
    (h : ∀ (kV doc pm : Value) (an : Option Addr) (cdv ct : Value) (us ws : List Value), us.length = n → ws.length = ks.length →
      bindArgs (PySem.W.fnOf x qual params body scope .none kV doc pm an cdv ct) ⟨us, ks.zip ws⟩ = pure (ps.zip (g us ws))) :
    KBn K fd ps n ks (fun us ws => g us ws) (fun vs zs => g vs zs) := by
  obtain ⟨oc, od, dV, kV, doc, pm, an, cdv, ct, osl, rfl, lk, hcd, hD, hK⟩ := F.ex
  rcases hD with ⟨_, rfl⟩ | ⟨e, _⟩
  · exact ⟨fun s us ws X l1 l2 => .of_eq (h kV doc pm an cdv ct us ws l1 l2), fun r1 r2 => hrel r1 r2⟩
  · exact absurd rfl e
end
/-! ### d.update(e) -/
def rDUpd : V → List V → Hp → VK → Prop := fun x vs H Q => ∃ (a b : Addr) (kvs more : List (Key × V)), x = .ref a ∧ vs = [.ref b] ∧ a ≠ b ∧ H a = some (.dK kvs) ∧ H b = some (.dK more) ∧ kvs.length + more.length ≤ 1000 ∧ Q .non (upd H a (.dK (mergeK kvs more)))
theorem mtd_update {X : Cx} : MtR X "dict.update" rDUpd := by
  intro pins s σ H x vs v us Q I rx rv h
  obtain ⟨a, b, kvs, more, ex, ev, nab, ea, eb, hz, q⟩ := h
  subst ex
  subst ev
  obtain rfl : v = Value.ref a := rx
  obtain ⟨u, eu, ru⟩ := rv.one
  subst eu
  obtain rfl : u = Value.ref b := ru
  obtain ⟨z1, ls1, vs1, r1, d1⟩ := I.hok a _ ea
  obtain ⟨z2, ls2, vs2, r2, d2⟩ := I.hok b _ eb
  have l1 : kvs.length = vs1.length := Paired.length r1
  have l2 : more.length = vs2.length := Paired.length r2
  refine call_meetsIn PySem.F.slot_dict_update d1.typeIs PySem.F.entry_dict_update (PySem.F.args_dict_update_2 _ _) (meets_dict_update (mixKind X.prog X.w) a b nab ls2)
    ⟨vs1, vs2, d1, d2, (by rw [← l1, ← l2]; exact Nat.le_trans hz (by decide)), fun h' hm _ hs => ?_⟩
  refine ⟨.non, upd H a (.dK (mergeK kvs more)), ?_, rfl, q⟩
  have hlen : (mergeK kvs more).length ≤ sizeLine := by
    have := length_mergeK more kvs
    have h2 : (1000 : Nat) ≤ sizeLine := by decide
    omega
  obtain ⟨oo, es', ep', ho', _⟩ := id hm
  exact I.write (t' := s.toks) (e := a) (o := .dK (mergeK kvs more)) (by rw [ea]; trivial) (.inl rfl) (fun c u nc e => (hs.2 c nc).trans e) ⟨oo, ho'⟩ ⟨hlen, ls1, merged vs1 vs2, KV.merge r2 r1, hm⟩
/-! ### an exception that is held as a value: its class, its own dict -/
def exv (a C d : Addr) : HO := .ext fun g => ∃ ob fv, g.get? a = some ob ∧ ob.cls = .ref C ∧ ob.dict = some d ∧ ob.data = .fields fv
theorem exv_ok {P : Program} {w : World} {H : Hp} {g : Heap} {a C d : Addr} {ob : Obj} {fv : Array Value} (h1 : g.get? a = some ob) (h2 : ob.cls = .ref C) (h3 : ob.dict = some d) (h4 : ob.data = .fields fv) : ObjOk P w H g a (exv a C d) :=
  ⟨⟨ob, fv, h1, h2, h3, h4⟩, ⟨ob, h1⟩, fun g1 g2 ⟨o2, f2, e1, e2, e3, e4⟩ k => ⟨o2, f2, k _ e1, e2, e3, e4⟩⟩
theorem exv_at {P : Program} {w : World} {H : Hp} {g : Heap} {a C d : Addr} (ok : HOk P w H g) (e : H a = some (exv a C d)) : ∃ ob fv, g.get? a = some ob ∧ ob.cls = .ref C ∧ ob.dict = some d ∧ ob.data = .fields fv := by
  have z : ObjOk P w H g a (.ext fun g => ∃ ob fv, g.get? a = some ob ∧ ob.cls = .ref C ∧ ob.dict = some d ∧ ob.data = .fields fv) := ok a _ e
  exact z.1
section
variable {X : Cx} {pins : List (Addr × Obj)} {σ : L2.St} {H : Hp} {s : Shared}
/-- an object that was made here and is not yet tracked is tracked from now on -/
theorem inv_track {a : Addr} {u : HO} (I : Inv X pins σ H s) (na : H a = none) (nw : ∀ o, X.s_0.heap.get? a ≠ some o) (nL : a ≠ X.env.locals) (nC : ∀ x c, X.env.cells.lookup x = some c → c ≠ a) (nP : ∀ p ∈ X.pn ++ pins, p.1 ≠ a)
    (new : ObjOk X.prog X.w (upd H a u) s.heap a u) : Inv X pins σ (upd H a u) s where
  ok := I.ok
  os := I.os
  bare := I.bare
  base := {
    keep := I.base.keep
    slot := I.base.slot
    free := fun b o e n hx => by
      have nb : b ≠ a := fun z => nw o (z ▸ e)
      rw [upd_ne nb]
      exact I.base.free b o e n hx
    there := I.base.there
    tups := fun b xs e => by
      have e' := I.base.tups b xs e
      rw [upd_ne (ne_of_none e' na)]
      exact e'
    frzs := fun b o xs e => by
      have e' := I.base.frzs b o xs e
      rw [upd_ne (ne_of_none e' na)]
      exact e'
    tbls := fun b ps e => by
      obtain ⟨m, e'⟩ := I.base.tbls b ps e
      exact ⟨m, by rw [upd_ne (ne_of_none e' na)]; exact e'⟩ }
  loc := I.loc
  cell := I.cell
  free := by
    rw [upd_ne (Ne.symm nL)]
    exact I.free
  freeC := fun x c e => by
    rw [upd_ne (nC x c e)]
    exact I.freeC x c e
  pin := fun p hp => by
    obtain ⟨p1, p2, p3⟩ := I.pin p hp
    exact ⟨p1, by rw [upd_ne (nP p hp)]; exact p2, p3⟩
  hok := fun b o e => by
    by_cases hb : b = a
    · subst hb
      rw [upd_same] at e
      cases e
      exact new
    · rw [upd_ne hb] at e
      exact (I.hok b o e).stay (fun _ _ _ z => z) (fun c z => by rw [upd_ne (ne_of_none z na)]; exact z) (fun c xs z => by rw [upd_ne (ne_of_none z na)]; exact z)
  len := I.len
end
/-- what 'except x as n' wishes, where the exception is tracked behind the suite -/
def wKeep (K : PySem.W.Frag) (c : Value) (i : Nat) (ts : Addr → Value → Option Addr → TS) (Wout : WX) (D : Ends) : WX := fun cls d σ H =>
  ∃ (C dd : Addr) (b : Bool), cls = .ref C ∧ d = some dd ∧ PySem.W.exmOne K cls c = some b ∧
    (b = true → ∀ a, H a = none → ts a cls d { nx := fun σ2 H2 => D.nx (σ2.set i none) (upd H2 a (exv a C dd)), rt := D.rt, bk := fun _ _ => False, ct := fun _ _ => False } (σ.set i (some (.ref a))) H) ∧ (b = false → Wout cls d σ H)
section
variable {X : Cx} {x n : Str} {c : Value} {i : Nat} {body suite : List Stmt} {b0 : Stmt} {np pos pos' : Pos} {tb : WX → TS} {ts : Addr → Value → Option Addr → TS} {Wout : WX}
theorem ps_try_keep (hst : X.stack = X.env :: X.outer) (hfr0 : X.env.frame = some X.env.locals) (hex : X.ex = []) (nd : X.N.Nodup) (hi : X.N[i]? = some n) (hk : X.env.kindOf n = some .local) (hnm : Names X x c) (tk : Takes X Wout)
    (hbody : ∀ (W : WX) (pn : List (Addr × Obj)) (xe : Value → Shared → Prop), Takes (X.tr pn xe) W → PassesOwn (model X.prog X.w) X.A X.env xe → PSs (X.tr pn xe) body (tb W))
    (hsuite : ∀ (a : Addr) (oe : Obj) (cls : Value) (d : Option Addr) (pn : List (Addr × Obj)), Zc cls d oe → (∃ vs, oe.data = .fields vs) → PSs (X.suite a ((a, oe) :: pn)) (b0 :: suite) (ts a cls d)) :
    PS X (.Try body [.ExceptHandler (some (.Name x np)) (some n) (b0 :: suite) pos'] [] [] pos) (fun D σ H => tb (wKeep X.K c i ts Wout D) D σ H) := by
  refine ⟨fun pins s σ H D I rd => ?_⟩
  have okX := I.ok
  have hA : X.A.frames = some (X.env :: X.outer) := okX.frames.trans (congrArg some hst)
  refine wpAny_Try_except (wpAny_mono ((hbody (wKeep X.K c i ts Wout D) (X.pn ++ pins)
    (fun e s1 => wpAny (model X.prog X.w) X.A (noteFrame e X.env) (fun _ s2 => wpAny (model X.prog X.w) X.A (setFlight e none) (fun _ s3 => wpAny (model X.prog X.w) X.A (handleBy e X.env [.ExceptHandler (some (.Name x np)) (some n) (b0 :: suite) pos']) (SP X pins D) X.xe s3) X.xe s2) X.xe s1)
    (fun u t xx => ?_) PassesOwn.looking).run [] s σ H D (I.toTry _) rd) (fun fl s1 hfl => ?_) (fun _ _ z => z))
  · obtain ⟨a, G, sI, pins2, σ2, H2, cls, d, eu, J0, inG, upS, sky0, na, eos, bare, C, dd, b, ecls, ed, hexm, hyes, hno⟩ := xx
    subst eu
    subst ecls
    subst ed
    have J : Inv X pins σ2 H2 sI := J0.ofTry okX
    rw [hst] at sky0
    refine Sky.land Zc.steady hA hfr0 sky0 fun g3 fly3 up3 => ?_
    have J3 : Inv X pins σ2 H2 { t with heap := g3 } := J.landed inG fly3.1 (upS.trans up3) eos bare
    obtain ⟨o3, f3, at3, z3, dat3⟩ := fly3.there
    have offF : a ∉ frs (X.env :: X.outer) := fun hm => by
      obtain ⟨_, ob, eo, nof⟩ := fly3.2.2.1.mem hm
      have eq : o3 = ob := Option.some.inj (at3.symm.trans eo)
      exact nof _ (eq ▸ dat3)
    have nLoc : a ≠ X.env.locals := fun z => offF (List.mem_filterMap.mpr ⟨X.env, List.mem_cons_self, by rw [hfr0, z]⟩)
    have nFs : a ∉ X.fs := fun hm => by
      obtain ⟨ev, hev, qe⟩ := List.mem_filterMap.mp hm
      exact offF (List.mem_filterMap.mpr ⟨ev, List.mem_cons_of_mem _ hev, qe⟩)
    have outG : G.get? a = none := fly3.2.1
    have outI : ∀ o, sI.heap.get? a ≠ some o := fun o z => by
      have z2 := inG a o z (by rw [hst]; exact offF)
      rw [outG] at z2
      cases z2
    have out0 : ∀ o, X.s_0.heap.get? a ≠ some o := fun o z => by
      obtain ⟨o', z2⟩ := J.base.there a o z (by rw [hex]; exact List.not_mem_nil)
      exact outI o' z2
    have noPin : ∀ p ∈ X.pn ++ pins, p.1 ≠ a := fun p hp z => outI p.2 (z ▸ (J.pin p hp).1)
    refine wpAny_handleBy_cons (codeAny_handlers_test ?_) (fun q => by cases q)
    have isT : PySem.W.Looks (model X.prog X.w) g3 (typeOf (.ref a)) (.ref C) := fun _ _ _ _ kp q => wpAny_typeOf_ref (kp _ _ at3) (by rw [z3.1]; exact q)
    have asks := PySem.W.exm_one (M := model X.prog X.w) J3.kIn isT hexm
    have S3 := J3.suite at3 dat3 na nLoc nFs
    have named : ∀ {Q E : Value → Shared → Prop}, Q c { t with heap := g3 } → wpAny (model X.prog X.w) (X.A.mark (some (.ref a))) (eval (.Name x np) X.env) Q E { t with heap := g3 } := fun {Q E} q => by
      obtain ⟨gl, db, way⟩ := hnm
      rcases way with m1 | ⟨m1, m2, m3⟩
      · exact ld_glob (X := X.suite a ((a, o3) :: (X.pn ++ pins))) S3 gl m1 q db
      · exact ld_blt (X := X.suite a ((a, o3) :: (X.pn ++ pins))) S3 gl m1 m2 q m3 db
    refine named (asks.here ?_)
    cases b with
    | true =>
      refine codeAny_handlers_suite_as (HandSPX.lands_againZ fly3 fun g4 fly4 up4 => ?_)
      have J4 : Inv X pins σ2 H2 { t with heap := g4 } := J.landed inG fly4.1 ((upS.trans up3).trans up4) eos bare
      obtain ⟨o4, f4, at4, z4, dat4⟩ := fly4.there
      have S4 := J4.suite at4 dat4 na nLoc nFs
      refine store_ok (X := X.suite a ((a, o4) :: (X.pn ++ pins))) (v := .ref a) S4 nd hi (.inl hk) rfl (fun s5 S5 => ?_) (.inr hk)
      refine wpAny_mono ((hsuite a o4 (.ref C) (some dd) (X.pn ++ pins) z4 ⟨_, dat4⟩).run [] s5 _ H2 _ S5 (hyes rfl a na)) (fun fl s6 hfl => ?_) (fun _ _ z => z.elim)
      cases fl with
      | next =>
        obtain ⟨σ6, H6, S6, q6⟩ := hfl
        refine gone_ok (X := X.suite a ((a, o4) :: (X.pn ++ pins))) S6 nd hi hk fun s7 S7 => ?_
        obtain ⟨at7, na7, _, _, nc7⟩ := S7.pin (a, o4) (by rw [List.append_nil]; exact List.mem_cons_self)
        have J7 : Inv X pins (σ6.set i none) H6 s7 := S7.unsuite okX
        refine ⟨_, _, inv_track (u := exv a C dd) J7 na7 out0 nLoc (fun y cc e z => ?_) noPin (exv_ok at7 z4.1 z4.2 dat4), q6⟩
        obtain ⟨vv, oc, ec, dc⟩ := J7.cell y cc e
        rw [z, at7] at ec
        cases ec
        rw [dat4] at dc
        cases dc
      | ret u =>
        obtain ⟨v6, σ6, H6, S6, r6, q6⟩ := hfl
        exact gone_ok (S6.unsuite okX) nd hi hk fun s7 J7 => ⟨_, _, _, J7, r6, q6⟩
      | brk =>
        obtain ⟨_, _, _, q6⟩ := hfl
        exact q6.elim
      | cont =>
        obtain ⟨_, _, _, q6⟩ := hfl
        exact q6.elim
    | false =>
      refine wpAny_handleBy_nil ?_
      obtain ⟨_, _, _, ob, fv, T, oT, _, eo, _, dat, h1, _⟩ := id fly3
      unfold PySem.passOn
      refine wpAny_bind (wpAny_field eo dat h1 ?_)
      rw [if_neg (show ¬ ((Value.ref T == Value.none) = true) by simp)]
      have leave : wpAny (model X.prog X.w) X.A (setFlight (.ref a) X.env.frame) (fun _ s4 => wpAny (model X.prog X.w) X.A (throw (.ref a) : Sem Flow) (SP X pins D) X.xe s4) X.xe { t with heap := g3 } := by
        rw [hfr0]
        refine HandSPX.setFlight_upZ fly3 fun g4 held4 up4 => wpAny_throw (tk _ _ ⟨a, G, sI, pins, σ2, H2, .ref C, some dd, rfl, J, inG, (upS.trans up3).trans up4, .inr (.inr ?_), na, eos, bare, hno rfl⟩)
        rw [hst]
        exact held4
      first
        | exact wpAny_bind (wpAny_pure (wpAny_bind leave))
        | exact wpAny_bind leave
  · cases fl with
    | next =>
      obtain ⟨σ1, H1, J1, q1⟩ := hfl
      exact wpAny_execs_nil ⟨_, _, J1.ofTry okX, q1⟩
    | brk =>
      obtain ⟨σ1, H1, J1, q1⟩ := hfl
      exact ⟨_, _, J1.ofTry okX, q1⟩
    | cont =>
      obtain ⟨σ1, H1, J1, q1⟩ := hfl
      exact ⟨_, _, J1.ofTry okX, q1⟩
    | ret u =>
      obtain ⟨v1, σ1, H1, J1, r1, q1⟩ := hfl
      exact ⟨_, _, _, J1.ofTry okX, r1, q1⟩
end
/-! ### what such a value bears, and of which class it is -/
structure XvC (K : PySem.W.Frag) (C : Addr) : Prop where
  ga : PySem.W.findIn K (.ref C) "__getattribute__" = some (some (.builtin "BaseException.__getattribute__"))
  gg : PySem.W.findIn K (.ref C) "__getattr__" = some none
  sb : PySem.W.subIn K (.ref C) (.type "BaseException") = some true
  hd : PySem.W.hasDictIn K C = true
  kl : PySem.W.findIn K (.ref C) "__class__" = some (some (.builtin "object.__class__"))
  kg : PySem.W.specialIn K (.builtin "object.__class__") "__get__" = some (some (.builtin "getset_descriptor.__get__"))
  kt : PySem.W.takesIn K (.builtin "object.__class__") = some true
  ob : PySem.W.mroIn K C (.type "object") = some true
def tXv (K : PySem.W.Frag) (f : Str) (te : TE) : TE := fun σ H Q => te σ H fun y H1 => ∃ (a C d : Addr) (fs : List (Str × V)) (v : V), y = .ref a ∧ H1 a = some (exv a C d) ∧ XvC K C ∧ PySem.W.findIn K (.ref C) f = some none ∧ H1 d = some (.xd fs) ∧ fs.lookup f = some v ∧ Q v H1
theorem inst_of {X : Cx} {pins : List (Addr × Obj)} {σ : L2.St} {H : Hp} {s : Shared} {a C d : Addr} {fs : List (Str × V)} (I : Inv X pins σ H s) (ea : H a = some (exv a C d)) (ed : H d = some (.xd fs)) :
    ∃ (ob od : Obj) (mA : Str → Option Value), PySem.W.InstAt s.heap a ob C (some od) ∧ (∀ f, RelO (fs.lookup f) (mA f)) ∧ ∀ nm, PySem.W.lookIn nm od = some (mA nm) := by
  obtain ⟨ob, fv, h1, h2, h3, h4⟩ := exv_at I.hok ea
  obtain ⟨mA, hns, hr⟩ : ObjOk X.prog X.w H s.heap d (.xd fs) := I.hok d _ ed
  obtain ⟨od, ho, hl⟩ := lookIn_ns hns
  refine ⟨ob, od, mA, ⟨h1, h2, ?_, ?_⟩, hr, hl⟩
  · unfold PySem.W.notCls
    rw [h4]
  · rw [h3]
    exact ho
theorem pe_xv {X : Cx} {e : Expr} {te : TE} {pos : Pos} {f : Str} (he : PE X e te) (hb : attributeBase e f X.env (eval e X.env) = eval e X.env := by rfl) : PE X (.Attribute e f pos) (tXv X.K f te) := by
  refine ⟨fun pins s σ H Q I rd => attr_of hb (thn (he.run pins s σ H _ I rd) fun u s1 hh => ?_)⟩
  obtain ⟨y, H1, I1, ry, a, C, d, fs, v, ey, ea, T, hno, ed, hl, q⟩ := hh
  subst ey
  obtain rfl : u = Value.ref a := ry
  obtain ⟨ob, od, mA, J, hr, hlk⟩ := inst_of I1 ea ed
  obtain ⟨u2, e2, r2⟩ := RelO.some_of (v := v) (o := mA f) (by rw [← hl]; exact hr f)
  exact HandSPX.exc_get I1.kIn J T.ga T.gg T.sb (PySem.W.findObj_own T.hd hno rfl (by rw [hlk, e2])) (handed_of r2) ⟨v, H1, I1.tok _, r2, q⟩
/-- isinstance(e, c) -/
def rXvI (K : PySem.W.Frag) : List V → Hp → VK → Prop := fun xs H Q => ∃ (a C d : Addr) (fs : List (Str × V)) (c : V) (cu : Value) (b : Bool), xs = [.ref a, c] ∧ H a = some (exv a C d) ∧ XvC K C ∧ H d = some (.xd fs) ∧ ClsV c cu ∧ PySem.W.kitOne K (.ref C) cu = some b ∧ Q (.bl b) H
theorem call_isXv {X : Cx} : CallR X (.builtin "isinstance") (rXvI X.K) := by
  intro pins s σ H xs us Q I r h
  obtain ⟨a, C, d, fs, c, cu, b, rfl, ea, T, ed, hc, hk, q⟩ := h
  cases r with
  | cons r1 rr =>
    cases rr with
    | cons r2 r3 =>
      cases r3
      cases r1
      have ec := hc.eq r2
      subst ec
      obtain ⟨ob, od, mA, J, hr, hlk⟩ := inst_of I ea ed
      have hcl : (PySem.W.clsIn X.K C).isSome = true := by
        obtain ⟨cd, e1, _⟩ := PySem.W.any_some T.hd
        rw [e1]
        rfl
      exact PySem.W.kia_one (PySem.W.kitx_exc hcl T.ga T.gg T.sb T.kl T.kg T.kt T.ob) I.kIn J hk (fun z => nomatch z) fun tk => ⟨.bl b, H, I.kept (t' := tk) fun _ _ z => z, rfl, q⟩
/-- isinstance(e, (c1, c2, ..)) -/
def rXvT (K : PySem.W.Frag) : List V → Hp → VK → Prop := fun xs H Q => ∃ (a C d tp : Addr) (fs : List (Str × V)) (cs : List V) (cu : List Value) (b : Bool), xs = [.ref a, .ref tp] ∧ H a = some (exv a C d) ∧ XvC K C ∧ H d = some (.xd fs) ∧ H tp = some (.tup cs) ∧ Paired ClsV cs cu ∧
  PySem.W.kitAny K (.ref C) cu = some b ∧ Q (.bl b) H
theorem call_isXvT {X : Cx} : CallR X (.builtin "isinstance") (rXvT X.K) := by
  intro pins s σ H xs us Q I r h
  obtain ⟨a, C, d, tp, fs, cs, cu, b, rfl, ea, T, ed, et, hc, hk, q⟩ := h
  cases r with
  | cons r1 rr =>
    cases rr with
    | cons r2 r3 =>
      cases r3
      cases r1
      cases r2
      obtain ⟨ob, od, mA, J, hr, hlk⟩ := inst_of I ea ed
      have hcl : (PySem.W.clsIn X.K C).isSome = true := by
        obtain ⟨cd, e1, _⟩ := PySem.W.any_some T.hd
        rw [e1]
        rfl
      obtain ⟨hz, its, rv, ⟨c5, d5, t5, s5⟩, p1, p2, n5, p3⟩ : ObjOk X.prog X.w H s.heap tp (.tup cs) := I.hok tp _ et
      have ei := ClsV.all hc rv
      subst ei
      dsimp only at p2 p3
      subst p2 p3
      exact PySem.W.kia_tup (PySem.W.kitx_exc hcl T.ga T.gg T.sb T.kl T.kg T.kt T.ob) I.kIn J p1 hk (fun z => nomatch z) fun tk => ⟨.bl b, H, I.kept (t' := tk) fun _ _ z => z, rfl, q⟩
/-! ### calls with keywords of a def that may let an error out -/
structure KCalX (P : Program) (w : World) (K : PySem.W.Frag) (mg : Str → Option Value) (base : Heap) (k : Nat) (x : Str) (sp : Sp) (n : Nat) (ks : List Str) (gV : List V → List V → List V) : Prop where
  ex : ∃ (f : Addr) (fd : FuncData) (ps : List Str) (g : List Value → List Value → List Value), FnOk P w K mg base (L2.CX P w) k f fd ps sp ∧ mg x = some (.ref f) ∧ PySem.W.keepIn K (.ref f) = true ∧ KBn K fd ps n ks g gV
structure CalX (P : Program) (w : World) (K : PySem.W.Frag) (mg : Str → Option Value) (base : Heap) (k : Nat) (x : Str) (sp : Sp) (dvs : List V) : Prop where
  ex : ∃ (f : Addr) (fd : FuncData) (ps : List Str) (ds : List Value), FnOk P w K mg base (L2.CX P w) k f fd ps sp ∧ mg x = some (.ref f) ∧ PySem.W.keepIn K (.ref f) = true ∧ Binds K fd ps ds ∧ Vals dvs ds
theorem passX {X : Cx} : Passes (L2.CX X.prog X.w) X (fun _ _ _ => False) := fun _ _ _ _ _ _ _ h => by
  obtain ⟨_, _, _, _, _, _, _, _, _, _, _, _, z⟩ := h
  exact z.elim
section
variable {X : Cx} {k j n : Nat} {x : Str} {sp : Sp} {p pos : Pos} {e : Expr} {es : List Expr} {kws : List Keyword} {t tk : TA} {ks : List Str} {gV : List V → List V → List V} {dvs : List V}
theorem pe_cX (c : CalX X.prog X.w X.K X.mg X.base k x sp dvs) (hr : Room j X.A) (hk : k ≤ j) (hg : Gl X x) (ha : PA X (e :: es) t)
    (hdb : (x == ("__debug__" : Str)) = false := by decide) (he : starEach (e :: es) X.env = (false, eval e X.env) :: starEach es X.env := by rfl) (hpl : (backTo pos (starEach es X.env)).any (·.1) = false := by rfl) :
    PE X (.Call (.Name x p) (e :: es) [] pos) (tCall sp dvs (fun _ _ _ => False) t) := by
  obtain ⟨f, fd, ps, ds, F, hm, kp, b, d⟩ := c.ex
  exact pe_call F (hr.mono hk) hg hm kp b d passX ha hdb he hpl
theorem pe_kwX (c : KCalX X.prog X.w X.K X.mg X.base k x sp n ks gV) (hr : Room j X.A) (hk : k ≤ j) (hg : Gl X x) (ha : PA X (e :: es) t) (hkw : PK X kws tk)
    (hall : (backToKw pos (keywordEach kws X.env)).all (·.1.isSome) = true := by rfl) (hks : (backToKw pos (keywordEach kws X.env)).filterMap (·.1) = ks := by rfl)
    (hdb : (x == ("__debug__" : Str)) = false := by decide) (he : starEach (e :: es) X.env = (false, eval e X.env) :: starEach es X.env := by rfl)
    (hpl : ((backTo pos (starEach (e :: es) X.env)).any (·.1) || (backToKw pos (keywordEach kws X.env)).any (·.1.isNone)) = false := by rfl) :
    PE X (.Call (.Name x p) (e :: es) kws pos) (tCallN n ks.length sp gV (fun _ _ _ => False) t tk) := by
  obtain ⟨f, fd, ps, g, F, hm, kp, b⟩ := c.ex
  exact pe_callN F (hr.mono hk) hg hm kp b passX ha hkw hall hks hdb he hpl
theorem pe_kw0X (c : KCalX X.prog X.w X.K X.mg X.base k x sp 0 ks gV) (hr : Room j X.A) (hk : k ≤ j) (hg : Gl X x) (hkw : PK X kws tk)
    (hall : (backToKw pos (keywordEach kws X.env)).all (·.1.isSome) = true := by rfl) (hks : (backToKw pos (keywordEach kws X.env)).filterMap (·.1) = ks := by rfl)
    (hdb : (x == ("__debug__" : Str)) = false := by decide)
    (hpl : ((backTo pos (starEach [] X.env)).any (·.1) || (backToKw pos (keywordEach kws X.env)).any (·.1.isNone)) = false := by rfl) :
    PE X (.Call (.Name x p) [] kws pos) (tCallN 0 ks.length sp gV (fun _ _ _ => False) tNil tk) := by
  obtain ⟨f, fd, ps, g, F, hm, kp, b⟩ := c.ex
  refine ⟨fun pins s σ H Q I h => ?_⟩
  refine wpAny_Call_Name_kw (ld_glob I hg hm ?_ hdb)
  refine PySem.W.callWith_KW0 (h₀ := X.base) I.ok.mod.kin kp hall ?_ hpl
  refine thn (hkw.run pos pins s σ H _ I h) fun ws s2 ⟨zs, H2, I2, rz, l1, l2, q2⟩ => ⟨I2.kIn, ?_⟩
  rw [hks]
  exact run_fnN (us := []) (vs := []) F (hr.mono hk) b passX I2 .nil rz rfl l2 q2
/-- what it lets out is wished for at the caller's slots -/
def tCallNT (n m : Nat) (sp : Sp) (gV : List V → List V → List V) (W : WX) (t tk : TA) : TE := fun σ H Q => t σ H fun vs H1 => tk σ H1 fun zs H2 => vs.length = n ∧ zs.length = m ∧ sp (gV vs zs) H2 Q (WE W σ)
theorem pe_kwT {W : WX} (c : KCalX X.prog X.w X.K X.mg X.base k x sp n ks gV) (hr : Room j X.A) (hk : k ≤ j) (hg : Gl X x) (tkw : Takes X W) (ha : PA X (e :: es) t) (hkw : PK X kws tk)
    (hall : (backToKw pos (keywordEach kws X.env)).all (·.1.isSome) = true := by rfl) (hks : (backToKw pos (keywordEach kws X.env)).filterMap (·.1) = ks := by rfl)
    (hdb : (x == ("__debug__" : Str)) = false := by decide) (he : starEach (e :: es) X.env = (false, eval e X.env) :: starEach es X.env := by rfl)
    (hpl : ((backTo pos (starEach (e :: es) X.env)).any (·.1) || (backToKw pos (keywordEach kws X.env)).any (·.1.isNone)) = false := by rfl) :
    PE X (.Call (.Name x p) (e :: es) kws pos) (tCallNT n ks.length sp gV W t tk) := by
  obtain ⟨f, fd, ps, g, F, hm, kp, b⟩ := c.ex
  refine ⟨fun pins s σ H Q I h => ?_⟩
  refine wpAny_Call_Name_kw (ld_glob I hg hm ?_ hdb)
  refine PySem.W.callWith_KW (h₀ := X.base) I.ok.mod.kin kp hall (thn (ha.run pos pins s σ H _ I h) fun us s1 ⟨vs, H1, I1, r, q⟩ => ?_) hpl he
  refine thn (hkw.run pos pins s1 σ H1 _ I1 q) fun ws s2 ⟨zs, H2, I2, rz, l1, l2, q2⟩ => ⟨I2.kIn, ?_⟩
  rw [hks]
  have r2 := b.rel r rz
  refine wpAny_call (codeAny_mono (F.run X.A X.stack s2 H2 ⟨us, ks.zip ws⟩ (g us ws) (gV vs zs) Q (WE W σ) (hr.mono hk) I2.env0 (b.to s2 us ws I2.kIn (r.length.symm.trans l1) (rz.length.symm.trans l2)) r2 q2) fun res s' hq => ?_)
  cases res with
  | error er => exact passAt tkw σ pins H2 s2 er s' I2 hq
  | ok fl =>
    cases fl with
    | ret u => exact I2.after hq
    | next => exact hq.elim
    | brk => exact hq.elim
    | cont => exact hq.elim
end
end Thr
namespace PySem
namespace Oxb
open PySem.W PySem.Calls PyProof.Rows PySem.HandSPX
section
open Builtin Builtin.ObjectAttr
variable {prog : Program} {w : World} {A : Around} {R : Result → Shared → Prop} {h0 : Heap} {gs : Array GenState} {dr : Drawn} {tn : Nat} {os : OsState}
/-- the mro of such a class lets a field be stored -/
structure MroOk (m : List Value) : Prop where
  pass : ∀ self, refuseLoop self "__setattr__" m = pure ()
  obj : m.contains (.type "object") = true
  full : m.isEmpty = false
theorem sub_obj {K : W.Frag} {e C : Addr} {ob : Obj} {od : Option Obj} {cd : ClassData} (X : K.In h0) (I : W.InstAt h0 e ob C od) (hcd : W.clsIn K C = some cd) (hm : MroOk cd.mro) : W.Looks (model prog w) h0 (isInstance (.ref e) (.type "object")) true := by
  refine I.type.andThen (W.looks_mroIn X ?_)
  unfold W.mroIn
  rw [hcd, Option.bind_some, if_neg (by rw [hm.full]; decide), hm.obj]
/-- the first field: the dict is laid -/
theorem store_first {K : W.Frag} {nm : Str} {tk : Tok} {v : Value} {e C : Addr} {fv : Array Value} {cd : ClassData} (X : K.In h0) (he : h0.get? e = some { cls := .ref C, data := .fields fv }) (hcd : W.clsIn K C = some cd) (hm : MroOk cd.mro) (hh : cd.hasDict = true) (ha : W.findIn K (.ref C) nm = some none)
    (hq : ∀ h1 t1 dx, (∀ b o, b ≠ e → h0.get? b = some o → h1.get? b = some o) → h0.objs.size ≤ dx → dx ≠ e → h1.get? e = some { cls := .ref C, dict := some dx, data := .fields fv } → h1.Ns1 dx (fun y => if y = nm then some v else none) → R (.ok (.ret .none)) ⟨h1, gs, dr, t1, os⟩) :
    codeAny (model prog w) A (.call (.builtin "object.__setattr__") ⟨[.ref e, .str nm tk, v], []⟩) R ⟨h0, gs, dr, tn, os⟩ := by
  have J : W.InstAt h0 e { cls := .ref C, data := .fields fv } C none := ⟨he, rfl, rfl, trivial⟩
  have hes : e ≠ h0.objs.size := Nat.ne_of_lt (Heap.lt_size he)
  have L1 : W.Looks (model prog w) h0 (mroOf (.ref C)) cd.mro := (W.looks_clsIn X hcd).andThen .now
  have L2 : W.Looks (model prog w) h0 (storeTaker? none) none := .now
  have L4 : W.Looks (model prog w) h0 (classData C) cd := W.looks_clsIn X hcd
  refine codeAny_call_builtin F.store_object.slot.plain F.store_object.entry (@W.check_slot (model prog w) _ _ ⟨h0, gs, dr, tn, os⟩ "object.__setattr__" "object" "__setattr__" (.ref e) [.str nm tk, v] [] _ F.store_object.kind F.store_object.split (sub_obj X J hcd hm) (F.store_object.args (.ref e) (.str nm tk) v) ?_)
  rw [W.osa_eq, refuse_eq]
  refine wpAny_bind (wpAny_bind (J.type.at (wpAny_bind (L1.at ?_))))
  rw [hm.pass]
  refine wpAny_pure (wpAny_bind (J.type.at (wpAny_bind ((W.looks_findIn X ha).at (wpAny_bind (L2.at ?_))))))
  show wpAny _ _ (storeInOwnDict (.ref e) (.ref C) (.str nm tk) nm v false) _ _ _
  obtain ⟨c1, c2, c3, c4, c5, c6, c7, c8, c9, c10, c11⟩ := cd
  dsimp only at hh
  subst hh
  unfold storeInOwnDict ownDictForStores
  repeat (first | with_reducible refine store_in_new ?_ ?_ | with_reducible refine wpAny_loadPart_at he ?_ | with_reducible refine L4.at ?_ | wp_step)
  · exact ⟨_, #[], _, (Heap.get?_update_ne _ _ _ _ hes.symm).trans (Heap.get?_push_at rfl rfl), rfl, fun x hx => absurd hx (by simp), fun _ => rfl⟩
  · intro h1 t1 hn hs
    have he1 : (h0.push { cls := .type "dict", data := .dict #[] }).get? e = some { cls := .ref C, data := .fields fv } := Heap.get?_push_of_some _ he
    refine hq h1 t1 h0.objs.size (fun b o hb ho => ?_) (Nat.le_refl _) hes.symm ((hs.2 e hes).trans (Heap.get?_update_self _ he1 rfl)) hn
    exact (hs.2 b (Nat.ne_of_lt (Heap.lt_size ho))).trans ((Heap.get?_update_ne _ _ _ _ hb).trans (Heap.get?_push_of_some _ ho))
/-- a further field -/
theorem store_more {K : W.Frag} {nm : Str} {tk : Tok} {v : Value} {e C dx : Addr} {fv : Array Value} {cd : ClassData} {m0 : Str → Option Value} {nl : List Str} (X : K.In h0) (he : h0.get? e = some { cls := .ref C, dict := some dx, data := .fields fv }) (hns : h0.Ns1 dx m0) (hw : Within m0 nl) (hz : nl.length ≤ 1000)
    (hcd : W.clsIn K C = some cd) (hm : MroOk cd.mro) (hh : cd.hasDict = true) (ha : W.findIn K (.ref C) nm = some none)
    (hq : ∀ h1 t1, (∀ b o, b ≠ dx → h0.get? b = some o → h1.get? b = some o) → h1.Ns1 dx (fun y => if y = nm then some v else m0 y) → R (.ok (.ret .none)) ⟨h1, gs, dr, t1, os⟩) :
    codeAny (model prog w) A (.call (.builtin "object.__setattr__") ⟨[.ref e, .str nm tk, v], []⟩) R ⟨h0, gs, dr, tn, os⟩ := by
  obtain ⟨oD, esD, epD, hoD, _, _⟩ := hns.count hw
  have J : W.InstAt h0 e { cls := .ref C, dict := some dx, data := .fields fv } C (some oD) := ⟨he, rfl, rfl, hoD⟩
  have L1 : W.Looks (model prog w) h0 (mroOf (.ref C)) cd.mro := (W.looks_clsIn X hcd).andThen .now
  have L2 : W.Looks (model prog w) h0 (storeTaker? none) none := .now
  have L4 : W.Looks (model prog w) h0 (classData C) cd := W.looks_clsIn X hcd
  refine codeAny_call_builtin F.store_object.slot.plain F.store_object.entry (@W.check_slot (model prog w) _ _ ⟨h0, gs, dr, tn, os⟩ "object.__setattr__" "object" "__setattr__" (.ref e) [.str nm tk, v] [] _ F.store_object.kind F.store_object.split (sub_obj X J hcd hm) (F.store_object.args (.ref e) (.str nm tk) v) ?_)
  rw [W.osa_eq, refuse_eq]
  refine wpAny_bind (wpAny_bind (J.type.at (wpAny_bind (L1.at ?_))))
  rw [hm.pass]
  refine wpAny_pure (wpAny_bind (J.type.at (wpAny_bind ((W.looks_findIn X ha).at (wpAny_bind (L2.at ?_))))))
  show wpAny _ _ (storeInOwnDict (.ref e) (.ref C) (.str nm tk) nm v false) _ _ _
  obtain ⟨c1, c2, c3, c4, c5, c6, c7, c8, c9, c10, c11⟩ := cd
  dsimp only at hh
  subst hh
  unfold storeInOwnDict ownDictForStores
  repeat (first | with_reducible refine PySem.OEX.store_in_old hns hw hz ?_ | with_reducible refine wpAny_loadPart_at he ?_ | with_reducible refine L4.at ?_ | wp_step)
  exact fun h1 t1 hn hs => hq h1 t1 (fun b o hb ho => (hs.2 b hb).trans ho) hn
end
/-! ### making such an error: the built-in __new__ that it inherits, then its own __init__ -/
structure NewOk (newId : String) (bm : List Value) : Prop where
  ex : ∃ (Bn initn : String) (bn : List Value), ExcBaseFacts Bn newId initn bn ∧ bm.contains (.type Bn) = true ∧ bm.contains (.type "AttributeError") = false ∧ bm.contains (.type "NameError") = false
structure InitOk (B : String) (bm : List Value) : Prop where
  plain : plainId (B ++ ".__init__") = true
  entry : entryFor table (B ++ ".__init__") = some Builtin.«BaseException.__init__»
  kind : builtinKind (B ++ ".__init__") = some .slot
  split : splitId (B ++ ".__init__") = some (B, "__init__")
  row : Manifest.signature? (B ++ ".__init__") = some ⟨.positional, "*", B, .self, [⟨"args", .varPos, false⟩]⟩
  star : (B != "*") = true
  has : bm.contains (.type B) = true
section
variable {prog : Program} {w : World} {A : Around} {E : Value → Shared → Prop} {R : Result → Shared → Prop} {hp : Heap} {ga : Array GenState} {dw : Drawn} {tn : Nat} {os : OsState}
variable {n1 n2 : Str} {C N : Addr} {b1 bm : List Value} {hd : Bool} {s1 : List Str} {s2 : List Value} {ab : Bool} {co : Option Bool} {d1 : Option Addr} {k0 k1 k2 k3 k5 : Option Value} {B newId : String}
theorem init_any (I : InitOk B bm) {e t0 : Addr} {more : List Value} (hC : hp.get? C = some (excClassObj n1 n2 C N b1 bm hd s1 s2 ab co d1 k0 k1 k2 k3 k5 newId)) (he : hp.get? e = some (excO C t0)) (hl : more.length ≤ sizeLine)
    (hq : ∀ h2 t2, (∀ b o, b ≠ e → hp.get? b = some o → h2.get? b = some o) → h2.get? e = some (excO C t2) → R (.ok (.ret .none)) ⟨h2, ga, dw, tn, os⟩) :
    codeAny (model prog w) A (.call (.builtin (B ++ ".__init__")) ⟨.ref e :: more, []⟩) R ⟨hp, ga, dw, tn, os⟩ := by
  have hin : (Value.ref C :: bm).contains (.type B) = true := by
    rw [List.contains_cons, I.has, Bool.or_true]
  have hst := I.star
  refine codeAny_call_builtin I.plain I.entry ?_
  have chk : ∀ {Q : Unit → Shared → Prop} {E : Value → Shared → Prop} {A : Around}, Q () ⟨hp, ga, dw, tn, os⟩ → wpAny (model prog w) A (checkBuiltinCall (B ++ ".__init__") ⟨.ref e :: more, []⟩) Q E ⟨hp, ga, dw, tn, os⟩ := fun {Q E A} q => by
    simp only [checkBuiltinCall, I.kind, I.split, I.row]
    repeat (first | (with_reducible refine wpAny_loadPart_at he ?_) | with_reducible refine wpAny_loadPart_at hC ?_ | (with_reducible refine wpAny_isSubtype_exc hC ?_; rw [hin]) | wp_step)
    refine wpAny_onRaise ?_
    rw [show ∀ (x y : String) (n : Nat), Bind.check ⟨.positional, "*", B, .self, [⟨"args", .varPos, false⟩]⟩ x y n (List.map (fun z => z.fst) ({ pos := Value.ref e :: more } : Args).kw) = pure () from
      fun _ _ _ => check_star_args _ _ _ _ _ _]
    exact wpAny_pure q
  refine chk ?_
  wp_walk
  refine hq _ hp.objs.size (fun b o hb ho => ?_) ?_
  · exact (Heap.get?_update_other _ _ (Ne.symm hb)).trans (Heap.get?_push_of_some _ ho)
  · exact Heap.get?_update_self _ (Heap.get?_push_of_some _ he) rfl
theorem new_any (Nw : NewOk newId bm) {more : List Value} (hC : hp.get? C = some (excClassObj n1 n2 C N b1 bm hd s1 s2 ab co d1 k0 k1 k2 k3 k5 newId)) (hl : more.length ≤ sizeLine)
    (hq : R (.ok (.ret (.ref (hp.objs.size + 1)))) ⟨(hp.push { cls := .type "tuple", data := .seq more.toArray }).push { cls := .ref C, data := .fields #[.ref hp.objs.size, .none, .none, .none, .bool false, .none] }, ga, dw, tn, os⟩) :
    codeAny (model prog w) A (.builtin newId ⟨.ref C :: more, []⟩) R ⟨hp, ga, dw, tn, os⟩ := by
  obtain ⟨Bn, initn, bn, FB, c1, c2, c3⟩ := Nw.ex
  have e0 := FB.ends
  have e1 : (Value.ref C :: bm).contains (.type Bn) = true := by
    rw [List.contains_cons, c1, Bool.or_true]
  have e2 : (Value.ref C :: bm).contains (.type "AttributeError") = false := by
    rw [List.contains_cons, c2]
    rfl
  have e3 : (Value.ref C :: bm).contains (.type "NameError") = false := by
    rw [List.contains_cons, c3]
    rfl
  refine codeAny_builtinAt FB.entry ?_
  unfold Builtin.«BaseException.__new__»
  refine wpAt_bind ?_
  show wpAt _ _ _ (stack >>= _) _ _ _
  refine wpAt_bind (wpAt_stack fun p below => wpAt_of_wpAny ?_)
  wp_walk
  refine wpAt_of_wpAny ?_
  rw [FB.owner]
  repeat (first | with_reducible refine wpAny_madeHere_exc FB.canon hC ?_ | with_reducible refine wpAny_loadPart_at hC ?_ | (with_reducible refine wpAny_isSubtype_exc hC ?_; first | rw [e1] | rw [e2] | rw [e3]) | wp_step)
  show R _ _
  rw [Heap.size_push]
  exact hq
theorem check_any (Nw : NewOk newId bm) {M : Model} {more : List Value} {Q : Unit → Shared → Prop} (hC : hp.get? C = some (excClassObj n1 n2 C N b1 bm hd s1 s2 ab co d1 k0 k1 k2 k3 k5 newId)) (q : Q () ⟨hp, ga, dw, tn, os⟩) :
    wpAny M A (checkBuiltinCall newId ⟨.ref C :: more, []⟩) Q E ⟨hp, ga, dw, tn, os⟩ := by
  obtain ⟨Bn, initn, bn, FB, c1, c2, c3⟩ := Nw.ex
  have e1 : (Value.ref C :: bm).contains (.type Bn) = true := by
    rw [List.contains_cons, c1, Bool.or_true]
  have e0 := FB.noStar
  simp only [checkBuiltinCall, FB.newKind, FB.newSplit, FB.newRow]
  repeat (first | refine wpAny_loadPart_at hC ?_ | (refine wpAny_isSubtype_exc hC ?_; rw [e1]) | refine wpAny_staticBase_exc hC ?_ | refine wpAny_madeBy_exc hC ?_ | simp only [bne_self_eq_false, Bool.false_eq_true, if_false] | wp_step)
  exact q
theorem typeCall_any (Nw : NewOk newId bm) {more : List Value} {fI : Addr} {Q : Fin → Shared → Prop} (hC : hp.get? C = some (excClassObj n1 n2 C N b1 bm hd s1 s2 ab co d1 k0 k1 k2 k3 k5 newId))
    (hi : W.Looks (model prog w) hp (typeLookup (.ref C) "__init__") (some (.ref fI))) (hb : ∀ self, W.Looks (model prog w) hp (bindSpecial (.ref fI) self) (.ref fI, [self])) (hl : more.length ≤ sizeLine)
    (hq : codeAny (model prog w) A (.call (.ref fI) ⟨.ref (hp.objs.size + 1) :: more, []⟩) (fun res z => match res with | .ok (.ret v) => v = .none ∧ Q (.done (.ret (.ref (hp.objs.size + 1)))) z | .ok _ => False | .error er => E er z) ⟨(hp.push (W.kdv_tup more)).push (excO C hp.objs.size), ga, dw, tn, os⟩) :
    wpAny (model prog w) A (Builtin.«type.__call__» ⟨.ref C :: more, []⟩) Q E ⟨hp, ga, dw, tn, os⟩ := by
  obtain ⟨Bn, initn, bn, FB, _, _, _⟩ := id Nw.ex
  repeat (first | with_reducible refine wpAny_loadPart_at hC ?_ | with_reducible refine wpAny_madeBy_exc hC ?_ | wp_step)
  refine codeAny_call_builtin_code (Code.quiet_builtin _ FB.quiet) (check_any Nw hC ?_)
  refine new_any Nw hC hl ?_
  show wpAny _ _ _ _ _ _
  have up : ∀ b o, hp.get? b = some o → ((hp.push (W.kdv_tup more)).push (excO C hp.objs.size)).get? b = some o := fun b o z => Heap.get?_push_of_some _ (Heap.get?_push_of_some _ z)
  have hC2 := up _ _ hC
  have hE : ((hp.push (W.kdv_tup more)).push (excO C hp.objs.size)).get? (hp.objs.size + 1) = some (excO C hp.objs.size) := by heap_get
  have self_in : (Value.ref C :: bm).contains (.ref C) = true := by simp
  have l1 := hi.keeps up
  have l2 := (hb (.ref (hp.objs.size + 1))).keeps up
  unfold isInstance
  repeat (first | with_reducible refine wpAny_loadPart_at hE ?_ | (with_reducible refine wpAny_isSubtype_exc hC2 ?_; rw [self_in]) | wp_step)
  show wpAny _ _ (typeLookup (.ref C) _) _ _ _
  refine l1.at (wpAny_holding (wpAny_bind (l2.at ?_)))
  refine wpAny_bind (wpAny_call (codeAny_mono hq fun res z q => ?_))
  rcases res with er | (v | _ | _ | _) <;> first | exact q | exact q.elim | skip
  obtain ⟨rfl, q⟩ := q
  first
    | exact wpAny_pure (wpAny_pure q)
    | (wp_walk; exact q)
theorem call_any (Nw : NewOk newId bm) {more : List Value} {fI : Addr} (hC : hp.get? C = some (excClassObj n1 n2 C N b1 bm hd s1 s2 ab co d1 k0 k1 k2 k3 k5 newId))
    (hi : W.Looks (model prog w) hp (typeLookup (.ref C) "__init__") (some (.ref fI))) (hb : ∀ self, W.Looks (model prog w) hp (bindSpecial (.ref fI) self) (.ref fI, [self])) (hl : more.length ≤ sizeLine)
    (hq : codeAny (model prog w) (A.under (.builtin "type.__call__" ⟨.ref C :: more, []⟩)) (.call (.ref fI) ⟨.ref (hp.objs.size + 1) :: more, []⟩) (W.InitBack (hp.objs.size + 1) R) ⟨(hp.push (W.kdv_tup more)).push (excO C hp.objs.size), ga, dw, tn, os⟩) :
    codeAny (model prog w) A (.call (.ref C) ⟨more, []⟩) R ⟨hp, ga, dw, tn, os⟩ := by
  have g1 := tc_lookup
  have g2 := tc_bind (.ref C)
  have hty : (⟨hp, ga, dw, tn, os⟩ : Shared).TypeIs (.ref C) "type" := ⟨_, hC, rfl⟩
  refine codeAny_of_tree ?_
  show wpAny _ _ (callAny (.ref C) _) _ _ _
  repeat (any_goals (first | assumption | with_reducible refine wpAny_loadPart_at hC ?_ | wp_step))
  refine ⟨rfl, codeAny_call_builtin_at (Code.quiet_builtin _ (by decide +kernel)) entry_typeCall (wpAny_check_type_call_sub hC (typeCall_any Nw hC hi hb hl (codeAny_mono hq fun res z q => ?_)))⟩
  rcases res with er | (v | _ | _ | _) <;> exact q
end
end Oxb
end PySem
namespace Thr
open PySem PySem.Spec PyProof.Rows L2
/-! ### an own error straight over a built-in one (B), whose __init__ is walked as a def -/
structure OxC (K : PySem.W.Frag) (C : Addr) (B : String) : Prop where
  cls : ∃ nm q N bs bm sn sub ab col dd k0 k1 k2 k3 k5 newId, K.lookup C = some (excClassObj nm q C N bs bm true sn sub ab col dd k0 k1 k2 k3 k5 newId) ∧ PySem.Oxb.NewOk newId bm ∧ PySem.Oxb.InitOk B bm ∧ PySem.Oxb.MroOk (.ref C :: bm)
  sa : PySem.W.findIn K (.ref C) "__setattr__" = some (some (.builtin "object.__setattr__"))
  exC : PySem.W.subIn K (.ref C) (.type "BaseException") = some true
  tyC : PySem.W.typeIn K (.ref C) = some (.type "type")
  kC : PySem.W.keepIn K (.ref C) = true
section
variable {X : Cx} {pins : List (Addr × Obj)} {σ : L2.St} {H : Hp} {s : Shared} {a C dx : Addr} {f : Str} {y : V} {u : Value} {fs : List (Str × V)} {Q : Unit → Shared → Prop} {E : Value → Shared → Prop} {A : Around} {B : String}
theorem ox_first (T : OxC X.K C B) (I : Inv X pins σ H s) (e : H a = some (exo a C none)) (hno : PySem.W.findIn X.K (.ref C) f = some none) (ry : RelV y u)
    (h : ∀ dx s1, H dx = none → dx ≠ a → Inv X pins σ (upd (upd H dx (exd dx [(f, y)])) a (exo a C (some dx))) s1 → Q () s1) : wpAny (model X.prog X.w) A (setAttr (.ref a) f u) Q E s := by
  obtain ⟨nm, q, N, bs, bm, sn, sub, ab, col, dd, k0, k1, k2, k3, k5, newId, hC, _, _, hm⟩ := T.cls
  have hcl : ∃ cd, PySem.W.clsIn X.K C = some cd ∧ cd.mro = .ref C :: bm ∧ cd.hasDict = true := by
    unfold PySem.W.clsIn
    rw [hC]
    exact ⟨_, rfl, rfl, rfl⟩
  obtain ⟨cd, hcd, em, ehd⟩ := hcl
  obtain ⟨t1, ho⟩ := exo_at I.hok e
  obtain ⟨h0, gs, dr, tn, os⟩ := s
  refine PySem.W.set_plain I.kIn (ox := { cls := .ref C, dict := none, data := .fields #[.ref t1, .none, .none, .none, .bool false, .none] }) (od := none) ⟨ho, rfl, rfl, trivial⟩ T.sa ?_
  refine PySem.Oxb.store_first I.kIn ho hcd (em ▸ hm) ehd hno (fun h1 t2 dx kp hbig hne hx hn => ?_)
  have fresh : H dx = none := I.hok.fresh hbig
  have offD : ∀ {b : Addr} {o : Obj}, h0.get? b = some o → b ≠ dx := fun z => Nat.ne_of_lt (Nat.lt_of_lt_of_le (Heap.lt_size z) hbig)
  have offA : ∀ {b : Addr}, H b = none → b ≠ a := fun {b} z1 z2 => by
    rw [z2, e] at z1
    cases z1
  have U : Un X.fs [] H (upd (upd H dx (exd dx [(f, y)])) a (exo a C (some dx))) h0 h1 :=
    ⟨fun b o z n _ _ => kp b o (offA n) z, fun b o z n _ _ => ⟨o.slots, kp b o (offA n) z⟩, fun b o z n _ => by rw [upd_ne (offA n), upd_ne (offD z)]; exact n,
      fun b o z _ => by
        by_cases hb : b = a
        · exact ⟨_, hb ▸ hx⟩
        · exact ⟨o, kp b o hb z⟩,
      fun b xs z => by rw [upd_ne (at_ne e z exo_tup), upd_ne (ne_of_none z fresh)]; exact z,
      fun b o v z => by rw [upd_ne (at_ne e z exo_frz), upd_ne (ne_of_none z fresh)]; exact z,
      fun b ps z => ⟨#[], by rw [upd_ne (at_ne e z exo_tbl), upd_ne (ne_of_none z fresh), z]; simp⟩⟩
  refine h dx _ fresh hne (I.un (t' := t2) U fun b o z => ?_)
  by_cases hb : b = a
  · subst hb
    rw [upd_same] at z
    cases z
    exact exo_ok hx
  rw [upd_ne hb] at z
  by_cases hd : b = dx
  · subst hd
    rw [upd_same] at z
    cases z
    exact exd_ok hn (relO_put (fs := []) ry fun _ => True.intro)
  rw [upd_ne hd] at z
  refine (I.hok b o z).stay (fun c v hc z2 => kp c v (fun z3 => ?_) z2) (fun c hc => by rw [upd_ne (at_ne e hc exo_own), upd_ne (ne_of_none hc fresh)]; exact hc) (fun c xs hc => by rw [upd_ne (at_ne e hc exo_tup), upd_ne (ne_of_none hc fresh)]; exact hc)
  rcases hc with hc | hc
  · exact hb (hc.symm.trans z3)
  · exact at_ne e hc exo_own z3
theorem ox_more (T : OxC X.K C B) (I : Inv X pins σ H s) (e : H a = some (exo a C (some dx))) (ed : H dx = some (exd dx fs)) (hl : fs.length ≤ 900) (hno : PySem.W.findIn X.K (.ref C) f = some none) (ry : RelV y u)
    (h : ∀ s1, Inv X pins σ (upd H dx (exd dx ((f, y) :: fs))) s1 → Q () s1) : wpAny (model X.prog X.w) A (setAttr (.ref a) f u) Q E s := by
  obtain ⟨nm, q, N, bs, bm, sn, sub, ab, col, dd, k0, k1, k2, k3, k5, newId, hC, _, _, hm⟩ := T.cls
  have hcl : ∃ cd, PySem.W.clsIn X.K C = some cd ∧ cd.mro = .ref C :: bm ∧ cd.hasDict = true := by
    unfold PySem.W.clsIn
    rw [hC]
    exact ⟨_, rfl, rfl, rfl⟩
  obtain ⟨cd, hcd, em, ehd⟩ := hcl
  obtain ⟨t1, ho⟩ := exo_at I.hok e
  obtain ⟨mA, hns, rel⟩ := exd_at I.hok ed
  have hw := within_of rel
  obtain ⟨h0, gs, dr, tn, os⟩ := s
  obtain ⟨oD, _, _, hoD, _, _⟩ := hns.count hw
  refine PySem.W.set_plain I.kIn (ox := { cls := .ref C, dict := some dx, data := .fields #[.ref t1, .none, .none, .none, .bool false, .none] }) (od := some oD) ⟨ho, rfl, rfl, hoD⟩ T.sa ?_
  refine PySem.Oxb.store_more I.kIn ho hns hw (by rw [List.length_map]; omega) hcd (em ▸ hm) ehd hno (fun h1 t2 kp hn => ?_)
  obtain ⟨o2, _, _, e2, _⟩ := id hn
  exact h _ (I.write (t' := t2) (x := dx) (e := dx) (o := exd dx ((f, y) :: fs)) (by rw [ed]; exact True.intro) (.inl rfl) kp ⟨o2, e2⟩ (exd_ok hn (relO_put ry rel)))
theorem ox_init {us : List Value} {Q : Value → Shared → Prop} (T : OxC X.K C B) (I : Inv X pins σ H s) (e : H a = some (exo a C none)) (hl : us.length ≤ sizeLine) (h : ∀ s1, Inv X pins σ H s1 → Q .none s1) :
    wpAny (model X.prog X.w) A (call (.builtin (B ++ ".__init__")) (.ref a :: us)) Q E s := by
  obtain ⟨nm, q, N, bs, bm, sn, sub, ab, col, dd, k0, k1, k2, k3, k5, newId, hC, _, FB, _⟩ := T.cls
  obtain ⟨t1, ho⟩ := exo_at I.hok e
  obtain ⟨h0, gs, dr, tn, os⟩ := s
  refine wpAny_call (PySem.Oxb.init_any FB (I.kIn _ _ hC) ho hl fun h1 t2 kp hx => ?_)
  have J := I.write (t' := tn) (x := a) (e := a) (o := exo a C none) (by rw [e]; exact True.intro) (.inl rfl) kp ⟨_, hx⟩ (exo_ok hx)
  have same : upd H a (exo a C none) = H := funext fun b => by
    by_cases hb : b = a
    · rw [hb, upd_same, e]
    · rw [upd_ne hb]
  rw [same] at J
  exact h _ J
end
/-- B.__init__(self, ..) -/
def tBI (K : PySem.W.Frag) (B : String) (ta : TA) : TE := fun σ H Q => ta σ H fun vs H1 => ∃ (a C : Addr) (ws : List V), vs = .ref a :: ws ∧ ws.length ≤ 1000 ∧ OxC K C B ∧ H1 a = some (exo a C none) ∧ Q .non H1
/-- self.f = e -/
def tOxs (K : PySem.W.Frag) (f : Str) (to te : TE) : TS := fun D σ H => te σ H fun y H1 => to σ H1 fun x H2 => ∃ (a C : Addr) (B : String), x = .ref a ∧ OxC K C B ∧ PySem.W.findIn K (.ref C) f = some none ∧
  ((H2 a = some (exo a C none) ∧ ∀ dx, H2 dx = none → dx ≠ a → D.nx σ (upd (upd H2 dx (exd dx [(f, y)])) a (exo a C (some dx)))) ∨
    ∃ (dx : Addr) (fs : List (Str × V)), H2 a = some (exo a C (some dx)) ∧ H2 dx = some (exd dx fs) ∧ fs.length ≤ 900 ∧ D.nx σ (upd H2 dx (exd dx ((f, y) :: fs))))
section
variable {X : Cx} {o e : Expr} {es : List Expr} {to te : TE} {ta : TA} {f : Str} {p p' p1 p2 pos : Pos} {B : String}
/-- B's own facts: the name, its type, its __init__ -/
structure BInit (K : PySem.W.Frag) (B : String) : Prop where
  boot : bootBuiltins (Str.ofString B) = some (.type B)
  ty : typeOf (.type B) = pure (.type "type")
  stub : Manifest.isStub B = false
  fnd : PySem.W.findCls K (.type B) (.type "type") "__init__" = some (.val (.builtin (B ++ ".__init__")))
  out : PySem.W.handedIn (.builtin (B ++ ".__init__")) = true
  nn : Str.ofString B ≠ "__name__"
  nd : (Str.ofString B == ("__debug__" : Str)) = false
theorem pe_binit {pl : Sem Bool} (b : BInit X.K B) (hg : Gl X (Str.ofString B)) (hm : X.mg (Str.ofString B) = none) (ha : PA X (e :: es) ta)
    (hc : eval (.Call (.Attribute (.Name (Str.ofString B) p1) "__init__" p2) (e :: es) [] pos) X.env = (do
      let ov ← eval (.Name (Str.ofString B) p1) X.env
      standAt p2.atName
      let (fn, first) ← holding [ov] (getMethod ov "__init__" pl)
      callWith pos fn first (backTo pos (starEach (e :: es) X.env)) (backToKw pos (keywordEach [] X.env))) := by rfl)
    (he : starEach (e :: es) X.env = (false, eval e X.env) :: starEach es X.env := by rfl) (hpl : (backTo pos (starEach es X.env)).any (·.1) = false := by rfl) :
    PE X (.Call (.Attribute (.Name (Str.ofString B) p1) "__init__" p2) (e :: es) [] pos) (tBI X.K B ta) := by
  refine ⟨fun pins s σ H Q I rd => ?_⟩
  refine PySem.W.methodCall_KW (ld_blt I hg hm b.boot ?_ b.nn b.nd) hc
  obtain ⟨m, fr⟩ := I.fr
  refine PySem.W.method_type fr I.ok.mod.kin b.ty b.stub b.fnd b.out ?_
  show wpAny _ _ (callWith pos (Value.builtin (B ++ ".__init__")) [] (backTo pos (starEach (e :: es) X.env)) []) _ _ _
  refine PyProof.Rows.callWith_method1 (thn (ha.run pos pins _ σ H _ (I.tok _) rd) fun us s1 ⟨vs, H1, I1, r1, a, C, ws, ev, hl, T, ea, q⟩ => ?_) he hpl
  subst ev
  cases r1 with
  | cons ra rs =>
    cases ra
    exact ox_init T I1 ea (by rw [← Paired.length rs, sizeLine_eq]; omega) fun s2 J => ⟨.non, H1, J, rfl, q⟩
theorem ps_oxs (ho : PE X o to) (he : PE X e te) (hs : swapsWith e (some (.Attribute o f p')) pos.line X.env = pure false := by rfl) : PS X (.Assign [.Attribute o f p'] e pos) (tOxs X.K f to te) := by
  refine ⟨fun pins s σ H D I rd => plainObj_wpAny_Assign_Attribute (thn (he.run pins s σ H _ I rd) fun v s1 ⟨y, H1, I1, r1, q1⟩ => thn (ho.run pins s1 σ H1 _ I1 q1) fun u s2 ⟨z, H2, I2, r2, a, C, B, ez, T, hno, q⟩ => ?_) hs⟩
  subst ez
  cases r2
  rcases q with ⟨ea, q⟩ | ⟨dx, fs, ea, ed, hl, q⟩
  · exact ox_first T I2 ea hno r1 fun dx s3 n ne J => ⟨σ, _, J, q dx n ne⟩
  · exact ox_more T I2 ea ed hl hno r1 fun s3 J => ⟨σ, _, J, q⟩
end
/-- C(e, ..) as a value: tracked from then on -/
def tMkV (C : Addr) (sp : Sp) (ta : TA) : TE := fun σ H Q => ta σ H fun vs H1 => vs.length ≤ 1000 ∧ ∀ a, H1 a = none → sp (.ref a :: vs) (upd H1 a (exo a C none))
  (fun v H2 => v = .non ∧ ∃ (d : Addr) (fs : List (Str × V)), H2 a = some (exo a C (some d)) ∧ H2 d = some (exd d fs) ∧ Q (.ref a) (upd (upd H2 a (exv a C d)) d (.xd fs))) (fun _ _ _ => False)
section
variable {X : Cx} {e : Expr} {es : List Expr} {ta : TA} {p pos : Pos} {B : String} {CX : CXT} {x : Str} {C fI : Addr} {k : Nat} {fd : FuncData} {ps : List Str} {sp : Sp}
/-- the exception that its __init__ has left, as a value -/
theorem inv_value {pins : List (Addr × Obj)} {σ : L2.St} {H : Hp} {s : Shared} {a d : Addr} {fs : List (Str × V)} (I : Inv X pins σ H s) (ea : H a = some (exo a C (some d))) (ed : H d = some (exd d fs)) :
    Inv X pins σ (upd (upd H a (exv a C d)) d (.xd fs)) s := by
  obtain ⟨t1, h1⟩ := exo_at I.hok ea
  obtain ⟨mA, h2, rel⟩ := exd_at I.hok ed
  obtain ⟨od, es', ep', h3, h4, _⟩ := id h2
  have nda : d ≠ a := fun z => by
    rw [z, h1] at h3
    have z2 := Option.some.inj h3
    subst z2
    cases h4
  have I1 := I.write (t' := s.toks) (x := a) (e := a) (o := exv a C d) (h' := s.heap) (by rw [ea]; exact True.intro) (.inl rfl) (fun _ _ _ z => z) ⟨_, h1⟩ (exv_ok h1 rfl rfl rfl)
  have ed1 : (upd H a (exv a C d)) d = some (exd d fs) := by
    rw [upd_ne nda]
    exact ed
  exact I1.write (t' := s.toks) (x := d) (e := d) (o := .xd fs) (h' := s.heap) (by rw [ed1]; exact True.intro) (.inl rfl) (fun _ _ _ z => z) ⟨_, h3⟩ ⟨mA, h2, rel⟩
theorem run_ox {pins : List (Addr × Obj)} {σ : L2.St} {H1 : Hp} {vs : List V} {us : List Value} {hp : Heap} {gs : Array GenState} {dr : Drawn} {tk : Nat} {os : OsState} {Qk : V → Hp → Prop} {G : Value → Shared → Prop} (T : OxC X.K C B) (iC : PySem.W.findIn X.K (.ref C) "__init__" = some (some (.ref fI)))
    (tI : PySem.W.typeIn X.K (.ref fI) = some (.type "function")) (F1 : FnOk X.prog X.w X.K X.mg X.base CX k fI fd ps sp) (hr : Room (k + 1) X.A) (hb : Binds X.K fd ps []) (hx : Passes CX X (fun _ _ _ => False)) (I1 : Inv X pins σ H1 ⟨hp, gs, dr, tk, os⟩) (r1 : Vals vs us) (hz : vs.length ≤ 1000)
    (q1 : sp (.ref (hp.objs.size + 1) :: vs) (upd H1 (hp.objs.size + 1) (exo (hp.objs.size + 1) C none)) Qk (fun _ _ _ => False))
    (fin : ∀ (kk : ∀ b o, hp.get? b = some o → ((hp.push (PySem.W.kdv_tup us)).push (PySem.HandSPX.excO C hp.objs.size)).get? b = some o)
      (I2 : Inv X pins σ (upd H1 (hp.objs.size + 1) (exo (hp.objs.size + 1) C none)) ⟨(hp.push (PySem.W.kdv_tup us)).push (PySem.HandSPX.excO C hp.objs.size), gs, dr, tk, os⟩) (v : V) (u : Value) (H2 : Hp) (s2 : Shared), s2.os = os → AllBare s2.gens →
      Un (frs X.stack) [] (upd H1 (hp.objs.size + 1) (exo (hp.objs.size + 1) C none)) H2 ((hp.push (PySem.W.kdv_tup us)).push (PySem.HandSPX.excO C hp.objs.size)) s2.heap → HOk X.prog X.w H2 s2.heap → RelV v u → Qk v H2 → u = .none ∧ G (.ref (hp.objs.size + 1)) s2) :
    wpAny (model X.prog X.w) X.A (call (.ref C) us) G X.xe ⟨hp, gs, dr, tk, os⟩ := by
  obtain ⟨nm, q, N, bs, bm, sn, sub, ab, col, dd, k0, k1, k2, k3, k5, newId, hC, Nw, _, _⟩ := T.cls
  have kk : ∀ b o, hp.get? b = some o → ((hp.push (PySem.W.kdv_tup us)).push (PySem.HandSPX.excO C hp.objs.size)).get? b = some o := fun b o z => Heap.get?_push_of_some _ (Heap.get?_push_of_some _ z)
  have hE : ((hp.push (PySem.W.kdv_tup us)).push (PySem.HandSPX.excO C hp.objs.size)).get? (hp.objs.size + 1) = some (PySem.HandSPX.excO C hp.objs.size) := by heap_get
  have I2 := I1.laid (t' := tk) (a := hp.objs.size + 1) (o := exo (hp.objs.size + 1) C none) kk (Nat.le_succ _) (exo_ok hE)
  have r2 : Vals (V.ref (hp.objs.size + 1) :: vs) (Value.ref (hp.objs.size + 1) :: us) := .cons rfl r1
  have hl : (Value.ref (hp.objs.size + 1) :: us ++ []).length = ps.length := by
    rw [List.append_nil, ← r2.length]
    exact F1.len _ _ _ _ q1
  have bd := hb _ (Value.ref (hp.objs.size + 1) :: us) I2.kIn hl
  rw [List.append_nil] at bd
  refine wpAny_call (PySem.Oxb.call_any Nw (I1.kIn _ _ hC) (PySem.W.looks_findIn I1.kIn iC) (fun self => PySem.W.bind_fn I1.kIn self tI) (by rw [← Paired.length r1, sizeLine_eq]; omega)
    (codeAny_mono (F1.run _ X.stack _ _ ⟨Value.ref (hp.objs.size + 1) :: us, []⟩ (Value.ref (hp.objs.size + 1) :: us) _ _ (fun _ _ _ => False) (hr.make C us []) (I2.env0.make C us []) bd r2 q1) fun res s2 hq => ?_))
  cases res with
  | error er => exact hx pins σ _ _ er s2 I2 hq
  | ok fl =>
    cases fl with
    | ret u =>
      obtain ⟨v, H2, o2, b2, un2, ok2, rv, qv⟩ := hq
      exact fin kk I2 v u H2 s2 o2 b2 un2 ok2 rv qv
    | next => exact hq.elim
    | brk => exact hq.elim
    | cont => exact hq.elim
/-- raise C(e, ..) -/
theorem pmk_ox (T : OxC X.K C B) (iC : PySem.W.findIn X.K (.ref C) "__init__" = some (some (.ref fI))) (tI : PySem.W.typeIn X.K (.ref fI) = some (.type "function"))
    (F1 : FnOk X.prog X.w X.K X.mg X.base CX k fI fd ps sp) (hr : Room (k + 1) X.A) (hb : Binds X.K fd ps []) (hx : Passes CX X (fun _ _ _ => False)) (hg : Gl X x) (hm : X.mg x = some (.ref C)) (ha : PA X (e :: es) ta)
    (hdb : (x == ("__debug__" : Str)) = false := by decide) (he : starEach (e :: es) X.env = (false, eval e X.env) :: starEach es X.env := by rfl) (hpl : (backTo pos (starEach es X.env)).any (·.1) = false := by rfl) :
    PMk X (.Call (.Name x p) (e :: es) [] pos) (tMkO C sp [] ta) := by
  intro pins s σ H Q I rd
  refine wpAny_Call_Name_kw (ld_glob I hg hm ?_ hdb)
  refine PySem.W.callWith_K (h₀ := X.base) I.ok.mod.kin T.kC (thn (ha.run pos pins s σ H _ I rd) fun us s1 ⟨vs, H1, I1, r1, hz, q1⟩ => ⟨I1.kIn, ?_⟩) he hpl
  show wpAny _ _ (call (.ref C) us) _ _ _
  obtain ⟨hp, gs, dr, tk, os⟩ := s1
  have q2 := q1 (hp.objs.size + 1) (I1.hok.fresh (Nat.le_succ _))
  rw [List.append_nil] at q2
  refine run_ox T iC tI F1 hr hb hx I1 r1 hz q2 (fun kk I2 v u H2 s2 o2 b2 un2 ok2 rv qv => ?_)
  obtain ⟨ev, d, fs, ea, ed, hd1, q3⟩ := qv
  subst ev
  obtain ⟨h2, g2, d2, t2, os2⟩ := s2
  exact ⟨rv, mk_end (raises_own T.exC T.tyC) I1 (Nat.le_succ _) kk un2 ok2 o2 b2 ea ed hd1 q3⟩
theorem pe_mkv (T : OxC X.K C B) (iC : PySem.W.findIn X.K (.ref C) "__init__" = some (some (.ref fI))) (tI : PySem.W.typeIn X.K (.ref fI) = some (.type "function"))
    (F1 : FnOk X.prog X.w X.K X.mg X.base CX k fI fd ps sp) (hr : Room (k + 1) X.A) (hb : Binds X.K fd ps []) (hx : Passes CX X (fun _ _ _ => False)) (hg : Gl X x) (hm : X.mg x = some (.ref C)) (ha : PA X (e :: es) ta)
    (hdb : (x == ("__debug__" : Str)) = false := by decide) (he : starEach (e :: es) X.env = (false, eval e X.env) :: starEach es X.env := by rfl) (hpl : (backTo pos (starEach es X.env)).any (·.1) = false := by rfl) :
    PE X (.Call (.Name x p) (e :: es) [] pos) (tMkV C sp ta) := by
  refine ⟨fun pins s σ H Q I rd => ?_⟩
  refine wpAny_Call_Name_kw (ld_glob I hg hm ?_ hdb)
  refine PySem.W.callWith_K (h₀ := X.base) I.ok.mod.kin T.kC (thn (ha.run pos pins s σ H _ I rd) fun us s1 ⟨vs, H1, I1, r1, hz, q1⟩ => ⟨I1.kIn, ?_⟩) he hpl
  show wpAny _ _ (call (.ref C) us) _ _ _
  obtain ⟨hp, gs, dr, tk, os⟩ := s1
  have q2 := q1 (hp.objs.size + 1) (I1.hok.fresh (Nat.le_succ _))
  refine run_ox T iC tI F1 hr hb hx I1 r1 hz q2 (fun kk I2 v u H2 s2 o2 b2 un2 ok2 rv qv => ?_)
  obtain ⟨ev, d, fs, ea, ed, q3⟩ := qv
  subst ev
  exact ⟨rv, .ref (hp.objs.size + 1), _, inv_value (I2.call' (ch := []) o2 un2 ok2 b2 (fun _ z => nomatch z)) ea ed, rfl, q3⟩
end
/-! ### the built-in errors that own ones stand under -/
section
open PySem.Oxb
theorem cont_obj {C : Addr} {l : List Value} (h : l.contains (.type "object") = true) : (Value.ref C :: l).contains (.type "object") = true := by
  rw [List.contains_cons, h, Bool.or_true]
theorem new_VE : NewOk "ValueError.__new__" [.type "ValueError", .type "Exception", .type "BaseException", .type "object"] := ⟨_, _, _, PySem.F.excBase_ValueError, by decide +kernel, by decide +kernel, by decide +kernel⟩
theorem init_VE : InitOk "ValueError" [.type "ValueError", .type "Exception", .type "BaseException", .type "object"] :=
  ⟨PySem.F.excBase_ValueError.init.plain, PySem.F.excBase_ValueError.initEntry, PySem.F.excBase_ValueError.initKind, PySem.F.excBase_ValueError.initSplit, PySem.F.excBase_ValueError.initRow, PySem.F.excBase_ValueError.noStar, by decide +kernel⟩
theorem mro_VE (C : Addr) : MroOk (.ref C :: [.type "ValueError", .type "Exception", .type "BaseException", .type "object"]) :=
  ⟨fun self => by rw [refuseLoop_ref]; exact PySem.F.store_ValueError.passes self, cont_obj (by decide +kernel), rfl⟩
theorem new_KE : NewOk "LookupError.__new__" [.type "KeyError", .type "LookupError", .type "Exception", .type "BaseException", .type "object"] := ⟨_, _, _, PySem.F.excBase_LookupError, by decide +kernel, by decide +kernel, by decide +kernel⟩
theorem init_KE : InitOk "KeyError" [.type "KeyError", .type "LookupError", .type "Exception", .type "BaseException", .type "object"] where
  plain := by decide +kernel
  entry := entryFor_alias (id' := "BaseException.__init__") (by rw [fastTable_eq_tree]; kernel_rfl)
    (by first | rfl | decide +kernel) (by decide +kernel) (by rw [fastTable_eq_tree]; kernel_rfl)
  kind := by kernel_rfl
  split := by kernel_rfl
  row := by kernel_rfl
  star := by decide +kernel
  has := by decide +kernel
theorem mro_KE (C : Addr) : MroOk (.ref C :: [.type "KeyError", .type "LookupError", .type "Exception", .type "BaseException", .type "object"]) :=
  ⟨fun self => by rw [refuseLoop_ref]; kernel_rfl, cont_obj (by decide +kernel), rfl⟩
end
/-! ### further built-in errors that own ones stand under -/
section
open PySem.Oxb
theorem new_LE : NewOk "LookupError.__new__" [.type "LookupError", .type "Exception", .type "BaseException", .type "object"] := ⟨_, _, _, PySem.F.excBase_LookupError, by decide +kernel, by decide +kernel, by decide +kernel⟩
theorem init_LE : InitOk "LookupError" [.type "LookupError", .type "Exception", .type "BaseException", .type "object"] :=
  ⟨PySem.F.excBase_LookupError.init.plain, PySem.F.excBase_LookupError.initEntry, PySem.F.excBase_LookupError.initKind, PySem.F.excBase_LookupError.initSplit, PySem.F.excBase_LookupError.initRow, PySem.F.excBase_LookupError.noStar, by decide +kernel⟩
theorem mro_LE (C : Addr) : MroOk (.ref C :: [.type "LookupError", .type "Exception", .type "BaseException", .type "object"]) :=
  ⟨fun self => by rw [refuseLoop_ref]; kernel_rfl, cont_obj (by decide +kernel), rfl⟩
theorem new_IE : NewOk "IndexError.__new__" [.type "IndexError", .type "LookupError", .type "Exception", .type "BaseException", .type "object"] := ⟨_, _, _, PySem.F.excBase_IndexError, by decide +kernel, by decide +kernel, by decide +kernel⟩
theorem init_IE : InitOk "IndexError" [.type "IndexError", .type "LookupError", .type "Exception", .type "BaseException", .type "object"] :=
  ⟨PySem.F.excBase_IndexError.init.plain, PySem.F.excBase_IndexError.initEntry, PySem.F.excBase_IndexError.initKind, PySem.F.excBase_IndexError.initSplit, PySem.F.excBase_IndexError.initRow, PySem.F.excBase_IndexError.noStar, by decide +kernel⟩
theorem mro_IE (C : Addr) : MroOk (.ref C :: [.type "IndexError", .type "LookupError", .type "Exception", .type "BaseException", .type "object"]) :=
  ⟨fun self => by rw [refuseLoop_ref]; kernel_rfl, cont_obj (by decide +kernel), rfl⟩
theorem new_RE : NewOk "RuntimeError.__new__" [.type "RuntimeError", .type "Exception", .type "BaseException", .type "object"] := ⟨_, _, _, PySem.F.excBase_RuntimeError, by decide +kernel, by decide +kernel, by decide +kernel⟩
theorem init_RE : InitOk "RuntimeError" [.type "RuntimeError", .type "Exception", .type "BaseException", .type "object"] :=
  ⟨PySem.F.excBase_RuntimeError.init.plain, PySem.F.excBase_RuntimeError.initEntry, PySem.F.excBase_RuntimeError.initKind, PySem.F.excBase_RuntimeError.initSplit, PySem.F.excBase_RuntimeError.initRow, PySem.F.excBase_RuntimeError.noStar, by decide +kernel⟩
theorem mro_RE (C : Addr) : MroOk (.ref C :: [.type "RuntimeError", .type "Exception", .type "BaseException", .type "object"]) :=
  ⟨fun self => by rw [refuseLoop_ref]; kernel_rfl, cont_obj (by decide +kernel), rfl⟩
theorem new_AE : NewOk "ArithmeticError.__new__" [.type "ArithmeticError", .type "Exception", .type "BaseException", .type "object"] := ⟨_, _, _, PySem.F.excBase_ArithmeticError, by decide +kernel, by decide +kernel, by decide +kernel⟩
theorem init_AE : InitOk "ArithmeticError" [.type "ArithmeticError", .type "Exception", .type "BaseException", .type "object"] :=
  ⟨PySem.F.excBase_ArithmeticError.init.plain, PySem.F.excBase_ArithmeticError.initEntry, PySem.F.excBase_ArithmeticError.initKind, PySem.F.excBase_ArithmeticError.initSplit, PySem.F.excBase_ArithmeticError.initRow, PySem.F.excBase_ArithmeticError.noStar, by decide +kernel⟩
theorem mro_AE (C : Addr) : MroOk (.ref C :: [.type "ArithmeticError", .type "Exception", .type "BaseException", .type "object"]) :=
  ⟨fun self => by rw [refuseLoop_ref]; kernel_rfl, cont_obj (by decide +kernel), rfl⟩
theorem new_OE : NewOk "OverflowError.__new__" [.type "OverflowError", .type "ArithmeticError", .type "Exception", .type "BaseException", .type "object"] := ⟨_, _, _, PySem.F.excBase_OverflowError, by decide +kernel, by decide +kernel, by decide +kernel⟩
theorem init_OE : InitOk "OverflowError" [.type "OverflowError", .type "ArithmeticError", .type "Exception", .type "BaseException", .type "object"] :=
  ⟨PySem.F.excBase_OverflowError.init.plain, PySem.F.excBase_OverflowError.initEntry, PySem.F.excBase_OverflowError.initKind, PySem.F.excBase_OverflowError.initSplit, PySem.F.excBase_OverflowError.initRow, PySem.F.excBase_OverflowError.noStar, by decide +kernel⟩
theorem mro_OE (C : Addr) : MroOk (.ref C :: [.type "OverflowError", .type "ArithmeticError", .type "Exception", .type "BaseException", .type "object"]) :=
  ⟨fun self => by rw [refuseLoop_ref]; kernel_rfl, cont_obj (by decide +kernel), rfl⟩
end
end Thr
namespace PySem
namespace Oxb
open PySem.W PySem.Calls PyProof.Rows PySem.HandSPX
section
variable {prog : Program} {w : World} {A : Around} {E : Value → Shared → Prop} {R : Result → Shared → Prop} {hp : Heap} {ga : Array GenState} {dw : Drawn} {tn : Nat} {os : OsState}
variable {n1 n2 : Str} {C N : Addr} {b1 bm : List Value} {hd : Bool} {s1 : List Str} {s2 : List Value} {ab : Bool} {co : Option Bool} {d1 : Option Addr} {k0 k1 k2 k3 k5 : Option Value} {B newId : String}
theorem new_kw (Nw : NewOk newId bm) {more : List Value} {kw : List (Str × Value)} (hC : hp.get? C = some (excClassObj n1 n2 C N b1 bm hd s1 s2 ab co d1 k0 k1 k2 k3 k5 newId)) (hl : more.length ≤ sizeLine)
    (hq : R (.ok (.ret (.ref (hp.objs.size + 1)))) ⟨(hp.push { cls := .type "tuple", data := .seq more.toArray }).push { cls := .ref C, data := .fields #[.ref hp.objs.size, .none, .none, .none, .bool false, .none] }, ga, dw, tn, os⟩) :
    codeAny (model prog w) A (.builtin newId ⟨.ref C :: more, kw⟩) R ⟨hp, ga, dw, tn, os⟩ := by
  obtain ⟨Bn, initn, bn, FB, c1, c2, c3⟩ := Nw.ex
  have e0 := FB.ends
  have e1 : (Value.ref C :: bm).contains (.type Bn) = true := by
    rw [List.contains_cons, c1, Bool.or_true]
  have e2 : (Value.ref C :: bm).contains (.type "AttributeError") = false := by
    rw [List.contains_cons, c2]
    rfl
  have e3 : (Value.ref C :: bm).contains (.type "NameError") = false := by
    rw [List.contains_cons, c3]
    rfl
  refine codeAny_builtinAt FB.entry ?_
  unfold Builtin.«BaseException.__new__»
  refine wpAt_bind ?_
  show wpAt _ _ _ (stack >>= _) _ _ _
  refine wpAt_bind (wpAt_stack fun p below => wpAt_of_wpAny ?_)
  wp_walk
  refine wpAt_of_wpAny ?_
  rw [FB.owner]
  repeat (first | with_reducible refine wpAny_madeHere_exc FB.canon hC ?_ | with_reducible refine wpAny_loadPart_at hC ?_ | (with_reducible refine wpAny_isSubtype_exc hC ?_; first | rw [e1] | rw [e2] | rw [e3]) | wp_step)
  show R _ _
  rw [Heap.size_push]
  exact hq
theorem check_kw (Nw : NewOk newId bm) {M : Model} {more : List Value} {kw : List (Str × Value)} {Q : Unit → Shared → Prop} (hC : hp.get? C = some (excClassObj n1 n2 C N b1 bm hd s1 s2 ab co d1 k0 k1 k2 k3 k5 newId)) (q : Q () ⟨hp, ga, dw, tn, os⟩) :
    wpAny M A (checkBuiltinCall newId ⟨.ref C :: more, kw⟩) Q E ⟨hp, ga, dw, tn, os⟩ := by
  obtain ⟨Bn, initn, bn, FB, c1, c2, c3⟩ := Nw.ex
  have e1 : (Value.ref C :: bm).contains (.type Bn) = true := by
    rw [List.contains_cons, c1, Bool.or_true]
  have e0 := FB.noStar
  simp only [checkBuiltinCall, FB.newKind, FB.newSplit, FB.newRow]
  repeat (first | refine wpAny_loadPart_at hC ?_ | (refine wpAny_isSubtype_exc hC ?_; rw [e1]) | refine wpAny_staticBase_exc hC ?_ | refine wpAny_madeBy_exc hC ?_ | simp only [bne_self_eq_false, Bool.false_eq_true, if_false] | wp_step)
  exact q
theorem typeCall_kw (Nw : NewOk newId bm) {more : List Value} {kw : List (Str × Value)} {fI : Addr} {Q : Fin → Shared → Prop} (hC : hp.get? C = some (excClassObj n1 n2 C N b1 bm hd s1 s2 ab co d1 k0 k1 k2 k3 k5 newId))
    (hi : W.Looks (model prog w) hp (typeLookup (.ref C) "__init__") (some (.ref fI))) (hb : ∀ self, W.Looks (model prog w) hp (bindSpecial (.ref fI) self) (.ref fI, [self])) (hl : more.length ≤ sizeLine)
    (hq : codeAny (model prog w) A (.call (.ref fI) ⟨.ref (hp.objs.size + 1) :: more, kw⟩) (fun res z => match res with | .ok (.ret v) => v = .none ∧ Q (.done (.ret (.ref (hp.objs.size + 1)))) z | .ok _ => False | .error er => E er z) ⟨(hp.push (W.kdv_tup more)).push (excO C hp.objs.size), ga, dw, tn, os⟩) :
    wpAny (model prog w) A (Builtin.«type.__call__» ⟨.ref C :: more, kw⟩) Q E ⟨hp, ga, dw, tn, os⟩ := by
  obtain ⟨Bn, initn, bn, FB, _, _, _⟩ := id Nw.ex
  repeat (first | with_reducible refine wpAny_loadPart_at hC ?_ | with_reducible refine wpAny_madeBy_exc hC ?_ | wp_step)
  refine codeAny_call_builtin_code (Code.quiet_builtin _ FB.quiet) (check_kw Nw hC ?_)
  refine new_kw Nw hC hl ?_
  show wpAny _ _ _ _ _ _
  have up : ∀ b o, hp.get? b = some o → ((hp.push (W.kdv_tup more)).push (excO C hp.objs.size)).get? b = some o := fun b o z => Heap.get?_push_of_some _ (Heap.get?_push_of_some _ z)
  have hC2 := up _ _ hC
  have hE : ((hp.push (W.kdv_tup more)).push (excO C hp.objs.size)).get? (hp.objs.size + 1) = some (excO C hp.objs.size) := by heap_get
  have self_in : (Value.ref C :: bm).contains (.ref C) = true := by simp
  have l1 := hi.keeps up
  have l2 := (hb (.ref (hp.objs.size + 1))).keeps up
  unfold isInstance
  repeat (first | with_reducible refine wpAny_loadPart_at hE ?_ | (with_reducible refine wpAny_isSubtype_exc hC2 ?_; rw [self_in]) | wp_step)
  show wpAny _ _ (typeLookup (.ref C) _) _ _ _
  refine l1.at (wpAny_holding (wpAny_bind (l2.at ?_)))
  refine wpAny_bind (wpAny_call (codeAny_mono hq fun res z q => ?_))
  rcases res with er | (v | _ | _ | _) <;> first | exact q | exact q.elim | skip
  obtain ⟨rfl, q⟩ := q
  first
    | exact wpAny_pure (wpAny_pure q)
    | (wp_walk; exact q)
theorem call_kw (Nw : NewOk newId bm) {more : List Value} {kw : List (Str × Value)} {fI : Addr} (hC : hp.get? C = some (excClassObj n1 n2 C N b1 bm hd s1 s2 ab co d1 k0 k1 k2 k3 k5 newId))
    (hi : W.Looks (model prog w) hp (typeLookup (.ref C) "__init__") (some (.ref fI))) (hb : ∀ self, W.Looks (model prog w) hp (bindSpecial (.ref fI) self) (.ref fI, [self])) (hl : more.length ≤ sizeLine)
    (hq : codeAny (model prog w) (A.under (.builtin "type.__call__" ⟨.ref C :: more, kw⟩)) (.call (.ref fI) ⟨.ref (hp.objs.size + 1) :: more, kw⟩) (W.InitBack (hp.objs.size + 1) R) ⟨(hp.push (W.kdv_tup more)).push (excO C hp.objs.size), ga, dw, tn, os⟩) :
    codeAny (model prog w) A (.call (.ref C) ⟨more, kw⟩) R ⟨hp, ga, dw, tn, os⟩ := by
  have g1 := tc_lookup
  have g2 := tc_bind (.ref C)
  have hty : (⟨hp, ga, dw, tn, os⟩ : Shared).TypeIs (.ref C) "type" := ⟨_, hC, rfl⟩
  refine codeAny_of_tree ?_
  show wpAny _ _ (callAny (.ref C) _) _ _ _
  repeat (any_goals (first | assumption | with_reducible refine wpAny_loadPart_at hC ?_ | wp_step))
  refine ⟨rfl, codeAny_call_builtin_at (Code.quiet_builtin _ (by decide +kernel)) entry_typeCall (wpAny_check_type_call_sub hC (typeCall_kw Nw hC hi hb hl (codeAny_mono hq fun res z q => ?_)))⟩
  rcases res with er | (v | _ | _ | _) <;> exact q
end
end Oxb
end PySem
namespace Thr
open PySem PySem.Spec PyProof.Rows L2
/-! ### C(k=e, ..) as a value -/
def tMkVK (C : Addr) (sp : Sp) (gV : List V → List V → List V) (m : Nat) (tk : TA) : TE := fun σ H Q => tk σ H fun zs H1 => zs.length = m ∧ ∀ a, H1 a = none → sp (gV [.ref a] zs) (upd H1 a (exo a C none))
  (fun v H2 => v = .non ∧ ∃ (d : Addr) (fs : List (Str × V)), H2 a = some (exo a C (some d)) ∧ H2 d = some (exd d fs) ∧ Q (.ref a) (upd (upd H2 a (exv a C d)) d (.xd fs))) (fun _ _ _ => False)
section
variable {X : Cx} {kws : List Keyword} {tk : TA} {p pos : Pos} {B : String} {CX : CXT} {x : Str} {C fI : Addr} {k : Nat} {fd : FuncData} {ps ks : List Str} {sp : Sp} {g : List Value → List Value → List Value} {gV : List V → List V → List V}
theorem pe_mkvK (T : OxC X.K C B) (iC : PySem.W.findIn X.K (.ref C) "__init__" = some (some (.ref fI))) (tI : PySem.W.typeIn X.K (.ref fI) = some (.type "function"))
    (F1 : FnOk X.prog X.w X.K X.mg X.base CX k fI fd ps sp) (hr : Room (k + 1) X.A) (hb : KBn X.K fd ps 1 ks g gV) (hx : Passes CX X (fun _ _ _ => False)) (hg : Gl X x) (hm : X.mg x = some (.ref C)) (hkw : PK X kws tk)
    (hall : (backToKw pos (keywordEach kws X.env)).all (·.1.isSome) = true := by rfl) (hks : (backToKw pos (keywordEach kws X.env)).filterMap (·.1) = ks := by rfl) (hdb : (x == ("__debug__" : Str)) = false := by decide)
    (hpl : ((backTo pos (starEach [] X.env)).any (·.1) || (backToKw pos (keywordEach kws X.env)).any (·.1.isNone)) = false := by rfl) :
    PE X (.Call (.Name x p) [] kws pos) (tMkVK C sp gV ks.length tk) := by
  refine ⟨fun pins s σ H Q I rd => wpAny_Call_Name_kw (ld_glob I hg hm ?_ hdb)⟩
  refine PySem.W.callWith_KW0 (h₀ := X.base) I.ok.mod.kin T.kC hall ?_ hpl
  refine thn (hkw.run pos pins s σ H _ I rd) fun ws s1 ⟨zs, H1, I1, rz, l2, q1⟩ => ⟨I1.kIn, ?_⟩
  rw [hks]
  show wpAny _ _ (call (.ref C) [] (ks.zip ws)) _ _ _
  obtain ⟨hp, gs, dr, tk, os⟩ := s1
  have q2 := q1 (hp.objs.size + 1) (I1.hok.fresh (Nat.le_succ _))
  obtain ⟨nm, q, N, bs, bm, sn, sub, ab, col, dd, k0, k1, k2, k3, k5, newId, hC, Nw, _, _⟩ := T.cls
  have kk : ∀ b o, hp.get? b = some o → ((hp.push (PySem.W.kdv_tup [])).push (PySem.HandSPX.excO C hp.objs.size)).get? b = some o := fun b o z => Heap.get?_push_of_some _ (Heap.get?_push_of_some _ z)
  have hE : ((hp.push (PySem.W.kdv_tup [])).push (PySem.HandSPX.excO C hp.objs.size)).get? (hp.objs.size + 1) = some (PySem.HandSPX.excO C hp.objs.size) := by heap_get
  have I2 := I1.laid (t' := tk) (a := hp.objs.size + 1) (o := exo (hp.objs.size + 1) C none) kk (Nat.le_succ _) (exo_ok hE)
  have rs : Vals [V.ref (hp.objs.size + 1)] [Value.ref (hp.objs.size + 1)] := .cons rfl .nil
  have r2 := hb.rel rs rz
  refine wpAny_call (PySem.Oxb.call_kw (more := []) (kw := ks.zip ws) Nw (I1.kIn _ _ hC) (PySem.W.looks_findIn I1.kIn iC) (fun self => PySem.W.bind_fn I1.kIn self tI) (by decide)
    (codeAny_mono (F1.run _ X.stack _ _ ⟨[Value.ref (hp.objs.size + 1)], ks.zip ws⟩ (g [Value.ref (hp.objs.size + 1)] ws) (gV [V.ref (hp.objs.size + 1)] zs) _ (fun _ _ _ => False) (hr.make C [] _) (I2.env0.make C [] _) (hb.to _ _ ws I2.kIn rfl (rz.length.symm.trans l2)) r2 q2) fun res s2 hq => ?_))
  cases res with
  | error er => exact hx pins σ _ _ er s2 I2 hq
  | ok fl =>
    cases fl with
    | ret u =>
      obtain ⟨v, H2, o2, b2, un2, ok2, rv, ev, d, fs, ea, ed, q3⟩ := hq
      subst ev
      exact ⟨rv, .ref (hp.objs.size + 1), _, inv_value (I2.call' (ch := []) o2 un2 ok2 b2 (fun _ z => nomatch z)) ea ed, rfl, q3⟩
    | next => exact hq.elim
    | brk => exact hq.elim
    | cont => exact hq.elim
end
/-! ### defs that make texts of lists and tuples: they run where no such text is under way -/
structure FnG (P : Program) (w : World) (K : PySem.W.Frag) (mg : Str → Option Value) (base : Heap) (k : Nat) (f : Addr) (fd : FuncData) (qs : List Str) (sp : Sp) : Prop where
  size : ∀ xs G R Z, sp xs G R Z → xs.length = qs.length
  goes : ∀ (B : Around) (up : List Env) (t : Shared) (G : Hp) (ar : Args) (ws : List Value) (xs : List V) (R : VK) (Z : XK), B.guards = some [] → Room k B → Env0 P w K mg base B up t G →
    BindsTo t fd ar (qs.zip ws) → Vals xs ws → sp xs G R Z → codeAny (model P w) B (.call (.ref f) ar) (CR CX0 up P w G t R Z) t
section
variable {P : Program} {w : World} {K : PySem.W.Frag} {mg : Str → Option Value} {base : Heap}
theorem fng_of {x qual : Str} {st : Stmt} {f : Addr} {fd : FuncData} {N qs : List Str} {k : Nat} {sp : Sp} (F : L2.Fun K x qual st f fd) (S : FnScope N qs (defScope st)) (size : ∀ xs G R Z, sp xs G R Z → xs.length = qs.length)
    (hb : ∀ (cv : Value) (B : Around) (up : List Env) (t : Shared) (G : Hp) (xs : List V) (R : VK) (Z : XK), (B.deeper (envOfC qual (defScope st) t.heap.objs.size f cv)).guards = some [] → Room k (B.deeper (envOfC qual (defScope st) t.heap.objs.size f cv)) → sp xs G R Z →
      ∃ d, PSs (cxOf CX0 P w K mg base N qual (defScope st) f cv B up t G Z).nox (defBody st) d ∧ d { nx := fun _ G' => R .non G', rt := R } (start N xs) G) : FnG P w K mg base (k + 1) f fd qs sp := by
  obtain ⟨oc, od, kV, doc, pm, an, cv, ct, osl, rfl, at_, co⟩ := F.ex
  refine ⟨size, fun B up t G ar ws xs R Z hg rm e0 bt rel hsp => ?_⟩
  have keepB : ∀ b o, base.get? b = some o → t.heap.get? b = some o := fun b o e => (e0.bs b o e).1
  have inT : K.In t.heap := e0.mod.kin.keeps keepB
  have noL : t.heap.NoLimit := e0.mod.nolimit.keeps keepB
  have kinds : ∀ y ∈ qs.zip ws, (defScope st).names.lookup y.1 = some .local ∨ ((defScope st).names.lookup y.1 = some .cell ∧ ((cellsFrom (t.heap.objs.size + 1) (defScope st).names []).lookup y.1).isSome = true) := by
    rintro ⟨n, v⟩ hy
    rcases S.par n (List.of_mem_zip hy).1 with z | z
    · exact .inl z
    · exact .inr ⟨z, PySem.W.cellsFrom_some _ _ _ (.inl z)⟩
  refine codeAny_call_function rm.depth (inT _ _ at_) rfl S.co S.gen rfl (PySem.W.codeRec_of inT co) (bt _ _ _ _ ?_)
  refine wpAny_newFunctionEnv_cells S.kind kinds fun en hen t1 y => ?_
  subst hen
  refine ⟨noL.keeps y.toInCall.keep, codeAny_func ?_⟩
  obtain ⟨d, hd, hq⟩ := hb cv B up t G xs R Z hg (rm.deeper _) hsp
  have J0 : Inv (cxOf CX0 P w K mg base N qual (defScope st) f cv B up t G Z) [] (start N xs) G t1 := inv_start S rm.hd e0 (size _ _ _ _ hsp) rel y
  refine wpAny_mono (hd.nox.run [] t1 (start N xs) G _ J0 hq) (fun out t' hs => ?_) fun _ _ hs => hs
  cases out with
  | next =>
    obtain ⟨_, G', J, z⟩ := hs
    exact ⟨.non, G', J.os, J.bare, J.base, J.hok, rfl, z⟩
  | ret u =>
    obtain ⟨v, _, G', J, rv, z⟩ := hs
    exact ⟨v, G', J.os, J.bare, J.base, J.hok, rv, z⟩
  | brk =>
    obtain ⟨_, _, _, z⟩ := hs
    exact z.elim
  | cont =>
    obtain ⟨_, _, _, z⟩ := hs
    exact z.elim
end
/-- such a def under its name -/
structure CalG (P : Program) (w : World) (K : PySem.W.Frag) (mg : Str → Option Value) (base : Heap) (k : Nat) (x : Str) (sp : Sp) : Prop where
  ex : ∃ (f : Addr) (fd : FuncData) (qs : List Str), FnG P w K mg base k f fd qs sp ∧ mg x = some (.ref f) ∧ PySem.W.keepIn K (.ref f) = true ∧ Binds K fd qs []
section
variable {X : Cx} {k j : Nat} {x : Str} {sp : Sp} {p pos : Pos} {e : Expr} {es : List Expr} {t : TA}
theorem pe_cG (c : CalG X.prog X.w X.K X.mg X.base k x sp) (hg : X.A.guards = some []) (hr : Room j X.A) (hk : k ≤ j) (gl : Gl X x) (ha : PA X (e :: es) t) (hdb : (x == ("__debug__" : Str)) = false := by decide)
    (he : starEach (e :: es) X.env = (false, eval e X.env) :: starEach es X.env := by rfl) (hpl : (backTo pos (starEach es X.env)).any (·.1) = false := by rfl) : PE X (.Call (.Name x p) (e :: es) [] pos) (tCall sp [] C8.E0 t) := by
  obtain ⟨f, fd, qs, F, hm, kp, b⟩ := c.ex
  refine ⟨fun pins s σ H Q I h => wpAny_Call_Name_kw (ld_glob I gl hm ?_ hdb)⟩
  refine PySem.W.callWith_K (h₀ := X.base) I.ok.mod.kin kp (thn (ha.run pos pins s σ H _ I h) fun us s1 ⟨vs, H1, I1, r, q⟩ => ⟨I1.kIn, ?_⟩) he hpl
  have q2 : sp vs H1 Q C8.E0 := by
    have q3 : sp (vs ++ []) H1 Q C8.E0 := q
    rw [List.append_nil] at q3
    exact q3
  have hl : us.length = qs.length := by
    rw [← r.length]
    exact F.size _ _ _ _ q2
  have bb := b s1 us I1.kIn (by rw [List.append_nil]; exact hl)
  rw [List.append_nil] at bb
  refine wpAny_call (codeAny_mono (F.goes X.A X.stack s1 H1 ⟨us, []⟩ us vs Q C8.E0 hg (hr.mono hk) I1.env0 bb r q2) fun res s' hq => ?_)
  cases res with
  | error er => exact hq.elim
  | ok fl =>
    cases fl with
    | ret u => exact I1.after hq
    | next => exact hq.elim
    | brk => exact hq.elim
    | cont => exact hq.elim
/-- repr of data -/
def rReprD (K : PySem.W.Frag) : List V → Hp → VK → Prop := fun xs H Q => ∃ (v : V) (d : PyData), xs = [v] ∧ Dp K H v d ∧ d.showable = true ∧ d.hasDict = false ∧ d.depth ≤ 100 ∧ d.shown.length ≤ sizeLine ∧ Q (.str d.shown) H
theorem cr_reprD (hg : X.A.guards = some []) (hr : Room j X.A) : CallR X (.builtin "repr") (rReprD X.K) := by
  intro pins s σ H xs us Q I r h
  obtain ⟨v, d, rfl, hd, hs, hn, hp, hz, q⟩ := h
  cases r with
  | cons r1 rr =>
    cases rr
    have un := hr.un
    cases hd with
    | non =>
      cases (show _ = Value.none from r1)
      exact PySem.P.repr_of_none ⟨.str "None", H, I.tok _, ⟨_, rfl⟩, q⟩
    | bl b =>
      cases (show _ = Value.bool b from r1)
      exact PySem.P.repr_of_bool ⟨.str (PyData.shown (.bool b)), H, I.tok _, ⟨_, by cases b <;> rfl⟩, q⟩
    | int i =>
      obtain ⟨t, rfl⟩ := (show ∃ t, _ = Value.int i t from r1)
      exact PySem.P.repr_of_int (of_decide_eq_true hs) ⟨.str (PyData.shown (.int i)), H, I.tok _, ⟨_, rfl⟩, q⟩
    | str z =>
      obtain ⟨t, rfl⟩ := (show ∃ t, _ = Value.str z t from r1)
      exact PySem.P.repr_of_str ⟨.str (PyData.shown (.str z)), H, I.tok _, ⟨_, rfl⟩, q⟩ hz
    | lst h1 h2 =>
      rename_i a xs ds
      obtain rfl : _ = Value.ref a := r1
      obtain ⟨as, rd⟩ := Dp.reads I (.list ds) (.ref a) (.ref a) (.lst h1 h2) rfl
      exact repr_of_reads' rd hs (PyData.noDict_hsm hn) hg (by omega) (fun _ _ e => e) (fun h' u tk hk => ⟨.str _, H, I.kept (t' := tk) hk, ⟨_, rfl⟩, q⟩) hz
    | tup h1 h2 =>
      rename_i a xs ds
      obtain rfl : _ = Value.ref a := r1
      obtain ⟨as, rd⟩ := Dp.reads I (.tuple ds) (.ref a) (.ref a) (.tup h1 h2) rfl
      exact repr_of_reads' rd hs (PyData.noDict_hsm hn) hg (by omega) (fun _ _ e => e) (fun h' u tk hk => ⟨.str _, H, I.kept (t' := tk) hk, ⟨_, rfl⟩, q⟩) hz
end
/-! ### the end, for a law that makes texts of lists and tuples -/
section
variable {P : Program} {w : World} {K : PySem.W.Frag} {mg mb : Str → Option Value} {k : Nat} {fa a : Addr} {fd : FuncData} {x : Str} {sp : Sp} {s1 : Shared} {us : List Value} {ns : List Int}
/-- from a heap in which the script alone may be tracked -/
theorem end_from {H : Hp} (inK : K.In s1.heap) (nm : s1.heap.Ns mainGlobals mg) (nb : s1.heap.Ns builtinsNs mb) (bb : ∀ y : Str, y ≠ "__name__" → mb y = bootBuiltins y) (lim : s1.heap.NoLimit) (gs : s1.gens = #[])
    (at_ : s1.heap.get? a = some { cls := .type "list", data := .seq us.toArray }) (rm : Room k callerA)
    (F : ∀ base : Heap, K.In base → base.Ns mainGlobals mg → FnG P w K mg base k fa fd [x] sp) (bt : ∀ (s : Shared) (u : Value), BindsTo s fd ⟨[u], []⟩ [(x, u)])
    (hO : Only H) (want : sp [.ref a] H (fun v _ => v = .bl true) fun _ _ _ => False) (hok : HOk P w H s1.heap) (onlyA : ∀ b, H b ≠ none → b = a) (offK : H a ≠ none → K.lookup a = none) :
    codeAny (model P w) callerA (.call (.ref fa) ⟨[.ref a], []⟩) (fun r s' => r = .ok (.ret (.bool true)) ∧ OldK s1.heap s'.heap ∧ s'.os = s1.os ∧ AllBare s'.gens) s1 := by
  have untr : ∀ {b : Addr}, (b = a → False) → H b = none := fun {b} nb => by
    cases z : H b with
    | none => rfl
    | some u => exact (nb (onlyA b (by rw [z]; simp))).elim
  have stay : ∀ {b : Addr} {o : Obj}, s1.heap.get? b = some o → H b = none → (hidT s1.heap H).get? b = some o := fun e n => hidT_get e n
  have names : ∀ {b : Addr} {m : Str → Option Value}, s1.heap.Ns b m → (hidT s1.heap H).Ns b m := fun {b m} ⟨o, es, ep, e, d, r⟩ => ⟨o, es, ep, stay e (untr fun z => by
    subst z
    rw [at_] at e
    cases e
    have d2 : Data.seq us.toArray _ = Data.dict es ep := d
    cases d2), d, r⟩
  have inK2 : K.In (hidT s1.heap H) := fun b o e => stay (inK b o e) (by
    cases z : H b with
    | none => rfl
    | some u =>
      have e2 : b = a := onlyA b (by rw [z]; simp)
      subst e2
      rw [offK (by rw [z]; simp)] at e
      cases e)
  obtain ⟨mc, l1, l2⟩ := lim
  have start0 : Env0 P w K mg (hidT s1.heap H) callerA [] s1 H :=
    ⟨rfl, ⟨inK2, names nm, ⟨mb, names nb, bb⟩, ⟨mc, names l1, l2⟩⟩, fun b o e => of_hidT e, Nat.le_of_eq (hidT_size _ _), trivial, fun b hb => absurd (show b ∈ ([] : List Addr) from hb) (by simp), hok, .of_eq gs⟩
  refine codeAny_mono ((F _ inK2 (names nm)).goes callerA [] s1 H ⟨[.ref a], []⟩ [.ref a] [.ref a] _ _ rfl rm start0 (bt s1 (.ref a)) (.cons rfl .nil) want) fun out t hs => ?_
  cases out with
  | error er => exact hs.elim
  | ok fl =>
    cases fl with
    | ret u =>
      obtain ⟨v, H', os, bare, un, hok2, rv, z⟩ := hs
      have z2 : v = .bl true := z
      subst z2
      obtain rfl : u = Value.bool true := rv
      refine ⟨rfl, OldK.of_keep fun b o e => ?_, os, bare⟩
      cases z : H b with
      | none => exact un.keep b o e z (fun y => absurd (show b ∈ ([] : List Addr) from y) (by simp)) (by simp)
      | some h0 =>
        rcases hO b with y | ⟨ob, xs, y⟩
        · rw [z] at y
          cases y
        · obtain ⟨e1, _⟩ := hok b _ y
          obtain ⟨e2, _⟩ := hok2 b _ (un.frzs b ob _ y)
          rw [e] at e1
          cases e1
          exact e2
    | next => exact hs.elim
    | brk => exact hs.elim
    | cont => exact hs.elim
theorem end_call (inK : K.In s1.heap) (nm : s1.heap.Ns mainGlobals mg) (nb : s1.heap.Ns builtinsNs mb) (bb : ∀ y : Str, y ≠ "__name__" → mb y = bootBuiltins y) (lim : s1.heap.NoLimit) (gs : s1.gens = #[])
    (at_ : s1.heap.get? a = some { cls := .type "list", data := .seq us.toArray }) (hIn : IntsAre us ns) (fits : ns.length ≤ sizeLine) (rm : Room k callerA)
    (F : ∀ base : Heap, K.In base → base.Ns mainGlobals mg → FnG P w K mg base k fa fd [x] sp) (bt : ∀ (s : Shared) (u : Value), BindsTo s fd ⟨[u], []⟩ [(x, u)])
    (want : ∀ H : Hp, Only H → SqL K H a (ns.map V.int) → sp [.ref a] H (fun v _ => v = .bl true) fun _ _ _ => False) :
    codeAny (model P w) callerA (.call (.ref fa) ⟨[.ref a], []⟩) (fun r s' => r = .ok (.ret (.bool true)) ∧ OldK s1.heap s'.heap ∧ s'.os = s1.os ∧ AllBare s'.gens) s1 := by
  have rel := vals_ints hIn
  have len := hIn.length
  cases lk : K.lookup a with
  | some o =>
    have e := inK a o lk
    rw [at_] at e
    cases e
    have only0 : Only (fun _ => none) := fun _ => .inl rfl
    exact end_from (H := fun _ => none) inK nm nb bb lim gs at_ rm F bt only0 (want _ only0 (.inr ⟨_, us.toArray, _, lk, rfl, rfl, rfl, by rw [List.size_toArray, len]; exact fits, by simpa using rel⟩))
      (fun b u z => nomatch (show (none : Option HO) = some u from z)) (fun b z => absurd rfl z) fun z => absurd rfl z
  | none =>
    have pos : ∀ {b : Addr}, b = a → (if b = a then some (HO.frz { cls := .type "list", data := .seq us.toArray } (.lst (ns.map V.int))) else none) = some (.frz { cls := .type "list", data := .seq us.toArray } (.lst (ns.map V.int))) := fun e => if_pos e
    have only1 : Only (fun b => if b = a then some (.frz { cls := .type "list", data := .seq us.toArray } (.lst (ns.map V.int))) else none) := fun b => by
      by_cases e : b = a
      · exact .inr ⟨_, _, pos e⟩
      · exact .inl (if_neg e)
    refine end_from inK nm nb bb lim gs at_ rm F bt only1 (want _ only1 (.inl (.inr ⟨{ cls := .type "list", data := .seq us.toArray }, if_pos rfl⟩))) (fun b u z => ?_) (fun b z => ?_) fun _ => lk
    · by_cases e : b = a
      · have y := (pos e).symm.trans z
        cases y
        subst e
        exact ⟨at_, by rw [List.length_map]; exact fits, us, _, rel, at_⟩
      · have y := (if_neg e).symm.trans z
        cases y
    · by_cases e : b = a
      · exact e
      · exact absurd (if_neg e) z
end
theorem walk_ofG {l : PySem.W.OpenLaw} {n k : Nat} {q : Program} {loose : List Str} {XP : (Str → Option Value) → Heap → Prop} {YP : World → Heap → Prop} {d : DefRec} {K : Params → PySem.W.Frag} {sp : World → Sp} {x : Str}
    (hn : l.most = some n) (hn2 : n ≤ sizeLine) (hdf : d.params.defaults = []) (rm : Room k callerA) (inK : ∀ (w : World) (h : Heap), YP w h → (K w.params).In h)
    (F : ∀ (w : World) (mg : Str → Option Value) (fa : Addr) (h : Heap), (K w.params).In h → h.Ns mainGlobals mg → mg d.name = some (.ref fa) →
      ∃ fd : FuncData, (∀ (s : Shared) (u : Value), BindsTo s fd ⟨[u], []⟩ [(x, u)]) ∧ ∀ base : Heap, (K w.params).In base → base.Ns mainGlobals mg → FnG l.prog w (K w.params) mg base k fa fd [x] (sp w))
    (want : ∀ (w : World) (H : Hp) (a : Addr) (ns : List Int), ns.length ≤ n → Only H → SqL (K w.params) H a (ns.map V.int) → sp w [.ref a] H (fun v _ => v = .bl true) fun _ _ _ => False) :
    PySem.W.WalkO q loose XP YP l.row.toRowW d [] (fun f vs => PySem.call f vs) := by
  refine Att.attach_call hn hdf fun w s0 s1 mg mb fa o pm cd doc a us ns G Y ho hd hcd hmg hobj hints hlen hg => ?_
  obtain ⟨fd, bt, go⟩ := F w mg fa _ (inK w _ Y) G.T.g hmg
  exact end_call (inK w _ Y) G.T.g G.T.b G.T.builtins G.T.nolimit hg hobj hints (Nat.le_trans hlen hn2) rm go bt fun H hO hS => want w H a ns hlen hO hS
def top (i : Nat) : Stmt := PySem.Challenge.pw_threereckons_k08_grammars_alike.main.body.getD i (.Pass ⟨0, 0, 0, 0⟩)
def isLet (c : Nat) : Bool := decide (97 ≤ c) && decide (c ≤ 122)
def OWNL : List Nat := [111, 119, 110]
/-! ### the draws -/
abbrev s__law_take : Stmt := top 49
abbrev N__law_take : List Str := ["_law_box", "_law_many", "_law_found", "_law_once", "_law_twice"]
abbrev P__law_take : List Str := ["_law_box", "_law_many"]
theorem sc__law_take : FnScope N__law_take P__law_take (defScope s__law_take) := ⟨rfl, rfl, rfl, by decide +kernel, rfl, by decide +kernel, by decide +kernel⟩
abbrev s__law_dip : Stmt := top 48
abbrev N__law_dip : List Str := ["_law_script", "_law_k", "_law_cell"]
abbrev P__law_dip : List Str := ["_law_script", "_law_k"]
theorem sc__law_dip : FnScope N__law_dip P__law_dip (defScope s__law_dip) := ⟨rfl, rfl, rfl, by decide +kernel, rfl, by decide +kernel, by decide +kernel⟩
abbrev s__law_folded : Stmt := top 50
abbrev N__law_folded : List Str := ["_law_script", "_law_size", "_law_cells", "_law_k", "_law_cell"]
abbrev P__law_folded : List Str := ["_law_script", "_law_size"]
theorem sc__law_folded : FnScope N__law_folded P__law_folded (defScope s__law_folded) := ⟨rfl, rfl, rfl, by decide +kernel, rfl, by decide +kernel, by decide +kernel⟩
section
variable {P : Program} {w : World} {K : PySem.W.Frag} {mg : Str → Option Value} {base : Heap}
theorem ok_take (D : Dd K mg "_law_take" s__law_take P__law_take) : C8.Cal P w K mg base 1 "_law_take" spTake [] := by
  refine D.cal sc__law_take (fun vs H Q E h => ?_) (fun f cdv A outer s H vs Q E hr h => ?_)
  · obtain ⟨a, many, n, b, rfl, _⟩ := h
    rfl
  · obtain ⟨a, many, n, b, rfl, ha, ⟨b0, b1, b2, rfl, h0, h1, h1', h2, h2'⟩, hn, hm, hm', k⟩ := h
    refine ⟨_, (pss_cons (ps_if (pt_cmpR op_gt (pe_ix ix_list (pv 0) pe_int (fun _ _ => rfl)) pe_int (nomark _))
          (pss_cons (ps_set (i := 2) sc__law_take.nd rfl (Or.inl rfl) (pe_op op_mod (pe_ix ix_list (pv 0) pe_int (fun _ _ => rfl)) (pv 1)))
        (pss_cons (ps_asg (pe_op op_fdiv (pe_ix ix_list (pv 0) pe_int (fun _ _ => rfl)) (pv 1)) (pg_sub (pv 0) pe_int set_list))
        (pss_one (ps_ret (pv 2)))))
          pss_nil)
        (pss_cons (ps_asg (pe_op op_add (pe_ix ix_list (pv 0) pe_int (fun _ _ => rfl)) pe_int) (pg_sub (pv 0) pe_int set_list))
        (pss_cons (ps_set (i := 3) sc__law_take.nd rfl (Or.inl rfl) (pe_op op_mod (pe_op op_pow (pe_op op_add (pe_ix ix_list (pv 0) pe_int (fun _ _ => rfl)) (pe_op op_mul pe_int (pe_ix ix_list (pv 0) pe_int (fun _ _ => rfl)))) pe_int) pe_int))
        (pss_cons (ps_set (i := 4) sc__law_take.nd rfl (Or.inl rfl) (pe_op op_mod (pe_op op_mul (pe_op op_add (pe_op op_add (pv 3) (pe_ix ix_list (pv 0) pe_int (fun _ _ => rfl))) (pe_op op_fdiv (pe_ix ix_list (pv 0) pe_int (fun _ _ => rfl)) pe_int)) (pe_op op_add (pe_op op_add (pe_op op_mod (pv 3) pe_int) pe_int) (pe_ix ix_list (pv 0) pe_int (fun _ _ => rfl)))) pe_int))
        (pss_one (ps_ret (pe_op op_mod (pe_op op_fdiv (pe_op op_mod (pe_op op_add (pe_op op_mul (pv 4) pe_int) (pv 3)) pe_int) pe_int) (pv 1)))))))), ?_⟩
    have hL : SqL K H a [.int b0, .int b1, .int b2] := SqL.of ha
    refine ⟨_, rfl, a, _, 0, .int b0, rfl, rfl, hL, atI_nat (j := 0) rfl, _, _, rfl, rfl, _, rfl, ite2 (fun e => ?_) (fun e => ?_)⟩
    · have e0 : 0 < b0 := of_decide_eq_true e
      refine ⟨_, rfl, a, _, 0, .int b0, rfl, rfl, hL, atI_nat (j := 0) rfl, .int many, rfl, _, _, rfl, rfl, hm, ?_⟩
      refine ⟨_, rfl, a, _, 0, .int b0, rfl, rfl, hL, atI_nat (j := 0) rfl, .int many, rfl, _, _, rfl, rfl, ⟨hm, hm'⟩, ?_⟩
      refine ⟨_, rfl, a, _, 0, 0, rfl, rfl, ha, rfl, _, rfl, ?_⟩
      refine k (b0 % many) _ (Int.emod_nonneg _ (by omega)) (Int.emod_lt_of_pos _ hm) ⟨b0 / many, b1, b2, rfl, Int.ediv_nonneg h0 (by omega), h1, h1', h2, by omega⟩
    · refine ⟨_, rfl, a, _, 2, .int b2, rfl, rfl, hL, atI_nat (j := 2) rfl, _, _, rfl, rfl, _, rfl, a, _, 2, 2, rfl, rfl, ha, rfl, ?_⟩
      have hL2 : SqL K (upd H a (.lst [.int b0, .int b1, .int (b2 + 1)])) a [.int b0, .int b1, .int (b2 + 1)] := SqL.of upd_same
      refine ⟨_, rfl, a, _, 1, .int b1, rfl, rfl, hL2, atI_nat (j := 1) rfl, _, rfl, a, _, 2, .int (b2 + 1), rfl, rfl, hL2, atI_nat (j := 2) rfl, _, _, rfl, rfl, .inl ⟨by decide, by decide⟩, _, _, rfl, rfl, _, _, rfl, rfl,
        ⟨by decide, by decide, by omega⟩, _, _, rfl, rfl, (by show (0 : Int) < _; decide), ?_⟩
      have q : (b1 + 39373 * (b2 + 1)) ^ Int.toNat 5 % 2147483647 = (b1 + 39373 * (b2 + 1)) ^ Int.toNat 5 % 2147483647 := rfl
      generalize (b1 + 39373 * (b2 + 1)) ^ Int.toNat 5 = w5
      have g1 : 0 ≤ w5 % 2147483647 := Int.emod_nonneg _ (by decide)
      have g2 : w5 % 2147483647 < 2147483647 := Int.emod_lt_of_pos _ (by decide)
      have g3 : 0 ≤ b1 / 1000003 := Int.ediv_nonneg h1 (by decide)
      have g4 : b1 / 1000003 ≤ b1 := Int.ediv_le_self _ h1
      have g5 : 0 ≤ w5 % 2147483647 % 40009 := Int.emod_nonneg _ (by decide)
      have g6 : w5 % 2147483647 % 40009 < 40009 := Int.emod_lt_of_pos _ (by decide)
      refine ⟨_, rfl, _, rfl, a, _, 2, .int (b2 + 1), rfl, rfl, hL2, atI_nat (j := 2) rfl, _, _, rfl, rfl, _, rfl, a, _, 1, .int b1, rfl, rfl, hL2, atI_nat (j := 1) rfl, _, _, rfl, rfl, ⟨by decide, by decide⟩, _, _, rfl, rfl,
        _, rfl, _, _, rfl, rfl, (by show (0 : Int) < _; decide), _, _, rfl, rfl, _, rfl, a, _, 2, .int (b2 + 1), rfl, rfl, hL2, atI_nat (j := 2) rfl, _, _, rfl, rfl, _, _, rfl, rfl, .inl ⟨by omega, by omega⟩, _, _, rfl, rfl, (by show (0 : Int) < _; decide), ?_⟩
      generalize (w5 % 2147483647 + (b2 + 1) + b1 / 1000003) * (w5 % 2147483647 % 40009 + 7 + (b2 + 1)) = w6
      refine ⟨_, rfl, _, _, rfl, rfl, .inr ⟨by decide, by decide⟩, _, rfl, _, _, rfl, rfl, _, _, rfl, rfl, (by show (0 : Int) < _; decide), _, _, rfl, rfl, ⟨by decide, by decide⟩, .int many, rfl, _, _, rfl, rfl, hm, ?_⟩
      exact k _ _ (Int.emod_nonneg _ (by omega)) (Int.emod_lt_of_pos _ hm) ⟨b0, b1, b2 + 1, rfl, h0, h1, h1', by omega, by omega⟩
theorem b01 (b : Bool) : -(2 ^ 64) < (if b = true then (1 : Int) else 0) ∧ (if b = true then (1 : Int) else 0) < 2 ^ 64 := by cases b <;> decide
theorem dip_b0 (c : Int) (b : Bool) : 0 ≤ (if c < 0 then -c else c) * (if b = true then 1 else 0) := by
  cases b with
  | false => simp
  | true =>
    rw [if_pos rfl, Int.mul_one]
    split <;> omega
theorem ok_dip (B : Bt mg) (D : Dd K mg "_law_dip" s__law_dip P__law_dip) : C8.Cal P w K mg base 1 "_law_dip" (spDip K) [] := by
  refine D.cal sc__law_dip (fun vs H Q E h => ?_) (fun f cdv A outer s H vs Q E hr h => ?_)
  · obtain ⟨a, k, ns, rfl, _⟩ := h
    rfl
  · obtain ⟨a, k, ns, rfl, hS, hk, q⟩ := h
    have T := B
    refine ⟨_, (pss_cons (ps_set (i := 2) sc__law_dip.nd rfl (Or.inl rfl) (pe_ifExp (pt_cmpR op_lt (pv 1) (pe_callB call_len_seq (by rfl) T.len PySem.boot_len (pa_cons (pv 0) pa_nil)) (nomark _)) (pe_ix ix_list (pv 0) (pv 1) (fun _ _ => rfl)) pe_int))
        (pss_one (ps_ret (pe_lst (pa_cons (pe_op op_mul (pe_callB call_abs (by rfl) T.abs (by decide +kernel) (pa_cons (pv 2) pa_nil)) (pe_callTy call_int1 (by rfl) T.int (by decide +kernel) (pa_cons (pe_cmpR op_ge (pe_callB call_abs (by rfl) T.abs (by decide +kernel) (pa_cons (pv 2) pa_nil)) (pe_op op_pow pe_int pe_int) (nomark _)) pa_nil))) (pa_cons (pe_op op_add (pe_op op_add (pe_op op_mod (pv 2) pe_int) (pe_op op_mul pe_int (pv 1))) pe_int) (pa_cons pe_int pa_nil))))))), ?_⟩
    have rest : ∀ c : Int, (tRet (tLst (tCons (tOp (rI CMul fun i j => .int (i * j)) (tCB (fun xs H Q => ∃ i, xs = [.int i] ∧ Q (.int (if i < 0 then -i else i)) H) (tCons (tVar 2) tNil))
        (tCB (fun xs H Q => (∃ i, xs = [.int i] ∧ Q (.int i) H) ∨ ∃ k, xs = [.bl k] ∧ Q (.int (if k then 1 else 0)) H) (tCons (tOp (rI0 fun i j => .bl (decide (j ≤ i))) (tCB (fun xs H Q => ∃ i, xs = [.int i] ∧ Q (.int (if i < 0 then -i else i)) H) (tCons (tVar 2) tNil)) (tOp (rI CPow fun i j => .int (i ^ j.toNat)) (tC (.int 10)) (tC (.int 18)))) tNil)))
        (tCons (tOp (rI0 fun i j => .int (i + j)) (tOp (rI0 fun i j => .int (i + j)) (tOp (rI (fun _ j => 0 < j) fun i j => .int (i % j)) (tVar 2) (tC (.int 2305843009213693951))) (tOp (rI CMul fun i j => .int (i * j)) (tC (.int 39373)) (tVar 1))) (tC (.int 17))) (tCons (tC (.int 0)) tNil)))))
        { nx := fun _ H' => Q .non H', rt := Q } [some (.ref a), some (.int k), some (.int c)] H := fun c => by
      refine ⟨_, rfl, c, rfl, _, rfl, c, rfl, _, _, rfl, rfl, ⟨by decide, by decide, by decide⟩, _, _, rfl, rfl, .inr ⟨_, rfl, ?_⟩⟩
      refine ⟨_, _, rfl, rfl, .inr (b01 _), ?_⟩
      refine ⟨_, rfl, _, _, rfl, rfl, (by show (0 : Int) < _; decide), _, rfl, _, _, rfl, rfl, .inl ⟨by decide, by decide⟩, _, _, rfl, rfl, _, _, rfl, rfl, ?_⟩
      refine ⟨by show 3 ≤ sizeLine; decide, fun p hp => q p _ hp ⟨_, _, 0, rfl, dip_b0 c _, ?_, ?_, Int.le_refl _, Int.le_refl _⟩⟩
      · have := Int.emod_nonneg c (show (2305843009213693951 : Int) ≠ 0 by decide)
        omega
      · have := Int.emod_lt_of_pos c (show (0 : Int) < 2305843009213693951 by decide)
        omega
    refine ⟨_, rfl, _, rfl, a, _, rfl, .inl hS, _, _, rfl, rfl, _, rfl, ite2 (fun e => ?_) (fun e => ?_)⟩
    · have hlt : k < ns.length := by
        have := of_decide_eq_true e
        rw [List.length_map] at this
        omega
      have g : (ns.map V.int)[k]? = some (.int ns[k]) := by
        rw [List.getElem?_map, List.getElem?_eq_getElem hlt]
        rfl
      exact ⟨_, rfl, _, rfl, a, _, k, .int ns[k], rfl, rfl, hS, atI_nat g, rest _⟩
    · exact rest 0
theorem ixN_nat {n j : Nat} (h : j < n) : ixN n (j : Int) = some j := by
  unfold ixN
  rw [if_pos (by omega), if_pos (by omega)]
  simp
theorem ok_folded (B : Bt mg) (D : Dd K mg "_law_folded" s__law_folded P__law_folded) : C8.Cal P w K mg base 1 "_law_folded" (spFold K) [] := by
  refine D.cal sc__law_folded (fun vs H Q E h => ?_) (fun f cdv A outer s H vs Q E hr h => ?_)
  · obtain ⟨a, size, ns, rfl, _⟩ := h
    rfl
  · obtain ⟨a, size, ns, rfl, hS, hl, h1, h8, q⟩ := h
    have T := B
    refine ⟨_, (pss_cons (ps_set (i := 2) sc__law_folded.nd rfl (Or.inl rfl) (pe_callTy call_list_of (by rfl) T.list (by decide +kernel) (pa_cons (pe_slice sl_list (pv 0) po_none (po_some (pv 1))) pa_nil)))
        (pss_cons (ps_for PassesOwn.never rfl (pi_enum (by rfl) T.enumerate (pa_cons (pe_slice sl_list (pv 0) (po_some (pv 1)) (po_some pe_int)) pa_nil)) (pg_tup rfl (pgs_cons (pg_name (i := 3) sc__law_folded.nd rfl (Or.inl rfl)) (pgs_cons (pg_name (i := 4) sc__law_folded.nd rfl (Or.inl rfl)) pgs_nil)))
          (pss_one (ps_asg (pe_op op_add (pe_ix ix_list (pv 2) (pe_op op_mod (pv 3) (pv 1)) (fun _ _ => rfl)) (pe_op op_mul (pv 4) (pe_op op_add (pv 3) pe_int))) (pg_sub (pv 2) (pe_op op_mod (pv 3) (pv 1)) set_list))))
        (pss_one (ps_ret (pv 2))))), ?_⟩
    -- cells = list(script[:size])
    refine ⟨_, rfl, _, rfl, _, rfl, a, _, rfl, hS, fun c1 n1 => ⟨c1, _, rfl, .inl (SqL.of upd_same), fun l nl => ?_⟩⟩
    have s1 : Same H (upd H c1 (.lst (cutV (ns.map V.int) none (some (size : Int))))) := same_upd n1
    have s2 := s1.trans (same_upd (o := .lst (cutV (ns.map V.int) none (some (size : Int)))) nl)
    -- enumerate(script[size:63])
    refine ⟨_, rfl, _, rfl, _, rfl, _, rfl, a, _, rfl, s2.seq hS, fun c2 n2 => ⟨c2, _, rfl, SqL.of upd_same, ?_⟩⟩
    have nlc : l ≠ c2 := fun e => by
      rw [e] at n2
      rw [← e, upd_same] at n2
      cases n2
    refine for_it walk_enum (fun i σ H3 => ∃ y3 y4, ∃ ms : List Int, σ = [some (.ref a), some (.int size), some (.ref l), y3, y4] ∧ Same H H3 ∧ H3 c2 = some (.lst (cutV (ns.map V.int) (some (size : Int)) (some 63))) ∧ H3 l = some (.lst (ms.map V.int)) ∧ ms.length = min size ns.length)
      ⟨none, none, ns.take size, rfl, s2.trans (same_upd n2), upd_same, ?_, by rw [List.length_take]⟩ (fun i σ H3 _ ⟨_, _, _, _, _, hc, _⟩ => SqL.of hc) ?_ ?_
    · rw [upd_ne nlc, upd_same, cut_to]
    · rintro i v σ H3 H4 hi ⟨y3, y4, ms, rfl, sm, hc, hm, hml⟩ ⟨T, x, y, rfl, nT, rfl, ex, ey⟩
      cases ex
      obtain ⟨rs, ers, _⟩ := cut_ints ns (some (size : Int)) (some 63)
      have hsz : size ≤ ns.length := by
        apply Classical.byContradiction
        intro hh
        rw [cut_from_nil ns size (by omega)] at hi
        simp at hi
      have hms : ms.length = size := by omega
      rw [ers] at ey
      rw [ers, List.length_map] at hi
      have ey' : y = .int rs[i] := by
        replace ey : (List.map V.int rs)[i]? = some y := ey
        rw [List.getElem?_map, List.getElem?_eq_getElem hi] at ey
        exact (Option.some.inj ey).symm
      subst ey'
      have hi63 : i < 63 := by omega
      have nTl : l ≠ T := ne_of_none hm nT
      have nTc : c2 ≠ T := ne_of_none hc nT
      have hm' : (upd H3 T (.tup [.int (i : Nat), .int rs[i]])) l = some (.lst (ms.map V.int)) := by
        rw [upd_ne nTl]
        exact hm
      have hj : i % size < ms.length := by
        rw [hms]
        exact Nat.mod_lt _ (by omega)
      have g : (ms.map V.int)[i % size]? = some (.int ms[i % size]) := by
        rw [List.getElem?_map, List.getElem?_eq_getElem hj]
        rfl
      have ei : ((i : Nat) : Int) % ((size : Nat) : Int) = ((i % size : Nat) : Int) := by omega
      refine ⟨T, _, rfl, SqT.of upd_same, rfl, _, _, rfl, _, _, rfl, rfl, ?_⟩
      refine ⟨_, rfl, _, rfl, _, rfl, _, _, rfl, rfl, (by show (0 : Int) < _; omega), l, _, _, .int ms[i % size], rfl, rfl, SqL.of hm', ?_, ?_⟩
      · rw [ei]
        exact atI_nat g
      refine ⟨_, rfl, _, rfl, _, _, rfl, rfl, _, _, rfl, rfl, .inr ⟨by omega, by omega⟩, _, _, rfl, rfl, _, rfl, _, rfl, _, rfl, _, _, rfl, rfl, (by show (0 : Int) < _; omega), l, _, _, i % size, rfl, rfl, hm', ?_, ?_⟩
      · rw [ei, List.length_map]
        exact ixN_nat hj
      · refine ⟨_, _, ms.set (i % size) (ms[i % size] + rs[i] * ((i : Int) + 2)), rfl, fun b z e => ?_, ?_, ?_, by rw [List.length_set]; exact hml⟩
        · have nb : b ≠ l := by
            intro eb
            rw [eb] at e
            have e2 := s1 _ _ e
            rw [e2] at nl
            cases nl
          rw [upd_ne nb]
          exact same_upd nT _ _ (sm _ _ e)
        · rw [upd_ne nlc.symm, upd_ne nTc]
          exact hc
        · rw [upd_same, List.map_set]
    · rintro σ H3 ⟨y3, y4, ms, rfl, sm, hc, hm, hml⟩
      exact ⟨_, rfl, q H3 l ms sm (s1.free nl) hm (by omega)⟩
end
/-! ### own_copy, of data of any depth -/
abbrev s_own_copy : Stmt := top 5
abbrev N_own_copy : List Str := ["thing", "copied", "part"]
abbrev P_own_copy : List Str := ["thing"]
theorem sc_own_copy : FnScope N_own_copy P_own_copy (defScope s_own_copy) := ⟨rfl, rfl, rfl, by decide +kernel, rfl, by decide +kernel, by decide +kernel⟩
structure Ot (mg : Str → Option Value) : Prop where
  isinstance : mg "isinstance" = none
  list : mg "list" = none
  tuple : mg "tuple" = none
/-- data so deep at most, no list or tuple of more than 500 -/
inductive Sm : Nat → PyData → Prop where
  | non (n : Nat) : Sm n .none
  | bl (n : Nat) (b : Bool) : Sm n (.bool b)
  | int (n : Nat) (i : Int) : Sm n (.int i)
  | str (n : Nat) (x : Str) : Sm n (.str x)
  | lst (n : Nat) {ds : List PyData} (h : ds.length ≤ 500) (a : ∀ d ∈ ds, Sm n d) : Sm (n + 1) (.list ds)
  | tup (n : Nat) {ds : List PyData} (h : ds.length ≤ 500) (a : ∀ d ∈ ds, Sm n d) : Sm (n + 1) (.tuple ds)
section
variable {K : PySem.W.Frag} {H H' : Hp}
theorem Same.seqL {a : Addr} {xs : List V} (s : Same H H') (h : SqL K H a xs) : SqL K H' a xs := by
  rcases h with (h | ⟨o, h⟩) | h
  · exact .inl (.inl (s _ _ h))
  · exact .inl (.inr ⟨o, s _ _ h⟩)
  · exact .inr h
theorem Same.seqT {a : Addr} {xs : List V} (s : Same H H') (h : SqT K H a xs) : SqT K H' a xs := by
  rcases h with (h | ⟨o, h⟩) | h
  · exact .inl (.inl (s _ _ h))
  · exact .inl (.inr ⟨o, s _ _ h⟩)
  · exact .inr h
mutual
theorem dp_same (s : Same H H') : ∀ {v : V} {d : PyData}, Dp K H v d → Dp K H' v d
  | _, _, .non => .non
  | _, _, .bl b => .bl b
  | _, _, .int i => .int i
  | _, _, .str x => .str x
  | _, _, .lst h a => .lst (Same.seqL s h) (dpAll_same s a)
  | _, _, .tup h a => .tup (Same.seqT s h) (dpAll_same s a)
theorem dpAll_same (s : Same H H') : ∀ {vs : List V} {ds : List PyData}, DpAll K H vs ds → DpAll K H' vs ds
  | _, _, .nil => .nil
  | _, _, .cons h a => .cons (dp_same s h) (dpAll_same s a)
end
theorem dpAll_len : ∀ {vs : List V} {ds : List PyData}, DpAll K H vs ds → vs.length = ds.length
  | _, _, .nil => rfl
  | _, _, .cons _ a => by
    rw [List.length_cons, List.length_cons, dpAll_len a]
theorem dpAll_at : ∀ {vs : List V} {ds : List PyData}, DpAll K H vs ds → ∀ {i : Nat} {v : V}, vs[i]? = some v → ∃ d, ds[i]? = some d ∧ Dp K H v d
  | _, _, .cons h _, 0, _, e => ⟨_, rfl, by rw [← Option.some.inj e]; exact h⟩
  | _, _, .cons _ a, i + 1, _, e => dpAll_at a (i := i) e
theorem dpAll_snoc : ∀ {vs : List V} {ds : List PyData}, DpAll K H vs ds → ∀ {v : V} {d : PyData}, Dp K H v d → DpAll K H (vs ++ [v]) (ds ++ [d])
  | _, _, .nil, _, _, h => .cons h .nil
  | _, _, .cons h0 a, _, _, h => .cons h0 (dpAll_snoc a h)
theorem tyL {a : Addr} {xs : List V} (h : SqL K H a xs) : TyX K H (.ref a) (.type "list") := by
  rcases h with (h | ⟨o, h⟩) | ⟨o, its, n, l, c, _⟩
  · exact .base (.lst h)
  · exact .base (.frz h)
  · exact .kList l c
theorem tyT {a : Addr} {xs : List V} (h : SqT K H a xs) : TyX K H (.ref a) (.type "tuple") := by
  rcases h with (h | ⟨o, h⟩) | ⟨o, its, n, l, c, _⟩
  · exact .base (.tup h)
  · exact .fTuple h
  · exact .kTuple l c
theorem kitLT {t : String} {b : Bool} (h : kitB t "list" = some b) (h2 : b = false → kitB t "tuple" = some false) : PySem.W.kitAny K (.type t) [.type "list", .type "tuple"] = some b := by
  refine kitAny_cons (kit_ty h) (fun e => ?_) (fun e => e)
  rw [e]
  exact kitAny_cons (b := false) (kit_ty (h2 e)) (fun _ => kitAny_nil) (fun e => nomatch e)
end
/-- what is new in H', the address c left out -/
def Nw (H H' : Hp) : Hp := fun b => if H b = none then H' b else none
theorem Nw.sub {H H' : Hp} : Same (Nw H H') H' := fun b o e => by
  unfold Nw at e
  split at e
  · exact e
  · cases e
theorem Nw.mk {H H' : Hp} {b : Addr} {o : HO} (h : H b = none) (e : H' b = some o) : Nw H H' b = some o := by
  unfold Nw
  rw [if_pos h]
  exact e
theorem Nw.get {H H' : Hp} {b : Addr} {o : HO} (h : Nw H H' b = some o) : H b = none ∧ H' b = some o := by
  unfold Nw at h
  split at h
  · exact ⟨by assumption, h⟩
  · cases h
theorem kitLT2 {K : PySem.W.Frag} : PySem.W.kitAny K (.type "tuple") [.type "list", .type "tuple"] = some true :=
  kitAny_cons (b := false) (kit_ty (by decide +kernel)) (fun _ => kitAny_cons (b := true) (kit_ty (by decide +kernel)) (fun e => nomatch e) (fun _ => rfl)) (fun e => nomatch e)
def spOwnD (K : PySem.W.Frag) (n : Nat) : Sp := fun vs H Q _ => ∃ (x : V) (d : PyData), vs = [x] ∧ Dp K H x d ∧ Sm n d ∧ ∀ (H' : Hp) (y : V), Same H H' → Dp K (Nw H H') y d → Q y H'
section
variable {P : Program} {w : World} {K : PySem.W.Frag} {mg : Str → Option Value} {base : Heap}
theorem own_flat (T : Ot mg) (f : Addr) (cdv : Value) (A : Around) (outer : List Env) (s : Shared) (H : Hp) (Q : VK) (E : XK) {x : V} {t : String} (ty : ∀ H', TyX K H' x (.type t)) (k1 : kitB t "list" = some false) (k2 : kitB t "tuple" = some false) (q : ∀ H', Same H H' → Q x H') :
    ∃ t, PSs (cxOf CX0 P w K mg base N_own_copy "own_copy" (defScope s_own_copy) f cdv A outer s H E).nox (defBody s_own_copy) t ∧ t { nx := fun _ H' => Q .non H', rt := Q } (start N_own_copy [x]) H := by
  refine ⟨_, (pss_cons (ps_if (pt_not (pt_val (pe_callB call_isiT (by rfl) T.isinstance (by decide +kernel) (pa_cons (pv 0) (pa_cons (pe_tup (pa_cons (pe_bltn (v := .ty "list") rfl T.list (by decide +kernel) rfl) (pa_cons (pe_bltn (v := .ty "tuple") rfl T.tuple (by decide +kernel) rfl) pa_nil))) pa_nil)))))
      (pss_one (ps_ret (pv 0))) pss_nil) (pss_cons ps_never (pss_cons ps_never (pss_cons ps_never (pss_one ps_never))))), ?_⟩
  refine ⟨_, rfl, by show 2 ≤ sizeLine; decide, fun tp nt => ?_⟩
  refine ⟨x, tp, _, .type t, [.type "list", .type "tuple"], false, rfl, upd_same, .cons (.ty "list") (.cons (.ty "tuple") .nil), ty _, kitLT k1 (fun _ => k2), _, rfl, ?_⟩
  exact iteT ⟨_, rfl, q _ (same_upd nt)⟩
theorem ok_ownD (T : Ot mg) (D : Dd K mg "own_copy" s_own_copy P_own_copy) : ∀ n, C8.Cal P w K mg base (n + 1) "own_copy" (spOwnD K n) [] := by
  intro n
  induction n with
  | zero =>
    refine D.cal sc_own_copy (fun vs H Q E h => ?_) (fun f cdv A outer s H vs Q E hr h => ?_)
    · obtain ⟨x, d, rfl, _⟩ := h
      rfl
    · obtain ⟨x, d, rfl, hx, hs, q⟩ := h
      cases hs with
      | non => cases hx; exact own_flat T f cdv A outer s H Q E (fun _ => .base .non) (by decide +kernel) (by decide +kernel) fun H' e => q H' _ e .non
      | bl _ b => cases hx; exact own_flat T f cdv A outer s H Q E (fun _ => .base (.bl b)) (by decide +kernel) (by decide +kernel) fun H' e => q H' _ e (.bl b)
      | int _ i => cases hx; exact own_flat T f cdv A outer s H Q E (fun _ => .base (.int i)) (by decide +kernel) (by decide +kernel) fun H' e => q H' _ e (.int i)
      | str _ z => cases hx; exact own_flat T f cdv A outer s H Q E (fun _ => .base (.str z)) (by decide +kernel) (by decide +kernel) fun H' e => q H' _ e (.str z)
  | succ n cown_copy =>
    refine D.cal sc_own_copy (fun vs H Q E h => ?_) (fun f cdv A outer s H vs Q E hr h => ?_)
    · obtain ⟨x, d, rfl, _⟩ := h
      rfl
    · obtain ⟨x, d, rfl, hx, hs, q⟩ := h
      cases hs with
      | non => cases hx; exact own_flat T f cdv A outer s H Q E (fun _ => .base .non) (by decide +kernel) (by decide +kernel) fun H' e => q H' _ e .non
      | bl _ b => cases hx; exact own_flat T f cdv A outer s H Q E (fun _ => .base (.bl b)) (by decide +kernel) (by decide +kernel) fun H' e => q H' _ e (.bl b)
      | int _ i => cases hx; exact own_flat T f cdv A outer s H Q E (fun _ => .base (.int i)) (by decide +kernel) (by decide +kernel) fun H' e => q H' _ e (.int i)
      | str _ z => cases hx; exact own_flat T f cdv A outer s H Q E (fun _ => .base (.str z)) (by decide +kernel) (by decide +kernel) fun H' e => q H' _ e (.str z)
      | lst _ hlen hall =>
        rename_i ds
        cases hx with
        | lst hS hd =>
          rename_i a xs
          refine ⟨_, (pss_cons (ps_if (pt_not (pt_val (pe_callB call_isiT (by rfl) T.isinstance (by decide +kernel) (pa_cons (pv 0) (pa_cons (pe_tup (pa_cons (pe_bltn (v := .ty "list") rfl T.list (by decide +kernel) rfl) (pa_cons (pe_bltn (v := .ty "tuple") rfl T.tuple (by decide +kernel) rfl) pa_nil))) pa_nil)))))
                (pss_one (ps_ret (pv 0)))
                pss_nil)
              (pss_cons (ps_set (i := 1) sc_own_copy.nd rfl (Or.inl rfl) (pe_lst pa_nil))
              (pss_cons (ps_for PassesOwn.never rfl (pi_list (pv 0)) (pg_name (i := 2) sc_own_copy.nd rfl (Or.inl rfl))
                (pss_one (ps_expr (pe_bm PySem.F.plainAttrs_list PySem.F.slot_list_append PySem.F.type_list_append mt_append (pv 1) (pa_cons (C8.pe_c cown_copy hr (by omega) (by rfl) (pa_cons (pv 2) pa_nil)) pa_nil)))))
              (pss_cons (ps_if (pt_val (pe_callB call_isi (by rfl) T.isinstance (by decide +kernel) (pa_cons (pv 0) (pa_cons (pe_bltn (v := .ty "tuple") rfl T.tuple (by decide +kernel) rfl) pa_nil))))
                (pss_one (ps_ret (pe_callTy call_tuple_of (by rfl) T.tuple (by decide +kernel) (pa_cons (pv 1) pa_nil))))
                pss_nil)
              (pss_one (ps_ret (pv 1))))))), ?_⟩
          have lx := dpAll_len hd
          refine ⟨_, rfl, by show 2 ≤ sizeLine; decide, fun tp nt => ?_⟩
          have s1 := same_upd (o := .tup [.ty "list", .ty "tuple"]) nt
          refine ⟨.ref a, tp, _, .type "list", [.type "list", .type "tuple"], true, rfl, upd_same, .cons (.ty "list") (.cons (.ty "tuple") .nil), tyL (Same.seqL s1 hS), kitLT (by decide +kernel) (fun e => nomatch e), _, rfl, iteF ?_⟩
          refine ⟨by show 0 ≤ sizeLine; decide, fun c nc => ?_⟩
          have s2 := s1.trans (same_upd (o := .lst []) nc)
          have nc0 : H c = none := s1.free nc
          refine ⟨_, rfl, a, rfl, ⟨_, Same.seqL s2 hS⟩, for_list (K := K) (a := a) (xs := xs) (fun i σ H3 => ∃ y2 ys, σ = [some (.ref a), some (.ref c), y2] ∧ Same H H3 ∧ H3 c = some (.lst ys) ∧ DpAll K (Nw (upd H c (.lst [])) H3) ys (ds.take i) ∧ i ≤ ds.length)
            ⟨none, [], rfl, s2, upd_same, .nil, by omega⟩ (fun i σ H3 _ ⟨_, _, _, s3, _⟩ => Same.seqL s3 hS) ?_ ?_⟩
          · rintro i x σ H3 hxi ⟨y2, ys, rfl, s3, hc, hys, hi⟩
            obtain ⟨d, hdi, hdp⟩ := dpAll_at hd hxi
            have hi2 : i < ds.length := (List.getElem?_eq_some_iff.mp hdi).1
            have ly := dpAll_len hys
            rw [List.length_take] at ly
            refine ⟨_, rfl, .inl ⟨rfl, _, SqL.of hc⟩, _, rfl, x, d, rfl, dp_same s3 hdp, hall d (List.mem_of_getElem? hdi), fun H4 y s4 hy => ?_⟩
            refine ⟨c, ys, y, rfl, rfl, s4 _ _ hc, small1000 (by omega), ?_⟩
            refine ⟨_, ys ++ [y], rfl, fun b o e => ?_, upd_same, ?_, by omega⟩
            · rw [upd_ne (ne_of_none e nc0)]
              exact s4 _ _ (s3 _ _ e)
            · rw [List.take_add_one, hdi]
              refine dpAll_snoc (dpAll_same (fun b o e => ?_) hys) (dp_same (fun b o e => ?_) hy)
              · obtain ⟨e1, e2⟩ := Nw.get e
                have nb : b ≠ c := fun z => by
                  rw [z, upd_same] at e1
                  cases e1
                exact Nw.mk e1 (by rw [upd_ne nb]; exact s4 _ _ e2)
              · obtain ⟨e1, e2⟩ := Nw.get e
                have nb : b ≠ c := fun z => by
                  rw [z, hc] at e1
                  cases e1
                exact Nw.mk (by rw [upd_ne nb]; exact s3.free e1) (by rw [upd_ne nb]; exact e2)
          · rintro σ H3 ⟨y2, ys, rfl, s3, hc, hys, _⟩
            rw [lx, List.take_length] at hys
            have toN : ∀ H5, Same H3 H5 → Same (Nw (upd H c (.lst [])) H3) (Nw H H5) := fun H5 s5 b o e => by
              obtain ⟨e1, e2⟩ := Nw.get e
              have nb : b ≠ c := fun z => by
                rw [z, upd_same] at e1
                cases e1
              rw [upd_ne nb] at e1
              exact Nw.mk e1 (s5 _ _ e2)
            refine ⟨_, rfl, .ref a, .ty "tuple", .type "list", .type "tuple", false, rfl, .ty "tuple", tyL (Same.seqL s3 hS), kit_ty (by decide +kernel), _, rfl, iteF ?_⟩
            exact ⟨_, rfl, q _ _ s3 (.lst (SqL.of (Nw.mk nc0 hc)) (dpAll_same (toN _ (Same.refl _)) hys))⟩
      | tup _ hlen hall =>
        rename_i ds
        cases hx with
        | tup hS hd =>
          rename_i a xs
          refine ⟨_, (pss_cons (ps_if (pt_not (pt_val (pe_callB call_isiT (by rfl) T.isinstance (by decide +kernel) (pa_cons (pv 0) (pa_cons (pe_tup (pa_cons (pe_bltn (v := .ty "list") rfl T.list (by decide +kernel) rfl) (pa_cons (pe_bltn (v := .ty "tuple") rfl T.tuple (by decide +kernel) rfl) pa_nil))) pa_nil)))))
                (pss_one (ps_ret (pv 0)))
                pss_nil)
              (pss_cons (ps_set (i := 1) sc_own_copy.nd rfl (Or.inl rfl) (pe_lst pa_nil))
              (pss_cons (ps_for PassesOwn.never rfl (pi_tup (pv 0)) (pg_name (i := 2) sc_own_copy.nd rfl (Or.inl rfl))
                (pss_one (ps_expr (pe_bm PySem.F.plainAttrs_list PySem.F.slot_list_append PySem.F.type_list_append mt_append (pv 1) (pa_cons (C8.pe_c cown_copy hr (by omega) (by rfl) (pa_cons (pv 2) pa_nil)) pa_nil)))))
              (pss_cons (ps_if (pt_val (pe_callB call_isi (by rfl) T.isinstance (by decide +kernel) (pa_cons (pv 0) (pa_cons (pe_bltn (v := .ty "tuple") rfl T.tuple (by decide +kernel) rfl) pa_nil))))
                (pss_one (ps_ret (pe_callTy call_tuple_of (by rfl) T.tuple (by decide +kernel) (pa_cons (pv 1) pa_nil))))
                pss_nil)
              (pss_one (ps_ret (pv 1))))))), ?_⟩
          have lx := dpAll_len hd
          refine ⟨_, rfl, by show 2 ≤ sizeLine; decide, fun tp nt => ?_⟩
          have s1 := same_upd (o := .tup [.ty "list", .ty "tuple"]) nt
          refine ⟨.ref a, tp, _, .type "tuple", [.type "list", .type "tuple"], true, rfl, upd_same, .cons (.ty "list") (.cons (.ty "tuple") .nil), tyT (Same.seqT s1 hS), kitLT2, _, rfl, iteF ?_⟩
          refine ⟨by show 0 ≤ sizeLine; decide, fun c nc => ?_⟩
          have s2 := s1.trans (same_upd (o := .lst []) nc)
          have nc0 : H c = none := s1.free nc
          refine ⟨_, rfl, a, rfl, ⟨_, Same.seqT s2 hS⟩, for_tup (K := K) (a := a) (xs := xs) (fun i σ H3 => ∃ y2 ys, σ = [some (.ref a), some (.ref c), y2] ∧ Same H H3 ∧ H3 c = some (.lst ys) ∧ DpAll K (Nw (upd H c (.lst [])) H3) ys (ds.take i) ∧ i ≤ ds.length)
            ⟨none, [], rfl, s2, upd_same, .nil, by omega⟩ (fun i σ H3 _ ⟨_, _, _, s3, _⟩ => Same.seqT s3 hS) ?_ ?_⟩
          · rintro i x σ H3 hxi ⟨y2, ys, rfl, s3, hc, hys, hi⟩
            obtain ⟨d, hdi, hdp⟩ := dpAll_at hd hxi
            have hi2 : i < ds.length := (List.getElem?_eq_some_iff.mp hdi).1
            have ly := dpAll_len hys
            rw [List.length_take] at ly
            refine ⟨_, rfl, .inl ⟨rfl, _, SqL.of hc⟩, _, rfl, x, d, rfl, dp_same s3 hdp, hall d (List.mem_of_getElem? hdi), fun H4 y s4 hy => ?_⟩
            refine ⟨c, ys, y, rfl, rfl, s4 _ _ hc, small1000 (by omega), ?_⟩
            refine ⟨_, ys ++ [y], rfl, fun b o e => ?_, upd_same, ?_, by omega⟩
            · rw [upd_ne (ne_of_none e nc0)]
              exact s4 _ _ (s3 _ _ e)
            · rw [List.take_add_one, hdi]
              refine dpAll_snoc (dpAll_same (fun b o e => ?_) hys) (dp_same (fun b o e => ?_) hy)
              · obtain ⟨e1, e2⟩ := Nw.get e
                have nb : b ≠ c := fun z => by
                  rw [z, upd_same] at e1
                  cases e1
                exact Nw.mk e1 (by rw [upd_ne nb]; exact s4 _ _ e2)
              · obtain ⟨e1, e2⟩ := Nw.get e
                have nb : b ≠ c := fun z => by
                  rw [z, hc] at e1
                  cases e1
                exact Nw.mk (by rw [upd_ne nb]; exact s3.free e1) (by rw [upd_ne nb]; exact e2)
          · rintro σ H3 ⟨y2, ys, rfl, s3, hc, hys, _⟩
            rw [lx, List.take_length] at hys
            have toN : ∀ H5, Same H3 H5 → Same (Nw (upd H c (.lst [])) H3) (Nw H H5) := fun H5 s5 b o e => by
              obtain ⟨e1, e2⟩ := Nw.get e
              have nb : b ≠ c := fun z => by
                rw [z, upd_same] at e1
                cases e1
              rw [upd_ne nb] at e1
              exact Nw.mk e1 (s5 _ _ e2)
            refine ⟨_, rfl, .ref a, .ty "tuple", .type "tuple", .type "tuple", true, rfl, .ty "tuple", tyT (Same.seqT s3 hS), kit_ty (by decide +kernel), _, rfl, iteT ?_⟩
            refine ⟨_, rfl, c, ys, rfl, .inl ⟨SqL.of hc, fun l nl => ?_⟩⟩
            exact q _ _ (s3.trans (same_upd nl)) (.tup (SqT.of (Nw.mk (s3.free nl) upd_same)) (dpAll_same (toN _ (same_upd nl)) hys))
end
/-! ### what is drawn: one of some, some in another order, numbers -/
theorem ifT {c : Bool} {A B : Prop} (h : c = true) (x : A) : if c = true then A else B := by rw [if_pos h]; exact x
theorem ifF {c : Bool} {A B : Prop} (h : c = false) (x : B) : if c = true then A else B := by rw [if_neg (by rw [h]; decide)]; exact x
theorem yesT {σ : L2.St} {H : Hp} {A B : Hp → Prop} (h : A H) : tYes σ H (fun b H3 => if b = true then A H3 else B H3) := by
  show (if true = true then A H else B H)
  exact iteT h
theorem Same.at_ {H0 H : Hp} {p : Addr} {o : HO} (s : Same H0 H) (n : H0 p = none) : Same H0 (upd H p o) := fun b x e => by
  rw [upd_ne (ne_of_none e n)]
  exact s b x e
theorem Same.new {H0 H : Hp} {p : Addr} {o : HO} (s : Same H0 H) (n : H p = none) : Same H0 (upd H p o) := s.trans (same_upd n)
theorem Same.but {H0 H H' : Hp} {a : Addr} (s : Same H0 H) (n : H0 a = none) (b : But a H H') : Same H0 H' := fun x o e => b x o (ne_of_none e n) (s x o e)
theorem BoxL.mono {n m : Nat} {b : List V} (h : BoxL n b) (l : n ≤ m) : BoxL m b := by
  obtain ⟨b0, b1, b2, e, h0, h1, h2, h3, h4⟩ := h
  exact ⟨b0, b1, b2, e, h0, h1, h2, h3, by omega⟩
theorem But.free {a b : Addr} {H H' : Hp} {o : HO} (x : But a H H') (ha : H' a = some o) (h : H' b = none) : H b = none := by
  cases e : H b with
  | none => rfl
  | some u =>
    by_cases z : b = a
    · rw [z, ha] at h
      cases h
    · rw [x b u z e] at h
      cases h
abbrev s__law_one_of : Stmt := top 51
abbrev N__law_one_of : List Str := ["_law_box", "_law_some"]
abbrev P__law_one_of : List Str := ["_law_box", "_law_some"]
theorem sc__law_one_of : FnScope N__law_one_of P__law_one_of (defScope s__law_one_of) := ⟨rfl, rfl, rfl, by decide +kernel, rfl, by decide +kernel, by decide +kernel⟩
abbrev s__law_strewn : Stmt := top 52
abbrev N__law_strewn : List Str := ["_law_box", "_law_some", "_law_found", "_law_k", "_law_other"]
abbrev P__law_strewn : List Str := ["_law_box", "_law_some"]
theorem sc__law_strewn : FnScope N__law_strewn P__law_strewn (defScope s__law_strewn) := ⟨rfl, rfl, rfl, by decide +kernel, rfl, by decide +kernel, by decide +kernel⟩
abbrev s__law_number : Stmt := top 54
abbrev N__law_number : List Str := ["_law_box"]
abbrev P__law_number : List Str := ["_law_box"]
theorem sc__law_number : FnScope N__law_number P__law_number (defScope s__law_number) := ⟨rfl, rfl, rfl, by decide +kernel, rfl, by decide +kernel, by decide +kernel⟩
def spOneOf (K : PySem.W.Frag) : Sp := fun vs H Q _ => ∃ (a sl : Addr) (m : Nat) (b xs : List V), vs = [.ref a, .ref sl] ∧ H a = some (.lst b) ∧ BoxL m b ∧ m < 900000 ∧ SqL K H sl xs ∧ sl ≠ a ∧ 0 < xs.length ∧ xs.length ≤ 1000 ∧
  ∀ (i : Nat) (v : V) (b' : List V), xs[i]? = some v → BoxL (m + 1) b' → Q v (upd H a (.lst b'))
def spStrewn (K : PySem.W.Frag) : Sp := fun vs H Q _ => ∃ (a sl : Addr) (m : Nat) (b xs : List V), vs = [.ref a, .ref sl] ∧ H a = some (.lst b) ∧ BoxL m b ∧ m + xs.length < 900000 ∧ SqL K H sl xs ∧ sl ≠ a ∧ xs.length ≤ 100000 ∧
  ∀ (H' : Hp) (l : Addr) (ys b' : List V), But a H H' → H l = none → H' l = some (.lst ys) → ys.Perm xs → H' a = some (.lst b') → BoxL (m + xs.length) b' → Q (.ref l) H'
def spNumber : Sp := fun vs H Q _ => ∃ (a : Addr) (m : Nat) (b : List V), vs = [.ref a] ∧ H a = some (.lst b) ∧ BoxL m b ∧ m + 4 < 900000 ∧
  ∀ (H' : Hp) (r : Int) (b' : List V), But a H H' → H' a = some (.lst b') → BoxL (m + 4) b' → 0 ≤ r → r < 1000000 → Q (.int r) H'
section
variable {P : Program} {w : World} {K : PySem.W.Frag} {mg : Str → Option Value} {base : Heap}
theorem ok_one_of (T : Bt mg) (c_law_take : C8.Cal P w K mg base 1 "_law_take" spTake []) (D : Dd K mg "_law_one_of" s__law_one_of P__law_one_of) : C8.Cal P w K mg base 2 "_law_one_of" (spOneOf K) [] := by
  refine D.cal sc__law_one_of (fun vs H Q E h => ?_) (fun f cdv A outer s H vs Q E hr h => ?_)
  · obtain ⟨a, sl, m, b, xs, rfl, _⟩ := h
    rfl
  · obtain ⟨a, sl, m, b, xs, rfl, ha, hB, hm, hS, ns, h0, h1, q⟩ := h
    refine ⟨_, (pss_one (ps_ret (pe_ix ix_list (pv 1) (C8.pe_c c_law_take hr (by decide) (by rfl) (pa_cons (pv 0) (pa_cons (pe_callB call_len_seq (by rfl) T.len PySem.boot_len (pa_cons (pv 1) pa_nil)) pa_nil))) (fun _ _ => rfl)))), ?_⟩
    refine ⟨_, rfl, _, rfl, _, rfl, sl, xs, rfl, .inl hS, a, xs.length, m, b, rfl, ha, hB, by omega, by omega, by omega, fun r b' r0 r1 hB' => ?_⟩
    obtain ⟨i, rfl⟩ : ∃ i : Nat, r = (i : Int) := ⟨r.toNat, by omega⟩
    have hi : i < xs.length := by omega
    exact ⟨sl, xs, _, xs[i], rfl, rfl, But.seq (But.upd (But.refl a H)) ns hS, atI_nat (j := i) (by simp [hi]), q i _ b' (by simp [hi]) hB'⟩
theorem ok_strewn (T : Bt mg) (c_law_take : C8.Cal P w K mg base 1 "_law_take" spTake []) (D : Dd K mg "_law_strewn" s__law_strewn P__law_strewn) : C8.Cal P w K mg base 2 "_law_strewn" (spStrewn K) [] := by
  refine D.cal sc__law_strewn (fun vs H Q E h => ?_) (fun f cdv A outer s H vs Q E hr h => ?_)
  · obtain ⟨a, sl, m, b, xs, rfl, _⟩ := h
    rfl
  · obtain ⟨a, sl, m, b, xs, rfl, ha, hB, hm, hS, ns, h1, q⟩ := h
    refine ⟨_, (pss_cons (ps_set (i := 2) sc__law_strewn.nd rfl (Or.inl rfl) (pe_callTy call_list_of (by rfl) T.list (by decide +kernel) (pa_cons (pv 1) pa_nil)))
        (pss_cons (ps_for PassesOwn.never rfl (pi_range3 rfl T.range (pa_cons (pe_op op_sub (pe_callB call_len_seq (by rfl) T.len PySem.boot_len (pa_cons (pv 2) pa_nil)) pe_int) (pa_cons pe_int (pa_cons (pe_un un_neg pe_int) pa_nil)))) (pg_name (i := 3) sc__law_strewn.nd rfl (Or.inl rfl))
          (pss_cons (ps_set (i := 4) sc__law_strewn.nd rfl (Or.inl rfl) (C8.pe_c c_law_take hr (by decide) (by rfl) (pa_cons (pv 0) (pa_cons (pe_op op_add (pv 3) pe_int) pa_nil))))
        (pss_one (ps_asg (pe_tup (pa_cons (pe_ix ix_list (pv 2) (pv 4) (fun _ _ => rfl)) (pa_cons (pe_ix ix_list (pv 2) (pv 3) (fun _ _ => rfl)) pa_nil))) (pg_tup rfl (pgs_cons (pg_sub (pv 2) (pv 3) set_list) (pgs_cons (pg_sub (pv 2) (pv 4) set_list) pgs_nil)))))))
        (pss_one (ps_ret (pv 2))))), ?_⟩
    refine ⟨_, rfl, sl, xs, rfl, .inl hS, fun l nl => ?_⟩
    have nla : a ≠ l := ne_of_none ha nl
    have s1 := same_upd (o := .lst xs) nl
    have hl0 : (upd H l (.lst xs)) l = some (.lst xs) := upd_same
    generalize upd H l (.lst xs) = H1 at s1 hl0 ⊢
    refine ⟨_, rfl, l, xs, rfl, .inl (SqL.of hl0), _, _, rfl, rfl, _, rfl, ((xs.length : Nat) : Int) - 1, 0, -1, (((xs.length : Nat) : Int) - 1 - 0).toNat, rfl, RgC.neg (by omega) (by omega) (by decide) (by decide), ?_⟩
    refine for_rangeC (lo := ((xs.length : Nat) : Int) - 1) (c := -1) (n := (((xs.length : Nat) : Int) - 1 - 0).toNat) (fun i σ Y => ∃ y3 y4 ys b', σ = [some (.ref a), some (.ref sl), some (.ref l), y3, y4] ∧ But a H Y ∧ Y l = some (.lst ys) ∧ ys.Perm xs ∧ Y a = some (.lst b') ∧ BoxL (m + i) b') ⟨none, none, xs, b, rfl, But.of s1, hl0, .refl _, s1 _ _ ha, hB⟩ ?_ ?_
    · rintro i σ Y hi ⟨y3, y4, ys, b', rfl, bt, hl, hp, hb', hB'⟩
      have ly := hp.length_eq
      obtain ⟨k, hk⟩ : ∃ k : Nat, ((xs.length : Nat) : Int) - 1 + (i : Nat) * (-1) = (k : Nat) := ⟨xs.length - 1 - i, by omega⟩
      have hk2 : k < ys.length := by omega
      rw [hk]
      refine ⟨_, rfl, _, rfl, _, _, rfl, rfl, a, k + 1, m + i, b', rfl, hb', hB', by omega, by omega, by omega, fun r b2 r0 r1 hB2 => ?_⟩
      obtain ⟨o, rfl⟩ := Int.eq_ofNat_of_zero_le r0
      have ho : o < ys.length := by omega
      have hl2 : (upd Y a (.lst b2)) l = some (.lst ys) := by
        rw [upd_ne nla.symm]
        exact hl
      have bt2 : But a H (upd Y a (.lst b2)) := But.upd bt
      have hb2 : (upd Y a (.lst b2)) a = some (.lst b2) := upd_same
      generalize upd Y a (.lst b2) = Y2 at hl2 bt2 hb2 ⊢
      refine ⟨_, rfl, _, rfl, l, _, _, ys[o], rfl, rfl, SqL.of hl2, atI_nat (j := o) (by simp [ho]), ?_⟩
      refine ⟨_, rfl, _, rfl, l, _, _, ys[k], rfl, rfl, SqL.of hl2, atI_nat (j := k) (by simp [hk2]), ?_⟩
      refine ⟨by show 2 ≤ sizeLine; decide, fun t nt => ?_⟩
      have s3 := same_upd (o := .tup [ys[o], ys[k]]) nt
      have hl3 := s3 _ _ hl2
      have hb3 := s3 _ _ hb2
      have bt3 := bt2.trans (But.of (a := a) s3)
      refine ⟨t, _, rfl, SqT.of upd_same, rfl, _, _, rfl, ?_⟩
      generalize upd Y2 t (.tup [ys[o], ys[k]]) = Y3 at s3 hl3 hb3 bt3 ⊢
      refine ⟨_, rfl, _, rfl, l, ys, (k : Nat), k, rfl, rfl, hl3, ixN_nat hk2, ?_⟩
      refine ⟨_, _, rfl, ?_⟩
      have hl4 : (upd Y3 l (.lst (ys.set k ys[o]))) l = some (.lst (ys.set k ys[o])) := upd_same
      refine ⟨_, rfl, _, rfl, l, _, (o : Nat), o, rfl, rfl, hl4, ixN_nat (by rw [List.length_set]; exact ho), ?_⟩
      refine ⟨rfl, ?_⟩
      refine ⟨_, _, _, b2, rfl, fun c x nc hc => ?_, upd_same, (List.set_set_perm hk2 ho).trans hp, ?_, hB2⟩
      · rw [upd_ne (ne_of_none hc nl), upd_ne (ne_of_none hc nl)]
        exact bt3 _ _ nc hc
      · rw [upd_ne nla, upd_ne nla]
        exact hb3
    · rintro σ Y ⟨y3, y4, ys, b', rfl, bt, hl, hp, hb', hB'⟩
      exact ⟨_, rfl, q _ l ys b' bt nl hl hp hb' (hB'.mono (by omega))⟩
theorem ok_number (c_law_take : C8.Cal P w K mg base 1 "_law_take" spTake []) (D : Dd K mg "_law_number" s__law_number P__law_number) : C8.Cal P w K mg base 2 "_law_number" spNumber [] := by
  refine D.cal sc__law_number (fun vs H Q E h => ?_) (fun f cdv A outer s H vs Q E hr h => ?_)
  · obtain ⟨a, m, b, rfl, _⟩ := h
    rfl
  · obtain ⟨a, m, b, rfl, ha, hB, hm, q⟩ := h
    refine ⟨_, (pss_one (ps_ret (pe_ix ix_list (pe_lst (pa_cons (C8.pe_c c_law_take hr (by decide) (by rfl) (pa_cons (pv 0) (pa_cons pe_int pa_nil))) (pa_cons (C8.pe_c c_law_take hr (by decide) (by rfl) (pa_cons (pv 0) (pa_cons pe_int pa_nil))) (pa_cons (C8.pe_c c_law_take hr (by decide) (by rfl) (pa_cons (pv 0) (pa_cons (pe_op op_pow pe_int pe_int) pa_nil))) pa_nil)))) (C8.pe_c c_law_take hr (by decide) (by rfl) (pa_cons (pv 0) (pa_cons pe_int pa_nil))) (fun _ _ => rfl)))), ?_⟩
    refine ⟨_, rfl, a, 4, m, b, rfl, ha, hB, by omega, by decide, by decide, fun r1 b1 r10 r11 hB1 => ?_⟩
    refine ⟨_, rfl, a, 30, m + 1, b1, rfl, upd_same, hB1, by omega, by decide, by decide, fun r2 b2 r20 r21 hB2 => ?_⟩
    refine ⟨_, rfl, _, _, rfl, rfl, ⟨by decide, by decide, by decide⟩, a, _, m + 2, b2, rfl, upd_same, hB2, by omega, by decide, by decide, fun r3 b3 r30 r31 hB3 => ?_⟩
    refine ⟨by show 3 ≤ sizeLine; decide, fun l nl => ?_⟩
    have nla : l ≠ a := fun z => by
      rw [z, upd_same] at nl
      cases nl
    refine ⟨_, rfl, a, 3, m + 3, b3, rfl, by rw [upd_ne nla.symm, upd_same], hB3, by omega, by decide, by decide, fun r4 b4 r40 r41 hB4 => ?_⟩
    have hl : (upd (upd (upd (upd (upd H a (.lst b1)) a (.lst b2)) a (.lst b3)) l (.lst [.int r1, .int r2, .int r3])) a (.lst b4)) l = some (.lst [.int r1, .int r2, .int r3]) := by
      rw [upd_ne nla, upd_same]
    have bt : But a H (upd (upd (upd (upd (upd H a (.lst b1)) a (.lst b2)) a (.lst b3)) l (.lst [.int r1, .int r2, .int r3])) a (.lst b4)) := But.upd (But.new (But.upd (But.upd (But.upd (But.refl a H)))) nl)
    have r31' : r3 < 1000000 := r31
    have hc : r4 = 0 ∨ r4 = 1 ∨ r4 = 2 := by omega
    rcases hc with rfl | rfl | rfl
    · exact ⟨l, _, _, _, rfl, rfl, SqL.of hl, atI_nat (j := 0) rfl, q _ _ b4 bt upd_same hB4 r10 (by omega)⟩
    · exact ⟨l, _, _, _, rfl, rfl, SqL.of hl, atI_nat (j := 1) rfl, q _ _ b4 bt upd_same hB4 r20 (by omega)⟩
    · exact ⟨l, _, _, _, rfl, rfl, SqL.of hl, atI_nat (j := 2) rfl, q _ _ b4 bt upd_same hB4 r30 r31'⟩
end
/-! ### names: unlike ones, NAMEs all -/
abbrev s__law_named : Stmt := top 53
abbrev N__law_named : List Str := ["_law_box", "_law_many", "_law_letters", "_law_found", "_law_words", "_law_k", "_law_name", "_law_turn"]
abbrev P__law_named : List Str := ["_law_box", "_law_many"]
theorem sc__law_named : FnScope N__law_named P__law_named (defScope s__law_named) := ⟨rfl, rfl, rfl, by decide +kernel, rfl, by decide +kernel, by decide +kernel⟩
def LET : Str := "abcdefghijklmnopqrstuvwxyz"
theorem let_lst : LET.cps.toList = [97, 98, 99, 100, 101, 102, 103, 104, 105, 106, 107, 108, 109, 110, 111, 112, 113, 114, 115, 116, 117, 118, 119, 120, 121, 122] := by decide +kernel
theorem let_nth {i : Nat} (h : i < 26) : LET.cps.toList[i]? = some (97 + i) := by
  rw [let_lst]
  have hc : i = 0 ∨ i = 1 ∨ i = 2 ∨ i = 3 ∨ i = 4 ∨ i = 5 ∨ i = 6 ∨ i = 7 ∨ i = 8 ∨ i = 9 ∨ i = 10 ∨ i = 11 ∨ i = 12 ∨ i = 13 ∨ i = 14 ∨ i = 15 ∨ i = 16 ∨ i = 17 ∨ i = 18 ∨ i = 19 ∨ i = 20 ∨ i = 21 ∨ i = 22 ∨ i = 23 ∨ i = 24 ∨ i = 25 := by omega
  rcases hc with rfl | rfl | rfl | rfl | rfl | rfl | rfl | rfl | rfl | rfl | rfl | rfl | rfl | rfl | rfl | rfl | rfl | rfl | rfl | rfl | rfl | rfl | rfl | rfl | rfl | rfl <;> rfl
/-- letters, one to six -/
def Wd (w : List Nat) : Prop := 1 ≤ w.length ∧ w.length ≤ 6 ∧ ∀ c ∈ w, isLet c = true
/-- a NAME -/
def NmOk (w : List Nat) : Prop := Wd w ∧ w ≠ OWNL
theorem join_nil : ∀ ps : List (List Nat), TL.joinL [] ps = ps.flatten := fun ps => by
  induction ps with
  | nil => rfl
  | cons p r ih =>
    cases r with
    | nil => simp [TL.joinL]
    | cons q r =>
      show p ++ ([] ++ TL.joinL [] (q :: r)) = _
      rw [ih]
      rfl
theorem sing_flat : ∀ cs : List Nat, (cs.map fun c => [c]).flatten = cs
  | [] => rfl
  | c :: cs => by
    rw [List.map_cons, List.flatten_cons, sing_flat cs]
    rfl
theorem s_emp : (("" : String) : Str) = SX.S [] := by decide +kernel
theorem s_own : (("own" : String) : Str) = SX.S OWNL := by decide +kernel
def WORDS : Str := "copy plus less times over rest least most same under pick sort make rule cap kept at number lay plant put mark give uproot undo ask tree end none ring"
def WORDS1 : Str := "copy plus less times over rest least most same under pick sort make rule cap kept at number"
def WORDS2 : Str := " lay plant put mark give uproot undo ask tree end none ring"
theorem words_cat : WORDS1 ++ WORDS2 = WORDS := by decide +kernel
theorem words_wd : (Txt.split WORDS " ").length = 30 ∧ ∀ z ∈ Txt.split WORDS " ", ∃ w, z = SX.S w ∧ Wd w := by
  have hall : (Txt.split WORDS " ").length = 30 ∧ (Txt.split WORDS " ").all (fun z => decide (1 ≤ z.cps.toList.length) && (decide (z.cps.toList.length ≤ 6) && z.cps.toList.all isLet)) = true := by decide +kernel
  refine ⟨hall.1, fun z hz => ⟨z.cps.toList, (SX.S_tl z).symm, ?_⟩⟩
  have hh := List.all_eq_true.mp hall.2 z hz
  simp only [Bool.and_eq_true, decide_eq_true_eq] at hh
  exact ⟨hh.1, hh.2.1, fun c hc => List.all_eq_true.mp hh.2.2 c hc⟩
theorem nodup_le {us f : List (List Nat)} (h : us.Nodup) (s : ∀ u ∈ us, u ∈ f) : us.length ≤ f.length := by
  induction us generalizing f with
  | nil => exact Nat.zero_le _
  | cons u us ih =>
    have hu := s u (List.mem_cons_self ..)
    rw [List.nodup_cons] at h
    have := ih (f := f.erase u) h.2 fun x hx => (List.mem_erase_of_ne (fun z => h.1 (by rw [← z]; exact hx))).mpr (s x (List.mem_cons_of_mem _ hx))
    rw [List.length_erase_of_mem hu] at this
    have : 0 < f.length := List.length_pos_of_mem hu
    rw [List.length_cons]
    omega
/-- another name in the place of one that is taken -/
def bend (w : List Nat) (j : Nat) : List Nat := w.take 4 ++ [97] ++ [97 + j]
theorem bend_wd {w : List Nat} {j : Nat} (h : Wd w) (hj : j < 26) : Wd (bend w j) := by
  unfold bend
  refine ⟨?_, ?_, fun c hc => ?_⟩
  · rw [List.length_append, List.length_append]
    show 1 ≤ _ + 1 + 1
    omega
  · rw [List.length_append, List.length_append, List.length_take]
    show _ + 1 + 1 ≤ 6
    omega
  · rw [List.mem_append, List.mem_append] at hc
    rcases hc with (hc | hc) | hc
    · exact h.2.2 c (List.mem_of_mem_take hc)
    · rw [List.mem_singleton.mp hc]
      rfl
    · rw [List.mem_singleton.mp hc]
      unfold isLet
      rw [decide_eq_true (by omega : 97 ≤ 97 + j), decide_eq_true (by omega : 97 + j ≤ 122)]
      rfl
theorem bend_last (w : List Nat) (j : Nat) : (bend w j).getLast? = some (97 + j) := by
  unfold bend
  rw [List.getLast?_append]
  rfl
theorem bend_own {w : List Nat} {j : Nat} : bend w j ≠ OWNL := fun z => by
  have e : (bend w j).reverse = OWNL.reverse := congrArg List.reverse z
  unfold bend OWNL at e
  rw [List.reverse_append, List.reverse_append] at e
  have e2 : (97 + j) :: 97 :: (w.take 4).reverse = [110, 119, 111] := e
  injection e2 with _ e3
  injection e3 with e4 _
  exact absurd e4 (by decide)
/-- what the turns leave: it is free, or so many were met -/
def Clash (f : List (List Nat)) (j : Nat) (w : List Nat) : Prop := (w ∉ f ∧ w ≠ OWNL) ∨ j = 0 ∨ ∃ us : List (List Nat), us.Nodup ∧ (∀ u ∈ us, u ∈ f ∧ ∃ i, i + 1 < j ∧ u.getLast? = some (97 + i)) ∧ us.length + 1 = j ∧ w.getLast? = some (97 + (j - 1)) ∧ w ≠ OWNL
theorem clash_step {f : List (List Nat)} {j : Nat} {w : List Nat} (h : Clash f j w) (hb : w ∈ f ∨ w = OWNL) : Clash f (j + 1) (bend w j) := by
  refine .inr (.inr ?_)
  rcases h with ⟨h1, h2⟩ | rfl | ⟨us, n1, n2, n3, n4, n5⟩
  · rcases hb with hb | hb
    · exact absurd hb h1
    · exact absurd hb h2
  · exact ⟨[], List.nodup_nil, (fun u hu => nomatch hu), rfl, bend_last _ _, bend_own⟩
  · have hw : w ∈ f := by
      rcases hb with hb | hb
      · exact hb
      · exact absurd hb n5
    refine ⟨w :: us, List.nodup_cons.mpr ⟨fun hm => ?_, n1⟩, fun u hu => ?_, by rw [List.length_cons]; omega, bend_last _ _, bend_own⟩
    · obtain ⟨_, i, hi, hl⟩ := n2 w hm
      rw [n4] at hl
      have := Option.some.inj hl
      omega
    · rcases List.mem_cons.mp hu with rfl | hu
      · exact ⟨hw, j - 1, by omega, n4⟩
      · obtain ⟨h1, i, hi, hl⟩ := n2 u hu
        exact ⟨h1, i, by omega, hl⟩
theorem clash_end {f : List (List Nat)} {w : List Nat} (h : Clash f (f.length + 2) w) : w ∉ f ∧ w ≠ OWNL := by
  rcases h with h | h | ⟨us, n1, n2, n3, _, _⟩
  · exact h
  · omega
  · have := nodup_le n1 fun u hu => (n2 u hu).1
    omega
def nmV (ws : List (List Nat)) : List V := ws.map fun w => V.str (SX.S w)
theorem in_names (w : List Nat) (ws : List (List Nat)) : inV (.str (SX.S w)) (nmV ws) = decide (w ∈ ws) := by
  induction ws with
  | nil => rfl
  | cons u ws ih =>
    show (eqV (.str (SX.S u)) (.str (SX.S w)) || inV (.str (SX.S w)) (nmV ws)) = _
    rw [ih]
    show ((SX.S u == SX.S w) || _) = _
    rw [SX.S_beq_eq, Bool.eq_iff_iff, Bool.or_eq_true, decide_eq_true_eq, decide_eq_true_eq, decide_eq_true_eq, List.mem_cons]
    exact ⟨fun h => h.elim (fun e => .inl e.symm) .inr, fun h => h.elim (fun e => .inl e.symm) .inr⟩
theorem flat_names (ws : List (List Nat)) : (nmV ws).all flatV = true := by
  induction ws with
  | nil => rfl
  | cons w ws ih =>
    show (true && (nmV ws).all flatV) = true
    rw [ih]
    rfl
theorem nmV_len (ws : List (List Nat)) : (nmV ws).length = ws.length := List.length_map _
def spNamed : Sp := fun vs H Q _ => ∃ (a : Addr) (many m : Nat) (b : List V), vs = [.ref a, .int many] ∧ many ≤ 20 ∧ H a = some (.lst b) ∧ BoxL m b ∧ m + 10 * many < 900000 ∧
  ∀ (H' : Hp) (l : Addr) (ws : List (List Nat)) (b' : List V), But a H H' → H l = none → H' l = some (.lst (nmV ws)) → ws.length = many → ws.Nodup → (∀ w ∈ ws, NmOk w) → H' a = some (.lst b') → BoxL (m + 10 * many) b' → Q (.ref l) H'
section
variable {P : Program} {w : World} {K : PySem.W.Frag} {mg : Str → Option Value} {base : Heap}
theorem ok_named (T : Bt mg) (c_law_take : C8.Cal P w K mg base 1 "_law_take" spTake []) (D : Dd K mg "_law_named" s__law_named P__law_named) : C8.Cal P w K mg base 2 "_law_named" spNamed [] := by
  refine D.cal sc__law_named (fun vs H Q E h => ?_) (fun f cdv A outer s H vs Q E hr h => ?_)
  · obtain ⟨a, many, m, b, rfl, _⟩ := h
    rfl
  · obtain ⟨a, many, m, b, rfl, hmany, ha, hB, hm, q⟩ := h
    refine ⟨_, (pss_cons (ps_asg (pe_tup (pa_cons pe_str (pa_cons (pe_lst pa_nil) pa_nil))) (pg_tup rfl (pgs_cons (pg_name (i := 2) sc__law_named.nd rfl (Or.inr rfl)) (pgs_cons (pg_name (i := 3) sc__law_named.nd rfl (Or.inl rfl)) pgs_nil))))
        (pss_cons (ps_set (i := 4) sc__law_named.nd rfl (Or.inl rfl) pe_str)
        (pss_cons (ps_set (i := 4) sc__law_named.nd rfl (Or.inl rfl) (pe_op op_add_str (pv 4) pe_str))
        (pss_cons (ps_for PassesOwn.never rfl (pi_range1 rfl T.range (pa_cons (pv 1) pa_nil)) (pg_name (i := 5) sc__law_named.nd rfl (Or.inl rfl))
          (pss_cons (ps_set (i := 6) sc__law_named.nd rfl (Or.inl rfl) (pe_bm PySem.F.plainAttrs_str PySem.F.slot_str_join PySem.F.type_str_join mt_join pe_str (pa_cons (pe_lc (own := [("_law_turn", 7)]) (by exact rfl) sc__law_named.nd (pi_range1 rfl T.range (pa_cons (pe_ix ix_list (pe_lst (pa_cons pe_int (pa_cons pe_int (pa_cons pe_int (pa_cons pe_int pa_nil))))) (C8.pe_c c_law_take hr (by decide) (by rfl) (pa_cons (pv 0) (pa_cons pe_int pa_nil))) (fun _ _ => rfl)) pa_nil)) (blkOk_by (own := [("_law_turn", 7)]) (N := N__law_named) (sc := defScope s__law_named) (by decide +kernel)) (fun _ _ _ _ _ => (pg_name (i := 7) sc__law_named.nd rfl (Or.inl rfl))) (fun _ _ _ _ _ => pts_nil) (fun _ _ _ _ _ => (pe_ix ix_str (pv 2) (C8.pe_c c_law_take hr (by decide) (by rfl) (pa_cons (pv 0) (pa_cons pe_int pa_nil))) (fun _ _ => rfl)))) pa_nil)))
        (C8.pss_cut (ps_if (pt_cmpR op_eq (C8.pe_c c_law_take hr (by decide) (by rfl) (pa_cons (pv 0) (pa_cons pe_int pa_nil))) pe_int (nomark _))
          (pss_one (ps_set (i := 6) sc__law_named.nd rfl (Or.inl rfl) (pe_ix ix_list (pe_bm PySem.F.plainAttrs_str PySem.F.slot_str_split PySem.F.type_str_split mt_split (pv 4) (pa_cons pe_str pa_nil)) (C8.pe_c c_law_take hr (by decide) (by rfl) (pa_cons (pv 0) (pa_cons pe_int pa_nil))) (fun _ _ => rfl))))
          pss_nil)
        (pss_cons (ps_for PassesOwn.never rfl (pi_range1 rfl T.range (pa_cons (pe_op op_add (pe_callB call_len_seq (by rfl) T.len PySem.boot_len (pa_cons (pv 3) pa_nil)) pe_int) pa_nil)) (pg_name (i := 7) sc__law_named.nd rfl (Or.inl rfl))
          (pss_one (ps_if (PW.pt (pw_or (pt_cmpR op_in_seq (pv 6) (pv 3) (by with_unfolding_all rfl)) (pw_or1 (pt_cmpR op_eq (pv 6) pe_str (nomark _)))))
          (pss_one (ps_set (i := 6) sc__law_named.nd rfl (Or.inl rfl) (pe_op op_add_str (pe_op op_add_str (pe_slice sl_str (pv 6) po_none (po_some pe_int)) (pe_ix ix_str (pv 2) (pe_op op_fdiv (pv 7) pe_int) (fun _ _ => rfl))) (pe_ix ix_str (pv 2) (pe_op op_mod (pv 7) pe_int) (fun _ _ => rfl)))))
          pss_nil)))
        (pss_one (ps_expr (pe_bm PySem.F.plainAttrs_list PySem.F.slot_list_append PySem.F.type_list_append mt_append (pv 3) (pa_cons (pv 6) pa_nil))))))))
        (pss_one (ps_ret (pv 3))))))), ?_⟩
    refine ⟨by show 0 ≤ sizeLine; decide, fun l nl => ⟨by show 2 ≤ sizeLine; decide, fun tp nt => ⟨tp, _, rfl, SqT.of upd_same, rfl, _, _, rfl, _, _, rfl, rfl, ?_⟩⟩⟩
    have nla : a ≠ l := ne_of_none ha nl
    have s1 := same_upd (o := .lst []) nl
    have s2 := same_upd (o := .tup [.str "abcdefghijklmnopqrstuvwxyz", .ref l]) nt
    have hl0 := s2 _ _ (upd_same (H := H) (a := l) (o := .lst []))
    have ha0 := s2 _ _ (s1 _ _ ha)
    have s12 := s1.trans s2
    obtain ⟨H0, e0⟩ : ∃ H0, H0 = upd (upd H l (.lst [])) tp (.tup [.str "abcdefghijklmnopqrstuvwxyz", .ref l]) := ⟨_, rfl⟩
    rw [← e0] at hl0 ha0 s12 ⊢
    refine ⟨_, rfl, _, _, rfl, rfl, by decide +kernel, ?_⟩
    refine ⟨_, rfl, _, rfl, by omega, by omega, ?_⟩
    show ∃ W : Nat → Nat → L2.St → Hp → Prop, _
    rw [show (Str.ofString "copy plus less times over rest least most same under pick sort make rule cap kept at number" ++ Str.ofString " lay plant put mark give uproot undo ask tree end none ring") = WORDS from words_cat]
    refine for_range (lo := 0) (fun i σ H2 => ∃ y5 y6 y7 ws b', σ = [some (.ref a), some (.int many), some (.str LET), some (.ref l), some (.str WORDS), y5, y6, y7] ∧ But a H H2 ∧ H2 l = some (.lst (nmV ws)) ∧ ws.length = i ∧ ws.Nodup ∧ (∀ w ∈ ws, NmOk w) ∧ H2 a = some (.lst b') ∧ BoxL (m + 10 * i) b')
      ⟨none, none, none, [], b, rfl, But.of s12, hl0, rfl, List.nodup_nil, (fun z hz => nomatch hz), ha0, hB⟩ ?_ ?_
    · rintro i σ H2 hi ⟨y5, y6, y7, ws, b2, rfl, bt2, hl2, hzl, hnd, hws, hb2, hB2⟩
      rw [Int.zero_add]
      have hi' : i < 20 := by omega
      refine ⟨rfl, by show 4 ≤ sizeLine; decide, fun l4 n4 => ?_⟩
      have na4 : a ≠ l4 := ne_of_none hb2 n4
      refine ⟨_, rfl, a, 4, m + 10 * i, b2, rfl, same_upd n4 _ _ hb2, hB2, by omega, by decide, by decide, fun r4 b3 r40 r41 hB3 => ?_⟩
      obtain ⟨nn, hn1, hnn, hat⟩ : ∃ nn : Nat, 1 ≤ nn ∧ nn ≤ 6 ∧ atI [V.int 1, .int 2, .int 3, .int 6] r4 = some (.int nn) := by
        have hc : r4 = 0 ∨ r4 = 1 ∨ r4 = 2 ∨ r4 = 3 := by omega
        rcases hc with rfl | rfl | rfl | rfl
        · exact ⟨1, by decide, by decide, atI_nat (j := 0) rfl⟩
        · exact ⟨2, by decide, by decide, atI_nat (j := 1) rfl⟩
        · exact ⟨3, by decide, by decide, atI_nat (j := 2) rfl⟩
        · exact ⟨6, by decide, by decide, atI_nat (j := 3) rfl⟩
      refine ⟨l4, _, _, _, rfl, rfl, SqL.of (by rw [upd_ne na4.symm, upd_same]), hat, nn, rfl, by omega, by omega, fun D nD => ?_⟩
      have hl3 : (upd (upd H2 l4 (.lst [.int 1, .int 2, .int 3, .int 6])) a (.lst b3)) l = some (.lst (nmV ws)) := by
        rw [upd_ne nla.symm]
        exact same_upd n4 _ _ hl2
      have hb3 : (upd (upd H2 l4 (.lst [.int 1, .int 2, .int 3, .int 6])) a (.lst b3)) a = some (.lst b3) := upd_same
      have bt3 : But a H (upd (upd H2 l4 (.lst [.int 1, .int 2, .int 3, .int 6])) a (.lst b3)) := But.upd (But.new bt2 n4)
      obtain ⟨Z, eZ⟩ : ∃ Z, Z = upd (upd H2 l4 (.lst [.int 1, .int 2, .int 3, .int 6])) a (.lst b3) := ⟨_, rfl⟩
      rw [← eZ] at nD hl3 hb3 bt3 ⊢
      have nDa : a ≠ D := ne_of_none hb3 nD
      refine lc_range (lo := 0) (n := (nn : Int).toNat) (fun j H' => But a Z H' ∧ ∃ b' cs, H' a = some (.lst b') ∧ BoxL (m + 10 * i + 1 + j) b' ∧ H' D = some (.lst (nmV (cs.map fun c => [c]))) ∧ cs.length = j ∧ ∀ c ∈ cs, isLet c = true)
        ⟨But.of (same_upd nD), b3, [], by rw [upd_ne nDa]; exact hb3, hB3, upd_same, rfl, (fun z hz => nomatch hz)⟩ ?_ ?_
      · rintro j H4 hj ⟨bt4, b4, cs, hb4, hB4, hD4, hyl, hys⟩
        refine ⟨rfl, yesT ?_⟩
        refine ⟨_, rfl, _, rfl, a, 26, _, b4, rfl, hb4, hB4, by omega, by decide, by decide, fun r b5 r0 r1 hB5 => ?_⟩
        obtain ⟨k, rfl⟩ := Int.eq_ofNat_of_zero_le r0
        have hk : k < 26 := by omega
        refine ⟨LET, _, 97 + k, rfl, rfl, by decide +kernel, atI_nat (let_nth hk), ?_⟩
        refine ⟨_, by rw [upd_ne nDa.symm]; exact hD4, by rw [nmV_len, List.length_map, hyl]; exact small1000 (by omega), ?_, b5, cs ++ [97 + k], by rw [upd_ne nDa, upd_same], hB5, by rw [upd_same]; unfold nmV; rw [List.map_append, List.map_append]; rfl, by rw [List.length_append, hyl]; rfl, fun c hc => ?_⟩
        · refine fun x o nx hx => ?_
          rw [upd_ne (ne_of_none hx nD), upd_ne nx]
          exact bt4 _ _ nx hx
        · rcases List.mem_append.mp hc with h | h
          · exact hys c h
          · rw [List.mem_singleton.mp h]
            unfold isLet
            rw [decide_eq_true (by omega : 97 ≤ 97 + k), decide_eq_true (by omega : 97 + k ≤ 122)]
            rfl
      rintro H4 ⟨bt4, b4, cs, hb4, hB4, hD4, hyl, hys⟩
      have hy6 : cs.length ≤ 6 := by omega
      have hB4 := hB4.mono (show m + 10 * i + 1 + (nn : Int).toNat ≤ m + 10 * i + 7 by omega)
      have hD4' : H4 D = some (.lst (((cs.map fun c => [c]).map SX.S).map V.str)) := by
        rw [hD4]
        unfold nmV
        rw [List.map_map, List.map_map, List.map_map]
        rfl
      refine ⟨"", D, (cs.map fun c => [c]).map SX.S, rfl, rfl, .inl (SqL.of hD4'), ?_, ?_⟩
      · rw [SX.lens, List.map_map, show (("" : String) : Str).length = 0 from rfl, Nat.mul_zero, Nat.add_zero]
        have : ∀ l : List Nat, ((l.map ((fun x : List Nat => x.length) ∘ fun c => [c])).sum) = l.length := fun l => by
          induction l with
          | nil => rfl
          | cons c l ih =>
            rw [List.map_cons, List.sum_cons, ih, List.length_cons]
            show 1 + _ = _
            omega
        rw [this]
        omega
      have ejoin : Txt.join "" ((cs.map fun c => [c]).map SX.S) = SX.S cs := by
        rw [s_emp, SX.join_S, join_nil, sing_flat]
      rw [ejoin]
      have wd0 : Wd cs := ⟨by omega, hy6, hys⟩
      have hl4 := bt4 _ _ nla.symm hl3
      have btA := bt3.trans bt4
      refine ⟨fun σ H5 => ∃ z b5, σ = [some (.ref a), some (.int many), some (.str LET), some (.ref l), some (.str WORDS), some (.int i), some (.str (SX.S z)), y7] ∧ Wd z ∧ But a H H5 ∧ H5 l = some (.lst (nmV ws)) ∧ H5 a = some (.lst b5) ∧ BoxL (m + 10 * i + 9) b5, ?_, ?_⟩
      · refine ⟨_, rfl, a, 12, m + 10 * i + 7, b4, rfl, hb4, hB4, by omega, by decide, by decide, fun r b5 r0 r1 hB5 => ⟨rfl, _, rfl, ?_⟩⟩
        have hl5 : (upd H4 a (.lst b5)) l = some (.lst (nmV ws)) := by
          rw [upd_ne nla.symm]
          exact hl4
        have bt5 : But a H (upd H4 a (.lst b5)) := But.upd btA
        by_cases e : r = 0
        · refine ifT (decide_eq_true (by rw [e])) ?_
          refine ⟨_, rfl, rfl, WORDS, " ", rfl, rfl, rfl, by decide +kernel, fun p np => ?_⟩
          have npa : a ≠ p := fun z => by
            rw [← z, upd_same] at np
            cases np
          refine ⟨_, rfl, a, 30, m + 10 * i + 8, b5, rfl, same_upd np _ _ upd_same, hB5, by omega, by decide, by decide, fun r2 b6 r20 r21 hB6 => ?_⟩
          obtain ⟨w20, wnm⟩ := words_wd
          obtain ⟨k, rfl⟩ : ∃ k : Nat, r2 = (k : Int) := ⟨r2.toNat, by omega⟩
          have hk : k < (Txt.split WORDS " ").length := by
            rw [w20]
            omega
          obtain ⟨wd, ewd, hwd⟩ := wnm _ (List.getElem_mem hk)
          refine ⟨p, _, _, .str (Txt.split WORDS " ")[k], rfl, rfl, SqL.of (by rw [upd_ne npa.symm, upd_same]), atI_nat (j := k) (by rw [List.getElem?_map, List.getElem?_eq_getElem hk]; rfl), ?_⟩
          rw [ewd]
          exact ⟨wd, b6, rfl, hwd, But.upd (But.new bt5 np), by rw [upd_ne nla.symm]; exact same_upd np _ _ hl5, upd_same, hB6⟩
        · exact ifF (decide_eq_false fun z => e (V.int.inj z)) ⟨cs, b5, rfl, wd0, bt5, hl5, upd_same, hB5.mono (by omega)⟩
      · rintro σ H5 ⟨z0, b5, rfl, hz0, bt5, hl5, hb5, hB5⟩
        have hzl2 : ((nmV ws).length : Int) ≤ 20 := by
          rw [nmV_len]
          omega
        refine ⟨_, rfl, l, _, rfl, .inl (SqL.of hl5), _, _, rfl, rfl, _, rfl, by omega, by omega, ?_⟩
        refine for_range (lo := 0) (fun j σ H6 => H6 = H5 ∧ ∃ z y, σ = [some (.ref a), some (.int many), some (.str LET), some (.ref l), some (.str WORDS), some (.int i), some (.str (SX.S z)), y] ∧ Wd z ∧ Clash ws j z) ⟨rfl, z0, y7, rfl, hz0, .inr (.inl rfl)⟩ ?_ ?_
        · rintro j σ H6 hj ⟨rfl, z, y, rfl, hz, hcl⟩
          rw [Int.zero_add]
          have hj2 : j < 26 := by omega
          have ec : cutS (SX.S z) none (some 4) = SX.S (z.take 4) := by
            unfold cutS
            have hl : (SX.S z).length = z.length := SX.S_len z
            rw [HT.sIx_none, show HT.sIx (SX.S z).length (SX.S z).length (some (4 : Int)) = min 4 (SX.S z).length from HT.sIx_nat _ _ 4, hl, Nat.sub_zero]
            show SX.S ((z.drop 0).take (min 4 z.length)) = _
            rw [List.drop_zero]
            congr 1
            by_cases h4 : 4 ≤ z.length
            · rw [Nat.min_eq_left h4]
            · rw [Nat.min_eq_right (by omega), List.take_length, List.take_of_length_le (by omega)]
          have lz : (SX.S z).length ≤ sizeLine := by
            rw [SX.S_len]
            exact Nat.le_trans hz.2.1 (by decide)
          have l4 : (z.take 4).length ≤ 4 := by
            rw [List.length_take]
            omega
          -- the name is bent
          have bent : (w' : Bool) → w' = true → (z ∈ ws ∨ z = OWNL) → ∃ z' y', ([some (.ref a), some (.int many), some (.str LET), some (.ref l), some (.str WORDS), some (.int i), some (.str (SX.S (bend z j))), some (.int (j : Nat))] : L2.St) = [some (.ref a), some (.int many), some (.str LET), some (.ref l), some (.str WORDS), some (.int i), some (.str (SX.S z')), y'] ∧ Wd z' ∧ Clash ws (j + 1) z' :=
            fun _ _ hb => ⟨bend z j, _, rfl, bend_wd hz hj2, clash_step hcl hb⟩
          have e97 : (SX.S (z.take 4) ++ ⟨#[97]⟩ ++ ⟨#[97 + j]⟩ : Str) = SX.S (bend z j) := by
            show SX.S (z.take 4) ++ SX.S [97] ++ SX.S [97 + j] = _
            rw [SX.S_cat, SX.S_cat]
            rfl
          have at1 : atI LET.cps.toList ((j : Int) / 26) = some 97 := by
            rw [show (j : Int) / 26 = ((0 : Nat) : Int) by omega]
            exact atI_nat (let_nth (by decide))
          have at2 : atI LET.cps.toList ((j : Int) % 26) = some (97 + j) := by
            rw [show (j : Int) % 26 = ((j : Nat) : Int) by omega]
            exact atI_nat (let_nth hj2)
          have s97 : (⟨#[97]⟩ : Str).length = 1 := rfl
          have s97j : (⟨#[97 + j]⟩ : Str).length = 1 := rfl
          have f1 : (cutS (SX.S z) none (some 4)).length + (⟨#[97]⟩ : Str).length ≤ sizeLine := by
            rw [ec, SX.S_len, s97]
            exact Nat.le_trans (show _ ≤ 7 by omega) (by decide)
          have f2 : (cutS (SX.S z) none (some 4) ++ ⟨#[97]⟩).length + (⟨#[97 + j]⟩ : Str).length ≤ sizeLine := by
            rw [strLen_append, ec, SX.S_len, s97, s97j]
            exact Nat.le_trans (show _ ≤ 7 by omega) (by decide)
          refine ⟨_, rfl, _, rfl, l, _, rfl, .inl (SqL.of hl5), rfl, flat_names ws, _, rfl, ?_⟩
          show if inV (.str (SX.S z)) (nmV ws) = true then _ else _
          rw [in_names]
          by_cases hin : z ∈ ws
          · refine ifT (decide_eq_true hin) (iteT ?_)
            refine ⟨_, rfl, 4, rfl, SX.S z, rfl, lz, ?_⟩
            refine ⟨_, rfl, _, rfl, _, _, rfl, rfl, ⟨by show (0 : Int) < 26; decide, by decide⟩, LET, _, 97, rfl, rfl, by decide +kernel, at1, _, _, rfl, rfl, f1, ?_⟩
            refine ⟨_, rfl, _, rfl, _, _, rfl, rfl, (by show (0 : Int) < 26; decide), LET, _, 97 + j, rfl, rfl, by decide +kernel, at2, _, _, rfl, rfl, f2, ?_⟩
            rw [ec, e97]
            exact ⟨rfl, bent true rfl (.inl hin)⟩
          · refine ifF (decide_eq_false hin) ?_
            refine ⟨_, rfl, rfl, _, rfl, ?_⟩
            by_cases ho : z = OWNL
            · refine ifT (decide_eq_true (by rw [ho, s_own])) ?_
              refine ⟨_, rfl, 4, rfl, SX.S z, rfl, lz, ?_⟩
              refine ⟨_, rfl, _, rfl, _, _, rfl, rfl, ⟨by show (0 : Int) < 26; decide, by decide⟩, LET, _, 97, rfl, rfl, by decide +kernel, at1, _, _, rfl, rfl, f1, ?_⟩
              refine ⟨_, rfl, _, rfl, _, _, rfl, rfl, (by show (0 : Int) < 26; decide), LET, _, 97 + j, rfl, rfl, by decide +kernel, at2, _, _, rfl, rfl, f2, ?_⟩
              rw [ec, e97]
              exact ⟨rfl, bent true rfl (.inr ho)⟩
            · refine ifF (decide_eq_false fun y => ho (by rw [s_own] at y; exact SX.S_inj (V.str.inj y))) ⟨rfl, z, _, rfl, hz, .inl ⟨hin, ho⟩⟩
        · rintro σ H6 ⟨rfl, z, y, rfl, hz, hcl⟩
          have hcl : Clash ws (ws.length + 2) z := by
            have e : ((nmV ws).length : Int) + 2 = ((ws.length + 2 : Nat) : Int) := by
              rw [nmV_len]
              omega
            have hcl2 : Clash ws (((nmV ws).length : Int) + 2).toNat z := hcl
            rw [e, Int.toNat_natCast] at hcl2
            exact hcl2
          obtain ⟨hfree, hown⟩ := clash_end hcl
          refine ⟨_, rfl, .inl ⟨rfl, _, SqL.of hl5⟩, _, rfl, l, _, .str (SX.S z), rfl, rfl, hl5, by rw [nmV_len]; exact small1000 (by omega), ?_⟩
          refine ⟨_, _, _, ws ++ [z], b5, rfl, ?_, by rw [upd_same]; unfold nmV; rw [List.map_append]; rfl, by rw [List.length_append, hzl]; rfl, ?_, fun x hx => ?_, by rw [upd_ne nla]; exact hb5, hB5.mono (by omega)⟩
          · refine fun x o nx hx => ?_
            rw [upd_ne (ne_of_none hx nl)]
            exact bt5 _ _ nx hx
          · rw [List.nodup_append]
            exact ⟨hnd, by simp, fun x hx y hy => by
              rw [List.mem_singleton.mp hy]
              exact fun e => hfree (e ▸ hx)⟩
          · rcases List.mem_append.mp hx with h | h
            · exact hws x h
            · rw [List.mem_singleton.mp h]
              exact ⟨hz, hown⟩
    · rintro σ H2 ⟨y5, y6, y7, ws, b2, rfl, bt2, hl2, hzl, hnd, hws, hb2, hB2⟩
      exact ⟨_, rfl, q _ l ws b2 bt2 nl hl2 hzl hnd hws hb2 hB2⟩
end
/-! ### data without lists stand wherever tuples stand -/
def TupO (o : HO) : Prop := (∃ xs, o = .tup xs) ∨ ∃ o' v, o = .frz o' v
def KeepT (H H' : Hp) : Prop := ∀ c o, TupO o → H c = some o → H' c = some o
theorem lst_no {xs : List V} : ¬ TupO (.lst xs) := by
  rintro (⟨ys, z⟩ | ⟨o', v, z⟩) <;> cases z
theorem dK_no {xs : List (Key × V)} : ¬ TupO (.dK xs) := by
  rintro (⟨ys, z⟩ | ⟨o', v, z⟩) <;> cases z
theorem KeepT.refl (H : Hp) : KeepT H H := fun _ _ _ h => h
theorem KeepT.trans {H H1 H2 : Hp} (x : KeepT H H1) (y : KeepT H1 H2) : KeepT H H2 := fun c o t h => y c o t (x c o t h)
theorem KeepT.of {H H' : Hp} (s : Same H H') : KeepT H H' := fun c o _ h => s c o h
theorem KeepT.but {H H' : Hp} {a : Addr} {xs : List V} (ha : H a = some (.lst xs)) (b : But a H H') : KeepT H H' := fun c o t h => b c o (fun z => by
  rw [z, ha] at h
  cases h
  exact lst_no t) h
theorem KeepT.at_ {H : Hp} {a : Addr} {o0 o : HO} (ha : H a = some o0) (n : ¬ TupO o0) : KeepT H (upd H a o) := fun c x t h => by
  rw [upd_ne (fun z => by
    rw [z, ha] at h
    cases h
    exact n t)]
  exact h
theorem KeepT.new {H : Hp} {p : Addr} {o : HO} (n : H p = none) : KeepT H (upd H p o) := KeepT.of (same_upd n)
mutual
def imm : PyData → Bool
  | .tuple ds => immAll ds
  | .list _ => false
  | .dict _ => false
  | .none => true
  | .bool _ => true
  | .int _ => true
  | .str _ => true
def immAll : List PyData → Bool
  | [] => true
  | d :: ds => imm d && immAll ds
end
section
variable {K : PySem.W.Frag} {H H' : Hp}
theorem KeepT.seqT {a : Addr} {xs : List V} (k : KeepT H H') (h : SqT K H a xs) : SqT K H' a xs := by
  rcases h with (h | ⟨o, h⟩) | h
  · exact .inl (.inl (k _ _ (.inl ⟨_, rfl⟩) h))
  · exact .inl (.inr ⟨o, k _ _ (.inr ⟨_, _, rfl⟩) h⟩)
  · exact .inr h
mutual
theorem dp_imm (k : KeepT H H') : ∀ {v : V} {d : PyData}, Dp K H v d → imm d = true → Dp K H' v d
  | _, _, .non, _ => .non
  | _, _, .bl b, _ => .bl b
  | _, _, .int i, _ => .int i
  | _, _, .str x, _ => .str x
  | _, _, .lst h a, i => nomatch (show (false : Bool) = true from i)
  | _, _, .tup h a, i => .tup (k.seqT h) (dpAll_imm k a i)
theorem dpAll_imm (k : KeepT H H') : ∀ {vs : List V} {ds : List PyData}, DpAll K H vs ds → immAll ds = true → DpAll K H' vs ds
  | _, _, .nil, _ => .nil
  | _, _, .cons h a, i => .cons (dp_imm k h (Bool.and_eq_true_iff.mp i).1) (dpAll_imm k a (Bool.and_eq_true_iff.mp i).2)
end
end
theorem immAll_app : ∀ {ds es : List PyData}, immAll ds = true → immAll es = true → immAll (ds ++ es) = true
  | [], _, _, h => h
  | d :: ds, es, h, k => by
    obtain ⟨h1, h2⟩ := Bool.and_eq_true_iff.mp h
    show (imm d && immAll (ds ++ es)) = true
    rw [h1, immAll_app h2 k]
    rfl
theorem immAll_map {α : Type} {f : α → PyData} (h : ∀ a, imm (f a) = true) : ∀ l : List α, immAll (l.map f) = true
  | [] => rfl
  | a :: l => by
    show (imm (f a) && immAll (l.map f)) = true
    rw [h a, immAll_map h l]
    rfl
theorem dpAll_appI {K : PySem.W.Frag} {H : Hp} : ∀ {vs ws : List V} {ds es : List PyData}, DpAll K H vs ds → DpAll K H ws es → DpAll K H (vs ++ ws) (ds ++ es)
  | _, _, _, _, .nil, h => h
  | _, _, _, _, .cons h a, k => .cons h (dpAll_appI a k)
/-! ### slices by whole numbers -/
theorem cutV_to (xs : List V) (k : Nat) : cutV xs none (some (k : Int)) = xs.take k := by
  unfold cutV
  rw [HT.sIx_none, show HT.sIx xs.length xs.length (some (k : Int)) = min k xs.length from HT.sIx_nat _ _ k, List.drop_zero, Nat.sub_zero]
  by_cases h : k ≤ xs.length
  · rw [Nat.min_eq_left h]
  · rw [Nat.min_eq_right (by omega), List.take_length, List.take_of_length_le (by omega)]
theorem cutV_from (xs : List V) (i : Nat) : cutV xs (some (i : Int)) none = xs.drop i := by
  unfold cutV
  rw [HT.sIx_none, show HT.sIx xs.length 0 (some (i : Int)) = min i xs.length from HT.sIx_nat _ _ i]
  by_cases h : i ≤ xs.length
  · rw [Nat.min_eq_left h, List.take_of_length_le (by rw [List.length_drop]; exact Nat.le_refl _)]
  · rw [List.drop_eq_nil_of_le (by omega : xs.length ≤ min i xs.length), List.take_nil, List.drop_eq_nil_of_le (by omega)]
theorem cutV_nat (xs : List V) (i k : Nat) : cutV xs (some (i : Int)) (some (k : Int)) = (xs.drop i).take (k - i) := by
  unfold cutV
  rw [show HT.sIx xs.length 0 (some (i : Int)) = min i xs.length from HT.sIx_nat _ _ i, show HT.sIx xs.length xs.length (some (k : Int)) = min k xs.length from HT.sIx_nat _ _ k]
  by_cases hi : i ≤ xs.length
  · rw [Nat.min_eq_left hi]
    by_cases hk : k ≤ xs.length
    · rw [Nat.min_eq_left hk]
    · rw [Nat.min_eq_right (by omega), List.take_of_length_le (by rw [List.length_drop]; omega), List.take_of_length_le (by rw [List.length_drop]; omega)]
  · rw [List.drop_eq_nil_of_le (by omega : xs.length ≤ min i xs.length), List.drop_eq_nil_of_le (by omega : xs.length ≤ i), List.take_nil, List.take_nil]
theorem perm_map {α : Type} {f : α → V} : ∀ {ys xs : List V}, ys.Perm xs → ∀ us : List α, xs = us.map f → ∃ ws : List α, ys = ws.map f ∧ ws.Perm us := by
  intro ys xs h
  induction h with
  | nil =>
    intro us e
    exact ⟨[], rfl, by rw [List.map_eq_nil_iff.mp e.symm]⟩
  | cons x _ ih =>
    intro us e
    cases us with
    | nil => cases e
    | cons u us =>
      injection e with e1 e2
      obtain ⟨ws, h1, h2⟩ := ih us e2
      exact ⟨u :: ws, by rw [h1, e1]; rfl, h2.cons u⟩
  | swap x y l =>
    intro us e
    cases us with
    | nil => cases e
    | cons u us =>
      cases us with
      | nil =>
        injection e with _ e2
        cases e2
      | cons u2 us =>
        injection e with e1 e2
        injection e2 with e2 e3
        exact ⟨u2 :: u :: us, by rw [e1, e2, e3]; rfl, .swap u u2 us⟩
  | trans _ _ ih1 ih2 =>
    intro us e
    obtain ⟨ws, h1, h2⟩ := ih2 us e
    obtain ⟨vs, h3, h4⟩ := ih1 ws h1
    exact ⟨vs, h3, h4.trans h2⟩
/-! ### sorts drawn -/
abbrev s__law_sort_rows : Stmt := top 57
abbrev N__law_sort_rows : List Str := ["_law_box", "_law_many", "_law_names", "_law_pool", "_law_rows", "_law_k", "_law_name", "_law_some", "_law_cut", "_law_more", "_law_at", "_law_one"]
abbrev P__law_sort_rows : List Str := ["_law_box", "_law_many"]
theorem sc__law_sort_rows : FnScope N__law_sort_rows P__law_sort_rows (defScope s__law_sort_rows) := ⟨rfl, rfl, rfl, by decide +kernel, rfl, by decide +kernel, by decide +kernel⟩
def strD (w : List Nat) : PyData := .str (SX.S w)
structure SRow where
  nm : List Nat
  dn : List (List Nat)
  up : List (List Nat)
def SRow.d (r : SRow) : PyData := .tuple [strD r.nm, .tuple (r.dn.map strD), .tuple (r.up.map strD)]
structure SOk (r : SRow) : Prop where
  nm : NmOk r.nm
  all : ∀ w ∈ r.dn ++ r.up, NmOk w
  nd : (r.dn ++ r.up).Nodup
  d2 : r.dn.length ≤ 2
  u2 : r.up.length ≤ 2
structure SortsOk (rs : List SRow) : Prop where
  ok : ∀ r ∈ rs, SOk r
  nd : (rs.map SRow.nm).Nodup
  le : rs.length ≤ 4
theorem strD_imm (w : List Nat) : imm (strD w) = true := rfl
theorem SRow.imm (r : SRow) : Thr.imm r.d = true := by
  show (true && (immAll (r.dn.map strD) && (immAll (r.up.map strD) && true))) = true
  rw [immAll_map strD_imm, immAll_map strD_imm]
  rfl
theorem nm_dp {K : PySem.W.Frag} {H : Hp} : ∀ ws : List (List Nat), DpAll K H (nmV ws) (ws.map strD)
  | [] => .nil
  | w :: ws => .cons (.str _) (nm_dp ws)
theorem nmV_take (ws : List (List Nat)) (k : Nat) : (nmV ws).take k = nmV (ws.take k) := List.map_take.symm
theorem nmV_drop (ws : List (List Nat)) (k : Nat) : (nmV ws).drop k = nmV (ws.drop k) := List.map_drop.symm
theorem nmV_at {ws : List (List Nat)} {i : Nat} {w : List Nat} (h : ws[i]? = some w) : (nmV ws)[i]? = some (.str (SX.S w)) := by
  unfold nmV
  rw [List.getElem?_map, h]
  rfl
def spSortRows (K : PySem.W.Frag) : Sp := fun vs H Q _ => ∃ (a : Addr) (many m : Nat) (b : List V), vs = [.ref a, .int many] ∧ 1 ≤ many ∧ many ≤ 4 ∧ H a = some (.lst b) ∧ BoxL m b ∧ m + 300 < 900000 ∧
  ∀ (H' : Hp) (l : Addr) (vs' : List V) (rs : List SRow) (b' : List V), But a H H' → H l = none → H' l = some (.lst vs') → DpAll K H' vs' (rs.map SRow.d) → rs.length = many → SortsOk rs → H' a = some (.lst b') → BoxL (m + 300) b' → Q (.ref l) H'
theorem few_of' {α : Type} {xs ys : List α} (hn : xs.Nodup) (h : ∀ x ∈ xs, x ∈ ys) : xs.length ≤ ys.length := by
  classical
  induction xs generalizing ys with
  | nil => exact Nat.zero_le _
  | cons x xs ih =>
    rw [List.nodup_cons] at hn
    have hx := h x List.mem_cons_self
    have := ih (ys := ys.erase x) hn.2 fun y hy => (List.mem_erase_of_ne (fun e => hn.1 (by rw [← e]; exact hy))).mpr (h y (List.mem_cons_of_mem _ hy))
    rw [List.length_erase_of_mem hx] at this
    have : 0 < ys.length := List.length_pos_of_mem hx
    rw [List.length_cons]
    omega
structure So6 (mg : Str → Option Value) : Prop where
  enumerate : mg "enumerate" = none
  tuple : mg "tuple" = none
  min : mg "min" = none
  len : mg "len" = none
section
variable {P : Program} {w : World} {K : PySem.W.Frag} {mg : Str → Option Value} {base : Heap}
theorem ok_sort_rows (T : So6 mg) (c_law_take : C8.Cal P w K mg base 1 "_law_take" spTake []) (c_law_named : C8.Cal P w K mg base 2 "_law_named" spNamed []) (c_law_strewn : C8.Cal P w K mg base 2 "_law_strewn" (spStrewn K) [])
    (D : Dd K mg "_law_sort_rows" s__law_sort_rows P__law_sort_rows) : C8.Cal P w K mg base 3 "_law_sort_rows" (spSortRows K) [] := by
  refine D.cal sc__law_sort_rows (fun vs H Q E h => ?_) (fun f cdv A outer s H vs Q E hr h => ?_)
  · obtain ⟨a, many, m, b, rfl, _⟩ := h
    rfl
  · obtain ⟨a, many, m, b, rfl, hm1, hm4, ha, hB, hm, q⟩ := h
    refine ⟨_, (pss_cons (ps_par3 rfl sc__law_sort_rows.nd (i := 2) (j := 3) (l := 4) rfl rfl rfl (by decide) (by decide) (by decide) rfl rfl rfl (pa_cons (C8.pe_c c_law_named hr (by decide) (by rfl) (pa_cons (pv 0) (pa_cons (pv 1) pa_nil))) (pa_cons (C8.pe_c c_law_named hr (by decide) (by rfl) (pa_cons (pv 0) (pa_cons pe_int pa_nil))) (pa_cons (pe_lst pa_nil) pa_nil))) (by rfl))
        (pss_cons (ps_for PassesOwn.never rfl (pi_enum (by rfl) T.enumerate (pa_cons (pv 2) pa_nil)) (pg_tup rfl (pgs_cons (pg_name (i := 5) sc__law_sort_rows.nd rfl (Or.inl rfl)) (pgs_cons (pg_name (i := 6) sc__law_sort_rows.nd rfl (Or.inl rfl)) pgs_nil)))
          (C8.pss_cut (ps_set (i := 7) sc__law_sort_rows.nd rfl (Or.inr rfl) (pe_ifExp (pt_cmpR op_eq (C8.pe_c c_law_take hr (by decide) (by rfl) (pa_cons (pv 0) (pa_cons pe_int pa_nil))) pe_int (nomark _)) (pe_slice sl_list (C8.pe_c c_law_strewn hr (by decide) (by rfl) (pa_cons (pv 0) (pa_cons (pv 3) pa_nil))) po_none (po_some pe_int)) (pe_op op_cat (pe_lst (pa_cons (pe_ix ix_list (pv 3) (pe_op op_mul pe_int (pv 5)) (fun _ _ => rfl)) (pa_cons (pe_ix ix_list (pv 3) (pe_op op_add (pe_op op_mul pe_int (pv 5)) pe_int) (fun _ _ => rfl)) pa_nil))) (pe_slice sl_list (pv 3) po_none (po_some pe_int)))))
        (pss_cons (ps_set (i := 7) sc__law_sort_rows.nd rfl (Or.inr rfl) (pe_lc (g := gTup K 2 (gCons (gName 10) (gCons (gName 11) gNil))) (own := [("_law_at", 10), ("_law_one", 11)]) (by exact rfl) sc__law_sort_rows.nd (pi_enum (by rfl) T.enumerate (pa_cons (pv 7) pa_nil)) (blkOk_by (own := [("_law_at", 10), ("_law_one", 11)]) (N := N__law_sort_rows) (sc := defScope s__law_sort_rows) (by decide +kernel)) (fun _ _ _ _ _ => (pg_tup (n := 2) rfl (pgs_cons (pg_name (i := 10) sc__law_sort_rows.nd rfl (Or.inl rfl) (Or.inr rfl)) (pgs_cons (pg_name (i := 11) sc__law_sort_rows.nd rfl (Or.inl rfl) (Or.inr rfl)) pgs_nil)))) (fun _ _ _ _ _ => (pts_one (pt_cmpR (r := rIn K true) op_notIn_seq (pv 11) (pe_slice (r := rSlL K) sl_list (pv 7) po_none (po_some (pv 10))) (by with_unfolding_all rfl)))) (fun _ _ _ _ _ => (pv 11))))
        (pss_cons (ps_par rfl sc__law_sort_rows.nd (i := 8) (j := 9) rfl rfl (by decide) rfl rfl (pa_cons (C8.pe_c c_law_take hr (by decide) (by rfl) (pa_cons (pv 0) (pa_cons (pe_op op_add (pe_callB (call_min2 rfl) (by rfl) T.min (by decide +kernel) (pa_cons pe_int (pa_cons (pe_callB call_len_seq (by rfl) T.len PySem.boot_len (pa_cons (pv 7) pa_nil)) pa_nil))) pe_int) pa_nil))) (pa_cons (pe_op op_add pe_int (C8.pe_c c_law_take hr (by decide) (by rfl) (pa_cons (pv 0) (pa_cons pe_int pa_nil)))) pa_nil)) (by rfl))
        (pss_one (ps_expr (pe_bm PySem.F.plainAttrs_list PySem.F.slot_list_append PySem.F.type_list_append mt_append (pv 4) (pa_cons (pe_tup (pa_cons (pv 6) (pa_cons (pe_callTy call_tuple_of (by rfl) T.tuple (by decide +kernel) (pa_cons (pe_slice sl_list (pv 7) po_none (po_some (pv 8))) pa_nil)) (pa_cons (pe_callTy call_tuple_of (by rfl) T.tuple (by decide +kernel) (pa_cons (pe_slice sl_list (pv 7) (po_some (pv 8)) (po_some (pe_callB (call_min2 rfl) (by rfl) T.min (by decide +kernel) (pa_cons pe_int (pa_cons (pe_op op_add (pv 8) (pv 9)) pa_nil))))) pa_nil)) pa_nil)))) pa_nil))))))))
        (pss_one (ps_ret (pv 4))))), ?_⟩
    refine ⟨_, rfl, _, rfl, a, many, m, b, rfl, by omega, ha, hB, by omega, fun H1 ln ws b1 bt1 nln hln hwl hnd hws hb1 hB1 => ?_⟩
    refine ⟨_, rfl, a, 8, _, b1, rfl, by decide, hb1, hB1, by omega, fun H2 lp us b2 bt2 nlp hlp hul hund hus hb2 hB2 => ?_⟩
    have bt12 := bt1.trans bt2
    have nlna : ln ≠ a := fun z => by
      rw [z, ha] at nln
      cases nln
    have nlpa : lp ≠ a := fun z => by
      rw [z, hb1] at nlp
      cases nlp
    have hln2 := bt2 _ _ nlna hln
    refine ⟨by show 0 ≤ sizeLine; decide, fun l nl => ⟨_, _, _, rfl, ?_⟩⟩
    have g1 := same_upd (o := .lst []) nl
    have nla : l ≠ a := fun z => by
      rw [z, hb2] at nl
      cases nl
    have nll : l ≠ ln := fun z => by
      rw [z, hln2] at nl
      cases nl
    have nlp2 : l ≠ lp := fun z => by
      rw [z, hlp] at nl
      cases nl
    have nlH : H l = none := But.free bt12 hb2 nl
    have hln3 := g1 _ _ hln2
    have hlp3 := g1 _ _ hlp
    have hb3 := g1 _ _ hb2
    have hl3 : (upd H2 l (.lst [])) l = some (.lst []) := upd_same
    have bt3 := bt12.trans (But.of (a := a) g1)
    generalize upd H2 l (.lst []) = H3 at hln3 hlp3 hb3 hl3 bt3 ⊢
    refine ⟨_, rfl, ln, _, rfl, SqL.of hln3, ?_⟩
    refine for_it (walk_enum (K := K) (a := ln) (xs := nmV ws)) (fun i σ X => ∃ y5 y6 y7 y8 y9 y10 y11 vs rs b', σ = [some (.ref a), some (.int many), some (.ref ln), some (.ref lp), some (.ref l), y5, y6, y7, y8, y9, y10, y11] ∧ But a H X ∧ X ln = some (.lst (nmV ws)) ∧ X lp = some (.lst (nmV us)) ∧ X l = some (.lst vs) ∧ DpAll K X vs (rs.map SRow.d) ∧ rs.length = i ∧ (∀ r ∈ rs, SOk r) ∧ rs.map SRow.nm = ws.take i ∧ X a = some (.lst b') ∧ BoxL (m + 10 * many + 80 + 20 * i) b')
      ⟨none, none, none, none, none, none, none, [], [], b2, rfl, bt3, hln3, hlp3, hl3, .nil, rfl, (fun r h => nomatch h), rfl, hb3, hB2⟩ (fun i σ X _ ⟨_, _, _, _, _, _, _, _, _, _, _, _, h, _⟩ => SqL.of h) ?_ ?_
    · rintro i v σ X0 X hi ⟨y5, y6, y7, y8, y9, y10, y11, vs, rs, b2, rfl, btX, hlnX, hlpX, hlX, hdX, hrl, hrs, hrn, hbX, hBX⟩ ⟨TT, xx, yy, rfl, nT, rfl, ex, ey⟩
      cases ex
      have hi4 : i < many := by
        rw [nmV_len] at hi
        omega
      obtain ⟨w, hw⟩ : ∃ w, ws[i]? = some w := ⟨ws[i]'(by omega), List.getElem?_eq_getElem _⟩
      have ey' : yy = .str (SX.S w) := by
        have e2 : (nmV ws)[i]? = some yy := ey
        rw [nmV_at hw] at e2
        exact (Option.some.inj e2).symm
      subst ey'
      have sT := same_upd (o := .tup [.int (i : Nat), .str (SX.S w)]) nT
      refine ⟨TT, _, rfl, SqT.of upd_same, rfl, _, _, rfl, _, _, rfl, rfl, ?_⟩
      have btX := btX.trans (But.of (a := a) sT)
      have hlnX := sT _ _ hlnX
      have hlpX := sT _ _ hlpX
      have hlX := sT _ _ hlX
      have hdX := dpAll_same sT hdX
      have hbX := sT _ _ hbX
      generalize upd X0 TT (.tup [.int (i : Nat), .str (SX.S w)]) = X at btX hlnX hlpX hlX hdX hbX ⊢
      have kX : ∀ {Y : Hp}, But a X Y → KeepT X Y := fun {Y} z => KeepT.but hbX z
      -- some
      refine ⟨fun σ Y => ∃ ls ss b3, σ = [some (.ref a), some (.int many), some (.ref ln), some (.ref lp), some (.ref l), some (.int (i : Nat)), some (.str (SX.S w)), some (.ref ls), y8, y9, y10, y11] ∧ But a X Y ∧ Y ls = some (.lst (nmV ss)) ∧ X ls = none ∧ (∀ w ∈ ss, w ∈ us) ∧ 2 ≤ ss.length ∧ ss.length ≤ 4 ∧ (∃ c d, ss[0]? = some c ∧ ss[1]? = some d ∧ c ≠ d) ∧ Y a = some (.lst b3) ∧ BoxL (m + 10 * many + 80 + 20 * i + 9) b3, ?_, ?_⟩
      · refine ⟨_, rfl, a, 2, _, b2, rfl, hbX, hBX, by omega, by decide, by decide, fun r b3 r0 r1 hB3 => ⟨rfl, _, rfl, ?_⟩⟩
        have bX1 : But a X (upd X a (.lst b3)) := But.upd (But.refl a X)
        have ha1 : (upd X a (.lst b3)) a = some (.lst b3) := upd_same
        have hlp1 := bX1 _ _ nlpa hlpX
        generalize upd X a (.lst b3) = X1 at bX1 ha1 hlp1 ⊢
        by_cases h0 : r = 0
        · refine ifT (decide_eq_true (by rw [h0])) ?_
          refine ⟨_, rfl, _, rfl, a, lp, _, b3, _, rfl, ha1, hB3, by rw [nmV_len]; omega, SqL.of hlp1, nlpa, by rw [nmV_len]; omega, fun Y ls0 ys b4 bt4 nls hls hperm hb4 hB4 => ?_⟩
          obtain ⟨ss, ess, hp⟩ := perm_map hperm us rfl
          have ess : ys = nmV ss := ess
          subst ess
          refine ⟨4, rfl, ls0, _, rfl, SqL.of hls, fun c2 nc2 => ?_⟩
          have bXY : But a X Y := bX1.trans bt4
          have hnd2 : ss.Nodup := hp.nodup_iff.mpr hund
          have hl8 : ss.length = 8 := by rw [hp.length_eq, hul]
          refine ⟨c2, ss.take 4, b4, rfl, bXY.trans (But.of (same_upd nc2)), ?_, ?_, fun w hw => hp.mem_iff.mp (List.mem_of_mem_take hw), by rw [List.length_take]; omega, by rw [List.length_take]; omega, ⟨ss[0], ss[1], ?_, ?_, ?_⟩, same_upd nc2 _ _ hb4, hB4.mono (by rw [nmV_len]; omega)⟩
          · rw [upd_same, show (4 : Int) = ((4 : Nat) : Int) from rfl, cutV_to, nmV_take]
          · exact But.free bXY hb4 nc2
          · rw [List.getElem?_take_of_lt (by decide)]
            simp
          · rw [List.getElem?_take_of_lt (by decide)]
            simp
          · intro z
            have := (List.getElem_inj (h₀ := by omega) (h₁ := by omega) hnd2).mp z
            omega
        · refine ifF (decide_eq_false fun y => h0 (V.int.inj y)) ?_
          have g0 : us[2 * i]? = some (us[2 * i]'(by omega)) := List.getElem?_eq_getElem _
          have g1 : us[2 * i + 1]? = some (us[2 * i + 1]'(by omega)) := List.getElem?_eq_getElem _
          refine ⟨_, rfl, _, rfl, _, _, rfl, rfl, .inl ⟨by decide, by decide⟩, lp, _, _, .str (SX.S (us[2 * i]'(by omega))), rfl, rfl, SqL.of hlp1, ?_, ?_⟩
          · rw [show (2 : Int) * ((i : Nat) : Int) = ((2 * i : Nat) : Int) by omega]
            exact atI_nat (nmV_at g0)
          refine ⟨_, rfl, _, rfl, _, _, rfl, rfl, .inl ⟨by decide, by decide⟩, _, _, rfl, rfl, lp, _, _, .str (SX.S (us[2 * i + 1]'(by omega))), rfl, rfl, SqL.of hlp1, ?_, ?_⟩
          · rw [show (2 : Int) * ((i : Nat) : Int) + 1 = ((2 * i + 1 : Nat) : Int) by omega]
            exact atI_nat (nmV_at g1)
          refine ⟨by show 2 ≤ sizeLine; decide, fun p1 np1 => ?_⟩
          have k1 := same_upd (o := .lst [.str (SX.S (us[2 * i]'(by omega))), .str (SX.S (us[2 * i + 1]'(by omega)))]) np1
          have hp1 : (upd X1 p1 (.lst [.str (SX.S (us[2 * i]'(by omega))), .str (SX.S (us[2 * i + 1]'(by omega)))])) p1 = some (.lst (nmV [us[2 * i]'(by omega), us[2 * i + 1]'(by omega)])) := upd_same
          have hlp2 := k1 _ _ hlp1
          have ha2 := k1 _ _ ha1
          have bX2 := bX1.trans (But.of (a := a) k1)
          generalize upd X1 p1 (.lst [.str (SX.S (us[2 * i]'(by omega))), .str (SX.S (us[2 * i + 1]'(by omega)))]) = X2 at hp1 hlp2 ha2 bX2 ⊢
          refine ⟨_, rfl, 2, rfl, lp, _, rfl, SqL.of hlp2, fun p2 np2 => ?_⟩
          have k2 := same_upd (o := .lst (cutV (nmV us) none (some 2))) np2
          have hp2 : (upd X2 p2 (.lst (cutV (nmV us) none (some 2)))) p2 = some (.lst (nmV (us.take 2))) := by
            rw [upd_same, show (2 : Int) = ((2 : Nat) : Int) from rfl, cutV_to, nmV_take]
          have hp12 := k2 _ _ hp1
          have ha3 := k2 _ _ ha2
          have bX3 := bX2.trans (But.of (a := a) k2)
          generalize upd X2 p2 (.lst (cutV (nmV us) none (some 2))) = X3 at hp2 hp12 ha3 bX3 ⊢
          refine ⟨p1, p2, _, _, rfl, rfl, hp12, hp2, ?_, fun p3 np3 => ?_⟩
          · rw [nmV_len, nmV_len, List.length_take]
            exact Nat.le_trans (show _ ≤ 4 by simp only [List.length_cons, List.length_nil]; omega) (by decide)
          have k3 := same_upd (o := .lst (nmV [us[2 * i]'(by omega), us[2 * i + 1]'(by omega)] ++ nmV (us.take 2))) np3
          refine ⟨p3, [us[2 * i]'(by omega), us[2 * i + 1]'(by omega)] ++ us.take 2, b3, rfl, bX3.trans (But.of k3), ?_, ?_, fun w hw => ?_, ?_, ?_, ⟨_, _, rfl, rfl, ?_⟩, k3 _ _ ha3, hB3.mono (by omega)⟩
          · rw [upd_same]
            unfold nmV
            rw [List.map_append]
          · exact But.free bX3 ha3 np3
          · rcases List.mem_append.mp hw with hw | hw
            · simp only [List.mem_cons, List.not_mem_nil, or_false] at hw
              rcases hw with rfl | rfl
              · exact List.getElem_mem _
              · exact List.getElem_mem _
            · exact List.mem_of_mem_take hw
          · rw [List.length_append]
            simp only [List.length_cons, List.length_nil]
            omega
          · rw [List.length_append, List.length_take]
            simp only [List.length_cons, List.length_nil]
            omega
          · intro z
            have := (List.getElem_inj (h₀ := by omega) (h₁ := by omega) hund).mp z
            omega
      rintro σ Y ⟨ls, ss, b3, rfl, bXY, hls, nls, hss, h2, h4, ⟨c0, d0, hc0, hd0, hcd⟩, hbY, hBY⟩
      have nlsa : ls ≠ a := fun z => by
        rw [z, hbX] at nls
        cases nls
      refine ⟨_, rfl, ls, _, rfl, SqL.of hls, fun D nD => ?_⟩
      refine lc_it (walk_enum (K := K) (a := ls) (xs := nmV ss)) (fun j U => Same Y U ∧ ∃ cs, U D = some (.lst (nmV cs)) ∧ cs.Nodup ∧ (∀ w, w ∈ cs ↔ w ∈ ss.take j) ∧ cs.length ≤ j) ⟨same_upd nD, [], upd_same, List.nodup_nil, fun w => by simp, Nat.le_refl _⟩ (fun j U _ h => SqL.of (h.1 _ _ hls)) ?_ ?_
      · rintro j v U0 U hj ⟨sU, cs, hD, cnd, cme, cle⟩ ⟨TT, xx, yy, rfl, nT, rfl, ex, ey⟩
        cases ex
        have hj4 : j < ss.length := by
          rw [nmV_len] at hj
          exact hj
        obtain ⟨z, hz⟩ : ∃ z, ss[j]? = some z := ⟨_, List.getElem?_eq_getElem hj4⟩
        have ey' : yy = .str (SX.S z) := by
          have e2 : (nmV ss)[j]? = some yy := ey
          rw [nmV_at hz] at e2
          exact (Option.some.inj e2).symm
        subst ey'
        have tk : ss.take (j + 1) = ss.take j ++ [z] := by rw [List.take_add_one, hz]; rfl
        have sT := same_upd (o := .tup [.int (j : Nat), .str (SX.S z)]) nT
        refine ⟨TT, _, rfl, SqT.of upd_same, rfl, _, _, rfl, _, _, rfl, rfl, rfl, ?_⟩
        have sU := sU.trans sT
        have hD := sT _ _ hD
        generalize upd U0 TT (.tup [.int (j : Nat), .str (SX.S z)]) = U at sU hD ⊢
        refine ⟨_, rfl, _, rfl, _, rfl, (j : Nat), rfl, ls, _, rfl, SqL.of (sU _ _ hls), fun p np => ?_⟩
        rw [cutV_to, nmV_take]
        have sP := same_upd (o := .lst (nmV (ss.take j))) np
        refine ⟨p, _, rfl, .inl (SqL.of upd_same), rfl, flat_names _, _, rfl, ?_⟩
        have hD2 := sP _ _ hD
        have sU2 := sU.trans sP
        show if (!inV (.str (SX.S z)) (nmV (ss.take j))) = true then _ else _
        rw [in_names]
        by_cases hm : z ∈ ss.take j
        · refine ifF (by rw [decide_eq_true hm]; rfl) ⟨sU2, cs, hD2, cnd, fun x => ?_, by omega⟩
          rw [tk, cme x, List.mem_append, List.mem_singleton]
          exact ⟨.inl, fun h => h.elim id fun e => e ▸ hm⟩
        · refine ifT (by rw [decide_eq_false hm]; rfl) ⟨_, rfl, _, hD2, by rw [nmV_len]; exact small1000 (by omega), Same.at_ sU2 nD, cs ++ [z], ?_, ?_, fun x => ?_, by rw [List.length_append]; exact Nat.succ_le_succ cle⟩
          · rw [upd_same]
            unfold nmV
            rw [List.map_append]
            rfl
          · rw [List.nodup_append]
            exact ⟨cnd, by simp, fun x hx y hy => by
              rw [List.mem_singleton.mp hy]
              exact fun e => hm ((cme z).mp (e ▸ hx))⟩
          · rw [tk, List.mem_append, List.mem_append, cme x]
      rintro U ⟨sU, cs, hD, cnd, cme, cle⟩
      rw [nmV_len] at cle
      rw [nmV_len, List.take_length] at cme
      have bXU := bXY.trans (But.of (a := a) sU)
      have hbU := sU _ _ hbY
      have nDX : X D = none := But.free bXY hbY nD
      have nDa : D ≠ a := fun z => by
        rw [z, hbX] at nDX
        cases nDX
      have c2 : 2 ≤ cs.length := by
        have h := few_of' (xs := [c0, d0]) (ys := cs) (by simp [hcd]) fun x hx => by
          simp only [List.mem_cons, List.not_mem_nil, or_false] at hx
          rcases hx with rfl | rfl
          · exact (cme _).mpr (List.mem_of_getElem? hc0)
          · exact (cme _).mpr (List.mem_of_getElem? hd0)
        exact h
      have hus' : ∀ x ∈ cs, x ∈ us := fun x hx => hss x ((cme x).mp hx)
      clear cme
      refine ⟨_, rfl, ?_⟩
      refine ⟨_, rfl, D, _, rfl, .inl (SqL.of hD), _, _, rfl, _, _, rfl, rfl, ?_⟩
      have em : (if ((nmV cs).length : Int) < 2 then ((nmV cs).length : Int) else 2) = 2 := by
        rw [nmV_len, if_neg (by omega)]
      rw [em]
      refine ⟨a, 3, _, b3, rfl, hbU, hBY, by omega, by decide, by decide, fun r5 b5 h5 h5' hB5 => ?_⟩
      obtain ⟨cut, rfl⟩ := Int.eq_ofNat_of_zero_le h5
      have hcut : cut < 3 := by omega
      have bU1 : But a U (upd U a (.lst b5)) := But.upd (But.refl a U)
      have ha1 : (upd U a (.lst b5)) a = some (.lst b5) := upd_same
      have hD1 := bU1 _ _ nDa hD
      have bXU1 := bXU.trans bU1
      generalize upd U a (.lst b5) = U1 at bU1 ha1 hD1 bXU1 ⊢
      refine ⟨_, rfl, a, 2, _, b5, rfl, ha1, hB5, by omega, by decide, by decide, fun r6 b6 h6 h6' hB6 => ?_⟩
      obtain ⟨x6, rfl⟩ := Int.eq_ofNat_of_zero_le h6
      have hx6 : x6 < 2 := by omega
      have bU2 : But a U1 (upd U1 a (.lst b6)) := But.upd (But.refl a U1)
      have ha2 : (upd U1 a (.lst b6)) a = some (.lst b6) := upd_same
      have hD2 := bU2 _ _ nDa hD1
      have bXU2 := bXU1.trans bU2
      generalize upd U1 a (.lst b6) = U2 at bU2 ha2 hD2 bXU2 ⊢
      refine ⟨_, _, rfl, rfl, _, _, rfl, ?_⟩
      have hlU2 := bXU2 _ _ nla hlX
      refine ⟨_, rfl, .inl ⟨rfl, _, SqL.of hlU2⟩, ?_⟩
      refine ⟨_, rfl, _, rfl, _, rfl, _, rfl, D, _, rfl, SqL.of hD2, fun c1 nc1 => ⟨c1, _, rfl, .inl ⟨SqL.of upd_same, fun t1 nt1 => ?_⟩⟩⟩
      have e2 : cutV (nmV cs) none (some (cut : Int)) = nmV (cs.take cut) := by rw [cutV_to, nmV_take]
      have k1 := same_upd (o := .lst (cutV (nmV cs) none (some (cut : Int)))) nc1
      have k2 := same_upd (o := .tup (cutV (nmV cs) none (some (cut : Int)))) nt1
      have k12 := k1.trans k2
      have ht1 := upd_same (H := upd U2 c1 (.lst (cutV (nmV cs) none (some (cut : Int))))) (a := t1) (o := .tup (cutV (nmV cs) none (some (cut : Int))))
      generalize upd (upd U2 c1 (.lst (cutV (nmV cs) none (some (cut : Int))))) t1 (.tup (cutV (nmV cs) none (some (cut : Int)))) = U3 at k12 ht1 ⊢
      rw [e2] at ht1
      have hD3 := k12 _ _ hD2
      refine ⟨_, rfl, _, rfl, _, rfl, _, rfl, _, rfl, _, _, rfl, rfl, _, _, rfl, _, rfl, D, _, rfl, SqL.of hD3, fun c2 nc2 => ⟨c2, _, rfl, .inl ⟨SqL.of upd_same, fun t2 nt2 => ?_⟩⟩⟩
      have eb : (if (cut : Int) + (1 + (x6 : Int)) < 3 then (cut : Int) + (1 + (x6 : Int)) else 3) = ((min 3 (cut + 1 + x6) : Nat) : Int) := by
        split <;> omega
      have e3 : cutV (nmV cs) (some (cut : Int)) (some (if (cut : Int) + (1 + (x6 : Int)) < 3 then (cut : Int) + (1 + (x6 : Int)) else 3)) = nmV ((cs.drop cut).take (min 3 (cut + 1 + x6) - cut)) := by
        rw [eb, cutV_nat, nmV_drop, nmV_take]
      have k3 := same_upd (o := .lst (cutV (nmV cs) (some (cut : Int)) (some (if (cut : Int) + (1 + (x6 : Int)) < 3 then (cut : Int) + (1 + (x6 : Int)) else 3)))) nc2
      have k4 := same_upd (o := .tup (cutV (nmV cs) (some (cut : Int)) (some (if (cut : Int) + (1 + (x6 : Int)) < 3 then (cut : Int) + (1 + (x6 : Int)) else 3)))) nt2
      refine ⟨by show 3 ≤ sizeLine; decide, fun t3 nt3 => ?_⟩
      have k5 := same_upd (o := .tup [.str (SX.S w), .ref t1, .ref t2]) nt3
      have k35 := (k3.trans k4).trans k5
      have ht2 := k5 _ _ (upd_same (H := upd U3 c2 (.lst (cutV (nmV cs) (some (cut : Int)) (some (if (cut : Int) + (1 + (x6 : Int)) < 3 then (cut : Int) + (1 + (x6 : Int)) else 3))))) (a := t2) (o := .tup (cutV (nmV cs) (some (cut : Int)) (some (if (cut : Int) + (1 + (x6 : Int)) < 3 then (cut : Int) + (1 + (x6 : Int)) else 3)))))
      have ht3' := upd_same (H := upd (upd U3 c2 (.lst (cutV (nmV cs) (some (cut : Int)) (some (if (cut : Int) + (1 + (x6 : Int)) < 3 then (cut : Int) + (1 + (x6 : Int)) else 3))))) t2 (.tup (cutV (nmV cs) (some (cut : Int)) (some (if (cut : Int) + (1 + (x6 : Int)) < 3 then (cut : Int) + (1 + (x6 : Int)) else 3))))) (a := t3) (o := .tup [.str (SX.S w), .ref t1, .ref t2])
      obtain ⟨Y5, eY5⟩ : ∃ Y5, Y5 = upd (upd (upd U3 c2 (.lst (cutV (nmV cs) (some (cut : Int)) (some (if (cut : Int) + (1 + (x6 : Int)) < 3 then (cut : Int) + (1 + (x6 : Int)) else 3))))) t2 (.tup (cutV (nmV cs) (some (cut : Int)) (some (if (cut : Int) + (1 + (x6 : Int)) < 3 then (cut : Int) + (1 + (x6 : Int)) else 3))))) t3 (.tup [.str (SX.S w), .ref t1, .ref t2]) := ⟨_, rfl⟩
      show ∃ l xs y, _
      rw [← eY5] at k35 ht2 ht3' ⊢
      rw [e3] at ht2
      have k25 := k12.trans k35
      have bX5 : But a X Y5 := bXU2.trans (But.of k25)
      have hl5 := bX5 _ _ nla hlX
      have lvs := dpAll_len hdX
      rw [List.length_map, hrl] at lvs
      refine ⟨l, vs, .ref t3, rfl, rfl, hl5, by rw [lvs]; exact small1000 (by omega), ?_⟩
      have kl : KeepT Y5 (upd Y5 l (.lst (vs ++ [.ref t3]))) := KeepT.at_ hl5 lst_no
      have dRow : Dp K Y5 (.ref t3) (SRow.d ⟨w, cs.take cut, (cs.drop cut).take (min 3 (cut + 1 + x6) - cut)⟩) :=
        .tup (SqT.of ht3') (.cons (.str _) (.cons (.tup (SqT.of (k35 _ _ ht1)) (nm_dp _)) (.cons (.tup (SqT.of ht2) (nm_dp _)) .nil)))
      have okR : SOk ⟨w, cs.take cut, (cs.drop cut).take (min 3 (cut + 1 + x6) - cut)⟩ := by
        have hsub : (cs.take cut ++ (cs.drop cut).take (min 3 (cut + 1 + x6) - cut)).Sublist cs := by
          have h1 : (cs.take cut ++ (cs.drop cut).take (min 3 (cut + 1 + x6) - cut)).Sublist (cs.take cut ++ cs.drop cut) := List.Sublist.append (List.Sublist.refl _) (List.take_sublist _ _)
          rw [List.take_append_drop] at h1
          exact h1
        exact ⟨hws w (List.mem_of_getElem? hw), fun x hx => hus x (hus' x (hsub.subset hx)), cnd.sublist hsub, by show (cs.take cut).length ≤ 2; rw [List.length_take]; omega, by show ((cs.drop cut).take (min 3 (cut + 1 + x6) - cut)).length ≤ 2; rw [List.length_take]; omega⟩
      refine ⟨_, _, _, _, _, _, _, vs ++ [.ref t3], rs ++ [⟨w, cs.take cut, (cs.drop cut).take (min 3 (cut + 1 + x6) - cut)⟩], b6, rfl, fun c o nc hc => ?_, ?_, ?_, upd_same, ?_, by rw [List.length_append, hrl]; rfl, fun r hr => ?_, ?_, ?_, hB6.mono (by omega)⟩
      · rw [upd_ne (ne_of_none hc nlH)]
        exact (btX.trans bX5) c o nc hc
      · rw [upd_ne nll.symm]
        exact bX5 _ _ nlna hlnX
      · rw [upd_ne nlp2.symm]
        exact bX5 _ _ nlpa hlpX
      · rw [List.map_append]
        exact dpAll_appI (dpAll_imm ((kX bX5).trans kl) hdX (immAll_map SRow.imm rs)) (.cons (dp_imm kl dRow (SRow.imm _)) .nil)
      · rcases List.mem_append.mp hr with h | h
        · exact hrs r h
        · rw [List.mem_singleton.mp h]
          exact okR
      · rw [List.map_append, hrn, List.take_add_one, hw]
        rfl
      · rw [upd_ne nla.symm]
        exact k25 _ _ ha2
    · rintro σ X ⟨y5, y6, y7, y8, y9, y10, y11, vs, rs, b2, rfl, btX, hlnX, hlpX, hlX, hdX, hrl, hrs, hrn, hbX, hBX⟩
      rw [nmV_len] at hrl hrn hBX
      refine ⟨_, rfl, q X l vs rs b2 btX nlH hlX hdX (by omega) ⟨hrs, ?_, by omega⟩ hbX (hBX.mono (by omega))⟩
      rw [hrn]
      exact List.Nodup.sublist (List.take_sublist _ _) hnd
end
/-! ### slices and sums of tuples -/
def rSlAny (K : PySem.W.Frag) : V → Option Int → Option Int → Hp → VK → Prop := fun x lo hi H Q => ∃ (a : Addr) (xs : List V), x = .ref a ∧ SqT K H a xs ∧ ∀ (H' : Hp) (p : Addr), Same H H' → SqT K H' p (cutV xs lo hi) → Q (.ref p) H'
theorem cut_whole {xs : List V} {lo hi : Option Int} (h : HT.sIx xs.length 0 lo = 0 ∧ HT.sIx xs.length xs.length hi = xs.length) : cutV xs lo hi = xs := by
  unfold cutV
  rw [h.1, h.2, List.drop_zero, Nat.sub_zero, List.take_length]
theorem sl_any {X : Cx} : SlR X (rSlAny X.K) := by
  intro pins s σ H x v vl vu lo hi sl Q I rx hs pl pu h
  obtain ⟨a, xs, ex, hS, q⟩ := h
  exact sl_tupA pins s σ H x v vl vu lo hi sl Q I rx hs pl pu ⟨a, xs, ex, hS, fun e => q H a (Same.refl H) (by rw [cut_whole e]; exact hS), fun _ p np => q _ p (same_upd np) (SqT.of upd_same)⟩
theorem dp_int {K : PySem.W.Frag} {H : Hp} {x : V} {j : Int} (h : Dp K H x (.int j)) : x = .int j := by
  cases h
  rfl
def rCatAny (K : PySem.W.Frag) : V → V → Hp → VK → Prop := fun x y H Q => ∃ (a b : Addr) (xs ys : List V), x = .ref a ∧ y = .ref b ∧ SqT K H a xs ∧ SqT K H b ys ∧ xs.length + ys.length ≤ sizeLine ∧ ∀ (H' : Hp) (p : Addr), Same H H' → SqT K H' p (xs ++ ys) → Q (.ref p) H'
theorem op_catAny {X : Cx} : OpR X (binaryOp .Add) (rCatAny X.K) := by
  intro pins s σ H x y v u Q I rx ry h
  obtain ⟨a, b, xs, ys, ex, ey, hX, hY, hl, q⟩ := h
  refine op_catA pins s σ H x y v u Q I rx ry ⟨a, b, xs, ys, ex, ey, hX, hY, hl, fun e => q H b (Same.refl H) (by rw [e]; exact hY), fun _ e => q H a (Same.refl H) (by rw [e, List.append_nil]; exact hX), fun _ _ p np => q _ p (same_upd np) (SqT.of upd_same)⟩
/-! ### rows of a grammar -/
structure MRow where
  nm : List Nat
  so : List Nat
  pt : List (List Nat)
def MRow.d (r : MRow) : PyData := .tuple [strD r.nm, strD r.so, .tuple (r.pt.map strD)]
def MRow.places (r : MRow) : List (List Nat) := r.so :: r.pt
inductive En where
  | sp (p : Nat) (w : List Nat)
  | kept (w : List Nat)
  deriving DecidableEq
def En.d : En → PyData
  | .sp p w => .tuple [.str "at", .int (p : Nat), strD w]
  | .kept w => .tuple [.str "kept", strD w]
inductive Od where
  | en (e : En)
  | own
  | num (n : Nat)
def Od.d : Od → PyData
  | .en e => e.d
  | .own => .tuple [.str "own"]
  | .num n => .tuple [.str "number", .int (n : Nat)]
structure RRow where
  ma : List Nat
  tg : En
  op : List Nat
  os : List Od
def RRow.d (r : RRow) : PyData := .tuple [strD r.ma, r.tg.d, strD r.op, .tuple (r.os.map Od.d)]
theorem MRow.imm (r : MRow) : Thr.imm r.d = true := by
  show (true && (true && (immAll (r.pt.map strD) && true))) = true
  rw [immAll_map strD_imm]
  rfl
theorem En.imm (e : En) : Thr.imm e.d = true := by cases e <;> rfl
theorem Od.imm (o : Od) : Thr.imm o.d = true := by
  cases o with
  | en e => exact e.imm
  | own => rfl
  | num n => rfl
theorem RRow.imm (r : RRow) : Thr.imm r.d = true := by
  show (true && (Thr.imm r.tg.d && (true && (immAll (r.os.map Od.d) && true)))) = true
  rw [r.tg.imm, immAll_map Od.imm]
  rfl
/-- a worth of a place -/
def AtOf (rs : List SRow) (mr : MRow) (p : Nat) (w : List Nat) (up : Bool) : Prop := ∃ k r, mr.places[p]? = some k ∧ r ∈ rs ∧ r.nm = k ∧ w ∈ (if up then r.up else r.dn)
def KeptOk (rs : List SRow) (mr : MRow) (w : List Nat) : Prop := NmOk w ∧ ∀ r ∈ rs, r.nm = mr.so → w ∉ r.dn ++ r.up
/-- what a rule may have as its target -/
def TgOk (rs : List SRow) (mr : MRow) : En → Prop
  | .sp p w => AtOf rs mr p w (decide (p = 0))
  | .kept w => KeptOk rs mr w
/-- what it may need -/
def FrOk (rs : List SRow) (mr : MRow) : En → Prop
  | .sp p w => AtOf rs mr p w (!decide (p = 0))
  | .kept w => KeptOk rs mr w
def OdOk (rs : List SRow) (mr : MRow) : Od → Prop
  | .en e => FrOk rs mr e
  | .own => True
  | .num n => n < 1000000
def sl (s : String) : List Nat := (Str.ofString s).cps.toList
theorem sl_S (s : String) : SX.S (sl s) = Str.ofString s := SX.S_tl _
def OPS4 : List (List Nat) := [sl "copy", sl "plus", sl "least", sl "most"]
def OPS8 : List (List Nat) := [sl "plus", sl "less", sl "times", sl "over", sl "rest", sl "same", sl "under", sl "pick"]
def opsOf (roof : Nat) : List (List Nat) := if roof = 0 then OPS4 ++ OPS8 else OPS4
def arOf (op : List Nat) : Nat := if op = sl "copy" then 1 else if op = sl "pick" then 3 else 2
def enName : En → List (List Nat)
  | .sp _ _ => []
  | .kept w => [w]
def odName : Od → List (List Nat)
  | .en e => enName e
  | _ => []
structure RulesOk (rs : List SRow) (mr : MRow) (roof : Nat) (ks : List (List Nat)) (ru : List RRow) : Prop where
  ma : ∀ r ∈ ru, r.ma = mr.nm
  tg : ∀ r ∈ ru, TgOk rs mr r.tg
  nd : (ru.map RRow.tg).Nodup
  op : ∀ r ∈ ru, r.op ∈ opsOf roof
  ar : ∀ r ∈ ru, r.os.length = arOf r.op
  os : ∀ r ∈ ru, ∀ o ∈ r.os, OdOk rs mr o
  k2 : ks.length ≤ 2
  kt : ∀ r ∈ ru, ∀ w ∈ enName r.tg, w ∈ ks
  ko : ∀ r ∈ ru, ∀ o ∈ r.os, ∀ w ∈ odName o, w ∈ ks
  le : ru.length ≤ 30
/-- what rules are made by -/
structure Cxt (K : PySem.W.Frag) (H : Hp) (a gd ph : Addr) (rowv wv : V) (rs : List SRow) (mr : MRow) (roof : Nat) (wb : Bool) (wn : Nat) (phs : List Nat → List (List Nat)) : Prop where
  g : ∃ kvs of ofk, H gd = some (.dK kvs) ∧ valV kvs (Sum.inr "cap") = some (.int (roof : Nat)) ∧ valV kvs (Sum.inr "of") = some (.ref of) ∧ H of = some (.dK ofk) ∧
    ∀ r ∈ rs, ∃ v, valV ofk (Sum.inr (SX.S r.nm)) = some v ∧ Dp K H v (.tuple [.tuple (r.dn.map strD), .tuple (r.up.map strD)])
  p : ∃ phk, H ph = some (.dK phk) ∧ ∀ r ∈ rs, ∃ pl, valV phk (Sum.inr (SX.S r.nm)) = some (.ref pl) ∧ pl ≠ a ∧ H pl = some (.lst (nmV (phs r.nm))) ∧ (phs r.nm).Perm (r.dn ++ r.up)
  row : Dp K H rowv mr.d
  wl : Dp K H wv (.tuple [.bool wb, .int (wn : Nat)])
  w0 : 0 < wn
  w1 : wn < 1000000
  sok : SortsOk rs
  so : ∀ k ∈ mr.places, ∃ r ∈ rs, r.nm = k
  p2 : mr.pt.length ≤ 2
  rf : roof ≤ 9
theorem Cxt.but {K : PySem.W.Frag} {H H' : Hp} {a gd ph : Addr} {rowv wv : V} {rs : List SRow} {mr : MRow} {roof : Nat} {wb : Bool} {wn : Nat} {phs : List Nat → List (List Nat)} {b : List V} (c : Cxt K H a gd ph rowv wv rs mr roof wb wn phs) (ha : H a = some (.lst b)) (t : But a H H') :
    Cxt K H' a gd ph rowv wv rs mr roof wb wn phs := by
  have k := KeepT.but ha t
  have nd : ∀ {d : Addr} {kv : List (Key × V)}, H d = some (.dK kv) → d ≠ a := fun {d kv} h z => by
    rw [z, ha] at h
    cases h
  obtain ⟨kvs, of, ofk, g1, g2, g3, g4, g5⟩ := c.g
  obtain ⟨phk, p1, p2⟩ := c.p
  refine ⟨⟨kvs, of, ofk, t _ _ (nd g1) g1, g2, g3, t _ _ (nd g4) g4, fun r hr => ?_⟩, ⟨phk, t _ _ (nd p1) p1, fun r hr => ?_⟩, dp_imm k c.row mr.imm, dp_imm k c.wl rfl, c.w0, c.w1, c.sok, c.so, c.p2, c.rf⟩
  · obtain ⟨v, h1, h2⟩ := g5 r hr
    refine ⟨v, h1, dp_imm k h2 ?_⟩
    show (immAll (r.dn.map strD) && (immAll (r.up.map strD) && true)) = true
    rw [immAll_map strD_imm, immAll_map strD_imm]
    rfl
  · obtain ⟨pl, h1, h2, h3, h4⟩ := p2 r hr
    exact ⟨pl, h1, h2, t _ _ h2 h3, h4⟩
/-- a row on the heap -/
theorem row_at {K : PySem.W.Frag} {H : Hp} {v : V} {mr : MRow} (h : Dp K H v mr.d) : ∃ q t, v = .ref q ∧ SqT K H q [.str (SX.S mr.nm), .str (SX.S mr.so), .ref t] ∧ SqT K H t (nmV mr.pt) := by
  cases h with
  | tup hS hA =>
    cases hA with
    | cons a1 hA =>
      cases hA with
      | cons a2 hA =>
        cases hA with
        | cons a3 hA =>
          cases hA
          cases a1
          cases a2
          cases a3 with
          | tup hS3 hA3 =>
            refine ⟨_, _, rfl, hS, ?_⟩
            have : ∀ {xs : List V} {ws : List (List Nat)}, DpAll K H xs (ws.map strD) → xs = nmV ws := fun {xs ws} => by
              induction ws generalizing xs with
              | nil => intro h; cases h; rfl
              | cons i is ih =>
                intro h
                cases h with
                | cons a b =>
                  cases a
                  rw [ih b]
                  rfl
            rw [← this hA3]
            exact hS3
theorem names_of {K : PySem.W.Frag} {H : Hp} {xs : List V} {ws : List (List Nat)} (h : DpAll K H xs (ws.map strD)) : xs = nmV ws := by
  induction ws generalizing xs with
  | nil => cases h; rfl
  | cons i is ih =>
    cases h with
    | cons a b =>
      cases a
      rw [ih b]
      rfl
def spRules (K : PySem.W.Frag) : Sp := fun vs H Q _ => ∃ (a gd ph : Addr) (rowv wv : V) (rs : List SRow) (mr : MRow) (roof : Nat) (wb : Bool) (wn : Nat) (phs : List Nat → List (List Nat)) (m : Nat) (b : List V), vs = [.ref a, .ref gd, rowv, .ref ph, wv] ∧ Cxt K H a gd ph rowv wv rs mr roof wb wn phs ∧ H a = some (.lst b) ∧ BoxL m b ∧ m + 700 < 900000 ∧
  ∀ (H' : Hp) (l : Addr) (vs' : List V) (ru : List RRow) (ks : List (List Nat)) (b' : List V), But a H H' → H l = none → H' l = some (.lst vs') → DpAll K H' vs' (ru.map RRow.d) → RulesOk rs mr roof ks ru → H' a = some (.lst b') → BoxL (m + 700) b' → Q (.ref l) H'
theorem dpAll_take {K : PySem.W.Frag} {H : Hp} : ∀ {vs : List V} {ds : List PyData} (k : Nat), DpAll K H vs ds → DpAll K H (vs.take k) (ds.take k)
  | _, _, 0, _ => .nil
  | _, _, k + 1, .nil => .nil
  | _, _, k + 1, .cons h a => .cons h (dpAll_take k a)
theorem dpAll_drop {K : PySem.W.Frag} {H : Hp} : ∀ {vs : List V} {ds : List PyData} (k : Nat), DpAll K H vs ds → DpAll K H (vs.drop k) (ds.drop k)
  | _, _, 0, h => h
  | _, _, k + 1, .nil => .nil
  | _, _, k + 1, .cons _ a => dpAll_drop k a
theorem ins_perm {α : Type} (xs : List α) (x : α) (k : Nat) : (xs.take k ++ [x] ++ xs.drop k).Perm (x :: xs) := by
  have h : (xs.take k ++ [x] ++ xs.drop k).Perm ([x] ++ xs.take k ++ xs.drop k) := List.Perm.append_right _ List.perm_append_comm
  rw [List.append_assoc [x], List.take_append_drop] at h
  exact h
/-- an end of the making -/
def EnOk (rs : List SRow) (mr : MRow) (ks : List (List Nat)) : En → Prop
  | .sp p w => ∃ k r, mr.places[p]? = some k ∧ r ∈ rs ∧ r.nm = k ∧ w ∈ r.dn ++ r.up
  | .kept w => KeptOk rs mr w ∧ w ∈ ks
theorem EnOk.mono {rs : List SRow} {mr : MRow} {ks ks' : List (List Nat)} (h : ∀ w ∈ ks, w ∈ ks') {e : En} (x : EnOk rs mr ks e) : EnOk rs mr ks' e := by
  cases e with
  | sp p w => exact x
  | kept w => exact ⟨x.1, h w x.2⟩
def NmSmall (w : List Nat) : Prop := ∀ c ∈ w, c < 128
theorem nm_small {w : List Nat} (h : NmOk w) : NmSmall w := fun c hc => by
  have := h.1.2.2 c hc
  unfold isLet at this
  simp only [Bool.and_eq_true, decide_eq_true_eq] at this
  omega
theorem str_ok {w : List Nat} (h : NmSmall w) : PyData.strOk (SX.S w) = true := by
  unfold PyData.strOk
  rw [Array.all_eq_true']
  intro c hc
  have : c ∈ w := by simpa using hc
  have := h c this
  exact decide_eq_true (by omega)
def enW : En → List Nat
  | .sp _ w => w
  | .kept w => w
theorem en_lay {e : En} (h : NmSmall (enW e)) : e.d.canLay0 = true ∧ e.d.depth = 1 := by
  cases e with
  | sp p w =>
    refine ⟨?_, rfl⟩
    show (PyData.strOk "at" && (true && (PyData.strOk (SX.S w) && true))) = true
    rw [show PyData.strOk (SX.S w) = true from str_ok h]
    decide +kernel
  | kept w =>
    refine ⟨?_, rfl⟩
    show (PyData.strOk "kept" && (PyData.strOk (SX.S w) && true)) = true
    rw [show PyData.strOk (SX.S w) = true from str_ok h]
    decide +kernel
theorem en_shape {e : En} (h : NmSmall (enW e)) : SeqAt.shaped e.d = true := by
  obtain ⟨h1, h2⟩ := en_lay h
  unfold SeqAt.shaped
  rw [h1, h2]
  rfl
theorem ens_lay : ∀ {es : List En}, (∀ e ∈ es, NmSmall (enW e)) → PyData.canLayAll0 (es.map En.d) = true ∧ PyData.depthAll (es.map En.d) ≤ 1
  | [], _ => ⟨rfl, Nat.zero_le _⟩
  | e :: es, h => by
    obtain ⟨h1, h2⟩ := en_lay (h e (List.mem_cons_self ..))
    obtain ⟨h3, h4⟩ := ens_lay (es := es) fun x hx => h x (List.mem_cons_of_mem _ hx)
    refine ⟨?_, ?_⟩
    · show (PyData.canLay0 e.d && PyData.canLayAll0 (es.map En.d)) = true
      rw [h1, h3]
      rfl
    · show max (PyData.depth e.d) (PyData.depthAll (es.map En.d)) ≤ 1
      omega
theorem ens_shape {es : List En} (h : ∀ e ∈ es, NmSmall (enW e)) : SeqAt.shaped (.list (es.map En.d)) = true := by
  obtain ⟨h1, h2⟩ := ens_lay h
  unfold SeqAt.shaped
  rw [show PyData.canLay0 (.list (es.map En.d)) = true from h1, decide_eq_true (show PyData.depth (.list (es.map En.d)) ≤ 64 from by
    show PyData.depthAll (es.map En.d) + 1 ≤ 64
    omega)]
  rfl
theorem en_eqv (e e' : En) : PyData.eqv e.d e'.d = decide (e = e') := by
  have hs : ∀ a b : List Nat, ((SX.S a : Str) == SX.S b) = decide (a = b) := fun a b => SX.S_beq_eq
  cases e with
  | sp p w =>
    cases e' with
    | sp p' w' =>
      show ((Str.ofString "at" == Str.ofString "at") && ((((p : Nat) : Int) == ((p' : Nat) : Int)) && ((SX.S w == SX.S w') && true))) = _
      rw [show (Str.ofString "at" == Str.ofString "at") = true by decide +kernel, hs w w', Bool.and_true, Bool.true_and, Bool.eq_iff_iff, Bool.and_eq_true, decide_eq_true_eq, decide_eq_true_eq, beq_iff_eq]
      constructor
      · rintro ⟨h1, h2⟩
        rw [Int.ofNat_inj.mp h1, h2]
      · intro h
        cases h
        exact ⟨rfl, rfl⟩
    | kept w' =>
      show ((Str.ofString "at" == Str.ofString "kept") && PyData.eqvAll [.int ((p : Nat) : Int), strD w] [strD w']) = _
      rw [show (Str.ofString "at" == Str.ofString "kept") = false by decide +kernel, Bool.false_and]
      rfl
  | kept w =>
    cases e' with
    | sp p' w' =>
      show ((Str.ofString "kept" == Str.ofString "at") && PyData.eqvAll [strD w] [.int ((p' : Nat) : Int), strD w']) = _
      rw [show (Str.ofString "kept" == Str.ofString "at") = false by decide +kernel, Bool.false_and]
      rfl
    | kept w' =>
      show ((Str.ofString "kept" == Str.ofString "kept") && ((SX.S w == SX.S w') && true)) = _
      rw [show (Str.ofString "kept" == Str.ofString "kept") = true by decide +kernel, hs w w', Bool.and_true, Bool.true_and, Bool.eq_iff_iff, decide_eq_true_eq, decide_eq_true_eq]
      constructor
      · intro h
        rw [h]
      · intro h
        cases h
        rfl
theorem ens_any (e : En) : ∀ es : List En, ((es.map En.d).any fun z => PyData.eqv z e.d) = decide (e ∈ es)
  | [] => rfl
  | x :: es => by
    rw [List.map_cons, List.any_cons, en_eqv, ens_any e es, Bool.eq_iff_iff, Bool.or_eq_true, decide_eq_true_eq, decide_eq_true_eq, decide_eq_true_eq, List.mem_cons]
    exact ⟨fun h => h.elim (fun z => .inl z.symm) .inr, fun h => h.elim (fun z => .inl z.symm) .inr⟩
theorem ens_nil (es : List En) : PyData.eqv (.list (es.map En.d)) (.list []) = decide (es = []) := by
  cases es <;> rfl
/-- an end on the heap -/
theorem en_at {K : PySem.W.Frag} {H : Hp} {v : V} {e : En} (h : Dp K H v e.d) : ∃ q, v = .ref q ∧ match e with
    | .sp p w => SqT K H q [.str "at", .int (p : Nat), .str (SX.S w)]
    | .kept w => SqT K H q [.str "kept", .str (SX.S w)] := by
  cases e with
  | sp p w =>
    cases h with
    | tup hS hA =>
      cases hA with
      | cons a1 hA =>
        cases hA with
        | cons a2 hA =>
          cases hA with
          | cons a3 hA =>
            cases hA
            cases a1
            cases a2
            cases a3
            exact ⟨_, rfl, hS⟩
  | kept w =>
    cases h with
    | tup hS hA =>
      cases hA with
      | cons a1 hA =>
        cases hA with
        | cons a2 hA =>
          cases hA
          cases a1
          cases a2
          exact ⟨_, rfl, hS⟩
theorem cutV_back (xs : List V) (k : Nat) : cutV xs (some (-1 - (k : Int))) none = xs.drop (xs.length - (k + 1)) := by
  unfold cutV
  rw [HT.sIx_none]
  have e : HT.sIx xs.length 0 (some (-1 - (k : Int))) = xs.length - (k + 1) := by
    show (if (-1 - (k : Int)) < 0 then ((-1 - (k : Int)) + (xs.length : Int)).toNat else min (-1 - (k : Int)).toNat xs.length) = _
    rw [if_pos (by omega)]
    omega
  rw [e, List.take_of_length_le (by rw [List.length_drop]; exact Nat.le_refl _)]
/-! ### makings drawn -/
abbrev s__law_making_rows : Stmt := top 58
abbrev N__law_making_rows : List Str := ["_law_box", "_law_sorts", "_law_many", "_law_names", "_law_rows", "_law_k", "_law_name", "_law_kind", "_law_size", "_law_turn"]
abbrev P__law_making_rows : List Str := ["_law_box", "_law_sorts", "_law_many"]
theorem sc__law_making_rows : FnScope N__law_making_rows P__law_making_rows (defScope s__law_making_rows) := ⟨rfl, rfl, rfl, by decide +kernel, rfl, by decide +kernel, by decide +kernel⟩
structure MOk (rs : List SRow) (mr : MRow) : Prop where
  nm : NmOk mr.nm
  so : ∀ k ∈ mr.places, ∃ r ∈ rs, r.nm = k
  p2 : mr.pt.length ≤ 2
structure Mr6 (mg : Str → Option Value) : Prop where
  enumerate : mg "enumerate" = none
  tuple : mg "tuple" = none
  range : mg "range" = none
  len : mg "len" = none
def spMakRows (K : PySem.W.Frag) : Sp := fun vs H Q _ => ∃ (a sl : Addr) (many m : Nat) (b sv : List V) (rs : List SRow), vs = [.ref a, .ref sl, .int many] ∧ H sl = some (.lst sv) ∧ DpAll K H sv (rs.map SRow.d) ∧ SortsOk rs ∧ 1 ≤ rs.length ∧ many ≤ 8 ∧ H a = some (.lst b) ∧ BoxL m b ∧ m + 200 < 900000 ∧
  ∀ (H' : Hp) (l : Addr) (mv : List V) (ms : List MRow) (b' : List V), But a H H' → H l = none → H' l = some (.lst mv) → DpAll K H' mv (ms.map MRow.d) → ms.length = many → (ms.map MRow.nm).Nodup → (∀ m ∈ ms, MOk rs m) → H' a = some (.lst b') → BoxL (m + 200) b' → Q (.ref l) H'
theorem srow_nm {K : PySem.W.Frag} {H : Hp} {v : V} {r : SRow} (h : Dp K H v r.d) : ∃ q v1 v2, v = .ref q ∧ SqT K H q [.str (SX.S r.nm), v1, v2] ∧ Dp K H v1 (.tuple (r.dn.map strD)) ∧ Dp K H v2 (.tuple (r.up.map strD)) := by
  cases h with
  | tup hS hA =>
    cases hA with
    | cons a1 hA =>
      cases hA with
      | cons a2 hA =>
        cases hA with
        | cons a3 hA =>
          cases hA
          cases a1
          exact ⟨_, _, _, rfl, hS, a2, a3⟩
section
variable {P : Program} {w : World} {K : PySem.W.Frag} {mg : Str → Option Value} {base : Heap}
theorem ok_making_rows (T : Mr6 mg) (c_law_take : C8.Cal P w K mg base 1 "_law_take" spTake []) (c_law_named : C8.Cal P w K mg base 2 "_law_named" spNamed []) (c_law_one_of : C8.Cal P w K mg base 2 "_law_one_of" (spOneOf K) [])
    (D : Dd K mg "_law_making_rows" s__law_making_rows P__law_making_rows) : C8.Cal P w K mg base 3 "_law_making_rows" (spMakRows K) [] := by
  refine D.cal sc__law_making_rows (fun vs H Q E h => ?_) (fun f cdv A outer s H vs Q E hr h => ?_)
  · obtain ⟨a, sl, many, m, b, sv, rs, rfl, _⟩ := h
    rfl
  · obtain ⟨a, sl, many, m, b, sv, rs, rfl, hsl, hsv, so, s1, hmany, ha, hB, hm, q⟩ := h
    have lsv := dpAll_len hsv
    rw [List.length_map] at lsv
    have le4 := so.le
    have nsl : sl ≠ a ∨ sl = a := by
      by_cases z : sl = a
      · exact .inr z
      · exact .inl z
    have nsl : sl ≠ a := fun z => by
      rw [z, ha] at hsl
      obtain ⟨b0, b1, b2, eb, _⟩ := hB
      have := HO.lst.inj (Option.some.inj hsl)
      rw [← this, eb] at hsv
      obtain ⟨r0, rs', rfl⟩ : ∃ r0 rs', rs = r0 :: rs' := by
        cases rs with
        | nil => cases s1
        | cons r0 rs' => exact ⟨_, _, rfl⟩
      cases hsv with
      | cons h _ =>
        obtain ⟨_, _, _, e, _⟩ := srow_nm h
        cases e
    refine ⟨_, (pss_cons (ps_par rfl sc__law_making_rows.nd (i := 3) (j := 4) rfl rfl (by decide) rfl rfl (pa_cons (C8.pe_c c_law_named hr (by decide) (by rfl) (pa_cons (pv 0) (pa_cons (pv 2) pa_nil))) (pa_cons (pe_lst pa_nil) pa_nil)) (by rfl))
        (pss_cons (ps_for PassesOwn.never rfl (pi_enum (by rfl) T.enumerate (pa_cons (pv 3) pa_nil)) (pg_tup rfl (pgs_cons (pg_name (i := 5) sc__law_making_rows.nd rfl (Or.inl rfl)) (pgs_cons (pg_name (i := 6) sc__law_making_rows.nd rfl (Or.inl rfl)) pgs_nil)))
          (C8.pss_cut (ps_par rfl sc__law_making_rows.nd (i := 7) (j := 8) rfl rfl (by decide) rfl rfl (pa_cons (pe_ix (r := rIxT K) ix_tup (C8.pe_c c_law_one_of hr (by decide) (by rfl) (pa_cons (pv 0) (pa_cons (pv 1) pa_nil))) pe_int (fun _ _ => rfl)) (pa_cons (pe_ix ix_list (pe_lst (pa_cons pe_int (pa_cons pe_int (pa_cons pe_int (pa_cons pe_int pa_nil))))) (C8.pe_c c_law_take hr (by decide) (by rfl) (pa_cons (pv 0) (pa_cons pe_int pa_nil))) (fun _ _ => rfl)) pa_nil)) (by rfl))
        (C8.pss_cut (ps_if (PW.pt (pw_and (pt_cmpR op_lt (pv 5) (pe_callB call_len_seq (by rfl) T.len PySem.boot_len (pa_cons (pv 1) pa_nil)) (nomark _)) (pw_and1 (pt_cmpR op_gt (C8.pe_c c_law_take hr (by decide) (by rfl) (pa_cons (pv 0) (pa_cons pe_int pa_nil))) pe_int (nomark _)))))
          (pss_one (ps_par rfl sc__law_making_rows.nd (i := 7) (j := 8) rfl rfl (by decide) rfl rfl (pa_cons (pe_ix (r := rIxT K) ix_tup (pe_ix ix_list (pv 1) (pv 5) (fun _ _ => rfl)) pe_int (fun _ _ => rfl)) (pa_cons pe_int pa_nil)) (by rfl)))
          pss_nil)
        (pss_one (ps_expr (pe_bm PySem.F.plainAttrs_list PySem.F.slot_list_append PySem.F.type_list_append mt_append (pv 4) (pa_cons (pe_tup (pa_cons (pv 6) (pa_cons (pv 7) (pa_cons (pe_callTy call_tuple_of (by rfl) T.tuple (by decide +kernel) (pa_cons (pe_lc (own := [("_law_turn", 9)]) (by exact rfl) sc__law_making_rows.nd (pi_range1 rfl T.range (pa_cons (pv 8) pa_nil)) (blkOk_by (own := [("_law_turn", 9)]) (N := N__law_making_rows) (sc := defScope s__law_making_rows) (by decide +kernel)) (fun _ _ _ _ _ => (pg_name (i := 9) sc__law_making_rows.nd rfl (Or.inl rfl))) (fun _ _ _ _ _ => pts_nil) (fun _ _ _ _ _ => (pe_ix (r := rIxT K) ix_tup (C8.pe_c c_law_one_of hr (by decide) (by rfl) (pa_cons (pv 0) (pa_cons (pv 1) pa_nil))) pe_int (fun _ _ => rfl)))) pa_nil)) pa_nil)))) pa_nil)))))))
        (pss_one (ps_ret (pv 4))))), ?_⟩
    refine ⟨_, rfl, _, rfl, a, many, m, b, rfl, by omega, ha, hB, by omega, fun H1 ln ws b1 bt1 nln hln hwl hnd hws hb1 hB1 => ?_⟩
    have nlna : ln ≠ a := fun z => by
      rw [z, ha] at nln
      cases nln
    refine ⟨by show 0 ≤ sizeLine; decide, fun l nl => ⟨_, _, rfl, ?_⟩⟩
    have g1 := same_upd (o := .lst []) nl
    have nla : l ≠ a := fun z => by
      rw [z, hb1] at nl
      cases nl
    have nll : l ≠ ln := fun z => by
      rw [z, hln] at nl
      cases nl
    have nlH : H l = none := But.free bt1 hb1 nl
    have nls : l ≠ sl := fun z => by
      rw [z, hsl] at nlH
      cases nlH
    have hsvi : ∀ {Y : Hp}, But a H Y → DpAll K Y sv (rs.map SRow.d) := fun t => dpAll_imm (KeepT.but ha t) hsv (immAll_map SRow.imm rs)
    have hln3 := g1 _ _ hln
    have hb3 := g1 _ _ hb1
    have hl3 : (upd H1 l (.lst [])) l = some (.lst []) := upd_same
    have bt3 := bt1.trans (But.of (a := a) g1)
    generalize upd H1 l (.lst []) = H3 at hln3 hb3 hl3 bt3 ⊢
    refine ⟨_, rfl, ln, _, rfl, SqL.of hln3, ?_⟩
    refine for_it (walk_enum (K := K) (a := ln) (xs := nmV ws)) (fun i σ X => ∃ y5 y6 y7 y8 y9 mv ms b', σ = [some (.ref a), some (.ref sl), some (.int many), some (.ref ln), some (.ref l), y5, y6, y7, y8, y9] ∧ But a H X ∧ X ln = some (.lst (nmV ws)) ∧ X l = some (.lst mv) ∧ DpAll K X mv (ms.map MRow.d) ∧ ms.length = i ∧ (∀ m ∈ ms, MOk rs m) ∧ ms.map MRow.nm = ws.take i ∧ X a = some (.lst b') ∧ BoxL (m + 10 * many + 10 * i) b')
      ⟨none, none, none, none, none, [], [], b1, rfl, bt3, hln3, hl3, .nil, rfl, (fun r h => nomatch h), rfl, hb3, hB1⟩ (fun i σ X _ ⟨_, _, _, _, _, _, _, _, _, _, h, _⟩ => SqL.of h) ?_ ?_
    · rintro i v σ X0 X hi ⟨y5, y6, y7, y8, y9, mv, ms, b2, rfl, btX, hlnX, hlX, hdX, hrl, hrs, hrn, hbX, hBX⟩ ⟨TT, xx, yy, rfl, nT, rfl, ex, ey⟩
      cases ex
      have hi4 : i < many := by
        rw [nmV_len] at hi
        omega
      obtain ⟨w, hw⟩ : ∃ w, ws[i]? = some w := ⟨ws[i]'(by omega), List.getElem?_eq_getElem _⟩
      have ey' : yy = .str (SX.S w) := by
        have e2 : (nmV ws)[i]? = some yy := ey
        rw [nmV_at hw] at e2
        exact (Option.some.inj e2).symm
      subst ey'
      have sT := same_upd (o := .tup [.int (i : Nat), .str (SX.S w)]) nT
      refine ⟨TT, _, rfl, SqT.of upd_same, rfl, _, _, rfl, _, _, rfl, rfl, ?_⟩
      have btX := btX.trans (But.of (a := a) sT)
      have hlnX := sT _ _ hlnX
      have hlX := sT _ _ hlX
      have hdX := dpAll_same sT hdX
      have hbX := sT _ _ hbX
      generalize upd X0 TT (.tup [.int (i : Nat), .str (SX.S w)]) = X at btX hlnX hlX hdX hbX ⊢
      have pick : ∀ {Z : Hp} {i2 : Nat} {v : V}, But a H Z → sv[i2]? = some v → ∃ r ∈ rs, ∃ q v1 v2, v = .ref q ∧ SqT K Z q [.str (SX.S r.nm), v1, v2] := fun {Z i2 v} t hv => by
        obtain ⟨dd, hdd, hde⟩ := dpAll_at (hsvi t) hv
        rw [List.getElem?_map] at hdd
        obtain ⟨r, er, rfl⟩ : ∃ r, rs[i2]? = some r ∧ dd = r.d := by
          cases e : rs[i2]? with
          | none => rw [e] at hdd; cases hdd
          | some y => rw [e] at hdd; exact ⟨y, rfl, (Option.some.inj hdd).symm⟩
        obtain ⟨q, v1, v2, rfl, hq, _⟩ := srow_nm hde
        exact ⟨r, List.mem_of_getElem? er, q, v1, v2, rfl, hq⟩
      refine ⟨fun σ Y => ∃ (k : List Nat) (nn : Nat) (b3 : List V), σ = [some (.ref a), some (.ref sl), some (.int many), some (.ref ln), some (.ref l), some (.int (i : Nat)), some (.str (SX.S w)), some (.str (SX.S k)), some (.int nn), y9] ∧ But a X Y ∧ (∃ r ∈ rs, r.nm = k) ∧ nn ≤ 2 ∧ Y a = some (.lst b3) ∧ BoxL (m + 10 * many + 10 * i + 2) b3, ?_, ?_⟩
      · refine ⟨_, rfl, _, rfl, a, sl, _, b2, sv, rfl, hbX, hBX, by omega, SqL.of (btX _ _ nsl hsl), nsl, by omega, by omega, fun i2 v b4 hv hB4 => ?_⟩
        have bX1 : But a X (upd X a (.lst b4)) := But.upd (But.refl a X)
        have ha1 : (upd X a (.lst b4)) a = some (.lst b4) := upd_same
        generalize upd X a (.lst b4) = X1 at bX1 ha1 ⊢
        obtain ⟨r, hr, q, v1, v2, rfl, hq⟩ := pick (btX.trans bX1) hv
        refine ⟨q, _, 0, .str (SX.S r.nm), rfl, rfl, hq, atI_nat (j := 0) rfl, by show 4 ≤ sizeLine; decide, fun l4 n4 => ?_⟩
        have k4 := same_upd (o := .lst [.int 0, .int 1, .int 2, .int 2]) n4
        have ha2 := k4 _ _ ha1
        have na4 : a ≠ l4 := ne_of_none ha1 n4
        refine ⟨_, rfl, a, 4, _, b4, rfl, ha2, hB4, by omega, by decide, by decide, fun r4 b5 r40 r41 hB5 => ?_⟩
        obtain ⟨nn, hnn, hat⟩ : ∃ nn : Nat, nn ≤ 2 ∧ atI [V.int 0, .int 1, .int 2, .int 2] r4 = some (.int nn) := by
          have hc : r4 = 0 ∨ r4 = 1 ∨ r4 = 2 ∨ r4 = 3 := by omega
          rcases hc with rfl | rfl | rfl | rfl
          · exact ⟨0, by decide, atI_nat (j := 0) rfl⟩
          · exact ⟨1, by decide, atI_nat (j := 1) rfl⟩
          · exact ⟨2, by decide, atI_nat (j := 2) rfl⟩
          · exact ⟨2, by decide, atI_nat (j := 3) rfl⟩
        refine ⟨l4, _, _, _, rfl, rfl, SqL.of (by rw [upd_ne na4.symm, upd_same]), hat, _, _, rfl, ?_⟩
        exact ⟨r.nm, nn, b5, rfl, (bX1.trans (But.of k4)).trans (But.upd (But.refl a _)), ⟨r, hr, rfl⟩, hnn, upd_same, hB5⟩
      rintro σ Y ⟨k, nn, b3, rfl, bXY, hk, hnn, hbY, hBY⟩
      have btY := btX.trans bXY
      refine ⟨fun σ Y => ∃ (k : List Nat) (nn : Nat) (b3 : List V), σ = [some (.ref a), some (.ref sl), some (.int many), some (.ref ln), some (.ref l), some (.int (i : Nat)), some (.str (SX.S w)), some (.str (SX.S k)), some (.int nn), y9] ∧ But a X Y ∧ (∃ r ∈ rs, r.nm = k) ∧ nn ≤ 2 ∧ Y a = some (.lst b3) ∧ BoxL (m + 10 * many + 10 * i + 3) b3, ?_, ?_⟩
      · refine ⟨_, rfl, _, rfl, sl, sv, rfl, .inl (SqL.of (btY _ _ nsl hsl)), _, _, rfl, rfl, ?_⟩
        refine ⟨_, rfl, ?_⟩
        by_cases hlt : i < rs.length
        · refine ifT (decide_eq_true (by omega)) ?_
          refine ⟨_, rfl, a, 24, _, b3, rfl, hbY, hBY, by omega, by decide, by decide, fun r5 b5 h5 h5' hB5 => ?_⟩
          have bY1 : But a Y (upd Y a (.lst b5)) := But.upd (But.refl a Y)
          have ha1 : (upd Y a (.lst b5)) a = some (.lst b5) := upd_same
          generalize upd Y a (.lst b5) = Y1 at bY1 ha1 ⊢
          refine ⟨_, _, rfl, rfl, _, rfl, ?_⟩
          by_cases h0 : r5 > 0
          · refine ifT (decide_eq_true h0) ?_
            have bHY1 := btY.trans bY1
            have hsl1 := bHY1 _ _ nsl hsl
            obtain ⟨e, he⟩ : ∃ e, sv[i]? = some e := ⟨sv[i]'(by omega), List.getElem?_eq_getElem _⟩
            obtain ⟨dd, hdd, hde⟩ := dpAll_at (hsvi bHY1) he
            rw [List.getElem?_map] at hdd
            obtain ⟨r, er, rfl⟩ : ∃ r, rs[i]? = some r ∧ dd = r.d := by
              cases e : rs[i]? with
              | none => rw [e] at hdd; cases hdd
              | some y => rw [e] at hdd; exact ⟨y, rfl, (Option.some.inj hdd).symm⟩
            obtain ⟨q, v1, v2, rfl, hq, _⟩ := srow_nm hde
            refine ⟨_, rfl, _, rfl, sl, sv, _, _, rfl, rfl, SqL.of hsl1, atI_nat he, q, _, 0, .str (SX.S r.nm), rfl, rfl, hq, atI_nat (j := 0) rfl, _, _, rfl, ?_⟩
            exact ⟨r.nm, 0, b5, rfl, bXY.trans bY1, ⟨r, List.mem_of_getElem? er, rfl⟩, by decide, ha1, hB5⟩
          · refine ifF (decide_eq_false h0) ?_
            exact ⟨k, nn, b5, rfl, bXY.trans bY1, hk, hnn, ha1, hB5⟩
        · refine ifF (decide_eq_false (by omega)) ?_
          exact ⟨k, nn, b3, rfl, bXY, hk, hnn, hbY, hBY.mono (by omega)⟩
      clear hBY hbY btY bXY hk hnn nn k b3
      rintro σ Y' ⟨k, nn, b3, rfl, bXY, hk, hnn, hbY, hBY⟩
      have btY := btX.trans bXY
      have hlY := bXY _ _ nla hlX
      refine ⟨_, rfl, .inl ⟨rfl, _, SqL.of hlY⟩, ?_⟩
      refine ⟨_, rfl, _, rfl, _, rfl, nn, rfl, by omega, by omega, fun D nD => ?_⟩
      have nDa : a ≠ D := ne_of_none hbY nD
      refine lc_range (lo := 0) (n := (nn : Int).toNat) (fun j U => But a Y' U ∧ ∃ b' ks, U a = some (.lst b') ∧ BoxL (m + 10 * many + 10 * i + 3 + j) b' ∧ U D = some (.lst (nmV ks)) ∧ ks.length = j ∧ ∀ k ∈ ks, ∃ r ∈ rs, r.nm = k)
        ⟨But.of (same_upd nD), b3, [], by rw [upd_ne nDa]; exact hbY, hBY, upd_same, rfl, (fun z hz => nomatch hz)⟩ ?_ ?_
      · rintro j U hj ⟨btU, b4, ks, hbU, hBU, hDU, hyl, hys⟩
        refine ⟨rfl, yesT ?_⟩
        refine ⟨_, rfl, _, rfl, a, sl, _, b4, sv, rfl, hbU, hBU, by omega, SqL.of ((btY.trans btU) _ _ nsl hsl), nsl, by omega, by omega, fun i2 v b5 hv hB5 => ?_⟩
        have hD5 : (upd U a (.lst b5)) D = some (.lst (nmV ks)) := by rw [upd_ne nDa.symm]; exact hDU
        have bU5 := btU.trans (But.upd (But.refl a U) (o := .lst b5))
        have ha5 : (upd U a (.lst b5)) a = some (.lst b5) := upd_same
        generalize upd U a (.lst b5) = U5 at hD5 bU5 ha5 ⊢
        obtain ⟨r, hr, q, v1, v2, rfl, hq⟩ := pick (btY.trans bU5) hv
        refine ⟨q, _, 0, .str (SX.S r.nm), rfl, rfl, hq, atI_nat (j := 0) rfl, _, hD5, by rw [nmV_len, hyl]; exact small1000 (by omega), ?_, b5, ks ++ [r.nm], by rw [upd_ne nDa]; exact ha5, hB5, by rw [upd_same]; unfold nmV; rw [List.map_append]; rfl, by rw [List.length_append, hyl]; rfl, fun k hk => ?_⟩
        · refine fun x o nx hx => ?_
          rw [upd_ne (ne_of_none hx nD)]
          exact bU5 _ _ nx hx
        · rcases List.mem_append.mp hk with h | h
          · exact hys k h
          · rw [List.mem_singleton.mp h]
            exact ⟨r, hr, rfl⟩
      rintro U ⟨btU, b4, ks, hbU, hBU, hDU, hyl, hys⟩
      have hk2 : ks.length ≤ 2 := by omega
      have hBU := hBU.mono (show m + 10 * many + 10 * i + 3 + (nn : Int).toNat ≤ m + 10 * many + 10 * i + 5 by omega)
      refine ⟨D, _, rfl, .inl ⟨SqL.of hDU, fun t1 nt1 => ?_⟩⟩
      have k1 := same_upd (o := .tup (nmV ks)) nt1
      have ht1 : (upd U t1 (.tup (nmV ks))) t1 = some (.tup (nmV ks)) := upd_same
      have bXU := (bXY.trans btU).trans (But.of (a := a) k1)
      have hbU1 := k1 _ _ hbU
      generalize upd U t1 (.tup (nmV ks)) = U1 at k1 ht1 bXU hbU1 ⊢
      refine ⟨by show 3 ≤ sizeLine; decide, fun t3 nt3 => ?_⟩
      have k3 := same_upd (o := .tup [.str (SX.S w), .str (SX.S k), .ref t1]) nt3
      have bX3 := bXU.trans (But.of (a := a) k3)
      have hl5 := bX3 _ _ nla hlX
      have lvs := dpAll_len hdX
      rw [List.length_map, hrl] at lvs
      refine ⟨l, mv, .ref t3, rfl, rfl, hl5, by rw [lvs]; exact small1000 (by omega), ?_⟩
      have dRow : Dp K (upd U1 t3 (.tup [.str (SX.S w), .str (SX.S k), .ref t1])) (.ref t3) (MRow.d ⟨w, k, ks⟩) :=
        .tup (SqT.of upd_same) (.cons (.str _) (.cons (.str _) (.cons (.tup (SqT.of (k3 _ _ ht1)) (nm_dp _)) .nil)))
      have hb5 := k3 _ _ hbU1
      generalize upd U1 t3 (.tup [.str (SX.S w), .str (SX.S k), .ref t1]) = U3 at k3 bX3 hl5 dRow hb5 ⊢
      have kl : KeepT U3 (upd U3 l (.lst (mv ++ [.ref t3]))) := KeepT.at_ hl5 lst_no
      refine ⟨_, _, _, _, _, mv ++ [.ref t3], ms ++ [⟨w, k, ks⟩], b4, rfl, fun c o nc hc => ?_, ?_, upd_same, ?_, by rw [List.length_append, hrl]; rfl, fun r hr => ?_, ?_, ?_, hBU.mono (by omega)⟩
      · rw [upd_ne (ne_of_none hc nlH)]
        exact (btX.trans bX3) c o nc hc
      · rw [upd_ne nll.symm]
        exact bX3 _ _ nlna hlnX
      · rw [List.map_append]
        exact dpAll_appI (dpAll_imm ((KeepT.but hbX bX3).trans kl) hdX (immAll_map MRow.imm ms)) (.cons (dp_imm kl dRow (MRow.imm _)) .nil)
      · rcases List.mem_append.mp hr with h | h
        · exact hrs r h
        · rw [List.mem_singleton.mp h]
          refine ⟨hws w (List.mem_of_getElem? hw), fun x hx => ?_, hk2⟩
          rcases List.mem_cons.mp hx with rfl | hx
          · exact hk
          · exact hys x hx
      · rw [List.map_append, hrn, List.take_add_one, hw]
        rfl
      · rw [upd_ne nla.symm]
        exact hb5
    · rintro σ X ⟨y5, y6, y7, y8, y9, mv, ms, b2, rfl, btX, hlnX, hlX, hdX, hrl, hrs, hrn, hbX, hBX⟩
      rw [nmV_len] at hrl hrn hBX
      refine ⟨_, rfl, q X l mv ms b2 btX nlH hlX hdX (by omega) ?_ hrs hbX (hBX.mono (by omega))⟩
      rw [hrn]
      exact List.Nodup.sublist (List.take_sublist _ _) hnd
end
/-! ### a list and the empty list -/
def rEq0 : R2 := fun x y H Q => ∃ a b xs, x = .ref a ∧ y = .ref b ∧ H a = some (.lst xs) ∧ H b = some (.lst []) ∧ Q (.bl (decide (xs.length = 0))) H
def rNe0 : R2 := fun x y H Q => ∃ a b xs, x = .ref a ∧ y = .ref b ∧ H a = some (.lst xs) ∧ H b = some (.lst []) ∧ Q (.bl (!decide (xs.length = 0))) H
theorem vals_len {vs : List V} {us : List Value} (h : Vals vs us) : vs.length = us.length := by
  induction h with
  | nil => rfl
  | cons _ _ ih => rw [List.length_cons, List.length_cons, ih]
theorem op_eq0 {X : Cx} (hu : X.A.units + 64 < cLine) : OpR X (compareOp .Eq) rEq0 := by
  intro pins s σ H x y v u Q I rx ry h
  obtain ⟨l, b, xs, rfl, rfl, hH, hB, q⟩ := h
  cases rx
  cases ry
  obtain ⟨z, its, n, r, hl, e⟩ := I.lstM hH
  obtain ⟨z2, its2, n2, r2, hl2, e2⟩ := I.lstM hB
  have h1 := vals_len r
  have h2 := vals_len r2
  have i1 : s.heap.IsList l its.toArray := ⟨_, e, rfl, n, rfl⟩
  have i2 : s.heap.IsList b its2.toArray := ⟨_, e2, rfl, n2, rfl⟩
  rw [List.length_nil] at h2
  by_cases h0 : xs.length = 0
  · refine SeqAt.eq_listAt (e := fun _ => true) i1 i2 (by rw [List.size_toArray, List.size_toArray]; omega) (by omega) (fun j a c => ?_) ⟨.bl _, H, I, ?_, q⟩
    · rw [List.size_toArray] at c
      omega
    · rw [decide_eq_true h0, List.size_toArray, show its.length = 0 by omega]
      rfl
  · refine SeqAt.eq_list_lengthsAt i1 i2 (by rw [List.size_toArray, List.size_toArray]; simp; omega) (by omega) ⟨.bl _, H, I, ?_, q⟩
    rw [decide_eq_false h0]
    rfl
theorem op_ne0 {X : Cx} (hu : X.A.units + 64 < cLine) : OpR X (compareOp .NotEq) rNe0 := by
  intro pins s σ H x y v u Q I rx ry h
  obtain ⟨l, b, xs, rfl, rfl, hH, hB, q⟩ := h
  cases rx
  cases ry
  obtain ⟨z, its, n, r, hl, e⟩ := I.lstM hH
  obtain ⟨z2, its2, n2, r2, hl2, e2⟩ := I.lstM hB
  have h1 := vals_len r
  have h2 := vals_len r2
  have i1 : s.heap.IsList l its.toArray := ⟨_, e, rfl, n, rfl⟩
  have i2 : s.heap.IsList b its2.toArray := ⟨_, e2, rfl, n2, rfl⟩
  rw [List.length_nil] at h2
  by_cases h0 : xs.length = 0
  · refine SeqAt.RcNeAt.lists (e := fun _ => true) i1 i2 (by rw [List.size_toArray, List.size_toArray]; omega) (by omega) (fun j a c => ?_) _ _ _ _ ⟨.bl _, H, I, ?_, q⟩
    · rw [List.size_toArray] at c
      omega
    · rw [decide_eq_true h0, List.size_toArray, show its.length = 0 by omega]
      rfl
  · refine SeqAt.RcNeAt.lists_lengths i1 i2 (by rw [List.size_toArray, List.size_toArray]; simp; omega) (by omega) _ _ _ _ ⟨.bl _, H, I, ?_, q⟩
    rw [decide_eq_false h0]
    rfl
/-! ### ops to draw from -/
abbrev s__law_ops : Stmt := top 55
abbrev N__law_ops : List Str := ["_law_roof", "_law_some"]
abbrev P__law_ops : List Str := ["_law_roof"]
theorem sc__law_ops : FnScope N__law_ops P__law_ops (defScope s__law_ops) := ⟨rfl, rfl, rfl, by decide +kernel, rfl, by decide +kernel, by decide +kernel⟩
def O4 : List (List Nat × Nat) := [(sl "copy", 1), (sl "plus", 2), (sl "least", 2), (sl "most", 2)]
def O7 : List (List Nat × Nat) := [(sl "less", 2), (sl "times", 2), (sl "over", 2), (sl "rest", 2), (sl "same", 2), (sl "under", 2), (sl "pick", 3)]
def opsR (roof : Nat) : List (List Nat × Nat) := if roof = 0 then O4 ++ O7 else O4
def opRD (o : List Nat × Nat) : PyData := .tuple [strD o.1, .int (o.2 : Nat)]
theorem opRD_imm (o : List Nat × Nat) : Thr.imm (opRD o) = true := rfl
theorem opsR_ok {roof : Nat} {o : List Nat × Nat} (h : o ∈ opsR roof) : o.1 ∈ opsOf roof ∧ arOf o.1 = o.2 := by
  unfold opsR at h
  unfold opsOf
  split at h
  · rename_i z
    rw [if_pos z]
    have : ∀ o ∈ O4 ++ O7, o.1 ∈ OPS4 ++ OPS8 ∧ arOf o.1 = o.2 := by decide +kernel
    exact this o h
  · rename_i z
    rw [if_neg z]
    have : ∀ o ∈ O4, o.1 ∈ OPS4 ∧ arOf o.1 = o.2 := by decide +kernel
    exact this o h
theorem opsR_len (roof : Nat) : 1 ≤ (opsR roof).length ∧ (opsR roof).length ≤ 11 := by
  unfold opsR
  split <;> exact ⟨by decide, by decide⟩
theorem ar3 (op : List Nat) : arOf op ≤ 3 := by
  unfold arOf
  split
  · decide
  · split <;> decide
def spOps6 (K : PySem.W.Frag) : Sp := fun vs H Q _ => ∃ (roof : Nat), vs = [.int roof] ∧
  ∀ (H' : Hp) (l : Addr) (ov : List V), Same H H' → H l = none → H' l = some (.lst ov) → DpAll K H' ov ((opsR roof).map opRD) → Q (.ref l) H'
theorem dp_op {K : PySem.W.Frag} {H : Hp} {t : Addr} (x : String) (n : Nat) (h : H t = some (.tup [.str (Str.ofString x), .int (n : Nat)])) : Dp K H (.ref t) (opRD (sl x, n)) := by
  refine .tup (SqT.of h) (.cons ?_ (.cons (.int _) .nil))
  show Dp K H _ (.str (SX.S (sl x)))
  rw [sl_S]
  exact .str _
section
variable {P : Program} {w : World} {K : PySem.W.Frag} {mg : Str → Option Value} {base : Heap}
theorem ok_ops6 (D : Dd K mg "_law_ops" s__law_ops P__law_ops) : C8.Cal P w K mg base 1 "_law_ops" (spOps6 K) [] := by
  refine D.cal sc__law_ops (fun vs H Q E h => ?_) (fun f cdv A outer s H vs Q E hr h => ?_)
  · obtain ⟨roof, rfl, _⟩ := h
    rfl
  · obtain ⟨roof, rfl, q⟩ := h
    refine ⟨_, (pss_cons (ps_set (i := 1) sc__law_ops.nd rfl (Or.inl rfl) (pe_lst (pa_cons (pe_tup (pa_cons pe_str (pa_cons pe_int pa_nil))) (pa_cons (pe_tup (pa_cons pe_str (pa_cons pe_int pa_nil))) (pa_cons (pe_tup (pa_cons pe_str (pa_cons pe_int pa_nil))) (pa_cons (pe_tup (pa_cons pe_str (pa_cons pe_int pa_nil))) pa_nil))))))
        (pss_cons (ps_if (pt_cmpR op_eq (pv 0) pe_int (nomark _))
          (pss_one (ps_set (i := 1) sc__law_ops.nd rfl (Or.inl rfl) (pe_op op_cat (pv 1) (pe_lst (pa_cons (pe_tup (pa_cons pe_str (pa_cons pe_int pa_nil))) (pa_cons (pe_tup (pa_cons pe_str (pa_cons pe_int pa_nil))) (pa_cons (pe_tup (pa_cons pe_str (pa_cons pe_int pa_nil))) (pa_cons (pe_tup (pa_cons pe_str (pa_cons pe_int pa_nil))) (pa_cons (pe_tup (pa_cons pe_str (pa_cons pe_int pa_nil))) (pa_cons (pe_tup (pa_cons pe_str (pa_cons pe_int pa_nil))) (pa_cons (pe_tup (pa_cons pe_str (pa_cons pe_int pa_nil))) pa_nil)))))))))))
          pss_nil)
        (pss_one (ps_ret (pv 1))))), ?_⟩
    refine ⟨by show 2 ≤ sizeLine; decide, fun t1 n1 => ⟨by show 2 ≤ sizeLine; decide, fun t2 n2 => ⟨by show 2 ≤ sizeLine; decide, fun t3 n3 => ⟨by show 2 ≤ sizeLine; decide, fun t4 n4 => ⟨by show 4 ≤ sizeLine; decide, fun l1 nl1 => ?_⟩⟩⟩⟩⟩
    have s1 := same_upd (o := .tup [.str "copy", .int 1]) n1
    have s2 := same_upd (o := .tup [.str "plus", .int 2]) n2
    have s3 := same_upd (o := .tup [.str "least", .int 2]) n3
    have s4 := same_upd (o := .tup [.str "most", .int 2]) n4
    have m1 := same_upd (o := .lst [.ref t1, .ref t2, .ref t3, .ref t4]) nl1
    have z3 := s4.trans m1
    have z2 := s3.trans z3
    have z1 := s2.trans z2
    have z0 := s1.trans z1
    have d1 := dp_op (K := K) "copy" 1 (z1 _ _ upd_same)
    have d2 := dp_op (K := K) "plus" 2 (z2 _ _ upd_same)
    have d3 := dp_op (K := K) "least" 2 (z3 _ _ upd_same)
    have d4 := dp_op (K := K) "most" 2 (m1 _ _ upd_same)
    have sH := z0
    have nl1H : H l1 = none := Same.free (((s1.trans s2).trans s3).trans s4) nl1
    have hl1 : (upd (upd (upd (upd (upd H t1 (.tup [.str "copy", .int 1])) t2 (.tup [.str "plus", .int 2])) t3 (.tup [.str "least", .int 2])) t4 (.tup [.str "most", .int 2])) l1 (.lst [.ref t1, .ref t2, .ref t3, .ref t4])) l1 = some (.lst [.ref t1, .ref t2, .ref t3, .ref t4]) := upd_same
    have dA : DpAll K (upd (upd (upd (upd (upd H t1 (.tup [.str "copy", .int 1])) t2 (.tup [.str "plus", .int 2])) t3 (.tup [.str "least", .int 2])) t4 (.tup [.str "most", .int 2])) l1 (.lst [.ref t1, .ref t2, .ref t3, .ref t4])) [.ref t1, .ref t2, .ref t3, .ref t4] (O4.map opRD) := .cons d1 (.cons d2 (.cons d3 (.cons d4 .nil)))
    clear d1 d2 d3 d4 z0 z1 z2 z3 m1 s1 s2 s3 s4
    generalize upd (upd (upd (upd (upd H t1 (.tup [.str "copy", .int 1])) t2 (.tup [.str "plus", .int 2])) t3 (.tup [.str "least", .int 2])) t4 (.tup [.str "most", .int 2])) l1 (.lst [.ref t1, .ref t2, .ref t3, .ref t4]) = Y at sH hl1 dA ⊢
    refine ⟨_, rfl, rfl, _, rfl, ?_⟩
    by_cases h0 : roof = 0
    · refine ifT (decide_eq_true (show V.int ((roof : Nat) : Int) = V.int 0 by rw [h0]; rfl)) ?_
      refine ⟨_, rfl, by show 2 ≤ sizeLine; decide, fun t5 n5 => ⟨by show 2 ≤ sizeLine; decide, fun t6 n6 => ⟨by show 2 ≤ sizeLine; decide, fun t7 n7 => ⟨by show 2 ≤ sizeLine; decide, fun t8 n8 => ⟨by show 2 ≤ sizeLine; decide, fun t9 n9 => ⟨by show 2 ≤ sizeLine; decide, fun t10 n10 => ⟨by show 2 ≤ sizeLine; decide, fun t11 n11 => ⟨by show 7 ≤ sizeLine; decide, fun l2 nl2 => ?_⟩⟩⟩⟩⟩⟩⟩⟩
      have s5 := same_upd (o := .tup [.str "less", .int 2]) n5
      have s6 := same_upd (o := .tup [.str "times", .int 2]) n6
      have s7 := same_upd (o := .tup [.str "over", .int 2]) n7
      have s8 := same_upd (o := .tup [.str "rest", .int 2]) n8
      have s9 := same_upd (o := .tup [.str "same", .int 2]) n9
      have s10 := same_upd (o := .tup [.str "under", .int 2]) n10
      have s11 := same_upd (o := .tup [.str "pick", .int 3]) n11
      have m2 := same_upd (o := .lst [.ref t5, .ref t6, .ref t7, .ref t8, .ref t9, .ref t10, .ref t11]) nl2
      have y11 := m2
      have y10 := s11.trans y11
      have y9 := s10.trans y10
      have y8 := s9.trans y9
      have y7 := s8.trans y8
      have y6 := s7.trans y7
      have y5 := s6.trans y6
      have y4 := s5.trans y5
      have d5 := dp_op (K := K) "less" 2 (y5 _ _ upd_same)
      have d6 := dp_op (K := K) "times" 2 (y6 _ _ upd_same)
      have d7 := dp_op (K := K) "over" 2 (y7 _ _ upd_same)
      have d8 := dp_op (K := K) "rest" 2 (y8 _ _ upd_same)
      have d9 := dp_op (K := K) "same" 2 (y9 _ _ upd_same)
      have d10 := dp_op (K := K) "under" 2 (y10 _ _ upd_same)
      have d11 := dp_op (K := K) "pick" 3 (y11 _ _ upd_same)
      refine ⟨l1, l2, _, _, rfl, rfl, y4 _ _ hl1, upd_same, by show 11 ≤ sizeLine; decide, fun l3 nl3 => ?_⟩
      have s12 := same_upd (o := .lst ([.ref t1, .ref t2, .ref t3, .ref t4] ++ [.ref t5, .ref t6, .ref t7, .ref t8, .ref t9, .ref t10, .ref t11])) nl3
      have a4 := dpAll_same y4 dA
      have a7 : DpAll K _ [.ref t5, .ref t6, .ref t7, .ref t8, .ref t9, .ref t10, .ref t11] (O7.map opRD) := .cons d5 (.cons d6 (.cons d7 (.cons d8 (.cons d9 (.cons d10 (.cons d11 .nil))))))
      refine ⟨_, rfl, q _ l3 _ ((sH.trans y4).trans s12) ((sH.trans y4).free nl3) upd_same ?_⟩
      unfold opsR
      rw [if_pos h0, List.map_append]
      exact dpAll_same s12 (dpAll_appI a4 a7)
    · refine ifF (decide_eq_false (show ¬ V.int ((roof : Nat) : Int) = V.int 0 from fun z => h0 (by have := V.int.inj z; omega))) ?_
      refine ⟨_, rfl, q Y l1 _ sH nl1H hl1 ?_⟩
      unfold opsR
      rw [if_neg h0]
      exact dA
end
/-! ### an operand drawn -/
abbrev s__law_operand : Stmt := top 60
abbrev N__law_operand : List Str := ["_law_box", "_law_known_here", "_law_way"]
abbrev P__law_operand : List Str := ["_law_box", "_law_known_here"]
theorem sc__law_operand : FnScope N__law_operand P__law_operand (defScope s__law_operand) := ⟨rfl, rfl, rfl, by decide +kernel, rfl, by decide +kernel, by decide +kernel⟩
def OdIn (ks : List En) : Od → Prop
  | .en e => e ∈ ks
  | .own => True
  | .num n => n < 1000000
structure Op6 (mg : Str → Option Value) : Prop where
  len : mg "len" = none
  min : mg "min" = none
def spOperand (K : PySem.W.Frag) : Sp := fun vs H Q _ => ∃ (a kn : Addr) (m : Nat) (b kv : List V) (ks : List En), vs = [.ref a, .ref kn] ∧ H kn = some (.lst kv) ∧ DpAll K H kv (ks.map En.d) ∧ kn ≠ a ∧ kv.length ≤ 100 ∧ H a = some (.lst b) ∧ BoxL m b ∧ m + 6 < 900000 ∧
  ∀ (H' : Hp) (v : V) (o : Od) (b' : List V), But a H H' → Dp K H' v o.d → OdIn ks o → H' a = some (.lst b') → BoxL (m + 6) b' → Q v H'
theorem atI_neg {α : Type} {xs : List α} {j : Nat} (h : j < xs.length) : atI xs (-1 - (j : Int)) = xs[xs.length - 1 - j]? := by
  unfold atI ixN
  rw [if_neg (by omega), if_pos (by omega)]
  show xs[_]? = _
  congr 1
  omega
section
variable {P : Program} {w : World} {K : PySem.W.Frag} {mg : Str → Option Value} {base : Heap}
theorem ok_operand (T : Op6 mg) (c_law_take : C8.Cal P w K mg base 1 "_law_take" spTake []) (c_law_one_of : C8.Cal P w K mg base 2 "_law_one_of" (spOneOf K) []) (c_law_number : C8.Cal P w K mg base 2 "_law_number" spNumber [])
    (D : Dd K mg "_law_operand" s__law_operand P__law_operand) : C8.Cal P w K mg base 3 "_law_operand" (spOperand K) [] := by
  refine D.cal sc__law_operand (fun vs H Q E h => ?_) (fun f cdv A outer s H vs Q E hr h => ?_)
  · obtain ⟨a, kn, m, b, kv, ks, rfl, _⟩ := h
    rfl
  · obtain ⟨a, kn, m, b, kv, ks, rfl, hkn, hkv, nka, kl, ha, hB, hm, q⟩ := h
    refine ⟨_, (pss_cons (ps_set (i := 2) sc__law_operand.nd rfl (Or.inl rfl) (C8.pe_c c_law_take hr (by decide) (by rfl) (pa_cons (pv 0) (pa_cons pe_int pa_nil))))
        (pss_cons (ps_if (PW.pt (pw_and (pt_cmpR op_lt (pv 2) pe_int (nomark _)) (pw_and1 (pt_cmpR (op_ne0 hr.units) (pv 1) (pe_lst pa_nil) (nomark _)))))
          (pss_one (ps_ret (pe_ifExp (pt_cmpR op_lt (pv 2) pe_int (nomark _)) (pe_ix (r := rIxL K) ix_list (pv 1) (pe_op op_sub (pe_un un_neg pe_int) (C8.pe_c c_law_take hr (by decide) (by rfl) (pa_cons (pv 0) (pa_cons (pe_callB (call_min2 rfl) (by rfl) T.min (by decide +kernel) (pa_cons pe_int (pa_cons (pe_callB call_len_seq (by rfl) T.len PySem.boot_len (pa_cons (pv 1) pa_nil)) pa_nil))) pa_nil)))) (fun _ _ => rfl)) (C8.pe_c c_law_one_of hr (by decide) (by rfl) (pa_cons (pv 0) (pa_cons (pv 1) pa_nil))))))
          pss_nil)
        (pss_one (ps_ret (pe_ifExp (pt_cmpR op_eq (pv 2) pe_int (nomark _)) (pe_tup (pa_cons pe_str pa_nil)) (pe_tup (pa_cons pe_str (pa_cons (C8.pe_c c_law_number hr (by decide) (by rfl) (pa_cons (pv 0) pa_nil)) pa_nil)))))))), ?_⟩
    have pick : ∀ {Z : Hp} {i : Nat} {v : V}, But a H Z → kv[i]? = some v → ∃ e ∈ ks, Dp K Z v e.d := fun {Z i v} t hv => by
      obtain ⟨dd, hdd, hde⟩ := dpAll_at (dpAll_imm (KeepT.but ha t) hkv (immAll_map En.imm ks)) hv
      rw [List.getElem?_map] at hdd
      obtain ⟨e, ee, rfl⟩ : ∃ e, ks[i]? = some e ∧ dd = e.d := by
        cases z : ks[i]? with
        | none => rw [z] at hdd; cases hdd
        | some y => rw [z] at hdd; exact ⟨y, rfl, (Option.some.inj hdd).symm⟩
      exact ⟨e, List.mem_of_getElem? ee, hde⟩
    refine ⟨_, rfl, a, 6, _, b, rfl, ha, hB, by omega, by decide, by decide, fun r b1 r0 r6 hB1 => ?_⟩
    have bt1 : But a H (upd H a (.lst b1)) := But.upd (But.refl a H)
    have hb1 : (upd H a (.lst b1)) a = some (.lst b1) := upd_same
    generalize upd H a (.lst b1) = X at bt1 hb1 ⊢
    have hknX := bt1 _ _ nka hkn
    have fin : ∀ Y : Hp, Same X Y → tIf (tTest (tOp rEq (tVar 2) (tC (.int 4)))) (tTup (tCons (tC (.str "own")) tNil)) (tTup (tCons (tC (.str "number")) (tCons (tCall spNumber [] C8.E0 (tCons (tVar 0) tNil)) tNil))) [some (.ref a), some (.ref kn), some (.int r)] Y Q := fun Y sY => by
      have hY := sY _ _ hb1
      refine ⟨_, rfl, rfl, _, rfl, ?_⟩
      by_cases e4 : (V.int r = V.int 4)
      · refine ifT (decide_eq_true e4) ?_
        refine ⟨by show 1 ≤ sizeLine; decide, fun t nt => ?_⟩
        have st := same_upd (o := .tup [.str "own"]) nt
        exact q _ (.ref t) .own b1 (bt1.trans (But.of (sY.trans st))) (.tup (SqT.of upd_same) (.cons (.str _) .nil)) trivial (st _ _ hY) (hB1.mono (by omega))
      · refine ifF (decide_eq_false e4) ?_
        refine ⟨_, rfl, a, m + 1, b1, rfl, hY, hB1, by omega, fun H' z b2 bt2 hb2 hB2 z0 z6 => ?_⟩
        refine ⟨by show 2 ≤ sizeLine; decide, fun t nt => ?_⟩
        obtain ⟨zn, rfl⟩ := Int.eq_ofNat_of_zero_le z0
        have st := same_upd (o := .tup [.str "number", .int (zn : Nat)]) nt
        exact q _ (.ref t) (.num zn) b2 (((bt1.trans (But.of sY)).trans bt2).trans (But.of st)) (.tup (SqT.of upd_same) (.cons (.str _) (.cons (.int _) .nil))) (show zn < 1000000 by omega) (st _ _ hb2) (hB2.mono (by omega))
    refine ⟨_, rfl, _, _, rfl, rfl, _, rfl, ?_⟩
    by_cases h4 : r < 4
    · refine ifT (decide_eq_true h4) ?_
      refine ⟨_, rfl, by show 0 ≤ sizeLine; decide, fun l0 nl0 => ?_⟩
      have s0 := same_upd (o := .lst []) nl0
      refine ⟨kn, l0, kv, rfl, rfl, s0 _ _ hknX, upd_same, _, rfl, ?_⟩
      by_cases e0 : kv.length = 0
      · refine ifF (by rw [decide_eq_true e0]; rfl) ?_
        exact fin _ s0
      · refine ifT (by rw [decide_eq_false e0]; rfl) ?_
        have hb0 := s0 _ _ hb1
        have bt0 := bt1.trans (But.of (a := a) s0)
        have hkn0 := s0 _ _ hknX
        generalize upd X l0 (.lst []) = Y at hb0 bt0 hkn0 ⊢
        refine ⟨_, rfl, _, _, rfl, rfl, _, rfl, ?_⟩
        by_cases h2 : r < 2
        · refine ifT (decide_eq_true h2) ?_
          refine ⟨_, rfl, 1, rfl, _, rfl, _, rfl, kn, kv, rfl, .inl (SqL.of hkn0), 3, _, rfl, ?_⟩
          obtain ⟨c, c1, c2, ec⟩ : ∃ c : Nat, 1 ≤ c ∧ c ≤ kv.length ∧ (if ((kv.length : Nat) : Int) < 3 then ((kv.length : Nat) : Int) else 3) = (c : Nat) := by
            by_cases z : kv.length < 3
            · exact ⟨kv.length, by omega, by omega, by rw [if_pos (by omega)]⟩
            · exact ⟨3, by omega, by omega, by rw [if_neg (by omega)]; rfl⟩
          rw [ec]
          refine ⟨a, c, m + 1, b1, rfl, hb0, hB1, by omega, by omega, by omega, fun x b2 x0 xc hB2 => ?_⟩
          obtain ⟨xn, rfl⟩ := Int.eq_ofNat_of_zero_le x0
          obtain ⟨v, hv⟩ : ∃ v, kv[kv.length - 1 - xn]? = some v := ⟨kv[kv.length - 1 - xn]'(by omega), List.getElem?_eq_getElem _⟩
          have bt2 : But a Y (upd Y a (.lst b2)) := But.upd (But.refl a Y)
          refine ⟨_, _, rfl, rfl, kn, kv, _, v, rfl, rfl, SqL.of (bt2 _ _ nka hkn0), (atI_neg (by omega)).trans hv, ?_⟩
          obtain ⟨e, he, hd⟩ := pick (bt0.trans bt2) hv
          exact q _ v (.en e) b2 (bt0.trans bt2) hd he upd_same (hB2.mono (by omega))
        · refine ifF (decide_eq_false h2) ?_
          refine ⟨_, rfl, _, rfl, a, kn, m + 1, b1, kv, rfl, hb0, hB1, by omega, SqL.of hkn0, nka, by omega, by omega, fun i v b2 hv hB2 => ?_⟩
          obtain ⟨e, he, hd⟩ := pick (bt0.trans (But.upd (But.refl a Y) (o := .lst b2))) hv
          exact q _ v (.en e) b2 (bt0.trans (But.upd (But.refl a Y))) hd he upd_same (hB2.mono (by omega))
    · refine ifF (decide_eq_false h4) ?_
      exact fin X (Same.refl X)
end
/-! ### dicts of rows -/
theorem merge_out (k : Key) : ∀ (kvs acc : List (Key × V)), k ∉ kvs.map (·.1) → valV (mergeK acc kvs) k = valV acc k
  | [], acc, _ => rfl
  | p :: kvs, acc, h => by
    show valV (mergeK (putK acc p.1 p.2) kvs) k = _
    rw [merge_out k kvs _ fun z => h (List.mem_cons_of_mem _ z), valV_put, if_neg fun z => h (by rw [z]; exact List.mem_cons_self ..)]
theorem merge_in : ∀ (kvs acc : List (Key × V)), (kvs.map (·.1)).Nodup → ∀ p ∈ kvs, valV (mergeK acc kvs) p.1 = some p.2
  | [], _, _, p, h => nomatch h
  | q :: kvs, acc, hn, p, h => by
    rw [List.map_cons, List.nodup_cons] at hn
    show valV (mergeK (putK acc q.1 q.2) kvs) p.1 = _
    rcases List.mem_cons.mp h with rfl | h
    · rw [merge_out p.1 kvs _ hn.1, valV_put, if_pos rfl]
    · exact merge_in kvs _ hn.2 p h
/-- a row of three: a name, and two more -/
structure T3 where
  k : List Nat
  d1 : PyData
  d2 : PyData
def T3.d (t : T3) : PyData := .tuple [strD t.k, t.d1, t.d2]
def T3.r (t : T3) : PyData := .tuple [t.d1, t.d2]
def kS (k : List Nat) : Key := Sum.inr (SX.S k)
theorem kS_inj {a b : List Nat} (h : kS a = kS b) : a = b := SX.S_inj (Sum.inr.inj h)
def Prs (K : PySem.W.Frag) (U : Hp) (ps : List Addr) (ts : List T3) : Prop := Paired (fun p t => ∃ v, SqT K U p [.str (SX.S t.k), v] ∧ Dp K U v t.r) ps ts
theorem Prs.kvs {K : PySem.W.Frag} {U : Hp} : ∀ {ps : List Addr} {ts : List T3}, Prs K U ps ts → ∃ kvs : List (Key × V), Paired (fun p kv => SqT K U p [kV kv.1, kv.2]) ps kvs ∧ kvs.map (·.1) = ts.map (fun t => kS t.k) ∧ ∀ t ∈ ts, ∃ v, (kS t.k, v) ∈ kvs ∧ Dp K U v t.r
  | _, _, .nil => ⟨[], .nil, rfl, fun t h => nomatch h⟩
  | _, _, .cons (b := t0) ⟨v, h1, h2⟩ r => by
    obtain ⟨kvs, q1, q2, q3⟩ := Prs.kvs r
    refine ⟨(kS t0.k, v) :: kvs, .cons h1 q1, by rw [List.map_cons, List.map_cons, q2], fun t ht => ?_⟩
    rcases List.mem_cons.mp ht with rfl | ht
    · exact ⟨v, List.mem_cons_self .., h2⟩
    · obtain ⟨v', h3, h4⟩ := q3 t ht
      exact ⟨v', List.mem_cons_of_mem _ h3, h4⟩
theorem paired_snoc {α β : Type} {R : α → β → Prop} : ∀ {xs : List α} {ys : List β} {x : α} {y : β}, Paired R xs ys → R x y → Paired R (xs ++ [x]) (ys ++ [y])
  | _, _, _, _, .nil, h => .cons h .nil
  | _, _, _, _, .cons a r, h => .cons a (paired_snoc r h)
theorem paired_mono {α β : Type} {R S : α → β → Prop} (f : ∀ a b, R a b → S a b) : ∀ {xs : List α} {ys : List β}, Paired R xs ys → Paired S xs ys
  | _, _, .nil => .nil
  | _, _, .cons a r => .cons (f _ _ a) (paired_mono f r)
theorem paired_len {α β : Type} {R : α → β → Prop} : ∀ {xs : List α} {ys : List β}, Paired R xs ys → xs.length = ys.length
  | _, _, .nil => rfl
  | _, _, .cons _ r => by rw [List.length_cons, List.length_cons, paired_len r]
theorem t3_at {K : PySem.W.Frag} {H : Hp} {v : V} {t : T3} (h : Dp K H v t.d) : ∃ q v1 v2, v = .ref q ∧ SqT K H q [.str (SX.S t.k), v1, v2] ∧ Dp K H v1 t.d1 ∧ Dp K H v2 t.d2 := by
  cases h with
  | tup hS hA =>
    cases hA with
    | cons a1 hA =>
      cases hA with
      | cons a2 hA =>
        cases hA with
        | cons a3 hA =>
          cases hA
          cases a1
          exact ⟨_, _, _, rfl, hS, a2, a3⟩
theorem prs_keep {K : PySem.W.Frag} {U U' : Hp} (k : KeepT U U') {ps : List Addr} {ts : List T3} (hi : ∀ t ∈ ts, imm t.r = true) (h : Prs K U ps ts) : Prs K U' ps ts := by
  unfold Prs at *
  induction h with
  | nil => exact .nil
  | cons a r ih =>
    obtain ⟨v, h1, h2⟩ := a
    exact .cons ⟨v, k.seqT h1, dp_imm k h2 (hi _ (List.mem_cons_self ..))⟩ (ih fun t ht => hi t (List.mem_cons_of_mem _ ht))
/-- [(row[0], row[1:]) for row in rows] -/
theorem lc_of {K : PySem.W.Frag} {L D : Addr} {vs : List V} {ts : List T3} {x0 x1 x2 x3 x4 x5 x6 x7 x8 x9 x10 x11 : Option V} {Y : Hp} {Qd : Hp → Prop} (hL : Y L = some (.lst vs)) (hv : DpAll K Y vs (ts.map T3.d)) (hi : ∀ t ∈ ts, imm t.r = true) (hl : ts.length ≤ 100) (nD : Y D = none)
    (hd : ∀ (U : Hp) (ps : List Addr), Same Y U → U D = some (.lst (ps.map V.ref)) → Prs K U ps ts → Qd U) :
    ∃ W : Nat → Nat → Hp → Prop, (∃ m, W 0 m (upd Y D (.lst []))) ∧ ∀ i m H, W i m H →
      ((Itl K L).stop i H ∧ Qd H) ∨ ((Itl K L).go i H ∧ ∃ Nx : Hp → Prop, (∀ H', Nx H' → ∃ m', m' < m ∧ W (i + 1) m' H') ∧ ∀ x H', (Itl K L).yld i H x H' → gName 10 x (wipe [x0, x1, x2, x3, x4, x5, x6, x7, x8, x9, x10, x11] [10]) H' fun σ2 H2 => wipe σ2 [10] = wipe [x0, x1, x2, x3, x4, x5, x6, x7, x8, x9, x10, x11] [10] ∧ tYes σ2 H2 fun b H3 =>
        if b = true then tTup (tCons (tOp (rIxT K) (tVar 10) (tC (V.int 0))) (tCons (tSl (rSlAny K) (tVar 10) (tPart (tC (V.int 1))) tNoPart) tNil)) σ2 H3 fun y H4 => ∃ acc, H4 D = some (.lst acc) ∧ acc.length < sizeLine ∧ Nx (upd H4 D (.lst (acc ++ [y]))) else Nx H3) := by
  have lv := dpAll_len hv
  rw [List.length_map] at lv
  refine lc_list (K := K) (a := L) (xs := vs) (fun j U => Same Y U ∧ ∃ ps : List Addr, U D = some (.lst (ps.map V.ref)) ∧ Prs K U ps (ts.take j)) ⟨same_upd nD, [], upd_same, .nil⟩ (fun j U _ h => SqL.of (h.1 _ _ hL)) ?_ ?_
  · rintro j x U hx ⟨sU, ps, hD, hp⟩
    obtain ⟨dd, hdd, hxd⟩ := dpAll_at hv hx
    rw [List.getElem?_map] at hdd
    obtain ⟨t, ht, rfl⟩ : ∃ t, ts[j]? = some t ∧ dd = t.d := by
      cases h : ts[j]? with
      | none => rw [h] at hdd; cases hdd
      | some e => rw [h] at hdd; exact ⟨e, rfl, (Option.some.inj hdd).symm⟩
    have hj : j < ts.length := (List.getElem?_eq_some_iff.mp ht).1
    have tk : ts.take (j + 1) = ts.take j ++ [t] := by rw [List.take_add_one, ht]; rfl
    have lp := paired_len hp
    rw [List.length_take] at lp
    obtain ⟨q, v1, v2, rfl, hq, h1, h2⟩ := t3_at (dp_same sU hxd)
    refine ⟨rfl, yesT ?_⟩
    refine ⟨_, rfl, q, _, 0, .str (SX.S t.k), rfl, rfl, hq, atI_nat (j := 0) rfl, _, rfl, 1, rfl, q, _, rfl, hq, fun U2 t2 s2 ht2 => ?_⟩
    have ht2 : SqT K U2 t2 [v1, v2] := ht2
    refine ⟨by show 2 ≤ sizeLine; decide, fun p3 n3 => ?_⟩
    have s3 := same_upd (o := .tup [.str (SX.S t.k), .ref t2]) n3
    have s23 := s2.trans s3
    have hD3 := s23 _ _ hD
    refine ⟨_, hD3, small1000 (by rw [List.length_map]; omega), ?_, ps ++ [p3], ?_, ?_⟩
    · exact Same.at_ (sU.trans s23) nD
    · rw [List.map_append]
      exact upd_same
    · rw [tk]
      have kk : KeepT (upd U2 p3 (.tup [.str (SX.S t.k), .ref t2])) (upd (upd U2 p3 (.tup [.str (SX.S t.k), .ref t2])) D (.lst (ps.map V.ref ++ [.ref p3]))) := KeepT.at_ hD3 lst_no
      have hit := hi t (List.mem_of_getElem? ht)
      have dv : Dp K U2 (.ref t2) t.r := .tup ht2 (.cons (dp_same s2 h1) (.cons (dp_same s2 h2) .nil))
      exact paired_snoc (prs_keep ((KeepT.of s23).trans kk) (fun t h => hi t (List.mem_of_mem_take h)) hp) ⟨.ref t2, kk.seqT (SqT.of upd_same), dp_imm ((KeepT.of s3).trans kk) dv hit⟩
  · rintro U ⟨sU, ps, hD, hp⟩
    rw [lv, List.take_length] at hp
    exact hd U ps sU hD hp
/-! ### a grammar on the heap, while it is drawn -/
theorem merge_keys : ∀ (kvs acc : List (Key × V)), ((acc ++ kvs).map (·.1)).Nodup → (mergeK acc kvs).map (·.1) = (acc ++ kvs).map (·.1)
  | [], acc, _ => by
    rw [List.append_nil]
    rfl
  | p :: kvs, acc, h => by
    show (mergeK (putK acc p.1 p.2) kvs).map (·.1) = _
    have e : putK acc p.1 p.2 = acc ++ [p] := by
      unfold putK
      rw [if_neg]
      intro z
      obtain ⟨x, hx, ex⟩ := List.any_eq_true.mp z
      rw [List.map_append, List.map_cons] at h
      exact (List.nodup_append.mp h).2.2 x.1 (List.mem_map_of_mem hx) p.1 (List.mem_cons_self ..) (of_decide_eq_true ex)
    rw [e, merge_keys kvs (acc ++ [p]) (by rw [List.append_assoc]; exact h), List.append_assoc]
    rfl
structure Gs (K : PySem.W.Frag) (H Y : Hp) (a gd ls lm lr of : Addr) (rs : List SRow) (ms : List MRow) (ru : List RRow) (roof : Nat) (kvs : List (Key × V)) : Prop where
  bt : But a H Y
  hgd : Y gd = some (.dK kvs)
  nH : H gd = none
  cap : valV kvs (Sum.inr "cap") = some (.int (roof : Nat))
  so : valV kvs (Sum.inr "sorts") = some (.ref ls)
  mak : valV kvs (Sum.inr "makings") = some (.ref lm)
  rl : valV kvs (Sum.inr "rules") = some (.ref lr)
  ofv : valV kvs (Sum.inr "of") = some (.ref of)
  hls : ∃ sv, Y ls = some (.lst sv) ∧ DpAll K Y sv (rs.map SRow.d)
  hlm : ∃ mv, Y lm = some (.lst mv) ∧ DpAll K Y mv (ms.map MRow.d)
  hlr : ∃ rv, Y lr = some (.lst rv) ∧ DpAll K Y rv (ru.map RRow.d)
  hof : ∃ ofk, Y of = some (.dK ofk) ∧ ofk.map (·.1) = rs.map (fun r => kS r.nm) ∧ ∀ r ∈ rs, ∃ v, valV ofk (kS r.nm) = some v ∧ Dp K Y v (.tuple [.tuple (r.dn.map strD), .tuple (r.up.map strD)])
  n1 : ls ≠ a
  n2 : lm ≠ a
  n3 : lr ≠ a
  n4 : of ≠ gd
theorem up_imm (r : SRow) : imm (.tuple [.tuple (r.dn.map strD), .tuple (r.up.map strD)]) = true := by
  show (immAll (r.dn.map strD) && (immAll (r.up.map strD) && true)) = true
  rw [immAll_map strD_imm, immAll_map strD_imm]
  rfl
theorem Gs.go {K : PySem.W.Frag} {H Y Z : Hp} {a gd ls lm lr of : Addr} {rs : List SRow} {ms : List MRow} {ru : List RRow} {roof : Nat} {kvs : List (Key × V)} {b : List V} (h : Gs K H Y a gd ls lm lr of rs ms ru roof kvs) (hb : Y a = some (.lst b)) (t : But a Y Z) : Gs K H Z a gd ls lm lr of rs ms ru roof kvs := by
  have k := KeepT.but hb t
  have nd : ∀ {d : Addr} {kv : List (Key × V)}, Y d = some (.dK kv) → d ≠ a := fun {d kv} h z => by
    rw [z, hb] at h
    cases h
  obtain ⟨sv, l1, l2⟩ := h.hls
  obtain ⟨mv, m1, m2⟩ := h.hlm
  obtain ⟨rv, r1, r2⟩ := h.hlr
  obtain ⟨ofk, o1, oks, o2⟩ := h.hof
  exact ⟨h.bt.trans t, t _ _ (nd h.hgd) h.hgd, h.nH, h.cap, h.so, h.mak, h.rl, h.ofv, ⟨sv, t _ _ h.n1 l1, dpAll_imm k l2 (immAll_map SRow.imm rs)⟩, ⟨mv, t _ _ h.n2 m1, dpAll_imm k m2 (immAll_map MRow.imm ms)⟩, ⟨rv, t _ _ h.n3 r1, dpAll_imm k r2 (immAll_map RRow.imm ru)⟩, ⟨ofk, t _ _ (nd o1) o1, oks, fun r hr => by
    obtain ⟨v, h1, h2⟩ := o2 r hr
    exact ⟨v, h1, dp_imm k h2 (up_imm r)⟩⟩, h.n1, h.n2, h.n3, h.n4⟩
/-- g[..] = .. -/
theorem Gs.set {K : PySem.W.Frag} {H Y : Hp} {a gd ls lm lr of lm' lr' : Addr} {rs : List SRow} {ms ms' : List MRow} {ru ru' : List RRow} {roof : Nat} {kvs kvs' : List (Key × V)} (h : Gs K H Y a gd ls lm lr of rs ms ru roof kvs)
    (hlm : ∃ mv, Y lm' = some (.lst mv) ∧ DpAll K Y mv (ms'.map MRow.d)) (n2 : lm' ≠ a) (hlr : ∃ rv, Y lr' = some (.lst rv) ∧ DpAll K Y rv (ru'.map RRow.d)) (n3 : lr' ≠ a)
    (cap : valV kvs' (Sum.inr "cap") = some (.int (roof : Nat))) (so : valV kvs' (Sum.inr "sorts") = some (.ref ls)) (mak : valV kvs' (Sum.inr "makings") = some (.ref lm')) (rl : valV kvs' (Sum.inr "rules") = some (.ref lr')) (ofv : valV kvs' (Sum.inr "of") = some (.ref of)) :
    Gs K H (upd Y gd (.dK kvs')) a gd ls lm' lr' of rs ms' ru' roof kvs' := by
  have k : KeepT Y (upd Y gd (.dK kvs')) := KeepT.at_ h.hgd dK_no
  have nl : ∀ {d : Addr} {xs : List V}, Y d = some (.lst xs) → d ≠ gd := fun {d xs} h' z => by
    rw [z, h.hgd] at h'
    cases h'
  obtain ⟨sv, l1, l2⟩ := h.hls
  obtain ⟨mv, m1, m2⟩ := hlm
  obtain ⟨rv, r1, r2⟩ := hlr
  obtain ⟨ofk, o1, oks, o2⟩ := h.hof
  refine ⟨fun c o nc hc => ?_, upd_same, h.nH, cap, so, mak, rl, ofv, ⟨sv, ?_, dpAll_imm k l2 (immAll_map SRow.imm rs)⟩, ⟨mv, ?_, dpAll_imm k m2 (immAll_map MRow.imm ms')⟩, ⟨rv, ?_, dpAll_imm k r2 (immAll_map RRow.imm ru')⟩, ⟨ofk, ?_, oks, fun r hr => ?_⟩, h.n1, n2, n3, h.n4⟩
  · rw [upd_ne (ne_of_none hc h.nH)]
    exact h.bt c o nc hc
  · rw [upd_ne (nl l1)]; exact l1
  · rw [upd_ne (nl m1)]; exact m1
  · rw [upd_ne (nl r1)]; exact r1
  · rw [upd_ne h.n4]; exact o1
  · obtain ⟨v, h1, h2⟩ := o2 r hr
    exact ⟨v, h1, dp_imm k h2 (up_imm r)⟩
/-- the phases -/
def Ph (Y : Hp) (a ph : Addr) (rs : List SRow) (phs : List Nat → List (List Nat)) : Prop := ∃ phk, Y ph = some (.dK phk) ∧ ∀ r ∈ rs, ∃ pl, valV phk (Sum.inr (SX.S r.nm)) = some (.ref pl) ∧ pl ≠ a ∧ Y pl = some (.lst (nmV (phs r.nm))) ∧ (phs r.nm).Perm (r.dn ++ r.up)
theorem Ph.go {Y Z : Hp} {a ph : Addr} {rs : List SRow} {phs : List Nat → List (List Nat)} {b : List V} (h : Ph Y a ph rs phs) (hb : Y a = some (.lst b)) (t : But a Y Z) : Ph Z a ph rs phs := by
  obtain ⟨phk, p1, p2⟩ := h
  refine ⟨phk, t _ _ (fun z => by rw [z, hb] at p1; cases p1) p1, fun r hr => ?_⟩
  obtain ⟨pl, h1, h2, h3, h4⟩ := p2 r hr
  exact ⟨pl, h1, h2, t _ _ h2 h3, h4⟩
theorem Ph.set {Y : Hp} {a ph gd : Addr} {rs : List SRow} {phs : List Nat → List (List Nat)} {kvs kvs' : List (Key × V)} (h : Ph Y a ph rs phs) (hg : Y gd = some (.dK kvs)) (n : ph ≠ gd) : Ph (upd Y gd (.dK kvs')) a ph rs phs := by
  obtain ⟨phk, p1, p2⟩ := h
  refine ⟨phk, by rw [upd_ne n]; exact p1, fun r hr => ?_⟩
  obtain ⟨pl, h1, h2, h3, h4⟩ := p2 r hr
  exact ⟨pl, h1, h2, by rw [upd_ne (fun z => by rw [z, hg] at h3; cases h3)]; exact h3, h4⟩
def sT (r : SRow) : T3 := ⟨r.nm, .tuple (r.dn.map strD), .tuple (r.up.map strD)⟩
def mT (r : MRow) : T3 := ⟨r.nm, strD r.so, .tuple (r.pt.map strD)⟩
theorem sT_d (rs : List SRow) : rs.map SRow.d = (rs.map sT).map T3.d := by
  rw [List.map_map]
  rfl
theorem mT_d (ms : List MRow) : ms.map MRow.d = (ms.map mT).map T3.d := by
  rw [List.map_map]
  rfl
/-- the rules of all makings -/
inductive RuAll (rs : List SRow) (roof : Nat) : List MRow → List RRow → Prop
  | nil : RuAll rs roof [] []
  | snoc {ms : List MRow} {ru pr : List RRow} {mr : MRow} {ks : List (List Nat)} : RuAll rs roof ms ru → RulesOk rs mr roof ks pr → RuAll rs roof (ms ++ [mr]) (ru ++ pr)
structure GramOk (rs : List SRow) (ms : List MRow) (ru : List RRow) (roof : Nat) : Prop where
  so : SortsOk rs
  s1 : 1 ≤ rs.length
  nd : (ms.map MRow.nm).Nodup
  ok : ∀ m ∈ ms, MOk rs m
  m8 : ms.length ≤ 8
  m1 : rs.length ≤ ms.length
  ru : RuAll rs roof ms ru
  rf : roof ≤ 9
structure GramIn (K : PySem.W.Frag) (Y : Hp) (a gd : Addr) (rs : List SRow) (ms : List MRow) (ru : List RRow) (roof : Nat) : Prop where
  ex : ∃ ls lm lr of kvs, Gs K (fun _ => none) Y a gd ls lm lr of rs ms ru roof kvs ∧ ∃ by_ byk, valV kvs (Sum.inr "by") = some (.ref by_) ∧ by_ ≠ gd ∧ Y by_ = some (.dK byk) ∧ byk.map (·.1) = ms.map (fun m => kS m.nm) ∧ ∀ m ∈ ms, ∃ v, valV byk (kS m.nm) = some v ∧ Dp K Y v (.tuple [strD m.so, .tuple (m.pt.map strD)])
/-- [(row[0], row[1:]) for row in rows] -/
theorem lc_of9 {K : PySem.W.Frag} {L D : Addr} {vs : List V} {ts : List T3} {x0 x1 x2 x3 x4 x5 x6 x7 x8 x9 x10 x11 : Option V} {Y : Hp} {Qd : Hp → Prop} (hL : Y L = some (.lst vs)) (hv : DpAll K Y vs (ts.map T3.d)) (hi : ∀ t ∈ ts, imm t.r = true) (hl : ts.length ≤ 100) (nD : Y D = none)
    (hd : ∀ (U : Hp) (ps : List Addr), Same Y U → U D = some (.lst (ps.map V.ref)) → Prs K U ps ts → Qd U) :
    ∃ W : Nat → Nat → Hp → Prop, (∃ m, W 0 m (upd Y D (.lst []))) ∧ ∀ i m H, W i m H →
      ((Itl K L).stop i H ∧ Qd H) ∨ ((Itl K L).go i H ∧ ∃ Nx : Hp → Prop, (∀ H', Nx H' → ∃ m', m' < m ∧ W (i + 1) m' H') ∧ ∀ x H', (Itl K L).yld i H x H' → gName 9 x (wipe [x0, x1, x2, x3, x4, x5, x6, x7, x8, x9, x10, x11] [9]) H' fun σ2 H2 => wipe σ2 [9] = wipe [x0, x1, x2, x3, x4, x5, x6, x7, x8, x9, x10, x11] [9] ∧ tYes σ2 H2 fun b H3 =>
        if b = true then tTup (tCons (tOp (rIxT K) (tVar 9) (tC (V.int 0))) (tCons (tSl (rSlAny K) (tVar 9) (tPart (tC (V.int 1))) tNoPart) tNil)) σ2 H3 fun y H4 => ∃ acc, H4 D = some (.lst acc) ∧ acc.length < sizeLine ∧ Nx (upd H4 D (.lst (acc ++ [y]))) else Nx H3) := by
  have lv := dpAll_len hv
  rw [List.length_map] at lv
  refine lc_list (K := K) (a := L) (xs := vs) (fun j U => Same Y U ∧ ∃ ps : List Addr, U D = some (.lst (ps.map V.ref)) ∧ Prs K U ps (ts.take j)) ⟨same_upd nD, [], upd_same, .nil⟩ (fun j U _ h => SqL.of (h.1 _ _ hL)) ?_ ?_
  · rintro j x U hx ⟨sU, ps, hD, hp⟩
    obtain ⟨dd, hdd, hxd⟩ := dpAll_at hv hx
    rw [List.getElem?_map] at hdd
    obtain ⟨t, ht, rfl⟩ : ∃ t, ts[j]? = some t ∧ dd = t.d := by
      cases h : ts[j]? with
      | none => rw [h] at hdd; cases hdd
      | some e => rw [h] at hdd; exact ⟨e, rfl, (Option.some.inj hdd).symm⟩
    have hj : j < ts.length := (List.getElem?_eq_some_iff.mp ht).1
    have tk : ts.take (j + 1) = ts.take j ++ [t] := by rw [List.take_add_one, ht]; rfl
    have lp := paired_len hp
    rw [List.length_take] at lp
    obtain ⟨q, v1, v2, rfl, hq, h1, h2⟩ := t3_at (dp_same sU hxd)
    refine ⟨rfl, yesT ?_⟩
    refine ⟨_, rfl, q, _, 0, .str (SX.S t.k), rfl, rfl, hq, atI_nat (j := 0) rfl, _, rfl, 1, rfl, q, _, rfl, hq, fun U2 t2 s2 ht2 => ?_⟩
    have ht2 : SqT K U2 t2 [v1, v2] := ht2
    refine ⟨by show 2 ≤ sizeLine; decide, fun p3 n3 => ?_⟩
    have s3 := same_upd (o := .tup [.str (SX.S t.k), .ref t2]) n3
    have s23 := s2.trans s3
    have hD3 := s23 _ _ hD
    refine ⟨_, hD3, small1000 (by rw [List.length_map]; omega), ?_, ps ++ [p3], ?_, ?_⟩
    · exact Same.at_ (sU.trans s23) nD
    · rw [List.map_append]
      exact upd_same
    · rw [tk]
      have kk : KeepT (upd U2 p3 (.tup [.str (SX.S t.k), .ref t2])) (upd (upd U2 p3 (.tup [.str (SX.S t.k), .ref t2])) D (.lst (ps.map V.ref ++ [.ref p3]))) := KeepT.at_ hD3 lst_no
      have hit := hi t (List.mem_of_getElem? ht)
      have dv : Dp K U2 (.ref t2) t.r := .tup ht2 (.cons (dp_same s2 h1) (.cons (dp_same s2 h2) .nil))
      exact paired_snoc (prs_keep ((KeepT.of s23).trans kk) (fun t h => hi t (List.mem_of_mem_take h)) hp) ⟨.ref t2, kk.seqT (SqT.of upd_same), dp_imm ((KeepT.of s3).trans kk) dv hit⟩
  · rintro U ⟨sU, ps, hD, hp⟩
    rw [lv, List.take_length] at hp
    exact hd U ps sU hD hp
/-! ### enumerate of a tuple -/
def tupIt (l : Addr) : Obj := { cls := .type "tuple_iterator", data := .fields #[.ref l, .int 0 0] }
def enumAt (it : Addr) : Obj := { cls := .type "enumerate", data := .fields #[.none, .bool false, .ref it, rawInt 0, .none, .none] }
set_option maxRecDepth 100000 in
set_option maxHeartbeats 1000000 in
theorem meets_enumT (l : Addr) (items : Array Value) (n : Nat) (dct : Option Addr) (sl : Array (Option Value)) :
    Meets (Builtin.«enumerate.__new__» ⟨[.type "enumerate", .ref l], []⟩) (fun _ R s => s.heap.get? l = some { cls := .type "tuple", dict := dct, data := .seq items n, slots := sl } ∧
      R (.ok (.ret (.ref (s.heap.push (tupIt l)).objs.size))) { s with heap := (s.heap.push (tupIt l)).push (enumAt s.heap.objs.size) }) :=
  .of_wp fun prog w A R s h => by
    obtain ⟨hp, g, d, tk, os⟩ := s
    obtain ⟨hl, h⟩ := h
    have hsub := sub_enumerate
    have hL : Heap.IsTuple (Shared.heap ⟨hp, g, d, tk, os⟩) l items := ⟨_, hl, rfl, n, rfl⟩
    wp_walk using AutoSeq1.wpAny_loadPart' hl
    refine wpAny_stack_any fun st => wpAny_pure ?_
    split
    · rename_i c _ _ _ _ _
      cases (c == Value.type "enumerate")
      · wp_walk using AutoSeq1.wpAny_loadPart' hl, wpAny_pyIter_tuple hL
        exact ⟨_, rfl, h⟩
      · wp_walk using AutoSeq1.wpAny_loadPart' hl, wpAny_pyIter_tuple hL
        exact ⟨_, rfl, h⟩
    · wp_walk using AutoSeq1.wpAny_loadPart' hl, wpAny_pyIter_tuple hL
      exact ⟨_, rfl, h⟩
theorem call_enumT {prog : Program} {w : World} {A : Around} {E : Value → Shared → Prop} {s : Shared} {l : Addr} {items : Array Value} {Q : Value → Shared → Prop} (hL : s.heap.IsTuple l items)
    (h : ∀ h', IsEnum h' (s.heap.objs.size + 1) s.heap.objs.size 0 .none → h'.IsTupleIter s.heap.objs.size l 0 → (∀ b o, s.heap.get? b = some o → h'.get? b = some o) → Q (.ref (s.heap.objs.size + 1)) { s with heap := h' }) :
    wpAny (model prog w) A (call (.type "enumerate") [.ref l]) Q E s := by
  obtain ⟨⟨c, dct, dt, sl⟩, hl, hc, n, hd⟩ := hL
  replace hc : c = .type "tuple" := hc
  replace hd : dt = .seq items n := hd
  subst hc hd
  refine callType_new F.called_enumerate (by decide) (F.typeCall_enumerate_1 _) (F.newCall_enumerate_1 _) (fun obj => F.args_object_init_2 obj _) F.entry_enumerate_new (meets_enumT l items n dct sl) ⟨hl, ?_⟩
  have hz : (s.heap.push (tupIt l)).objs.size = s.heap.objs.size + 1 := Heap.size_push ..
  show _ ∧ _
  rw [hz]
  have he : IsEnum ((s.heap.push (tupIt l)).push (enumAt s.heap.objs.size)) (s.heap.objs.size + 1) s.heap.objs.size 0 .none := by
    have := Heap.get?_push_size (s.heap.push (tupIt l)) (o := enumAt s.heap.objs.size) rfl
    rw [hz] at this
    exact this
  exact ⟨⟨_, he, rfl⟩, h _ he ⟨_, Heap.get?_push_of_some _ (Heap.get?_push_size _ rfl), rfl, rfl⟩ fun b o x => Heap.get?_push_of_some _ (Heap.get?_push_of_some _ x)⟩
/-- the tuple at a, each item in a new pair -/
def IteT (K : PySem.W.Frag) (a : Addr) : It :=
  ⟨fun i H => ∃ (xs : List V) (x : V), SqT K H a xs ∧ xs[i]? = some x, fun i H v H' => ∃ T x, v = .ref T ∧ H T = none ∧ H' = upd H T (.tup [.int (i : Nat), x]) ∧ ∀ xs, SqT K H a xs → xs[i]? = some x, fun i H => ∃ xs : List V, SqT K H a xs ∧ xs.length ≤ i⟩
theorem turn_enumT {P : Program} {w : World} {K : PySem.W.Frag} {elts : List Expr} {kk : Nat} {tpos : Pos} (a e it : Addr) (hai : a ≠ it) (hea : e ≠ a) :
    Turn P w K (.Tuple elts kk tpos) (IteT K a) [e, it] e (fun i h => (∃ old, IsEnum h e it ((i : Nat) : Int) old) ∧ h.IsTupleIter it a i ∧ e ≠ it) where
  mem := by simp
  obj := fun i h st b hb => by
    obtain ⟨⟨old, he⟩, ⟨o, ho, hc, hd⟩, _⟩ := st
    have e' : b = e ∨ b = it := by simpa using hb
    rcases e' with z | z
    · rw [z]; exact ⟨_, he, fun v q => nomatch q⟩
    · rw [z]; exact ⟨o, ho, fun v q => by rw [hd] at q; cases q⟩
  keep := fun i h h' st k => let ⟨⟨old, he⟩, hi, hne⟩ := st; ⟨⟨old, k e (by simp) _ he⟩, hi.at fun o q => k it (by simp) o q, hne⟩
  item := by
    intro X hP hw hK hc i pins s σ H E I hf st hg
    subst hP hw hK
    obtain ⟨⟨old, he⟩, hit, hne⟩ := st
    obtain ⟨xs, x, hq, hx⟩ := hg
    obtain ⟨its, rv, p, hz⟩ := I.tuple hq
    obtain ⟨u, hu, ru⟩ := rv.get hx
    have hel : e < s.heap.objs.size := Heap.lt_size he
    have hil : it < s.heap.objs.size := by obtain ⟨_, q, _⟩ := hit; exact Heap.lt_size q
    have hlt : i < its.toArray.size := by
      have := (List.getElem?_eq_some_iff.mp hu).1
      simpa using this
    refine wpAny_pyNext_enum_itemD (Draws.tuple (A := X.A.in1) (I.ok.hd hc) it a hai its.toArray) he ⟨hit, p⟩ hlt hne (by simp [hne, hea]) fun y h' tk hy ho hst hT hsz hk => ?_
    have hyu : y = u := by
      have : its.toArray[i]? = some y := hy
      simp at this
      rw [hu] at this
      exact (Option.some.inj this).symm
    subst hyu
    refine ⟨_, rfl, wpAny_letOwnedTupleGo_enum (s := { s with heap := h', toks := tk + 1 }) ho fun h'' he' sb => ?_⟩
    have hT2 : h''.get? s.heap.objs.size = some { cls := .type "tuple", data := .seq #[.int i tk, y] } := (sb.2 _ (Nat.ne_of_gt hel)).trans hT
    have new : ObjOk X.prog X.w (upd H s.heap.objs.size (.tup [.int (i : Nat), x])) h'' s.heap.objs.size (.tup [.int (i : Nat), x]) :=
      ⟨by show 2 ≤ sizeLine; decide, [.int i tk, y], .cons ⟨_, rfl⟩ (.cons ru .nil), ⟨_, hT2, rfl, _, rfl⟩⟩
    have I1 : Inv X pins σ (upd H s.heap.objs.size (.tup [.int (i : Nat), x])) { s with heap := h'', toks := tk + 1 } :=
      I.turnedNew (ch := [e, it]) (fun b ob hb q => (sb.2 b (fun z => hb (by simp [z]))).trans (hk b ob (fun z => hb (by simp [z])) (fun z => hb (by simp [z])) q)) hf (Nat.le_refl _) new
    refine ⟨.ref s.heap.objs.size, _, I1, rfl, ⟨_, x, rfl, I.hok.fresh (Nat.le_refl _), rfl, fun ys hy => by rw [I.tuple_inj hy hq]; exact hx⟩, ⟨⟨y, ?_⟩, hst.1.at fun o q => (sb.2 it (Ne.symm hne)).trans q, hne⟩, fun b hb => ?_⟩
    · have e1 : ((i + 1 : Nat) : Int) = (i : Int) + 1 := by omega
      rw [e1]
      exact he'
    · have hb' : b < s.heap.objs.size := by
        have e' : b = e ∨ b = it := by simpa using hb
        rcases e' with z | z
        · rw [z]; exact hel
        · rw [z]; exact hil
      rw [upd_ne (Nat.ne_of_lt hb')]
      exact (hf b hb).1
  done := by
    intro X hP hw hK hc i pins s σ H E I hf st hg
    subst hP hw hK
    obtain ⟨⟨old, he⟩, hit, hne⟩ := st
    obtain ⟨xs, hq, hx⟩ := hg
    obtain ⟨its, rv, p, hz⟩ := I.tuple hq
    obtain ⟨f0, f1, f2, f3, f4, f5⟩ := hf it (by simp)
    have hl := rv.length
    have D : Draws X.prog X.w X.A.in1 it [it, a] i (fun _ _ => True) (fun j h => j = i ∧ h.IsTupleIter it a j ∧ h.IsTuple a its.toArray) :=
      { live := fun _ _ st => let ⟨o, ho, _⟩ := st.2.1; ⟨o, ho⟩
        frame := fun _ _ _ st hk => ⟨st.1, st.2.1.at fun o e => hk it (by simp) o e, st.2.2.at fun o e => hk a (by simp) o e⟩
        item := fun j s Q E hj st _ => absurd st.1 (Nat.ne_of_lt hj)
        done := fun s Q E st hE => wpAny_nextOf_tuple_end (I.ok.hd hc) st.2.1 st.2.2 (by simp; omega) hE }
    exact wpAny_pyNext_enum_endD D he ⟨rfl, hit, p⟩ fun h' eb => ⟨rfl, I.turned (t' := s.toks) (fun b o hb q => eb b o hb q) f0 f1 f3 f4 f5⟩
  self := fun A i s Q E st h => let ⟨⟨_, he⟩, _⟩ := st; wpAny_pyIter_enum he h
def iEnumT (K : PySem.W.Frag) (ta : TA) : TI := fun σ H R => ta σ H fun vs H1 => ∃ a xs, vs = [.ref a] ∧ SqT K H1 a xs ∧ R (IteT K a) H1
theorem pi_enumT {X : Cx} {e : Expr} {ta : TA} {p pos tpos : Pos} {elts : List Expr} {kk : Nat} (hg : Gl X "enumerate") (hm : X.mg "enumerate" = none) (ha : PA X [e] ta) (hs : starEach [e] X.env = [(false, eval e X.env)] := by rfl) :
    PI X (.Tuple elts kk tpos) (.Call (.Name "enumerate" p) [e] [] pos) (iEnumT X.K ta) := by
  refine ⟨fun pins s σ H R I h => ?_⟩
  refine Call_ (ld_blt I hg hm boot_enumerate (PyProof.Rows.callWith_type1 (thn (ha.run pos pins s σ H _ I h) fun us s1 ⟨vs, H1, I1, r1, q1⟩ => ?_) hs rfl))
  obtain ⟨a, xs, ex, hq, q⟩ := q1
  subst ex
  cases r1 with
  | cons r rr =>
    cases rr
    cases r
    obtain ⟨its, rv, p', hz⟩ := I1.tuple hq
    have hal : a < s1.heap.objs.size := IsTup.lt p'
    refine call_enumT p' fun h' he hit hk => wpAny_pyIter_enum he ?_
    have I2 : Inv X pins σ H1 { s1 with heap := h' } := I1.kept (t' := s1.toks) hk
    refine ⟨s1.heap.objs.size + 1, [s1.heap.objs.size + 1, s1.heap.objs.size], _, _, H1, rfl, I2, turn_enumT a (s1.heap.objs.size + 1) s1.heap.objs.size (Nat.ne_of_lt hal) (Nat.ne_of_gt (Nat.lt_succ_of_lt hal)), ⟨⟨.none, he⟩, hit, Nat.succ_ne_self _⟩, fun b hb => ?_, q⟩
    have e' : b = s1.heap.objs.size + 1 ∨ b = s1.heap.objs.size := by simpa using hb
    have hle : s1.heap.objs.size ≤ b := by
      rcases e' with z | z
      · rw [z]; exact Nat.le_add_right _ _
      · rw [z]; exact Nat.le_refl _
    exact I1.fpOk hle (I1.hok.fresh hle)
theorem walk_enumT {K : PySem.W.Frag} {a : Addr} {xs : List V} : Walk (IteT K a) xs.length (fun H => SqT K H a xs) (YPair (fun i => some (.int (i : Nat))) (fun i => xs[i]?)) := by
  refine ⟨fun i _ hi q => ⟨xs, xs[i], q, by simp [hi]⟩, fun _ q => ⟨xs, q, Nat.le_refl _⟩, fun i H v H' _ q y => ?_⟩
  obtain ⟨T, x, h1, h2, h3, h4⟩ := y
  exact ⟨T, .int (i : Nat), x, h1, h2, h3, rfl, h4 xs q⟩
abbrev s__law_lists : Stmt := top 59
abbrev N__law_lists : List Str := ["_law_sorts", "_law_row", "_law_phases", "_law_extra", "_law_of", "_law_found", "_law_place", "_law_kind", "_law_sets", "_law_one", "_law_worth", "_law_name"]
abbrev P__law_lists : List Str := ["_law_sorts", "_law_row", "_law_phases", "_law_extra"]
theorem sc__law_lists : FnScope N__law_lists P__law_lists (defScope s__law_lists) := ⟨rfl, rfl, rfl, by decide +kernel, rfl, by decide +kernel, by decide +kernel⟩
theorem immAll_of6 : ∀ {ds : List PyData}, (∀ d ∈ ds, Thr.imm d = true) → immAll ds = true
  | [], _ => rfl
  | x :: xs, h => by
    show (Thr.imm x && immAll xs) = true
    rw [h x List.mem_cons_self, immAll_of6 fun d hd => h d (List.mem_cons_of_mem _ hd)]
    rfl
/-- an end, and whether it is set here -/
def prD (x : En × Bool) : PyData := .tuple [x.1.d, .bool x.2]
theorem prD_imm (x : En × Bool) : Thr.imm (prD x) = true := by
  show (Thr.imm x.1.d && (true && true)) = true
  rw [x.1.imm]
  rfl
def isK : En → Bool
  | .sp _ _ => false
  | .kept _ => true
structure PrOk (rs : List SRow) (mr : MRow) (ks : List (List Nat)) (x : En × Bool) : Prop where
  tg : x.2 = true → TgOk rs mr x.1
  fr : x.2 = false ∨ isK x.1 = true → FrOk rs mr x.1
  ks : ∀ w ∈ enName x.1, w ∈ ks
theorem names_dp {K : PySem.W.Frag} {H : Hp} {v : V} {ws : List (List Nat)} (h : Dp K H v (.tuple (ws.map strD))) : ∃ t, v = .ref t ∧ SqT K H t (nmV ws) := by
  cases h with
  | tup h1 h2 =>
    rw [names_of h2] at h1
    exact ⟨_, rfl, h1⟩
/-- a list of lists of ends -/
def InL (K : PySem.W.Frag) (Y H0 : Hp) (L : Addr) (p : Addr) (xs : List (En × Bool)) : Prop := p ≠ L ∧ H0 p = none ∧ ∃ vs, Y p = some (.lst vs) ∧ DpAll K Y vs (xs.map prD)
structure Cl6 (K : PySem.W.Frag) (H : Hp) (a sl ph el : Addr) (rowv : V) (sv : List V) (rs : List SRow) (mr : MRow) (phs : List Nat → List (List Nat)) (ks : List (List Nat)) : Prop where
  sl : H sl = some (.lst sv)
  sv : DpAll K H sv (rs.map SRow.d)
  sok : SortsOk rs
  row : Dp K H rowv mr.d
  so : ∀ k ∈ mr.places, ∃ r ∈ rs, r.nm = k
  p2 : mr.pt.length ≤ 2
  ph : Ph H a ph rs phs
  el : H el = some (.lst (nmV ks))
  kn : ks.Nodup
  kk : ∀ w ∈ ks, KeptOk rs mr w
  k2 : ks.length ≤ 2
structure PsOk (rs : List SRow) (mr : MRow) (ks : List (List Nat)) (pss : List (List (En × Bool))) : Prop where
  ok : ∀ x ∈ pss.flatten, PrOk rs mr ks x
  nd : (pss.flatten.map (·.1)).Nodup
  le : pss.flatten.length ≤ 14
  ln : pss.length ≤ 5
def spLists (K : PySem.W.Frag) : Sp := fun vs H Q _ => ∃ (sl ph el a : Addr) (rowv : V) (sv : List V) (rs : List SRow) (mr : MRow) (phs : List Nat → List (List Nat)) (ks : List (List Nat)), vs = [.ref sl, rowv, .ref ph, .ref el] ∧ Cl6 K H a sl ph el rowv sv rs mr phs ks ∧ (∃ o, H a = some o) ∧
  ∀ (H' : Hp) (L : Addr) (ps : List Addr) (pss : List (List (En × Bool))), Same H H' → H L = none → H' L = some (.lst (ps.map V.ref)) → Paired (InL K H' H L) ps pss → PsOk rs mr ks pss → Q (.ref L) H'
theorem paired_app {α β : Type} {R : α → β → Prop} : ∀ {xs : List α} {ys : List β} {us : List α} {zs : List β}, Paired R xs ys → Paired R us zs → Paired R (xs ++ us) (ys ++ zs)
  | _, _, _, _, .nil, h => h
  | _, _, _, _, .cons a r, h => .cons a (paired_app r h)
structure Lm6 (mg : Str → Option Value) : Prop where
  enumerate : mg "enumerate" = none
  dict : mg "dict" = none
  int : mg "int" = none
section
variable {P : Program} {w : World} {K : PySem.W.Frag} {mg : Str → Option Value} {base : Heap}
theorem ok_lists (T : Lm6 mg) (D : Dd K mg "_law_lists" s__law_lists P__law_lists) : C8.Cal P w K mg base 1 "_law_lists" (spLists K) [] := by
  refine D.cal sc__law_lists (fun vs H Q E h => ?_) (fun f cdv A outer s H vs Q E hr h => ?_)
  · obtain ⟨sl, ph, el, a, rowv, sv, rs, mr, phs, ks, rfl, _⟩ := h
    rfl
  · obtain ⟨sl, ph, el, a, rowv, sv, rs, mr, phs, ks, rfl, cx, ⟨oa, ha⟩, q⟩ := h
    refine ⟨_, (C8.pss_cut (ps_par rfl sc__law_lists.nd (i := 4) (j := 5) rfl rfl (by decide) rfl rfl (pa_cons (pe_callTy (call_dictP rfl) (by rfl) T.dict (by decide +kernel) (pa_cons (pe_lc (own := [("_law_one", 9)]) (by exact rfl) sc__law_lists.nd (pi_list (pv 0)) (blkOk_by (own := [("_law_one", 9)]) (N := N__law_lists) (sc := defScope s__law_lists) (by decide +kernel)) (fun _ _ _ _ _ => (pg_name (i := 9) sc__law_lists.nd rfl (Or.inl rfl))) (fun _ _ _ _ _ => pts_nil) (fun _ _ _ _ _ => (pe_tup (pa_cons (pe_ix (r := rIxT K) ix_tup (pv 9) pe_int (fun _ _ => rfl)) (pa_cons (pe_slice (r := rSlAny K) sl_any (pv 9) (po_some pe_int) po_none) pa_nil))))) pa_nil)) (pa_cons (pe_lst pa_nil) pa_nil)) (by rfl))
        (pss_cons (ps_for PassesOwn.never rfl (pi_enumT (by rfl) T.enumerate (pa_cons (pe_op (r := rCatAny K) op_catAny (pe_tup (pa_cons (pe_ix (r := rIxT K) ix_tup (pv 1) pe_int (fun _ _ => rfl)) pa_nil)) (pe_ix (r := rIxT K) ix_tup (pv 1) pe_int (fun _ _ => rfl))) pa_nil)) (pg_tup rfl (pgs_cons (pg_name (i := 6) sc__law_lists.nd rfl (Or.inr rfl)) (pgs_cons (pg_name (i := 7) sc__law_lists.nd rfl (Or.inl rfl)) pgs_nil)))
          (pss_cons (ps_set (i := 8) sc__law_lists.nd rfl (Or.inr rfl) (pe_ix (r := rIxT K) ix_tup (pe_dget (hu_of hr) (pv 4) (pv 7) (fun _ _ => rfl)) (pe_callTy call_int1 (by rfl) T.int (by decide +kernel) (pa_cons (pe_cmpR op_eq (pv 6) pe_int (nomark _)) pa_nil)) (fun _ _ => rfl)))
        (pss_one (ps_expr (pe_bm PySem.F.plainAttrs_list PySem.F.slot_list_append PySem.F.type_list_append mt_append (pv 5) (pa_cons (pe_lc (own := [("_law_worth", 10)]) (by exact rfl) sc__law_lists.nd (pi_list (pe_dget (hu_of hr) (pv 2) (pv 7) (fun _ _ => rfl))) (blkOk_by (own := [("_law_worth", 10)]) (N := N__law_lists) (sc := defScope s__law_lists) (by decide +kernel)) (fun _ _ _ _ _ => (pg_name (i := 10) sc__law_lists.nd rfl (Or.inl rfl))) (fun _ _ _ _ _ => pts_nil) (fun _ _ _ _ _ => (pe_tup (pa_cons (pe_tup (pa_cons pe_str (pa_cons (pv 6) (pa_cons (pv 10) pa_nil)))) (pa_cons (pe_cmpR (r := rIn K false) op_in_seq (pv 10) (pv 8) (by with_unfolding_all rfl)) pa_nil))))) pa_nil))))))
        (pss_one (ps_ret (pe_op op_cat (pv 5) (pe_lc (own := [("_law_name", 11)]) (by exact rfl) sc__law_lists.nd (pi_list (pv 3)) (blkOk_by (own := [("_law_name", 11)]) (N := N__law_lists) (sc := defScope s__law_lists) (by decide +kernel)) (fun _ _ _ _ _ => (pg_name (i := 11) sc__law_lists.nd rfl (Or.inl rfl))) (fun _ _ _ _ _ => pts_nil) (fun _ _ _ _ _ => (pe_lst (pa_cons (pe_tup (pa_cons (pe_tup (pa_cons pe_str (pa_cons (pv 11) pa_nil))) (pa_cons pe_bl pa_nil))) pa_nil))))))))), ?_⟩
    have ndk : ((rs.map sT).map fun t => kS t.k).Nodup := by
      rw [show ((rs.map sT).map fun t => kS t.k) = (rs.map fun r => r.nm).map kS by rw [List.map_map, List.map_map]; rfl]
      exact List.pairwise_map.mpr (cx.sok.nd.imp fun h z => h (kS_inj z))
    refine ⟨fun σ X => ∃ (of fl : Addr) (ofk : List (Key × V)), σ = [some (.ref sl), some rowv, some (.ref ph), some (.ref el), some (.ref of), some (.ref fl), none, none, none, none, none, none] ∧ Same H X ∧ H fl = none ∧ X fl = some (.lst []) ∧ X of = some (.dK ofk) ∧ (∀ r ∈ rs, ∃ v, valV ofk (kS r.nm) = some v ∧ Dp K X v (.tuple [.tuple (r.dn.map strD), .tuple (r.up.map strD)])), ?_, ?_⟩
    · refine ⟨_, rfl, sl, rfl, ⟨_, SqL.of cx.sl⟩, fun D nD => ?_⟩
      have sle := cx.sok.le
      refine lc_of9 (ts := rs.map sT) cx.sl (by rw [← sT_d]; exact cx.sv) (fun t ht => ?_) (by rw [List.length_map]; omega) nD fun U ps sU hD hp => ?_
      · obtain ⟨r, _, rfl⟩ := List.mem_map.mp ht
        exact up_imm r
      obtain ⟨kvs, k1, k2, k3⟩ := hp.kvs
      refine ⟨D, ps, kvs, rfl, SqL.of hD, k1, fun of nof => ?_⟩
      have g3 := same_upd (o := .dK (mergeK [] kvs)) nof
      refine ⟨by show 0 ≤ sizeLine; decide, fun fl nfl => ⟨_, _, rfl, ?_⟩⟩
      have g4 := same_upd (o := .lst []) nfl
      refine ⟨of, fl, mergeK [] kvs, rfl, (sU.trans g3).trans g4, (sU.trans g3).free nfl, upd_same, g4 _ _ upd_same, fun r hr => ?_⟩
      obtain ⟨v, h1, h2⟩ := k3 (sT r) (List.mem_map_of_mem hr)
      exact ⟨v, merge_in kvs [] (by rw [k2]; exact ndk) _ h1, dp_same (g3.trans g4) h2⟩
    rintro σ X ⟨of, fl, ofk, rfl, sX, nfl, hfl, hof, hov⟩
    obtain ⟨rq, rt, rfl, hr1, hr2⟩ := row_at cx.row
    refine ⟨_, rfl, rq, _, 1, .str (SX.S mr.so), rfl, rfl, Same.seqT sX hr1, atI_nat (j := 1) rfl, by show 1 ≤ sizeLine; decide, fun t1 n1 => ?_⟩
    have g1 := same_upd (o := .tup [.str (SX.S mr.so)]) n1
    refine ⟨_, rfl, rq, _, 2, .ref rt, rfl, rfl, Same.seqT (sX.trans g1) hr1, atI_nat (j := 2) rfl, t1, rt, _, _, rfl, rfl, SqT.of upd_same, Same.seqT (sX.trans g1) hr2, ?_, fun H2 pt s2 hpt => ?_⟩
    · rw [nmV_len]
      have := cx.p2
      exact Nat.le_trans (show _ ≤ 3 from by show 1 + mr.pt.length ≤ 3; omega) (by decide)
    have s12 := (sX.trans g1).trans s2
    have hfl2 := (g1.trans s2) _ _ hfl
    have hof2 := (g1.trans s2) _ _ hof
    have hov2 : ∀ r ∈ rs, ∃ v, valV ofk (kS r.nm) = some v ∧ Dp K H2 v (.tuple [.tuple (r.dn.map strD), .tuple (r.up.map strD)]) := fun r hr => by
      obtain ⟨v, h1, h2⟩ := hov r hr
      exact ⟨v, h1, dp_same (g1.trans s2) h2⟩
    have nfla : fl ≠ a := fun z => by
      rw [z, ha] at nfl
      cases nfl
    have dle : ∀ r ∈ rs, (r.dn ++ r.up).length ≤ 4 := fun r hr => by
      have h1 := (cx.sok.ok r hr).d2
      have h2 := (cx.sok.ok r hr).u2
      rw [List.length_append]
      omega
    have plen : (nmV mr.places).length = mr.places.length := nmV_len _
    have pl3 : mr.places.length ≤ 3 := by
      have := cx.p2
      unfold MRow.places
      rw [List.length_cons]
      omega
    have offfl : ∀ {Y : Hp} {p : Addr}, But fl H Y → Y p = none → H p = none := fun {Y p} t h => by
      cases z : H p with
      | none => rfl
      | some o =>
        by_cases e : p = fl
        · rw [e, nfl] at z
          cases z
        · rw [t _ _ e z] at h
          cases h
    refine ⟨pt, _, rfl, hpt, ?_⟩
    refine for_it (walk_enumT (K := K) (a := pt) (xs := nmV mr.places)) (fun i σ Y => ∃ y6 y7 y8 y9 y10 y11 ps pss, σ = [some (.ref sl), some (.ref rq), some (.ref ph), some (.ref el), some (.ref of), some (.ref fl), y6, y7, y8, y9, y10, y11] ∧ But fl H2 Y ∧ Y fl = some (.lst (ps.map V.ref)) ∧ Paired (InL K Y H fl) ps pss ∧ (∀ x ∈ pss.flatten, PrOk rs mr ks x) ∧ (pss.flatten.map (·.1)).Nodup ∧ (∀ x ∈ pss.flatten, ∃ p w, x.1 = .sp p w ∧ p < i) ∧ pss.flatten.length ≤ 4 * i ∧ pss.length = i)
      ⟨none, none, none, none, none, none, [], [], rfl, But.refl _ _, hfl2, .nil, (fun x h => nomatch h), List.nodup_nil, (fun x h => nomatch h), Nat.le_refl _, rfl⟩ (fun i σ Y _ ⟨_, _, _, _, _, _, _, _, _, t, h, _⟩ => ?_) ?_ ?_
    · exact (KeepT.but hfl2 t).seqT hpt
    · rintro i v σ Y0 Y hi ⟨y6, y7, y8, y9, y10, y11, ps, pss, rfl, btY, hflY, hpp, hok, hnd, hsp, hle, hln⟩ ⟨TT, xx, yy, rfl, nT, rfl, ex, ey⟩
      cases ex
      have hi3 : i < mr.places.length := by rw [nmV_len] at hi; exact hi
      obtain ⟨k, hk⟩ : ∃ k, mr.places[i]? = some k := ⟨mr.places[i]'hi3, List.getElem?_eq_getElem _⟩
      have ey' : yy = .str (SX.S k) := by
        have e2 : (nmV mr.places)[i]? = some yy := ey
        rw [nmV_at hk] at e2
        exact (Option.some.inj e2).symm
      subst ey'
      have sT := same_upd (o := .tup [.int (i : Nat), .str (SX.S k)]) nT
      refine ⟨TT, _, rfl, SqT.of upd_same, rfl, _, _, rfl, _, _, rfl, rfl, ?_⟩
      have btY := btY.trans (But.of (a := fl) sT)
      have hflY := sT _ _ hflY
      generalize upd Y0 TT (.tup [.int (i : Nat), .str (SX.S k)]) = Y at sT btY hflY ⊢
      obtain ⟨r, hr, rfl⟩ := cx.so k (List.mem_of_getElem? hk)
      have rok := cx.sok.ok r hr
      have kY := KeepT.but hfl2 btY
      obtain ⟨v, hv, hvd⟩ := hov2 r hr
      obtain ⟨q2, v1, v2, rfl, hq, hd1, hd2⟩ : ∃ q2 v1 v2, v = .ref q2 ∧ SqT K Y q2 [v1, v2] ∧ Dp K Y v1 (.tuple (r.dn.map strD)) ∧ Dp K Y v2 (.tuple (r.up.map strD)) := by
        have h := dp_imm kY hvd (up_imm r)
        cases h with
        | tup hS hA =>
          cases hA with
          | cons a1 hA =>
            cases hA with
            | cons a2 hA =>
              cases hA
              exact ⟨_, _, _, rfl, hS, a1, a2⟩
      obtain ⟨td, rfl, htd⟩ := names_dp hd1
      obtain ⟨tu, rfl, htu⟩ := names_dp hd2
      have nof : of ≠ fl := fun z => by
        rw [z, hfl2] at hof2
        cases hof2
      obtain ⟨c, hc⟩ : ∃ c : Bool, c = decide (V.int ((i : Nat) : Int) = V.int 0) := ⟨_, rfl⟩
      refine ⟨_, rfl, _, rfl, of, _, rfl, by have h := DGet.k (k := Sum.inr (SX.S r.nm)) (btY _ _ nof hof2); rw [show valV ofk (Sum.inr (SX.S r.nm)) = _ from hv] at h; exact h, ?_⟩
      obtain ⟨tz, sets, hts, hat, hset⟩ : ∃ (tz : Addr) (sets : List (List Nat)), SqT K Y tz (nmV sets) ∧ atI [V.ref td, V.ref tu] (if decide (V.int ((i : Nat) : Int) = V.int 0) = true then 1 else 0) = some (.ref tz) ∧ sets = if decide (i = 0) = true then r.up else r.dn := by
        by_cases z : i = 0
        · refine ⟨tu, r.up, htu, ?_, by rw [decide_eq_true z]; rfl⟩
          rw [decide_eq_true (show V.int ((i : Nat) : Int) = V.int 0 by rw [z]; rfl)]
          exact atI_nat (j := 1) rfl
        · refine ⟨td, r.dn, htd, ?_, by rw [decide_eq_false z]; rfl⟩
          rw [decide_eq_false (show ¬ V.int ((i : Nat) : Int) = V.int 0 from fun y => z (by have := V.int.inj y; omega))]
          exact atI_nat (j := 0) rfl
      obtain ⟨phk, hph, hpk⟩ := cx.ph
      obtain ⟨pl, hpl1, hpl2, hpl3, hpl4⟩ := hpk r hr
      have bHY : But fl H Y := (But.of s12).trans btY
      have nphf : ph ≠ fl := fun z => by
        rw [z, nfl] at hph
        cases hph
      have nplf : pl ≠ fl := fun z => by
        rw [z, nfl] at hpl3
        cases hpl3
      have hplY := bHY _ _ nplf hpl3
      have pll : (phs r.nm).length ≤ 4 := by
        rw [hpl4.length_eq]
        exact dle r hr
      have pnd : (phs r.nm).Nodup := hpl4.nodup_iff.mpr rok.nd
      refine ⟨_, rfl, rfl, .inr ⟨_, rfl, q2, _, _, .ref tz, rfl, rfl, hq, hat, ?_⟩⟩
      refine ⟨_, rfl, .inl ⟨rfl, _, SqL.of hflY⟩, _, rfl, _, rfl, ph, _, rfl, by have h := DGet.k (k := Sum.inr (SX.S r.nm)) (bHY _ _ nphf hph); rw [hpl1] at h; exact h, pl, rfl, ⟨_, SqL.of hplY⟩, fun D nD => ?_⟩
      have nDfl : D ≠ fl := fun z => by
        rw [z, hflY] at nD
        cases nD
      refine lc_list (K := K) (a := pl) (xs := nmV (phs r.nm)) (fun j U => Same Y U ∧ ∃ vs : List V, U D = some (.lst vs) ∧ DpAll K U vs (((phs r.nm).take j).map fun w => prD (En.sp i w, decide (w ∈ sets)))) ⟨same_upd nD, [], upd_same, .nil⟩ (fun j U _ h => SqL.of (h.1 _ _ hplY)) ?_ ?_
      · rintro j x U hx ⟨sU, vs, hD, hvs⟩
        obtain ⟨w, hw, rfl⟩ : ∃ w, (phs r.nm)[j]? = some w ∧ x = .str (SX.S w) := by
          unfold nmV at hx
          rw [List.getElem?_map] at hx
          cases z : (phs r.nm)[j]? with
          | none => rw [z] at hx; cases hx
          | some w => rw [z] at hx; exact ⟨w, rfl, (Option.some.inj hx).symm⟩
        refine ⟨rfl, yesT ?_⟩
        refine ⟨_, rfl, _, rfl, by show 3 ≤ sizeLine; decide, fun t1 n1 => ?_⟩
        have s1 := same_upd (o := .tup [.str "at", .int (i : Nat), .str (SX.S w)]) n1
        refine ⟨_, rfl, _, rfl, tz, nmV sets, rfl, .inr (Same.seqT (sU.trans s1) hts), rfl, flat_names _, ?_⟩
        refine ⟨by show 2 ≤ sizeLine; decide, fun t2 n2 => ?_⟩
        have s2' := same_upd (o := .tup [.ref t1, .bl (inV (.str (SX.S w)) (nmV sets))]) n2
        have hD2 := (s1.trans s2') _ _ hD
        have lv := dpAll_len hvs
        rw [List.length_map, List.length_take] at lv
        have hj : j < (phs r.nm).length := (List.getElem?_eq_some_iff.mp hw).1
        have kk : KeepT (upd (upd U t1 (.tup [.str "at", .int (i : Nat), .str (SX.S w)])) t2 (.tup [.ref t1, .bl (inV (.str (SX.S w)) (nmV sets))])) (upd (upd (upd U t1 (.tup [.str "at", .int (i : Nat), .str (SX.S w)])) t2 (.tup [.ref t1, .bl (inV (.str (SX.S w)) (nmV sets))])) D (.lst (vs ++ [.ref t2]))) := KeepT.at_ hD2 lst_no
        have dn : Dp K (upd (upd U t1 (.tup [.str "at", .int (i : Nat), .str (SX.S w)])) t2 (.tup [.ref t1, .bl (inV (.str (SX.S w)) (nmV sets))])) (.ref t2) (prD (En.sp i w, decide (w ∈ sets))) := by
          refine .tup (SqT.of upd_same) (.cons (.tup (SqT.of (s2' _ _ upd_same)) (.cons (.str _) (.cons (.int _) (.cons (.str _) .nil)))) (.cons ?_ .nil))
          rw [in_names w sets]
          exact .bl _
        refine ⟨vs, hD2, small1000 (by omega), Same.at_ (sU.trans (s1.trans s2')) nD, vs ++ [.ref t2], upd_same, ?_⟩
        rw [List.take_add_one, hw, List.map_append]
        exact dpAll_appI (dpAll_imm ((KeepT.of (s1.trans s2')).trans kk) hvs (immAll_of6 fun d hd => by
          obtain ⟨w, _, rfl⟩ := List.mem_map.mp hd
          exact prD_imm _)) (.cons (dp_imm kk dn (prD_imm _)) .nil)
      · rintro U ⟨sU, vs, hD, hvs⟩
        rw [nmV_len, List.take_length] at hvs
        have hflU := sU _ _ hflY
        refine ⟨fl, ps.map V.ref, .ref D, rfl, rfl, hflU, by rw [List.length_map, paired_len hpp, hln]; exact small1000 (by omega), ?_⟩
        have kk : KeepT U (upd U fl (.lst (ps.map V.ref ++ [.ref D]))) := KeepT.at_ hflU lst_no
        have bYU : But fl Y (upd U fl (.lst (ps.map V.ref ++ [.ref D]))) := (But.of sU).trans (But.upd (But.refl fl U))
        refine ⟨_, _, _, _, _, _, ps ++ [D], pss ++ [(phs r.nm).map fun w => (En.sp i w, decide (w ∈ sets))], rfl, btY.trans bYU, ?_, ?_, ?_, ?_, ?_, ?_, ?_⟩
        · rw [upd_same, List.map_append]
          rfl
        · refine paired_snoc (paired_mono (fun p xs h => ?_) hpp) ⟨nDfl, ?_, vs, ?_, ?_⟩
          · obtain ⟨h1, h2, vs', h3, h4⟩ := h
            exact ⟨h1, h2, vs', (But.of sT).trans bYU _ _ h1 h3, dpAll_imm ((KeepT.of sT).trans ((KeepT.of sU).trans kk)) h4 (immAll_map prD_imm xs)⟩
          · exact offfl bHY nD
          · rw [upd_ne nDfl]; exact hD
          · rw [List.map_map]
            exact dpAll_imm kk hvs (immAll_of6 fun d hd => by
              obtain ⟨w, _, rfl⟩ := List.mem_map.mp hd
              exact prD_imm _)
        · intro x hx
          rw [List.flatten_append] at hx
          rcases List.mem_append.mp hx with hx | hx
          · exact hok x hx
          · simp only [List.flatten_cons, List.flatten_nil, List.append_nil, List.mem_map] at hx
            obtain ⟨w, hw, rfl⟩ := hx
            have hwd : w ∈ r.dn ++ r.up := hpl4.mem_iff.mp hw
            refine ⟨fun e => ⟨r.nm, r, hk, hr, rfl, ?_⟩, fun e => ⟨r.nm, r, hk, hr, rfl, ?_⟩, (fun w h => nomatch h)⟩
            · rw [← hset]; exact of_decide_eq_true e
            · have e : decide (w ∈ sets) = false := e.elim id (fun z => nomatch z)
              have e := of_decide_eq_false e
              rw [hset] at e
              by_cases z : i = 0
              · rw [decide_eq_true z] at e ⊢
                exact (List.mem_append.mp hwd).elim id (fun h => absurd h e)
              · rw [decide_eq_false z] at e ⊢
                exact (List.mem_append.mp hwd).elim (fun h => absurd h e) id
        · rw [List.flatten_append, List.map_append]
          refine List.nodup_append.mpr ⟨hnd, ?_, ?_⟩
          · simp only [List.flatten_cons, List.flatten_nil, List.append_nil, List.map_map]
            exact List.pairwise_map.mpr (pnd.imp fun h z => h (by injection z))
          · intro e he e' he' z
            subst z
            obtain ⟨x, hx, rfl⟩ := List.mem_map.mp he
            obtain ⟨p, w, e1, e2⟩ := hsp x hx
            simp only [List.flatten_cons, List.flatten_nil, List.append_nil, List.map_map, List.mem_map] at he'
            obtain ⟨w', _, e3⟩ := he'
            rw [e1] at e3
            injection e3 with e4 _
            omega
        · intro x hx
          rw [List.flatten_append] at hx
          rcases List.mem_append.mp hx with hx | hx
          · obtain ⟨p, w, e1, e2⟩ := hsp x hx
            exact ⟨p, w, e1, by omega⟩
          · simp only [List.flatten_cons, List.flatten_nil, List.append_nil, List.mem_map] at hx
            obtain ⟨w, hw, rfl⟩ := hx
            exact ⟨i, w, rfl, by omega⟩
        · simp only [List.flatten_append, List.length_append, List.flatten_cons, List.flatten_nil, List.append_nil, List.length_map]
          omega
        · rw [List.length_append, hln]; rfl
    · rintro σ Y ⟨y6, y7, y8, y9, y10, y11, ps, pss, rfl, btY, hflY, hpp, hok, hnd, hsp, hle, hln⟩
      have hle : pss.flatten.length ≤ 12 := by
        rw [nmV_len] at hle
        omega
      have hln3 : pss.length ≤ 3 := by
        rw [hln, nmV_len]
        exact pl3
      have bHY : But fl H Y := (But.of s12).trans btY
      have nelf : el ≠ fl := fun z => by
        have := cx.el
        rw [z, nfl] at this
        cases this
      have helY := bHY _ _ nelf cx.el
      refine ⟨_, rfl, _, rfl, el, rfl, ⟨_, SqL.of helY⟩, fun D nD => ?_⟩
      refine lc_list (K := K) (a := el) (xs := nmV ks) (fun j U => Same Y U ∧ ∃ qs : List Addr, U D = some (.lst (qs.map V.ref)) ∧ Paired (fun p xs => Y p = none ∧ ∃ vs, U p = some (.lst vs) ∧ DpAll K U vs (List.map prD xs) ∧ p ≠ D) qs ((ks.take j).map fun w => [(En.kept w, true)])) ⟨same_upd nD, [], upd_same, .nil⟩ (fun j U _ h => SqL.of (h.1 _ _ helY)) ?_ ?_
      · rintro j x U hx ⟨sU, qs, hD, hqs⟩
        obtain ⟨w, hw, rfl⟩ : ∃ w, ks[j]? = some w ∧ x = .str (SX.S w) := by
          unfold nmV at hx
          rw [List.getElem?_map] at hx
          cases z : ks[j]? with
          | none => rw [z] at hx; cases hx
          | some w => rw [z] at hx; exact ⟨w, rfl, (Option.some.inj hx).symm⟩
        have hj : j < ks.length := (List.getElem?_eq_some_iff.mp hw).1
        refine ⟨rfl, yesT ?_⟩
        refine ⟨_, rfl, by show 2 ≤ sizeLine; decide, fun t1 n1 => ⟨by show 2 ≤ sizeLine; decide, fun t2 n2 => ⟨by show 1 ≤ sizeLine; decide, fun t3 n3 => ?_⟩⟩⟩
        have s1 := same_upd (o := .tup [.str "kept", .str (SX.S w)]) n1
        have s2' := same_upd (o := .tup [.ref t1, .bl true]) n2
        have s3 := same_upd (o := .lst [.ref t2]) n3
        have sA := s1.trans (s2'.trans s3)
        have hD3 := sA _ _ hD
        have lq := paired_len hqs
        rw [List.length_map, List.length_take] at lq
        have k2 := cx.k2
        have nt3D : t3 ≠ D := fun z => by
          rw [z, (s1.trans s2') _ _ hD] at n3
          cases n3
        have kk : KeepT (upd (upd (upd U t1 (.tup [.str "kept", .str (SX.S w)])) t2 (.tup [.ref t1, .bl true])) t3 (.lst [.ref t2])) (upd (upd (upd (upd U t1 (.tup [.str "kept", .str (SX.S w)])) t2 (.tup [.ref t1, .bl true])) t3 (.lst [.ref t2])) D (.lst (qs.map V.ref ++ [.ref t3]))) := KeepT.at_ hD3 lst_no
        refine ⟨_, hD3, small1000 (by rw [List.length_map]; omega), Same.at_ (sU.trans sA) nD, qs ++ [t3], by rw [upd_same, List.map_append]; rfl, ?_⟩
        rw [List.take_add_one, hw, List.map_append]
        refine paired_snoc (paired_mono (fun p xs h => ?_) hqs) ⟨(sU.trans (s1.trans s2')).free n3, [.ref t2], by rw [upd_ne nt3D]; exact upd_same, ?_, nt3D⟩
        · obtain ⟨h1, vs, h2, h3, h4⟩ := h
          exact ⟨h1, vs, by rw [upd_ne h4]; exact sA _ _ h2, dpAll_imm ((KeepT.of sA).trans kk) h3 (immAll_map prD_imm xs), h4⟩
        · exact .cons (dp_imm kk (.tup (SqT.of (s3 _ _ upd_same)) (.cons (.tup (SqT.of ((s2'.trans s3) _ _ upd_same)) (.cons (.str _) (.cons (.str _) .nil))) (.cons (.bl _) .nil))) (prD_imm (En.kept w, true))) .nil
      · rintro U ⟨sU, qs, hD, hqs⟩
        rw [nmV_len, List.take_length] at hqs
        have lq := paired_len hqs
        rw [List.length_map] at lq
        have k2 := cx.k2
        have hflU := sU _ _ hflY
        refine ⟨fl, D, ps.map V.ref, qs.map V.ref, rfl, rfl, hflU, hD, ?_, fun L nL => ?_⟩
        · rw [List.length_map, List.length_map, paired_len hpp]
          exact Nat.le_trans (show _ ≤ 5 by omega) (by decide)
        have sL := same_upd (o := .lst (ps.map V.ref ++ qs.map V.ref)) nL
        have nLH : H L = none := offfl (bHY.trans (But.of sU)) nL
        have sHH : Same H (upd U L (.lst (ps.map V.ref ++ qs.map V.ref))) := fun c o hc => sL _ _ (sU _ _ (bHY c o (fun z => by rw [z, nfl] at hc; cases hc) hc))
        refine q _ L (ps ++ qs) (pss ++ ks.map fun w => [(En.kept w, true)]) sHH nLH (by rw [upd_same, List.map_append]) ?_ ⟨?_, ?_, ?_, ?_⟩
        · refine paired_app (paired_mono (fun p xs h => ?_) hpp) (paired_mono (fun p xs h => ?_) hqs)
          · obtain ⟨h1, h2, vs, h3, h4⟩ := h
            refine ⟨fun z => ?_, h2, vs, sL _ _ (sU _ _ h3), dpAll_same (sU.trans sL) h4⟩
            have := sU _ _ h3
            rw [z, nL] at this
            cases this
          · obtain ⟨h1, vs, h2, h3, h4⟩ := h
            refine ⟨fun z => ?_, offfl bHY h1, vs, sL _ _ h2, dpAll_same sL h3⟩
            rw [z, nL] at h2
            cases h2
        · intro x hx
          rw [List.flatten_append] at hx
          rcases List.mem_append.mp hx with hx | hx
          · exact hok x hx
          · obtain ⟨l, hl, hx⟩ := List.mem_flatten.mp hx
            obtain ⟨w, hw, rfl⟩ := List.mem_map.mp hl
            rw [List.mem_singleton.mp hx]
            exact ⟨fun _ => cx.kk w hw, fun _ => cx.kk w hw, fun w' h => by rw [List.mem_singleton.mp h]; exact hw⟩
        · rw [List.flatten_append, List.map_append]
          refine List.nodup_append.mpr ⟨hnd, ?_, ?_⟩
          · have e : ∀ ws : List (List Nat), ((ws.map fun w => [(En.kept w, true)]).flatten.map (·.1)) = ws.map En.kept := fun ws => by
              induction ws with
              | nil => rfl
              | cons x xs ih => rw [List.map_cons, List.flatten_cons, List.map_append, ih]; rfl
            rw [e]
            exact List.pairwise_map.mpr (cx.kn.imp fun h z => h (by injection z))
          · intro e he e' he' z
            subst z
            obtain ⟨x, hx, rfl⟩ := List.mem_map.mp he
            obtain ⟨p, w, e1, e2⟩ := hsp x hx
            obtain ⟨x', hx', e3⟩ := List.mem_map.mp he'
            obtain ⟨l, hl, hx'⟩ := List.mem_flatten.mp hx'
            obtain ⟨w', hw', rfl⟩ := List.mem_map.mp hl
            rw [List.mem_singleton.mp hx', e1] at e3
            cases e3
        · have e : ∀ ws : List (List Nat), (ws.map fun w => [(En.kept w, true)]).flatten.length = ws.length := fun ws => by
            induction ws with
            | nil => rfl
            | cons x xs ih => rw [List.map_cons, List.flatten_cons, List.length_append, ih, List.length_cons]; show 1 + xs.length = xs.length + 1; omega
          rw [List.flatten_append, List.length_append, e]
          omega
        · rw [List.length_append, List.length_map]
          omega
end
abbrev s__law_rules_for : Stmt := top 61
abbrev N__law_rules_for : List Str := ["_law_box", "_law_roof", "_law_sorts", "_law_row", "_law_phases", "_law_wild", "_law_extra", "_law_rules", "_law_known_here", "_law_every", "_law_lists_here", "_law_some", "_law_at", "_law_target", "_law_is_set", "_law_op", "_law_many", "_law_name", "_law_one", "_law_turn"]
abbrev P__law_rules_for : List Str := ["_law_box", "_law_roof", "_law_sorts", "_law_row", "_law_phases", "_law_wild"]
theorem sc__law_rules_for : FnScope N__law_rules_for P__law_rules_for (defScope s__law_rules_for) := ⟨rfl, rfl, rfl, by decide +kernel, rfl, by decide +kernel, by decide +kernel⟩
/-- what a making's rules are drawn by -/
structure Cr6 (K : PySem.W.Frag) (H : Hp) (a sl ph : Addr) (rowv wv : V) (sv : List V) (rs : List SRow) (mr : MRow) (wb : Bool) (wn : Nat) (phs : List Nat → List (List Nat)) : Prop where
  hsl : H sl = some (.lst sv)
  nsl : sl ≠ a
  hsv : DpAll K H sv (rs.map SRow.d)
  sok : SortsOk rs
  row : Dp K H rowv mr.d
  so : ∀ k ∈ mr.places, ∃ r ∈ rs, r.nm = k
  p2 : mr.pt.length ≤ 2
  hph : Ph H a ph rs phs
  wl : Dp K H wv (.tuple [.bool wb, .int (wn : Nat)])
  w0 : 0 < wn
  w1 : wn < 1000000
def spRules6 (K : PySem.W.Frag) : Sp := fun vs H Q _ => ∃ (a sl ph : Addr) (rowv wv : V) (sv : List V) (rs : List SRow) (mr : MRow) (roof : Nat) (wb : Bool) (wn : Nat) (phs : List Nat → List (List Nat)) (m : Nat) (b : List V), vs = [.ref a, .int roof, .ref sl, rowv, .ref ph, wv] ∧ Cr6 K H a sl ph rowv wv sv rs mr wb wn phs ∧ H a = some (.lst b) ∧ BoxL m b ∧ m + 600 < 900000 ∧
  ∀ (H' : Hp) (l : Addr) (vs' : List V) (ru : List RRow) (ks : List (List Nat)) (b' : List V), But a H H' → H l = none → H' l = some (.lst vs') → DpAll K H' vs' (ru.map RRow.d) → RulesOk rs mr roof ks ru → H' a = some (.lst b') → BoxL (m + 600) b' → Q (.ref l) H'
structure Wst (K : PySem.W.Frag) (H Y : Hp) (a rl kn ev L : Addr) (ru : List RRow) (kns : List En) (evs : List (En × Bool)) (ps : List Addr) (pss : List (List (En × Bool))) : Prop where
  bt : But a H Y
  hrl : ∃ rv, Y rl = some (.lst rv) ∧ DpAll K Y rv (ru.map RRow.d)
  hkn : ∃ kv, Y kn = some (.lst kv) ∧ DpAll K Y kv (kns.map En.d)
  hev : ∃ v, Y ev = some (.lst v) ∧ DpAll K Y v (evs.map prD)
  hL : Y L = some (.lst (ps.map V.ref))
  hps : Paired (fun p xs => p ≠ L ∧ p ≠ a ∧ p ≠ rl ∧ ∃ vs, Y p = some (.lst vs) ∧ DpAll K Y vs (xs.map prD)) ps pss
  rH : H rl = none
  LH : H L = none
  ra : rl ≠ a
  ka : kn ≠ a
  ea : ev ≠ a
  La : L ≠ a
  rk : rl ≠ kn
  re : rl ≠ ev
  rL : rl ≠ L
  Lk : L ≠ kn
  Le : L ≠ ev
theorem Wst.go {K : PySem.W.Frag} {H Y Z : Hp} {a rl kn ev L : Addr} {ru : List RRow} {kns : List En} {evs : List (En × Bool)} {ps : List Addr} {pss : List (List (En × Bool))} {b : List V} (h : Wst K H Y a rl kn ev L ru kns evs ps pss) (hb : Y a = some (.lst b)) (t : But a Y Z) : Wst K H Z a rl kn ev L ru kns evs ps pss := by
  have k := KeepT.but hb t
  obtain ⟨rv, r1, r2⟩ := h.hrl
  obtain ⟨kv, k1, k2⟩ := h.hkn
  obtain ⟨v, v1, v2⟩ := h.hev
  exact ⟨h.bt.trans t, ⟨rv, t _ _ h.ra r1, dpAll_imm k r2 (immAll_map RRow.imm ru)⟩, ⟨kv, t _ _ h.ka k1, dpAll_imm k k2 (immAll_map En.imm kns)⟩, ⟨v, t _ _ h.ea v1, dpAll_imm k v2 (immAll_map prD_imm evs)⟩, t _ _ h.La h.hL, paired_mono (fun p xs ⟨h1, h2, h3, vs, h4, h5⟩ => ⟨h1, h2, h3, vs, t _ _ h2 h4, dpAll_imm k h5 (immAll_map prD_imm xs)⟩) h.hps, h.rH, h.LH, h.ra, h.ka, h.ea, h.La, h.rk, h.re, h.rL, h.Lk, h.Le⟩
/-- the rules get one more -/
theorem Wst.setR {K : PySem.W.Frag} {H Y : Hp} {a rl kn ev L : Addr} {ru ru' : List RRow} {kns : List En} {evs : List (En × Bool)} {ps : List Addr} {pss : List (List (En × Bool))} {rv' : List V} (h : Wst K H Y a rl kn ev L ru kns evs ps pss) (hr : DpAll K (upd Y rl (.lst rv')) rv' (ru'.map RRow.d)) : Wst K H (upd Y rl (.lst rv')) a rl kn ev L ru' kns evs ps pss := by
  obtain ⟨rv, r1, r2⟩ := h.hrl
  have k : KeepT Y (upd Y rl (.lst rv')) := KeepT.at_ r1 lst_no
  obtain ⟨kv, k1, k2⟩ := h.hkn
  obtain ⟨v, v1, v2⟩ := h.hev
  refine ⟨fun c o nc hc => ?_, ⟨rv', upd_same, hr⟩, ⟨kv, ?_, dpAll_imm k k2 (immAll_map En.imm kns)⟩, ⟨v, ?_, dpAll_imm k v2 (immAll_map prD_imm evs)⟩, ?_, paired_mono (fun p xs ⟨h1, h2, h3, vs, h4, h5⟩ => ⟨h1, h2, h3, vs, ?_, dpAll_imm k h5 (immAll_map prD_imm xs)⟩) h.hps, h.rH, h.LH, h.ra, h.ka, h.ea, h.La, h.rk, h.re, h.rL, h.Lk, h.Le⟩
  · rw [upd_ne (ne_of_none hc h.rH)]
    exact h.bt c o nc hc
  · rw [upd_ne h.rk.symm]; exact k1
  · rw [upd_ne h.re.symm]; exact v1
  · rw [upd_ne h.rL.symm]; exact h.hL
  · rw [upd_ne h3]; exact h4
/-- the list of lists is changed at a place -/
theorem Wst.setL {K : PySem.W.Frag} {H Y : Hp} {a rl kn ev L : Addr} {ru : List RRow} {kns : List En} {evs : List (En × Bool)} {ps ps' : List Addr} {pss pss' : List (List (En × Bool))} (h : Wst K H Y a rl kn ev L ru kns evs ps pss) (hp : Paired (fun p xs => p ≠ L ∧ p ≠ a ∧ p ≠ rl ∧ ∃ vs, Y p = some (.lst vs) ∧ DpAll K Y vs (xs.map prD)) ps' pss') : Wst K H (upd Y L (.lst (ps'.map V.ref))) a rl kn ev L ru kns evs ps' pss' := by
  obtain ⟨rv, r1, r2⟩ := h.hrl
  have k : KeepT Y (upd Y L (.lst (ps'.map V.ref))) := KeepT.at_ h.hL lst_no
  obtain ⟨kv, k1, k2⟩ := h.hkn
  obtain ⟨v, v1, v2⟩ := h.hev
  refine ⟨fun c o nc hc => ?_, ⟨rv, ?_, dpAll_imm k r2 (immAll_map RRow.imm ru)⟩, ⟨kv, ?_, dpAll_imm k k2 (immAll_map En.imm kns)⟩, ⟨v, ?_, dpAll_imm k v2 (immAll_map prD_imm evs)⟩, upd_same, paired_mono (fun p xs ⟨h1, h2, h3, vs, h4, h5⟩ => ⟨h1, h2, h3, vs, ?_, dpAll_imm k h5 (immAll_map prD_imm xs)⟩) hp, h.rH, h.LH, h.ra, h.ka, h.ea, h.La, h.rk, h.re, h.rL, h.Lk, h.Le⟩
  · rw [upd_ne (ne_of_none hc h.LH)]
    exact h.bt c o nc hc
  · rw [upd_ne h.rL]; exact r1
  · rw [upd_ne h.Lk.symm]; exact k1
  · rw [upd_ne h.Le.symm]; exact v1
  · rw [upd_ne h1]; exact h4
theorem Wst.newL {K : PySem.W.Frag} {H Y Z : Hp} {a rl kn ev L L' : Addr} {ru : List RRow} {kns : List En} {evs : List (En × Bool)} {ps ps' : List Addr} {pss pss' : List (List (En × Bool))} {b : List V} (h : Wst K H Y a rl kn ev L ru kns evs ps pss) (hb : Y a = some (.lst b)) (n : Y L' = none) (s : Same Y Z) (hZ : Z L' = some (.lst (ps'.map V.ref))) (hp : Paired (fun p xs => p ≠ L ∧ p ≠ a ∧ p ≠ rl ∧ ∃ vs, Y p = some (.lst vs) ∧ DpAll K Y vs (xs.map prD)) ps' pss') : Wst K H Z a rl kn ev L' ru kns evs ps' pss' := by
  obtain ⟨rv, r1, r2⟩ := h.hrl
  obtain ⟨kv, k1, k2⟩ := h.hkn
  obtain ⟨v, v1, v2⟩ := h.hev
  have nla : L' ≠ a := fun z => by rw [z, hb] at n; cases n
  have nlr : rl ≠ L' := fun z => by rw [← z, r1] at n; cases n
  have nlk : L' ≠ kn := fun z => by rw [z, k1] at n; cases n
  have nle : L' ≠ ev := fun z => by rw [z, v1] at n; cases n
  refine ⟨h.bt.trans (But.of s), ⟨rv, s _ _ r1, dpAll_same s r2⟩, ⟨kv, s _ _ k1, dpAll_same s k2⟩, ⟨v, s _ _ v1, dpAll_same s v2⟩, hZ, paired_mono (fun p xs g => ?_) hp, h.rH, But.free h.bt hb n, h.ra, h.ka, h.ea, nla, h.rk, h.re, nlr, nlk, nle⟩
  obtain ⟨h1, h2, h3, vs, h4, h5⟩ := g
  exact ⟨fun z => (by rw [z, n] at h4; cases h4), h2, h3, vs, s _ _ h4, dpAll_same s h5⟩
theorem Wst.newK {K : PySem.W.Frag} {H Y Z : Hp} {a rl kn ev L kn' : Addr} {ru : List RRow} {kns kns' : List En} {evs : List (En × Bool)} {ps : List Addr} {pss : List (List (En × Bool))} {b : List V} (h : Wst K H Y a rl kn ev L ru kns evs ps pss) (hb : Y a = some (.lst b)) (n : ¬ ∃ o, Y kn' = some o) (s : Same Y Z) (hZ : ∃ kv, Z kn' = some (.lst kv) ∧ DpAll K Z kv (kns'.map En.d)) : Wst K H Z a rl kn' ev L ru kns' evs ps pss := by
  obtain ⟨rv, r1, r2⟩ := h.hrl
  obtain ⟨v, v1, v2⟩ := h.hev
  refine ⟨h.bt.trans (But.of s), ⟨rv, s _ _ r1, dpAll_same s r2⟩, hZ, ⟨v, s _ _ v1, dpAll_same s v2⟩, s _ _ h.hL, paired_mono (fun p xs g => ?_) h.hps, h.rH, h.LH, h.ra, fun z => n ⟨_, by rw [z]; exact hb⟩, h.ea, h.La, fun z => n ⟨_, by rw [← z]; exact r1⟩, h.re, h.rL, fun z => n ⟨_, by rw [← z]; exact h.hL⟩, h.Le⟩
  obtain ⟨h1, h2, h3, vs, h4, h5⟩ := g
  exact ⟨h1, h2, h3, vs, s _ _ h4, dpAll_same s h5⟩
theorem paired_take {α β : Type} {R : α → β → Prop} : ∀ {xs : List α} {ys : List β} (i : Nat), Paired R xs ys → Paired R (xs.take i) (ys.take i)
  | _, _, 0, h => by rw [List.take_zero, List.take_zero]; exact .nil
  | _, _, i + 1, .nil => .nil
  | _, _, i + 1, .cons a r => .cons a (paired_take i r)
theorem paired_drop {α β : Type} {R : α → β → Prop} : ∀ {xs : List α} {ys : List β} (i : Nat), Paired R xs ys → Paired R (xs.drop i) (ys.drop i)
  | _, _, 0, h => h
  | _, _, i + 1, .nil => .nil
  | _, _, i + 1, .cons a r => paired_drop i r
theorem flat_out {α : Type} {pss : List (List α)} {j : Nat} {xs : List α} (h : pss[j]? = some xs) : pss.flatten = (pss.take j).flatten ++ (xs ++ (pss.drop (j + 1)).flatten) := by
  conv => lhs; rw [← List.take_append_drop (j + 1) pss, List.flatten_append, List.take_add_one, h, List.flatten_append]
  show ((pss.take j).flatten ++ [xs].flatten) ++ _ = _
  rw [List.flatten_cons, List.flatten_nil, List.append_nil, List.append_assoc]
theorem paired_set {α β : Type} {R : α → β → Prop} : ∀ {xs : List α} {ys : List β} {i : Nat} {x : α} {y : β}, Paired R xs ys → R x y → Paired R (xs.set i x) (ys.set i y)
  | _, _, _, _, _, .nil, _ => .nil
  | _, _, 0, _, _, .cons a r, h => .cons h r
  | _, _, i + 1, _, _, .cons a r, h => .cons a (paired_set r h)
theorem flat_set {α : Type} {pss : List (List α)} {j : Nat} {xs : List α} (h : j < pss.length) : (pss.set j xs).flatten = (pss.take j).flatten ++ (xs ++ (pss.drop (j + 1)).flatten) := by
  rw [List.set_eq_take_append_cons_drop, if_pos h, List.flatten_append, List.flatten_cons]
theorem en_head {K : PySem.W.Frag} {H : Hp} {v : V} {e : En} (h : Dp K H v e.d) : ∃ q s rest, v = .ref q ∧ SqT K H q (.str s :: rest) ∧ decide (V.str s = V.str "kept") = isK e := by
  cases e with
  | sp p w =>
    cases h with
    | tup hS hA =>
      cases hA with
      | cons a1 hA =>
        cases a1
        exact ⟨_, _, _, rfl, hS, by show decide _ = false; decide +kernel⟩
  | kept w =>
    cases h with
    | tup hS hA =>
      cases hA with
      | cons a1 hA =>
        cases a1
        exact ⟨_, _, _, rfl, hS, by show decide _ = true; decide +kernel⟩
structure Wok (rs : List SRow) (mr : MRow) (roof : Nat) (ks : List (List Nat)) (ru : List RRow) (kns : List En) (evs : List (En × Bool)) (pss : List (List (En × Bool))) : Prop where
  rok : ∀ r ∈ ru, r.ma = mr.nm ∧ TgOk rs mr r.tg ∧ r.op ∈ opsOf roof ∧ r.os.length = arOf r.op ∧ (∀ o ∈ r.os, OdOk rs mr o) ∧ (∀ w ∈ enName r.tg, w ∈ ks) ∧ ∀ o ∈ r.os, ∀ w ∈ odName o, w ∈ ks
  nd : (ru.map RRow.tg ++ pss.flatten.map (·.1)).Nodup
  kn : ∀ e ∈ kns, FrOk rs mr e ∧ ∀ w ∈ enName e, w ∈ ks
  ev : ∀ x ∈ evs, PrOk rs mr ks x
  ps : ∀ x ∈ pss.flatten, PrOk rs mr ks x
  l1 : ru.length + pss.flatten.length ≤ 14
  l2 : kns.length + pss.flatten.length ≤ 14
  l3 : evs.length ≤ 14
  l4 : pss.length ≤ 5
  k2 : ks.length ≤ 2
theorem wild_at {K : PySem.W.Frag} {H : Hp} {v : V} {wb : Bool} {wn : Nat} (h : Dp K H v (.tuple [.bool wb, .int (wn : Nat)])) : ∃ q, v = .ref q ∧ SqT K H q [.bl wb, .int (wn : Nat)] := by
  cases h with
  | tup hS hA =>
    cases hA with
    | cons a1 hA =>
      cases hA with
      | cons a2 hA =>
        cases hA
        cases a1
        cases a2
        exact ⟨_, rfl, hS⟩
theorem nm_one : ∀ {rs : List SRow}, (rs.map SRow.nm).Nodup → ∀ {r r' : SRow}, r ∈ rs → r' ∈ rs → r.nm = r'.nm → r = r'
  | [], _, _, _, h, _, _ => nomatch h
  | q :: rs, hn, r, r', h, h', e => by
    rw [List.map_cons, List.nodup_cons] at hn
    rcases List.mem_cons.mp h with rfl | h
    · rcases List.mem_cons.mp h' with rfl | h'
      · rfl
      · exact absurd (by rw [e]; exact List.mem_map_of_mem h') hn.1
    · rcases List.mem_cons.mp h' with z | h'
      · exact absurd (by rw [← z, ← e]; exact List.mem_map_of_mem h) hn.1
      · exact nm_one hn.2 h h' e
theorem paired_ix {α β : Type} {R : α → β → Prop} : ∀ {xs : List α} {ys : List β}, Paired R xs ys → ∀ {i : Nat} {x : α}, xs[i]? = some x → ∃ y, ys[i]? = some y ∧ R x y
  | _, _, .nil, i, x, h => by cases h
  | _, _, .cons (b := y) a r, 0, x, h => by
    cases h
    exact ⟨y, rfl, a⟩
  | _, _, .cons a r, i + 1, x, h => paired_ix r (i := i) h
theorem map_ref_at {ps : List Addr} {j : Nat} {x : V} (h : (ps.map V.ref)[j]? = some x) : ∃ p, ps[j]? = some p ∧ x = .ref p := by
  rw [List.getElem?_map] at h
  cases z : ps[j]? with
  | none => rw [z] at h; cases h
  | some p => rw [z] at h; exact ⟨p, rfl, (Option.some.inj h).symm⟩
theorem flat_take {α : Type} {pss : List (List α)} {j : Nat} {xs : List α} (h : pss[j]? = some xs) : (pss.take (j + 1)).flatten = (pss.take j).flatten ++ xs := by
  rw [List.take_add_one, h, List.flatten_append]
  show _ ++ ([xs]).flatten = _
  rw [List.flatten_cons, List.flatten_nil, List.append_nil]
theorem flat_take_le {α : Type} (pss : List (List α)) (j : Nat) : (pss.take j).flatten.length ≤ pss.flatten.length := by
  conv => rhs; rw [← List.take_append_drop j pss, List.flatten_append, List.length_append]
  omega
def RIv (K : PySem.W.Frag) (H : Hp) (a sl rq ph wq xl rl ev : Addr) (roof m : Nat) (rs : List SRow) (mr : MRow) (ks : List (List Nat)) (evs : List (En × Bool)) (n : Nat) (σ : L2.St) (Y : Hp) : Prop := ∃ (kn L : Addr) (ru : List RRow) (kns : List En) (ps : List Addr) (pss : List (List (En × Bool))) (b' : List V) (y11 y12 y13 y14 y15 y16 y17 y18 y19 : Option V), n = pss.flatten.length + pss.length ∧ σ = [some (.ref a), some (.int roof), some (.ref sl), some (.ref rq), some (.ref ph), some (.ref wq), some (.ref xl), some (.ref rl), some (.ref kn), some (.ref ev), some (.ref L), y11, y12, y13, y14, y15, y16, y17, y18, y19] ∧ Wst K H Y a rl kn ev L ru kns evs ps pss ∧ Wok rs mr roof ks ru kns evs pss ∧ Y a = some (.lst b') ∧ BoxL (m + 121 + 22 * (19 - (pss.flatten.length + pss.length))) b'
structure Lr6 (mg : Str → Option Value) : Prop where
  len : mg "len" = none
  tuple : mg "tuple" = none
  range : mg "range" = none
section
variable {P : Program} {w : World} {K : PySem.W.Frag} {mg : Str → Option Value} {base : Heap}
theorem ok_rules6 (T : Lr6 mg) (c_law_take : C8.Cal P w K mg base 1 "_law_take" spTake []) (c_law_named : C8.Cal P w K mg base 2 "_law_named" spNamed []) (c_law_one_of : C8.Cal P w K mg base 2 "_law_one_of" (spOneOf K) []) (c_law_ops : C8.Cal P w K mg base 1 "_law_ops" (spOps6 K) []) (c_law_lists : C8.Cal P w K mg base 1 "_law_lists" (spLists K) []) (c_law_operand : C8.Cal P w K mg base 3 "_law_operand" (spOperand K) [])
    (D : Dd K mg "_law_rules_for" s__law_rules_for P__law_rules_for) : C8.Cal P w K mg base 4 "_law_rules_for" (spRules6 K) [] := by
  refine D.cal sc__law_rules_for (fun vs H Q E h => ?_) (fun f cdv A outer s H vs Q E hr h => ?_)
  · obtain ⟨a, sl, ph, rowv, wv, sv, rs, mr, roof, wb, wn, phs, m, b, rfl, _⟩ := h
    rfl
  · obtain ⟨a, sl, ph, rowv, wv, sv, rs, mr, roof, wb, wn, phs, m, b, rfl, cx, ha, hB, hm, q⟩ := h
    refine ⟨_, (C8.pss_cut (ps_asg (pe_tup (pa_cons (pe_slice (r := rSlL K) sl_list (C8.pe_c c_law_named hr (by decide) (by rfl) (pa_cons (pv 0) (pa_cons pe_int pa_nil))) po_none (po_some (C8.pe_c c_law_take hr (by decide) (by rfl) (pa_cons (pv 0) (pa_cons pe_int pa_nil))))) (pa_cons (pe_lst pa_nil) (pa_cons (pe_lst pa_nil) (pa_cons (pe_lst pa_nil) pa_nil))))) (pg_tup rfl (pgs_cons (pg_name (i := 6) sc__law_rules_for.nd rfl (Or.inl rfl)) (pgs_cons (pg_name (i := 7) sc__law_rules_for.nd rfl (Or.inl rfl)) (pgs_cons (pg_name (i := 8) sc__law_rules_for.nd rfl (Or.inl rfl)) (pgs_cons (pg_name (i := 9) sc__law_rules_for.nd rfl (Or.inl rfl)) pgs_nil))))))
        (C8.pss_cut (ps_setLc (i := 6) (own := [("_law_name", 17)]) (by exact rfl) sc__law_rules_for.nd rfl rfl (sw_true rfl rfl rfl (by decide +kernel)) (pi_list (pv 6)) (blkOk_by (own := [("_law_name", 17)]) (N := N__law_rules_for) (sc := defScope s__law_rules_for) (by decide +kernel)) (fun _ _ _ _ _ => (pg_name (i := 17) sc__law_rules_for.nd rfl (Or.inl rfl))) (fun _ _ _ _ _ => (pts_one (pt_cmpR (r := rIn K true) op_notIn_seq (pv 17) (pe_dget (hu_of hr) (pv 4) (pe_ix (r := rIxT K) ix_tup (pv 3) pe_int (fun _ _ => rfl)) (fun _ _ => rfl)) (by with_unfolding_all rfl)))) (fun _ _ _ _ _ => (pv 17)))
        (C8.pss_cut (ps_set (i := 10) sc__law_rules_for.nd rfl (Or.inl rfl) (C8.pe_c c_law_lists hr (by decide) (by rfl) (pa_cons (pv 2) (pa_cons (pv 3) (pa_cons (pv 4) (pa_cons (pv 6) pa_nil))))))
        (C8.pss_cut (ps_for PassesOwn.never rfl (pi_list (pv 10)) (pg_name (i := 11) sc__law_rules_for.nd rfl (Or.inr rfl))
          (pss_one (ps_set (i := 9) sc__law_rules_for.nd rfl (Or.inl rfl) (pe_op (r := rCat) op_cat (pv 9) (pv 11)))))
        (pss_cons (ps_while PassesOwn.never (pt_cmpR (op_ne0 hr.units) (pv 10) (pe_lst pa_nil) (nomark _))
          (pss_cons (ps_set (i := 12) sc__law_rules_for.nd rfl (Or.inl rfl) (C8.pe_c c_law_take hr (by decide) (by rfl) (pa_cons (pv 0) (pa_cons (pe_callB call_len_seq (by rfl) T.len PySem.boot_len (pa_cons (pv 10) pa_nil)) pa_nil))))
        (pss_one (ps_if (pt_cmpR (op_eq0 hr.units) (pe_ix (r := rIxL K) ix_list (pv 10) (pv 12) (fun _ _ => rfl)) (pe_lst pa_nil) (nomark _))
          (pss_one (ps_set (i := 10) sc__law_rules_for.nd rfl (Or.inl rfl) (pe_op (r := rCat) op_cat (pe_slice (r := rSlL K) sl_list (pv 10) po_none (po_some (pv 12))) (pe_slice (r := rSlL K) sl_list (pv 10) (po_some (pe_op op_add (pv 12) pe_int)) po_none))))
          (pss_cons (ps_asg (pe_ix (r := rIxL K) ix_list (pe_ix (r := rIxL K) ix_list (pv 10) (pv 12) (fun _ _ => rfl)) pe_int (fun _ _ => rfl)) (pg_tup rfl (pgs_cons (pg_name (i := 13) sc__law_rules_for.nd rfl (Or.inl rfl)) (pgs_cons (pg_name (i := 14) sc__law_rules_for.nd rfl (Or.inl rfl)) pgs_nil))))
        (C8.pss_cut (ps_asg (pe_slice (r := rSlL K) sl_list (pe_ix (r := rIxL K) ix_list (pv 10) (pv 12) (fun _ _ => rfl)) (po_some pe_int) po_none) (pg_sub (pv 10) (pv 12) set_list))
        (C8.pss_cut (ps_if (PW.pt (pw_and (pt_val (pv 14)) (pw_and1 (pt_cmpR op_gt (C8.pe_c c_law_take hr (by decide) (by rfl) (pa_cons (pv 0) (pa_cons (pe_ix (r := rIxT K) ix_tup (pv 5) pe_int (fun _ _ => rfl)) pa_nil))) pe_int (nomark _)))))
          (C8.pss_cut (ps_asg (C8.pe_c c_law_one_of hr (by decide) (by rfl) (pa_cons (pv 0) (pa_cons (C8.pe_c c_law_ops hr (by decide) (by rfl) (pa_cons (pv 1) pa_nil)) pa_nil))) (pg_tup rfl (pgs_cons (pg_name (i := 15) sc__law_rules_for.nd rfl (Or.inl rfl)) (pgs_cons (pg_name (i := 16) sc__law_rules_for.nd rfl (Or.inl rfl)) pgs_nil))))
        (C8.pss_cut (ps_set (i := 11) sc__law_rules_for.nd rfl (Or.inr rfl) (pv 8))
        (C8.pss_cut (ps_if (pt_val (pe_ix (r := rIxT K) ix_tup (pv 5) pe_int (fun _ _ => rfl)))
          (pss_one (ps_set (i := 11) sc__law_rules_for.nd rfl (Or.inr rfl) (pe_lc (own := [("_law_one", 18)]) (by exact rfl) sc__law_rules_for.nd (pi_list (pv 9)) (blkOk_by (own := [("_law_one", 18)]) (N := N__law_rules_for) (sc := defScope s__law_rules_for) (by decide +kernel)) (fun _ _ _ _ _ => (pg_name (i := 18) sc__law_rules_for.nd rfl (Or.inl rfl))) (fun _ _ _ _ _ => (pts_one (PW.pt (pw_or (pt_cmpR op_eq (pe_ix (r := rIxT K) ix_tup (pe_ix (r := rIxT K) ix_tup (pv 18) pe_int (fun _ _ => rfl)) pe_int (fun _ _ => rfl)) pe_str (nomark _)) (pw_or1 (pt_not (pt_val (pe_ix (r := rIxT K) ix_tup (pv 18) pe_int (fun _ _ => rfl))))))))) (fun _ _ _ _ _ => (pe_ix (r := rIxT K) ix_tup (pv 18) pe_int (fun _ _ => rfl))))))
          pss_nil)
        (pss_one (ps_expr (pe_bm PySem.F.plainAttrs_list PySem.F.slot_list_append PySem.F.type_list_append mt_append (pv 7) (pa_cons (pe_tup (pa_cons (pe_ix (r := rIxT K) ix_tup (pv 3) pe_int (fun _ _ => rfl)) (pa_cons (pv 13) (pa_cons (pv 15) (pa_cons (pe_callTy call_tuple_of (by rfl) T.tuple (by decide +kernel) (pa_cons (pe_lc (own := [("_law_turn", 19)]) (by exact rfl) sc__law_rules_for.nd (pi_range1 rfl T.range (pa_cons (pv 16) pa_nil)) (blkOk_by (own := [("_law_turn", 19)]) (N := N__law_rules_for) (sc := defScope s__law_rules_for) (by decide +kernel)) (fun _ _ _ _ _ => (pg_name (i := 19) sc__law_rules_for.nd rfl (Or.inl rfl))) (fun _ _ _ _ _ => pts_nil) (fun _ _ _ _ _ => (C8.pe_c c_law_operand hr (by decide) (by rfl) (pa_cons (pv 0) (pa_cons (pv 11) pa_nil))))) pa_nil)) pa_nil))))) pa_nil)))))))
          pss_nil)
        (pss_one (ps_if (PW.pt (pw_or (pt_not (pt_val (pv 14))) (pw_or1 (pt_cmpR op_eq (pe_ix (r := rIxT K) ix_tup (pv 13) pe_int (fun _ _ => rfl)) pe_str (nomark _)))))
          (pss_one (ps_set (i := 8) sc__law_rules_for.nd rfl (Or.inl rfl) (pe_op (r := rCat) op_cat (pv 8) (pe_lst (pa_cons (pv 13) pa_nil)))))
          pss_nil)))))))))
        (pss_one (ps_ret (pv 7)))))))), ?_⟩
    -- names to keep, rules, known, every
    refine ⟨fun σ X => ∃ (xl rl kn ev : Addr) (xs : List (List Nat)) (b1 : List V), σ = [some (.ref a), some (.int roof), some (.ref sl), some rowv, some (.ref ph), some wv, some (.ref xl), some (.ref rl), some (.ref kn), some (.ref ev), none, none, none, none, none, none, none, none, none, none] ∧ But a H X ∧ H xl = none ∧ H rl = none ∧ H kn = none ∧ H ev = none ∧ X xl = some (.lst (nmV xs)) ∧ X rl = some (.lst []) ∧ X kn = some (.lst []) ∧ X ev = some (.lst []) ∧ rl ≠ kn ∧ rl ≠ ev ∧ xs.Nodup ∧ (∀ w ∈ xs, NmOk w) ∧ xs.length ≤ 2 ∧ X a = some (.lst b1) ∧ BoxL (m + 121) b1, ?_, ?_⟩
    · refine ⟨_, rfl, a, 12, m, b, rfl, by decide, ha, hB, by omega, fun X ln ws b1 bt nln hln hwl hnd hws hb1 hB1 => ?_⟩
      have nlna : ln ≠ a := fun z => by
        rw [z, ha] at nln
        cases nln
      refine ⟨_, rfl, a, 3, _, b1, rfl, hb1, hB1, by omega, by decide, by decide, fun r2 b2 r20 r21 hB2 => ?_⟩
      have bt2 : But a H (upd X a (.lst b2)) := bt.trans (But.upd (But.refl a X))
      have hb2 : (upd X a (.lst b2)) a = some (.lst b2) := upd_same
      have hln2 : (upd X a (.lst b2)) ln = some (.lst (nmV ws)) := by rw [upd_ne nlna]; exact hln
      generalize upd X a (.lst b2) = X2 at bt2 hb2 hln2 ⊢
      obtain ⟨c, rfl⟩ := Int.eq_ofNat_of_zero_le r20
      refine ⟨(c : Nat), rfl, ln, _, rfl, SqL.of hln2, fun xl nxl => ?_⟩
      rw [cutV_to, nmV_take]
      have s1 := same_upd (o := .lst (nmV (ws.take c))) nxl
      refine ⟨by show 0 ≤ sizeLine; decide, fun rl nrl => ⟨by show 0 ≤ sizeLine; decide, fun kn nkn => ⟨by show 0 ≤ sizeLine; decide, fun ev nev => ?_⟩⟩⟩
      have s2 := same_upd (o := .lst []) nrl
      have s3 := same_upd (o := .lst []) nkn
      have s4 := same_upd (o := .lst []) nev
      have s24 := s2.trans (s3.trans s4)
      refine ⟨by show 4 ≤ sizeLine; decide, fun tp ntp => ?_⟩
      have s5 := same_upd (o := .tup [.ref xl, .ref rl, .ref kn, .ref ev]) ntp
      refine ⟨tp, _, rfl, SqT.of upd_same, rfl, _, _, rfl, _, _, rfl, _, _, rfl, _, _, rfl, rfl, ?_⟩
      have wl : (ws.take c).length ≤ 2 := by
        rw [List.length_take]
        omega
      refine ⟨xl, rl, kn, ev, ws.take c, b2, rfl, bt2.trans (But.of (s1.trans (s24.trans s5))), But.free bt2 hb2 nxl, But.free (bt2.trans (But.of s1)) (s1 _ _ hb2) nrl, But.free (bt2.trans (But.of (s1.trans s2))) ((s1.trans s2) _ _ hb2) nkn, But.free (bt2.trans (But.of (s1.trans (s2.trans s3)))) ((s1.trans (s2.trans s3)) _ _ hb2) nev, (s24.trans s5) _ _ upd_same, (s3.trans (s4.trans s5)) _ _ upd_same, (s4.trans s5) _ _ upd_same, s5 _ _ upd_same, ne_of_none upd_same nkn, ne_of_none (s3 _ _ upd_same) nev, hnd.sublist (List.take_sublist _ _), fun w h => hws w (List.mem_of_mem_take h), wl, (s1.trans (s24.trans s5)) _ _ hb2, hB2.mono (by omega)⟩
    rintro σ X0 ⟨xl, rl, kn, ev, xs, b1, rfl, bt0, nxl, nrl, nkn, nev, hxl, hrl, hkn, hev, drk, dre, hnd, hnm, hx2, hb0, hB0⟩
    have off : ∀ {x : Addr}, H x = none → x ≠ a := fun {x} h z => by
      rw [z, ha] at h
      cases h
    obtain ⟨rq, rt, rfl, hr1, hr2⟩ := row_at cx.row
    obtain ⟨wq, rfl, hwq⟩ := wild_at cx.wl
    obtain ⟨r0, hr0, er0⟩ := cx.so mr.so (List.mem_cons_self ..)
    -- names that are no worths
    refine ⟨fun σ X => ∃ (xl : Addr) (ks : List (List Nat)), σ = [some (.ref a), some (.int roof), some (.ref sl), some (.ref rq), some (.ref ph), some (.ref wq), some (.ref xl), some (.ref rl), some (.ref kn), some (.ref ev), none, none, none, none, none, none, none, none, none, none] ∧ Same X0 X ∧ X0 xl = none ∧ X xl = some (.lst (nmV ks)) ∧ ks.Nodup ∧ (∀ w ∈ ks, KeptOk rs mr w) ∧ ks.length ≤ 2, ?_, ?_⟩
    · obtain ⟨phk, hph, hpk⟩ := cx.hph
      obtain ⟨pl, hpl1, hpl2, hpl3, hpl4⟩ := hpk r0 hr0
      have offd : ph ≠ a := fun z => by
        rw [z, ha] at hph
        cases hph
      refine ⟨_, rfl, xl, rfl, ⟨_, SqL.of hxl⟩, fun D nD => ?_⟩
      refine lc_list (K := K) (a := xl) (xs := nmV xs) (fun j U => Same X0 U ∧ ∃ cs, U D = some (.lst (nmV cs)) ∧ cs.Sublist (xs.take j) ∧ (∀ w ∈ cs, w ∉ phs r0.nm)) ⟨same_upd nD, [], upd_same, List.nil_sublist _, (fun w h => nomatch h)⟩ (fun j U _ h => SqL.of (h.1 _ _ hxl)) ?_ ?_
      · rintro j x U hx ⟨sU, cs, hD, hsub, hno⟩
        obtain ⟨w, hw, rfl⟩ : ∃ w, xs[j]? = some w ∧ x = .str (SX.S w) := by
          unfold nmV at hx
          rw [List.getElem?_map] at hx
          cases z : xs[j]? with
          | none => rw [z] at hx; cases hx
          | some w => rw [z] at hx; exact ⟨w, rfl, (Option.some.inj hx).symm⟩
        have tk : xs.take (j + 1) = xs.take j ++ [w] := by rw [List.take_add_one, hw]; rfl
        have lcs := hsub.length_le
        rw [List.length_take] at lcs
        have bU := bt0.trans (But.of (a := a) sU)
        have hrU := (KeepT.but ha bU).seqT hr1
        refine ⟨rfl, _, rfl, _, rfl, _, rfl, rq, _, 1, .str (SX.S mr.so), rfl, rfl, hrU, atI_nat (j := 1) rfl, ph, .ref pl, rfl, by have h := DGet.k (k := Sum.inr (SX.S mr.so)) (bU _ _ offd hph); rw [← er0, hpl1, er0] at h; exact h, pl, nmV (phs r0.nm), rfl, .inl (SqL.of (bU _ _ hpl2 hpl3)), rfl, flat_names _, _, rfl, ?_⟩
        show if (!inV (.str (SX.S w)) (nmV (phs r0.nm))) = true then _ else _
        rw [in_names]
        by_cases hm : w ∈ phs r0.nm
        · refine ifF (by rw [decide_eq_true hm]; rfl) ⟨sU, cs, hD, ?_, hno⟩
          rw [tk]
          exact hsub.trans (List.sublist_append_left _ _)
        · refine ifT (by rw [decide_eq_false hm]; rfl) ⟨_, rfl, _, hD, by rw [nmV_len]; exact small1000 (by omega), Same.at_ sU nD, cs ++ [w], ?_, ?_, ?_⟩
          · rw [upd_same]
            unfold nmV
            rw [List.map_append]
            rfl
          · rw [tk]
            exact List.Sublist.append hsub (List.Sublist.refl _)
          · intro x hx
            rcases List.mem_append.mp hx with h | h
            · exact hno x h
            · rw [List.mem_singleton.mp h]
              exact hm
      · rintro U ⟨sU, cs, hD, hsub, hno⟩
        rw [nmV_len, List.take_length] at hsub
        refine ⟨D, cs, rfl, sU, nD, hD, hnd.sublist hsub, fun w hw => ⟨hnm w (hsub.subset hw), fun r hr e hin => ?_⟩, Nat.le_trans hsub.length_le hx2⟩
        have e2 : r = r0 := nm_one cx.sok.nd hr hr0 (e.trans er0.symm)
        rw [e2] at hin
        exact hno w hw (hpl4.mem_iff.mpr hin)
    rintro σ X1 ⟨xl, ks, rfl, s1, nxl, hxl, hkn2, hkk, hk2⟩
    have bt1 := bt0.trans (But.of (a := a) s1)
    have hb1 := s1 _ _ hb0
    have hrl1 := s1 _ _ hrl
    have hkn1 := s1 _ _ hkn
    have hev1 := s1 _ _ hev
    have nxla : xl ≠ a := fun z => by
      rw [z, hb0] at nxl
      cases nxl
    clear s1 nxl
    have kT1 := KeepT.but ha bt1
    -- the lists
    refine ⟨fun σ X => ∃ (L : Addr) (ps : List Addr) (pss : List (List (En × Bool))), σ = [some (.ref a), some (.int roof), some (.ref sl), some (.ref rq), some (.ref ph), some (.ref wq), some (.ref xl), some (.ref rl), some (.ref kn), some (.ref ev), some (.ref L), none, none, none, none, none, none, none, none, none] ∧ Same X1 X ∧ X1 L = none ∧ X L = some (.lst (ps.map V.ref)) ∧ Paired (InL K X X1 L) ps pss ∧ PsOk rs mr ks pss, ?_, ?_⟩
    · refine ⟨_, rfl, _, rfl, _, rfl, _, rfl, sl, ph, xl, a, .ref rq, sv, rs, mr, phs, ks, rfl, ⟨bt1 _ _ cx.nsl cx.hsl, dpAll_imm kT1 cx.hsv (immAll_map SRow.imm rs), cx.sok, dp_imm kT1 cx.row mr.imm, cx.so, cx.p2, cx.hph.go ha bt1, hxl, hkn2, hkk, hk2⟩, ⟨_, hb1⟩, fun X2 L ps pss s2 nL hL hps hpk => ?_⟩
      exact ⟨L, ps, pss, rfl, s2, nL, hL, hps, hpk⟩
    rintro σ X2 ⟨L, ps, pss, rfl, s2, nL, hL, hps, hpk⟩
    have bt2 := bt1.trans (But.of (a := a) s2)
    have hb2 := s2 _ _ hb1
    have hrl2 := s2 _ _ hrl1
    have hkn2' := s2 _ _ hkn1
    have hev2 := s2 _ _ hev1
    have nLa : L ≠ a := fun z => by
      rw [z, hb1] at nL
      cases nL
    have nLrl : rl ≠ L := fun z => by
      rw [← z, hrl1] at nL
      cases nL
    have nLkn : L ≠ kn := fun z => by
      rw [z, hkn1] at nL
      cases nL
    have nLH : H L = none := But.free bt1 hb1 nL
    have lps := paired_len hps
    have hrow2 := (KeepT.but ha bt2).seqT hr1
    -- every end
    refine ⟨fun σ X => ∃ (ev : Addr) (evs : List (En × Bool)) (y11 : Option V), σ = [some (.ref a), some (.int roof), some (.ref sl), some (.ref rq), some (.ref ph), some (.ref wq), some (.ref xl), some (.ref rl), some (.ref kn), some (.ref ev), some (.ref L), y11, none, none, none, none, none, none, none, none] ∧ Wst K H X a rl kn ev L [] [] evs ps pss ∧ (∀ x ∈ evs, PrOk rs mr ks x) ∧ evs.length ≤ 14 ∧ X a = some (.lst b1), ?_, ?_⟩
    · refine ⟨_, rfl, L, rfl, ⟨_, SqL.of hL⟩, for_list (K := K) (a := L) (xs := ps.map V.ref) (fun j σ X => ∃ (ev : Addr) (evs : List (En × Bool)) (y11 : Option V), σ = [some (.ref a), some (.int roof), some (.ref sl), some (.ref rq), some (.ref ph), some (.ref wq), some (.ref xl), some (.ref rl), some (.ref kn), some (.ref ev), some (.ref L), y11, none, none, none, none, none, none, none, none] ∧ Same X2 X ∧ ev ≠ a ∧ rl ≠ ev ∧ L ≠ ev ∧ (∃ v, X ev = some (.lst v) ∧ DpAll K X v (evs.map prD)) ∧ evs = (pss.take j).flatten)
        ⟨ev, [], none, rfl, Same.refl _, off nev, dre, (fun z => by rw [z, hev1] at nL; cases nL), ⟨[], hev2, .nil⟩, rfl⟩ (fun j σ X _ ⟨_, _, _, _, h, _⟩ => SqL.of (h _ _ hL)) ?_ ?_⟩
      · rintro j x σ X hx ⟨ev, evs, y11, rfl, sX, nea, nre, nLe, ⟨v, hv, hvd⟩, rfl⟩
        obtain ⟨p, hp, rfl⟩ := map_ref_at hx
        obtain ⟨xs', hxs', _, _, vs', hv', hvd'⟩ := paired_ix hps hp
        have l14 := flat_take_le pss (j + 1)
        rw [flat_take hxs', List.length_append] at l14
        have hpl := hpk.le
        have lv := dpAll_len hvd
        have lv' := dpAll_len hvd'
        rw [List.length_map] at lv lv'
        refine ⟨_, rfl, _, rfl, ev, p, v, vs', rfl, rfl, hv, sX _ _ hv', ?_, fun D nD => ?_⟩
        · exact Nat.le_trans (show _ ≤ 14 by omega) (by decide)
        have sD := same_upd (o := .lst (v ++ vs')) nD
        refine ⟨D, _, _, rfl, sX.trans sD, fun z => ?_, fun z => ?_, fun z => ?_, ⟨v ++ vs', upd_same, ?_⟩, (flat_take hxs').symm⟩
        · rw [z, sX _ _ hb2] at nD; cases nD
        · rw [← z, sX _ _ hrl2] at nD; cases nD
        · rw [← z, sX _ _ hL] at nD; cases nD
        · rw [List.map_append]
          exact dpAll_same sD (dpAll_appI hvd (dpAll_same sX hvd'))
      · rintro σ X ⟨ev, evs, y11, rfl, sX, nea, nre, nLe, hv, he⟩
        rw [List.length_map, lps, List.take_length] at he
        refine ⟨ev, evs, y11, rfl, ⟨bt2.trans (But.of sX), ⟨[], sX _ _ hrl2, .nil⟩, ⟨[], sX _ _ hkn2', .nil⟩, hv, sX _ _ hL, paired_mono (fun p xs ⟨h1, h2, vs, h3, h4⟩ => ⟨h1, fun z => ?_, fun z => ?_, vs, sX _ _ h3, dpAll_same sX h4⟩) hps, nrl, nLH, off nrl, off nkn, nea, nLa, drk, nre, nLrl, nLkn, nLe⟩, by rw [he]; exact hpk.ok, by rw [he]; exact hpk.le, sX _ _ hb2⟩
        · rw [z, hb1] at h2; cases h2
        · rw [z, hrl1] at h2; cases h2
    rintro σ X3 ⟨ev, evs, y11, rfl, W3, hevs, hev14, hb3⟩
    have wok3 : Wok rs mr roof ks [] [] evs pss := ⟨(fun r h => nomatch h), hpk.nd, (fun e h => nomatch h), hevs, hpk.ok, by have := hpk.le; show 0 + _ ≤ _; omega, by have := hpk.le; show 0 + _ ≤ _; omega, hev14, hpk.ln, hk2⟩
    have hrow : ∀ {Y : Hp}, But a H Y → SqT K Y rq [.str (SX.S mr.nm), .str (SX.S mr.so), .ref rt] := fun t => (KeepT.but ha t).seqT hr1
    have hwild : ∀ {Y : Hp}, But a H Y → SqT K Y wq [.bl wb, .int (wn : Nat)] := fun t => (KeepT.but ha t).seqT hwq
    have w0 := cx.w0
    have w1 := cx.w1
    clear hps hpk hL hev2 hkn2' hrl2 hb2 hb1 hrl1 hkn1 hev1 s2 bt1 bt2 hrow2 hb0 hxl hrl hkn hev bt0 lps nL nLa nLrl nLkn nLH dre drk
    -- the rules
    have l1 := wok3.l1
    have l4 := wok3.l4
    replace l1 : 0 + pss.flatten.length ≤ 14 := l1
    refine ⟨RIv K H a sl rq ph wq xl rl ev roof m rs mr ks evs, ⟨_, kn, L, [], [], ps, pss, b1, y11, none, none, none, none, none, none, none, none, rfl, rfl, W3, wok3, hb3, hB0.mono (by omega)⟩, ?_⟩
    clear W3 wok3 hb3 hB0 l1 l4
    rintro n σ Y ⟨kn, L, ru, kns, ps, pss, b', y11, y12, y13, y14, y15, y16, y17, y18, y19, rfl, rfl, W, wok, hb', hB'⟩
    have wl1 := wok.l1
    have wl2 := wok.l2
    have wl4 := wok.l4
    have lps := paired_len W.hps
    refine ⟨_, rfl, by show 0 ≤ sizeLine; decide, fun l0 nl0 => ?_⟩
    have s0 := same_upd (o := .lst []) nl0
    refine ⟨L, l0, ps.map V.ref, rfl, rfl, s0 _ _ W.hL, upd_same, _, rfl, ?_⟩
    rw [List.length_map, lps]
    have W0 := W.go hb' (But.of s0)
    have hb0 := s0 _ _ hb'
    generalize upd Y l0 (.lst []) = Y0 at W0 hb0 ⊢
    by_cases e0 : pss.length = 0
    · refine ifF (by rw [decide_eq_true e0]; rfl) ?_
      obtain ⟨rv, hr1', hr2'⟩ := W0.hrl
      refine ⟨_, rfl, q Y0 rl rv ru ks b' W0.bt W0.rH hr1' hr2' ⟨fun r h => (wok.rok r h).1, fun r h => (wok.rok r h).2.1, ?_, fun r h => (wok.rok r h).2.2.1, fun r h => (wok.rok r h).2.2.2.1, fun r h => (wok.rok r h).2.2.2.2.1, wok.k2, fun r h => (wok.rok r h).2.2.2.2.2.1, fun r h => (wok.rok r h).2.2.2.2.2.2, by omega⟩ hb0 (hB'.mono (by omega))⟩
      exact (List.nodup_append.mp wok.nd).1
    · refine ifT (by rw [decide_eq_false e0]; rfl) ?_
      refine ⟨fun σ' Z => ∃ n', n' < pss.flatten.length + pss.length ∧ RIv K H a sl rq ph wq xl rl ev roof m rs mr ks evs n' σ' Z, fun σ' Z h => h, ?_⟩
      refine ⟨_, rfl, _, rfl, L, _, rfl, .inl (SqL.of W0.hL), a, pss.length, _, b', by rw [List.length_map, lps]; rfl, hb0, hB', by omega, by omega, by omega, fun r b1 r0 rc hB1 => ?_⟩
      obtain ⟨at_, rfl⟩ := Int.eq_ofNat_of_zero_le r0
      have hat : at_ < pss.length := by omega
      have W1 := W0.go hb0 (But.upd (But.refl a Y0) (o := .lst b1))
      have hb1 : (upd Y0 a (.lst b1)) a = some (.lst b1) := upd_same
      generalize upd Y0 a (.lst b1) = Y1 at W1 hb1 ⊢
      obtain ⟨p, hp⟩ : ∃ p, ps[at_]? = some p := ⟨ps[at_]'(by omega), List.getElem?_eq_getElem _⟩
      obtain ⟨xs, hxs, hpL, hpa, hpr, vs, hvs, hvd⟩ := paired_ix W1.hps hp
      have lvs := dpAll_len hvd
      rw [List.length_map] at lvs
      have hpm : (ps.map V.ref)[at_]? = some (.ref p) := by rw [List.getElem?_map, hp]; rfl
      refine ⟨_, rfl, _, rfl, L, _, _, .ref p, rfl, rfl, SqL.of W1.hL, atI_nat hpm, by show 0 ≤ sizeLine; decide, fun l2 nl2 => ?_⟩
      have s2 := same_upd (o := .lst []) nl2
      refine ⟨p, l2, vs, rfl, rfl, s2 _ _ hvs, upd_same, _, rfl, ?_⟩
      have W2 := W1.go hb1 (But.of s2)
      have hb2 := s2 _ _ hb1
      have hvs2 := s2 _ _ hvs
      have hvd2 := dpAll_same s2 hvd
      generalize upd Y1 l2 (.lst []) = Y2 at W2 hb2 hvs2 hvd2 ⊢
      by_cases ex : vs.length = 0
      · refine ifT (decide_eq_true ex) ?_
        refine ⟨_, rfl, _, rfl, (at_ : Nat), rfl, L, _, rfl, SqL.of W2.hL, fun p1 np1 => ?_⟩
        have s3 := same_upd (o := .lst (cutV (ps.map V.ref) none (some ((at_ : Nat) : Int)))) np1
        refine ⟨_, rfl, _, rfl, _, _, rfl, rfl, ((at_ : Nat) : Int) + 1, rfl, L, _, rfl, SqL.of (s3 _ _ W2.hL), fun p2 np2 => ?_⟩
        have s4 := same_upd (o := .lst (cutV (ps.map V.ref) (some (((at_ : Nat) : Int) + 1)) none)) np2
        refine ⟨p1, p2, _, _, rfl, rfl, s4 _ _ upd_same, upd_same, ?_, fun L' nL' => ?_⟩
        · have h1 := cutV_length (ps.map V.ref) none (some ((at_ : Nat) : Int))
          have h2 := cutV_length (ps.map V.ref) (some (((at_ : Nat) : Int) + 1)) none
          rw [List.length_map] at h1 h2
          exact Nat.le_trans (show _ ≤ 10 by omega) (by decide)
        have s5 := same_upd (o := .lst (cutV (ps.map V.ref) none (some ((at_ : Nat) : Int)) ++ cutV (ps.map V.ref) (some (((at_ : Nat) : Int) + 1)) none)) nL'
        have x0 : xs = [] := List.length_eq_zero_iff.mp (by omega)
        have ef : (pss.take at_ ++ pss.drop (at_ + 1)).flatten = pss.flatten := by
          rw [flat_out hxs, x0, List.flatten_append, List.nil_append]
        have el : (pss.take at_ ++ pss.drop (at_ + 1)).length = pss.length - 1 := by
          rw [List.length_append, List.length_take, List.length_drop]
          omega
        refine ⟨pss.flatten.length + pss.length - 1, by omega, kn, L', ru, kns, ps.take at_ ++ ps.drop (at_ + 1), pss.take at_ ++ pss.drop (at_ + 1), b1, _, _, _, _, _, _, _, _, _, by rw [ef, el]; omega, rfl, W2.newL hb2 ((s3.trans s4).free nL') (s3.trans (s4.trans s5)) ?_ (paired_app (paired_take _ W2.hps) (paired_drop _ W2.hps)), ⟨wok.rok, by rw [ef]; exact wok.nd, wok.kn, wok.ev, by rw [ef]; exact wok.ps, by rw [ef]; exact wok.l1, by rw [ef]; exact wok.l2, wok.l3, by omega, wok.k2⟩, (s3.trans (s4.trans s5)) _ _ hb2, hB1.mono (by rw [ef, el]; omega)⟩
        rw [upd_same, cutV_to, show (((at_ : Nat) : Int) + 1) = ((at_ + 1 : Nat) : Int) from rfl, cutV_from, List.map_append, List.map_take, List.map_drop]
      · refine ifF (decide_eq_false ex) ?_
        obtain ⟨x, xs', rfl⟩ : ∃ x xs', xs = x :: xs' := by
          cases xs with
          | nil => exact absurd lvs ex
          | cons x xs' => exact ⟨x, xs', rfl⟩
        obtain ⟨t0, tv, vs', rfl, ht0, htv, hvd3⟩ : ∃ t0 tv vs', vs = .ref t0 :: vs' ∧ SqT K Y2 t0 [tv, .bl x.2] ∧ Dp K Y2 tv x.1.d ∧ DpAll K Y2 vs' (xs'.map prD) := by
          cases hvd2 with
          | cons h0 h1 =>
            cases h0 with
            | tup hS hA =>
              cases hA with
              | cons a1 hA =>
                cases hA with
                | cons a2 hA =>
                  cases hA
                  cases a2
                  exact ⟨_, _, _, rfl, hS, a1, h1⟩
        have xok := wok.ps x (by rw [flat_out hxs]; exact List.mem_append_right _ (List.mem_append_left _ (List.mem_cons_self ..)))
        refine ⟨_, rfl, _, rfl, L, _, _, .ref p, rfl, rfl, SqL.of W2.hL, atI_nat hpm, p, _, 0, .ref t0, rfl, rfl, SqL.of hvs2, atI_nat (j := 0) rfl, t0, _, rfl, ht0, rfl, _, _, rfl, _, _, rfl, rfl, ?_⟩
        refine ⟨fun σ Z => ∃ (ps' : List Addr) (pss' : List (List (En × Bool))), σ = [some (.ref a), some (.int roof), some (.ref sl), some (.ref rq), some (.ref ph), some (.ref wq), some (.ref xl), some (.ref rl), some (.ref kn), some (.ref ev), some (.ref L), y11, some (.int (at_ : Nat)), some tv, some (.bl x.2), y15, y16, y17, y18, y19] ∧ Wst K H Z a rl kn ev L ru kns evs ps' pss' ∧ pss.flatten.Perm (x :: pss'.flatten) ∧ pss'.length = pss.length ∧ Z a = some (.lst b1) ∧ Dp K Z tv x.1.d, ?_, ?_⟩
        · refine ⟨_, rfl, _, rfl, L, _, _, .ref p, rfl, rfl, SqL.of W2.hL, atI_nat hpm, 1, rfl, p, _, rfl, SqL.of hvs2, fun p3 np3 => ?_⟩
          rw [show (1 : Int) = ((1 : Nat) : Int) from rfl, cutV_from]
          have s3 := same_upd (o := .lst ((V.ref t0 :: vs').drop 1)) np3
          have W3 := W2.go hb2 (But.of s3)
          have hb3 := s3 _ _ hb2
          have hp3 : (upd Y2 p3 (.lst ((V.ref t0 :: vs').drop 1))) p3 = some (.lst vs') := upd_same
          have hd3 := dpAll_same s3 hvd3
          have htv3 := dp_same s3 htv
          have n3 : p3 ≠ L ∧ p3 ≠ a ∧ p3 ≠ rl := by
            obtain ⟨rv, r1, _⟩ := W2.hrl
            refine ⟨fun z => ?_, fun z => ?_, fun z => ?_⟩
            · rw [z, W2.hL] at np3; cases np3
            · rw [z, hb2] at np3; cases np3
            · rw [z, r1] at np3; cases np3
          generalize upd Y2 p3 (.lst ((V.ref t0 :: vs').drop 1)) = Y3 at W3 hb3 hp3 hd3 htv3 ⊢
          have hapl : at_ < ps.length := by omega
          refine ⟨_, rfl, _, rfl, L, _, _, at_, rfl, rfl, W3.hL, ixN_nat (by rw [List.length_map]; exact hapl), ?_⟩
          rw [show (ps.map V.ref).set at_ (.ref p3) = (ps.set at_ p3).map V.ref from (List.map_set ..).symm]
          refine ⟨ps.set at_ p3, pss.set at_ xs', rfl, W3.setL (paired_set W3.hps ⟨n3.1, n3.2.1, n3.2.2, vs', hp3, hd3⟩), ?_, List.length_set .., ?_, dp_imm (KeepT.at_ W3.hL lst_no) htv3 x.1.imm⟩
          · rw [flat_set hat, flat_out hxs]
            exact List.perm_middle
          · rw [upd_ne W3.La.symm]; exact hb3
        clear hvd3 htv ht0 hvs2 hvd2 hb2 W2 hvs hvd hb1 W1 hpm hp hpL hpa hpr lvs ex hxs
        rintro σ Z ⟨ps', pss', rfl, W3, hperm, hpl, hb3, htv⟩
        have lfl := hperm.length_eq
        rw [List.length_cons] at lfl
        have hps' : ∀ y ∈ pss'.flatten, PrOk rs mr ks y := fun y hy => wok.ps y (hperm.mem_iff.mpr (List.mem_cons_of_mem _ hy))
        have hnd' : (ru.map RRow.tg ++ (x.1 :: pss'.flatten.map (·.1))).Nodup := ((List.Perm.append_left _ (hperm.map (·.1))).nodup_iff).mp wok.nd
        refine ⟨fun σ Z => ∃ (ru' : List RRow) (b2 : List V) (y11 y15 y16 y17 y18 y19 : Option V), σ = [some (.ref a), some (.int roof), some (.ref sl), some (.ref rq), some (.ref ph), some (.ref wq), some (.ref xl), some (.ref rl), some (.ref kn), some (.ref ev), some (.ref L), y11, some (.int (at_ : Nat)), some tv, some (.bl x.2), y15, y16, y17, y18, y19] ∧ Wst K H Z a rl kn ev L ru' kns evs ps' pss' ∧ (∀ r ∈ ru', r.ma = mr.nm ∧ TgOk rs mr r.tg ∧ r.op ∈ opsOf roof ∧ r.os.length = arOf r.op ∧ (∀ o ∈ r.os, OdOk rs mr o) ∧ (∀ w ∈ enName r.tg, w ∈ ks) ∧ ∀ o ∈ r.os, ∀ w ∈ odName o, w ∈ ks) ∧ (ru'.map RRow.tg ++ pss'.flatten.map (·.1)).Nodup ∧ ru'.length ≤ ru.length + 1 ∧ Z a = some (.lst b2) ∧ BoxL (m + 121 + 22 * (19 - (pss.flatten.length + pss.length)) + 21) b2 ∧ Dp K Z tv x.1.d, ?_, ?_⟩
        · refine ⟨_, rfl, x.2, rfl, ?_⟩
          by_cases hx : x.2 = true
          · refine ifT hx ?_
            refine ⟨_, rfl, _, rfl, wq, _, 1, .int (wn : Nat), rfl, rfl, hwild W3.bt, atI_nat (j := 1) rfl, a, wn, _, b1, rfl, hb3, hB1, by omega, by omega, by omega, fun r4 b4 r40 r41 hB4 => ?_⟩
            have W4 := W3.go hb3 (But.upd (But.refl a Z) (o := .lst b4))
            have hb4 : (upd Z a (.lst b4)) a = some (.lst b4) := upd_same
            have htv4 := dp_imm (KeepT.but hb3 (But.upd (But.refl a Z) (o := .lst b4))) htv x.1.imm
            generalize upd Z a (.lst b4) = Z4 at W4 hb4 htv4 ⊢
            refine ⟨_, _, rfl, rfl, _, rfl, ?_⟩
            by_cases h40 : r4 > 0
            · refine ifT (decide_eq_true h40) ?_
              -- the op
              refine ⟨fun σ Y => ∃ (o : List Nat × Nat) (b5 : List V), σ = [some (.ref a), some (.int roof), some (.ref sl), some (.ref rq), some (.ref ph), some (.ref wq), some (.ref xl), some (.ref rl), some (.ref kn), some (.ref ev), some (.ref L), y11, some (.int (at_ : Nat)), some tv, some (.bl x.2), some (.str (SX.S o.1)), some (.int (o.2 : Nat)), y17, y18, y19] ∧ o ∈ opsR roof ∧ But a Z4 Y ∧ Y a = some (.lst b5) ∧ BoxL (m + 121 + 22 * (19 - (pss.flatten.length + pss.length)) + 3) b5, ?_, ?_⟩
              · refine ⟨_, rfl, _, rfl, roof, rfl, fun Y5 lo ov sO nlo hlo hov => ?_⟩
                have hb5 := sO _ _ hb4
                have nloa : lo ≠ a := fun z => by rw [z, hb4] at nlo; cases nlo
                have lov := dpAll_len hov
                rw [List.length_map] at lov
                obtain ⟨ol1, ol2⟩ := opsR_len roof
                refine ⟨a, lo, _, b4, ov, rfl, hb5, hB4, by omega, SqL.of hlo, nloa, by omega, by omega, fun i v b5 hv hB5 => ?_⟩
                obtain ⟨dd, hdd, hde⟩ := dpAll_at hov hv
                rw [List.getElem?_map] at hdd
                obtain ⟨o, eo, rfl⟩ : ∃ o, (opsR roof)[i]? = some o ∧ dd = opRD o := by
                  cases z : (opsR roof)[i]? with
                  | none => rw [z] at hdd; cases hdd
                  | some y => rw [z] at hdd; exact ⟨y, rfl, (Option.some.inj hdd).symm⟩
                obtain ⟨to, rfl, hto⟩ : ∃ to, v = .ref to ∧ SqT K Y5 to [.str (SX.S o.1), .int (o.2 : Nat)] := by
                  cases hde with
                  | tup hS hA =>
                    cases hA with
                    | cons a1 hA =>
                      cases hA with
                      | cons a2 hA =>
                        cases hA
                        cases a1
                        cases a2
                        exact ⟨_, rfl, hS⟩
                have bY : But a Y5 (upd Y5 a (.lst b5)) := But.upd (But.refl a Y5)
                refine ⟨to, _, rfl, (KeepT.but hb5 bY).seqT hto, rfl, _, _, rfl, _, _, rfl, rfl, o, b5, rfl, List.mem_of_getElem? eo, (But.of sO).trans bY, upd_same, hB5.mono (by omega)⟩
              rintro σ Y5 ⟨o, b5, rfl, ho, bt5, hb5, hB5⟩
              obtain ⟨ho1, ho2⟩ := opsR_ok ho
              have W5 := W4.go hb4 bt5
              have htv5 := dp_imm (KeepT.but hb4 bt5) htv4 x.1.imm
              clear hB4 hb4 htv4 W4 bt5
              -- what it may need
              refine ⟨fun σ Y => σ = [some (.ref a), some (.int roof), some (.ref sl), some (.ref rq), some (.ref ph), some (.ref wq), some (.ref xl), some (.ref rl), some (.ref kn), some (.ref ev), some (.ref L), some (.ref kn), some (.int (at_ : Nat)), some tv, some (.bl x.2), some (.str (SX.S o.1)), some (.int (o.2 : Nat)), y17, y18, y19] ∧ Y = Y5, ⟨_, rfl, rfl, rfl⟩, ?_⟩
              rintro σ Y6 ⟨rfl, rfl⟩
              refine ⟨fun σ Y => ∃ (sm : Addr) (smv : List V) (es : List En), σ = [some (.ref a), some (.int roof), some (.ref sl), some (.ref rq), some (.ref ph), some (.ref wq), some (.ref xl), some (.ref rl), some (.ref kn), some (.ref ev), some (.ref L), some (.ref sm), some (.int (at_ : Nat)), some tv, some (.bl x.2), some (.str (SX.S o.1)), some (.int (o.2 : Nat)), y17, y18, y19] ∧ Same Y6 Y ∧ Y sm = some (.lst smv) ∧ DpAll K Y smv (es.map En.d) ∧ sm ≠ a ∧ smv.length ≤ 100 ∧ ∀ e ∈ es, FrOk rs mr e ∧ ∀ w ∈ enName e, w ∈ ks, ?_, ?_⟩
              · obtain ⟨kv, k1, k2⟩ := W5.hkn
                obtain ⟨v, v1, v2⟩ := W5.hev
                have lkv := dpAll_len k2
                have lev := dpAll_len v2
                rw [List.length_map] at lkv lev
                have l3 := wok.l3
                refine ⟨_, rfl, wq, _, 0, .bl wb, rfl, rfl, hwild W5.bt, atI_nat (j := 0) rfl, wb, rfl, ?_⟩
                by_cases hw : wb = true
                · refine ifT hw ?_
                  refine ⟨_, rfl, ev, rfl, ⟨_, SqL.of v1⟩, fun D nD => ?_⟩
                  refine lc_list (K := K) (a := ev) (xs := v) (fun j U => Same Y6 U ∧ ∃ (sv : List V) (es : List En), U D = some (.lst sv) ∧ DpAll K U sv (es.map En.d) ∧ sv.length ≤ j ∧ ∀ e ∈ es, FrOk rs mr e ∧ ∀ w ∈ enName e, w ∈ ks) ⟨same_upd nD, [], [], upd_same, .nil, Nat.le_refl _, (fun e h => nomatch h)⟩ (fun j U _ h => SqL.of (h.1 _ _ v1)) ?_ ?_
                  · rintro j xv U hxv ⟨sU, sv, es, hD, hsv, lsv, hes⟩
                    obtain ⟨dd, hdd, hde⟩ := dpAll_at v2 hxv
                    rw [List.getElem?_map] at hdd
                    obtain ⟨y, ey, rfl⟩ : ∃ y, evs[j]? = some y ∧ dd = prD y := by
                      cases z : evs[j]? with
                      | none => rw [z] at hdd; cases hdd
                      | some y => rw [z] at hdd; exact ⟨y, rfl, (Option.some.inj hdd).symm⟩
                    have hj : j < evs.length := (List.getElem?_eq_some_iff.mp ey).1
                    have yok := wok.ev y (List.mem_of_getElem? ey)
                    obtain ⟨t2, u2, rfl, ht2, hu2⟩ : ∃ t2 u2, xv = .ref t2 ∧ SqT K U t2 [u2, .bl y.2] ∧ Dp K U u2 y.1.d := by
                      cases dp_same sU hde with
                      | tup hS hA =>
                        cases hA with
                        | cons a1 hA =>
                          cases hA with
                          | cons a2 hA =>
                            cases hA
                            cases a2
                            exact ⟨_, _, rfl, hS, a1⟩
                    obtain ⟨q2, s2, rest, rfl, hq2, hs2⟩ := en_head hu2
                    have yes : FrOk rs mr y.1 → ∃ acc, U D = some (.lst acc) ∧ acc.length < sizeLine ∧ (Same Y6 (upd U D (.lst (acc ++ [.ref q2]))) ∧ ∃ (sv : List V) (es : List En), (upd U D (.lst (acc ++ [.ref q2]))) D = some (.lst sv) ∧ DpAll K (upd U D (.lst (acc ++ [.ref q2]))) sv (es.map En.d) ∧ sv.length ≤ j + 1 ∧ ∀ e ∈ es, FrOk rs mr e ∧ ∀ w ∈ enName e, w ∈ ks) := fun hf => by
                      have kk : KeepT U (upd U D (.lst (sv ++ [.ref q2]))) := KeepT.at_ hD lst_no
                      refine ⟨sv, hD, small1000 (by omega), Same.at_ sU nD, sv ++ [.ref q2], es ++ [y.1], upd_same, ?_, by rw [List.length_append]; exact Nat.succ_le_succ lsv, fun e he => ?_⟩
                      · rw [List.map_append]
                        exact dpAll_appI (dpAll_imm kk hsv (immAll_map En.imm es)) (.cons (dp_imm kk hu2 y.1.imm) .nil)
                      · rcases List.mem_append.mp he with h | h
                        · exact hes e h
                        · rw [List.mem_singleton.mp h]
                          exact ⟨hf, yok.ks⟩
                    refine ⟨rfl, ?_⟩
                    refine ⟨_, rfl, t2, _, 0, .ref q2, rfl, rfl, ht2, atI_nat (j := 0) rfl, q2, _, 0, .str s2, rfl, rfl, hq2, atI_nat (j := 0) rfl, rfl, _, rfl, ?_⟩
                    cases hk : isK y.1 with
                    | true =>
                      rw [hk] at hs2
                      refine ifT hs2 ?_
                      refine iteT ?_
                      exact ⟨_, rfl, t2, _, 0, .ref q2, rfl, rfl, ht2, atI_nat (j := 0) rfl, yes (yok.fr (.inr hk))⟩
                    | false =>
                      rw [hk] at hs2
                      refine ifF hs2 ?_
                      refine ⟨_, rfl, t2, _, 1, .bl y.2, rfl, rfl, ht2, atI_nat (j := 1) rfl, y.2, rfl, ?_⟩
                      cases hy : y.2 with
                      | true => exact iteF ⟨sU, sv, es, hD, hsv, by omega, hes⟩
                      | false => exact iteT ⟨_, rfl, t2, _, 0, .ref q2, rfl, rfl, by rw [hy] at ht2; exact ht2, atI_nat (j := 0) rfl, yes (yok.fr (.inl hy))⟩
                  · rintro U ⟨sU, sv, es, hD, hsv, lsv, hes⟩
                    have nDa : D ≠ a := fun z => by rw [z, hb5] at nD; cases nD
                    exact ⟨D, sv, es, rfl, sU, hD, hsv, nDa, by omega, hes⟩
                · refine ifF (Bool.eq_false_iff.mpr hw) ?_
                  exact ⟨kn, kv, kns, rfl, Same.refl _, k1, k2, W5.ka, by omega, wok.kn⟩
              rintro σ Y7 ⟨sm, smv, es, rfl, s7, hsm, hsmd, nsma, lsm, hes⟩
              have W7 := W5.go hb5 (But.of s7)
              have hb7 := s7 _ _ hb5
              have htv7 := dp_same s7 htv5
              clear W5 hb5 htv5 s7
              obtain ⟨rv, hr1', hr2'⟩ := W7.hrl
              have ho3 := ar3 o.1
              refine ⟨_, rfl, .inl ⟨rfl, _, SqL.of hr1'⟩, ?_⟩
              refine ⟨_, rfl, rq, _, 0, .str (SX.S mr.nm), rfl, rfl, hrow W7.bt, atI_nat (j := 0) rfl, _, rfl, _, rfl, _, rfl, o.2, rfl, by omega, by omega, fun D nD => ?_⟩
              have nDa : a ≠ D := ne_of_none hb7 nD
              refine lc_range (lo := 0) (n := ((o.2 : Nat) : Int).toNat) (fun j U => But a Y7 U ∧ ∃ (ov b' : List V) (os : List Od), U a = some (.lst b') ∧ BoxL (m + 121 + 22 * (19 - (pss.flatten.length + pss.length)) + 3 + 6 * j) b' ∧ U D = some (.lst ov) ∧ DpAll K U ov (os.map Od.d) ∧ os.length = j ∧ ∀ o ∈ os, OdIn es o)
                ⟨But.of (same_upd nD), [], b5, [], by rw [upd_ne nDa]; exact hb7, hB5, upd_same, .nil, rfl, (fun o h => nomatch h)⟩ ?_ ?_
              · rintro j U hj ⟨btU, ov, b6, os, hbU, hBU, hDU, hov, hol, hos⟩
                have hsmU := btU _ _ nsma hsm
                refine ⟨rfl, yesT ?_⟩
                refine ⟨_, rfl, _, rfl, a, sm, _, b6, smv, es, rfl, hsmU, dpAll_imm (KeepT.but hb7 btU) hsmd (immAll_map En.imm es), nsma, lsm, hbU, hBU, by omega, fun U2 v o2 b7 bt2 hv2 ho2 hb2 hB2 => ?_⟩
                have hD2 := bt2 _ _ nDa.symm hDU
                have lov := dpAll_len hov
                rw [List.length_map, hol] at lov
                have kk : KeepT U2 (upd U2 D (.lst (ov ++ [v]))) := KeepT.at_ hD2 lst_no
                refine ⟨ov, hD2, small1000 (by omega), ?_, ov ++ [v], b7, os ++ [o2], by rw [upd_ne nDa]; exact hb2, hB2.mono (by omega), upd_same, ?_, by rw [List.length_append, hol]; rfl, fun z hz => ?_⟩
                · exact fun c oo nc hc => by
                    rw [upd_ne (ne_of_none hc nD)]
                    exact (btU.trans bt2) c oo nc hc
                · rw [List.map_append]
                  exact dpAll_appI (dpAll_imm ((KeepT.but hbU bt2).trans kk) hov (immAll_map Od.imm os)) (.cons (dp_imm kk hv2 o2.imm) .nil)
                · rcases List.mem_append.mp hz with h | h
                  · exact hos z h
                  · rw [List.mem_singleton.mp h]
                    exact ho2
              rintro U ⟨btU, ov, b6, os, hbU, hBU, hDU, hov, hol, hos⟩
              have hol : os.length = o.2 := hol
              refine ⟨D, _, rfl, .inl ⟨SqL.of hDU, fun t1 nt1 => ?_⟩⟩
              have k1 := same_upd (o := .tup ov) nt1
              have W8 := W7.go hb7 (btU.trans (But.of k1))
              have hb8 := k1 _ _ hbU
              have htv8 := dp_imm (KeepT.but hb7 (btU.trans (But.of k1))) htv7 x.1.imm
              have dos : Dp K (upd U t1 (.tup ov)) (.ref t1) (.tuple (os.map Od.d)) := .tup (SqT.of upd_same) (dpAll_same k1 hov)
              generalize upd U t1 (.tup ov) = U8 at W8 hb8 htv8 dos ⊢
              refine ⟨by show 4 ≤ sizeLine; decide, fun t3 nt3 => ?_⟩
              have k3 := same_upd (o := .tup [.str (SX.S mr.nm), tv, .str (SX.S o.1), .ref t1]) nt3
              have W9 := W8.go hb8 (But.of k3)
              have hb9 := k3 _ _ hb8
              have htv9 := dp_same k3 htv8
              have drow : Dp K (upd U8 t3 (.tup [.str (SX.S mr.nm), tv, .str (SX.S o.1), .ref t1])) (.ref t3) (RRow.d ⟨mr.nm, x.1, o.1, os⟩) := .tup (SqT.of upd_same) (.cons (.str _) (.cons (dp_same k3 htv8) (.cons (.str _) (.cons (dp_same k3 dos) .nil))))
              generalize upd U8 t3 (.tup [.str (SX.S mr.nm), tv, .str (SX.S o.1), .ref t1]) = U9 at W9 hb9 htv9 drow ⊢
              obtain ⟨rv9, r91, r92⟩ := W9.hrl
              have lrv := dpAll_len r92
              rw [List.length_map] at lrv
              refine ⟨rl, rv9, .ref t3, rfl, rfl, r91, by rw [lrv]; exact small1000 (by omega), ?_⟩
              have kl : KeepT U9 (upd U9 rl (.lst (rv9 ++ [.ref t3]))) := KeepT.at_ r91 lst_no
              refine ⟨ru ++ [⟨mr.nm, x.1, o.1, os⟩], b6, _, _, _, _, _, _, rfl, W9.setR ?_, fun r hr => ?_, ?_, by rw [List.length_append]; exact Nat.le_refl _, ?_, hBU.mono (by omega), dp_imm kl htv9 x.1.imm⟩
              · rw [List.map_append]
                exact dpAll_appI (dpAll_imm kl r92 (immAll_map RRow.imm ru)) (.cons (dp_imm kl drow (RRow.imm _)) .nil)
              · rcases List.mem_append.mp hr with h | h
                · exact wok.rok r h
                · rw [List.mem_singleton.mp h]
                  refine ⟨rfl, xok.tg hx, ho1, hol.trans ho2.symm, fun z hz => ?_, xok.ks, fun z hz w hw => ?_⟩
                  · have h := hos z hz
                    cases z with
                    | en e => exact (hes e h).1
                    | own => trivial
                    | num n => exact h
                  · have h := hos z hz
                    cases z with
                    | en e => exact (hes e h).2 w hw
                    | own => exact nomatch hw
                    | num n => exact nomatch hw
              · rw [List.map_append, List.append_assoc]
                exact hnd'
              · rw [upd_ne W9.ra.symm]; exact hb9
            · refine ifF (decide_eq_false h40) ?_
              exact ⟨ru, b4, _, _, _, _, _, _, rfl, W4, wok.rok, hnd'.sublist (List.Sublist.append (List.Sublist.refl _) (List.sublist_cons_self ..)), by omega, hb4, hB4.mono (by omega), htv4⟩
          · refine ifF (Bool.eq_false_iff.mpr hx) ?_
            exact ⟨ru, b1, _, _, _, _, _, _, rfl, W3, wok.rok, hnd'.sublist (List.Sublist.append (List.Sublist.refl _) (List.sublist_cons_self ..)), by omega, hb3, hB1.mono (by omega), htv⟩
        rintro σ Z4 ⟨ru', b2, z11, z15, z16, z17, z18, z19, rfl, W4, hrok, hnd4, hrl4, hb4, hB4, htv4⟩
        obtain ⟨q2, s2, rest, rfl, hq2, hs2⟩ := en_head htv4
        obtain ⟨kv, k1, k2⟩ := W4.hkn
        have lkv := dpAll_len k2
        rw [List.length_map] at lkv
        have stop : ∃ n', n' < pss.flatten.length + pss.length ∧ RIv K H a sl rq ph wq xl rl ev roof m rs mr ks evs n' [some (.ref a), some (.int roof), some (.ref sl), some (.ref rq), some (.ref ph), some (.ref wq), some (.ref xl), some (.ref rl), some (.ref kn), some (.ref ev), some (.ref L), z11, some (.int (at_ : Nat)), some (.ref q2), some (.bl x.2), z15, z16, z17, z18, z19] Z4 :=
          ⟨_, by omega, kn, L, ru', kns, ps', pss', b2, _, _, _, _, _, _, _, _, _, rfl, rfl, W4, ⟨hrok, hnd4, wok.kn, wok.ev, hps', by omega, by omega, wok.l3, by omega, wok.k2⟩, hb4, hB4.mono (by omega)⟩
        have add : FrOk rs mr x.1 → ∀ (Y : Hp) (l3 kn' : Addr), Same Z4 Y → Y kn' = none → ∃ n', n' < pss.flatten.length + pss.length ∧ RIv K H a sl rq ph wq xl rl ev roof m rs mr ks evs n' [some (.ref a), some (.int roof), some (.ref sl), some (.ref rq), some (.ref ph), some (.ref wq), some (.ref xl), some (.ref rl), some (.ref kn'), some (.ref ev), some (.ref L), z11, some (.int (at_ : Nat)), some (.ref q2), some (.bl x.2), z15, z16, z17, z18, z19] (upd Y kn' (.lst (kv ++ [.ref q2]))) := fun hf Y l3 kn' sY nkn => by
          have s9 := same_upd (o := .lst (kv ++ [.ref q2])) nkn
          have sA := sY.trans s9
          refine ⟨_, by omega, kn', L, ru', kns ++ [x.1], ps', pss', b2, _, _, _, _, _, _, _, _, _, rfl, rfl, W4.newK hb4 (fun z => by rw [sY _ _ z.choose_spec] at nkn; cases nkn) sA ⟨_, upd_same, ?_⟩, ⟨hrok, hnd4, fun e he => ?_, wok.ev, hps', by omega, by rw [List.length_append]; show _ + 1 + _ ≤ _; omega, wok.l3, by omega, wok.k2⟩, sA _ _ hb4, hB4.mono (by omega)⟩
          · rw [List.map_append]
            exact dpAll_appI (dpAll_same sA k2) (.cons (dp_same sA htv4) .nil)
          · rcases List.mem_append.mp he with h | h
            · exact wok.kn e h
            · rw [List.mem_singleton.mp h]
              exact ⟨hf, xok.ks⟩
        have put : FrOk rs mr x.1 → ∀ l3, Z4 l3 = none → ∃ l b xs zs, V.ref kn = V.ref l ∧ V.ref l3 = V.ref b ∧ (upd Z4 l3 (.lst [.ref q2])) l = some (.lst xs) ∧ (upd Z4 l3 (.lst [.ref q2])) b = some (.lst zs) ∧ xs.length + zs.length ≤ sizeLine ∧ ∀ p, (upd Z4 l3 (.lst [.ref q2])) p = none → ∃ n', n' < pss.flatten.length + pss.length ∧ RIv K H a sl rq ph wq xl rl ev roof m rs mr ks evs n' [some (.ref a), some (.int roof), some (.ref sl), some (.ref rq), some (.ref ph), some (.ref wq), some (.ref xl), some (.ref rl), some (.ref p), some (.ref ev), some (.ref L), z11, some (.int (at_ : Nat)), some (.ref q2), some (.bl x.2), z15, z16, z17, z18, z19] (upd (upd Z4 l3 (.lst [.ref q2])) p (.lst (xs ++ zs))) := fun hf l3 nl3 => by
          have s3 := same_upd (o := .lst [.ref q2]) nl3
          exact ⟨kn, l3, kv, [.ref q2], rfl, rfl, s3 _ _ k1, upd_same, Nat.le_trans (show kv.length + 1 ≤ 15 by omega) (by decide), fun p np => add hf _ l3 p s3 np⟩
        refine ⟨_, rfl, x.2, rfl, ?_⟩
        cases hx : x.2 with
        | false =>
          rw [hx] at put
          refine iteT ?_
          exact ⟨_, rfl, _, rfl, by show 1 ≤ sizeLine; decide, fun l3 nl3 => put (xok.fr (.inl hx)) l3 nl3⟩
        | true =>
          rw [hx] at put stop
          refine iteF ?_
          refine ⟨_, rfl, q2, _, 0, .str s2, rfl, rfl, hq2, atI_nat (j := 0) rfl, rfl, _, rfl, ?_⟩
          cases hk : isK x.1 with
          | true =>
            rw [hk] at hs2
            refine ifT hs2 ?_
            exact ⟨_, rfl, _, rfl, by show 1 ≤ sizeLine; decide, fun l3 nl3 => put (xok.fr (.inr hk)) l3 nl3⟩
          | false =>
            rw [hk] at hs2
            exact ifF hs2 stop
end
/-! ### units -/
theorem hu65 {k : Nat} {A : Around} (r : Room k A) : A.units + 65 < cLine := by
  have := r.un
  omega
/-! ### dict(pairs) whose keys are tuples, with tuples in them: a dict that isn't followed -/
mutual
def keyD : PyData → NestedKey
  | .tuple ds => .tup (keyDs ds)
  | .list _ => .none
  | .dict _ => .none
  | .none => .none
  | .bool b => .num (if b = true then 1 else 0)
  | .int i => .num i
  | .str x => .text x
def keyDs : List PyData → List NestedKey
  | [] => []
  | d :: ds => keyD d :: keyDs ds
end
section
variable {X : Cx} {pins : List (Addr × Obj)} {σ : L2.St} {H : Hp} {s : Shared}
mutual
theorem nst (I : Inv X pins σ H s) : ∀ {v : V} {d : PyData} {u : Value}, Dp X.K H v d → imm d = true → RelV v u → NestedIs s.heap (keyD d) u
  | _, _, u, .non, _, r => by
    obtain rfl : u = Value.none := r
    exact .none
  | _, _, u, .bl b, _, r => by
    obtain rfl : u = Value.bool b := r
    exact .bool rfl
  | _, _, u, .int i, _, r => by
    obtain ⟨t, rfl⟩ : ∃ t, u = Value.int i t := r
    exact .int i t
  | _, _, u, .str x, _, r => by
    obtain ⟨t, rfl⟩ : ∃ t, u = Value.str x t := r
    exact .text x t
  | _, _, u, .lst h a, i, _ => nomatch (show (false : Bool) = true from i)
  | _, _, u, .tup (a := p) h a, i, r => by
    obtain rfl : u = Value.ref p := r
    obtain ⟨its, rv, ⟨o, ho, hc, n, hd⟩, _⟩ := I.tuple h
    exact .tup ho hc hd (nstAll I a i rv)
theorem nstAll (I : Inv X pins σ H s) : ∀ {vs : List V} {ds : List PyData} {us : List Value}, DpAll X.K H vs ds → immAll ds = true → Vals vs us → NestedAll s.heap (keyDs ds) us
  | _, _, _, .nil, _, .nil => .nil
  | _, _, _, .cons h a, i, .cons r rs => .cons (nst I h (Bool.and_eq_true_iff.mp i).1 r) (nstAll I a (Bool.and_eq_true_iff.mp i).2 rs)
end
theorem pairsN (I : Inv X pins σ H s) : ∀ {ps : List Addr} {ks : List (Addr × PyData × V)}, Paired (fun p k => SqT X.K H p [.ref k.1, k.2.2] ∧ Dp X.K H (.ref k.1) k.2.1 ∧ imm k.2.1 = true ∧ (keyD k.2.1).depth ≤ 8) ps ks →
    ∃ prs : List (NestedKey × Addr × Value), prs.length = ps.length ∧ (∀ x ∈ prs, (nestedKind X.prog X.w).is s.heap x.1 x.2.1) ∧ ∀ (j : Nat) (x : NestedKey × Addr × Value), prs[j]? = some x → ∃ b, ps[j]? = some b ∧ IsTup s.heap b #[.ref x.2.1, x.2.2]
  | _, _, .nil => ⟨[], rfl, (fun x h => nomatch h), fun j x e => by simp at e⟩
  | _, _, .cons (a := p) (b := k) ⟨h1, h2, h3, h4⟩ t => by
    obtain ⟨prs, hl, his, hp⟩ := pairsN I t
    obtain ⟨its, rv, ht, _⟩ := I.tuple h1
    obtain ⟨u, y, ei, ru, ry⟩ := vals2 rv
    subst ei
    obtain rfl : u = Value.ref k.1 := ru
    refine ⟨(keyD k.2.1, k.1, y) :: prs, by rw [List.length_cons, List.length_cons, hl], fun x hx => ?_, fun j x e => ?_⟩
    · rcases List.mem_cons.mp hx with rfl | hx
      · exact ⟨nst I h2 h3 rfl, h4⟩
      · exact his x hx
    · cases j with
      | zero =>
        obtain rfl := Option.some.inj e
        exact ⟨p, rfl, ht⟩
      | succ j =>
        obtain ⟨b, e1, e2⟩ := hp j x (by simpa using e)
        exact ⟨b, by simpa using e1, e2⟩
end
theorem call_dictN {X : Cx} (hu : X.A.units + 65 < cLine) (hcalm : X.calm = true) : CallR X (.type "dict") (fun xs H Q => ∃ (a : Addr) (ps : List Addr) (ks : List (Addr × PyData × V)), xs = [.ref a] ∧ SqL X.K H a (ps.map V.ref) ∧
    Paired (fun p k => SqT X.K H p [.ref k.1, k.2.2] ∧ Dp X.K H (.ref k.1) k.2.1 ∧ imm k.2.1 = true ∧ (keyD k.2.1).depth ≤ 8) ps ks ∧ ∀ p, H p = none → Q (.ref p) H) := by
  intro pins s σ H xs us Q I r q
  obtain ⟨a, ps, ks, ex, hq, hp, q⟩ := q
  subst ex
  obtain ⟨u, eu, rx⟩ := vals1 r
  subst eu
  obtain rfl : u = Value.ref a := rx
  obtain ⟨its, rv, pl, hz⟩ := I.list hq
  have ei := refs_at rv
  subst ei
  rw [List.length_map] at hz
  obtain ⟨prs, hl, his, hpr⟩ := pairsN I hp
  obtain ⟨o, n, ho, hc, hd, hdat⟩ := pl
  have P := PairArg.list (prog := X.prog) (w := X.w) a (ps.map Value.ref).toArray (fun j => ps.getD j 0) (prs.map fun x => (Value.ref x.2.1, x.2.2))
  have rel : ∀ (j : Nat) (k v : Value), (prs.map fun x => (Value.ref x.2.1, x.2.2))[j]? = some (k, v) → ∃ x, prs[j]? = some x ∧ k = .ref x.2.1 ∧ v = x.2.2 := fun j k v e => by
    rw [List.getElem?_map] at e
    cases e' : prs[j]? with
    | none => rw [e'] at e; cases e
    | some x =>
      rw [e'] at e
      cases e
      exact ⟨x, rfl, rfl, rfl⟩
  refine dict_keyed (knd := nestedKind X.prog X.w) (kvs := pairsH prs) nestedKind_stays P (I.ok.hd hcalm) ?_ ⟨⟨o, n, ho, hc, hd, hdat⟩, ?_, fun j k v e => ?_⟩ ⟨prs, rfl, ⟨?_, fun i key v e => ?_⟩, his⟩ (nestedKind_stays.all) ?_ fun h' tk hd' hk => ?_
  · show X.A.units + 1 + 1 + 8 < cLine
    omega
  · simp [hl]
  · obtain ⟨x, e1, rfl, rfl⟩ := rel j k v e
    obtain ⟨b, e2, e3⟩ := hpr j x e1
    refine ⟨?_, .inl ?_⟩
    · simp [e2]
    · simp only [List.getD, e2, Option.getD_some]
      exact e3
  · rw [List.length_map]
  · obtain ⟨x, e1, rfl, rfl⟩ := rel i key v e
    exact ⟨x.1, x.2.1, e1, rfl⟩
  · rw [List.length_map, hl]
    exact hz
  · exact ⟨.ref s.heap.objs.size, H, I.kept fun b u e => hk b u (by simp) e, rfl, q _ (I.hok.fresh (Nat.le_refl _))⟩
/-! ### dicts whose keys are tuples with tuples in them, followed -/
abbrev NE : Type := NestedKey × Addr × V
abbrev KN : List NE → List (NestedKey × Addr × Value) → Prop := Paired fun p q => p.1 = q.1 ∧ p.2.1 = q.2.1 ∧ RelV p.2.2 q.2.2
def dnRaw (P : Program) (w : World) (a : Addr) (kvs : List NE) (h : Heap) : Prop := kvs.length ≤ sizeLine ∧ (a == sysModules) = false ∧
  ∃ (xs : List (NestedKey × Addr × Value)) (o : Obj) (es : Array DictEntry) (ep : Nat), KN kvs xs ∧ h.get? a = some o ∧ o.ExactDict ∧ o.data = .dict es ep ∧ es.toList = xs.map (entryOfKey (nestedKind P w)) ∧ (xs.map (·.1)).Nodup
def dnO (P : Program) (w : World) (a : Addr) (kvs : List NE) : HO := .ext (dnRaw P w a kvs)
theorem dnO_ok {P : Program} {w : World} {H : Hp} {h : Heap} {a : Addr} {kvs : List NE} (x : dnRaw P w a kvs h) : ObjOk P w H h a (dnO P w a kvs) := by
  refine ⟨x, ?_, fun g1 g2 y k => ?_⟩
  · obtain ⟨_, _, xs, o, es, ep, _, e, _⟩ := x
    exact ⟨o, e⟩
  · obtain ⟨z1, z2, xs, o, es, ep, z3, e, z4⟩ := y
    exact ⟨z1, z2, xs, o, es, ep, z3, k _ e, z4⟩
/-- there, or locked -/
def DnA (P : Program) (w : World) (H : Hp) (a : Addr) (kvs : List NE) : Prop := H a = some (dnO P w a kvs) ∨ ∃ o, H a = some (.frz o (dnO P w a kvs))
/-- its keys stand -/
def KeysN (K : PySem.W.Frag) (H : Hp) (kvs : List NE) : Prop := ∀ p ∈ kvs, ∃ d, p.1 = keyD d ∧ Dp K H (.ref p.2.1) d ∧ imm d = true ∧ (keyD d).depth ≤ 8
theorem KeysN.keep {K : PySem.W.Frag} {H H' : Hp} {kvs : List NE} (h : KeysN K H kvs) (k : KeepT H H') : KeysN K H' kvs := fun p hp => by
  obtain ⟨d, h1, h2, h3, h4⟩ := h p hp
  exact ⟨d, h1, dp_imm k h2 h3, h3, h4⟩
theorem KeysN.nil {K : PySem.W.Frag} {H : Hp} : KeysN K H [] := fun p hp => nomatch hp
def valN : List NE → NestedKey → Option V
  | [], _ => none
  | p :: r, k => if p.1 = k then some p.2.2 else valN r k
theorem valN_app {xs ys : List NE} {k : NestedKey} : valN (xs ++ ys) k = match valN xs k with
    | some v => some v
    | none => valN ys k := by
  induction xs with
  | nil => rfl
  | cons p r ih =>
    show (if p.1 = k then some p.2.2 else valN (r ++ ys) k) = match (if p.1 = k then some p.2.2 else valN r k) with
      | some v => some v
      | none => valN ys k
    by_cases h : p.1 = k
    · rw [if_pos h, if_pos h]
    · rw [if_neg h, if_neg h, ih]
theorem KN.val {kvs : List NE} {xs : List (NestedKey × Addr × Value)} (r : KN kvs xs) (k : NestedKey) : (valN kvs k = none ∧ atKey xs k = none) ∨ ∃ v p, valN kvs k = some v ∧ atKey xs k = some p ∧ RelV v p.2 := by
  induction r with
  | nil => exact .inl ⟨rfl, rfl⟩
  | @cons p q ps qs h t ih =>
    by_cases e : p.1 = k
    · refine .inr ⟨p.2.2, q.2, if_pos e, ?_, h.2.2⟩
      show ((q :: qs).find? fun x => decide (x.1 = k)).map (·.2) = some q.2
      rw [List.find?_cons_of_pos (by rw [← h.1]; exact decide_eq_true e)]
      rfl
    · have e1 : valN (p :: ps) k = valN ps k := if_neg e
      have e2 : atKey (q :: qs) k = atKey qs k := by
        show ((q :: qs).find? fun x => decide (x.1 = k)).map (·.2) = _
        rw [List.find?_cons_of_neg (by rw [← h.1]; simpa using e)]
        rfl
      rw [e1, e2]
      exact ih
theorem KN.len {kvs : List NE} {xs : List (NestedKey × Addr × Value)} (r : KN kvs xs) : kvs.length = xs.length := Paired.length r
theorem KN.at_ {kvs : List NE} {xs : List (NestedKey × Addr × Value)} (r : KN kvs xs) : ∀ {i : Nat} {p : NE}, kvs[i]? = some p → ∃ q, xs[i]? = some q ∧ p.1 = q.1 ∧ p.2.1 = q.2.1 ∧ RelV p.2.2 q.2.2 := by
  induction r with
  | nil => intro i p e; simp at e
  | @cons p q ps qs h t ih =>
    intro i p' e
    cases i with
    | zero => cases e; exact ⟨q, rfl, h⟩
    | succ i =>
      obtain ⟨q', e1, e2⟩ := ih (i := i) (p := p') (by simpa using e)
      exact ⟨q', by simpa using e1, e2⟩
theorem KN.is {K : PySem.W.Frag} {X : Cx} {pins : List (Addr × Obj)} {σ : L2.St} {H : Hp} {s : Shared} (I : Inv X pins σ H s) {kvs : List NE} {xs : List (NestedKey × Addr × Value)} (r : KN kvs xs) (ks : KeysN X.K H kvs) : ∀ x ∈ xs, (nestedKind X.prog X.w).is s.heap x.1 x.2.1 := by
  induction r with
  | nil => intro x hx; exact nomatch hx
  | @cons p q ps qs h t ih =>
    intro x hx
    rcases List.mem_cons.mp hx with e | hx
    · subst e
      obtain ⟨d, h1, h2, h3, h4⟩ := ks p (List.mem_cons_self ..)
      rw [← h.1, ← h.2.1, h1]
      exact ⟨nst I h2 h3 rfl, h4⟩
    · exact ih (fun p' hp' => ks p' (List.mem_cons_of_mem _ hp')) x hx
section
variable {X : Cx} {pins : List (Addr × Obj)} {σ : L2.St} {H : Hp} {s : Shared} {a : Addr} {kvs : List NE}
theorem dn_raw (I : Inv X pins σ H s) (e : DnA X.prog X.w H a kvs) : dnRaw X.prog X.w a kvs s.heap := by
  rcases e with e | ⟨o, e⟩
  · exact (show ObjOk X.prog X.w H s.heap a (dnO X.prog X.w a kvs) from I.hok a _ e).1
  · have x : s.heap.get? a = some o ∧ ObjOk X.prog X.w H s.heap a (dnO X.prog X.w a kvs) := I.hok a _ e
    exact (show ObjOk X.prog X.w H s.heap a (dnO X.prog X.w a kvs) from x.2).1
theorem dn_of (I : Inv X pins σ H s) (e : DnA X.prog X.w H a kvs) (ks : KeysN X.K H kvs) : kvs.length ≤ sizeLine ∧ (a == sysModules) = false ∧ ∃ xs, KN kvs xs ∧ s.heap.DictOfH (nestedKind X.prog X.w) a xs := by
  obtain ⟨z1, z2, xs, o, es, ep, r, h1, h2, h3, h4, h5⟩ := dn_raw I e
  exact ⟨z1, z2, xs, r, o, es, ep, h1, h2, h3, h4, KN.is (K := X.K) I r ks, h5⟩
end
/-- a new empty one -/
def tDNewN (P : Program) (w : World) : TE := fun _ H Q => ∀ p, H p = none → Q (.ref p) (upd H p (dnO P w p []))
theorem pe_dnewN {X : Cx} {pos : Pos} : PE X (.Dict [] [] pos) (tDNewN X.prog X.w) := ⟨fun pins s σ H Q I h => by
  refine wpAny_Dict_empty ⟨.ref s.heap.objs.size, _, I.laid (a := s.heap.objs.size) (o := dnO X.prog X.w s.heap.objs.size []) (t' := s.toks) (fun _ _ q => Heap.get?_push_of_some _ q) (Nat.le_refl _) (dnO_ok ?_), rfl, h _ (I.hok.fresh (Nat.le_refl _))⟩
  exact ⟨Nat.zero_le _, beq_eq_false_iff_ne.mpr (Ne.symm (Nat.ne_of_lt I.big)), [], _, #[], 0, .nil, Heap.get?_push_size _ rfl, ⟨rfl, rfl, rfl⟩, rfl, rfl, List.nodup_nil⟩⟩
section
variable {X : Cx}
/-- a key: a tuple that stands -/
def KeyN (K : PySem.W.Frag) (H : Hp) (y : V) (b : Addr) (d : PyData) : Prop := y = .ref b ∧ Dp K H (.ref b) d ∧ imm d = true ∧ (keyD d).depth ≤ 8
def rInN (K : PySem.W.Frag) (P : Program) (w : World) : R2 := fun y x H Q => ∃ (a b : Addr) (kvs : List NE) (d : PyData), x = .ref a ∧ DnA P w H a kvs ∧ KeysN K H kvs ∧ KeyN K H y b d ∧ Q (.bl (valN kvs (keyD d)).isSome) H
theorem op_inN (hu : X.A.units + 9 < cLine) : OpR X (compareOp .In) (rInN X.K X.prog X.w) := by
  intro pins s σ H y x v u Q I ry rx h
  obtain ⟨a, b, kvs, d, rfl, hd, hk, ⟨rfl, h1, h2, h3⟩, q⟩ := h
  obtain rfl : v = Value.ref b := ry
  obtain rfl : u = Value.ref a := rx
  obtain ⟨_, z, xs, r, dd⟩ := dn_of I hd hk
  refine wpAny_in_heap (knd := nestedKind X.prog X.w) (k := keyD d) (by show X.A.in1.units + 8 < cLine; show X.A.units + 1 + 8 < cLine; omega) ⟨nst I h1 h2 rfl, h3⟩ z dd ⟨.bl _, H, I.tok _, ?_, q⟩
  rcases r.val (keyD d) with ⟨e1, e2⟩ | ⟨v, p, e1, e2, _⟩
  · rw [e1, e2]
    rfl
  · rw [e1, e2]
    rfl
def rIxN (K : PySem.W.Frag) (P : Program) (w : World) : R2 := fun x y H Q => ∃ (a b : Addr) (kvs : List NE) (d : PyData) (v : V), x = .ref a ∧ DnA P w H a kvs ∧ KeysN K H kvs ∧ KeyN K H y b d ∧ valN kvs (keyD d) = some v ∧ Q v H
theorem get_dn (hu : X.A.units + 9 < cLine) {pins : List (Addr × Obj)} {σ : L2.St} {H : Hp} {s : Shared} {a b : Addr} {kvs : List NE} {d : PyData} {v : V} {Q : VK} (I : Inv X pins σ H s) (hd : DnA X.prog X.w H a kvs) (hk : KeysN X.K H kvs) (h1 : Dp X.K H (.ref b) d) (h2 : imm d = true) (h3 : (keyD d).depth ≤ 8) (hv : valN kvs (keyD d) = some v) (q : Q v H) :
    wpAny (model X.prog X.w) X.A (getItem (.ref a) (.ref b)) (EP X pins σ Q) X.xe s := by
  obtain ⟨_, z, xs, r, dd⟩ := dn_of I hd hk
  rcases r.val (keyD d) with ⟨e1, _⟩ | ⟨v', p, e1, e2, rv⟩
  · rw [hv] at e1
    cases e1
  · rw [hv] at e1
    cases e1
    exact wpAny_getItem_heap (knd := nestedKind X.prog X.w) (k := keyD d) (by show X.A.units + 1 + 8 < cLine; omega) ⟨nst I h1 h2 rfl, h3⟩ dd e2 ⟨v, H, I.tok _, rv, q⟩
/-- d[k] = v for a key that isn't there yet -/
def rSetN (K : PySem.W.Frag) (P : Program) (w : World) : TSet := fun x y v H Q => ∃ (a b : Addr) (kvs : List NE) (d : PyData), x = .ref a ∧ H a = some (dnO P w a kvs) ∧ KeysN K H kvs ∧ KeyN K H y b d ∧ valN kvs (keyD d) = none ∧ kvs.length < 10000 ∧ Q (upd H a (dnO P w a (kvs ++ [(keyD d, b, v)])))
theorem set_dn (hu : X.A.units + 9 < cLine) : PSet X (rSetN X.K X.prog X.w) := by
  intro pins s σ H x y v xv yv u Q I rx ry rv h
  obtain ⟨a, b, kvs, d, rfl, hd, hk, ⟨rfl, h1, h2, h3⟩, hv, hl, q⟩ := h
  obtain rfl : xv = Value.ref a := rx
  obtain rfl : yv = Value.ref b := ry
  obtain ⟨z0, z, xs, r, dd⟩ := dn_of I (.inl hd) hk
  have hn : atKey xs (keyD d) = none := by
    rcases r.val (keyD d) with ⟨_, e2⟩ | ⟨v', p, e1, e2, _⟩
    · exact e2
    · rw [hv] at e1
      cases e1
  refine wpAny_setItem_heap (knd := nestedKind X.prog X.w) (k := keyD d) (hsz := by rw [← r.len]; exact z0) (by show X.A.units + 1 + 8 < cLine; omega) ⟨nst I h1 h2 rfl, h3⟩ dd fun h' hm hs => ?_
  rw [storedH_new hn] at hm
  obtain ⟨o, es, ep, g1, g2, g3, g4, _, g6⟩ := hm
  refine ⟨_, d_write I (by rw [hd]; trivial) hs ⟨o, g1⟩ (dnO_ok ⟨?_, z, _, o, es, ep, ?_, g1, g2, g3, g4, g6⟩), q⟩
  · rw [List.length_append]
    exact Nat.le_trans (show kvs.length + 1 ≤ 10000 from hl) (by decide)
  · have app : ∀ {ps : List NE} {qs : List (NestedKey × Addr × Value)}, KN ps qs → KN (ps ++ [(keyD d, b, v)]) (qs ++ [(keyD d, b, u)]) := by
      intro ps qs r
      induction r with
      | nil => exact .cons ⟨rfl, rfl, rv⟩ .nil
      | cons h t ih => exact .cons h ih
    exact app r
/-- the length -/
def rLenN (P : Program) (w : World) : List V → Hp → VK → Prop := fun xs H Q => ∃ (a : Addr) (kvs : List NE), xs = [.ref a] ∧ DnA P w H a kvs ∧ Q (.int ((kvs.length : Nat) : Int)) H
end
section
variable {X : Cx} {o i : Expr} {pos : Pos} {td ty : TE}
/-- d[k], there -/
def tDGetN (K : PySem.W.Frag) (P : Program) (w : World) (td ty : TE) : TE := fun σ H Q => td σ H fun x H1 => ty σ H1 fun y H2 => rIxN K P w x y H2 Q
theorem pe_dgetN (hu : X.A.units + 9 < cLine) (ho : PE X o td) (hi : PE X i ty) (hs : NoSl i) : PE X (.Subscript o i pos) (tDGetN X.K X.prog X.w td ty) := by
  refine ⟨fun pn s σ H Q I h => ?_⟩
  refine subD_of PySem.F.slot_dict_getitem.lookup hs (thn (ho.run pn s σ H _ I h) fun u s1 ⟨x, H1, J1, ex1, q1⟩ => thn (hi.run pn s1 σ H1 _ J1 q1) fun iv s2 ⟨y, H2, J2, ry, a, b, kvs, d, v, ex, hd, hk, ⟨ey, h1, h2, h3⟩, hv, q2⟩ => ?_)
  subst ex ey
  obtain rfl : u = Value.ref a := ex1
  obtain rfl : iv = Value.ref b := ry
  obtain ⟨_, _, xs, _, dd⟩ := dn_of J2 hd hk
  exact ⟨dd.typeIs, get_dn hu J2 hd hk h1 h2 h3 hv q2⟩
theorem call_len_dN : CallR X (.builtin "len") (fun xs H Q => ∃ (a : Addr) (kvs : List NE), xs = [.ref a] ∧ DnA X.prog X.w H a kvs ∧ KeysN X.K H kvs ∧ Q (.int ((kvs.length : Nat) : Int)) H) := by
  intro pn s σ H xs us Q I r h
  obtain ⟨a, kvs, rfl, hd, hk, q⟩ := h
  obtain ⟨u, rfl, ex1⟩ := vals1 r
  obtain rfl : u = .ref a := ex1
  obtain ⟨z, y, ys, rel, dd⟩ := dn_of I hd hk
  have hl := rel.len
  refine call_len_dictH y dd (by rw [← hl]; rw [sizeLine_eq] at z; omega) ?_
  rw [← hl]
  exact ⟨.int ((kvs.length : Nat) : Int), H, I.tok _, ⟨_, rfl⟩, q⟩
/-- d.get(k) -/
theorem mt_getN (hu : X.A.units + 9 < cLine) : MtR X "dict.get" (fun x xs H Q => ∃ (a b : Addr) (kvs : List NE) (d : PyData) (y : V), x = .ref a ∧ xs = [y] ∧ DnA X.prog X.w H a kvs ∧ KeysN X.K H kvs ∧ KeyN X.K H y b d ∧ Q ((valN kvs (keyD d)).getD .non) H) := by
  intro pn s σ H x xs v us Q I ex1 rxs h
  obtain ⟨a, b, kvs, d, y, rfl, rfl, hd, hk, ⟨rfl, h1, h2, h3⟩, q⟩ := h
  obtain rfl : v = Value.ref a := ex1
  obtain ⟨u, rfl, ry⟩ := vals1 rxs
  obtain rfl : u = Value.ref b := ry
  obtain ⟨_, z, ys, r, dd⟩ := dn_of I hd hk
  refine call_meetsIn PySem.F.slot_dict_get dd.typeIs PySem.F.entry_dict_get (PySem.F.args_dict_get_2 _ _) (meetsH_dict_get (nestedKind X.prog X.w) a b z) ⟨by show X.A.units + 1 + 8 < cLine; omega, keyD d, ys, ⟨nst I h1 h2 rfl, h3⟩, dd, ?_⟩
  rcases r.val (keyD d) with ⟨e1, e2⟩ | ⟨v', p, e1, e2, rv⟩
  · rw [e1] at q
    rw [e2]
    exact ⟨.non, H, I.tok _, rfl, q⟩
  · rw [e1] at q
    rw [e2]
    exact ⟨v', H, I.tok _, rv, q⟩
end
/-! going through it -/
section
variable {X : Cx} {pn : List (Addr × Obj)} {σ : L2.St} {H : Hp} {s : Shared} {d : Addr} {o : Obj}
theorem frzN {kvs : List NE} (I : Inv X pn σ H s) (h : H d = some (.frz o (dnO X.prog X.w d kvs))) :
    (d == sysModules) = false ∧ s.heap.get? d = some o ∧ o.ExactDict ∧ ∃ (es : Array DictEntry) (ep : Nat), o.data = .dict es ep ∧ es.size = kvs.length ∧
      ∀ (i : Nat) (p : NE), kvs[i]? = some p → ∃ (en : DictEntry), es[i]? = some en ∧ en.key = .ref p.2.1 ∧ RelV p.2.2 en.val := by
  have x : s.heap.get? d = some o ∧ ObjOk X.prog X.w H s.heap d (dnO X.prog X.w d kvs) := I.hok d _ h
  obtain ⟨hd, ok⟩ := x
  obtain ⟨_, hs, xs, o', es, ep, r, ho, hx, dat, he, _⟩ := (show ObjOk X.prog X.w H s.heap d (dnO X.prog X.w d kvs) from ok).1
  rw [hd] at ho
  cases ho
  refine ⟨hs, hd, hx, es, ep, dat, ?_, fun i p e => ?_⟩
  · rw [size_of_entries he, r.len]
  · obtain ⟨q, e1, _, e3, e4⟩ := r.at_ e
    have z := entry_at he i
    rw [e1] at z
    refine ⟨_, z, ?_, e4⟩
    rw [e3]
    rfl
end
/-- the keys of the locked dict, each its own tuple -/
def ItkN (P : Program) (w : World) (d : Addr) (o : Obj) (kvs : List NE) : It :=
  ⟨fun i H => H d = some (.frz o (dnO P w d kvs)) ∧ i < kvs.length, fun i H x H' => H' = H ∧ ∃ p, kvs[i]? = some p ∧ x = .ref p.2.1, fun i H => H d = some (.frz o (dnO P w d kvs)) ∧ kvs.length ≤ i⟩
/-- the pairs: new tuples -/
def ItiN (P : Program) (w : World) (d : Addr) (o : Obj) (kvs : List NE) : It :=
  ⟨fun i H => H d = some (.frz o (dnO P w d kvs)) ∧ i < kvs.length, fun i H x H' => ∃ T p, kvs[i]? = some p ∧ x = .ref T ∧ H T = none ∧ H' = upd H T (.tup [.ref p.2.1, p.2.2]), fun i H => H d = some (.frz o (dnO P w d kvs)) ∧ kvs.length ≤ i⟩
section
variable {P : Program} {w : World} {K : PySem.W.Frag} {tgt : Expr} {d : Addr} {o : Obj} {es : Array DictEntry} {ep : Nat}
theorem one_it {it b : Addr} (h : b ∈ [it]) : b = it := by simpa using h
theorem turn_keysN {kvs : List NE} (it : Addr) (od0 : o.data = .dict es ep) : Turn P w K tgt (ItkN P w d o kvs) [it] it (fun i h => h.IsKeyIter it d i kvs.length ep) := by
  refine ⟨by simp, fun i h st b hb => ?_, fun i h h' st k => st.at fun io e => k it (by simp) io e, ?_, ?_, fun A i s Q E st h => ?_⟩
  · obtain rfl := one_it hb
    obtain ⟨io, e, c, dd⟩ := st
    exact ⟨io, e, fun v z => by rw [dd] at z; cases z⟩
  · intro X hP hw hK hc i pn s σ H E I fp st hg
    subst hP hw hK
    obtain ⟨hd, hi⟩ := hg
    obtain ⟨c0, c1, c2, c3, c4, c5⟩ := fp it (by simp)
    obtain ⟨hs, atd, hx, es', ep', dat, siz, ens⟩ := frzN I hd
    obtain ⟨rfl, rfl⟩ := dict_ep od0 dat
    obtain ⟨p, hp⟩ : ∃ p, kvs[i]? = some p := ⟨kvs[i], List.getElem?_eq_getElem hi⟩
    obtain ⟨en, hen, ky, _⟩ := ens i p hp
    refine next_key_item st atd dat siz hen fun h' st2 sb => ?_
    have J1 : Inv X pn σ H { s with heap := h' } := I.turned (t' := s.toks) (fun b ob hb e => (sb.2 b hb).trans e) c0 c1 c3 c4 c5
    obtain ⟨io, e, c, dd⟩ := id st2
    refine ⟨en.key, rfl, go_of (s := { s with heap := h' }) e c dd (by decide) ⟨.ref p.2.1, H, J1, ky, ⟨rfl, p, hp, rfl⟩, st2, fun b hb => (fp b hb).1⟩⟩
  · intro X hP hw hK hc i pn s σ H E I fp st hg
    subst hP hw hK
    obtain ⟨hd, hi⟩ := hg
    obtain ⟨c0, c1, c2, c3, c4, c5⟩ := fp it (by simp)
    obtain ⟨hs, atd, hx, es', ep', dat, siz, ens⟩ := frzN I hd
    obtain ⟨rfl, rfl⟩ := dict_ep od0 dat
    exact next_key_end (I.ok.hd hc) st atd dat siz hi fun h' eb => ⟨rfl, I.turned (t' := s.toks) (fun b ob hb e => eb b ob hb e) c0 c1 c3 c4 c5⟩
  · refine wpAny_pyIter_slot st.typeIs PySem.F.slot_dict_keyiterator_iter (wpAny_call_entry PySem.F.slot_dict_keyiterator_iter st.typeIs PySem.F.entry_dict_keyiterator_iter ?_ (PySem.F.args_dict_keyiterator_iter_1 _))
    show wpAny _ _ (ret (.ref it)) _ _ s
    exact wpAny_pure ⟨_, rfl, "dict_keyiterator", _, st.typeIs, PySem.F.slot_dict_keyiterator_next.lookup, h⟩
theorem turn_itemsN {kvs : List NE} {els : List Expr} {kk : Nat} {tp : Pos} (it : Addr) (od0 : o.data = .dict es ep) :
    Turn P w K (.Tuple els kk tp) (ItiN P w d o kvs) [it] it (fun i h => ∃ ok ov, IsItemIter h it d i kvs.length ep ok ov) := by
  refine ⟨by simp, fun i h st b hb => ?_, fun i h h' st k => ?_, ?_, ?_, fun A i s Q E st h => ?_⟩
  · obtain rfl := one_it hb
    obtain ⟨ok, ov, e⟩ := st
    exact ⟨_, e, fun v z => nomatch z⟩
  · obtain ⟨ok, ov, e⟩ := st
    exact ⟨ok, ov, k it (by simp) _ e⟩
  · intro X hP hw hK hc i pn s σ H E I fp st hg
    subst hP hw hK
    obtain ⟨hd, hi⟩ := hg
    obtain ⟨hs, atd, hx, es', ep', dat, siz, ens⟩ := frzN I hd
    obtain ⟨rfl, rfl⟩ := dict_ep od0 dat
    obtain ⟨p, hp⟩ : ∃ p, kvs[i]? = some p := ⟨kvs[i], List.getElem?_eq_getElem hi⟩
    obtain ⟨en, hen, ky, vl⟩ := ens i p hp
    obtain ⟨ok, ov, he⟩ := st
    rw [← siz] at he
    have hi' : i < es'.size := by omega
    have een : es'[i] = en := by
      rw [Array.getElem?_eq_getElem hi'] at hen
      exact Option.some.inj hen
    have low : it < s.heap.objs.size := Heap.lt_size he
    refine DT.nextI he ⟨o, atd, hx, dat⟩ hi' fun h' ho hT hz hk => ?_
    rw [een] at ho hT
    refine ⟨_, rfl, wpAny_letOwnedTupleGo_items (s := { s with heap := h' }) ho fun h'' he' sb => ?_⟩
    have hT2 : h''.get? s.heap.objs.size = some { cls := .type "tuple", data := .seq #[en.key, en.val] } := (sb.2 _ (Nat.ne_of_gt low)).trans hT
    have new : ObjOk X.prog X.w (upd H s.heap.objs.size (.tup [.ref p.2.1, p.2.2])) h'' s.heap.objs.size (.tup [.ref p.2.1, p.2.2]) :=
      ⟨by show 2 ≤ sizeLine; decide, [en.key, en.val], .cons ky (.cons vl .nil), ⟨_, hT2, rfl, _, rfl⟩⟩
    have J1 : Inv X pn σ (upd H s.heap.objs.size (.tup [.ref p.2.1, p.2.2])) { s with heap := h'' } :=
      I.turnedNew (t' := s.toks) (ch := [it]) (fun b ob hb e => (sb.2 b (by simpa using hb)).trans (hk b ob (by simpa using hb) e)) fp (Nat.le_refl _) new
    refine ⟨.ref s.heap.objs.size, _, J1, rfl, ⟨_, p, hp, rfl, I.hok.fresh (Nat.le_refl _), rfl⟩, ⟨en.key, en.val, ?_⟩, fun b hb => ?_⟩
    · rw [← siz]
      exact he'
    · obtain rfl := one_it hb
      rw [upd_ne (Nat.ne_of_lt low)]
      exact (fp b (by simp)).1
  · intro X hP hw hK hc i pn s σ H E I fp st hg
    subst hP hw hK
    obtain ⟨hd, hi⟩ := hg
    obtain ⟨c0, c1, c2, c3, c4, c5⟩ := fp it (by simp)
    obtain ⟨hs, atd, hx, es', ep', dat, siz, ens⟩ := frzN I hd
    obtain ⟨rfl, rfl⟩ := dict_ep od0 dat
    obtain ⟨ok, ov, he⟩ := st
    rw [← siz] at he
    exact DT.endI (I.ok.hd hc) he ⟨o, atd, hx, dat⟩ (by omega) fun h' eb => ⟨rfl, I.turned (t' := s.toks) (fun b ob hb e => eb b ob hb e) c0 c1 c3 c4 c5⟩
  · obtain ⟨_, _, e⟩ := st
    exact PySem.W.kcp_self e h
end
def iKeysN (P : Program) (w : World) (td : TE) : TI := fun σ H R => td σ H fun x H1 => ∃ d o kvs, x = .ref d ∧ H1 d = some (.frz o (dnO P w d kvs)) ∧ R (ItkN P w d o kvs) H1
def iItemsN (P : Program) (w : World) (td : TE) : TI := fun σ H R => td σ H fun x H1 => ∃ d o kvs, x = .ref d ∧ H1 d = some (.frz o (dnO P w d kvs)) ∧ R (ItiN P w d o kvs) H1
section
variable {X : Cx} {tgt e : Expr} {td : TE} {ap cp : Pos}
theorem pi_keysN (he : PE X e td) : PI X tgt e (iKeysN X.prog X.w td) := by
  refine ⟨fun pn s σ H R I h => ?_⟩
  refine thn (he.run pn s σ H _ I h) fun u s1 ⟨x, H1, J1, ex1, d, o, kvs, ex, hd, q⟩ => ?_
  subst ex
  obtain rfl : u = Value.ref d := ex1
  obtain ⟨hs, atd, hx, es, ep, dat, siz, ens⟩ := frzN J1 hd
  refine iter_keys hs atd hx dat (pi_one (tk := s1.toks) J1 _ (turn_keysN _ dat) ⟨_, Heap.get?_push_size _ rfl, rfl, ?_⟩ q)
  rw [siz] <;> rfl
theorem pi_itemsN {els : List Expr} {kk : Nat} {tp : Pos} (he : PE X e td) (hbase : attributeBase e "items" X.env (eval e X.env) = eval e X.env := by rfl) (hline : (ap.endLine == cp.line) = true := by rfl) :
    PI X (.Tuple els kk tp) (.Call (.Attribute e "items" ap) [] [] cp) (iItemsN X.prog X.w td) := by
  refine ⟨fun pn s σ H R I h => ?_⟩
  refine wpAny_Call_method (T := "dict") (id := "dict.items") hbase rfl hline PySem.F.plainAttrs_dict PySem.F.slot_dict_items PySem.F.type_dict_items (thn (he.run pn s σ H _ I h) fun u s1 ⟨x, H1, J1, ex1, d, o, kvs, ex, hd, q⟩ => ?_)
  subst ex
  obtain rfl : u = Value.ref d := ex1
  obtain ⟨hs, atd, hx, es, ep, dat, siz, ens⟩ := frzN J1 hd
  have raw : DT.Raw s1.heap d es ep := ⟨o, atd, hx, dat⟩
  refine ⟨raw.typeIs, ?_, ?_⟩
  · intro b e
    cases e
    exact ⟨o, atd, hx.2.1⟩
  have J2 : Inv X pn σ H1 { s1 with heap := s1.heap.push { cls := .type "dict_items", data := .fields #[.ref d] } } := J1.kept (t' := s1.toks) fun b ob q => Heap.get?_push_of_some _ q
  have goes : wpAny (model X.prog X.w) X.A (pyIter (.ref s1.heap.objs.size)) (PIE X pn σ (.Tuple els kk tp) R) X.xe { s1 with heap := s1.heap.push { cls := .type "dict_items", data := .fields #[.ref d] } } := by
    refine DT.iterI (d := d) ⟨_, Heap.get?_push_size _ rfl, rfl, rfl⟩ (raw.push _) (pi_one (tk := s1.toks) J2 _ (turn_itemsN _ dat) ⟨.none, .none, ?_⟩ q)
    rw [← siz]
    exact Heap.get?_push_size _ rfl
  show wpAny _ _ (callWith cp (.builtin "dict.items") [.ref d] [] []) _ X.xe s1
  exact method_meetsIn PySem.F.slot_dict_items PySem.F.entry_dict_items rfl (PySem.evalArgs_none ⟨rfl, raw.typeIs, PySem.F.args_dict_items_1 _, _, DT.meetsItems (es := es) (ep := ep) hs, raw, goes⟩)
end
theorem walk_keysN {P : Program} {w : World} {d : Addr} {o : Obj} {kvs : List NE} : Walk (ItkN P w d o kvs) kvs.length (fun H => H d = some (.frz o (dnO P w d kvs))) (fun i H x H' => H' = H ∧ ∃ p, kvs[i]? = some p ∧ x = .ref p.2.1) :=
  ⟨fun i _ hi q => ⟨q, hi⟩, fun _ q => ⟨q, Nat.le_refl _⟩, fun i H v H' _ q y => y⟩
theorem walk_itemsN {P : Program} {w : World} {d : Addr} {o : Obj} {kvs : List NE} : Walk (ItiN P w d o kvs) kvs.length (fun H => H d = some (.frz o (dnO P w d kvs))) (fun i H x H' => ∃ T p, kvs[i]? = some p ∧ x = .ref T ∧ H T = none ∧ H' = upd H T (.tup [.ref p.2.1, p.2.2])) :=
  ⟨fun i _ hi q => ⟨q, hi⟩, fun _ q => ⟨q, Nat.le_refl _⟩, fun i H v H' _ q y => y⟩
/-! ### of rows drawn -/
theorem find_row {xs : List (SRow × Addr × List (List Nat))} (hn : (xs.map fun x => x.1.nm).Nodup) : ∀ x ∈ xs, xs.find? (fun y => decide (y.1.nm = x.1.nm)) = some x := by
  induction xs with
  | nil => exact fun x h => nomatch h
  | cons y ys ih =>
    intro x hx
    rw [List.map_cons, List.nodup_cons] at hn
    rw [List.find?_cons]
    rcases List.mem_cons.mp hx with rfl | hx
    · rw [decide_eq_true rfl]
    · rw [decide_eq_false fun z => hn.1 (by rw [z]; exact List.mem_map_of_mem hx)]
      exact ih hn.2 x hx
theorem paired_mem {α β : Type} {R : α → β → Prop} : ∀ {xs : List α} {ys : List β}, Paired R xs ys → ∀ y ∈ ys, ∃ x, R x y
  | _, _, .nil, y, h => nomatch h
  | _, _, .cons a r, y, h => by
    rcases List.mem_cons.mp h with rfl | h
    · exact ⟨_, a⟩
    · exact paired_mem r y h
theorem paired_map {α β γ : Type} {R : α → γ → Prop} {f : β → γ} : ∀ {xs : List α} {ys : List β}, Paired (fun x y => R x (f y)) xs ys → Paired R xs (ys.map f)
  | _, _, .nil => .nil
  | _, _, .cons a r => .cons a (paired_map r)
theorem rr_at {K : PySem.W.Frag} {H : Hp} {v : V} {r : RRow} (h : Dp K H v r.d) : ∃ q v2 v4, v = .ref q ∧ SqT K H q [.str (SX.S r.ma), v2, .str (SX.S r.op), v4] ∧ Dp K H v2 r.tg.d := by
  cases h with
  | tup hS hA =>
    cases hA with
    | cons a1 hA =>
      cases hA with
      | cons a2 hA =>
        cases hA with
        | cons a3 hA =>
          cases hA with
          | cons a4 hA =>
            cases hA
            cases a1
            cases a3
            exact ⟨_, _, _, rfl, hS, a2⟩
theorem m_imm (m : MRow) : imm (mT m).r = true := by
  show (true && (immAll (m.pt.map strD) && true)) = true
  rw [immAll_map strD_imm]
  rfl
theorem key_depth (w : List Nat) (e : En) : (keyD (.tuple [strD w, e.d])).depth ≤ 8 := by
  cases e with
  | sp p w' => exact (by decide : 2 ≤ 8)
  | kept w' => exact (by decide : 2 ≤ 8)
theorem Gs.any {K : PySem.W.Frag} {H Y : Hp} {a gd ls lm lr of : Addr} {rs : List SRow} {ms : List MRow} {ru : List RRow} {roof : Nat} {kvs : List (Key × V)} (h : Gs K H Y a gd ls lm lr of rs ms ru roof kvs) : Gs K (fun _ => none) Y a gd ls lm lr of rs ms ru roof kvs :=
  { h with bt := (fun c o _ hc => nomatch hc), nH := rfl }
/-! ### dict(pairs) whose keys are tuples, followed -/
def neOf (k : Addr × PyData × V) : NE := (keyD k.2.1, k.1, k.2.2)
theorem pairsNF {X : Cx} {pins : List (Addr × Obj)} {σ : L2.St} {H : Hp} {s : Shared} (I : Inv X pins σ H s) : ∀ {ps : List Addr} {ks : List (Addr × PyData × V)}, Paired (fun p k => SqT X.K H p [.ref k.1, k.2.2] ∧ Dp X.K H (.ref k.1) k.2.1 ∧ imm k.2.1 = true ∧ (keyD k.2.1).depth ≤ 8) ps ks →
    ∃ prs : List (NestedKey × Addr × Value), KN (ks.map neOf) prs ∧ prs.length = ps.length ∧ (∀ x ∈ prs, (nestedKind X.prog X.w).is s.heap x.1 x.2.1) ∧ ∀ (j : Nat) (x : NestedKey × Addr × Value), prs[j]? = some x → ∃ b, ps[j]? = some b ∧ IsTup s.heap b #[.ref x.2.1, x.2.2]
  | _, _, .nil => ⟨[], .nil, rfl, (fun x h => nomatch h), fun j x e => by simp at e⟩
  | _, _, .cons (a := p) (b := k) ⟨h1, h2, h3, h4⟩ t => by
    obtain ⟨prs, hk, hl, his, hp⟩ := pairsNF I t
    obtain ⟨its, rv, ht, _⟩ := I.tuple h1
    obtain ⟨u, y, ei, ru, ry⟩ := vals2 rv
    subst ei
    obtain rfl : u = Value.ref k.1 := ru
    refine ⟨(keyD k.2.1, k.1, y) :: prs, .cons ⟨rfl, rfl, ry⟩ hk, by rw [List.length_cons, List.length_cons, hl], fun x hx => ?_, fun j x e => ?_⟩
    · rcases List.mem_cons.mp hx with rfl | hx
      · exact ⟨nst I h2 h3 rfl, h4⟩
      · exact his x hx
    · cases j with
      | zero =>
        obtain rfl := Option.some.inj e
        exact ⟨p, rfl, ht⟩
      | succ j =>
        obtain ⟨b, e1, e2⟩ := hp j x (by simpa using e)
        exact ⟨b, by simpa using e1, e2⟩
theorem atKey_none {K : Type} [DecidableEq K] : ∀ {xs : List (K × Addr × Value)} {k : K}, k ∉ xs.map (·.1) → atKey xs k = none
  | [], _, _ => rfl
  | x :: xs, k, h => by
    rw [List.map_cons, List.mem_cons] at h
    have h1 : x.1 ≠ k := fun e => h (.inl e.symm)
    show ((x :: xs).find? fun x => decide (x.1 = k)).map (·.2) = none
    rw [List.find?_cons_of_neg (by simpa using h1)]
    exact atKey_none (xs := xs) fun z => h (.inr z)
theorem stored_all {K : Type} [DecidableEq K] : ∀ (ps acc : List (K × Addr × Value)), ((acc ++ ps).map (·.1)).Nodup → storedAllH acc ps = acc ++ ps
  | [], acc, _ => by
    rw [List.append_nil]
    rfl
  | p :: ps, acc, h => by
    show storedAllH (storedH acc p.1 p.2.1 p.2.2) ps = _
    have hn : p.1 ∉ acc.map (·.1) := fun z => by
      rw [List.map_append, List.map_cons] at h
      exact (List.nodup_append.mp h).2.2 p.1 z p.1 (List.mem_cons_self ..) rfl
    rw [storedH_new (atKey_none hn), stored_all ps (acc ++ [(p.1, p.2.1, p.2.2)]) (by rw [List.append_assoc]; exact h), List.append_assoc]
    rfl
theorem kn_keys {kvs : List NE} {xs : List (NestedKey × Addr × Value)} (r : KN kvs xs) : xs.map (·.1) = kvs.map (·.1) := by
  induction r with
  | nil => rfl
  | cons h _ ih => rw [List.map_cons, List.map_cons, ih, h.1]
def rDictNF (K : PySem.W.Frag) (P : Program) (w : World) : List V → Hp → VK → Prop := fun xs H Q => ∃ (a : Addr) (ps : List Addr) (ks : List (Addr × PyData × V)), xs = [.ref a] ∧ SqL K H a (ps.map V.ref) ∧
    Paired (fun p k => SqT K H p [.ref k.1, k.2.2] ∧ Dp K H (.ref k.1) k.2.1 ∧ imm k.2.1 = true ∧ (keyD k.2.1).depth ≤ 8) ps ks ∧ ((ks.map neOf).map (·.1)).Nodup ∧ ∀ p, H p = none → Q (.ref p) (upd H p (dnO P w p (ks.map neOf)))
theorem call_dictNF {X : Cx} (hu : X.A.units + 65 < cLine) (hcalm : X.calm = true) : CallR X (.type "dict") (rDictNF X.K X.prog X.w) := by
  intro pins s σ H xs us Q I r q
  obtain ⟨a, ps, ks, ex, hq, hp, hnd, q⟩ := q
  subst ex
  obtain ⟨u, eu, rx⟩ := vals1 r
  subst eu
  obtain rfl : u = Value.ref a := rx
  obtain ⟨its, rv, pl, hz⟩ := I.list hq
  have ei := refs_at rv
  subst ei
  rw [List.length_map] at hz
  obtain ⟨prs, hkn, hl, his, hpr⟩ := pairsNF I hp
  obtain ⟨o, n, ho, hc, hd, hdat⟩ := pl
  have P := PairArg.list (prog := X.prog) (w := X.w) a (ps.map Value.ref).toArray (fun j => ps.getD j 0) (prs.map fun x => (Value.ref x.2.1, x.2.2))
  have rel : ∀ (j : Nat) (k v : Value), (prs.map fun x => (Value.ref x.2.1, x.2.2))[j]? = some (k, v) → ∃ x, prs[j]? = some x ∧ k = .ref x.2.1 ∧ v = x.2.2 := fun j k v e => by
    rw [List.getElem?_map] at e
    cases e' : prs[j]? with
    | none => rw [e'] at e; cases e
    | some x =>
      rw [e'] at e
      cases e
      exact ⟨x, rfl, rfl, rfl⟩
  refine call_dict_pairsH (knd := nestedKind X.prog X.w) (ps := prs) P (I.ok.hd hcalm) ?_ ⟨⟨o, n, ho, hc, hd, hdat⟩, ?_, fun j k v e => ?_⟩ ⟨?_, fun i key v e => ?_⟩ (fun h' hk x hx => nestedKind_stays.all h' (fun b o hw e => hk b o (Nat.ne_of_lt (Heap.lt_size e)) hw e) _ _ (his x hx)) ?_ fun h' tk hd' hk => ?_
  · show X.A.units + 1 + 1 + 8 < cLine
    omega
  · simp [hl]
  · obtain ⟨x, e1, rfl, rfl⟩ := rel j k v e
    obtain ⟨b, e2, e3⟩ := hpr j x e1
    refine ⟨?_, .inl ?_⟩
    · simp [e2]
    · simp only [List.getD, e2, Option.getD_some]
      exact e3
  · rw [List.length_map]
  · obtain ⟨x, e1, rfl, rfl⟩ := rel i key v e
    exact ⟨x.1, x.2.1, e1, rfl⟩
  · rw [List.length_map, hl]
    exact hz
  · rw [stored_all prs [] (by rw [List.nil_append, kn_keys hkn]; exact hnd), List.nil_append] at hd'
    obtain ⟨o2, es, ep, g1, g2, g3, g4, _, g6⟩ := hd'
    have hkl := KN.len hkn
    refine ⟨.ref s.heap.objs.size, _, I.laid (a := s.heap.objs.size) (o := dnO X.prog X.w s.heap.objs.size (ks.map neOf)) (t' := tk) (fun b u e => hk b u (by simp) e) (Nat.le_refl _) (dnO_ok ⟨?_, beq_eq_false_iff_ne.mpr (Ne.symm (Nat.ne_of_lt I.big)), prs, o2, es, ep, hkn, g1, g2, g3, g4, ?_⟩), rfl, q _ (I.hok.fresh (Nat.le_refl _))⟩
    · rw [hkl, hl]
      exact hz
    · rw [kn_keys hkn]
      exact hnd
/-! ### a list is made longer by a tuple -/
open PySem PyProof in
theorem ext_tup (l : Addr) (items : Array Value) (n : Nat) (b : Addr) (items2 : Array Value) (n2 : Nat) (dd : Option Addr) (sl : Array (Option Value)) (hs0 : ¬(!items.isEmpty && Builtin.List.listTooLong (items.size + items2.size)) = true) (hs1 : items.size ≤ sizeLine) (hs2 : items.size + items2.size ≤ sizeLine + 1) :
    Meets (Builtin.«list.extend» ⟨[.ref l, .ref b], []⟩) (fun _ R s => s.heap.get? l = some { cls := .type "list", dict := none, data := .seq items n, slots := #[] } ∧ s.heap.get? b = some { cls := .type "tuple", dict := dd, data := .seq items2 n2, slots := sl } ∧ R (.ok (.ret Value.none)) { s with heap := s.heap.update l (Obj.mapSeq fun x => x ++ items2), toks := s.toks }) :=
  .of_wp fun prog w A R s h => by
    obtain ⟨hp, g, d, tk, os⟩ := s; obtain ⟨hl, hb, h⟩ := h; have f1 := AutoSeq1.idx_int; have f2 := AutoSeq1.sub_tuple_tuple; have f3 := AutoSeq1.sub_list_list; have f4 := AutoSeq1.sub_tuple_list; have f5 := AutoSeq1.sub_list_tuple;
    have hz' : (items ++ items2).size ≤ sizeLine + 1 := by rw [Array.size_append]; exact hs2
    wp_walk using (wpAny_updateSeq hl rfl (hz := hs1) (_hz' := hz')), wpAny_loadPart' hl, wpAny_loadPart' hb; exact ⟨_, rfl, h⟩
section
variable {X : Cx}
def rExtendT (K : PySem.W.Frag) : V → List V → Hp → VK → Prop := fun x vs H Q => ∃ l b xs zs, x = .ref l ∧ vs = [.ref b] ∧ H l = some (.lst xs) ∧ SqT K H b zs ∧ xs.length + zs.length ≤ sizeLine ∧ Q .non (upd H l (.lst (xs ++ zs)))
theorem mt_extendT : MtM X "list.extend" (rExtendT X.K) := by
  intro pins s σ H x vs v us Q I rx rv h
  obtain ⟨l, b, xs, zs, rfl, rfl, hH, hB, hz, q⟩ := h
  cases rx
  obtain ⟨u, rfl, ru⟩ := rv.one
  cases ru
  obtain ⟨z, its, n, r, hl, e⟩ := I.lstM hH
  obtain ⟨its2, ⟨c2, d2, dt2, sl2⟩, n2, r2, e2, rfl, rfl⟩ := sqT_at I.hok I.kIn hB
  have l2 := r2.length
  have hsz : its.toArray.size + its2.toArray.size ≤ sizeLine := by rw [List.size_toArray, List.size_toArray]; omega
  have hlong : ¬ (!its.toArray.isEmpty && Builtin.List.listTooLong (its.toArray.size + its2.toArray.size)) = true := by
    rw [notLongL hsz, Bool.and_false]
    exact Bool.false_ne_true
  refine call_meets PySem.F.slot_list_extend ⟨_, e, rfl⟩ PySem.F.entry_list_extend (PySem.F.args_list_extend_2 _ _)
    (ext_tup l its.toArray n b its2.toArray n2 d2 sl2 hlong (by rw [List.size_toArray]; omega) (by omega)) ⟨e, e2, ?_⟩
  refine ⟨.non, _, I.lset (its' := its ++ its2) hH e (by simp) (r.append r2) ?_, rfl, q⟩
  rw [List.length_append]
  omega
end
/-! ### sorted(rows): rows whose first unlike items can be compared -/
section
open PySem.SeqAt
open PySem.AutoSeq1 (wpAny_loadPart')
open PySem.MeetsSeq PySem.MeetsSeq2 PySem.MeetsSeq3
/-- two tuples whose first items are unlike texts -/
theorem tup_lt_head (l b : Addr) (is js : List Value) (n n2 : Nat) (dd dd2 : Option Addr) (sl sl2 : Array (Option Value)) (x y : Str) (t u : Tok) (hne : (x == y) = false) :
    Meets (Builtin.«tuple.__lt__» ⟨[.ref l, .ref b], []⟩)
      (fun _ R s => s.heap.get? l = some { cls := .type "tuple", dict := dd, data := .seq (List.toArray (.str x t :: is)) n, slots := sl } ∧ s.heap.get? b = some { cls := .type "tuple", dict := dd2, data := .seq (List.toArray (.str y u :: js)) n2, slots := sl2 } ∧
        R (.ok (.ret (.bool (decide (x.cps.toList < y.cps.toList))))) s) :=
  .of_wp fun prog w A R s h => by
    obtain ⟨hp, g, d, tk, os⟩ := s; obtain ⟨hl, hb, h⟩ := h
    have f2 := PySem.AutoSeq1.sub_tuple_tuple
    wp_walk using wpAny_loadPart' hl, wpAny_loadPart' hb, wpAny_forIn_list _ (fun rest b s' => b.1 = none ∧ s' = ⟨hp, g, d, tk, os⟩ ∧ rest = (Value.str x t, Value.str y u) :: is.zip js) _
    case turn =>
      rintro ⟨p, q⟩ rest b s' ⟨hb', rfl, hz⟩
      injection hz with h1 h2
      injection h1 with h3 h4
      subst h3 h4 h2
      have he := SeqAt.EqAt.str_str (A := A.in1) (s := ⟨hp, g, d, tk, os⟩) x t y u
      rw [hne] at he
      refine wpAny_bind (he prog w _ _ ?_)
      have hri := DT.rcLt_str A.in1 ⟨hp, g, d, tk, os⟩ x t y u prog w
      wp_walk using hri
      exact ⟨_, rfl, by simpa using h⟩
    case fin =>
      rintro ⟨b1, b2⟩ s' ⟨hb', rfl, hz⟩
      cases hz
    case h =>
      exact ⟨rfl, rfl, by simp⟩
def LtAt (A : Around) (s : Shared) (v u : Value) (c : Bool) : Prop := ∀ (prog : Program) (w : World) (E : Value → Shared → Prop) (Q : Value → Shared → Prop), Q (.bool c) s → wpAny (model prog w) A (richCompare .Lt v u) Q E s
/-- two tuples whose first items are unlike and can be compared -/
theorem tup_lt_head2 (l b : Addr) (is js : List Value) (n n2 : Nat) (dd dd2 : Option Addr) (sl sl2 : Array (Option Value)) (v u : Value) (c : Bool) :
    Meets (Builtin.«tuple.__lt__» ⟨[.ref l, .ref b], []⟩)
      (fun A R s => s.heap.get? l = some { cls := .type "tuple", dict := dd, data := .seq (List.toArray (v :: is)) n, slots := sl } ∧ s.heap.get? b = some { cls := .type "tuple", dict := dd2, data := .seq (List.toArray (u :: js)) n2, slots := sl2 } ∧
        SeqAt.EqAt A.in1 s v u false ∧ LtAt A.in1 s v u c ∧ R (.ok (.ret (.bool c))) s) :=
  .of_wp fun prog w A R s h => by
    obtain ⟨hp, g, d, tk, os⟩ := s; obtain ⟨hl, hb, he, hlt, h⟩ := h
    have f2 := PySem.AutoSeq1.sub_tuple_tuple
    wp_walk using wpAny_loadPart' hl, wpAny_loadPart' hb, wpAny_forIn_list _ (fun rest b s' => b.1 = none ∧ s' = ⟨hp, g, d, tk, os⟩ ∧ rest = (v, u) :: is.zip js) _
    case turn =>
      rintro ⟨p, q⟩ rest b s' ⟨hb', rfl, hz⟩
      injection hz with h1 h2
      injection h1 with h3 h4
      subst h3 h4 h2
      refine wpAny_bind (he prog w _ _ ?_)
      have hri := hlt prog w
      wp_walk using hri
      exact ⟨_, rfl, by simpa using h⟩
    case fin =>
      rintro ⟨b1, b2⟩ s' ⟨hb', rfl, hz⟩
      cases hz
    case h =>
      exact ⟨rfl, rfl, by simp⟩
end
/-- x < y can be told: alike data, or tuples whose first items are unlike texts -/
inductive LtS : PyData → PyData → Prop
  | al {x y : PyData} : PySem.W.alike x y = true → x ≠ .none → LtS x y
  | hd {a b : Str} {xs ys : List PyData} : (a == b) = false → LtS (.tuple (.str a :: xs)) (.tuple (.str b :: ys))
/-- .. or tuples whose first items are so -/
inductive LtS2 : PyData → PyData → Prop
  | one {x y : PyData} : LtS x y → LtS2 x y
  | two {x y : PyData} {xs ys : List PyData} : PyData.eqv x y = false → x.plain = true → y.plain = true → LtS x y → LtS2 (.tuple (x :: xs)) (.tuple (y :: ys))
/-- the first unlike items can be compared (the very first are texts) -/
inductive FO : Nat → List PyData → List PyData → Prop
  | nil {i : Nat} {ys : List PyData} : FO i [] ys
  | nil2 {i : Nat} {xs : List PyData} : FO i xs []
  | eq {i : Nat} {x y : PyData} {xs ys : List PyData} : PyData.eqv x y = true → FO (i + 1) xs ys → FO i (x :: xs) (y :: ys)
  | s0 {a b : Str} {xs ys : List PyData} : PyData.eqv (.str a) (.str b) = false → FO 0 (.str a :: xs) (.str b :: ys)
  | lt {i : Nat} {x y : PyData} {xs ys : List PyData} : PyData.eqv x y = false → LtS2 x y → FO (i + 1) (x :: xs) (y :: ys)
section
variable {prog : Program} {w : World} {A : Around} {s : Shared}
theorem ltS_tells {x y : PyData} {p q : Value} {as bs : List Addr} (h : LtS x y) (ra : Reads s.heap p x as) (rb : Reads s.heap q y bs) (hu : A.units + 62 < cLine) (hx : x.depth ≤ 60) : ∃ b, ∀ (prog : Program) (w : World) (Q : Value → Shared → Prop) (E : Value → Shared → Prop), Q (.bool b) s → wpAny (model prog w) A (compareOp .Lt p q) Q E s := by
  cases h with
  | al ha hn =>
    refine ⟨_, fun prog w Q E hq => PySem.W.rcLt_alike x y A s p q as bs ra rb ha hn ?_ prog w E Q hq⟩
    have : min x.depth y.depth ≤ x.depth := Nat.min_le_left _ _
    omega
  | @hd a b xs ys hne =>
    cases ra with
    | @tuple l o vs n _ _ h1 h2 h3 h4 =>
      cases rb with
      | @tuple l' o' vs' n' _ _ k1 k2 k3 k4 =>
        obtain ⟨vs⟩ := vs
        obtain ⟨vs'⟩ := vs'
        cases h4 with
        | @cons v1 vs1 _ _ _ _ r1 r2 =>
          cases k4 with
          | @cons v2 vs2 _ _ _ _ q1 q2 =>
            cases r1 with
            | str _ t =>
              cases q1 with
              | str _ u =>
                obtain ⟨c, dd, dt, sl⟩ := o
                obtain ⟨c', dd', dt', sl'⟩ := o'
                simp only at h2 h3 k2 k3
                subst h2 h3 k2 k3
                refine ⟨decide (a.cps.toList < b.cps.toList), fun prog w Q E hq => ?_⟩
                exact richCompare_meets_room (op := .Lt) ⟨_, h1, rfl⟩ ⟨_, k1, rfl⟩ PySem.F.slot_tuple_lt PySem.F.entry_tuple_lt (PySem.F.args_tuple_lt_2 _ _) (tup_lt_head l l' vs1 vs2 n n' dd dd' sl sl' a b t u hne)
                  ⟨h1, k1, ⟨(fun z => nomatch z), hq⟩⟩ (by omega)
theorem ltS2_tells {x y : PyData} {p q : Value} {as bs : List Addr} (h : LtS2 x y) (ra : Reads s.heap p x as) (rb : Reads s.heap q y bs) (hu : A.units + 63 < cLine) (hx : x.depth ≤ 60) : ∃ b, ∀ (Q : Value → Shared → Prop) (E : Value → Shared → Prop), Q (.bool b) s → wpAny (model prog w) A (compareOp .Lt p q) Q E s := by
  cases h with
  | one h =>
    obtain ⟨b, hb⟩ := ltS_tells (A := A) h ra rb (by omega) hx
    exact ⟨b, hb prog w⟩
  | @two x y xs ys hne px py h =>
    cases ra with
    | @tuple l o vs n _ _ h1 h2 h3 h4 =>
      cases rb with
      | @tuple l' o' vs' n' _ _ k1 k2 k3 k4 =>
        obtain ⟨vs⟩ := vs
        obtain ⟨vs'⟩ := vs'
        cases h4 with
        | @cons v1 vs1 _ _ _ _ r1 r2 =>
          cases k4 with
          | @cons v2 vs2 _ _ _ _ q1 q2 =>
            obtain ⟨c, dd, dt, sl⟩ := o
            obtain ⟨c', dd', dt', sl'⟩ := o'
            simp only at h2 h3 k2 k3
            subst h2 h3 k2 k3
            have dx : x.depth ≤ 59 := by
              have : x.depth ≤ PyData.depthAll (x :: xs) := Nat.le_max_left _ _
              have e : PyData.depth (.tuple (x :: xs)) = PyData.depthAll (x :: xs) + 1 := rfl
              omega
            have hin : A.in1.units ≤ A.units + 1 := Nat.le_refl _
            have ex : ∃ b, ∀ (prog : Program) (w : World) (E : Value → Shared → Prop) (Q : Value → Shared → Prop), Q (.bool b) s → wpAny (model prog w) A.in1 (compareOp .Lt v1 v2) Q E s := by
              obtain ⟨b, hb⟩ := ltS_tells (A := A.in1) h r1 q1 (by show A.units + 1 + 62 < cLine; omega) (by omega)
              exact ⟨b, fun prog w E Q hq => hb prog w Q E hq⟩
            obtain ⟨b, hb⟩ := ex
            refine ⟨b, fun Q E hq => ?_⟩
            have he : SeqAt.EqAt A.in1 s v1 v2 false := by
              have := PySem.SeqAt.eqAt_plain _ _ A.in1 s _ _ _ _ r1 q1 px py (Nat.lt_of_le_of_lt (Nat.add_le_add hin (Nat.le_trans (Nat.min_le_left _ _) dx)) (by omega))
              rw [hne] at this
              exact this
            exact richCompare_meets_room (op := .Lt) ⟨_, h1, rfl⟩ ⟨_, k1, rfl⟩ PySem.F.slot_tuple_lt PySem.F.entry_tuple_lt (PySem.F.args_tuple_lt_2 _ _) (tup_lt_head2 l l' vs1 vs2 n n' dd dd' sl sl' v1 v2 b)
              ⟨h1, k1, he, hb, ⟨(fun z => nomatch z), hq⟩⟩ (by omega)
theorem fo_tells {fin : Bool} (hu : A.units + 63 < cLine) : ∀ {i : Nat} {xs ys : List PyData} {vs ws : List Value} {as bs : List Addr}, FO i xs ys → ReadsAll s.heap vs xs as → ReadsAll s.heap ws ys bs → PyData.plainAll xs = true → PyData.plainAll ys = true → (∀ x ∈ xs, x.depth ≤ 60) →
    ∃ b, PySem.W.KatLex prog w A true fin (fun r s' => s' = s ∧ r = b) (vs.zip ws) i s := by
  intro i xs ys vs ws as bs h
  induction h generalizing vs ws as bs with
  | nil =>
    intro ra _ _ _ _
    cases ra
    exact ⟨fin, PySem.W.kat_nil ⟨rfl, rfl⟩⟩
  | nil2 =>
    intro _ rb _ _ _
    cases rb
    rw [List.zip_nil_right]
    exact ⟨fin, PySem.W.kat_nil ⟨rfl, rfl⟩⟩
  | eq he _ ih =>
    intro ra rb pa pb hd
    rw [PyData.plainAll, Bool.and_eq_true] at pa pb
    cases ra with
    | cons r1 r2 =>
      cases rb with
      | cons q1 q2 =>
        obtain ⟨b, hb⟩ := ih r2 q2 pa.2 pb.2 fun x hx => hd x (List.mem_cons_of_mem _ hx)
        refine ⟨b, PySem.W.kat_cons (PySem.SeqAt.eqAt_plain _ _ A s _ _ _ _ r1 q1 pa.1 pb.1 ?_ prog w _ _ ?_)⟩
        · have := hd _ (List.mem_cons_self ..)
          exact Nat.lt_of_le_of_lt (Nat.add_le_add_left (Nat.le_trans (Nat.min_le_left _ _) (Nat.le_trans this (by decide : 60 ≤ 63))) _) hu
        · rw [he]
          exact PySem.W.kat_yes hb
  | @s0 sa sb _ _ he =>
    intro ra rb pa pb hd
    rw [PyData.plainAll, Bool.and_eq_true] at pa pb
    cases ra with
    | cons r1 r2 =>
      cases rb with
      | cons q1 q2 =>
        refine ⟨decide (sa.cps.toList < sb.cps.toList), PySem.W.kat_cons (PySem.SeqAt.eqAt_plain _ _ A s _ _ _ _ r1 q1 pa.1 pb.1 ?_ prog w _ _ ?_)⟩
        · have := hd _ (List.mem_cons_self ..)
          exact Nat.lt_of_le_of_lt (Nat.add_le_add_left (Nat.le_trans (Nat.min_le_left _ _) (Nat.le_trans this (by decide : 60 ≤ 63))) _) hu
        · rw [he]
          cases r1
          cases q1
          exact PySem.W.kat_no (PyProof.Rows.oneLt_str ⟨rfl, rfl⟩)
  | lt he hl =>
    intro ra rb pa pb hd
    rw [PyData.plainAll, Bool.and_eq_true] at pa pb
    cases ra with
    | cons r1 r2 =>
      cases rb with
      | cons q1 q2 =>
        obtain ⟨b, hb⟩ := ltS2_tells (prog := prog) (w := w) hl r1 q1 hu (hd _ (List.mem_cons_self ..))
        refine ⟨b, PySem.W.kat_cons (PySem.SeqAt.eqAt_plain _ _ A s _ _ _ _ r1 q1 pa.1 pb.1 ?_ prog w _ _ ?_)⟩
        · have := hd _ (List.mem_cons_self ..)
          exact Nat.lt_of_le_of_lt (Nat.add_le_add_left (Nat.le_trans (Nat.min_le_left _ _) (Nat.le_trans this (by decide : 60 ≤ 63))) _) hu
        · rw [he]
          refine PySem.W.kat_no ?_
          rename_i i' _ _ _ _ _ _ _ _ _ _ _ _
          have e0 : (true && (i' + 1 == 0)) = false := rfl
          rw [e0]
          exact PySem.W.kat_one _ _ (hb _ _ ⟨rfl, rfl⟩)
end
/-- rows that can be sorted -/
structure RowsOk (ds : List PyData) : Prop where
  tup : ∀ d ∈ ds, ∃ k xs, d = .tuple (.str k :: xs) ∧ PyData.plainAll (.str k :: xs) = true ∧ ∀ x ∈ (PyData.str k :: xs), x.depth ≤ 60
  cmp : ∀ xs ys, .tuple xs ∈ ds → .tuple ys ∈ ds → FO 0 xs ys
section
variable {prog : Program} {w : World} {A : Around} {s : Shared}
theorem reads_mem {h : Heap} : ∀ {vs : List Value} {ds : List PyData} {as : List Addr}, ReadsAll h vs ds as → ∀ v ∈ vs, ∃ d ∈ ds, ∃ bs, Reads h v d bs
  | _, _, _, .nil, v, hv => nomatch hv
  | _, _, _, .cons (d := d) r rs, v, hv => by
    rcases List.mem_cons.mp hv with rfl | hv
    · exact ⟨d, List.mem_cons_self .., _, r⟩
    · obtain ⟨d', hd, bs, r'⟩ := reads_mem rs v hv
      exact ⟨d', List.mem_cons_of_mem _ hd, bs, r'⟩
theorem rows_tot {vs : List Value} {ds : List PyData} {as : List Addr} (hu : A.units + 63 < cLine) (ra : ReadsAll s.heap vs ds as) (h : RowsOk ds) : Srt.Tot prog w A s (PyProof.Rows.tuples' true) (fun p => p.1 ∈ vs) := by
  intro p q hm hm'
  obtain ⟨d, hd, b1, r1⟩ := reads_mem ra _ hm
  obtain ⟨d', hd', b2, r2⟩ := reads_mem ra _ hm'
  obtain ⟨k, xs, rfl, p1, e1⟩ := h.tup d hd
  obtain ⟨k', ys, rfl, p2, e2⟩ := h.tup d' hd'
  generalize p.1 = pv at r1
  generalize q.1 = qv at r2
  cases r1 with
  | @tuple l o us n _ _ h1 h2 h3 h4 =>
    cases r2 with
    | @tuple l' o' us' n' _ _ k1 k2 k3 k4 =>
      obtain ⟨b, hb⟩ := fo_tells (prog := prog) (w := w) (fin := decide (us.size < us'.size)) hu (h.cmp _ _ hd hd') h4 k4 p1 p2 e1
      exact ⟨b, PySem.W.kat_lt h1 h3 k1 k3 hb⟩
theorem rows_firsts {h : Heap} : ∀ {vs : List Value} {ds : List PyData} {as : List Addr}, ReadsAll h vs ds as → (∀ d ∈ ds, ∃ k xs, d = PyData.tuple (.str k :: xs)) → ∃ fs : List Value, PySem.W.KatTups h vs fs ∧ fs.length = vs.length ∧ ∀ f ∈ fs, ∃ x t, f = Value.str x t
  | _, _, _, .nil, _ => ⟨[], PySem.W.KatTups.nil, rfl, fun _ hm => nomatch hm⟩
  | _, _, _, .cons (d := d) r rs, ht => by
    obtain ⟨fs, h1, h2, h3⟩ := rows_firsts rs fun d hd => ht d (List.mem_cons_of_mem _ hd)
    obtain ⟨k, xs, rfl⟩ := ht d (List.mem_cons_self ..)
    cases r with
    | @tuple l o us n _ _ g1 g2 g3 g4 =>
      obtain ⟨us⟩ := us
      cases g4 with
      | @cons v1 vs1 _ _ _ _ r1 r2 =>
        cases r1 with
        | str _ t =>
          refine ⟨.str k t :: fs, PySem.W.KatTups.cons g1 g2 g3 (by simp) h1, by rw [List.length_cons, List.length_cons, h2], fun f hm => ?_⟩
          rcases List.mem_cons.mp hm with rfl | hm
          · exact ⟨k, t, rfl⟩
          · exact h3 f hm
end
section
variable {X : Cx}
/-- sorted(rows): the same rows in some order -/
def rSortRows (K : PySem.W.Frag) : List V → Hp → VK → Prop := fun xs H Q => ∃ (a : Addr) (vs : List V) (ds : List PyData), xs = [.ref a] ∧ SqL K H a vs ∧ DpAll K H vs ds ∧ RowsOk ds ∧ ∀ (ys : List V) (p : Addr), ys.Perm vs → H p = none → Q (.ref p) (upd H p (.lst ys))
theorem refs_dp {K : PySem.W.Frag} {H : Hp} : ∀ {vs : List V} {ds : List PyData}, DpAll K H vs ds → (∀ d ∈ ds, ∃ xs, d = PyData.tuple xs) → ∀ v ∈ vs, ∃ t, v = V.ref t
  | _, _, .nil, _, v, hv => nomatch hv
  | _, _, .cons (d := d) r rs, ht, v, hv => by
    rcases List.mem_cons.mp hv with rfl | hv
    · obtain ⟨xs, rfl⟩ := ht d (List.mem_cons_self ..)
      cases r with
      | tup _ _ => exact ⟨_, rfl⟩
    · exact refs_dp rs (fun d hd => ht d (List.mem_cons_of_mem _ hd)) v hv
theorem cr_sortRows (hu : X.A.units + 65 < cLine) : CallR X (.builtin "sorted") (rSortRows X.K) := by
  intro pins s σ H vs us Q I r h
  obtain ⟨a, xs, ds, rfl, hs, hx, hok, q⟩ := h
  obtain ⟨its, rv, hl, hz⟩ := I.list hs
  obtain ⟨u, rfl, ru⟩ := vals1 r
  obtain rfl : u = Value.ref a := ru
  obtain ⟨as, ra⟩ := Dp.readsAll I ds xs its hx rv
  obtain ⟨e1, e2⟩ := refs_back rv (refs_dp hx fun d hd => by obtain ⟨k, ys, e, _⟩ := hok.tup d hd; exact ⟨_, e⟩)
  refine Srt.sorted_any hl.isList (by rw [← rv.length]; exact hz) (fun h2 h₁ a' ha k => ?_) fun out ho => ?_
  · intro h' keep
    have kk : ∀ b o, s.heap.get? b = some o → h'.get? b = some o := fun b o e => keep b o (k b o e).1 (k b o e).2
    have ra' : ReadsAll h' its ds as := ReadsAll.keeps kk ra
    obtain ⟨fs, g1, g2, g3⟩ := rows_firsts ra' fun d hd => by obtain ⟨k, ys, e, _⟩ := hok.tup d hd; exact ⟨k, ys, e⟩
    refine ⟨PyProof.Rows.tuples' true, fun Q E hq => ?_, rows_tot (s := { s with heap := h' }) (by show X.A.units + 1 + 1 + 63 < cLine; omega) ra' hok⟩
    refine PySem.W.kat_kind (T := .type "str") g1 (by omega) (fun f hm => ?_) (by rfl) ?_
    · obtain ⟨x, t, rfl⟩ := g3 f hm
      exact PySem.W.Looks.now
    · have e : (Value.type "str" != Value.type "tuple") = true := by first | decide +kernel | rfl | decide
      rw [e]
      exact hq
  · have h3 : ∀ u ∈ out, ∃ a, u = Value.ref a := fun u hu => e2 u (ho.mem_iff.mp hu)
    obtain ⟨n, hn⟩ := PyProof.Rows.sortedAll_at s.heap its out.toArray
    refine ⟨.ref (s.heap.objs.size + 1), upd H (s.heap.objs.size + 1) (.lst (out.map backV)), I.laid (t' := s.toks) (fun b o e => PyProof.Rows.sortedAll_old e) (Nat.le_succ _) ⟨?_, out, n, vals_back h3, hn⟩, rfl, q _ _ ?_ (I.hok.fresh (Nat.le_succ _))⟩
    · rw [List.length_map, ho.length_eq, ← rv.length]; exact hz
    · rw [e1]; exact ho.map backV
end
/-! ### sets of texts: made of a list or a tuple, counted, sorted -/
def keyTx (e : Int × Value) : Str := match e.2 with
  | .str k _ => k
  | _ => Str.empty
def TxE (w : World) (e : Int × Value) : Prop := ∃ k tk, e.2 = Value.str k tk ∧ e.1 = hashStr w k
/-- the set at a has just these texts, and can be gone through -/
def SetTx (w : World) (h : Heap) (a : Addr) (ks : List Str) : Prop := ∃ o es ep t, h.get? a = some o ∧ o.ExactSet ∧ o.data = .set es ep t ∧ (∀ e ∈ es.toList, TxE w e) ∧ (es.toList.map keyTx).Perm ks ∧ ks.Nodup ∧
  es.size < scanBound ∧ t.fits es.size = true ∧ Ris t.place.toList ∧ (w.params.followText "set-order" = true ∨ t.led = true)
theorem SetTx.keep {w : World} {h h' : Heap} {a : Addr} {ks : List Str} (R : SetTx w h a ks) (k : ∀ o, h.get? a = some o → h'.get? a = some o) : SetTx w h' a ks := by
  obtain ⟨o, es, ep, t, e, r⟩ := R
  exact ⟨o, es, ep, t, k o e, r⟩
theorem SetTx.perm {w : World} {h : Heap} {a : Addr} {ks ks' : List Str} (R : SetTx w h a ks) (p : ks.Perm ks') : SetTx w h a ks' := by
  obtain ⟨o, es, ep, t, h1, h2, h3, h4, h5, h6, r⟩ := R
  exact ⟨o, es, ep, t, h1, h2, h3, h4, h5.trans p, p.nodup_iff.mp h6, r⟩
section
variable {P : Program} {w : World} {A : Around} {E : Value → Shared → Prop} {s : Shared} {a : Addr} {ks : List Str}
theorem tx_elems {l : List (Int × Value)} (g : ∀ e ∈ l, TxE w e) : ElemsOf (PySem.strKind P w) l := fun e he => by
  obtain ⟨k, tk, h1, h2⟩ := g e he
  refine ⟨⟨k, ?_, h2⟩, ?_⟩
  · rw [h1]
    exact strKind_is P w k tk
  · rw [h1]
    rfl
theorem tx_is {e : Int × Value} (g : TxE w e) (k : Str) : (PySem.strKind P w).is k e.2 = true ↔ keyTx e = k := by
  obtain ⟨k0, tk, h1, _⟩ := g
  unfold keyTx
  rw [h1]
  constructor
  · intro z
    obtain ⟨t, q⟩ := Value.isStrOf_shape (show Value.isStrOf k (.str k0 tk) = true from z)
    injection q
  · intro z
    have z : k0 = k := z
    rw [← z]
    exact strKind_is P w k0 tk
/-- the end of an addition: it is laid in, the table is made wider at times -/
theorem tx_laid {g : Bool → Sem Unit} (hg : ∀ (b : Bool) (s₁ : Shared) (Q' : Unit → Shared → Prop), Q' () s₁ → wpAny (model P w) A (g b) Q' E s₁)
    {o : Obj} {es0 : Array (Int × Value)} {ep : Nat} {t0 : SetTable} (ho : s.heap.get? a = some o) (hex : o.ExactSet) (hd : o.data = .set es0 ep t0)
    {es : Array (Int × Value)} {t : SetTable} (h1 : ∀ e ∈ es.toList, TxE w e) (h2 : (es.toList.map keyTx).Perm ks) (h3 : ks.Nodup) (h4 : es.size < scanBound) (h5 : t.fits es.size = true) (h6 : Ris t.place.toList) (h7 : w.params.followText "set-order" = true ∨ t.led = true)
    {was : Bool} {R : Option Bool → Shared → Prop} (hR : ∀ h', Heap.SameBut a s.heap h' → SetTx w h' a ks → R (some true) { s with heap := h' }) :
    wpAny (model P w) A (do
        storeSet a es t
        if (!was && t.tooFull) = true then do
            g (relayAll t es (SetTable.grown es.size)).2.2
            storeSet a (relayAll t es (SetTable.grown es.size)).1 (relayAll t es (SetTable.grown es.size)).2.1
            pure (some true)
          else pure (some true)) R E s := by
  refine wpAny_bind (wpAny_storeSet_of ho hd ?_ (fits_of_scanBound h4))
  have at1 := store_at (es' := es) (t' := t) ho hd
  have but1 := Heap.SameBut.update s.heap a (Obj.putSet es t)
  split
  · obtain ⟨Z, eZ⟩ : ∃ Z, Z = relayAll t es (SetTable.grown es.size) := ⟨_, rfl⟩
    have q1 := relayAll_perm t es (SetTable.grown es.size)
    have q2 := relayAll_fits t es (SetTable.grown es.size)
    have q3 := relayAll_ris t es (SetTable.grown es.size)
    have q4 := relayAll_led t es (SetTable.grown es.size)
    rw [← eZ] at q1 q2 q3 q4 ⊢
    have sz : Z.1.size = es.size := by
      rw [← Array.length_toList, q1.length_eq, Array.length_toList]
    refine wpAny_bind (hg _ _ _ ?_)
    refine wpAny_bind (wpAny_storeSet_of at1 rfl ?_ (fits_of_scanBound (by rw [sz]; exact h4)))
    have at2 := store_at (es' := Z.1) (t' := Z.2.1) at1 rfl
    exact wpAny_pure (hR _ (but1.trans (Heap.SameBut.update _ a _)) ⟨_, Z.1, _, Z.2.1, at2, hex, rfl, fun e he => h1 e (q1.mem_iff.mp he), (q1.map keyTx).trans h2, h3, by rw [sz]; exact h4, q2, q3, h7.imp id fun z => by rw [q4]; exact z⟩)
  · exact wpAny_pure (hR _ but1 ⟨_, es, _, t, at1, hex, rfl, h1, h2, h3, h4, h5, h6, h7⟩)
def putTx (ks : List Str) (k : Str) : List Str := if k ∈ ks then ks else k :: ks
theorem tx_add {k : Str} {tk : Tok} {Q : Bool → Shared → Prop} (R : SetTx w s.heap a ks) (room : ks.length + 1 < scanBound)
    (hQ : ∀ b h', Heap.SameBut a s.heap h' → SetTx w h' a (putTx ks k) → Q b { s with heap := h' }) :
    wpAny (model P w) A (setAddHashed a (.str k tk) ((PySem.strKind P w).hash k)) Q E s := by
  obtain ⟨o, es, ep, t, ho, hex, hd, g, pm, nd, hb, hf, hr, hl⟩ := R
  have hel : ElemsOf (PySem.strKind P w) es.toList := tx_elems g
  unfold setAddHashed setAddHashedIn
  refine wpAny_holding (wpAny_bind (wpAny_setState_of ho hd hf ?_))
  dsimp only
  rw [byScan_of (x := Value.str k tk) rfl hb hel]
  simp only [↓reduceIte]
  unfold setAddByScan
  refine wpAny_bind (wpAny_bind (wpAny_rule (wpAny_bind (wpAny_setScan_of (strKind_is P w k tk) ho hd hf hel ?_))))
  cases hfi : List.findIdx? (fun e => (PySem.strKind P w).is k e.2) es.toList with
  | some j =>
    dsimp only
    obtain ⟨hj, pj, _⟩ := List.findIdx?_eq_some_iff_getElem.mp hfi
    have mem : k ∈ ks := pm.mem_iff.mp (List.mem_map.mpr ⟨_, List.getElem_mem hj, (tx_is (g _ (List.getElem_mem hj)) k).mp pj⟩)
    refine wpAny_pure (wpAny_pure (hQ _ s.heap (Heap.SameBut.refl a s.heap) ?_))
    unfold putTx
    rw [if_pos mem]
    exact ⟨o, es, ep, t, ho, hex, hd, g, pm, nd, hb, hf, hr, hl⟩
  | none =>
    dsimp only
    have nk : k ∉ ks := fun z => by
      obtain ⟨e, he, q⟩ := List.mem_map.mp (pm.mem_iff.mpr z)
      have c := List.findIdx?_eq_none_iff.mp hfi e he
      rw [(tx_is (P := P) (g e he) k).mpr q] at c
      cases c
    have way : ∀ (b : Bool) {s₁ : Shared} {Q' : Unit → Shared → Prop}, Q' () s₁ → wpAny (model P w) A (match b with | true => rule "set.scan.the-table-gave-way" | false => pure ()) Q' E s₁ :=
      fun b s₁ Q' q => by cases b <;> first | exact wpAny_pure q | exact wpAny_rule q
    have p1 := layNew_perm t es ((PySem.strKind P w).hash k) (.str k tk)
    have p2 := layNew_fits t es ((PySem.strKind P w).hash k) (.str k tk)
    have p3 := layNew_ris t es ((PySem.strKind P w).hash k) (.str k tk) hr
    have p4 := layNew_led t es ((PySem.strKind P w).hash k) (.str k tk)
    generalize layNew t es ((PySem.strKind P w).hash k) (.str k tk) = Z at p1 p2 p3 p4 ⊢
    obtain ⟨es1, t1, was, gave⟩ := Z
    dsimp only at p1 p2 p3 p4 ⊢
    rw [Array.toList_push] at p1
    have pc : es1.toList.Perm (((PySem.strKind P w).hash k, Value.str k tk) :: es.toList) := p1.trans (List.perm_append_singleton _ _)
    have g1 : ∀ e ∈ es1.toList, TxE w e := fun e he => by
      rcases List.mem_cons.mp (pc.mem_iff.mp he) with z | z
      · rw [z]
        exact ⟨k, tk, rfl, rfl⟩
      · exact g e z
    have pk : (es1.toList.map keyTx).Perm (k :: ks) := (pc.map keyTx).trans (List.Perm.cons k pm)
    have lk : es.size = ks.length := by
      rw [← Array.length_toList, ← pm.length_eq, List.length_map]
    have sz : es1.size = ks.length + 1 := by
      rw [← Array.length_toList, pc.length_eq, List.length_cons, Array.length_toList, lk]
    have led : w.params.followText "set-order" = true ∨ t1.led = true := hl.imp id fun z => by rw [p4]; exact z
    have fin : ∀ h', Heap.SameBut a s.heap h' → SetTx w h' a (k :: ks) → ∀ b, Q b { s with heap := h' } := fun h' sb r b => hQ b h' sb (by
      unfold putTx
      rw [if_neg nk]
      exact r)
    have ndk : (k :: ks).Nodup := List.nodup_cons.mpr ⟨nk, nd⟩
    refine wpAny_bind (way _ ?_)
    split
    · refine wpAny_bind ?_
      rw [hashByValue_scannable 8 (x := Value.str k tk) rfl]
      refine wpAny_pure ?_
      refine tx_laid ?_ ho hex hd g1 pk ndk (by rw [sz]; exact room) ?_ ?_ ?_ ?_
      · intro b s₁ Q' q
        cases b <;> first | exact wpAny_pure q | exact wpAny_rule q
      · first | (split <;> first | exact p2 | exact SetTable.fits_plain_off p2) | exact p2
      · first | (split <;> exact p3) | exact p3
      · first | (split <;> exact led) | exact led
      · intro h' sb r
        dsimp only
        exact wpAny_pure (fin h' sb r _)
    · refine wpAny_bind (wpAny_pure ?_)
      simp only [↓reduceIte]
      refine tx_laid ?_ ho hex hd g1 pk ndk (by rw [sz]; exact room) p2 p3 led ?_
      · intro b s₁ Q' q
        cases b <;> first | exact wpAny_pure q | exact wpAny_rule q
      · intro h' sb r
        dsimp only
        exact wpAny_pure (fin h' sb r _)
end
/-! the texts of a list or a tuple, one behind the other -/
def gotTx (xs : List Str) : List Str := xs.foldl putTx []
theorem putTx_mem {ks : List Str} {k x : Str} : x ∈ putTx ks k ↔ x = k ∨ x ∈ ks := by
  unfold putTx
  by_cases h : k ∈ ks
  · rw [if_pos h]
    exact ⟨.inr, fun z => z.elim (fun e => e ▸ h) id⟩
  · rw [if_neg h]
    exact List.mem_cons
theorem putTx_nodup {ks : List Str} {k : Str} (h : ks.Nodup) : (putTx ks k).Nodup := by
  unfold putTx
  by_cases c : k ∈ ks
  · rw [if_pos c]
    exact h
  · rw [if_neg c]
    exact List.nodup_cons.mpr ⟨c, h⟩
theorem putTx_len {ks : List Str} {k : Str} : (putTx ks k).length ≤ ks.length + 1 := by
  unfold putTx
  split
  · omega
  · rw [List.length_cons]
    exact Nat.le_refl _
theorem gotTx_snoc (xs : List Str) (k : Str) : gotTx (xs ++ [k]) = putTx (gotTx xs) k := by
  unfold gotTx
  rw [List.foldl_append]
  rfl
theorem gotTx_all : ∀ (xs : List Str) (ks : List Str), ks.Nodup → (xs.foldl putTx ks).Nodup ∧ (∀ x, x ∈ xs.foldl putTx ks ↔ x ∈ xs ∨ x ∈ ks) ∧ (xs.foldl putTx ks).length ≤ ks.length + xs.length
  | [], ks, h => ⟨h, fun x => ⟨.inr, fun z => z.elim (fun y => nomatch y) id⟩, Nat.le_refl _⟩
  | k :: xs, ks, h => by
    obtain ⟨h1, h2, h3⟩ := gotTx_all xs (putTx ks k) (putTx_nodup h)
    refine ⟨h1, fun x => ?_, ?_⟩
    · show x ∈ xs.foldl putTx (putTx ks k) ↔ _
      rw [h2 x, putTx_mem, List.mem_cons]
      constructor
      · rintro (z | z | z)
        · exact .inl (.inr z)
        · exact .inl (.inl z)
        · exact .inr z
      · rintro ((z | z) | z)
        · exact .inr (.inl z)
        · exact .inl z
        · exact .inr (.inr z)
    · have := putTx_len (ks := ks) (k := k)
      show (xs.foldl putTx (putTx ks k)).length ≤ _
      rw [List.length_cons]
      omega
theorem gotTx_nodup (xs : List Str) : (gotTx xs).Nodup := (gotTx_all xs [] List.nodup_nil).1
theorem gotTx_mem {xs : List Str} {x : Str} : x ∈ gotTx xs ↔ x ∈ xs := by
  have := (gotTx_all xs [] List.nodup_nil).2.1 x
  exact ⟨fun z => (this.mp z).elim id fun y => (by cases y), fun z => this.mpr (.inl z)⟩
theorem gotTx_len (xs : List Str) : (gotTx xs).length ≤ xs.length := by
  have := (gotTx_all xs [] List.nodup_nil).2.2
  rw [List.length_nil, Nat.zero_add] at this
  exact this
theorem tx_fresh {w : World} {h : Heap} {a : Addr} (ho : h.get? a = some { cls := .type "set", dict := none, data := .set #[] 0 (.fresh 0 0 (!w.params.followText "set-order")) }) : SetTx w h a [] := by
  refine ⟨_, #[], 0, _, ho, ⟨rfl, rfl, rfl⟩, rfl, fun e he => ?_, .nil, List.nodup_nil, by show 0 < scanBound; unfold scanBound; omega, rfl, List.Pairwise.nil, ?_⟩
  · cases he
  · show _ ∨ (!w.params.followText "set-order") = true
    cases w.params.followText "set-order"
    · exact .inr rfl
    · exact .inl rfl
section
variable {P : Program} {w : World} {A : Around} {R : Result → Shared → Prop} {I : Addr} {fp wr : List Addr} {G : Array GenState → Array GenState → Prop} {n : Nat} {Pv : Nat → Value → Prop} {St : Nat → Shared → Prop}
theorem tx_loop (W : WalksS P w A.in1 I fp wr G n Pv St) (S : Addr) (hSf : S ∉ fp) (xs : List Str) (hn : xs.length = n) (few : n + 1 < scanBound) (hval : ∀ i v, Pv i v → ∃ x t, xs[i]? = some x ∧ v = .str x t) :
    ∀ (k i : Nat) (s : Shared), n - i = k → i ≤ n → St i s → SetTx w s.heap S (gotTx (xs.take i)) →
      (∀ s', Moved (S :: wr) G s s' → SetTx w s'.heap S (gotTx xs) → R (.ok (.ret .none)) s') → codeAny (model P w) A (.builtin "set.update.loop" ⟨[.ref S, .ref I], []⟩) R s := by
  have nw : S ∉ wr := fun h => hSf (W.sub _ h)
  have sub : ∀ b ∈ wr, b ∈ S :: wr := fun b hb => List.mem_cons_of_mem _ hb
  intro k
  induction k with
  | zero =>
    intro i s hk hi hst hS hR
    have ei : i = n := by omega
    subst ei
    refine codeAny_builtin PyProof.Rows.F.entry_set_update_loop ?_
    rw [Around.under_plainId PyProof.Rows.F.plain_set_update_loop _]
    show wpAny _ A.in1 (pyNext (.ref I) >>= _) _ _ s
    refine wpAny_bind (W.done s _ _ hst fun s' mv => ?_)
    rw [← hn, List.take_length] at hS
    exact wpAny_pure (hR s' (mv.mono sub) (hS.keep fun o e => mv.heap S o nw e))
  | succ k ih =>
    intro i s hk hi hst hS hR
    have lt : i < n := by omega
    refine codeAny_builtin PyProof.Rows.F.entry_set_update_loop ?_
    rw [Around.under_plainId PyProof.Rows.F.plain_set_update_loop _]
    show wpAny _ A.in1 (pyNext (.ref I) >>= _) _ _ s
    refine wpAny_bind (W.item i s _ _ lt hst fun v s' hP st2 mv => ?_)
    obtain ⟨x, t, hx, rfl⟩ := hval i v hP
    have hS1 : SetTx w s'.heap S (gotTx (xs.take i)) := hS.keep fun o e => mv.heap S o nw e
    show wpAny _ A.in1 (holding [Value.str x t] (setAdd S (.str x t)) >>= _) _ _ s'
    refine wpAny_bind (wpAny_holding ?_)
    unfold setAdd
    refine wpAny_holding (wpAny_bind ((PySem.strKind P w).pyHash (k := x) (strKind_is _ _ _ _) ?_))
    have ll := gotTx_len (xs.take i)
    rw [List.length_take] at ll
    refine tx_add (s := { s' with toks := s'.toks + 1 }) hS1 (by omega) fun b h' sb hS2 => ?_
    have nx : putTx (gotTx (xs.take i)) x = gotTx (xs.take (i + 1)) := by
      rw [List.take_add_one, hx]
      exact (gotTx_snoc _ _).symm
    rw [nx] at hS2
    refine wpAny_pure ⟨plainId_quiet PyProof.Rows.F.plain_set_update_loop _, ih (i + 1) _ (by omega) lt (W.frame _ s' _ _ st2 (Nat.le_succ _) fun c hc o e => ?_) hS2 fun s2 mv2 hS3 => ?_⟩
    · exact (sb.2 c fun z => hSf (z ▸ hc)).trans e
    · refine hR s2 (Moved.trans W.gtrans ((mv.mono sub).then_heap (Nat.le_succ _) fun c o hc e => ?_) mv2) hS3
      exact (sb.2 c fun z => hc (z ▸ List.mem_cons_self)).trans e
end
theorem strs_nth : ∀ {vs : List Value} {xs : List Str}, PyProof.Rows.StrsAre vs xs → ∀ {i : Nat} {v : Value}, vs[i]? = some v → ∃ x t, xs[i]? = some x ∧ v = .str x t
  | _, _, .nil, i, v, e => by simp at e
  | _, _, .cons x t r, 0, v, e => ⟨x, t, rfl, (Option.some.inj e).symm⟩
  | _, _, .cons x t r, i + 1, v, e => strs_nth r (i := i) (by simpa using e)
theorem strs_len : ∀ {vs : List Value} {xs : List Str}, PyProof.Rows.StrsAre vs xs → vs.length = xs.length
  | _, _, .nil => rfl
  | _, _, .cons x t r => by rw [List.length_cons, List.length_cons, strs_len r]
section
variable {P : Program} {w : World} {A : Around} {E : Value → Shared → Prop} {s : Shared}
set_option maxRecDepth 100000 in
set_option maxHeartbeats 3200000 in
theorem tx_of_list {l : Addr} {items : Array Value} {xs : List Str} {Q : Value → Shared → Prop} (hh : A.handled = none) (hl : s.heap.IsList l items) (hi : PyProof.Rows.StrsAre items.toList xs) (few : xs.length + 1 < scanBound)
    (h : ∀ (h' : Heap) (tk : Nat), SetTx w h' s.heap.objs.size (gotTx xs) → (∀ b o, s.heap.get? b = some o → h'.get? b = some o) → Q (.ref s.heap.objs.size) { s with heap := h', toks := tk }) : wpAny (model P w) A (call (.type "set") [.ref l]) Q E s := by
  have nx : xs.length = items.size := by
    rw [← strs_len hi, Array.length_toList]
  obtain ⟨c, tl, hmro⟩ := PySem.F.called_set.mro
  have w1 := PySem.F.called_set.made
  have w2 := PySem.F.called_set.sub
  refine wpAny_call (codeAny_of_tree ?_)
  show wpAny _ _ (callAny (.type "set") _) _ _ _
  refine wpAny_pure ⟨Code.quiet_builtin _ (by decide +kernel), codeAny_builtin PySem.F.entry_type_call ?_⟩
  rw [Around.under_plain (weight_type_call_type "set" [.ref l] []) rfl]
  have w3 := PySem.F.called_set.notType
  have w4 := PySem.F.called_set.canCreate
  have w5 := PySem.F.typeCall_set_1 (.ref l)
  repeat (any_goals (first | assumption | wp_step))

  refine codeAny_mono (code_set_led1 (.ref l) (E := E) (Q₁ := fun obj s₁ => obj = .ref s.heap.objs.size ∧ s₁ = { s with heap := s.heap.push { cls := .type "set", dict := none, data := .set #[] 0 (.fresh 0 0 (!w.params.followText "set-order")) } }) ⟨rfl, rfl⟩) fun r s₁ hr => ?_
  cases r with
  | error e => exact hr
  | ok fl =>
    cases fl with
    | ret obj =>
      obtain ⟨rfl, rfl⟩ := hr
      have at0 : (s.heap.push { cls := .type "set", dict := none, data := .set #[] 0 (.fresh 0 0 (!w.params.followText "set-order")) }).get? s.heap.objs.size = some { cls := .type "set", dict := none, data := .set #[] 0 (.fresh 0 0 (!w.params.followText "set-order")) } := Heap.get?_push_size _ rfl
      have ty0 : Shared.TypeIs { s with heap := s.heap.push { cls := .type "set", dict := none, data := .set #[] 0 (.fresh 0 0 (!w.params.followText "set-order")) } } (.ref s.heap.objs.size) "set" := ⟨_, at0, rfl⟩
      have w6 := PySem.F.called_set.init.lookup
      have w7 := PySem.F.called_set.init.bind (.ref s.heap.objs.size)
      repeat (any_goals (first | assumption | wp_step))

      refine codeAny_mono (codeAny_call_builtin (R := wants (fun r s₂ => r = .none ∧ ∃ h' tk, s₂ = { s with heap := h', toks := tk } ∧ SetTx w h' s.heap.objs.size (gotTx xs) ∧ (∀ b o, s.heap.get? b = some o → h'.get? b = some o)) E) PySem.F.called_set.init.plain PySem.F.entry_set_init (check_set_init_1 ty0 ?_)) fun r₂ s₂ hr₂ => ?_
      · obtain ⟨ol, hol, hcl, nl, hdl⟩ := hl
        obtain ⟨ocls, odict, odata, oslots⟩ := ol
        simp only at hcl hdl
        subst hcl; subst hdl
        have hol' : (s.heap.push { cls := .type "set", dict := none, data := .set #[] 0 (.fresh 0 0 (!w.params.followText "set-order")) }).get? l = some { cls := .type "list", dict := odict, data := .seq items nl, slots := oslots } := Heap.get?_push_of_some _ hol
        have w8 := PySem.F.sub_list_set
        have w9 := PySem.F.sub_list_frozenset
        have w10 : (Value.type "list" == Value.type "dict") = false := by decide
        have hl1 : (s.heap.push { cls := .type "set", dict := none, data := .set #[] 0 (.fresh 0 0 (!w.params.followText "set-order")) }).IsList l items := ⟨_, hol', rfl, nl, rfl⟩
        unfold Builtin.«set.__init__» noKeywords Builtin.Frozenset.updateFrom
        generalize hPI : pyIter = PI
        wp_walk
        subst hPI

        refine wpAny_pyIter_list hl1 ?_
        refine wpAny_bind (wpAny_runValue ?_)
        have low : l < s.heap.objs.size := Heap.lt_size hol
        have h3 : A.in1.in1.in1.handled = none := by simp [hh]
        have sz : (s.heap.push { cls := .type "set", dict := none, data := .set #[] 0 (.fresh 0 0 (!w.params.followText "set-order")) }).objs.size = s.heap.objs.size + 1 := Heap.size_push ..
        refine tx_loop (w := w) ((Walks.list h3 _ l (by rw [sz]; exact Nat.ne_of_lt (Nat.lt_succ_of_lt low)) items).toS) s.heap.objs.size (fun hm => ?_) xs nx (by rw [← nx]; exact few) (fun i v hv => strs_nth hi (by rw [Array.getElem?_toList]; exact hv)) (items.size - 0) 0 _ (by omega) (Nat.zero_le _)
          ⟨⟨_, Heap.get?_push_size _ rfl, rfl, rfl⟩, (hl1.push _)⟩ (tx_fresh ?_) ?_
        · simp only [List.mem_cons, List.not_mem_nil, or_false, sz] at hm
          rcases hm with z | z
          · exact absurd z (Nat.ne_of_lt (Nat.lt_succ_self _))
          · exact absurd z (Nat.ne_of_gt low)
        · exact Heap.get?_push_of_some _ at0
        · intro s' mv hS'
          obtain ⟨h', g2, d', tk', os'⟩ := s'
          have eg : g2 = s.gens := mv.gens
          have ed : d' = s.drawn := mv.drawn
          have eo : os' = s.os := mv.os
          subst eg; subst ed; subst eo
          show wpAny _ _ _ _ _ _
          refine wpAny_pure ?_
          show wpAny _ _ (ret Value.none) _ _ _
          refine wpAny_pure ⟨rfl, h', tk', rfl, hS', fun b o e => mv.heap b o (fun hm => ?_) (Heap.get?_push_of_some _ (Heap.get?_push_of_some _ e))⟩
          have lb : b < s.heap.objs.size := Heap.lt_size e
          simp only [List.mem_cons, List.not_mem_nil, or_false, sz] at hm
          rcases hm with z | z
          · exact absurd z (Nat.ne_of_lt lb)
          · exact absurd z (Nat.ne_of_lt (Nat.lt_succ_of_lt lb))
      · cases r₂ with
        | error e => exact hr₂
        | ok fl₂ =>
          cases fl₂ with
          | ret r =>
            obtain ⟨rfl, h', tk, rfl, hS', hk'⟩ := hr₂
            repeat (any_goals (first | assumption | wp_step))
            exact h _ _ hS' hk'
          | _ => exact hr₂.elim
    | _ => exact hr.elim
end
section
variable {P : Program} {w : World} {A : Around} {E : Value → Shared → Prop} {s : Shared}
set_option maxRecDepth 100000 in
set_option maxHeartbeats 3200000 in
theorem tx_of_tuple {l : Addr} {items : Array Value} {xs : List Str} {Q : Value → Shared → Prop} (hh : A.handled = none) (hl : s.heap.IsTuple l items) (hi : PyProof.Rows.StrsAre items.toList xs) (few : xs.length + 1 < scanBound)
    (h : ∀ (h' : Heap) (tk : Nat), SetTx w h' s.heap.objs.size (gotTx xs) → (∀ b o, s.heap.get? b = some o → h'.get? b = some o) → Q (.ref s.heap.objs.size) { s with heap := h', toks := tk }) : wpAny (model P w) A (call (.type "set") [.ref l]) Q E s := by
  have nx : xs.length = items.size := by
    rw [← strs_len hi, Array.length_toList]
  obtain ⟨c, tl, hmro⟩ := PySem.F.called_set.mro
  have w1 := PySem.F.called_set.made
  have w2 := PySem.F.called_set.sub
  refine wpAny_call (codeAny_of_tree ?_)
  show wpAny _ _ (callAny (.type "set") _) _ _ _
  refine wpAny_pure ⟨Code.quiet_builtin _ (by decide +kernel), codeAny_builtin PySem.F.entry_type_call ?_⟩
  rw [Around.under_plain (weight_type_call_type "set" [.ref l] []) rfl]
  have w3 := PySem.F.called_set.notType
  have w4 := PySem.F.called_set.canCreate
  have w5 := PySem.F.typeCall_set_1 (.ref l)
  repeat (any_goals (first | assumption | wp_step))

  refine codeAny_mono (code_set_led1 (.ref l) (E := E) (Q₁ := fun obj s₁ => obj = .ref s.heap.objs.size ∧ s₁ = { s with heap := s.heap.push { cls := .type "set", dict := none, data := .set #[] 0 (.fresh 0 0 (!w.params.followText "set-order")) } }) ⟨rfl, rfl⟩) fun r s₁ hr => ?_
  cases r with
  | error e => exact hr
  | ok fl =>
    cases fl with
    | ret obj =>
      obtain ⟨rfl, rfl⟩ := hr
      have at0 : (s.heap.push { cls := .type "set", dict := none, data := .set #[] 0 (.fresh 0 0 (!w.params.followText "set-order")) }).get? s.heap.objs.size = some { cls := .type "set", dict := none, data := .set #[] 0 (.fresh 0 0 (!w.params.followText "set-order")) } := Heap.get?_push_size _ rfl
      have ty0 : Shared.TypeIs { s with heap := s.heap.push { cls := .type "set", dict := none, data := .set #[] 0 (.fresh 0 0 (!w.params.followText "set-order")) } } (.ref s.heap.objs.size) "set" := ⟨_, at0, rfl⟩
      have w6 := PySem.F.called_set.init.lookup
      have w7 := PySem.F.called_set.init.bind (.ref s.heap.objs.size)
      repeat (any_goals (first | assumption | wp_step))

      refine codeAny_mono (codeAny_call_builtin (R := wants (fun r s₂ => r = .none ∧ ∃ h' tk, s₂ = { s with heap := h', toks := tk } ∧ SetTx w h' s.heap.objs.size (gotTx xs) ∧ (∀ b o, s.heap.get? b = some o → h'.get? b = some o)) E) PySem.F.called_set.init.plain PySem.F.entry_set_init (check_set_init_1 ty0 ?_)) fun r₂ s₂ hr₂ => ?_
      · obtain ⟨ol, hol, hcl, nl, hdl⟩ := hl
        obtain ⟨ocls, odict, odata, oslots⟩ := ol
        simp only at hcl hdl
        subst hcl; subst hdl
        have hol' : (s.heap.push { cls := .type "set", dict := none, data := .set #[] 0 (.fresh 0 0 (!w.params.followText "set-order")) }).get? l = some { cls := .type "tuple", dict := odict, data := .seq items nl, slots := oslots } := Heap.get?_push_of_some _ hol
        have w8 := PySem.F.sub_tuple_set
        have w9 := PySem.F.sub_tuple_frozenset
        have w10 : (Value.type "tuple" == Value.type "dict") = false := by decide
        have hl1 : (s.heap.push { cls := .type "set", dict := none, data := .set #[] 0 (.fresh 0 0 (!w.params.followText "set-order")) }).IsTuple l items := ⟨_, hol', rfl, nl, rfl⟩
        unfold Builtin.«set.__init__» noKeywords Builtin.Frozenset.updateFrom
        generalize hPI : pyIter = PI
        wp_walk
        subst hPI

        refine wpAny_pyIter_tuple hl1 ?_
        refine wpAny_bind (wpAny_runValue ?_)
        have low : l < s.heap.objs.size := Heap.lt_size hol
        have h3 : A.in1.in1.in1.handled = none := by simp [hh]
        have sz : (s.heap.push { cls := .type "set", dict := none, data := .set #[] 0 (.fresh 0 0 (!w.params.followText "set-order")) }).objs.size = s.heap.objs.size + 1 := Heap.size_push ..
        refine tx_loop (w := w) ((Walks.tuple h3 _ l (by rw [sz]; exact Nat.ne_of_lt (Nat.lt_succ_of_lt low)) items).toS) s.heap.objs.size (fun hm => ?_) xs nx (by rw [← nx]; exact few) (fun i v hv => strs_nth hi (by rw [Array.getElem?_toList]; exact hv)) (items.size - 0) 0 _ (by omega) (Nat.zero_le _)
          ⟨⟨_, Heap.get?_push_size _ rfl, rfl, rfl⟩, (hl1.push _)⟩ (tx_fresh ?_) ?_
        · simp only [List.mem_cons, List.not_mem_nil, or_false, sz] at hm
          rcases hm with z | z
          · exact absurd z (Nat.ne_of_lt (Nat.lt_succ_self _))
          · exact absurd z (Nat.ne_of_gt low)
        · exact Heap.get?_push_of_some _ at0
        · intro s' mv hS'
          obtain ⟨h', g2, d', tk', os'⟩ := s'
          have eg : g2 = s.gens := mv.gens
          have ed : d' = s.drawn := mv.drawn
          have eo : os' = s.os := mv.os
          subst eg; subst ed; subst eo
          show wpAny _ _ _ _ _ _
          refine wpAny_pure ?_
          show wpAny _ _ (ret Value.none) _ _ _
          refine wpAny_pure ⟨rfl, h', tk', rfl, hS', fun b o e => mv.heap b o (fun hm => ?_) (Heap.get?_push_of_some _ (Heap.get?_push_of_some _ e))⟩
          have lb : b < s.heap.objs.size := Heap.lt_size e
          simp only [List.mem_cons, List.not_mem_nil, or_false, sz] at hm
          rcases hm with z | z
          · exact absurd z (Nat.ne_of_lt lb)
          · exact absurd z (Nat.ne_of_lt (Nat.lt_succ_of_lt lb))
      · cases r₂ with
        | error e => exact hr₂
        | ok fl₂ =>
          cases fl₂ with
          | ret r =>
            obtain ⟨rfl, h', tk, rfl, hS', hk'⟩ := hr₂
            repeat (any_goals (first | assumption | wp_step))
            exact h _ _ hS' hk'
          | _ => exact hr₂.elim
    | _ => exact hr.elim
end
/-! over the layer -/
def setTxO (w : World) (a : Addr) (ks : List Str) : HO := .ext fun h => SetTx w h a ks
theorem setTxO_ok {P : Program} {w : World} {H : Hp} {h : Heap} {a : Addr} {ks : List Str} (R : SetTx w h a ks) : ObjOk P w H h a (setTxO w a ks) := by
  refine ⟨R, ?_, fun h1 h2 y k => y.keep k⟩
  obtain ⟨o, _, _, _, e, _⟩ := R
  exact ⟨o, e⟩
theorem setTx_at {X : Cx} {pins : List (Addr × Obj)} {σ : L2.St} {H : Hp} {s : Shared} {a : Addr} {ks : List Str} (I : Inv X pins σ H s) (h : H a = some (setTxO X.w a ks)) : SetTx X.w s.heap a ks :=
  (show ObjOk X.prog X.w H s.heap a (setTxO X.w a ks) from I.hok a _ h).1
theorem list_of_strs {vs : List Value} (h : ∀ v ∈ vs, ∃ x t, v = Value.str x t) : ∃ xs, PyProof.Rows.StrsAre vs xs := by
  induction vs with
  | nil => exact ⟨[], .nil⟩
  | cons v vs ih =>
    obtain ⟨x, t, rfl⟩ := h v List.mem_cons_self
    obtain ⟨xs, hx⟩ := ih fun u hu => h u (List.mem_cons_of_mem _ hu)
    exact ⟨x :: xs, .cons x t hx⟩
def txOf (v : Value) : Str := match v with
  | .str k _ => k
  | _ => Str.empty
theorem strs_txOf : ∀ {vs : List Value} {xs : List Str}, PyProof.Rows.StrsAre vs xs → vs.map txOf = xs
  | _, _, .nil => rfl
  | _, _, .cons x t r => by
    rw [List.map_cons, strs_txOf r]
    rfl
section
variable {X : Cx}
def rSetTx (K : PySem.W.Frag) (w : World) : List V → Hp → VK → Prop := fun xs H Q => ∃ (l : Addr) (zs : List Str), xs = [.ref l] ∧ (SqL K H l (zs.map V.str) ∨ SqT K H l (zs.map V.str)) ∧ zs.length ≤ 1000 ∧ ∀ p, H p = none → Q (.ref p) (upd H p (setTxO w p (gotTx zs)))
theorem cr_setTx (hc : X.calm = true) : CallR X (.type "set") (rSetTx X.K X.w) := by
  intro pins s σ H xs us Q I r h
  obtain ⟨l, zs, rfl, hs, hz, q⟩ := h
  rw [Vals.ref1 r]
  have few : zs.length + 1 < scanBound := by
    unfold scanBound
    omega
  have fin : ∀ (h' : Heap) (tk : Nat), SetTx X.w h' s.heap.objs.size (gotTx zs) → (∀ b o, s.heap.get? b = some o → h'.get? b = some o) → EP X pins σ Q (.ref s.heap.objs.size) { s with heap := h', toks := tk } := fun h' tk R k =>
    ⟨.ref s.heap.objs.size, _, I.laid (a := s.heap.objs.size) (o := setTxO X.w s.heap.objs.size (gotTx zs)) (t' := tk) k (Nat.le_refl _) (setTxO_ok R), rfl, q _ (I.hok.fresh (Nat.le_refl _))⟩
  rcases hs with hs | hs
  · obtain ⟨its, rv, hl, _⟩ := I.list hs
    exact tx_of_list (items := its.toArray) (I.ok.hd hc) hl.isList (by simpa using rv.strs) few fin
  · obtain ⟨its, rv, ⟨o, e, c, n, d⟩, _⟩ := I.tuple hs
    exact tx_of_tuple (items := its.toArray) (I.ok.hd hc) ⟨o, e, c, n, d⟩ (by simpa using rv.strs) few fin
theorem cr_lenTx : CallR X (.builtin "len") (fun xs H Q => ∃ (a : Addr) (ks : List Str), xs = [.ref a] ∧ H a = some (setTxO X.w a ks) ∧ Q (.int ((ks.length : Nat) : Int)) H) := by
  intro pins s σ H xs us Q I r h
  obtain ⟨a, ks, rfl, ha, q⟩ := h
  rw [Vals.ref1 r]
  obtain ⟨o, es, ep, t, ho, hex, hd, g, pm, nd, hb, hf, hr, hl⟩ := setTx_at I ha
  have lk : es.size = ks.length := by
    rw [← Array.length_toList, ← pm.length_eq, List.length_map]
  refine call_len_set ho hex hd hf ?_ ?_
  · rw [lk] at hb ⊢
    unfold scanBound at hb
    omega
  · rw [lk]
    exact ⟨.int ((ks.length : Nat) : Int), H, I.tok _, ⟨_, rfl⟩, q⟩
def rSortTx (w : World) : List V → Hp → VK → Prop := fun vs H Q => ∃ (a : Addr) (ks : List Str), vs = [V.ref a] ∧ H a = some (setTxO w a ks) ∧ ks.length < 64 ∧
  ∀ (ys : List Str) (p : Addr), ys.Perm ks → sortedS ys = true → H p = none → Q (.ref p) (upd H p (.lst (ys.map V.str)))
theorem cr_sortTx (hc : X.calm = true) : CallR X (.builtin "sorted") (rSortTx X.w) := by
  intro pins s σ H vs us Q I r h
  obtain ⟨a, ks, rfl, ha, h64, q⟩ := h
  rw [Vals.ref1 r]
  obtain ⟨o, es, ep, t, ho, hex, hd, g, pm, nd, hb, hf, hr, hl⟩ := setTx_at I ha
  have lk : es.size = ks.length := by
    rw [← Array.length_toList, ← pm.length_eq, List.length_map]
  refine Calls.call_function_entry kind_sorted plain_sorted entry_sorted (args_sorted1 _) ?_
  unfold Builtin.«sorted»
  refine wpAny_bind (m := checkCount "sorted" 1 1 _) (wpAny_pure ?_)
  refine wpAny_bind (collect_set (A := X.A.in1) (I.ok.hd hc) ⟨o, ho, hex.1, hd⟩ hf hb hr hl fun s1 vs k1 hz g1 o1 pv => ?_)
  have lv : vs.length = ks.length := by
    rw [pv.length_eq, List.length_map, Array.length_toList]
    exact lk
  obtain ⟨xs, hxs⟩ := list_of_strs (vs := vs) fun v hv => by
    obtain ⟨e, he, z⟩ := List.mem_map.mp (pv.mem_iff.mp hv)
    obtain ⟨k, tk, h1, _⟩ := g e he
    exact ⟨k, tk, by rw [← z]; exact h1⟩
  have px : xs.Perm ks := by
    rw [← strs_txOf hxs]
    have z := pv.map txOf
    rw [List.map_map] at z
    exact z.trans pm
  refine wpAny_bind (wpAny_newList ?_ (by rw [lv, sizeLine_eq]; omega))
  have at1 : (s1.heap.push (seqObj "list" vs.toArray 0)).get? s1.heap.objs.size = some (seqObj "list" vs.toArray 0) := Heap.get?_push_size _ rfl
  refine wpAny_bind (wpAny_holding (wpAny_call_entry slot_list_sort ⟨_, at1, rfl⟩ entry_list_sort (list_sort_treeK strKind_oneLt at1 hxs.keysOf (fun v₁ v₂ rest e => keyKind_strs (by rw [← e]; exact hxs)) (by rw [lv]; exact h64) fun st' hp hs => ?_) (args_list_sort _)))
  obtain ⟨ys, b1, b2, b3⟩ := sorted_out_str hxs hp hs
  refine ⟨_, rfl, ?_⟩
  obtain ⟨c, at2⟩ := sortedHeap_at (vs := vs) (out := (arrOf st').map (·.2)) at1
  have old : ∀ b u, s.heap.get? b = some u → (sortedHeap (s1.heap.push (seqObj "list" vs.toArray 0)) s1.heap.objs.size vs ((arrOf st').map (·.2))).get? b = some u := fun b u e => by
    have z := k1 b u e
    have low := Heap.lt_size z
    rw [sortedHeap_old (Nat.ne_of_lt low) (by rw [Heap.size_push]; exact Nat.lt_succ_of_lt low)]
    exact Heap.get?_push_of_some _ z
  have ly : (ys.map V.str).length ≤ sizeLine := by
    rw [List.length_map, b2.length_eq, px.length_eq, sizeLine_eq]
    omega
  have hn : H s1.heap.objs.size = none := I.hok.fresh hz
  refine wpAny_pure ⟨_, rfl, ?_⟩
  have J : Inv X pins σ (upd H s1.heap.objs.size (.lst (ys.map V.str))) { s with heap := sortedHeap (s1.heap.push (seqObj "list" vs.toArray 0)) s1.heap.objs.size vs ((arrOf st').map (·.2)), gens := s1.gens, drawn := s1.drawn, toks := s1.toks } :=
    I.call (ch := []) (Un.laid old hz hn) (I.hok.laid old hz ⟨ly, ((arrOf st').map (·.2)).toList, c, vals_of_strs b1, at2⟩) (by rw [g1]; exact I.bare) (fun _ z => nomatch z)
  have e : ({ s1 with heap := sortedHeap (s1.heap.push (seqObj "list" vs.toArray 0)) s1.heap.objs.size vs ((arrOf st').map (·.2)) } : Shared) = { s with heap := sortedHeap (s1.heap.push (seqObj "list" vs.toArray 0)) s1.heap.objs.size vs ((arrOf st').map (·.2)), gens := s1.gens, drawn := s1.drawn, toks := s1.toks } := by
    cases s1
    cases s
    cases o1
    rfl
  show EP X pins σ Q (.ref s1.heap.objs.size) _
  rw [e]
  exact ⟨.ref _, _, J, rfl, q ys _ (b2.trans px) b3 hn⟩
end
/-! ### sorted(rows), told exactly -/
mutual
theorem eqv_toks : ∀ x y : PyData, PyData.eqv x y = true → PySem.W.keyToks x = PySem.W.keyToks y
  | .none, y, h => by cases y <;> first | rfl | (simp only [PyData.eqv] at h; cases h)
  | .bool a, y, h => by
    cases y with
    | bool b =>
      simp only [PyData.eqv] at h
      rw [beq_iff_eq] at h
      rw [h]
    | int j =>
      simp only [PyData.eqv] at h
      rw [beq_iff_eq] at h
      simp only [PySem.W.keyToks]
      rw [h]
    | _ => simp only [PyData.eqv] at h; cases h
  | .int i, y, h => by
    cases y with
    | bool b =>
      simp only [PyData.eqv] at h
      rw [beq_iff_eq] at h
      simp only [PySem.W.keyToks]
      rw [h]
    | int j =>
      simp only [PyData.eqv] at h
      rw [beq_iff_eq] at h
      rw [h]
    | _ => simp only [PyData.eqv] at h; cases h
  | .str a, y, h => by
    cases y with
    | str b =>
      simp only [PyData.eqv] at h
      rw [beq_iff_eq] at h
      rw [h]
    | _ => simp only [PyData.eqv] at h; cases h
  | .list xs, y, h => by
    cases y with
    | list ys =>
      simp only [PyData.eqv] at h
      simp only [PySem.W.keyToks]
      exact eqvAll_toks xs ys h
    | _ => simp only [PyData.eqv] at h; cases h
  | .tuple xs, y, h => by
    cases y with
    | tuple ys =>
      simp only [PyData.eqv] at h
      simp only [PySem.W.keyToks]
      exact eqvAll_toks xs ys h
    | _ => simp only [PyData.eqv] at h; cases h
  | .dict _, y, h => by cases y <;> (simp only [PyData.eqv] at h; cases h)
theorem eqvAll_toks : ∀ xs ys : List PyData, PyData.eqvAll xs ys = true → PySem.W.keyToksAll xs = PySem.W.keyToksAll ys
  | [], [], _ => rfl
  | [], _ :: _, h => by simp only [PyData.eqvAll] at h; cases h
  | _ :: _, [], h => by simp only [PyData.eqvAll] at h; cases h
  | x :: xs, y :: ys, h => by
    simp only [PyData.eqvAll, Bool.and_eq_true] at h
    rw [PySem.W.toks_all_cons, PySem.W.toks_all_cons, eqv_toks x y h.1, eqvAll_toks xs ys h.2]
end
abbrev lxt (xs ys : List PyData) : Bool := PyProof.Rows.lexLt PyProof.Rows.itemOrd (PySem.W.keyToksAll xs) (PySem.W.keyToksAll ys)
theorem lxt_eq {x y : PyData} {xs ys : List PyData} (h : PyData.eqv x y = true) : lxt (x :: xs) (y :: ys) = lxt xs ys := by
  unfold lxt
  rw [PySem.W.toks_all_cons, PySem.W.toks_all_cons, eqv_toks x y h, PyProof.Rows.lex_self, PySem.W.lex_pre]
theorem lxt_hd {a b : Str} {r t : List PyData} {xs ys : List PyData} (h : (a == b) = false) : lxt (.tuple (.str a :: r) :: xs) (.tuple (.str b :: t) :: ys) = decide (a.cps.toList < b.cps.toList) := by
  have e : (Sum.inr a.cps.toList : Int ⊕ List Nat) ≠ .inr b.cps.toList := fun z => by
    injection z with z
    rw [PySem.W.str_of_cps z] at h
    simp at h
  have k : ∀ (c : Str) (q : List PyData), PySem.W.keyToks (.tuple (.str c :: q)) = Sum.inl 1 :: Sum.inr c.cps.toList :: PySem.W.keyToksAll q := fun c q => by
    simp only [PySem.W.keyToks]
    rw [PySem.W.toks_all_cons]
    simp only [PySem.W.keyToks]
    rfl
  unfold lxt
  rw [PySem.W.toks_all_cons, PySem.W.toks_all_cons, PyProof.Rows.lex_self, k, k]
  show PyProof.Rows.lexLt PyProof.Rows.itemOrd (Sum.inl 1 :: (Sum.inr a.cps.toList :: (PySem.W.keyToksAll r ++ PySem.W.keyToksAll xs))) (Sum.inl 1 :: (Sum.inr b.cps.toList :: (PySem.W.keyToksAll t ++ PySem.W.keyToksAll ys))) = _
  rw [PyProof.Rows.lex_self, PySem.W.lex_atom e, ← PySem.W.dataLt_str]
  simp only [PySem.W.dataLt, PySem.W.keyToks]
section
variable {prog : Program} {w : World} {A : Around} {s : Shared}
theorem ltS_tellsX {x y : PyData} {p q : Value} {as bs : List Addr} (h : LtS x y) (hne0 : PyData.eqv x y = false) (ra : Reads s.heap p x as) (rb : Reads s.heap q y bs) (hu : A.units + 62 < cLine) (hx : x.depth ≤ 60) : ∃ b, (∀ l m, PyProof.Rows.lexLt PyProof.Rows.itemOrd (PySem.W.keyToks x ++ l) (PySem.W.keyToks y ++ m) = b) ∧ ∀ (prog : Program) (w : World) (Q : Value → Shared → Prop) (E : Value → Shared → Prop), Q (.bool b) s → wpAny (model prog w) A (compareOp .Lt p q) Q E s := by
  cases h with
  | al ha hn =>
    refine ⟨PySem.W.dataLt x y, (PySem.W.toks_eqv x y ha).2 hne0, fun prog w Q E hq => PySem.W.rcLt_alike x y A s p q as bs ra rb ha hn ?_ prog w E Q hq⟩
    have : min x.depth y.depth ≤ x.depth := Nat.min_le_left _ _
    omega
  | @hd a b xs' ys' hne =>
    have e : (Sum.inr a.cps.toList : Int ⊕ List Nat) ≠ .inr b.cps.toList := fun z => by
      injection z with z
      rw [PySem.W.str_of_cps z] at hne
      simp at hne
    have k : ∀ (c : Str) (q : List PyData), PySem.W.keyToks (.tuple (.str c :: q)) = Sum.inl 1 :: Sum.inr c.cps.toList :: PySem.W.keyToksAll q := fun c q => by
      simp only [PySem.W.keyToks]
      rw [PySem.W.toks_all_cons]
      simp only [PySem.W.keyToks]
      rfl
    refine ⟨decide (a.cps.toList < b.cps.toList), fun l m => ?_, ?_⟩
    · rw [k, k, List.cons_append, List.cons_append, List.cons_append, List.cons_append, PyProof.Rows.lex_self, PySem.W.lex_atom e, ← PySem.W.dataLt_str]
      simp only [PySem.W.dataLt, PySem.W.keyToks]
    cases ra with
    | @tuple l o vs n _ _ h1 h2 h3 h4 =>
      cases rb with
      | @tuple l' o' vs' n' _ _ k1 k2 k3 k4 =>
        obtain ⟨vs⟩ := vs
        obtain ⟨vs'⟩ := vs'
        cases h4 with
        | @cons v1 vs1 _ _ _ _ r1 r2 =>
          cases k4 with
          | @cons v2 vs2 _ _ _ _ q1 q2 =>
            cases r1 with
            | str _ t =>
              cases q1 with
              | str _ u =>
                obtain ⟨c, dd, dt, sl⟩ := o
                obtain ⟨c', dd', dt', sl'⟩ := o'
                simp only at h2 h3 k2 k3
                subst h2 h3 k2 k3
                intro prog w Q E hq
                exact richCompare_meets_room (op := .Lt) ⟨_, h1, rfl⟩ ⟨_, k1, rfl⟩ PySem.F.slot_tuple_lt PySem.F.entry_tuple_lt (PySem.F.args_tuple_lt_2 _ _) (tup_lt_head l l' vs1 vs2 n n' dd dd' sl sl' a b t u hne)
                  ⟨h1, k1, ⟨(fun z => nomatch z), hq⟩⟩ (by omega)
theorem ltS2_tellsX {x y : PyData} {p q : Value} {as bs : List Addr} (h : LtS2 x y) (hne0 : PyData.eqv x y = false) (ra : Reads s.heap p x as) (rb : Reads s.heap q y bs) (hu : A.units + 63 < cLine) (hx : x.depth ≤ 60) : ∃ b, (∀ l m, PyProof.Rows.lexLt PyProof.Rows.itemOrd (PySem.W.keyToks x ++ l) (PySem.W.keyToks y ++ m) = b) ∧ ∀ (prog : Program) (w : World) (Q : Value → Shared → Prop) (E : Value → Shared → Prop), Q (.bool b) s → wpAny (model prog w) A (compareOp .Lt p q) Q E s := by
  cases h with
  | one h => exact ltS_tellsX h hne0 ra rb (by omega) hx
  | @two x y xs ys hne px py h =>
    cases ra with
    | @tuple l o vs n _ _ h1 h2 h3 h4 =>
      cases rb with
      | @tuple l' o' vs' n' _ _ k1 k2 k3 k4 =>
        obtain ⟨vs⟩ := vs
        obtain ⟨vs'⟩ := vs'
        cases h4 with
        | @cons v1 vs1 _ _ _ _ r1 r2 =>
          cases k4 with
          | @cons v2 vs2 _ _ _ _ q1 q2 =>
            obtain ⟨c, dd, dt, sl⟩ := o
            obtain ⟨c', dd', dt', sl'⟩ := o'
            simp only at h2 h3 k2 k3
            subst h2 h3 k2 k3
            have dx : x.depth ≤ 59 := by
              have : x.depth ≤ PyData.depthAll (x :: xs) := Nat.le_max_left _ _
              have e : PyData.depth (.tuple (x :: xs)) = PyData.depthAll (x :: xs) + 1 := rfl
              omega
            have hin : A.in1.units ≤ A.units + 1 := Nat.le_refl _
            obtain ⟨b, hb1, hb2⟩ := ltS_tellsX (A := A.in1) h hne r1 q1 (by show A.units + 1 + 62 < cLine; omega) (by omega)
            refine ⟨b, fun l m => ?_, fun prog w Q E hq => ?_⟩
            · have e : ∀ (d : PyData) (ds : List PyData) (k : List (Int ⊕ List Nat)), PySem.W.keyToks (.tuple (d :: ds)) ++ k = Sum.inl 1 :: (PySem.W.keyToks d ++ (PySem.W.keyToksAll ds ++ k)) := fun d ds k => by
                simp only [PySem.W.keyToks]
                rw [PySem.W.toks_all_cons]
                simp
              rw [e, e, PyProof.Rows.lex_self]
              exact hb1 _ _
            · have he : SeqAt.EqAt A.in1 s v1 v2 false := by
                have := PySem.SeqAt.eqAt_plain _ _ A.in1 s _ _ _ _ r1 q1 px py (Nat.lt_of_le_of_lt (Nat.add_le_add hin (Nat.le_trans (Nat.min_le_left _ _) dx)) (by omega))
                rw [hne] at this
                exact this
              exact richCompare_meets_room (op := .Lt) ⟨_, h1, rfl⟩ ⟨_, k1, rfl⟩ PySem.F.slot_tuple_lt PySem.F.entry_tuple_lt (PySem.F.args_tuple_lt_2 _ _) (tup_lt_head2 l l' vs1 vs2 n n' dd dd' sl sl' v1 v2 b)
                ⟨h1, k1, he, fun prog w E Q hq => hb2 prog w Q E hq, ⟨(fun z => nomatch z), hq⟩⟩ (by omega)
theorem fo_tellsX {fin : Bool} (hu : A.units + 63 < cLine) : ∀ {i : Nat} {xs ys : List PyData} {vs ws : List Value} {as bs : List Addr}, FO i xs ys → fin = decide (xs.length < ys.length) → ReadsAll s.heap vs xs as → ReadsAll s.heap ws ys bs → PyData.plainAll xs = true → PyData.plainAll ys = true → (∀ x ∈ xs, x.depth ≤ 60) →
    PySem.W.KatLex prog w A true fin (fun r s' => s' = s ∧ r = lxt xs ys) (vs.zip ws) i s := by
  intro i xs ys vs ws as bs h
  induction h generalizing vs ws as bs with
  | @nil _ ys =>
    intro hf ra _ _ _ _
    cases ra
    refine PySem.W.kat_nil ⟨rfl, ?_⟩
    rw [hf]
    cases ys with
    | nil => rfl
    | cons y ys =>
      unfold lxt
      rw [PySem.W.toks_all_cons, show PySem.W.keyToksAll [] = [Sum.inl 0] from by simp only [PySem.W.keyToksAll], PyProof.Rows.lex_diff (by decide)]
      show decide (0 < ys.length + 1) = _
      rw [decide_eq_true (Nat.succ_pos _)]
      decide +kernel
  | @nil2 _ xs =>
    intro hf _ rb _ _ _
    cases rb
    rw [List.zip_nil_right]
    refine PySem.W.kat_nil ⟨rfl, ?_⟩
    rw [hf]
    cases xs with
    | nil => rfl
    | cons x xs =>
      unfold lxt
      rw [PySem.W.toks_all_cons, show PySem.W.keyToksAll [] = [Sum.inl 0] from by simp only [PySem.W.keyToksAll], PyProof.Rows.lex_diff (by decide)]
      show decide (xs.length + 1 < 0) = _
      rw [decide_eq_false (Nat.not_lt_zero _)]
      decide +kernel
  | eq he _ ih =>
    intro hf ra rb pa pb hd
    rw [PyData.plainAll, Bool.and_eq_true] at pa pb
    cases ra with
    | cons r1 r2 =>
      cases rb with
      | cons q1 q2 =>
        have hb := ih (by rw [hf]; simp) r2 q2 pa.2 pb.2 fun x hx => hd x (List.mem_cons_of_mem _ hx)
        rw [lxt_eq he]
        refine PySem.W.kat_cons (PySem.SeqAt.eqAt_plain _ _ A s _ _ _ _ r1 q1 pa.1 pb.1 ?_ prog w _ _ ?_)
        · have := hd _ (List.mem_cons_self ..)
          exact Nat.lt_of_le_of_lt (Nat.add_le_add_left (Nat.le_trans (Nat.min_le_left _ _) (Nat.le_trans this (by decide : 60 ≤ 63))) _) hu
        · rw [he]
          exact PySem.W.kat_yes hb
  | @s0 sa sb xs' ys' he =>
    intro hf ra rb pa pb hd
    rw [PyData.plainAll, Bool.and_eq_true] at pa pb
    have e : lxt (.str sa :: xs') (.str sb :: ys') = decide (sa.cps.toList < sb.cps.toList) := by
      rw [← PySem.W.dataLt_str]
      exact PySem.W.dataLt_all_no rfl he
    rw [e]
    cases ra with
    | cons r1 r2 =>
      cases rb with
      | cons q1 q2 =>
        refine PySem.W.kat_cons (PySem.SeqAt.eqAt_plain _ _ A s _ _ _ _ r1 q1 pa.1 pb.1 ?_ prog w _ _ ?_)
        · have := hd _ (List.mem_cons_self ..)
          exact Nat.lt_of_le_of_lt (Nat.add_le_add_left (Nat.le_trans (Nat.min_le_left _ _) (Nat.le_trans this (by decide : 60 ≤ 63))) _) hu
        · rw [he]
          cases r1
          cases q1
          exact PySem.W.kat_no (PyProof.Rows.oneLt_str ⟨rfl, rfl⟩)
  | lt he hl =>
    intro hf ra rb pa pb hd
    rw [PyData.plainAll, Bool.and_eq_true] at pa pb
    cases ra with
    | cons r1 r2 =>
      cases rb with
      | cons q1 q2 =>
        obtain ⟨b, hb1, hb2⟩ := ltS2_tellsX hl he r1 q1 hu (hd _ (List.mem_cons_self ..))
        rename_i i' x' y' xs' ys' _ _ _ _ _ _ _ _
        have elx : lxt (x' :: xs') (y' :: ys') = b := by
          unfold lxt
          rw [PySem.W.toks_all_cons, PySem.W.toks_all_cons]
          show PyProof.Rows.lexLt PyProof.Rows.itemOrd (Sum.inl 1 :: (PySem.W.keyToks x' ++ PySem.W.keyToksAll xs')) (Sum.inl 1 :: (PySem.W.keyToks y' ++ PySem.W.keyToksAll ys')) = b
          rw [PyProof.Rows.lex_self]
          exact hb1 _ _
        refine PySem.W.kat_cons (PySem.SeqAt.eqAt_plain _ _ A s _ _ _ _ r1 q1 pa.1 pb.1 ?_ prog w _ _ ?_)
        · have := hd _ (List.mem_cons_self ..)
          exact Nat.lt_of_le_of_lt (Nat.add_le_add_left (Nat.le_trans (Nat.min_le_left _ _) (Nat.le_trans this (by decide : 60 ≤ 63))) _) hu
        · rw [he]
          refine PySem.W.kat_no ?_
          have e0 : (true && (i' + 1 == 0)) = false := rfl
          rw [e0]
          exact PySem.W.kat_one _ _ (hb2 _ _ _ _ ⟨rfl, elx.symm⟩)
end

/-- rows whose order is told by their signs -/
def rowLt : PyData → PyData → Bool
  | .tuple xs, .tuple ys => lxt xs ys
  | _, _ => false
def ltKey (x y : List (Int ⊕ List Nat)) : Bool := PyProof.Rows.lexLt PyProof.Rows.itemOrd x y
theorem ltKey_tr {x y z : List (Int ⊕ List Nat)} (h1 : ltKey y x = false) (h2 : ltKey z y = false) : ltKey z x = false := by
  cases e : ltKey z x with
  | false => rfl
  | true =>
    rcases PyProof.Rows.lex_negTrans (O := PyProof.Rows.itemOrd) z y x e with h | h
    · rw [show ltKey z y = true from h] at h2
      cases h2
    · rw [show ltKey y x = true from h] at h1
      cases h1
theorem ltKey_asym {x y : List (Int ⊕ List Nat)} (h : ltKey x y = true) : ltKey y x = false := by
  cases e : ltKey y x with
  | false => rfl
  | true =>
    have := PyProof.Rows.lex_trans (O := PyProof.Rows.itemOrd) x y x h e
    rw [PyProof.Rows.lex_irrefl (O := PyProof.Rows.itemOrd)] at this
    cases this
/-- two lists in order of the same rows are one -/
theorem keys_one : ∀ {l l' : List PyData}, (∀ x ∈ l, ∀ y ∈ l, PySem.W.keyToks x = PySem.W.keyToks y → x = y) → (l.Pairwise fun a b => ltKey (PySem.W.keyToks b) (PySem.W.keyToks a) = false) → (l'.Pairwise fun a b => ltKey (PySem.W.keyToks b) (PySem.W.keyToks a) = false) → l.Perm l' → l = l'
  | [], l', _, _, _, p => (List.Perm.nil_eq p)
  | x :: r, [], _, _, _, p => absurd p.symm (List.not_perm_nil_cons x r)
  | x :: r, y :: r', inj, h, h', p => by
    have h1 := List.pairwise_cons.mp h
    have h2 := List.pairwise_cons.mp h'
    have exy : x = y := by
      have m1 : x ∈ y :: r' := p.subset (List.mem_cons_self ..)
      have m2 : y ∈ x :: r := p.symm.subset (List.mem_cons_self ..)
      refine inj x List.mem_cons_self y m2 ?_
      rcases List.mem_cons.mp m1 with e | m1
      · rw [e]
      · rcases List.mem_cons.mp m2 with e | m2
        · rw [e]
        · exact PyProof.Rows.lex_total (O := PyProof.Rows.itemOrd) _ _ (h2.1 x m1) (h1.1 y m2)
    subst exy
    rw [keys_one (fun a ha b hb => inj a (List.mem_cons_of_mem _ ha) b (List.mem_cons_of_mem _ hb)) h1.2 h2.2 ((List.perm_cons x).mp p)]
/-- in order -/
def rowsIn (ds es : List PyData) : Prop := es.Perm ds ∧ es.Pairwise fun a b => ltKey (PySem.W.keyToks b) (PySem.W.keyToks a) = false
open Classical in
noncomputable def srtR (ds : List PyData) : List PyData := if h : ∃ es, rowsIn ds es then h.choose else []
theorem srtR_of {ds es : List PyData} (inj : ∀ x ∈ ds, ∀ y ∈ ds, PySem.W.keyToks x = PySem.W.keyToks y → x = y) (h : rowsIn ds es) : es = srtR ds := by
  have hx : ∃ es, rowsIn ds es := ⟨es, h⟩
  unfold srtR
  rw [dif_pos hx]
  exact keys_one (fun x hx' y hy => inj x (h.1.mem_iff.mp hx') y (h.1.mem_iff.mp hy)) h.2 hx.choose_spec.2 (h.1.trans hx.choose_spec.1.symm)
structure RowsX (ds : List PyData) : Prop where
  ok : RowsOk ds
  inj : ∀ x ∈ ds, ∀ y ∈ ds, PySem.W.keyToks x = PySem.W.keyToks y → x = y
/-- sorted(rows) -/
def rSortX (K : PySem.W.Frag) : List V → Hp → VK → Prop := fun xs H Q => ∃ (a : Addr) (vs : List V) (ds : List PyData), xs = [.ref a] ∧ SqL K H a vs ∧ DpAll K H vs ds ∧ RowsX ds ∧ ∀ (ys : List V) (p : Addr), (srtR ds).Perm ds → DpAll K H ys (srtR ds) → H p = none → Q (.ref p) (upd H p (.lst ys))
section
open Classical
/-- what a value stands for, among these -/
noncomputable def dataOf (h : Heap) (ds : List PyData) (v : Value) : PyData := if e : ∃ d, d ∈ ds ∧ ∃ as, Reads h v d as then e.choose else .none
theorem dataOf_is {h : Heap} {ds : List PyData} {v : Value} {d : PyData} {as : List Addr} (hd : d ∈ ds) (r : Reads h v d as) : dataOf h ds v = d := by
  have e : ∃ d, d ∈ ds ∧ ∃ as, Reads h v d as := ⟨d, hd, as, r⟩
  unfold dataOf
  rw [dif_pos e]
  obtain ⟨_, as', r'⟩ := e.choose_spec
  exact (Reads.unique r' _ _ r).1
end
theorem readsAll_len {h : Heap} : ∀ {vs : List Value} {ds : List PyData} {as : List Addr}, ReadsAll h vs ds as → vs.length = ds.length
  | _, _, _, .nil => rfl
  | _, _, _, .cons _ rs => congrArg (· + 1) (readsAll_len rs)
theorem its_data {h : Heap} {Ds : List PyData} : ∀ {vs : List Value} {ds : List PyData} {as : List Addr}, ReadsAll h vs ds as → (∀ d ∈ ds, d ∈ Ds) → vs.map (dataOf h Ds) = ds
  | _, _, _, .nil, _ => rfl
  | _, _, _, .cons (d := d) r rs, hm => by
    rw [List.map_cons, dataOf_is (hm d List.mem_cons_self) r, its_data rs fun x hx => hm x (List.mem_cons_of_mem _ hx)]
section
variable {X : Cx}
theorem its_dp {K : PySem.W.Frag} {h : Heap} {H : Hp} {Ds : List PyData} : ∀ {xs : List V} {ds : List PyData} {vs : List Value} {as : List Addr}, DpAll K H xs ds → Vals xs vs → ReadsAll h vs ds as → (∀ d ∈ ds, d ∈ Ds) → (∀ x ∈ xs, ∃ t, x = V.ref t) → ∀ v ∈ vs, Dp K H (backV v) (dataOf h Ds v)
  | _, _, _, _, .nil, r, _, _, _, v, hv => by
    cases r
    cases hv
  | _, _, _, _, .cons hd a, r, ra, hm, hx, v, hv => by
    cases r with
    | cons r1 rr =>
      cases ra with
      | cons q1 qq =>
        rcases List.mem_cons.mp hv with rfl | hv
        · rw [dataOf_is (hm _ List.mem_cons_self) q1]
          obtain ⟨t, rfl⟩ := hx _ List.mem_cons_self
          obtain rfl : v = Value.ref t := r1
          exact hd
        · exact its_dp a rr qq (fun x hx' => hm x (List.mem_cons_of_mem _ hx')) (fun x hx' => hx x (List.mem_cons_of_mem _ hx')) v hv
theorem cr_sortX (hu : X.A.units + 65 < cLine) : CallR X (.builtin "sorted") (rSortX X.K) := by
  intro pins s σ H xs us Q I r h
  obtain ⟨a, xs, ds, rfl, hs, hx, hok, q⟩ := h
  obtain ⟨its, rv, hl, hz⟩ := I.list hs
  obtain ⟨u, rfl, ru⟩ := vals1 r
  obtain rfl : u = Value.ref a := ru
  obtain ⟨as, ra⟩ := Dp.readsAll I ds xs its hx rv
  have hrefs := refs_dp hx fun d hd => by obtain ⟨k, ys, e, _⟩ := hok.ok.tup d hd; exact ⟨_, e⟩
  obtain ⟨e1, e2⟩ := refs_back rv hrefs
  have O : SrtO.Swo fun (v u : Value) => ltKey (PySem.W.keyToks (dataOf s.heap ds v)) (PySem.W.keyToks (dataOf s.heap ds u)) := ⟨fun x y h => ltKey_asym h, fun x y z h1 h2 => ltKey_tr h1 h2⟩
  refine SrtO.sorted_ord O hl.isList (by rw [← rv.length]; exact hz) (fun h2 h₁ a' ha k => ?_) fun out ho hb => ?_
  · intro h' keep
    have kk : ∀ b o, s.heap.get? b = some o → h'.get? b = some o := fun b o e => keep b o (k b o e).1 (k b o e).2
    have ra' : ReadsAll h' its ds as := ReadsAll.keeps kk ra
    obtain ⟨fs, g1, g2, g3⟩ := rows_firsts ra' fun d hd => by obtain ⟨k, ys, e, _⟩ := hok.ok.tup d hd; exact ⟨k, ys, e⟩
    refine ⟨PyProof.Rows.tuples' true, fun Q E hq => ?_, fun p q hm hm' => ?_⟩
    · refine PySem.W.kat_kind (T := .type "str") g1 (by omega) (fun f hm => ?_) (by rfl) ?_
      · obtain ⟨x, t, rfl⟩ := g3 f hm
        exact PySem.W.Looks.now
      · have e : (Value.type "str" != Value.type "tuple") = true := by first | decide +kernel | rfl | decide
        rw [e]
        exact hq
    · obtain ⟨d, hd, b1, r1⟩ := reads_mem ra _ hm
      obtain ⟨d', hd', b2, r2⟩ := reads_mem ra _ hm'
      have r1' := PyProof.Rows.Reads.keeps kk r1
      have r2' := PyProof.Rows.Reads.keeps kk r2
      have ek : PySem.W.keyToks (dataOf s.heap ds p.1) = PySem.W.keyToks d := by rw [dataOf_is hd r1]
      have ek' : PySem.W.keyToks (dataOf s.heap ds q.1) = PySem.W.keyToks d' := by rw [dataOf_is hd' r2]
      show wpAny _ _ _ (fun r s' => s' = _ ∧ r = ltKey (PySem.W.keyToks (dataOf s.heap ds p.1)) (PySem.W.keyToks (dataOf s.heap ds q.1))) _ _
      rw [ek, ek']
      obtain ⟨k, xs, rfl, p1, e1⟩ := hok.ok.tup d hd
      obtain ⟨k', ys, rfl, p2, e2⟩ := hok.ok.tup d' hd'
      generalize p.1 = pv at r1'
      generalize q.1 = qv at r2'
      cases r1' with
      | @tuple l o us n _ _ h1 h2 h3 h4 =>
        cases r2' with
        | @tuple l' o' us' n' _ _ k1 k2 k3 k4 =>
          have hln : us.size = (PyData.str k :: xs).length := by
            have := readsAll_len h4
            simpa using this
          have hln' : us'.size = (PyData.str k' :: ys).length := by
            have := readsAll_len k4
            simpa using this
          have e0 : ∀ zs : List PyData, PySem.W.keyToks (.tuple zs) = PySem.W.keyToksAll zs := fun zs => by simp only [PySem.W.keyToks]
          rw [e0, e0]
          exact PySem.W.kat_lt h1 h3 k1 k3 (fo_tellsX (by show X.A.units + 1 + 1 + 63 < cLine; omega) (hok.ok.cmp _ _ hd hd') (by rw [hln, hln']) h4 k4 p1 p2 e1)
  · have hp := hb.perm
    have h3 : ∀ u ∈ out, ∃ a, u = Value.ref a := fun u hu => e2 u (hp.mem_iff.mp hu)
    obtain ⟨n, hn⟩ := PyProof.Rows.sortedAll_at s.heap its out.toArray
    have ed := its_data (Ds := ds) ra fun d hd => hd
    have hin : rowsIn ds (out.map (dataOf s.heap ds)) := by
      refine ⟨?_, ?_⟩
      · have := hp.map (dataOf s.heap ds)
        rw [ed] at this
        exact this
      · rw [List.pairwise_map]
        exact ho
    refine ⟨.ref (s.heap.objs.size + 1), upd H (s.heap.objs.size + 1) (.lst (out.map backV)), I.laid (t' := s.toks) (fun b o e => PyProof.Rows.sortedAll_old e) (Nat.le_succ _) ⟨?_, out, n, vals_back h3, hn⟩, rfl, q _ _ ?_ ?_ (I.hok.fresh (Nat.le_succ _))⟩
    · rw [List.length_map, hp.length_eq, ← rv.length]; exact hz
    · rw [← srtR_of hok.inj hin]
      exact hin.1
    · rw [← srtR_of hok.inj hin]
      have all := its_dp hx rv ra (fun d hd => hd) hrefs
      have go : ∀ l : List Value, (∀ v ∈ l, v ∈ its) → DpAll X.K H (l.map backV) (l.map (dataOf s.heap ds)) := by
        intro l
        induction l with
        | nil => exact fun _ => .nil
        | cons v l ih => exact fun hl => .cons (all v (hl v List.mem_cons_self)) (ih fun x hx => hl x (List.mem_cons_of_mem _ hx))
      exact go out fun v hv => hp.mem_iff.mp hv
end
/-! ### numbers -/
abbrev s_is_number : Stmt := top 6
abbrev N_is_number : List Str := ["thing"]
abbrev P_is_number : List Str := ["thing"]
theorem sc_is_number : FnScope N_is_number P_is_number (defScope s_is_number) := ⟨rfl, rfl, rfl, by decide +kernel, rfl, by decide +kernel, by decide +kernel⟩
def numB : PyData → Bool
  | .int i => decide (0 ≤ i)
  | _ => false
structure Nu (mg : Str → Option Value) : Prop where
  isinstance : mg "isinstance" = none
  int : mg "int" = none
  bool : mg "bool" = none
  tuple : mg "tuple" = none
  len : mg "len" = none
/-- the type of data -/
def tyD : PyData → String
  | .none => "NoneType"
  | .bool _ => "bool"
  | .int _ => "int"
  | .str _ => "str"
  | .list _ => "list"
  | .tuple _ => "tuple"
  | .dict _ => "dict"
theorem dp_tyD {K : PySem.W.Frag} {H : Hp} {v : V} {d : PyData} (h : Dp K H v d) : TyX K H v (.type (tyD d)) := by
  cases h with
  | non => exact .base .non
  | bl b => exact .base (.bl b)
  | int i => exact .base (.int i)
  | str z => exact .base (.str z)
  | lst h a => exact tyL h
  | tup h a => exact tyT h
def isT : PyData → Bool
  | .tuple _ => true
  | _ => false
def isI : PyData → Bool
  | .int _ => true
  | .bool _ => true
  | _ => false
def isB : PyData → Bool
  | .bool _ => true
  | _ => false
theorem kit_tup {K : PySem.W.Frag} {H : Hp} {v : V} {d : PyData} (h : Dp K H v d) : kitB (tyD d) "tuple" = some (isT d) := by
  cases h with
  | non => exact (show kitB "NoneType" "tuple" = some false by decide +kernel)
  | bl _ => exact (show kitB "bool" "tuple" = some false by decide +kernel)
  | int _ => exact (show kitB "int" "tuple" = some false by decide +kernel)
  | str _ => exact (show kitB "str" "tuple" = some false by decide +kernel)
  | lst _ _ => exact (show kitB "list" "tuple" = some false by decide +kernel)
  | tup _ _ => exact (show kitB "tuple" "tuple" = some true by decide +kernel)
theorem kit_intD {K : PySem.W.Frag} {H : Hp} {v : V} {d : PyData} (h : Dp K H v d) : kitB (tyD d) "int" = some (isI d) := by
  cases h with
  | non => exact (show kitB "NoneType" "int" = some false by decide +kernel)
  | bl _ => exact (show kitB "bool" "int" = some true by decide +kernel)
  | int _ => exact (show kitB "int" "int" = some true by decide +kernel)
  | str _ => exact (show kitB "str" "int" = some false by decide +kernel)
  | lst _ _ => exact (show kitB "list" "int" = some false by decide +kernel)
  | tup _ _ => exact (show kitB "tuple" "int" = some false by decide +kernel)
theorem kit_boolD {K : PySem.W.Frag} {H : Hp} {v : V} {d : PyData} (h : Dp K H v d) : kitB (tyD d) "bool" = some (isB d) := by
  cases h with
  | non => exact (show kitB "NoneType" "bool" = some false by decide +kernel)
  | bl _ => exact (show kitB "bool" "bool" = some true by decide +kernel)
  | int _ => exact (show kitB "int" "bool" = some false by decide +kernel)
  | str _ => exact (show kitB "str" "bool" = some false by decide +kernel)
  | lst _ _ => exact (show kitB "list" "bool" = some false by decide +kernel)
  | tup _ _ => exact (show kitB "tuple" "bool" = some false by decide +kernel)
def spIsNum (K : PySem.W.Frag) : Sp := fun vs H Q _ => ∃ (v : V) (d : PyData), vs = [v] ∧ Dp K H v d ∧ Q (.bl (numB d)) H
section
variable {P : Program} {w : World} {K : PySem.W.Frag} {mg : Str → Option Value} {base : Heap}
theorem ok_is_number (T : Nu mg) (D : Dd K mg "is_number" s_is_number P_is_number) : C8.Cal P w K mg base 1 "is_number" (spIsNum K) [] := by
  refine D.cal sc_is_number (fun vs H Q E h => ?_) (fun f cdv A outer s H vs Q E hr h => ?_)
  · obtain ⟨v, d, rfl, _⟩ := h
    rfl
  · obtain ⟨v, d, rfl, hd, q⟩ := h
    refine ⟨_, (pss_one (ps_ret (pe_and (pe_callB call_isi (by rfl) T.isinstance (by decide +kernel) (pa_cons (pv 0) (pa_cons (pe_bltn (v := .ty "int") rfl T.int (by decide +kernel) rfl) pa_nil))) (pe_and (pe_not (pe_callB call_isi (by rfl) T.isinstance (by decide +kernel) (pa_cons (pv 0) (pa_cons (pe_bltn (v := .ty "bool") rfl T.bool (by decide +kernel) rfl) pa_nil)))) (pe_one (pe_cmpR op_ge (pv 0) pe_int (nomark _))))))), ?_⟩
    refine ⟨_, rfl, v, .ty "int", .type (tyD d), .type "int", _, rfl, .ty "int", dp_tyD hd, kit_ty (kit_intD hd), _, rfl, ?_⟩
    cases hd with
    | int i =>
      refine iteT ?_
      refine ⟨_, rfl, .int i, .ty "bool", .type "int", .type "bool", false, rfl, .ty "bool", .base (.int i), kit_ty (by decide +kernel), _, rfl, _, rfl, iteT ?_⟩
      exact ⟨_, rfl, _, _, rfl, rfl, q⟩
    | bl b =>
      refine iteT ?_
      exact ⟨_, rfl, .bl b, .ty "bool", .type "bool", .type "bool", true, rfl, .ty "bool", .base (.bl b), kit_ty (by decide +kernel), _, rfl, _, rfl, iteF q⟩
    | non => exact iteF q
    | str z => exact iteF q
    | lst h a => exact iteF q
    | tup h a => exact iteF q
end
/-! ### what the words of a grammar's check answer, where all is well -/
abbrev s_is_worth : Stmt := top 7
abbrev N_is_worth : List Str := ["thing"]
abbrev P_is_worth : List Str := ["thing"]
theorem sc_is_worth : FnScope N_is_worth P_is_worth (defScope s_is_worth) := ⟨rfl, rfl, rfl, by decide +kernel, rfl, by decide +kernel, by decide +kernel⟩
abbrev s_is_name : Stmt := top 8
abbrev N_is_name : List Str := ["thing", "sign"]
abbrev P_is_name : List Str := ["thing"]
theorem sc_is_name : FnScope N_is_name P_is_name (defScope s_is_name) := ⟨rfl, rfl, rfl, by decide +kernel, rfl, by decide +kernel, by decide +kernel⟩
abbrev s_is_tuple_of : Stmt := top 9
abbrev N_is_tuple_of : List Str := ["thing", "many"]
abbrev P_is_tuple_of : List Str := ["thing", "many"]
theorem sc_is_tuple_of : FnScope N_is_tuple_of P_is_tuple_of (defScope s_is_tuple_of) := ⟨rfl, rfl, rfl, by decide +kernel, rfl, by decide +kernel, by decide +kernel⟩
abbrev s_is_op : Stmt := top 16
abbrev N_is_op : List Str := ["thing"]
abbrev P_is_op : List Str := ["thing"]
theorem sc_is_op : FnScope N_is_op P_is_op (defScope s_is_op) := ⟨rfl, rfl, rfl, by decide +kernel, rfl, by decide +kernel, by decide +kernel⟩
abbrev s_parts_of : Stmt := top 17
abbrev N_parts_of : List Str := ["op"]
abbrev P_parts_of : List Str := ["op"]
theorem sc_parts_of : FnScope N_parts_of P_parts_of (defScope s_parts_of) := ⟨rfl, rfl, rfl, by decide +kernel, rfl, by decide +kernel, by decide +kernel⟩
abbrev s_op_let : Stmt := top 18
abbrev N_op_let : List Str := ["op", "cap"]
abbrev P_op_let : List Str := ["op", "cap"]
theorem sc_op_let : FnScope N_op_let P_op_let (defScope s_op_let) := ⟨rfl, rfl, rfl, by decide +kernel, rfl, by decide +kernel, by decide +kernel⟩
abbrev s_rows_of : Stmt := top 24
abbrev N_rows_of : List Str := ["part", "rows"]
abbrev P_rows_of : List Str := ["part", "rows"]
theorem sc_rows_of : FnScope N_rows_of P_rows_of (defScope s_rows_of) := ⟨rfl, rfl, rfl, by decide +kernel, rfl, by decide +kernel, by decide +kernel⟩
abbrev s_cap_in : Stmt := top 25
abbrev N_cap_in : List Str := ["cap"]
abbrev P_cap_in : List Str := ["cap"]
theorem sc_cap_in : FnScope N_cap_in P_cap_in (defScope s_cap_in) := ⟨rfl, rfl, rfl, by decide +kernel, rfl, by decide +kernel, by decide +kernel⟩
def LETS : Str := "abcdefghijklmnopqrstuvwxyz"
theorem lets_has (c : Nat) : decide (c ∈ LETS.cps.toList) = isLet c := by
  have e : LETS.cps.toList = [97, 98, 99, 100, 101, 102, 103, 104, 105, 106, 107, 108, 109, 110, 111, 112, 113, 114, 115, 116, 117, 118, 119, 120, 121, 122] := by decide +kernel
  rw [e]
  unfold isLet
  rw [Bool.eq_iff_iff]
  simp only [List.mem_cons, List.not_mem_nil, or_false, decide_eq_true_eq, Bool.and_eq_true]
  omega
inductive Op where
  | copy | plus | less | times | over | rest | least | most | same | under | pick
  deriving DecidableEq
def Op.w : Op → Str
  | .copy => "copy"
  | .plus => "plus"
  | .less => "less"
  | .times => "times"
  | .over => "over"
  | .rest => "rest"
  | .least => "least"
  | .most => "most"
  | .same => "same"
  | .under => "under"
  | .pick => "pick"
def Op.n : Op → Nat
  | .copy => 1
  | .pick => 3
  | _ => 2
def fineb : Op → Bool
  | .copy => true
  | .plus => true
  | .least => true
  | .most => true
  | _ => false
theorem in_let (o : Op) : inV (.str o.w) [.str "copy", .str "plus", .str "least", .str "most"] = fineb o := by cases o <;> decide +kernel
structure DdK (K : PySem.W.Frag) (mg : Str → Option Value) (x : Str) (st : Stmt) (kws : List (Str × V)) : Prop where
  ex : ∃ (f : Addr) (fd : FuncData), FunD K x x (defArgs st) (defBody st) (defScope st) [] kws f fd ∧ mg x = some (.ref f)
/-- the table of ops, in the written part -/
structure PartsAt (K : PySem.W.Frag) (w : World) (PD : Addr) : Prop where
  kd : ∃ es n, KDict K w PD es n
  ops : ∀ o : Op, KDct K w PD o.w (.int o.n) ∧ ∃ u, PySem.W.nsIn K PD o.w = some (some u)
structure Gb (mg : Str → Option Value) : Prop where
  isinstance : mg "isinstance" = none
  int : mg "int" = none
  bool : mg "bool" = none
  str : mg "str" = none
  tuple : mg "tuple" = none
  list : mg "list" = none
  len : mg "len" = none
  all : mg "all" = none
  set : mg "set" = none
  sorted : mg "sorted" = none
  enumerate : mg "enumerate" = none
structure Gg (mg : Str → Option Value) (PD LA : Addr) : Prop where
  bound : ∃ u, mg "BOUND" = some u ∧ RelV (.int 1000000) u
  signs : ∃ u, mg "SIGNS" = some u ∧ RelV (.int 6) u
  letters : ∃ u, mg "LETTERS" = some u ∧ RelV (.str LETS) u
  cap : ∃ u, mg "CAP" = some u ∧ RelV (.int 9) u
  sorts : ∃ u, mg "SORTS" = some u ∧ RelV (.int 4) u
  makings : ∃ u, mg "MAKINGS" = some u ∧ RelV (.int 8) u
  each : ∃ u, mg "EACH" = some u ∧ RelV (.int 2) u
  parts : mg "PARTS" = some (.ref PD)
  let_ : mg "LET" = some (.ref LA)
def worthB : PyData → Bool
  | .int i => decide (0 ≤ i) && decide (i < 1000000)
  | _ => false
def tupN (n : Nat) : PyData → Bool
  | .tuple ds => decide (ds.length = n)
  | _ => false
def spWorth (K : PySem.W.Frag) : Sp := fun vs H Q _ => ∃ (v : V) (d : PyData), vs = [v] ∧ Dp K H v d ∧ Q (.bl (worthB d)) H
def spNameT : Sp := fun vs H Q _ => ∃ w : List Nat, vs = [.str (SX.S w)] ∧ NmOk w ∧ ∀ H', Same H H' → Q (.bl true) H'
def spTupOf (K : PySem.W.Frag) : Sp := fun vs H Q _ => ∃ (v : V) (d : PyData) (n : Nat), vs = [v, .int n] ∧ Dp K H v d ∧ Q (.bl (tupN n d)) H
def spOpT : Sp := fun vs H Q _ => ∃ o : Op, vs = [.str o.w] ∧ Q (.bl true) H
def spPartsT : Sp := fun vs H Q _ => ∃ o : Op, vs = [.str o.w] ∧ Q (.int (o.n : Nat)) H
def spLetT : Sp := fun vs H Q _ => ∃ (o : Op) (c : Nat), vs = [.str o.w, .int c] ∧ (c = 0 ∨ fineb o = true) ∧ Q (.bl true) H
def spRows : Sp := fun vs H Q _ => ∃ (z : Str) (l : Addr) (xs : List V), vs = [.str z, .ref l] ∧ H l = some (.lst xs) ∧ Q (.ref l) H
def spCap : Sp := fun vs H Q _ => ∃ c : Nat, vs = [.int c] ∧ c ≤ 9 ∧ Q (.int c) H
section
variable {P : Program} {w : World} {K : PySem.W.Frag} {mg : Str → Option Value} {base : Heap} {PD LA : Addr}
theorem ok_is_worth (T : Gb mg) (G : Gg mg PD LA) (cis_number : C8.Cal P w K mg base 1 "is_number" (spIsNum K) []) (D : Dd K mg "is_worth" s_is_worth P_is_worth) : C8.Cal P w K mg base 2 "is_worth" (spWorth K) [] := by
  refine D.cal sc_is_worth (fun vs H Q E h => ?_) (fun f cdv A outer s H vs Q E hr h => ?_)
  · obtain ⟨v, d, rfl, _⟩ := h
    rfl
  · obtain ⟨v, d, rfl, hd, q⟩ := h
    refine ⟨_, (pss_one (ps_ret (pe_and (C8.pe_c cis_number hr (by decide) (by rfl) (pa_cons (pv 0) pa_nil)) (pe_one (pe_cmpR op_lt (pv 0) (C8.pe_gc (v := .int 1000000) rfl G.bound) (nomark _)))))), ?_⟩
    refine ⟨_, rfl, v, d, rfl, hd, _, rfl, ?_⟩
    cases hd with
    | int i =>
      by_cases h0 : 0 ≤ i
      · refine ifT (decide_eq_true h0) ?_
        refine ⟨_, rfl, _, _, rfl, rfl, ?_⟩
        have e : worthB (.int i) = decide (i < 1000000) := by
          show (decide (0 ≤ i) && decide (i < 1000000)) = _
          rw [decide_eq_true h0]
          rfl
        rw [e] at q
        exact q
      · refine ifF (decide_eq_false h0) ?_
        have e : worthB (.int i) = false := by
          show (decide (0 ≤ i) && decide (i < 1000000)) = false
          rw [decide_eq_false h0]
          rfl
        rw [e] at q
        exact q
    | bl b => exact iteF q
    | non => exact iteF q
    | str z => exact iteF q
    | lst h a => exact iteF q
    | tup h a => exact iteF q
theorem ok_is_nameT (T : Gb mg) (G : Gg mg PD LA) (D : Dd K mg "is_name" s_is_name P_is_name) : C8.Cal P w K mg base 1 "is_name" spNameT [] := by
  refine D.cal sc_is_name (fun vs H Q E h => ?_) (fun f cdv A outer s H vs Q E hr h => ?_)
  · obtain ⟨w, rfl, _⟩ := h
    rfl
  · obtain ⟨w, rfl, ⟨⟨h2, h3, hlet⟩, h1⟩, q⟩ := h
    have hl2 : (SX.S w).length ≤ sizeLine := by
      rw [SX.S_len]
      exact Nat.le_trans h3 (by decide)
    refine ⟨_, (pss_cons (ps_if (PW.pt (pw_or (pt_not (pt_val (pe_callB call_isi (by rfl) T.isinstance (by decide +kernel) (pa_cons (pv 0) (pa_cons (pe_bltn (v := .ty "str") rfl T.str (by decide +kernel) rfl) pa_nil))))) (pw_or (pt_cmpR op_eq (pv 0) pe_str (nomark _)) (pw_or1 (pt_not (pt_chain op_le op_le pe_int (pe_callB call_len_str (by rfl) T.len PySem.boot_len (pa_cons (pv 0) pa_nil)) (C8.pe_gc (v := .int 6) rfl G.signs)))))))
          (pss_one (ps_ret pe_bl))
          pss_nil)
        (pss_one (ps_ret (pe_callB (cr_all rfl) (by rfl) T.all (by decide +kernel) (pa_cons (pe_lc (own := [("sign", 1)]) (by exact rfl) sc_is_name.nd (pi_str (pv 0)) (blkOk_by (own := [("sign", 1)]) (N := N_is_name) (sc := defScope s_is_name) (by decide +kernel)) (fun _ _ _ _ _ => (pg_name (i := 1) sc_is_name.nd rfl (Or.inl rfl))) (fun _ _ _ _ _ => pts_nil) (fun _ _ _ _ _ => (pe_cmpR op_in_sign (pv 1) (C8.pe_gc (v := .str LETS) rfl G.letters) (by with_unfolding_all rfl)))) pa_nil))))), ?_⟩
    refine ⟨_, rfl, .str (SX.S w), .ty "str", .type "str", .type "str", true, rfl, .ty "str", .base (.str _), kit_ty (by decide +kernel), _, rfl, iteF ?_⟩
    refine ⟨_, rfl, rfl, _, rfl, ?_⟩
    rw [s_own]
    refine ifF (decide_eq_false (fun z => h1 (SX.S_inj (V.str.inj z)))) ?_
    refine ⟨_, rfl, _, rfl, hl2, _, _, rfl, rfl, _, rfl, ifT (decide_eq_true (by rw [SX.S_len]; omega)) ?_⟩
    refine ⟨_, _, rfl, rfl, _, rfl, ?_⟩
    rw [decide_eq_true (show ((SX.S w).length : Int) ≤ 6 by rw [SX.S_len]; omega)]
    refine iteF ?_
    refine ⟨_, rfl, _, rfl, fun D nD => ?_⟩
    refine lc_it walk_str (fun j H' => Same H H' ∧ H' D = some (.lst (((w.take j).map isLet).map V.bl))) ⟨same_upd nD, upd_same⟩ (fun _ _ _ _ => trivial) ?_ ?_
    · rintro j v H3 H4 hj ⟨sm, hD⟩ ⟨rfl, c, hc, rfl⟩
      have hc : w[j]? = some c := by
        have : w.toArray[j]? = some c := hc
        rw [List.getElem?_toArray] at this
        exact this
      refine ⟨rfl, yesT ?_⟩
      refine ⟨_, rfl, c, LETS, rfl, rfl, ?_⟩
      rw [lets_has]
      refine ⟨_, hD, by rw [List.length_map, List.length_map, List.length_take]; exact small1000 (by omega), Same.at_ sm nD, ?_⟩
      rw [upd_same, List.take_add_one, hc]
      simp
    · rintro H3 ⟨sm, hD⟩
      have e0 : (SX.S w).cps.size = w.length := List.size_toArray
      rw [e0, List.take_length] at hD
      refine ⟨D, _, rfl, SqL.of hD, ?_⟩
      have e : (w.map isLet).all id = true := by
        rw [List.all_map]
        exact List.all_eq_true.mpr hlet
      rw [e]
      exact q _ sm
theorem ok_is_tuple_of (T : Gb mg) (D : Dd K mg "is_tuple_of" s_is_tuple_of P_is_tuple_of) : C8.Cal P w K mg base 1 "is_tuple_of" (spTupOf K) [] := by
  refine D.cal sc_is_tuple_of (fun vs H Q E h => ?_) (fun f cdv A outer s H vs Q E hr h => ?_)
  · obtain ⟨v, d, n, rfl, _⟩ := h
    rfl
  · obtain ⟨v, d, n, rfl, hd, q⟩ := h
    refine ⟨_, (pss_one (ps_ret (pe_and (pe_callB call_isi (by rfl) T.isinstance (by decide +kernel) (pa_cons (pv 0) (pa_cons (pe_bltn (v := .ty "tuple") rfl T.tuple (by decide +kernel) rfl) pa_nil))) (pe_one (pe_cmpR op_eq (pe_callB call_len_seq (by rfl) T.len PySem.boot_len (pa_cons (pv 0) pa_nil)) (pv 1) (nomark _)))))), ?_⟩
    refine ⟨_, rfl, v, .ty "tuple", .type (tyD d), .type "tuple", _, rfl, .ty "tuple", dp_tyD hd, kit_ty (kit_tup hd), _, rfl, ?_⟩
    cases hd with
    | tup h a =>
      refine iteT ?_
      refine ⟨_, rfl, _, _, rfl, .inr h, _, rfl, rfl, ?_⟩
      rw [dpAll_len a]
      rename_i ds
      have e : tupN n (.tuple ds) = decide (V.int ((ds.length : Nat) : Int) = V.int (n : Int)) := by
        show decide (ds.length = n) = _
        rw [Bool.eq_iff_iff, decide_eq_true_eq, decide_eq_true_eq]
        exact ⟨fun z => by rw [z], fun z => Int.ofNat.inj (V.int.inj z)⟩
      rw [e] at q
      exact q
    | bl b => exact iteF q
    | non => exact iteF q
    | str z => exact iteF q
    | int z => exact iteF q
    | lst h a => exact iteF q
theorem ok_is_op (T : Gb mg) (G : Gg mg PD LA) (A : PartsAt K w PD) (D : Dd K mg "is_op" s_is_op P_is_op) : C8.Cal P w K mg base 1 "is_op" spOpT [] := by
  obtain ⟨es, n, kd⟩ := A.kd
  refine D.cal sc_is_op (fun vs H Q E h => ?_) (fun f cdv A' outer s H vs Q E hr h => ?_)
  · obtain ⟨o, rfl, _⟩ := h
    rfl
  · obtain ⟨o, rfl, q⟩ := h
    refine ⟨_, (pss_one (ps_ret (pe_and (pe_callB call_isi (by rfl) T.isinstance (by decide +kernel) (pa_cons (pv 0) (pa_cons (pe_bltn (v := .ty "str") rfl T.str (by decide +kernel) rfl) pa_nil))) (pe_one (pe_cmpR (op_in_kd kd) (pv 0) (pe_glob (v := .ref PD) rfl G.parts rfl) (by with_unfolding_all rfl)))))), ?_⟩
    refine ⟨_, rfl, .str o.w, .ty "str", .type "str", .type "str", true, rfl, .ty "str", .base (.str o.w), kit_ty (by decide +kernel), true, rfl, iteT ?_⟩
    obtain ⟨u, hu⟩ := (A.ops o).2
    exact ⟨_, rfl, o.w, some u, rfl, rfl, hu, q⟩
theorem ok_parts_of (G : Gg mg PD LA) (A : PartsAt K w PD) (cis_op : C8.Cal P w K mg base 1 "is_op" spOpT []) (D : Dd K mg "parts_of" s_parts_of P_parts_of) : C8.Cal P w K mg base 2 "parts_of" spPartsT [] := by
  refine D.cal sc_parts_of (fun vs H Q E h => ?_) (fun f cdv A' outer s H vs Q E hr h => ?_)
  · obtain ⟨o, rfl, _⟩ := h
    rfl
  · obtain ⟨o, rfl, q⟩ := h
    refine ⟨_, (pss_cons (ps_if (pt_not (pt_val (C8.pe_c cis_op hr (by decide) (by rfl) (pa_cons (pv 0) pa_nil))))
          (pss_one ps_never)
          pss_nil)
        (pss_one (ps_ret (pe_ix ix_kdict (pe_glob (v := .ref PD) rfl G.parts rfl) (pv 0) (fun _ _ => rfl))))), ?_⟩
    refine ⟨_, rfl, o, rfl, _, rfl, iteF ?_⟩
    exact ⟨_, rfl, PD, _, _, rfl, rfl, (A.ops o).1, q⟩
theorem ok_op_letT (G : Gg mg PD LA) (hL : ∀ H, SqT K H LA [.str "copy", .str "plus", .str "least", .str "most"]) (cis_op : C8.Cal P w K mg base 1 "is_op" spOpT []) (D : DdK K mg "op_let" s_op_let [("cap", .int 0)]) : KCal P w K mg base 2 "op_let" spLetT 1 ["cap"] (fun vs zs => vs ++ zs) := by
  obtain ⟨f, fd, F, g⟩ := D.ex
  have ok : FnOk P w K mg base CX0 2 f fd P_op_let spLetT := by
    refine F.ok sc_op_let (fun vs H Q E h => ?_) (fun cdv A outer s H vs Q E hr h => ?_)
    · obtain ⟨o, c, rfl, _⟩ := h
      rfl
    · obtain ⟨o, c, rfl, hc, q⟩ := h
      refine ⟨_, (pss_cons (ps_if (pt_cmpR op_eq (pv 1) pe_int (nomark _))
            (pss_one (ps_ret (C8.pe_c cis_op hr (by decide) (by rfl) (pa_cons (pv 0) pa_nil))))
            pss_nil)
          (pss_one (ps_ret (pe_cmpR op_in_seq (pv 0) (pe_glob (v := .ref LA) rfl G.let_ rfl) (by with_unfolding_all rfl))))), ?_⟩
      by_cases e : c = 0
      · subst e
        refine ⟨_, rfl, rfl, _, rfl, ifT rfl ?_⟩
        exact ⟨_, rfl, o, rfl, q⟩
      · refine ⟨_, rfl, rfl, _, rfl, ifF (by rw [decide_eq_false]; intro z; have := V.int.inj z; omega) ?_⟩
        refine ⟨_, rfl, LA, _, rfl, .inr (hL H), rfl, rfl, ?_⟩
        show Q (.bl (inV (.str o.w) [.str "copy", .str "plus", .str "least", .str "most"])) H
        rw [in_let, hc.resolve_left e]
        exact q
  have hk1 := kbindsN (ps := P_op_let) F 1 ["cap"] (fun us ws => us ++ ws) (fun h2 h3 => Vals.append h2 h3) (fun kV doc pm an cdv ct us ws hl hw => match us, ws, hl, hw with
    | [_], [_], _, _ => rfl)
  exact ⟨f, fd, _, _, ok, g, F.kp, hk1⟩
theorem ok_rows_of (T : Gb mg) (D : Dd K mg "rows_of" s_rows_of P_rows_of) : C8.Cal P w K mg base 1 "rows_of" spRows [] := by
  refine D.cal sc_rows_of (fun vs H Q E h => ?_) (fun f cdv A outer s H vs Q E hr h => ?_)
  · obtain ⟨z, l, xs, rfl, _⟩ := h
    rfl
  · obtain ⟨z, l, xs, rfl, hl, q⟩ := h
    refine ⟨_, (pss_cons (ps_if (pt_not (pt_val (pe_callB call_isi (by rfl) T.isinstance (by decide +kernel) (pa_cons (pv 1) (pa_cons (pe_bltn (v := .ty "list") rfl T.list (by decide +kernel) rfl) pa_nil)))))
          (pss_one ps_never)
          pss_nil)
        (pss_one (ps_ret (pv 1)))), ?_⟩
    refine ⟨_, rfl, .ref l, .ty "list", .type "list", .type "list", true, rfl, .ty "list", tyL (SqL.of hl), kit_ty (by decide +kernel), _, rfl, iteF ?_⟩
    exact ⟨_, rfl, q⟩
theorem ok_cap_in (T : Gb mg) (G : Gg mg PD LA) (cis_number : C8.Cal P w K mg base 1 "is_number" (spIsNum K) []) (D : Dd K mg "cap_in" s_cap_in P_cap_in) : C8.Cal P w K mg base 2 "cap_in" spCap [] := by
  refine D.cal sc_cap_in (fun vs H Q E h => ?_) (fun f cdv A outer s H vs Q E hr h => ?_)
  · obtain ⟨c, rfl, _⟩ := h
    rfl
  · obtain ⟨c, rfl, hc, q⟩ := h
    refine ⟨_, (pss_cons (ps_if (PW.pt (pw_or (pt_not (pt_val (C8.pe_c cis_number hr (by decide) (by rfl) (pa_cons (pv 0) pa_nil)))) (pw_or1 (pt_cmpR op_gt (pv 0) (C8.pe_gc (v := .int 9) rfl G.cap) (nomark _)))))
          (pss_one ps_never)
          pss_nil)
        (pss_one (ps_ret (pv 0)))), ?_⟩
    refine ⟨_, rfl, _, .int c, rfl, .int _, _, rfl, ?_⟩
    refine ifF (by show (!decide ((0 : Int) ≤ (c : Int))) = false; rw [decide_eq_true (by omega)]; rfl) ?_
    refine ⟨_, rfl, _, _, rfl, rfl, _, rfl, ?_⟩
    refine ifF (decide_eq_false (show ¬ (9 : Int) < (c : Int) by omega)) ?_
    exact ⟨_, rfl, q⟩
end
abbrev s_are_names : Stmt := top 26
abbrev N_are_names : List Str := ["thing", "part"]
abbrev P_are_names : List Str := ["thing"]
theorem sc_are_names : FnScope N_are_names P_are_names (defScope s_are_names) := ⟨rfl, rfl, rfl, by decide +kernel, rfl, by decide +kernel, by decide +kernel⟩
abbrev s_sort_stands : Stmt := top 27
abbrev N_sort_stands : List Str := ["row", "sorts", "sort", "downs", "ups"]
abbrev P_sort_stands : List Str := ["row", "sorts"]
theorem sc_sort_stands : FnScope N_sort_stands P_sort_stands (defScope s_sort_stands) := ⟨rfl, rfl, rfl, by decide +kernel, rfl, by decide +kernel, by decide +kernel⟩
abbrev s_sorts_in : Stmt := top 28
abbrev N_sorts_in : List Str := ["rows", "sorts", "number", "row"]
abbrev P_sorts_in : List Str := ["rows"]
theorem sc_sorts_in : FnScope N_sorts_in P_sorts_in (defScope s_sorts_in) := ⟨rfl, rfl, rfl, by decide +kernel, rfl, by decide +kernel, by decide +kernel⟩
theorem sqT_s {K : PySem.W.Frag} {H H' : Hp} {a : Addr} {xs : List V} (s : Same H H') (h : SqT K H a xs) : SqT K H' a xs := KeepT.seqT (KeepT.of s) h
/-- a table of rows -/
def Tab (K : PySem.W.Frag) (H : Hp) (kvs : List (Key × V)) (ts : List T3) : Prop := Paired (fun kv t => kv.1 = kS t.k ∧ Dp K H kv.2 t.r) kvs ts
theorem Tab.len {K : PySem.W.Frag} {H : Hp} {kvs : List (Key × V)} {ts : List T3} (h : Tab K H kvs ts) : kvs.length = ts.length := paired_len h
theorem Tab.none {K : PySem.W.Frag} {H : Hp} {k : List Nat} : ∀ {kvs : List (Key × V)} {ts : List T3}, Tab K H kvs ts → k ∉ ts.map T3.k → valV kvs (kS k) = none
  | _, _, .nil, _ => rfl
  | _, _, .cons a r, h => by
    rw [List.map_cons, List.mem_cons] at h
    rw [valV_neg (fun z => h (.inl (kS_inj (z.symm.trans a.1))))]
    exact Tab.none r fun z => h (.inr z)
theorem Tab.val {K : PySem.W.Frag} {H : Hp} {t : T3} : ∀ {kvs : List (Key × V)} {ts : List T3}, Tab K H kvs ts → (ts.map T3.k).Nodup → t ∈ ts → ∃ v, valV kvs (kS t.k) = some v ∧ Dp K H v t.r
  | _, _, .nil, _, h => nomatch h
  | _, _, .cons (a := kv) (b := t0) a r, hn, h => by
    rw [List.map_cons, List.nodup_cons] at hn
    rcases List.mem_cons.mp h with rfl | h
    · exact ⟨_, valV_pos a.1, a.2⟩
    · rw [valV_neg (fun z => hn.1 (by rw [← kS_inj (z.symm.trans a.1)]; exact List.mem_map_of_mem h))]
      exact Tab.val r hn.2 h
theorem Tab.any {K : PySem.W.Frag} {H : Hp} {k : List Nat} : ∀ {kvs : List (Key × V)} {ts : List T3}, Tab K H kvs ts → k ∉ ts.map T3.k → (kvs.any fun kv => decide (kv.1 = kS k)) = false
  | _, _, .nil, _ => rfl
  | _, _, .cons a r, h => by
    rw [List.map_cons, List.mem_cons] at h
    rw [List.any_cons, decide_eq_false (fun z => h (.inl (kS_inj (z.symm.trans a.1))))]
    exact Tab.any r fun z => h (.inr z)
theorem Tab.put {K : PySem.W.Frag} {H : Hp} {t : T3} {kvs : List (Key × V)} {ts : List T3} {v : V} (h : Tab K H kvs ts) (hn : t.k ∉ ts.map T3.k) (hv : Dp K H v t.r) : Tab K H (putK kvs (kS t.k) v) (ts ++ [t]) := by
  unfold putK
  rw [h.any hn]
  exact paired_snoc h ⟨rfl, hv⟩
theorem Tab.keep {K : PySem.W.Frag} {H H' : Hp} (k : KeepT H H') {kvs : List (Key × V)} {ts : List T3} (h : Tab K H kvs ts) (hi : ∀ t ∈ ts, imm t.r = true) : Tab K H' kvs ts := by
  unfold Tab at *
  induction h with
  | nil => exact .nil
  | cons a r ih => exact .cons ⟨a.1, dp_imm k a.2 (hi _ (List.mem_cons_self ..))⟩ (ih fun t ht => hi t (List.mem_cons_of_mem _ ht))
theorem sT_imm (r : SRow) : imm (sT r).r = true := up_imm r
theorem mT_imm (r : MRow) : imm (mT r).r = true := by
  show (true && (immAll (r.pt.map strD) && true)) = true
  rw [immAll_map strD_imm]
  rfl
/-- a row of a sort on the heap -/
theorem s_at {K : PySem.W.Frag} {H : Hp} {v : V} {r : SRow} (h : Dp K H v r.d) : ∃ q t1 t2, v = .ref q ∧ SqT K H q [.str (SX.S r.nm), .ref t1, .ref t2] ∧ SqT K H t1 (nmV r.dn) ∧ SqT K H t2 (nmV r.up) := by
  obtain ⟨q, v1, v2, e, hq, h1, h2⟩ := t3_at (t := sT r) h
  cases h1 with
  | tup a1 b1 =>
    cases h2 with
    | tup a2 b2 =>
      rw [names_of b1] at a1
      rw [names_of b2] at a2
      exact ⟨q, _, _, e, hq, a1, a2⟩
theorem gotTx_nd {xs : List Str} (h : xs.Nodup) : (gotTx xs).length = xs.length := ((List.perm_ext_iff_of_nodup (gotTx_nodup xs) h).mpr fun a => gotTx_mem).length_eq
theorem nodup_S {ws : List (List Nat)} (h : ws.Nodup) : (ws.map SX.S).Nodup := by
  induction ws with
  | nil => exact List.nodup_nil
  | cons u us ih =>
    rw [List.nodup_cons] at h
    rw [List.map_cons, List.nodup_cons]
    refine ⟨fun z => ?_, ih h.2⟩
    obtain ⟨x, hx, e⟩ := List.mem_map.mp z
    exact h.1 (SX.S_inj e ▸ hx)
/-- a row's name isn't told before -/
theorem new_name {α : Type} {f : α → List Nat} {rs : List α} {r : α} {j : Nat} (hn : (rs.map f).Nodup) (h : rs[j]? = some r) : f r ∉ (rs.take j).map f := by
  intro z
  obtain ⟨r', hr', e⟩ := List.mem_map.mp z
  have hsp : rs = rs.take j ++ r :: rs.drop (j + 1) := by
    obtain ⟨hj, e1⟩ := List.getElem?_eq_some_iff.mp h
    rw [← e1, ← List.drop_eq_getElem_cons hj, List.take_append_drop]
  rw [hsp, List.map_append, List.map_cons] at hn
  have hd := (List.nodup_append.mp hn).2.2
  exact hd (f r') (List.mem_map_of_mem hr') (f r) (List.mem_cons_self ..) e
theorem row_of {α : Type} {K : PySem.W.Frag} {H : Hp} {f : α → PyData} {sv : List V} {rs : List α} {j : Nat} {x : V} (h : DpAll K H sv (rs.map f)) (hx : sv[j]? = some x) : ∃ r, rs[j]? = some r ∧ Dp K H x (f r) := by
  obtain ⟨dd, hdd, hxd⟩ := dpAll_at h hx
  rw [List.getElem?_map] at hdd
  cases e : rs[j]? with
  | none => rw [e] at hdd; cases hdd
  | some r =>
    rw [e] at hdd
    cases hdd
    exact ⟨r, rfl, hxd⟩
def spAreN (K : PySem.W.Frag) : Sp := fun vs H Q _ => ∃ (q : Addr) (ws : List (List Nat)), vs = [.ref q] ∧ SqT K H q (nmV ws) ∧ ws.length ≤ 2 ∧ (∀ w ∈ ws, NmOk w) ∧ ∀ H', Same H H' → Q (.bl true) H'
def spSortSt (K : PySem.W.Frag) : Sp := fun vs H Q _ => ∃ (rv : V) (sd : Addr) (r : SRow) (kvs : List (Key × V)), vs = [rv, .ref sd] ∧ Dp K H rv r.d ∧ SOk r ∧ H sd = some (.dK kvs) ∧ kvs.length < 4 ∧ valV kvs (kS r.nm) = none ∧ ∀ H', Same H H' → Q (.bl true) H'
def spSortsIn (K : PySem.W.Frag) : Sp := fun vs H Q _ => ∃ (l : Addr) (sv : List V) (rs : List SRow), vs = [.ref l] ∧ H l = some (.lst sv) ∧ DpAll K H sv (rs.map SRow.d) ∧ SortsOk rs ∧
  ∀ (H' : Hp) (d : Addr) (kvs : List (Key × V)), Same H H' → H d = none → H' d = some (.dK kvs) → Tab K H' kvs (rs.map sT) → Q (.ref d) H'
section
variable {P : Program} {w : World} {K : PySem.W.Frag} {mg : Str → Option Value} {base : Heap} {PD LA : Addr}
theorem ok_are_names (T : Gb mg) (G : Gg mg PD LA) (cis_name : C8.Cal P w K mg base 1 "is_name" spNameT []) (D : Dd K mg "are_names" s_are_names P_are_names) : C8.Cal P w K mg base 2 "are_names" (spAreN K) [] := by
  refine D.cal sc_are_names (fun vs H Q E h => ?_) (fun f cdv A outer s H vs Q E hr h => ?_)
  · obtain ⟨q, ws, rfl, _⟩ := h
    rfl
  · obtain ⟨t, ws, rfl, ht, h2, hok, q⟩ := h
    refine ⟨_, (pss_cons (ps_if (PW.pt (pw_or (pt_not (pt_val (pe_callB call_isi (by rfl) T.isinstance (by decide +kernel) (pa_cons (pv 0) (pa_cons (pe_bltn (v := .ty "tuple") rfl T.tuple (by decide +kernel) rfl) pa_nil))))) (pw_or1 (pt_cmpR op_gt (pe_callB call_len_seq (by rfl) T.len PySem.boot_len (pa_cons (pv 0) pa_nil)) (C8.pe_gc (v := .int 2) rfl G.each) (nomark _)))))
          (pss_one (ps_ret pe_bl))
          pss_nil)
        (pss_one (ps_ret (pe_callB (cr_all rfl) (by rfl) T.all (by decide +kernel) (pa_cons (pe_lc (own := [("part", 1)]) (by exact rfl) sc_are_names.nd (pi_tup (pv 0)) (blkOk_by (own := [("part", 1)]) (N := N_are_names) (sc := defScope s_are_names) (by decide +kernel)) (fun _ _ _ _ _ => (pg_name (i := 1) sc_are_names.nd rfl (Or.inl rfl))) (fun _ _ _ _ _ => pts_nil) (fun _ _ _ _ _ => (C8.pe_c cis_name hr (by decide) (by rfl) (pa_cons (pv 1) pa_nil)))) pa_nil))))), ?_⟩
    refine ⟨_, rfl, .ref t, .ty "tuple", .type "tuple", .type "tuple", true, rfl, .ty "tuple", tyT ht, kit_ty (by decide +kernel), _, rfl, iteF ?_⟩
    refine ⟨_, rfl, t, _, rfl, .inr ht, _, _, rfl, rfl, _, rfl, ?_⟩
    refine ifF (decide_eq_false (show ¬ (2 : Int) < ((nmV ws).length : Int) by rw [nmV_len]; omega)) ?_
    refine ⟨_, rfl, t, rfl, ⟨_, ht⟩, fun D nD => ?_⟩
    refine lc_it (walk_tup (K := K) (a := t) (xs := nmV ws)) (fun j H' => Same H H' ∧ H' D = some (.lst ((List.replicate j true).map V.bl))) ⟨same_upd nD, upd_same⟩ (fun j H3 _ hh => sqT_s hh.1 ht) ?_ ?_
    · rintro j v H3 H4 hj ⟨sm, hD⟩ ⟨rfl, hv⟩
      obtain ⟨u, hu, rfl⟩ : ∃ u, ws[j]? = some u ∧ v = V.str (SX.S u) := by
        replace hv : (nmV ws)[j]? = some v := hv
        unfold nmV at hv
        rw [List.getElem?_map] at hv
        cases e : ws[j]? with
        | none => rw [e] at hv; cases hv
        | some u => rw [e] at hv; exact ⟨u, rfl, (Option.some.inj hv).symm⟩
      refine ⟨rfl, yesT ?_⟩
      refine ⟨_, rfl, u, rfl, hok u (List.mem_of_getElem? hu), fun H5 s5 => ?_⟩
      rw [nmV_len] at hj
      refine ⟨_, s5 _ _ hD, by rw [List.length_map, List.length_replicate]; exact small1000 (by omega), Same.at_ (sm.trans s5) nD, ?_⟩
      rw [upd_same, List.replicate_succ', List.map_append]
      rfl
    · rintro H3 ⟨sm, hD⟩
      refine ⟨D, _, rfl, SqL.of hD, ?_⟩
      rw [show (List.replicate (nmV ws).length true).all id = true by simp]
      exact q _ sm
theorem ok_sort_stands (T : Gb mg) (G : Gg mg PD LA) (cis_name : C8.Cal P w K mg base 1 "is_name" spNameT []) (cis_tuple_of : C8.Cal P w K mg base 1 "is_tuple_of" (spTupOf K) []) (care_names : C8.Cal P w K mg base 2 "are_names" (spAreN K) []) (D : Dd K mg "sort_stands" s_sort_stands P_sort_stands) : C8.Cal P w K mg base 3 "sort_stands" (spSortSt K) [] := by
  refine D.cal sc_sort_stands (fun vs H Q E h => ?_) (fun f cdv A outer s H vs Q E hr h => ?_)
  · obtain ⟨rv, sd, r, kvs, rfl, _⟩ := h
    rfl
  · obtain ⟨rv, sd, r, kvs, rfl, hrow, sok, hsd, hl, hno, q⟩ := h
    obtain ⟨q0, t1, t2, rfl, hq, ht1, ht2⟩ := s_at hrow
    refine ⟨_, (pss_cons (ps_if (PW.pt (pw_or (pt_not (pt_val (C8.pe_c cis_tuple_of hr (by decide) (by rfl) (pa_cons (pv 0) (pa_cons pe_int pa_nil))))) (pw_or1 (pt_cmpR op_eq (pe_callB call_lenD (by rfl) T.len PySem.boot_len (pa_cons (pv 1) pa_nil)) (C8.pe_gc (v := .int 4) rfl G.sorts) (nomark _)))))
          (pss_one (ps_ret pe_bl))
          pss_nil)
        (pss_cons (ps_asg (pv 0) (pg_tup rfl (pgs_cons (pg_name (i := 2) sc_sort_stands.nd rfl (Or.inl rfl)) (pgs_cons (pg_name (i := 3) sc_sort_stands.nd rfl (Or.inl rfl)) (pgs_cons (pg_name (i := 4) sc_sort_stands.nd rfl (Or.inl rfl)) pgs_nil)))))
        (pss_cons (ps_if (PW.pt (pw_or (pt_not (pt_val (C8.pe_c cis_name hr (by decide) (by rfl) (pa_cons (pv 2) pa_nil)))) (pw_or (pt_cmp (pc_din (hu_of hr) (pv 2) (pv 1)) (by with_unfolding_all rfl)) (pw_or (pt_not (pt_val (C8.pe_c care_names hr (by decide) (by rfl) (pa_cons (pv 3) pa_nil)))) (pw_or1 (pt_not (pt_val (C8.pe_c care_names hr (by decide) (by rfl) (pa_cons (pv 4) pa_nil)))))))))
          (pss_one (ps_ret pe_bl))
          pss_nil)
        (pss_one (ps_ret (pe_cmpR op_eq (pe_callB cr_lenTx (by rfl) T.len PySem.boot_len (pa_cons (pe_callTy (cr_setTx rfl) (by rfl) T.set (by decide +kernel) (pa_cons (pe_op (r := rCatAny K) op_catAny (pv 3) (pv 4)) pa_nil)) pa_nil)) (pe_callB call_len_seq (by rfl) T.len PySem.boot_len (pa_cons (pe_op (r := rCatAny K) op_catAny (pv 3) (pv 4)) pa_nil)) (nomark _))))))), ?_⟩
    refine ⟨_, rfl, .ref q0, r.d, 3, rfl, hrow, _, rfl, ifF rfl ?_⟩
    refine ⟨_, rfl, sd, kvs, rfl, hsd, rfl, _, rfl, ifF (decide_eq_false (fun z => by have := V.int.inj z; omega)) ?_⟩
    refine ⟨_, rfl, q0, _, rfl, hq, rfl, _, _, rfl, _, _, rfl, _, _, rfl, rfl, ?_⟩
    refine ⟨_, rfl, r.nm, rfl, sok.nm, fun H1 s1 => ⟨_, rfl, ifF rfl ?_⟩⟩
    refine ⟨_, rfl, _, rfl, sd, none, rfl, by have h := DGet.k (k := kS r.nm) (s1 _ _ hsd); rw [hno] at h; exact h, _, rfl, ifF rfl ?_⟩
    refine ⟨_, rfl, t1, r.dn, rfl, sqT_s s1 ht1, sok.d2, fun w hw => sok.all w (List.mem_append_left _ hw), fun H2 s2 => ⟨_, rfl, ifF rfl ?_⟩⟩
    have s12 := s1.trans s2
    refine ⟨_, rfl, t2, r.up, rfl, sqT_s s12 ht2, sok.u2, fun w hw => sok.all w (List.mem_append_right _ hw), fun H3 s3 => ⟨_, rfl, ifF rfl ?_⟩⟩
    have s13 := s12.trans s3
    have hd2 := sok.d2
    have hu2 := sok.u2
    refine ⟨_, rfl, _, rfl, t1, t2, nmV r.dn, nmV r.up, rfl, rfl, sqT_s s13 ht1, sqT_s s13 ht2, by rw [nmV_len, nmV_len]; exact Nat.le_trans (show _ ≤ 4 by omega) (by decide), fun H4 p4 s4 h4 => ?_⟩
    have e4 : nmV r.dn ++ nmV r.up = ((r.dn ++ r.up).map SX.S).map V.str := by
      unfold nmV
      rw [List.map_map, List.map_append]
      rfl
    rw [e4] at h4
    refine ⟨p4, _, rfl, .inr h4, by rw [List.length_map, List.length_append]; omega, fun p5 n5 => ?_⟩
    refine ⟨p5, _, rfl, upd_same, ?_⟩
    have s5 := s13.trans (s4.trans (same_upd (o := setTxO w p5 (gotTx ((r.dn ++ r.up).map SX.S))) n5))
    refine ⟨_, rfl, _, rfl, t1, t2, nmV r.dn, nmV r.up, rfl, rfl, sqT_s s5 ht1, sqT_s s5 ht2, by rw [nmV_len, nmV_len]; exact Nat.le_trans (show _ ≤ 4 by omega) (by decide), fun H6 p6 s6 h6 => ?_⟩
    refine ⟨p6, _, rfl, .inr h6, rfl, ?_⟩
    have e6 : decide (V.int (((gotTx ((r.dn ++ r.up).map SX.S)).length : Nat) : Int) = V.int (((nmV r.dn ++ nmV r.up).length : Nat) : Int)) = true := by
      exact decide_eq_true (congrArg (fun n : Nat => V.int (n : Int)) (by rw [gotTx_nd (nodup_S sok.nd), e4, List.length_map (f := V.str)]))
    rw [e6]
    exact q _ (s5.trans s6)
theorem ok_sorts_in (T : Gb mg) (crows_of : C8.Cal P w K mg base 1 "rows_of" spRows []) (csort_stands : C8.Cal P w K mg base 3 "sort_stands" (spSortSt K) []) (D : Dd K mg "sorts_in" s_sorts_in P_sorts_in) : C8.Cal P w K mg base 4 "sorts_in" (spSortsIn K) [] := by
  refine D.cal sc_sorts_in (fun vs H Q E h => ?_) (fun f cdv A outer s H vs Q E hr h => ?_)
  · obtain ⟨l, sv, rs, rfl, _⟩ := h
    rfl
  · obtain ⟨l, sv, rs, rfl, hl, hsv, sok, q⟩ := h
    refine ⟨_, (pss_cons (ps_set (i := 1) sc_sorts_in.nd rfl (Or.inl rfl) pe_dnewK)
        (pss_cons (ps_for PassesOwn.never rfl (pi_enum (by rfl) T.enumerate (pa_cons (C8.pe_c crows_of hr (by decide) (by rfl) (pa_cons pe_str (pa_cons (pv 0) pa_nil))) pa_nil)) (pg_tup rfl (pgs_cons (pg_name (i := 2) sc_sorts_in.nd rfl (Or.inl rfl)) (pgs_cons (pg_name (i := 3) sc_sorts_in.nd rfl (Or.inl rfl)) pgs_nil)))
          (pss_cons (ps_if (pt_not (pt_val (C8.pe_c csort_stands hr (by decide) (by rfl) (pa_cons (pv 3) (pa_cons (pv 1) pa_nil)))))
          (pss_one ps_never)
          pss_nil)
        (pss_one (ps_dput (hu_of hr) (pv 1) (pe_ix (r := rIxT K) ix_tup (pv 3) pe_int (fun _ _ => rfl)) (pe_slice (r := rSlAny K) sl_any (pv 3) (po_some pe_int) po_none) (by rfl)))))
        (pss_one (ps_ret (pv 1))))), ?_⟩
    refine fun d nd => ?_
    have s1 := same_upd (o := .dK []) nd
    have lsv := dpAll_len hsv
    rw [List.length_map] at lsv
    have h4 := sok.le
    refine ⟨_, rfl, "sorts", l, sv, rfl, s1 _ _ hl, l, sv, rfl, SqL.of (s1 _ _ hl), ?_⟩
    refine for_it walk_enum (fun j σ Y => ∃ (y2 y3 : Option V) (kvs : List (Key × V)), σ = [some (.ref l), some (.ref d), y2, y3] ∧ Same H Y ∧ Y d = some (.dK kvs) ∧ Tab K Y kvs ((rs.take j).map sT))
      ⟨none, none, [], rfl, s1, upd_same, .nil⟩ (fun i σ Y _ ⟨_, _, _, _, h, _⟩ => SqL.of (h _ _ hl)) ?_ ?_
    · rintro j v σ Y0 Y hj ⟨y2, y3, kvs, rfl, s2, hd, htab⟩ ⟨TT, xx, yy, rfl, nT, rfl, ex, ey⟩
      cases ex
      obtain ⟨r, hr1, hrow⟩ := row_of (dpAll_same s2 hsv) ey
      have sN := same_upd (o := .tup [.int ((j : Nat) : Int), yy]) nT
      have hjr : j < rs.length := (List.getElem?_eq_some_iff.mp hr1).1
      have hno := new_name (f := SRow.nm) sok.nd hr1
      have hno' : r.nm ∉ ((rs.take j).map sT).map T3.k := by
        rw [List.map_map]
        exact hno
      have lk := htab.len
      rw [List.length_map, List.length_take] at lk
      refine ⟨TT, _, rfl, SqT.of upd_same, rfl, _, _, rfl, _, _, rfl, rfl, ?_⟩
      refine ⟨_, rfl, _, rfl, yy, d, r, kvs, rfl, dp_same sN hrow, sok.ok r (List.mem_of_getElem? hr1), sN _ _ hd, by omega, htab.none hno', fun Y2 sY => ⟨_, rfl, iteF ?_⟩⟩
      have sA := sN.trans sY
      obtain ⟨q0, v1, v2, rfl, hq, hd1, hd2⟩ := t3_at (t := sT r) (dp_same sA hrow)
      refine ⟨_, rfl, _, rfl, q0, _, rfl, hq, fun Y3 p3 sp3 hp3 => ?_⟩
      have sB := sA.trans sp3
      refine ⟨_, rfl, _, rfl, q0, _, 0, .str (SX.S r.nm), rfl, rfl, sqT_s sp3 hq, atI_nat (j := 0) rfl, ?_⟩
      have hv3 : Dp K Y3 (.ref p3) (sT r).r := .tup hp3 (.cons (dp_same sp3 hd1) (.cons (dp_same sp3 hd2) .nil))
      have hd3 := sB _ _ hd
      have hpt := (htab.keep (KeepT.of sB) (fun t ht => by obtain ⟨r', _, e⟩ := List.mem_map.mp ht; rw [← e]; exact sT_imm r')).put (t := sT r) hno' hv3
      refine ⟨d, _, rfl, DPut.k (k := kS r.nm) hd3 (small1000 (by omega)), _, _, _, rfl, ?_, upd_same, ?_⟩
      · exact Same.at_ (s2.trans sB) nd
      · rw [List.take_add_one, hr1, List.map_append]
        exact hpt.keep (KeepT.at_ hd3 dK_no) (fun t ht => by
          rcases List.mem_append.mp ht with ht | ht
          · obtain ⟨r', _, e⟩ := List.mem_map.mp ht
            rw [← e]
            exact sT_imm r'
          · rw [List.mem_singleton.mp ht]
            exact sT_imm r)
    · rintro σ Y ⟨y2, y3, kvs, rfl, s2, hd, htab⟩
      rw [lsv, List.take_length] at htab
      exact ⟨_, rfl, q _ d kvs s2 nd hd htab⟩
end
abbrev s_making_stands : Stmt := top 29
abbrev N_making_stands : List Str := ["row", "makings", "sorts", "making", "sort", "parts", "each"]
abbrev P_making_stands : List Str := ["row", "makings", "sorts"]
theorem sc_making_stands : FnScope N_making_stands P_making_stands (defScope s_making_stands) := ⟨rfl, rfl, rfl, by decide +kernel, rfl, by decide +kernel, by decide +kernel⟩
abbrev s_makings_in : Stmt := top 30
abbrev N_makings_in : List Str := ["rows", "sorts", "makings", "number", "row"]
abbrev P_makings_in : List Str := ["rows", "sorts"]
theorem sc_makings_in : FnScope N_makings_in P_makings_in (defScope s_makings_in) := ⟨rfl, rfl, rfl, by decide +kernel, rfl, by decide +kernel, by decide +kernel⟩
def spMakSt (K : PySem.W.Frag) : Sp := fun vs H Q _ => ∃ (rv : V) (md sd : Addr) (mr : MRow) (kvs skv : List (Key × V)), vs = [rv, .ref md, .ref sd] ∧ Dp K H rv mr.d ∧ NmOk mr.nm ∧ (∀ k ∈ mr.places, NmOk k) ∧ mr.pt.length ≤ 2 ∧ H md = some (.dK kvs) ∧ kvs.length < 8 ∧ valV kvs (kS mr.nm) = none ∧ H sd = some (.dK skv) ∧ (∀ k ∈ mr.places, (valV skv (kS k)).isSome = true) ∧ ∀ H', Same H H' → Q (.bl true) H'
def spMaksIn (K : PySem.W.Frag) : Sp := fun vs H Q _ => ∃ (l sd : Addr) (mv : List V) (rs : List SRow) (ms : List MRow) (skv : List (Key × V)), vs = [.ref l, .ref sd] ∧ H l = some (.lst mv) ∧ DpAll K H mv (ms.map MRow.d) ∧ SortsOk rs ∧ (ms.map MRow.nm).Nodup ∧ (∀ m ∈ ms, MOk rs m) ∧ ms.length ≤ 8 ∧ H sd = some (.dK skv) ∧ Tab K H skv (rs.map sT) ∧
  ∀ (H' : Hp) (d : Addr) (kvs : List (Key × V)), Same H H' → H d = none → H' d = some (.dK kvs) → Tab K H' kvs (ms.map mT) → Q (.ref d) H'
theorem places_ok {rs : List SRow} {mr : MRow} (so : SortsOk rs) (m : MOk rs mr) : ∀ k ∈ mr.places, NmOk k := fun k hk => by
  obtain ⟨r, hr, rfl⟩ := m.so k hk
  exact (so.ok r hr).nm
theorem sT_k (rs : List SRow) : (rs.map sT).map T3.k = rs.map SRow.nm := by
  rw [List.map_map]
  rfl
theorem mT_k (rs : List MRow) : (rs.map mT).map T3.k = rs.map MRow.nm := by
  rw [List.map_map]
  rfl
section
variable {P : Program} {w : World} {K : PySem.W.Frag} {mg : Str → Option Value} {base : Heap} {PD LA : Addr}
theorem ok_making_stands (T : Gb mg) (G : Gg mg PD LA) (cis_name : C8.Cal P w K mg base 1 "is_name" spNameT []) (cis_tuple_of : C8.Cal P w K mg base 1 "is_tuple_of" (spTupOf K) []) (care_names : C8.Cal P w K mg base 2 "are_names" (spAreN K) []) (D : Dd K mg "making_stands" s_making_stands P_making_stands) : C8.Cal P w K mg base 3 "making_stands" (spMakSt K) [] := by
  refine D.cal sc_making_stands (fun vs H Q E h => ?_) (fun f cdv A outer s H vs Q E hr h => ?_)
  · obtain ⟨rv, md, sd, mr, kvs, skv, rfl, _⟩ := h
    rfl
  · obtain ⟨rv, md, sd, mr, kvs, skv, rfl, hrow, hnm, hpl, hp2, hmd, hl, hno, hsd, hin, q⟩ := h
    obtain ⟨q0, t, rfl, hq, ht⟩ := row_at hrow
    refine ⟨_, (pss_cons (ps_if (PW.pt (pw_or (pt_not (pt_val (C8.pe_c cis_tuple_of hr (by decide) (by rfl) (pa_cons (pv 0) (pa_cons pe_int pa_nil))))) (pw_or1 (pt_cmpR op_eq (pe_callB call_lenD (by rfl) T.len PySem.boot_len (pa_cons (pv 1) pa_nil)) (C8.pe_gc (v := .int 8) rfl G.makings) (nomark _)))))
          (pss_one (ps_ret pe_bl))
          pss_nil)
        (pss_cons (ps_asg (pv 0) (pg_tup rfl (pgs_cons (pg_name (i := 3) sc_making_stands.nd rfl (Or.inl rfl)) (pgs_cons (pg_name (i := 4) sc_making_stands.nd rfl (Or.inl rfl)) (pgs_cons (pg_name (i := 5) sc_making_stands.nd rfl (Or.inl rfl)) pgs_nil)))))
        (pss_cons (ps_if (PW.pt (pw_or (pt_not (pt_val (C8.pe_c cis_name hr (by decide) (by rfl) (pa_cons (pv 3) pa_nil)))) (pw_or (pt_cmp (pc_din (hu_of hr) (pv 3) (pv 1)) (by with_unfolding_all rfl)) (pw_or1 (pt_not (pt_val (C8.pe_c care_names hr (by decide) (by rfl) (pa_cons (pv 5) pa_nil))))))))
          (pss_one (ps_ret pe_bl))
          pss_nil)
        (pss_one (ps_ret (pe_and (C8.pe_c cis_name hr (by decide) (by rfl) (pa_cons (pv 4) pa_nil)) (pe_one (pe_callB (cr_all rfl) (by rfl) T.all (by decide +kernel) (pa_cons (pe_lc (own := [("each", 6)]) (by exact rfl) sc_making_stands.nd (pi_tup (pe_tup (pa_cons (pv 4) (StX.pa_star (pv 5) pa_nil)))) (blkOk_by (own := [("each", 6)]) (N := N_making_stands) (sc := defScope s_making_stands) (by decide +kernel)) (fun _ _ _ _ _ => (pg_name (i := 6) sc_making_stands.nd rfl (Or.inl rfl))) (fun _ _ _ _ _ => pts_nil) (fun _ _ _ _ _ => (pe_cmp (pc_din (hu_of hr) (pv 6) (pv 2)) (by with_unfolding_all rfl)))) pa_nil))))))))), ?_⟩
    refine ⟨_, rfl, .ref q0, mr.d, 3, rfl, hrow, _, rfl, ifF rfl ?_⟩
    refine ⟨_, rfl, md, kvs, rfl, hmd, rfl, _, rfl, ifF (decide_eq_false (fun z => by have := V.int.inj z; omega)) ?_⟩
    refine ⟨_, rfl, q0, _, rfl, hq, rfl, _, _, rfl, _, _, rfl, _, _, rfl, rfl, ?_⟩
    refine ⟨_, rfl, mr.nm, rfl, hnm, fun H1 s1 => ⟨_, rfl, ifF rfl ?_⟩⟩
    refine ⟨_, rfl, _, rfl, md, none, rfl, by have h := DGet.k (k := kS mr.nm) (s1 _ _ hmd); rw [hno] at h; exact h, _, rfl, ifF rfl ?_⟩
    refine ⟨_, rfl, t, mr.pt, rfl, sqT_s s1 ht, hp2, fun w hw => hpl w (List.mem_cons_of_mem _ hw), fun H2 s2 => ⟨_, rfl, ifF rfl ?_⟩⟩
    have s12 := s1.trans s2
    refine ⟨_, rfl, mr.so, rfl, hpl _ (List.mem_cons_self ..), fun H3 s3 => ⟨_, rfl, iteT ?_⟩⟩
    have s13 := s12.trans s3
    refine ⟨_, rfl, _, rfl, t, nmV mr.pt, rfl, .inl (sqT_s s13 ht), ?_⟩
    have e4 : V.str (SX.S mr.so) :: (nmV mr.pt ++ []) = nmV mr.places := by
      rw [List.append_nil]
      rfl
    have lpl : mr.places.length ≤ 3 := by
      show mr.pt.length + 1 ≤ 3
      omega
    refine ⟨?_, fun p4 n4 => ?_⟩
    · show (V.str (SX.S mr.so) :: (nmV mr.pt ++ [])).length ≤ _
      rw [e4, nmV_len]
      exact Nat.le_trans lpl (by decide)
    have s4 := s13.trans (same_upd (o := .tup (V.str (SX.S mr.so) :: (nmV mr.pt ++ []))) n4)
    have h4 : SqT K (upd H3 p4 (.tup (V.str (SX.S mr.so) :: (nmV mr.pt ++ [])))) p4 (V.str (SX.S mr.so) :: (nmV mr.pt ++ [])) := SqT.of upd_same
    show (∃ p, V.ref p4 = V.ref p ∧ _)
    refine ⟨p4, rfl, ⟨_, h4⟩, fun D nD => ?_⟩
    refine lc_it (walk_tup (K := K) (a := p4) (xs := V.str (SX.S mr.so) :: (nmV mr.pt ++ []))) (fun j H' => Same (upd H3 p4 (.tup (V.str (SX.S mr.so) :: (nmV mr.pt ++ [])))) H' ∧ H' D = some (.lst ((List.replicate j true).map V.bl))) ⟨same_upd nD, upd_same⟩ (fun j H5 _ hh => sqT_s hh.1 h4) ?_ ?_
    · rintro j v H5 H6 hj ⟨sm, hD⟩ ⟨rfl, hv⟩
      obtain ⟨u, hu, rfl⟩ : ∃ u, mr.places[j]? = some u ∧ v = V.str (SX.S u) := by
        replace hv : (V.str (SX.S mr.so) :: (nmV mr.pt ++ []))[j]? = some v := hv
        rw [e4] at hv
        unfold nmV at hv
        rw [List.getElem?_map] at hv
        cases e : mr.places[j]? with
        | none => rw [e] at hv; cases hv
        | some u => rw [e] at hv; exact ⟨u, rfl, (Option.some.inj hv).symm⟩
      refine ⟨rfl, yesT ?_⟩
      have s6 := s4.trans sm
      refine ⟨_, rfl, _, rfl, sd, _, rfl, DGet.k (k := kS u) (s6 _ _ hsd), ?_⟩
      rw [hin u (List.mem_of_getElem? hu)]
      rw [e4, nmV_len] at hj
      refine ⟨_, hD, by rw [List.length_map, List.length_replicate]; exact small1000 (by omega), Same.at_ sm nD, ?_⟩
      rw [upd_same, List.replicate_succ', List.map_append]
      rfl
    · rintro H5 ⟨sm, hD⟩
      refine ⟨D, _, rfl, SqL.of hD, ?_⟩
      rw [show (List.replicate (V.str (SX.S mr.so) :: (nmV mr.pt ++ [])).length true).all id = true by simp]
      exact q _ (s4.trans sm)
theorem ok_makings_in (T : Gb mg) (crows_of : C8.Cal P w K mg base 1 "rows_of" spRows []) (cmaking_stands : C8.Cal P w K mg base 3 "making_stands" (spMakSt K) []) (D : Dd K mg "makings_in" s_makings_in P_makings_in) : C8.Cal P w K mg base 4 "makings_in" (spMaksIn K) [] := by
  refine D.cal sc_makings_in (fun vs H Q E h => ?_) (fun f cdv A outer s H vs Q E hr h => ?_)
  · obtain ⟨l, sd, mv, rs, ms, skv, rfl, _⟩ := h
    rfl
  · obtain ⟨l, sd, sv, rs0, rs, skv, rfl, hl, hsv, sok, hnd, hok, h8, hsd, hstab, q⟩ := h
    refine ⟨_, (pss_cons (ps_set (i := 2) sc_makings_in.nd rfl (Or.inl rfl) pe_dnewK)
        (pss_cons (ps_for PassesOwn.never rfl (pi_enum (by rfl) T.enumerate (pa_cons (C8.pe_c crows_of hr (by decide) (by rfl) (pa_cons pe_str (pa_cons (pv 0) pa_nil))) pa_nil)) (pg_tup rfl (pgs_cons (pg_name (i := 3) sc_makings_in.nd rfl (Or.inl rfl)) (pgs_cons (pg_name (i := 4) sc_makings_in.nd rfl (Or.inl rfl)) pgs_nil)))
          (pss_cons (ps_if (pt_not (pt_val (C8.pe_c cmaking_stands hr (by decide) (by rfl) (pa_cons (pv 4) (pa_cons (pv 2) (pa_cons (pv 1) pa_nil))))))
          (pss_one ps_never)
          pss_nil)
        (pss_one (ps_dput (hu_of hr) (pv 2) (pe_ix (r := rIxT K) ix_tup (pv 4) pe_int (fun _ _ => rfl)) (pe_slice (r := rSlAny K) sl_any (pv 4) (po_some pe_int) po_none) (by rfl)))))
        (pss_one (ps_ret (pv 2))))), ?_⟩
    refine fun d nd => ?_
    have s1 := same_upd (o := .dK []) nd
    have lsv := dpAll_len hsv
    rw [List.length_map] at lsv
    refine ⟨_, rfl, "makings", l, sv, rfl, s1 _ _ hl, l, sv, rfl, SqL.of (s1 _ _ hl), ?_⟩
    refine for_it walk_enum (fun j σ Y => ∃ (y2 y3 : Option V) (kvs : List (Key × V)), σ = [some (.ref l), some (.ref sd), some (.ref d), y2, y3] ∧ Same H Y ∧ Y d = some (.dK kvs) ∧ Tab K Y kvs ((rs.take j).map mT))
      ⟨none, none, [], rfl, s1, upd_same, .nil⟩ (fun i σ Y _ ⟨_, _, _, _, h, _⟩ => SqL.of (h _ _ hl)) ?_ ?_
    · rintro j v σ Y0 Y hj ⟨y2, y3, kvs, rfl, s2, hd, htab⟩ ⟨TT, xx, yy, rfl, nT, rfl, ex, ey⟩
      cases ex
      obtain ⟨r, hr1, hrow⟩ := row_of (dpAll_same s2 hsv) ey
      have sN := same_upd (o := .tup [.int ((j : Nat) : Int), yy]) nT
      have hjr : j < rs.length := (List.getElem?_eq_some_iff.mp hr1).1
      have hno' : r.nm ∉ ((rs.take j).map mT).map T3.k := by
        rw [mT_k]
        exact new_name (f := MRow.nm) hnd hr1
      have mok := hok r (List.mem_of_getElem? hr1)
      have lk := htab.len
      rw [List.length_map, List.length_take] at lk
      refine ⟨TT, _, rfl, SqT.of upd_same, rfl, _, _, rfl, _, _, rfl, rfl, ?_⟩
      refine ⟨_, rfl, _, rfl, _, rfl, yy, d, sd, r, kvs, skv, rfl, dp_same sN hrow, mok.nm, places_ok sok mok, mok.p2, sN _ _ hd, by omega, htab.none hno', sN _ _ (s2 _ _ hsd), fun k hk => ?_, fun Y2 sY => ⟨_, rfl, iteF ?_⟩⟩
      · obtain ⟨r', hr', rfl⟩ := mok.so k hk
        obtain ⟨v', e', _⟩ := hstab.val (t := sT r') (by rw [sT_k]; exact sok.nd) (List.mem_map_of_mem hr')
        rw [show kS r'.nm = kS (sT r').k from rfl, e']
        rfl
      have sA := sN.trans sY
      obtain ⟨q0, v1, v2, rfl, hq, hd1, hd2⟩ := t3_at (t := mT r) (dp_same sA hrow)
      refine ⟨_, rfl, _, rfl, q0, _, rfl, hq, fun Y3 p3 sp3 hp3 => ?_⟩
      have sB := sA.trans sp3
      refine ⟨_, rfl, _, rfl, q0, _, 0, .str (SX.S r.nm), rfl, rfl, sqT_s sp3 hq, atI_nat (j := 0) rfl, ?_⟩
      have hv3 : Dp K Y3 (.ref p3) (mT r).r := .tup hp3 (.cons (dp_same sp3 hd1) (.cons (dp_same sp3 hd2) .nil))
      have hd3 := sB _ _ hd
      have hpt := (htab.keep (KeepT.of sB) (fun t ht => by obtain ⟨r', _, e⟩ := List.mem_map.mp ht; rw [← e]; exact mT_imm r')).put (t := mT r) hno' hv3
      refine ⟨d, _, rfl, DPut.k (k := kS r.nm) hd3 (small1000 (by omega)), _, _, _, rfl, ?_, upd_same, ?_⟩
      · exact Same.at_ (s2.trans sB) nd
      · rw [List.take_add_one, hr1, List.map_append]
        exact hpt.keep (KeepT.at_ hd3 dK_no) (fun t ht => by
          rcases List.mem_append.mp ht with ht | ht
          · obtain ⟨r', _, e⟩ := List.mem_map.mp ht
            rw [← e]
            exact mT_imm r'
          · rw [List.mem_singleton.mp ht]
            exact mT_imm r)
    · rintro σ Y ⟨y2, y3, kvs, rfl, s2, hd, htab⟩
      rw [lsv, List.take_length] at htab
      exact ⟨_, rfl, q _ d kvs s2 nd hd htab⟩
end
abbrev s_worths_at : Stmt := top 31
abbrev N_worths_at : List Str := ["place", "form", "sorts", "places"]
abbrev P_worths_at : List Str := ["place", "form", "sorts"]
theorem sc_worths_at : FnScope N_worths_at P_worths_at (defScope s_worths_at) := ⟨rfl, rfl, rfl, by decide +kernel, rfl, by decide +kernel, by decide +kernel⟩
abbrev s_is_at : Stmt := top 32
abbrev N_is_at : List Str := ["thing"]
abbrev P_is_at : List Str := ["thing"]
theorem sc_is_at : FnScope N_is_at P_is_at (defScope s_is_at) := ⟨rfl, rfl, rfl, by decide +kernel, rfl, by decide +kernel, by decide +kernel⟩
abbrev s_is_kept : Stmt := top 33
abbrev N_is_kept : List Str := ["thing", "form", "sorts", "downs", "ups"]
abbrev P_is_kept : List Str := ["thing", "form", "sorts"]
theorem sc_is_kept : FnScope N_is_kept P_is_kept (defScope s_is_kept) := ⟨rfl, rfl, rfl, by decide +kernel, rfl, by decide +kernel, by decide +kernel⟩
abbrev s_is_target : Stmt := top 34
abbrev N_is_target : List Str := ["thing", "form", "sorts", "downs", "ups"]
abbrev P_is_target : List Str := ["thing", "form", "sorts"]
theorem sc_is_target : FnScope N_is_target P_is_target (defScope s_is_target) := ⟨rfl, rfl, rfl, by decide +kernel, rfl, by decide +kernel, by decide +kernel⟩
abbrev s_is_operand : Stmt := top 35
abbrev N_is_operand : List Str := ["thing", "form", "sorts", "downs", "ups"]
abbrev P_is_operand : List Str := ["thing", "form", "sorts"]
theorem sc_is_operand : FnScope N_is_operand P_is_operand (defScope s_is_operand) := ⟨rfl, rfl, rfl, by decide +kernel, rfl, by decide +kernel, by decide +kernel⟩
/-- a making's form and the sorts' table, on the heap -/
structure Fm (K : PySem.W.Frag) (H : Hp) (fv : V) (sd : Addr) (rs : List SRow) (mr : MRow) : Prop where
  f : Dp K H fv (mT mr).r
  t : ∃ skv, H sd = some (.dK skv) ∧ Tab K H skv (rs.map sT)
  so : SortsOk rs
  mo : MOk rs mr
theorem Fm.same {K : PySem.W.Frag} {H H' : Hp} {fv : V} {sd : Addr} {rs : List SRow} {mr : MRow} (s : Same H H') (h : Fm K H fv sd rs mr) : Fm K H' fv sd rs mr := by
  obtain ⟨skv, h1, h2⟩ := h.t
  exact ⟨dp_same s h.f, ⟨skv, s _ _ h1, h2.keep (KeepT.of s) (fun t ht => by obtain ⟨r', _, e⟩ := List.mem_map.mp ht; rw [← e]; exact sT_imm r')⟩, h.so, h.mo⟩
theorem Fm.at_ {K : PySem.W.Frag} {H : Hp} {fv : V} {sd : Addr} {rs : List SRow} {mr : MRow} (h : Fm K H fv sd rs mr) : ∃ q t, fv = .ref q ∧ SqT K H q [.str (SX.S mr.so), .ref t] ∧ SqT K H t (nmV mr.pt) := by
  cases h.f with
  | tup hS hA =>
    cases hA with
    | cons a1 hA =>
      cases hA with
      | cons a2 hA =>
        cases hA
        cases a1
        cases a2 with
        | tup hS2 hA2 =>
          rw [names_of hA2] at hS2
          exact ⟨_, _, rfl, hS, hS2⟩
theorem Fm.get {K : PySem.W.Frag} {H : Hp} {fv : V} {sd : Addr} {rs : List SRow} {mr : MRow} (h : Fm K H fv sd rs mr) {r : SRow} (hr : r ∈ rs) : ∃ (p t1 t2 : Addr), DGet H sd (.str (SX.S r.nm)) (some (.ref p)) ∧ SqT K H p [.ref t1, .ref t2] ∧ SqT K H t1 (nmV r.dn) ∧ SqT K H t2 (nmV r.up) := by
  obtain ⟨skv, h1, h2⟩ := h.t
  obtain ⟨v, e, hd⟩ := h2.val (t := sT r) (by rw [sT_k]; exact h.so.nd) (List.mem_map_of_mem hr)
  have hg := DGet.k (k := kS r.nm) h1
  rw [show kS r.nm = kS (sT r).k from rfl, e] at hg
  cases hd with
  | tup hS hA =>
    cases hA with
    | cons a1 hA =>
      cases hA with
      | cons a2 hA =>
        cases hA
        cases a1 with
        | tup b1 c1 =>
          cases a2 with
          | tup b2 c2 =>
            rw [names_of c1] at b1
            rw [names_of c2] at b2
            exact ⟨_, _, _, hg, hS, b1, b2⟩
theorem sp_at {K : PySem.W.Frag} {H : Hp} {v : V} {p : Nat} {w : List Nat} (h : Dp K H v (En.d (.sp p w))) : ∃ q, v = .ref q ∧ SqT K H q [.str "at", .int (p : Nat), .str (SX.S w)] := by
  cases h with
  | tup hS hA =>
    cases hA with
    | cons a1 hA =>
      cases hA with
      | cons a2 hA =>
        cases hA with
        | cons a3 hA =>
          cases hA
          cases a1
          cases a2
          cases a3
          exact ⟨_, rfl, hS⟩
theorem kp_at {K : PySem.W.Frag} {H : Hp} {v : V} {w : List Nat} (h : Dp K H v (En.d (.kept w))) : ∃ q, v = .ref q ∧ SqT K H q [.str "kept", .str (SX.S w)] := by
  cases h with
  | tup hS hA =>
    cases hA with
    | cons a1 hA =>
      cases hA with
      | cons a2 hA =>
        cases hA
        cases a1
        cases a2
        exact ⟨_, rfl, hS⟩
theorem num_at {K : PySem.W.Frag} {H : Hp} {v : V} {n : Nat} (h : Dp K H v (Od.d (.num n))) : ∃ q, v = .ref q ∧ SqT K H q [.str "number", .int (n : Nat)] := by
  cases h with
  | tup hS hA =>
    cases hA with
    | cons a1 hA =>
      cases hA with
      | cons a2 hA =>
        cases hA
        cases a1
        cases a2
        exact ⟨_, rfl, hS⟩
theorem let_sm {c : Nat} (h : isLet c = true) : c < 128 := by
  unfold isLet at h
  simp only [Bool.and_eq_true, decide_eq_true_eq] at h
  omega
theorem own_sh : SeqAt.shaped (Od.d .own) = true := by decide +kernel
theorem kept_sh {w : List Nat} (h : NmOk w) : SeqAt.shaped (En.d (.kept w)) = true := by
  obtain ⟨h1, h2⟩ := en_lay (e := .kept w) (fun c hc => let_sm (h.1.2.2 c hc))
  unfold SeqAt.shaped
  rw [h1, h2]
  rfl
theorem kept_own (w : List Nat) : PyData.eqv (En.d (.kept w)) (Od.d .own) = false := by
  show ((Str.ofString "kept" == Str.ofString "own") && PyData.eqvAll [strD w] []) = false
  rw [show (Str.ofString "kept" == Str.ofString "own") = false by decide +kernel]
  rfl
def isAtO : Od → Bool
  | .en (.sp _ _) => true
  | _ => false
def spWorthsAt (K : PySem.W.Frag) : Sp := fun vs H Q _ => ∃ (p : Nat) (fv : V) (sd : Addr) (rs : List SRow) (mr : MRow) (r : SRow), vs = [.int p, fv, .ref sd] ∧ Fm K H fv sd rs mr ∧ r ∈ rs ∧ mr.places[p]? = some r.nm ∧
  ∀ (H' : Hp) (q t1 t2 : Addr), Same H H' → SqT K H' q [.ref t1, .ref t2] → SqT K H' t1 (nmV r.dn) → SqT K H' t2 (nmV r.up) → Q (.ref q) H'
def spIsAt (K : PySem.W.Frag) : Sp := fun vs H Q _ => ∃ (v : V) (o : Od), vs = [v] ∧ Dp K H v o.d ∧ Q (.bl (isAtO o)) H
def spIsKept (K : PySem.W.Frag) : Sp := fun vs H Q _ => ∃ (v fv : V) (sd : Addr) (rs : List SRow) (mr : MRow) (w : List Nat), vs = [v, fv, .ref sd] ∧ Dp K H v (En.d (.kept w)) ∧ Fm K H fv sd rs mr ∧ KeptOk rs mr w ∧ ∀ H', Same H H' → Q (.bl true) H'
def spIsTg (K : PySem.W.Frag) : Sp := fun vs H Q _ => ∃ (v fv : V) (sd : Addr) (rs : List SRow) (mr : MRow) (e : En), vs = [v, fv, .ref sd] ∧ Dp K H v e.d ∧ Fm K H fv sd rs mr ∧ TgOk rs mr e ∧ ∀ H', Same H H' → Q (.bl true) H'
def spIsOd (K : PySem.W.Frag) : Sp := fun vs H Q _ => ∃ (v fv : V) (sd : Addr) (rs : List SRow) (mr : MRow) (o : Od), vs = [v, fv, .ref sd] ∧ Dp K H v o.d ∧ Fm K H fv sd rs mr ∧ OdOk rs mr o ∧ ∀ H', Same H H' → Q (.bl true) H'
section
variable {P : Program} {w : World} {K : PySem.W.Frag} {mg : Str → Option Value} {base : Heap} {PD LA : Addr}
theorem ok_worths_at (T : Gb mg) (cis_number : C8.Cal P w K mg base 1 "is_number" (spIsNum K) []) (D : Dd K mg "worths_at" s_worths_at P_worths_at) : C8.Cal P w K mg base 2 "worths_at" (spWorthsAt K) [] := by
  refine D.cal sc_worths_at (fun vs H Q E h => ?_) (fun f cdv A outer s H vs Q E hr h => ?_)
  · obtain ⟨p, fv, sd, rs, mr, r, rfl, _⟩ := h
    rfl
  · obtain ⟨p, fv, sd, rs, mr, r, rfl, fm, hr1, hp, q⟩ := h
    obtain ⟨fq, t, rfl, hf, ht⟩ := fm.at_
    refine ⟨_, (pss_cons (ps_set (i := 3) sc_worths_at.nd rfl (Or.inl rfl) (pe_tup (pa_cons (pe_ix ix_tup (pv 1) pe_int (fun _ _ => rfl)) (StX.pa_star (pe_ix ix_tup (pv 1) pe_int (fun _ _ => rfl)) pa_nil))))
        (pss_cons (ps_if (PW.pt (pw_or (pt_not (pt_val (C8.pe_c cis_number hr (by decide) (by rfl) (pa_cons (pv 0) pa_nil)))) (pw_or1 (pt_cmpR op_ge (pv 0) (pe_callB call_len_seq (by rfl) T.len PySem.boot_len (pa_cons (pv 3) pa_nil)) (nomark _)))))
          (pss_one (ps_ret (pe_tup (pa_cons (pe_tup pa_nil) (pa_cons (pe_tup pa_nil) pa_nil)))))
          pss_nil)
        (pss_one (ps_ret (pe_dget (hu_of hr) (pv 2) (pe_ix ix_tup (pv 3) (pv 0) (fun _ _ => rfl)) (fun _ _ => rfl)))))), ?_⟩
    refine ⟨_, rfl, fq, _, 0, .str (SX.S mr.so), rfl, rfl, hf, atI_nat (j := 0) rfl, ?_⟩
    refine ⟨_, rfl, fq, _, 1, .ref t, rfl, rfl, hf, atI_nat (j := 1) rfl, t, nmV mr.pt, rfl, .inl ht, ?_⟩
    have e4 : V.str (SX.S mr.so) :: (nmV mr.pt ++ []) = nmV mr.places := by
      rw [List.append_nil]
      rfl
    have h2 := fm.mo.p2
    have lpl : mr.places.length ≤ 3 := by
      show mr.pt.length + 1 ≤ 3
      omega
    refine ⟨?_, fun p4 n4 => ?_⟩
    · show (V.str (SX.S mr.so) :: (nmV mr.pt ++ [])).length ≤ _
      rw [e4, nmV_len]
      exact Nat.le_trans lpl (by decide)
    have s4 := same_upd (o := .tup (V.str (SX.S mr.so) :: (nmV mr.pt ++ []))) n4
    have h4 : SqT K (upd H p4 (.tup (V.str (SX.S mr.so) :: (nmV mr.pt ++ [])))) p4 (nmV mr.places) := by
      rw [← e4]
      exact SqT.of upd_same
    have hpl : p < mr.places.length := (List.getElem?_eq_some_iff.mp hp).1
    refine ⟨_, rfl, _, .int p, rfl, .int _, _, rfl, ?_⟩
    refine ifF (by show (!decide ((0 : Int) ≤ (p : Int))) = false; rw [decide_eq_true (by omega)]; rfl) ?_
    refine ⟨_, rfl, _, rfl, p4, _, rfl, .inr h4, _, _, rfl, rfl, _, rfl, ?_⟩
    refine ifF (decide_eq_false (show ¬ ((nmV mr.places).length : Int) ≤ (p : Int) by rw [nmV_len]; omega)) ?_
    obtain ⟨pq, t1, t2, hg, hpq, h1, h2⟩ := (fm.same s4).get hr1
    exact ⟨_, rfl, _, rfl, _, rfl, p4, _, p, .str (SX.S r.nm), rfl, rfl, h4, atI_nat (nmV_at hp), sd, .ref pq, rfl, hg, q _ pq t1 t2 s4 hpq h1 h2⟩
theorem ok_is_at (cis_tuple_of : C8.Cal P w K mg base 1 "is_tuple_of" (spTupOf K) []) (D : Dd K mg "is_at" s_is_at P_is_at) : C8.Cal P w K mg base 2 "is_at" (spIsAt K) [] := by
  refine D.cal sc_is_at (fun vs H Q E h => ?_) (fun f cdv A outer s H vs Q E hr h => ?_)
  · obtain ⟨v, o, rfl, _⟩ := h
    rfl
  · obtain ⟨v, o, rfl, hd, q⟩ := h
    refine ⟨_, (pss_one (ps_ret (pe_and (C8.pe_c cis_tuple_of hr (by decide) (by rfl) (pa_cons (pv 0) (pa_cons pe_int pa_nil))) (pe_one (pe_cmpR op_eq (pe_ix ix_tup (pv 0) pe_int (fun _ _ => rfl)) pe_str (nomark _)))))), ?_⟩
    refine ⟨_, rfl, v, o.d, 3, rfl, hd, _, rfl, ?_⟩
    cases o with
    | own => exact iteF q
    | num n => exact iteF q
    | en e =>
      cases e with
      | kept w => exact iteF q
      | sp p w =>
        obtain ⟨q0, rfl, hq⟩ := sp_at hd
        refine iteT ?_
        exact ⟨_, rfl, q0, _, 0, .str "at", rfl, rfl, hq, atI_nat (j := 0) rfl, rfl, q⟩
theorem ok_is_kept (cis_tuple_of : C8.Cal P w K mg base 1 "is_tuple_of" (spTupOf K) []) (cis_name : C8.Cal P w K mg base 1 "is_name" spNameT []) (D : Dd K mg "is_kept" s_is_kept P_is_kept) : C8.Cal P w K mg base 2 "is_kept" (spIsKept K) [] := by
  refine D.cal sc_is_kept (fun vs H Q E h => ?_) (fun f cdv A outer s H vs Q E hr h => ?_)
  · obtain ⟨v, fv, sd, rs, mr, w, rfl, _⟩ := h
    rfl
  · obtain ⟨v, fv, sd, rs, mr, w, rfl, hd, fm, hk, q⟩ := h
    obtain ⟨fq, t, rfl, hf, ht⟩ := fm.at_
    obtain ⟨q0, rfl, hq⟩ := kp_at hd
    obtain ⟨r, hr1, hrn⟩ := fm.mo.so mr.so (List.mem_cons_self ..)
    obtain ⟨p, t1, t2, hg, hp, h1, h2⟩ := fm.get hr1
    rw [hrn] at hg
    refine ⟨_, (pss_cons (ps_if (PW.pt (pw_or (pt_not (pt_val (C8.pe_c cis_tuple_of hr (by decide) (by rfl) (pa_cons (pv 0) (pa_cons pe_int pa_nil))))) (pw_or1 (pt_cmpR op_ne (pe_ix ix_tup (pv 0) pe_int (fun _ _ => rfl)) pe_str (nomark _)))))
          (pss_one (ps_ret pe_bl))
          pss_nil)
        (pss_cons (ps_asg (pe_dget (hu_of hr) (pv 2) (pe_ix ix_tup (pv 1) pe_int (fun _ _ => rfl)) (fun _ _ => rfl)) (pg_tup rfl (pgs_cons (pg_name (i := 3) sc_is_kept.nd rfl (Or.inl rfl)) (pgs_cons (pg_name (i := 4) sc_is_kept.nd rfl (Or.inl rfl)) pgs_nil))))
        (pss_one (ps_ret (pe_and (C8.pe_c cis_name hr (by decide) (by rfl) (pa_cons (pe_ix ix_tup (pv 0) pe_int (fun _ _ => rfl)) pa_nil)) (pe_one (pe_cmpR op_notIn_seq (pe_ix ix_tup (pv 0) pe_int (fun _ _ => rfl)) (pe_op (r := rCatAny K) op_catAny (pv 3) (pv 4)) (by with_unfolding_all rfl)))))))), ?_⟩
    refine ⟨_, rfl, .ref q0, _, 2, rfl, hd, _, rfl, ifF rfl ?_⟩
    refine ⟨_, rfl, q0, _, 0, .str "kept", rfl, rfl, hq, atI_nat (j := 0) rfl, rfl, _, rfl, ifF rfl ?_⟩
    refine ⟨_, rfl, _, rfl, fq, _, 0, .str (SX.S mr.so), rfl, rfl, hf, atI_nat (j := 0) rfl, sd, .ref p, rfl, hg, ?_⟩
    refine ⟨p, _, rfl, hp, rfl, _, _, rfl, _, _, rfl, rfl, ?_⟩
    refine ⟨_, rfl, q0, _, 1, .str (SX.S w), rfl, rfl, hq, atI_nat (j := 1) rfl, w, rfl, hk.1, fun H1 s1 => ⟨_, rfl, iteT ?_⟩⟩
    have sok := fm.so.ok r hr1
    have hd2 := sok.d2
    have hu2 := sok.u2
    refine ⟨_, rfl, q0, _, 1, .str (SX.S w), rfl, rfl, sqT_s s1 hq, atI_nat (j := 1) rfl, ?_⟩
    refine ⟨_, rfl, _, rfl, t1, t2, nmV r.dn, nmV r.up, rfl, rfl, sqT_s s1 h1, sqT_s s1 h2, by rw [nmV_len, nmV_len]; exact Nat.le_trans (show _ ≤ 4 by omega) (by decide), fun H4 p4 s4 h4 => ?_⟩
    have e4 : nmV r.dn ++ nmV r.up = nmV (r.dn ++ r.up) := by
      unfold nmV
      rw [List.map_append]
    rw [e4] at h4
    refine ⟨p4, _, rfl, .inr h4, rfl, flat_names _, ?_⟩
    show Q (.bl (!inV (.str (SX.S w)) (nmV (r.dn ++ r.up)))) H4
    rw [in_names, decide_eq_false (hk.2 r hr1 hrn)]
    exact q _ (s1.trans s4)
theorem ok_is_target (cis_at : C8.Cal P w K mg base 2 "is_at" (spIsAt K) []) (cis_kept : C8.Cal P w K mg base 2 "is_kept" (spIsKept K) []) (cworths_at : C8.Cal P w K mg base 2 "worths_at" (spWorthsAt K) []) (D : Dd K mg "is_target" s_is_target P_is_target) : C8.Cal P w K mg base 3 "is_target" (spIsTg K) [] := by
  refine D.cal sc_is_target (fun vs H Q E h => ?_) (fun f cdv A outer s H vs Q E hr h => ?_)
  · obtain ⟨v, fv, sd, rs, mr, e, rfl, _⟩ := h
    rfl
  · obtain ⟨v, fv, sd, rs, mr, e, rfl, hd, fm, hk, q⟩ := h
    refine ⟨_, (pss_cons (ps_if (pt_not (pt_val (C8.pe_c cis_at hr (by decide) (by rfl) (pa_cons (pv 0) pa_nil))))
          (pss_one (ps_ret (C8.pe_c cis_kept hr (by decide) (by rfl) (pa_cons (pv 0) (pa_cons (pv 1) (pa_cons (pv 2) pa_nil))))))
          pss_nil)
        (pss_cons (ps_asg (C8.pe_c cworths_at hr (by decide) (by rfl) (pa_cons (pe_ix ix_tup (pv 0) pe_int (fun _ _ => rfl)) (pa_cons (pv 1) (pa_cons (pv 2) pa_nil)))) (pg_tup rfl (pgs_cons (pg_name (i := 3) sc_is_target.nd rfl (Or.inl rfl)) (pgs_cons (pg_name (i := 4) sc_is_target.nd rfl (Or.inl rfl)) pgs_nil))))
        (pss_one (ps_ret (pe_cmpR op_in_seq (pe_ix ix_tup (pv 0) pe_int (fun _ _ => rfl)) (pe_ifExp (pt_cmpR op_eq (pe_ix ix_tup (pv 0) pe_int (fun _ _ => rfl)) pe_int (nomark _)) (pv 4) (pv 3)) (by with_unfolding_all rfl)))))), ?_⟩
    refine ⟨_, rfl, v, .en e, rfl, hd, _, rfl, ?_⟩
    cases e with
    | kept w =>
      refine iteT ?_
      exact ⟨_, rfl, _, rfl, _, rfl, v, fv, sd, rs, mr, w, rfl, hd, fm, hk, q⟩
    | sp p w =>
      refine iteF ?_
      obtain ⟨q0, rfl, hq⟩ := sp_at hd
      obtain ⟨k, r, hpk, hr1, rfl, hw⟩ := hk
      refine ⟨_, rfl, q0, _, 1, .int (p : Nat), rfl, rfl, hq, atI_nat (j := 1) rfl, _, rfl, _, rfl, p, fv, sd, rs, mr, r, rfl, fm, hr1, hpk, fun H1 q1 t1 t2 s1 hq1 ht1 ht2 => ?_⟩
      refine ⟨q1, _, rfl, hq1, rfl, _, _, rfl, _, _, rfl, rfl, ?_⟩
      refine ⟨_, rfl, q0, _, 2, .str (SX.S w), rfl, rfl, sqT_s s1 hq, atI_nat (j := 2) rfl, ?_⟩
      refine ⟨_, rfl, q0, _, 1, .int (p : Nat), rfl, rfl, sqT_s s1 hq, atI_nat (j := 1) rfl, rfl, _, rfl, ?_⟩
      by_cases hp : p = 0
      · subst hp
        refine ifT rfl ?_
        refine ⟨_, rfl, t2, _, rfl, .inr ht2, rfl, flat_names _, ?_⟩
        show Q (.bl (inV (.str (SX.S w)) (nmV r.up))) H1
        rw [in_names, decide_eq_true (show w ∈ r.up from hw)]
        exact q _ s1
      · refine ifF (decide_eq_false (fun z => hp (by have := V.int.inj z; omega))) ?_
        refine ⟨_, rfl, t1, _, rfl, .inr ht1, rfl, flat_names _, ?_⟩
        show Q (.bl (inV (.str (SX.S w)) (nmV r.dn))) H1
        rw [decide_eq_false hp] at hw
        rw [in_names, decide_eq_true (show w ∈ r.dn from hw)]
        exact q _ s1
theorem ok_is_operand (cis_at : C8.Cal P w K mg base 2 "is_at" (spIsAt K) []) (cis_kept : C8.Cal P w K mg base 2 "is_kept" (spIsKept K) []) (cworths_at : C8.Cal P w K mg base 2 "worths_at" (spWorthsAt K) []) (cis_tuple_of : C8.Cal P w K mg base 1 "is_tuple_of" (spTupOf K) []) (cis_worth : C8.Cal P w K mg base 2 "is_worth" (spWorth K) []) (D : Dd K mg "is_operand" s_is_operand P_is_operand) : C8.Cal P w K mg base 3 "is_operand" (spIsOd K) [] := by
  refine D.cal sc_is_operand (fun vs H Q E h => ?_) (fun f cdv A outer s H vs Q E hr h => ?_)
  · obtain ⟨v, fv, sd, rs, mr, o, rfl, _⟩ := h
    rfl
  · obtain ⟨v, fv, sd, rs, mr, o, rfl, hd, fm, hk, q⟩ := h
    refine ⟨_, (pss_cons (ps_if (pt_val (C8.pe_c cis_at hr (by decide) (by rfl) (pa_cons (pv 0) pa_nil)))
          (pss_cons (ps_asg (C8.pe_c cworths_at hr (by decide) (by rfl) (pa_cons (pe_ix ix_tup (pv 0) pe_int (fun _ _ => rfl)) (pa_cons (pv 1) (pa_cons (pv 2) pa_nil)))) (pg_tup rfl (pgs_cons (pg_name (i := 3) sc_is_operand.nd rfl (Or.inl rfl)) (pgs_cons (pg_name (i := 4) sc_is_operand.nd rfl (Or.inl rfl)) pgs_nil))))
        (pss_one (ps_ret (pe_cmpR op_in_seq (pe_ix ix_tup (pv 0) pe_int (fun _ _ => rfl)) (pe_ifExp (pt_cmpR op_eq (pe_ix ix_tup (pv 0) pe_int (fun _ _ => rfl)) pe_int (nomark _)) (pv 3) (pv 4)) (by with_unfolding_all rfl)))))
          pss_nil)
        (pss_cons (ps_if (PW.pt (pw_and (pt_val (C8.pe_c cis_tuple_of hr (by decide) (by rfl) (pa_cons (pv 0) (pa_cons pe_int pa_nil)))) (pw_and1 (pt_cmpR op_eq (pe_ix ix_tup (pv 0) pe_int (fun _ _ => rfl)) pe_str (nomark _)))))
          (pss_one (ps_ret (C8.pe_c cis_worth hr (by decide) (by rfl) (pa_cons (pe_ix ix_tup (pv 0) pe_int (fun _ _ => rfl)) pa_nil))))
          pss_nil)
        (pss_one (ps_ret (pe_or (pe_cmpR (op_eqD hr.units) (pv 0) (pe_tup (pa_cons pe_str pa_nil)) (nomark _)) (pe_one (C8.pe_c cis_kept hr (by decide) (by rfl) (pa_cons (pv 0) (pa_cons (pv 1) (pa_cons (pv 2) pa_nil)))))))))), ?_⟩
    refine ⟨_, rfl, v, o, rfl, hd, _, rfl, ?_⟩
    cases o with
    | own =>
      refine iteF ?_
      refine ⟨_, rfl, v, _, 2, rfl, hd, _, rfl, ifF rfl ?_⟩
      refine ⟨_, rfl, by show 1 ≤ sizeLine; decide, fun p n => ?_⟩
      have s1 := same_upd (o := .tup [.str "own"]) n
      refine ⟨Od.d .own, Od.d .own, dp_same s1 hd, .tup (SqT.of upd_same) (.cons (.str _) .nil), own_sh, own_sh, _, rfl, ?_⟩
      rw [SeqAt.eqv_refl _ (SeqAt.canLay_of_shaped own_sh)]
      exact iteT (q _ s1)
    | num n =>
      refine iteF ?_
      obtain ⟨q0, rfl, hq⟩ := num_at hd
      refine ⟨_, rfl, .ref q0, _, 2, rfl, hd, _, rfl, ifT rfl ?_⟩
      refine ⟨_, rfl, q0, _, 0, .str "number", rfl, rfl, hq, atI_nat (j := 0) rfl, rfl, _, rfl, ifT rfl ?_⟩
      refine ⟨_, rfl, q0, _, 1, .int (n : Nat), rfl, rfl, hq, atI_nat (j := 1) rfl, _, .int (n : Nat), rfl, .int _, ?_⟩
      have e : worthB (.int (n : Nat)) = true := by
        show (decide ((0 : Int) ≤ (n : Int)) && decide ((n : Int) < 1000000)) = true
        have hk : n < 1000000 := hk
        rw [decide_eq_true (by omega), decide_eq_true (by omega)]
        rfl
      rw [e]
      exact q _ (Same.refl H)
    | en e =>
      cases e with
      | kept w =>
        refine iteF ?_
        obtain ⟨q0, rfl, hq⟩ := kp_at hd
        refine ⟨_, rfl, .ref q0, _, 2, rfl, hd, _, rfl, ifT rfl ?_⟩
        refine ⟨_, rfl, q0, _, 0, .str "kept", rfl, rfl, hq, atI_nat (j := 0) rfl, rfl, _, rfl, ifF rfl ?_⟩
        refine ⟨_, rfl, by show 1 ≤ sizeLine; decide, fun p n => ?_⟩
        have s1 := same_upd (o := .tup [.str "own"]) n
        refine ⟨En.d (.kept w), Od.d .own, dp_same s1 hd, .tup (SqT.of upd_same) (.cons (.str _) .nil), kept_sh hk.1, own_sh, _, rfl, ?_⟩
        rw [show PyData.eqv (En.d (.kept w)) (Od.d .own) = false from kept_own w]
        refine iteF ?_
        exact ⟨_, rfl, _, rfl, _, rfl, .ref q0, fv, sd, rs, mr, w, rfl, dp_same s1 hd, fm.same s1, hk, fun H' s' => q _ (s1.trans s')⟩
      | sp p w =>
        refine iteT ?_
        obtain ⟨q0, rfl, hq⟩ := sp_at hd
        obtain ⟨k, r, hpk, hr1, rfl, hw⟩ := hk
        refine ⟨_, rfl, q0, _, 1, .int (p : Nat), rfl, rfl, hq, atI_nat (j := 1) rfl, _, rfl, _, rfl, p, fv, sd, rs, mr, r, rfl, fm, hr1, hpk, fun H1 q1 t1 t2 s1 hq1 ht1 ht2 => ?_⟩
        refine ⟨q1, _, rfl, hq1, rfl, _, _, rfl, _, _, rfl, rfl, ?_⟩
        refine ⟨_, rfl, q0, _, 2, .str (SX.S w), rfl, rfl, sqT_s s1 hq, atI_nat (j := 2) rfl, ?_⟩
        refine ⟨_, rfl, q0, _, 1, .int (p : Nat), rfl, rfl, sqT_s s1 hq, atI_nat (j := 1) rfl, rfl, _, rfl, ?_⟩
        by_cases hp : p = 0
        · subst hp
          refine ifT rfl ?_
          refine ⟨_, rfl, t1, _, rfl, .inr ht1, rfl, flat_names _, ?_⟩
          show Q (.bl (inV (.str (SX.S w)) (nmV r.dn))) H1
          rw [in_names, decide_eq_true (show w ∈ r.dn from hw)]
          exact q _ s1
        · refine ifF (decide_eq_false (fun z => hp (by have := V.int.inj z; omega))) ?_
          refine ⟨_, rfl, t2, _, rfl, .inr ht2, rfl, flat_names _, ?_⟩
          show Q (.bl (inV (.str (SX.S w)) (nmV r.up))) H1
          rw [decide_eq_false hp] at hw
          rw [in_names, decide_eq_true (show w ∈ r.up from hw)]
          exact q _ s1
end
abbrev s_kept_by : Stmt := top 36
abbrev N_kept_by : List Str := ["making", "rules", "terms", "whose", "target", "term"]
abbrev P_kept_by : List Str := ["making", "rules"]
theorem sc_kept_by : FnScope N_kept_by P_kept_by (defScope s_kept_by) := ⟨rfl, rfl, rfl, by decide +kernel, rfl, by decide +kernel, by decide +kernel⟩
theorem hu9 {n : Nat} (h : n + 65 < cLine) : n + 9 < cLine := by omega
/-! ### the table of rules -/
def RRow.kd (r : RRow) : PyData := .tuple [strD r.ma, r.tg.d]
def RRow.vd (r : RRow) : PyData := .tuple [strD r.op, .tuple (r.os.map Od.d)]
theorem RRow.kd_imm (r : RRow) : Thr.imm r.kd = true := by
  show (true && (Thr.imm r.tg.d && true)) = true
  rw [r.tg.imm]
  rfl
theorem RRow.vd_imm (r : RRow) : Thr.imm r.vd = true := by
  show (true && (immAll (r.os.map Od.d) && true)) = true
  rw [immAll_map Od.imm]
  rfl
theorem en_key {e e' : En} (h : keyD e.d = keyD e'.d) : e = e' := by
  cases e with
  | sp p w =>
    cases e' with
    | sp p' w' =>
      have h1 : NestedKey.tup [.text "at", .num (p : Int), .text (SX.S w)] = NestedKey.tup [.text "at", .num (p' : Int), .text (SX.S w')] := h
      simp only [NestedKey.tup.injEq, List.cons.injEq, NestedKey.num.injEq, NestedKey.text.injEq, and_true, true_and] at h1
      rw [SX.S_inj h1.2, Int.ofNat.inj h1.1]
    | kept w' =>
      have h1 : NestedKey.tup [.text "at", .num (p : Int), .text (SX.S w)] = NestedKey.tup [.text "kept", .text (SX.S w')] := h
      simp at h1
  | kept w =>
    cases e' with
    | sp p' w' =>
      have h1 : NestedKey.tup [.text "kept", .text (SX.S w)] = NestedKey.tup [.text "at", .num (p' : Int), .text (SX.S w')] := h
      simp at h1
    | kept w' =>
      have h1 : NestedKey.tup [.text "kept", .text (SX.S w)] = NestedKey.tup [.text "kept", .text (SX.S w')] := h
      simp only [NestedKey.tup.injEq, List.cons.injEq, NestedKey.text.injEq, and_true, true_and] at h1
      rw [SX.S_inj h1]
theorem kd_inj {ma ma' : List Nat} {e e' : En} (h : keyD (.tuple [strD ma, e.d]) = keyD (.tuple [strD ma', e'.d])) : ma = ma' ∧ e = e' := by
  have h1 : NestedKey.tup [.text (SX.S ma), keyD e.d] = NestedKey.tup [.text (SX.S ma'), keyD e'.d] := h
  simp only [NestedKey.tup.injEq, List.cons.injEq, NestedKey.text.injEq, and_true] at h1
  exact ⟨SX.S_inj h1.1, en_key h1.2⟩
def RPr (K : PySem.W.Frag) (H : Hp) (kvs : List NE) (ru : List RRow) : Prop := Paired (fun p r => p.1 = keyD r.kd ∧ Dp K H (.ref p.2.1) r.kd ∧ Dp K H p.2.2 r.vd) kvs ru
theorem RPr.keys {K : PySem.W.Frag} {H : Hp} : ∀ {kvs : List NE} {ru : List RRow}, RPr K H kvs ru → KeysN K H kvs
  | _, _, .nil => KeysN.nil
  | _, _, .cons (b := r) a h => fun p hp => by
    rcases List.mem_cons.mp hp with rfl | hp
    · exact ⟨r.kd, a.1, a.2.1, r.kd_imm, key_depth _ _⟩
    · exact RPr.keys h p hp
theorem RPr.keep {K : PySem.W.Frag} {H H' : Hp} (k : KeepT H H') {kvs : List NE} {ru : List RRow} (h : RPr K H kvs ru) : RPr K H' kvs ru :=
  paired_mono (fun _ r a => ⟨a.1, dp_imm k a.2.1 r.kd_imm, dp_imm k a.2.2 r.vd_imm⟩) h
theorem RPr.none {K : PySem.W.Frag} {H : Hp} {ma : List Nat} {e : En} : ∀ {kvs : List NE} {ru : List RRow}, RPr K H kvs ru → (∀ r ∈ ru, r.ma = ma → r.tg ≠ e) → valN kvs (keyD (.tuple [strD ma, e.d])) = Option.none
  | _, _, .nil, _ => rfl
  | _, _, .cons (a := p) (b := r) a h, hn => by
    show (if p.1 = _ then some p.2.2 else valN _ _) = Option.none
    rw [if_neg, RPr.none h fun r' hr' => hn r' (List.mem_cons_of_mem _ hr')]
    intro z
    obtain ⟨z1, z2⟩ := kd_inj (a.1.symm.trans z)
    exact hn r (List.mem_cons_self ..) z1 z2
/-- rules of one making have unlike targets -/
def RuNd (ru : List RRow) : Prop := ru.Pairwise fun r r' => r.ma = r'.ma → r.tg ≠ r'.tg
theorem RPr.val {K : PySem.W.Frag} {H : Hp} {r : RRow} : ∀ {kvs : List NE} {ru : List RRow}, RPr K H kvs ru → RuNd ru → r ∈ ru → ∃ v, valN kvs (keyD r.kd) = some v ∧ Dp K H v r.vd
  | _, _, .nil, _, h => nomatch h
  | _, _, .cons (a := p) (b := r0) a h, hn, hm => by
    unfold RuNd at hn
    rw [List.pairwise_cons] at hn
    rcases List.mem_cons.mp hm with rfl | hm
    · exact ⟨p.2.2, if_pos a.1, a.2.2⟩
    · obtain ⟨v, e, hd⟩ := RPr.val h hn.2 hm
      refine ⟨v, ?_, hd⟩
      show (if p.1 = _ then some p.2.2 else valN _ _) = some v
      rw [if_neg, e]
      intro z
      obtain ⟨z1, z2⟩ := kd_inj (a.1.symm.trans z)
      exact hn.1 r hm z1 z2
theorem RPr.at_ {K : PySem.W.Frag} {H : Hp} {p : NE} : ∀ {kvs : List NE} {ru : List RRow} {i : Nat}, RPr K H kvs ru → kvs[i]? = some p → ∃ r, ru[i]? = some r ∧ Dp K H (.ref p.2.1) r.kd
  | _, _, _, .nil, h => by cases h
  | _, _, 0, .cons (b := r) a _, h => by
    cases h
    exact ⟨r, rfl, a.2.1⟩
  | _, _, i + 1, .cons _ rr, h => by
    obtain ⟨r, e, hd⟩ := RPr.at_ (i := i) rr h
    exact ⟨r, e, hd⟩
/-- what a rule names -/
def rOds (r : RRow) : List Od := .en r.tg :: r.os
def odsOf (m : List Nat) (ru : List RRow) : List Od := (ru.filter fun r => decide (r.ma = m)).flatMap rOds
def keptNames (m : List Nat) (ru : List RRow) : List (List Nat) := (odsOf m ru).flatMap odName
theorem odsOf_snoc (m : List Nat) (ru : List RRow) (r : RRow) : odsOf m (ru ++ [r]) = odsOf m ru ++ (if r.ma = m then rOds r else []) := by
  unfold odsOf
  rw [List.filter_append, List.flatMap_append]
  by_cases h : r.ma = m
  · rw [if_pos h]
    simp [h]
  · rw [if_neg h]
    simp [h]
theorem kd_at {K : PySem.W.Frag} {H : Hp} {b : Addr} {r : RRow} (h : Dp K H (.ref b) r.kd) : ∃ v, SqT K H b [.str (SX.S r.ma), v] ∧ Dp K H v r.tg.d := by
  cases h with
  | tup hS hA =>
    cases hA with
    | cons a1 hA =>
      cases hA with
      | cons a2 hA =>
        cases hA
        cases a1
        exact ⟨_, hS, a2⟩
theorem vd_at {K : PySem.W.Frag} {H : Hp} {v : V} {r : RRow} (h : Dp K H v r.vd) : ∃ q t us, v = .ref q ∧ SqT K H q [.str (SX.S r.op), .ref t] ∧ SqT K H t us ∧ DpAll K H us (r.os.map Od.d) := by
  cases h with
  | tup hS hA =>
    cases hA with
    | cons a1 hA =>
      cases hA with
      | cons a2 hA =>
        cases hA
        cases a1
        cases a2 with
        | tup hS2 hA2 => exact ⟨_, _, _, rfl, hS, hS2, hA2⟩
theorem KeepT.ext {P : Program} {w : World} {H Y : Hp} {rd : Addr} {kvs : List NE} (hrd : H rd = some (dnO P w rd kvs)) (b : But rd H Y) : KeepT H Y := fun c o ht hc => b c o (fun z => by
  rw [z, hrd] at hc
  have hc := Option.some.inj hc
  subst hc
  rcases ht with ⟨_, e⟩ | ⟨_, _, e⟩
  · cases e
  · cases e) hc
theorem ods_len {m : List Nat} {ru : List RRow} (h : ∀ r ∈ ru, r.os.length ≤ 3) : ∀ j, (odsOf m (ru.take j)).length ≤ 4 * j := fun j => by
  induction j with
  | zero => exact Nat.le_refl _
  | succ j ih =>
    rw [List.take_add_one]
    cases e : ru[j]? with
    | none =>
      rw [Option.toList_none, List.append_nil]
      omega
    | some r =>
      have := h r (List.mem_of_getElem? e)
      rw [Option.toList_some, odsOf_snoc, List.length_append]
      split
      · show _ + (r.os.length + 1) ≤ _
        omega
      · show _ + 0 ≤ _
        omega
theorem names_len : ∀ os : List Od, (os.flatMap odName).length ≤ os.length
  | [] => Nat.le_refl _
  | o :: os => by
    rw [List.flatMap_cons, List.length_append, List.length_cons]
    have := names_len os
    have h1 : (odName o).length ≤ 1 := by
      cases o with
      | own => exact Nat.zero_le _
      | num n => exact Nat.zero_le _
      | en e =>
        cases e with
        | sp p w => exact Nat.zero_le _
        | kept w => exact Nat.le_refl _
    omega
def spKeptBy (K : PySem.W.Frag) (P : Program) (w : World) : Sp := fun vs H Q _ => ∃ (m : List Nat) (rd : Addr) (kvs : List NE) (ru : List RRow), vs = [.str (SX.S m), .ref rd] ∧ H rd = some (dnO P w rd kvs) ∧ RPr K H kvs ru ∧ RuNd ru ∧ ru.length ≤ 240 ∧ (∀ r ∈ ru, r.os.length ≤ 3) ∧ (gotTx ((keptNames m ru).map SX.S)).length < 64 ∧
  ∀ (H' : Hp) (l : Addr) (ys : List Str), Same H H' → H l = none → H' l = some (.lst (ys.map V.str)) → ys.Perm (gotTx ((keptNames m ru).map SX.S)) → sortedS ys = true → Q (.ref l) H'
section
variable {P : Program} {w : World} {K : PySem.W.Frag} {mg : Str → Option Value} {base : Heap} {PD LA : Addr}
theorem ok_kept_by (T : Gb mg) (D : Dd K mg "kept_by" s_kept_by P_kept_by) : C8.Cal P w K mg base 1 "kept_by" (spKeptBy K P w) [] := by
  refine D.cal sc_kept_by (fun vs H Q E h => ?_) (fun f cdv A outer s H vs Q E hr h => ?_)
  · obtain ⟨m, rd, kvs, ru, rfl, _⟩ := h
    rfl
  · obtain ⟨m, rd, kvs, ru, rfl, hrd, hpr, hnd, hle, hos, hfew, q⟩ := h
    refine ⟨_, (pss_cons (ps_set (i := 2) sc_kept_by.nd rfl (Or.inl rfl) (pe_lst pa_nil))
        (pss_cons (ps_lock (ps_for PassesOwn.never rfl (pi_keysN (pv 1)) (pg_tup rfl (pgs_cons (pg_name (i := 3) sc_kept_by.nd rfl (Or.inl rfl)) (pgs_cons (pg_name (i := 4) sc_kept_by.nd rfl (Or.inl rfl)) pgs_nil)))
          (pss_one (ps_if (pt_cmpR op_eq (pv 3) (pv 0) (nomark _))
          (pss_cons (ps_expr (pe_bm PySem.F.plainAttrs_list PySem.F.slot_list_append PySem.F.type_list_append mt_append (pv 2) (pa_cons (pv 4) pa_nil)))
        (pss_one (ps_expr (pe_bm PySem.F.plainAttrs_list PySem.F.slot_list_extend PySem.F.type_list_extend mt_extendT (pv 2) (pa_cons (pe_ix (r := rIxT K) ix_tup (pe_dgetN (hu9 (hu65 hr)) (pv 1) (pe_tup (pa_cons (pv 3) (pa_cons (pv 4) pa_nil))) (fun _ _ => rfl)) pe_int (fun _ _ => rfl)) pa_nil)))))
          pss_nil))))
        (pss_one (ps_ret (pe_callB (cr_sortTx rfl) (by rfl) T.sorted (by decide +kernel) (pa_cons (pe_callTy (cr_setTx rfl) (by rfl) T.set (by decide +kernel) (pa_cons (pe_lc (own := [("term", 5)]) (by exact rfl) sc_kept_by.nd (pi_list (pv 2)) (blkOk_by (own := [("term", 5)]) (N := N_kept_by) (sc := defScope s_kept_by) (by decide +kernel)) (fun _ _ _ _ _ => (pg_name (i := 5) sc_kept_by.nd rfl (Or.inl rfl))) (fun _ _ _ _ _ => (pts_one (pt_cmpR op_eq (pe_ix (r := rIxT K) ix_tup (pv 5) pe_int (fun _ _ => rfl)) pe_str (nomark _)))) (fun _ _ _ _ _ => (pe_ix (r := rIxT K) ix_tup (pv 5) pe_int (fun _ _ => rfl)))) pa_nil)) pa_nil)))))), ?_⟩
    refine ⟨by show 0 ≤ sizeLine; decide, fun l nl => ?_⟩
    have s1 := same_upd (o := .lst []) nl
    have nlr : l ≠ rd := fun z => by
      rw [z, hrd] at nl
      cases nl
    have lk : kvs.length = ru.length := paired_len hpr
    have olen : ∀ j, (odsOf m (ru.take j)).length ≤ 4 * j := ods_len hos
    refine ⟨rd, dnO P w rd kvs, s1 _ _ hrd, trivial, fun od => ?_⟩
    refine ⟨_, rfl, rd, od, kvs, rfl, upd_same, ?_⟩
    refine for_it walk_keysN (fun j σ Y => ∃ (y3 y4 y5 : Option V) (tv : List V), σ = [some (.str (SX.S m)), some (.ref rd), some (.ref l), y3, y4, y5] ∧ Y rd = some (.frz od (dnO P w rd kvs)) ∧ But rd H Y ∧ Y l = some (.lst tv) ∧ DpAll K H tv ((odsOf m (ru.take j)).map Od.d))
      ⟨none, none, none, [], rfl, upd_same, fun b o nb hb => by rw [upd_ne nb]; exact s1 _ _ hb, by rw [upd_ne nlr]; exact upd_same, .nil⟩ (fun j σ Y _ ⟨_, _, _, _, _, h, _⟩ => h) ?_ ?_
    · rintro j v σ Y0 Y hj ⟨y3, y4, y5, tv, rfl, hfz, bt, hl, hd⟩ ⟨rfl, p, hp, rfl⟩
      obtain ⟨r, hr1, hk⟩ := hpr.at_ hp
      have kH := KeepT.ext hrd bt
      obtain ⟨tgv, hS, htg⟩ := kd_at hk
      have tk : ru.take (j + 1) = ru.take j ++ [r] := by rw [List.take_add_one, hr1]; rfl
      have ltv := dpAll_len hd
      rw [List.length_map] at ltv
      have ol := olen j
      have hjr : j < ru.length := (List.getElem?_eq_some_iff.mp hr1).1
      refine ⟨p.2.1, _, rfl, kH.seqT hS, rfl, _, _, rfl, _, _, rfl, rfl, ?_⟩
      refine ⟨_, rfl, _, rfl, rfl, _, rfl, ?_⟩
      by_cases hm : r.ma = m
      · refine ifT (decide_eq_true (by rw [hm])) ?_
        obtain ⟨vv, hv, hvd⟩ := hpr.val hnd (List.mem_of_getElem? hr1)
        obtain ⟨q0, t, us, rfl, hq0, ht, hus⟩ := vd_at hvd
        have lus := dpAll_len hus
        rw [List.length_map] at lus
        have h3 := hos r (List.mem_of_getElem? hr1)
        refine ⟨_, rfl, .inl ⟨rfl, _, SqL.of hl⟩, ?_⟩
        refine ⟨_, rfl, l, tv, tgv, rfl, rfl, hl, small1000 (by omega), ?_⟩
        refine ⟨_, rfl, .inl ⟨rfl, _, SqL.of upd_same⟩, ?_⟩
        have btA : But rd H (upd Y l (.lst (tv ++ [tgv]))) := fun b o nb hb => by
          rw [upd_ne (ne_of_none hb nl)]
          exact bt b o nb hb
        refine ⟨_, rfl, _, rfl, _, rfl, by show 2 ≤ sizeLine; decide, fun b nb => ?_⟩
        have btB : But rd H (upd (upd Y l (.lst (tv ++ [tgv]))) b (.tup [.str (SX.S r.ma), tgv])) := fun c o nc hc => by
          rw [upd_ne (ne_of_none (btA c o nc hc) nb)]
          exact btA c o nc hc
        have nbl : l ≠ b := fun z => by
          rw [← z, upd_same] at nb
          cases nb
        have nbr : rd ≠ b := fun z => by
          rw [← z, upd_ne (Ne.symm nlr), hfz] at nb
          cases nb
        have kB := KeepT.ext hrd btB
        refine ⟨rd, b, kvs, r.kd, .ref q0, rfl, .inr ⟨od, by rw [upd_ne nbr, upd_ne (Ne.symm nlr)]; exact hfz⟩, hpr.keys.keep kB, ⟨rfl, .tup (SqT.of upd_same) (.cons (.str _) (.cons (dp_imm kB htg r.tg.imm) .nil)), r.kd_imm, key_depth _ _⟩, hv, ?_⟩
        refine ⟨q0, _, 1, .ref t, rfl, rfl, kB.seqT hq0, atI_nat (j := 1) rfl, ?_⟩
        refine ⟨l, t, tv ++ [tgv], us, rfl, rfl, by rw [upd_ne nbl]; exact upd_same, kB.seqT ht, by rw [List.length_append, List.length_singleton]; exact Nat.le_of_lt (small1000 (by omega)), ?_⟩
        refine ⟨_, _, _, _, rfl, ?_, ?_, upd_same, ?_⟩
        · rw [upd_ne (Ne.symm nlr), upd_ne nbr, upd_ne (Ne.symm nlr)]
          exact hfz
        · intro c o nc hc
          rw [upd_ne (ne_of_none hc nl)]
          exact btB c o nc hc
        · rw [tk, odsOf_snoc, if_pos hm, List.map_append, List.append_assoc]
          exact dpAll_appI hd (.cons htg hus)
      · refine ifF (decide_eq_false (fun z => hm (SX.S_inj (V.str.inj z)))) ?_
        refine ⟨_, _, _, tv, rfl, hfz, bt, hl, ?_⟩
        rw [tk, odsOf_snoc, if_neg hm, List.append_nil]
        exact hd
    · rintro σ Y ⟨y3, y4, y5, tv, rfl, hfz, bt, hl, hd⟩
      refine ⟨hfz, ?_⟩
      rw [lk, List.take_length] at hd
      have sZ : Same H (upd Y rd (dnO P w rd kvs)) := fun b o hb => by
        by_cases z : b = rd
        · rw [z, upd_same, ← hrd, ← z]
          exact hb
        · rw [upd_ne z]
          exact bt b o z hb
      have hlZ : (upd Y rd (dnO P w rd kvs)) l = some (.lst tv) := by
        rw [upd_ne nlr]
        exact hl
      obtain ⟨Z, eZ⟩ : ∃ Z, Z = upd Y rd (dnO P w rd kvs) := ⟨_, rfl⟩
      rw [← eZ] at sZ hlZ ⊢
      clear eZ hl bt hfz
      have ltv := dpAll_len hd
      rw [List.length_map] at ltv
      have ol := olen ru.length
      rw [List.take_length] at ol
      refine ⟨_, rfl, l, rfl, ⟨_, SqL.of hlZ⟩, fun D nD => ?_⟩
      refine lc_list (K := K) (a := l) (xs := tv) (fun j U => Same Z U ∧ U D = some (.lst (((((odsOf m ru).take j).flatMap odName).map SX.S).map V.str))) ⟨same_upd nD, upd_same⟩ (fun j U _ h => SqL.of (h.1 _ _ hlZ)) ?_ ?_
      · rintro j x U hx ⟨sU, hD⟩
        obtain ⟨o, ho, hxd⟩ := row_of hd hx
        have hxU := dp_same (sZ.trans sU) hxd
        have tk : (odsOf m ru).take (j + 1) = (odsOf m ru).take j ++ [o] := by rw [List.take_add_one, ho]; rfl
        have hj : j < (odsOf m ru).length := (List.getElem?_eq_some_iff.mp ho).1
        have small : ((((odsOf m ru).take j).flatMap odName).map SX.S).length ≤ 4 * 240 := by
          rw [List.length_map]
          refine Nat.le_trans (names_len _) ?_
          rw [List.length_take]
          omega
        refine ⟨rfl, ?_⟩
        rw [tk, List.flatMap_append, List.map_append, List.map_append]
        cases o with
        | own =>
          cases hxU with
          | tup hS hA =>
            cases hA with
            | cons a1 hA =>
              cases hA
              cases a1
              refine ⟨_, rfl, _, _, 0, .str "own", rfl, rfl, hS, atI_nat (j := 0) rfl, rfl, _, rfl, ifF (by decide +kernel) ⟨sU, ?_⟩⟩
              rw [show (List.flatMap odName [Od.own]) = [] from rfl, List.map_nil, List.map_nil, List.append_nil]
              exact hD
        | num n =>
          obtain ⟨q0, rfl, hq⟩ := num_at hxU
          refine ⟨_, rfl, q0, _, 0, .str "number", rfl, rfl, hq, atI_nat (j := 0) rfl, rfl, _, rfl, ifF (by decide +kernel) ⟨sU, ?_⟩⟩
          rw [show (List.flatMap odName [Od.num n]) = [] from rfl, List.map_nil, List.map_nil, List.append_nil]
          exact hD
        | en e =>
          cases e with
          | sp p w =>
            obtain ⟨q0, rfl, hq⟩ := sp_at hxU
            refine ⟨_, rfl, q0, _, 0, .str "at", rfl, rfl, hq, atI_nat (j := 0) rfl, rfl, _, rfl, ifF (by decide +kernel) ⟨sU, ?_⟩⟩
            rw [show (List.flatMap odName [Od.en (.sp p w)]) = [] from rfl, List.map_nil, List.map_nil, List.append_nil]
            exact hD
          | kept w =>
            obtain ⟨q0, rfl, hq⟩ := kp_at hxU
            refine ⟨_, rfl, q0, _, 0, .str "kept", rfl, rfl, hq, atI_nat (j := 0) rfl, rfl, _, rfl, ifT rfl ?_⟩
            refine ⟨_, rfl, q0, _, 1, .str (SX.S w), rfl, rfl, hq, atI_nat (j := 1) rfl, ?_⟩
            refine ⟨_, hD, small1000 (by rw [List.length_map]; omega), Same.at_ sU nD, ?_⟩
            rw [upd_same]
            rfl
      · rintro U ⟨sU, hD⟩
        rw [ltv, List.take_length] at hD
        have few : (keptNames m ru).length ≤ 1000 := by
          refine Nat.le_trans (names_len _) ?_
          omega
        refine ⟨D, (keptNames m ru).map SX.S, rfl, .inl (SqL.of hD), by rw [List.length_map]; exact few, fun p np => ?_⟩
        refine ⟨p, _, rfl, upd_same, hfew, fun ys p2 hys hso np2 => ?_⟩
        have sA := sZ.trans (sU.trans (same_upd (o := setTxO w p (gotTx ((keptNames m ru).map SX.S))) np))
        exact q _ p2 ys (sA.trans (same_upd np2)) (sA.free np2) upd_same hys hso
end
abbrev s_rule_is_so : Stmt := top 37
abbrev N_rule_is_so : List Str := ["row", "makings", "sorts", "cap", "making", "target", "op", "operands", "form", "operand"]
abbrev P_rule_is_so : List Str := ["row", "makings", "sorts", "cap"]
theorem sc_rule_is_so : FnScope N_rule_is_so P_rule_is_so (defScope s_rule_is_so) := ⟨rfl, rfl, rfl, by decide +kernel, rfl, by decide +kernel, by decide +kernel⟩
abbrev s_rules_in : Stmt := top 38
abbrev N_rules_in : List Str := ["rows", "makings", "sorts", "cap", "rules", "number", "row"]
abbrev P_rules_in : List Str := ["rows", "makings", "sorts", "cap"]
theorem sc_rules_in : FnScope N_rules_in P_rules_in (defScope s_rules_in) := ⟨rfl, rfl, rfl, by decide +kernel, rfl, by decide +kernel, by decide +kernel⟩
/-- the two tables -/
structure Tbs (K : PySem.W.Frag) (H : Hp) (md sd : Addr) (rs : List SRow) (ms : List MRow) : Prop where
  m : ∃ kvs, H md = some (.dK kvs) ∧ Tab K H kvs (ms.map mT)
  s : ∃ skv, H sd = some (.dK skv) ∧ Tab K H skv (rs.map sT)
  so : SortsOk rs
  nd : (ms.map MRow.nm).Nodup
  ok : ∀ m ∈ ms, MOk rs m
theorem Tbs.same {K : PySem.W.Frag} {H H' : Hp} {md sd : Addr} {rs : List SRow} {ms : List MRow} (s : Same H H') (h : Tbs K H md sd rs ms) : Tbs K H' md sd rs ms := by
  obtain ⟨skv, h1, h2⟩ := h.s
  obtain ⟨kvs, h3, h4⟩ := h.m
  exact ⟨⟨kvs, s _ _ h3, h4.keep (KeepT.of s) (fun t ht => by obtain ⟨r', _, e⟩ := List.mem_map.mp ht; rw [← e]; exact mT_imm r')⟩, ⟨skv, s _ _ h1, h2.keep (KeepT.of s) (fun t ht => by obtain ⟨r', _, e⟩ := List.mem_map.mp ht; rw [← e]; exact sT_imm r')⟩, h.so, h.nd, h.ok⟩
theorem Tbs.get {K : PySem.W.Frag} {H : Hp} {md sd : Addr} {rs : List SRow} {ms : List MRow} (h : Tbs K H md sd rs ms) {mr : MRow} (hm : mr ∈ ms) : ∃ v, DGet H md (.str (SX.S mr.nm)) (some v) ∧ Fm K H v sd rs mr := by
  obtain ⟨kvs, h3, h4⟩ := h.m
  obtain ⟨v, e, hd⟩ := h4.val (t := mT mr) (by rw [mT_k]; exact h.nd) (List.mem_map_of_mem hm)
  have hg := DGet.k (k := kS mr.nm) h3
  rw [show kS mr.nm = kS (mT mr).k from rfl, e] at hg
  exact ⟨v, hg, hd, h.s, h.so, h.ok mr hm⟩
structure RuleOk (rs : List SRow) (ms : List MRow) (roof : Nat) (r : RRow) : Prop where
  ex : ∃ mr ∈ ms, r.ma = mr.nm ∧ TgOk rs mr r.tg ∧ ∀ o ∈ r.os, OdOk rs mr o
  op : r.op ∈ opsOf roof
  ar : r.os.length = arOf r.op
theorem op_of {op : List Nat} {roof : Nat} (h : op ∈ opsOf roof) : ∃ o : Op, SX.S op = o.w ∧ arOf op = o.n ∧ (roof = 0 ∨ fineb o = true) := by
  have h4 : op ∈ OPS4 → ∃ o : Op, SX.S op = o.w ∧ arOf op = o.n ∧ fineb o = true := fun h => by
    unfold OPS4 at h
    simp only [List.mem_cons, List.not_mem_nil, or_false] at h
    rcases h with rfl | rfl | rfl | rfl
    · exact ⟨.copy, sl_S _, by decide +kernel, rfl⟩
    · exact ⟨.plus, sl_S _, by decide +kernel, rfl⟩
    · exact ⟨.least, sl_S _, by decide +kernel, rfl⟩
    · exact ⟨.most, sl_S _, by decide +kernel, rfl⟩
  unfold opsOf at h
  by_cases hr : roof = 0
  · rw [if_pos hr] at h
    rcases List.mem_append.mp h with h | h
    · obtain ⟨o, h1, h2, _⟩ := h4 h
      exact ⟨o, h1, h2, .inl hr⟩
    · unfold OPS8 at h
      simp only [List.mem_cons, List.not_mem_nil, or_false] at h
      rcases h with rfl | rfl | rfl | rfl | rfl | rfl | rfl | rfl
      · exact ⟨.plus, sl_S _, by decide +kernel, .inl hr⟩
      · exact ⟨.less, sl_S _, by decide +kernel, .inl hr⟩
      · exact ⟨.times, sl_S _, by decide +kernel, .inl hr⟩
      · exact ⟨.over, sl_S _, by decide +kernel, .inl hr⟩
      · exact ⟨.rest, sl_S _, by decide +kernel, .inl hr⟩
      · exact ⟨.same, sl_S _, by decide +kernel, .inl hr⟩
      · exact ⟨.under, sl_S _, by decide +kernel, .inl hr⟩
      · exact ⟨.pick, sl_S _, by decide +kernel, .inl hr⟩
  · rw [if_neg hr] at h
    obtain ⟨o, h1, h2, h3⟩ := h4 h
    exact ⟨o, h1, h2, .inr h3⟩
theorem op_n3 (o : Op) : o.n ≤ 3 := by cases o <;> decide
theorem rr4 {K : PySem.W.Frag} {H : Hp} {v : V} {r : RRow} (h : Dp K H v r.d) : ∃ q v2 t us, v = .ref q ∧ SqT K H q [.str (SX.S r.ma), v2, .str (SX.S r.op), .ref t] ∧ Dp K H v2 r.tg.d ∧ SqT K H t us ∧ DpAll K H us (r.os.map Od.d) := by
  cases h with
  | tup hS hA =>
    cases hA with
    | cons a1 hA =>
      cases hA with
      | cons a2 hA =>
        cases hA with
        | cons a3 hA =>
          cases hA with
          | cons a4 hA =>
            cases hA
            cases a1
            cases a3
            cases a4 with
            | tup hS2 hA2 => exact ⟨_, _, _, _, rfl, hS, a2, hS2, hA2⟩
theorem nodup_leA {α : Type} [DecidableEq α] : ∀ {us f : List α}, us.Nodup → (∀ u ∈ us, u ∈ f) → us.length ≤ f.length
  | [], _, _, _ => Nat.zero_le _
  | u :: us, f, h, s => by
    rw [List.nodup_cons] at h
    have h1 := nodup_leA (f := f.erase u) h.2 (fun x hx => (List.mem_erase_of_ne (fun (z : x = u) => h.1 (z ▸ hx))).mpr (s x (List.mem_cons_of_mem _ hx)))
    have hu := s u (List.mem_cons_self ..)
    rw [List.length_erase_of_mem hu] at h1
    have : 0 < f.length := List.length_pos_of_mem hu
    rw [List.length_cons]
    omega
def KeptFew (ru : List RRow) : Prop := ∀ r ∈ ru, ∃ ks : List (List Nat), ks.length ≤ 2 ∧ ∀ w ∈ keptNames r.ma ru, w ∈ ks
theorem kept_take {m : List Nat} {ru : List RRow} {j : Nat} {w : List Nat} (h : w ∈ keptNames m (ru.take j)) : w ∈ keptNames m ru := by
  unfold keptNames odsOf at h ⊢
  obtain ⟨o, ho, hw⟩ := List.mem_flatMap.mp h
  obtain ⟨r, hr, ho⟩ := List.mem_flatMap.mp ho
  obtain ⟨hr, e⟩ := List.mem_filter.mp hr
  exact List.mem_flatMap.mpr ⟨o, List.mem_flatMap.mpr ⟨r, List.mem_filter.mpr ⟨List.mem_of_mem_take hr, e⟩, ho⟩, hw⟩
theorem kept_few {ru : List RRow} {r : RRow} (h : KeptFew ru) (hr : r ∈ ru) (j : Nat) : (gotTx ((keptNames r.ma (ru.take j)).map SX.S)).length ≤ 2 := by
  obtain ⟨ks, h2, hk⟩ := h r hr
  refine Nat.le_trans (nodup_leA (f := ks.map SX.S) (gotTx_nodup _) fun u hu => ?_) (by rw [List.length_map]; exact h2)
  obtain ⟨w, hw, rfl⟩ := List.mem_map.mp (gotTx_mem.mp hu)
  exact List.mem_map_of_mem (hk w (kept_take hw))
def spRuleSo (K : PySem.W.Frag) : Sp := fun vs H Q _ => ∃ (rv : V) (md sd : Addr) (roof : Nat) (rs : List SRow) (ms : List MRow) (r : RRow), vs = [rv, .ref md, .ref sd, .int roof] ∧ Dp K H rv r.d ∧ Tbs K H md sd rs ms ∧ RuleOk rs ms roof r ∧ ∀ H', Same H H' → Q (.bl true) H'
def spRulesIn (K : PySem.W.Frag) (P : Program) (w : World) : Sp := fun vs H Q _ => ∃ (l md sd : Addr) (roof : Nat) (rv : List V) (rs : List SRow) (ms : List MRow) (ru : List RRow), vs = [.ref l, .ref md, .ref sd, .int roof] ∧ H l = some (.lst rv) ∧ DpAll K H rv (ru.map RRow.d) ∧ Tbs K H md sd rs ms ∧ (∀ r ∈ ru, RuleOk rs ms roof r) ∧ RuNd ru ∧ ru.length ≤ 240 ∧ KeptFew ru ∧
  ∀ (H' : Hp) (d : Addr) (kvs : List NE), Same H H' → H d = none → H' d = some (dnO P w d kvs) → RPr K H' kvs ru → Q (.ref d) H'
section
variable {P : Program} {w : World} {K : PySem.W.Frag} {mg : Str → Option Value} {base : Heap} {PD LA : Addr}
theorem ok_rule_is_so (T : Gb mg) (cis_tuple_of : C8.Cal P w K mg base 1 "is_tuple_of" (spTupOf K) []) (cis_name : C8.Cal P w K mg base 1 "is_name" spNameT []) (cis_target : C8.Cal P w K mg base 3 "is_target" (spIsTg K) []) (cis_op : C8.Cal P w K mg base 1 "is_op" spOpT []) (cop_let_1_cap : KCal P w K mg base 2 "op_let" spLetT 1 ["cap"] (fun vs zs => vs ++ zs))
    (cparts_of : C8.Cal P w K mg base 2 "parts_of" spPartsT []) (cis_operand : C8.Cal P w K mg base 3 "is_operand" (spIsOd K) []) (D : Dd K mg "rule_is_so" s_rule_is_so P_rule_is_so) : C8.Cal P w K mg base 4 "rule_is_so" (spRuleSo K) [] := by
  refine D.cal sc_rule_is_so (fun vs H Q E h => ?_) (fun f cdv A outer s H vs Q E hr h => ?_)
  · obtain ⟨rv, md, sd, roof, rs, ms, r, rfl, _⟩ := h
    rfl
  · obtain ⟨rv, md, sd, roof, rs, ms, r, rfl, hrow, tb, rok, q⟩ := h
    obtain ⟨q0, v2, t, us, rfl, hq, htg, ht, hus⟩ := rr4 hrow
    obtain ⟨mr, hmr, hma, htok, hook⟩ := rok.ex
    obtain ⟨o, ho, hon, hfi⟩ := op_of rok.op
    have h3 := op_n3 o
    have har := rok.ar
    have mok := tb.ok mr hmr
    refine ⟨_, (pss_cons (ps_if (pt_not (pt_val (C8.pe_c cis_tuple_of hr (by decide) (by rfl) (pa_cons (pv 0) (pa_cons pe_int pa_nil)))))
          (pss_one (ps_ret pe_bl))
          pss_nil)
        (pss_cons (ps_asg (pv 0) (pg_tup rfl (pgs_cons (pg_name (i := 4) sc_rule_is_so.nd rfl (Or.inl rfl)) (pgs_cons (pg_name (i := 5) sc_rule_is_so.nd rfl (Or.inl rfl)) (pgs_cons (pg_name (i := 6) sc_rule_is_so.nd rfl (Or.inl rfl)) (pgs_cons (pg_name (i := 7) sc_rule_is_so.nd rfl (Or.inl rfl)) pgs_nil))))))
        (pss_cons (ps_if (PW.pt (pw_or (pt_not (pt_val (C8.pe_c cis_name hr (by decide) (by rfl) (pa_cons (pv 4) pa_nil)))) (pw_or1 (pt_cmp (pc_dnotin (hu_of hr) (pv 4) (pv 1)) (by with_unfolding_all rfl)))))
          (pss_one (ps_ret pe_bl))
          pss_nil)
        (pss_cons (ps_set (i := 8) sc_rule_is_so.nd rfl (Or.inr rfl) (pe_dget (hu_of hr) (pv 1) (pv 4) (fun _ _ => rfl)))
        (pss_cons (ps_if (PW.pt (pw_or (pt_not (pt_val (C8.pe_c cis_target hr (by decide) (by rfl) (pa_cons (pv 5) (pa_cons (pv 8) (pa_cons (pv 2) pa_nil)))))) (pw_or (pt_not (pt_val (C8.pe_c cis_op hr (by decide) (by rfl) (pa_cons (pv 6) pa_nil)))) (pw_or1 (pt_not (pt_val (pe_kw cop_let_1_cap hr (by decide) (by rfl) (pa_cons (pv 6) pa_nil) (pk_cons (pv 3) pk_nil))))))))
          (pss_one (ps_ret pe_bl))
          pss_nil)
        (pss_cons (ps_if (pt_not (pt_val (C8.pe_c cis_tuple_of hr (by decide) (by rfl) (pa_cons (pv 7) (pa_cons (C8.pe_c cparts_of hr (by decide) (by rfl) (pa_cons (pv 6) pa_nil)) pa_nil)))))
          (pss_one (ps_ret pe_bl))
          pss_nil)
        (pss_one (ps_ret (pe_callB (cr_all rfl) (by rfl) T.all (by decide +kernel) (pa_cons (pe_lc (own := [("operand", 9)]) (by exact rfl) sc_rule_is_so.nd (pi_tup (pv 7)) (blkOk_by (own := [("operand", 9)]) (N := N_rule_is_so) (sc := defScope s_rule_is_so) (by decide +kernel)) (fun _ _ _ _ _ => (pg_name (i := 9) sc_rule_is_so.nd rfl (Or.inl rfl))) (fun _ _ _ _ _ => pts_nil) (fun _ _ _ _ _ => (C8.pe_c cis_operand hr (by decide) (by rfl) (pa_cons (pv 9) (pa_cons (pv 8) (pa_cons (pv 2) pa_nil)))))) pa_nil)))))))))), ?_⟩
    refine ⟨_, rfl, .ref q0, r.d, 4, rfl, hrow, _, rfl, iteF ?_⟩
    refine ⟨_, rfl, q0, _, rfl, hq, rfl, _, _, rfl, _, _, rfl, _, _, rfl, _, _, rfl, rfl, ?_⟩
    refine ⟨_, rfl, r.ma, rfl, by rw [hma]; exact mok.nm, fun H1 s1 => ⟨_, rfl, ifF rfl ?_⟩⟩
    obtain ⟨fv, hg, fm⟩ := (tb.same s1).get hmr
    rw [← hma] at hg
    refine ⟨_, rfl, _, rfl, md, _, rfl, hg, _, rfl, ifF rfl ?_⟩
    refine ⟨_, rfl, _, rfl, md, fv, rfl, hg, ?_⟩
    refine ⟨_, rfl, _, rfl, _, rfl, v2, fv, sd, rs, mr, r.tg, rfl, dp_same s1 htg, fm, htok, fun H2 s2 => ⟨_, rfl, ifF rfl ?_⟩⟩
    rw [ho]
    refine ⟨_, rfl, o, rfl, _, rfl, ifF rfl ?_⟩
    refine ⟨_, rfl, _, rfl, rfl, rfl, o, roof, rfl, hfi, _, rfl, ifF rfl ?_⟩
    have s12 := s1.trans s2
    have lus := dpAll_len hus
    rw [List.length_map] at lus
    refine ⟨_, rfl, _, rfl, o, rfl, .ref t, .tuple (r.os.map Od.d), o.n, rfl, .tup (sqT_s s12 ht) (dpAll_same s12 hus), _, rfl, ?_⟩
    refine ifF (by show (!decide ((r.os.map Od.d).length = o.n)) = false; rw [List.length_map, decide_eq_true (by omega)]; rfl) ?_
    refine ⟨_, rfl, t, rfl, ⟨_, sqT_s s12 ht⟩, fun D nD => ?_⟩
    refine lc_it (walk_tup (K := K) (a := t) (xs := us)) (fun j H' => Same H2 H' ∧ H' D = some (.lst ((List.replicate j true).map V.bl))) ⟨same_upd nD, upd_same⟩ (fun j H5 _ hh => sqT_s (s12.trans hh.1) ht) ?_ ?_
    · rintro j v H5 H6 hj ⟨sm, hD⟩ ⟨rfl, hv⟩
      obtain ⟨o', ho', hvd⟩ := row_of hus hv
      refine ⟨rfl, yesT ?_⟩
      refine ⟨_, rfl, _, rfl, _, rfl, v, fv, sd, rs, mr, o', rfl, dp_same (s12.trans sm) hvd, (fm.same s2).same sm, hook o' (List.mem_of_getElem? ho'), fun H7 s7 => ?_⟩
      refine ⟨_, s7 _ _ hD, by rw [List.length_map, List.length_replicate]; exact small1000 (by omega), Same.at_ (sm.trans s7) nD, ?_⟩
      rw [upd_same, List.replicate_succ', List.map_append]
      rfl
    · rintro H5 ⟨sm, hD⟩
      refine ⟨D, _, rfl, SqL.of hD, ?_⟩
      rw [show (List.replicate us.length true).all id = true by simp]
      exact q _ (s12.trans sm)
theorem ok_rules_in (T : Gb mg) (G : Gg mg PD LA) (crows_of : C8.Cal P w K mg base 1 "rows_of" spRows []) (crule_is_so : C8.Cal P w K mg base 4 "rule_is_so" (spRuleSo K) []) (ckept_by : C8.Cal P w K mg base 1 "kept_by" (spKeptBy K P w) []) (D : Dd K mg "rules_in" s_rules_in P_rules_in) : C8.Cal P w K mg base 5 "rules_in" (spRulesIn K P w) [] := by
  refine D.cal sc_rules_in (fun vs H Q E h => ?_) (fun f cdv A outer s H vs Q E hr h => ?_)
  · obtain ⟨l, md, sd, roof, rv, rs, ms, ru, rfl, _⟩ := h
    rfl
  · obtain ⟨l, md, sd, roof, rv, rs, ms, ru, rfl, hl, hrv, tb, hok, hnd, hle, hfew, q⟩ := h
    refine ⟨_, (pss_cons (ps_set (i := 4) sc_rules_in.nd rfl (Or.inl rfl) pe_dnewN)
        (pss_cons (ps_for PassesOwn.never rfl (pi_enum (by rfl) T.enumerate (pa_cons (C8.pe_c crows_of hr (by decide) (by rfl) (pa_cons pe_str (pa_cons (pv 0) pa_nil))) pa_nil)) (pg_tup rfl (pgs_cons (pg_name (i := 5) sc_rules_in.nd rfl (Or.inl rfl)) (pgs_cons (pg_name (i := 6) sc_rules_in.nd rfl (Or.inl rfl)) pgs_nil)))
          (pss_cons (ps_if (PW.pt (pw_or (pt_not (pt_val (C8.pe_c crule_is_so hr (by decide) (by rfl) (pa_cons (pv 6) (pa_cons (pv 1) (pa_cons (pv 2) (pa_cons (pv 3) pa_nil))))))) (pw_or1 (pt_cmpR (op_inN (hu9 (hu65 hr))) (pe_slice (r := rSlAny K) sl_any (pv 6) po_none (po_some pe_int)) (pv 4) (by with_unfolding_all rfl)))))
          (pss_one ps_never)
          pss_nil)
        (pss_cons (ps_asg (pe_slice (r := rSlAny K) sl_any (pv 6) (po_some pe_int) po_none) (pg_sub (pv 4) (pe_slice (r := rSlAny K) sl_any (pv 6) po_none (po_some pe_int)) (set_dn (hu9 (hu65 hr)))))
        (pss_one (ps_if (pt_cmpR op_gt (pe_callB call_len_seq (by rfl) T.len PySem.boot_len (pa_cons (C8.pe_c ckept_by hr (by decide) (by rfl) (pa_cons (pe_ix ix_tup (pv 6) pe_int (fun _ _ => rfl)) (pa_cons (pv 4) pa_nil))) pa_nil)) (C8.pe_gc (v := .int 2) rfl G.each) (nomark _))
          (pss_one ps_never)
          pss_nil)))))
        (pss_one (ps_ret (pv 4))))), ?_⟩
    refine fun d nd => ?_
    have s1 := same_upd (o := dnO P w d []) nd
    have lrv := dpAll_len hrv
    rw [List.length_map] at lrv
    refine ⟨_, rfl, "rules", l, rv, rfl, s1 _ _ hl, l, rv, rfl, SqL.of (s1 _ _ hl), ?_⟩
    refine for_it walk_enum (fun j σ Y => ∃ (y5 y6 : Option V) (kvs : List NE), σ = [some (.ref l), some (.ref md), some (.ref sd), some (.int roof), some (.ref d), y5, y6] ∧ Same H Y ∧ Y d = some (dnO P w d kvs) ∧ RPr K Y kvs (ru.take j))
      ⟨none, none, [], rfl, s1, upd_same, .nil⟩ (fun i σ Y _ ⟨_, _, _, _, h, _⟩ => SqL.of (h _ _ hl)) ?_ ?_
    · rintro j v σ Y0 Y hj ⟨y5, y6, kvs, rfl, s2, hd, hpr⟩ ⟨TT, xx, yy, rfl, nT, rfl, ex, ey⟩
      cases ex
      obtain ⟨r, hr1, hrow⟩ := row_of (dpAll_same s2 hrv) ey
      have sN := same_upd (o := .tup [.int ((j : Nat) : Int), yy]) nT
      have hjr : j < ru.length := (List.getElem?_eq_some_iff.mp hr1).1
      have hrm := List.mem_of_getElem? hr1
      have rok := hok r hrm
      have lk := paired_len hpr
      rw [List.length_take] at lk
      have tk : ru.take (j + 1) = ru.take j ++ [r] := by rw [List.take_add_one, hr1]; rfl
      refine ⟨TT, _, rfl, SqT.of upd_same, rfl, _, _, rfl, _, _, rfl, rfl, ?_⟩
      refine ⟨_, rfl, _, rfl, _, rfl, _, rfl, yy, md, sd, roof, rs, ms, r, rfl, dp_same sN hrow, tb.same (s2.trans sN), rok, fun Y1 sY1 => ⟨_, rfl, ifF rfl ?_⟩⟩
      have sA := sN.trans sY1
      obtain ⟨q0, v2, t, us, rfl, hq, htg, ht, hus⟩ := rr4 (dp_same sA hrow)
      refine ⟨_, rfl, _, rfl, q0, _, rfl, hq, fun Y2 p2 sY2 hp2 => ?_⟩
      have sB := sA.trans sY2
      have hp2 : SqT K Y2 p2 [.str (SX.S r.ma), v2] := hp2
      have hn : valN kvs (keyD r.kd) = none := hpr.none fun r' hr' e1 e2 => by
        rw [← List.take_append_drop j ru, List.drop_eq_getElem_cons hjr] at hnd
        have e3 : ru[j] = r := (List.getElem?_eq_some_iff.mp hr1).2
        exact ((List.pairwise_append.mp hnd).2.2 r' hr' ru[j] (List.mem_cons_self ..)) (by rw [e3]; exact e1) (by rw [e3]; exact e2)
      have key : ∀ {Z : Hp} {b : Addr}, KeepT Y1 Z → SqT K Z b [.str (SX.S r.ma), v2] → KeyN K Z (.ref b) b r.kd := fun {Z b} k h => ⟨rfl, .tup h (.cons (.str _) (.cons (dp_imm k htg r.tg.imm) .nil)), r.kd_imm, key_depth _ _⟩
      refine ⟨_, rfl, d, p2, kvs, r.kd, rfl, .inl (sB _ _ hd), (hpr.keep (KeepT.of sB)).keys, key (KeepT.of sY2) hp2, _, rfl, ?_⟩
      rw [hn]
      refine ifF rfl ?_
      refine ⟨_, rfl, _, rfl, q0, _, rfl, sqT_s sY2 hq, fun Y3 p3 sY3 hp3 => ?_⟩
      have hp3 : SqT K Y3 p3 [.str (SX.S r.op), .ref t] := hp3
      have sC := sB.trans sY3
      refine ⟨_, rfl, _, rfl, _, rfl, q0, _, rfl, sqT_s (sY2.trans sY3) hq, fun Y4 p4 sY4 hp4 => ?_⟩
      have hp4 : SqT K Y4 p4 [.str (SX.S r.ma), v2] := hp4
      have sD := sC.trans sY4
      have s14 := sY2.trans (sY3.trans sY4)
      have hd4 := sD _ _ hd
      refine ⟨d, p4, kvs, r.kd, rfl, hd4, (hpr.keep (KeepT.of sD)).keys, key (KeepT.of s14) hp4, hn, by omega, ?_⟩
      have bt5 : But d Y4 (upd Y4 d (dnO P w d (kvs ++ [(keyD r.kd, p4, .ref p3)]))) := But.upd (But.refl d Y4)
      have k5 := KeepT.ext hd4 bt5
      have hpr5 : RPr K (upd Y4 d (dnO P w d (kvs ++ [(keyD r.kd, p4, .ref p3)]))) (kvs ++ [(keyD r.kd, p4, .ref p3)]) (ru.take (j + 1)) := by
        rw [tk]
        refine paired_snoc (hpr.keep ((KeepT.of sD).trans k5)) ⟨rfl, dp_imm k5 (key (KeepT.of s14) hp4).2.1 r.kd_imm, ?_⟩
        refine dp_imm k5 (.tup (sqT_s sY4 hp3) (.cons (.str _) (.cons (.tup (sqT_s s14 ht) (dpAll_same s14 hus)) .nil))) r.vd_imm
      have sE : Same H (upd Y4 d (dnO P w d (kvs ++ [(keyD r.kd, p4, .ref p3)]))) := Same.at_ (s2.trans sD) nd
      have hq5 := k5.seqT (sqT_s s14 hq)
      have hd5 : (upd Y4 d (dnO P w d (kvs ++ [(keyD r.kd, p4, .ref p3)]))) d = some (dnO P w d (kvs ++ [(keyD r.kd, p4, .ref p3)])) := upd_same
      refine ⟨_, rfl, q0, _, 0, .str (SX.S r.ma), rfl, rfl, hq5, atI_nat (j := 0) rfl, _, rfl, r.ma, d, _, ru.take (j + 1), rfl, hd5, hpr5, hnd.sublist (List.take_sublist _ _), by rw [List.length_take]; omega, fun r' hr' => ?_, Nat.lt_of_le_of_lt (kept_few hfew hrm (j + 1)) (by decide), fun Y6 l6 ys s6 n6 hl6 hys _ => ?_⟩
      · have h' := hok r' (List.mem_of_mem_take hr')
        obtain ⟨o', _, h2, _⟩ := op_of h'.op
        rw [h'.ar, h2]
        exact op_n3 o'
      refine ⟨l6, _, rfl, .inl (SqL.of hl6), _, _, rfl, rfl, _, rfl, ?_⟩
      have l2 : ys.length ≤ 2 := by
        rw [hys.length_eq]
        exact kept_few hfew hrm (j + 1)
      refine ifF (decide_eq_false (show ¬ (2 : Int) < ((ys.map V.str).length : Int) by rw [List.length_map]; omega)) ?_
      exact ⟨_, _, _, rfl, sE.trans s6, s6 _ _ hd5, hpr5.keep (KeepT.of s6)⟩
    · rintro σ Y ⟨y5, y6, kvs, rfl, s2, hd, hpr⟩
      rw [lrv, List.take_length] at hpr
      exact ⟨_, rfl, q _ d kvs s2 nd hd hpr⟩
end
/-! ### a grammar's rows can be sorted -/
theorem fo_self : ∀ (xs : List PyData) (i : Nat), PyData.plainAll xs = true → FO i xs xs
  | [], _, _ => .nil
  | x :: xs, i, h => by
    rw [PyData.plainAll, Bool.and_eq_true] at h
    exact .eq (PySem.SeqAt.eqv_refl_plain x h.1) (fo_self xs (i + 1) h.2)
theorem plain_names : ∀ ws : List (List Nat), PyData.plainAll (ws.map strD) = true
  | [] => rfl
  | _ :: ws => plain_names ws
theorem depth_names : ∀ ws : List (List Nat), PyData.depthAll (ws.map strD) = 0
  | [] => rfl
  | w :: ws => by
    show max 0 (PyData.depthAll (ws.map strD)) = 0
    rw [depth_names ws]
    rfl
theorem en_plain (e : En) : e.d.plain = true := by cases e <;> rfl
theorem od_plain (o : Od) : o.d.plain = true := by
  cases o with
  | en e => exact en_plain e
  | own => rfl
  | num n => rfl
theorem ods_plain : ∀ os : List Od, PyData.plainAll (os.map Od.d) = true
  | [] => rfl
  | o :: os => by
    show (o.d.plain && PyData.plainAll (os.map Od.d)) = true
    rw [od_plain o, ods_plain os]
    rfl
theorem en_depth (e : En) : e.d.depth ≤ 1 := by cases e <;> exact Nat.le_refl _
theorem od_depth (o : Od) : o.d.depth ≤ 1 := by
  cases o with
  | en e => exact en_depth e
  | own => exact Nat.le_refl _
  | num n => exact Nat.le_refl _
theorem ods_depth : ∀ os : List Od, PyData.depthAll (os.map Od.d) ≤ 1
  | [] => Nat.zero_le _
  | o :: os => by
    show max o.d.depth (PyData.depthAll (os.map Od.d)) ≤ 1
    exact Nat.max_le.mpr ⟨od_depth o, ods_depth os⟩
theorem str_ne {a b : List Nat} (h : a ≠ b) : PyData.eqv (strD a) (strD b) = false := by
  show (SX.S a == SX.S b) = false
  rw [beq_eq_false_iff_ne]
  exact fun z => h (SX.S_inj z)
theorem str_eq (a : List Nat) : PyData.eqv (strD a) (strD a) = true := by
  show (SX.S a == SX.S a) = true
  exact beq_self_eq_true _
theorem by_name {α : Type} {f : α → List Nat} : ∀ {rs : List α}, (rs.map f).Nodup → ∀ r ∈ rs, ∀ r' ∈ rs, f r = f r' → r = r'
  | [], _, r, h, _, _, _ => nomatch h
  | x :: xs, hn, r, h, r', h', e => by
    rw [List.map_cons, List.nodup_cons] at hn
    rcases List.mem_cons.mp h with rfl | g
    · rcases List.mem_cons.mp h' with rfl | g'
      · rfl
      · exact absurd (e ▸ List.mem_map_of_mem g') hn.1
    · rcases List.mem_cons.mp h' with rfl | g'
      · exact absurd (e ▸ List.mem_map_of_mem g) hn.1
      · exact by_name hn.2 r g r' g' e
theorem rows_sorts {rs : List SRow} (h : SortsOk rs) : RowsOk (rs.map SRow.d) := by
  have pl : ∀ r : SRow, PyData.plainAll [strD r.nm, .tuple (r.dn.map strD), .tuple (r.up.map strD)] = true := fun r => by
    show (true && (PyData.plainAll (r.dn.map strD) && (PyData.plainAll (r.up.map strD) && true))) = true
    rw [plain_names, plain_names]
    rfl
  refine ⟨fun d hd => ?_, fun xs ys hx hy => ?_⟩
  · obtain ⟨r, _, rfl⟩ := List.mem_map.mp hd
    refine ⟨SX.S r.nm, _, rfl, pl r, fun x hx => ?_⟩
    simp only [List.mem_cons, List.not_mem_nil, or_false] at hx
    rcases hx with rfl | rfl | rfl
    · exact Nat.zero_le _
    · show PyData.depthAll (r.dn.map strD) + 1 ≤ 60
      rw [depth_names]
      decide
    · show PyData.depthAll (r.up.map strD) + 1 ≤ 60
      rw [depth_names]
      decide
  · obtain ⟨r, hr, e⟩ := List.mem_map.mp hx
    obtain ⟨r', hr', e'⟩ := List.mem_map.mp hy
    cases e
    cases e'
    by_cases hn : r.nm = r'.nm
    · rw [by_name h.nd r hr r' hr' hn]
      exact fo_self _ 0 (pl r')
    · exact .s0 (str_ne hn)
theorem rows_maks {ms : List MRow} (h : (ms.map MRow.nm).Nodup) : RowsOk (ms.map MRow.d) := by
  have pl : ∀ r : MRow, PyData.plainAll [strD r.nm, strD r.so, .tuple (r.pt.map strD)] = true := fun r => by
    show (true && (true && (PyData.plainAll (r.pt.map strD) && true))) = true
    rw [plain_names]
    rfl
  refine ⟨fun d hd => ?_, fun xs ys hx hy => ?_⟩
  · obtain ⟨r, _, rfl⟩ := List.mem_map.mp hd
    refine ⟨SX.S r.nm, _, rfl, pl r, fun x hx => ?_⟩
    simp only [List.mem_cons, List.not_mem_nil, or_false] at hx
    rcases hx with rfl | rfl | rfl
    · exact Nat.zero_le _
    · exact Nat.zero_le _
    · show PyData.depthAll (r.pt.map strD) + 1 ≤ 60
      rw [depth_names]
      decide
  · obtain ⟨r, hr, e⟩ := List.mem_map.mp hx
    obtain ⟨r', hr', e'⟩ := List.mem_map.mp hy
    cases e
    cases e'
    by_cases hn : r.nm = r'.nm
    · rw [by_name h r hr r' hr' hn]
      exact fo_self _ 0 (pl r')
    · exact .s0 (str_ne hn)
theorem rund_same : ∀ {ru : List RRow}, RuNd ru → ∀ r ∈ ru, ∀ r' ∈ ru, r.ma = r'.ma → r.tg = r'.tg → r = r'
  | [], _, r, h, _, _, _, _ => nomatch h
  | x :: xs, hn, r, h, r', h', e, e2 => by
    unfold RuNd at hn
    rw [List.pairwise_cons] at hn
    rcases List.mem_cons.mp h with rfl | g
    · rcases List.mem_cons.mp h' with rfl | g'
      · rfl
      · exact absurd e2 (hn.1 r' g' e)
    · rcases List.mem_cons.mp h' with rfl | g'
      · exact absurd e2.symm (hn.1 r g e.symm)
      · exact rund_same hn.2 r g r' g' e e2
theorem en_lt {e e' : En} : LtS e.d e'.d := by
  cases e with
  | sp p w =>
    cases e' with
    | sp p' w' => exact .al rfl (fun z => nomatch z)
    | kept w' => exact .hd (by decide +kernel)
  | kept w =>
    cases e' with
    | sp p' w' => exact .hd (by decide +kernel)
    | kept w' => exact .al rfl (fun z => nomatch z)
theorem rows_rules {ru : List RRow} (h : RuNd ru) : RowsOk (ru.map RRow.d) := by
  have pl : ∀ r : RRow, PyData.plainAll [strD r.ma, r.tg.d, strD r.op, .tuple (r.os.map Od.d)] = true := fun r => by
    show (true && (r.tg.d.plain && (true && (PyData.plainAll (r.os.map Od.d) && true)))) = true
    rw [en_plain, ods_plain]
    rfl
  refine ⟨fun d hd => ?_, fun xs ys hx hy => ?_⟩
  · obtain ⟨r, _, rfl⟩ := List.mem_map.mp hd
    refine ⟨SX.S r.ma, _, rfl, pl r, fun x hx => ?_⟩
    simp only [List.mem_cons, List.not_mem_nil, or_false] at hx
    rcases hx with rfl | rfl | rfl | rfl
    · exact Nat.zero_le _
    · exact Nat.le_trans (en_depth _) (by decide)
    · exact Nat.zero_le _
    · show PyData.depthAll (r.os.map Od.d) + 1 ≤ 60
      have := ods_depth r.os
      omega
  · obtain ⟨r, hr, e⟩ := List.mem_map.mp hx
    obtain ⟨r', hr', e'⟩ := List.mem_map.mp hy
    cases e
    cases e'
    by_cases hn : r.ma = r'.ma
    · by_cases ht : r.tg = r'.tg
      · rw [rund_same h r hr r' hr' hn ht]
        exact fo_self _ 0 (pl r')
      · refine .eq (by rw [hn]; exact str_eq _) (.lt ?_ (.one en_lt))
        rw [en_eqv]
        exact decide_eq_false ht
    · exact .s0 (str_ne hn)
/-! ### a grammar is made -/
abbrev s_GI : Stmt := inClass (top 46) 0
abbrev N_GI : List Str := ["self", "sorts", "makings", "rules", "cap", "making"]
abbrev P_GI : List Str := ["self", "sorts", "makings", "rules", "cap"]
theorem sc_GI : FnScope N_GI P_GI (defScope s_GI) := ⟨rfl, rfl, rfl, by decide +kernel, rfl, by decide +kernel, by decide +kernel⟩
theorem ins_no {C dx : Addr} {fs : List (Str × V)} : ¬ TupO (.ins C dx fs) := fun h => by
  rcases h with ⟨_, e⟩ | ⟨_, _, e⟩ <;> cases e
abbrev g1 (a : V) : List (Str × V) := [("top", a)]
abbrev g2 (a b : V) : List (Str × V) := [("top", a), ("sort_table", b)]
abbrev g3 (a b c : V) : List (Str × V) := [("top", a), ("sort_table", b), ("making_table", c)]
abbrev g4 (a b c d : V) : List (Str × V) := [("top", a), ("sort_table", b), ("making_table", c), ("rule_table", d)]
abbrev g5 (a b c d e : V) : List (Str × V) := [("top", a), ("sort_table", b), ("making_table", c), ("rule_table", d), ("kept_table", e)]
abbrev g6 (a b c d e f : V) : List (Str × V) := [("top", a), ("sort_table", b), ("making_table", c), ("rule_table", d), ("kept_table", e), ("risen", f)]
theorem pf1 (a : V) : putF "top" a [] = g1 a := by with_unfolding_all rfl
theorem pf2 (a b : V) : putF "sort_table" b (g1 a) = g2 a b := by with_unfolding_all rfl
theorem pf3 (a b c : V) : putF "making_table" c (g2 a b) = g3 a b c := by with_unfolding_all rfl
theorem pf4 (a b c d : V) : putF "rule_table" d (g3 a b c) = g4 a b c d := by with_unfolding_all rfl
theorem pf5 (a b c d e : V) : putF "kept_table" e (g4 a b c d) = g5 a b c d e := by with_unfolding_all rfl
theorem pf6 (a b c d e f : V) : putF "risen" f (g5 a b c d e) = g6 a b c d e f := by with_unfolding_all rfl
theorem lk2 (a b : V) : (g2 a b).lookup (("sort_table" : String) : Str) = some b := by with_unfolding_all rfl
theorem lk3 (a b c : V) : (g3 a b c).lookup (("making_table" : String) : Str) = some c := by with_unfolding_all rfl
theorem lk3b (a b c : V) : (g3 a b c).lookup (("sort_table" : String) : Str) = some b := by with_unfolding_all rfl
theorem lk4 (a b c d : V) : (g4 a b c d).lookup (("making_table" : String) : Str) = some c := by with_unfolding_all rfl
theorem lk4b (a b c d : V) : (g4 a b c d).lookup (("rule_table" : String) : Str) = some d := by with_unfolding_all rfl
/-- {k: v for .. in ..} over any walk -/
theorem dc_it {J : It} {n : Nat} {G : Hp → Prop} {Yd : Nat → Hp → V → Hp → Prop} (Wk : Walk J n G Yd) {g : TG} {tt : TT} {tk tv : TE} {vs : List Nat} {σ : L2.St} {H1 : Hp} {D : Addr} {Qd : Hp → Prop} (Pv : Nat → Hp → Prop) (h0 : Pv 0 (upd H1 D (.dK []))) (hl : ∀ i H, i ≤ n → Pv i H → G H)
    (hs : ∀ i x H H', i < n → Pv i H → Yd i H x H' → g x (wipe σ vs) H' fun σ2 H2 => wipe σ2 vs = wipe σ vs ∧ tt σ2 H2 fun b H3 =>
      if b = true then tk σ2 H3 fun y H4 => tv σ2 H4 fun z H5 => ∃ kvs k, y = kV k ∧ H5 D = some (.dK kvs) ∧ kvs.length < sizeLine ∧ Pv (i + 1) (upd H5 D (.dK (putK kvs k z))) else Pv (i + 1) H3) (hd : ∀ H, Pv n H → Qd H) :
    ∃ W : Nat → Nat → Hp → Prop, (∃ m, W 0 m (upd H1 D (.dK []))) ∧ ∀ i m H, W i m H →
      (J.stop i H ∧ Qd H) ∨ (J.go i H ∧ ∃ Nx : Hp → Prop, (∀ H', Nx H' → ∃ m', m' < m ∧ W (i + 1) m' H') ∧ ∀ x H', J.yld i H x H' → g x (wipe σ vs) H' fun σ2 H2 => wipe σ2 vs = wipe σ vs ∧ tt σ2 H2 fun b H3 =>
        if b = true then tk σ2 H3 fun y H4 => tv σ2 H4 fun z H5 => ∃ kvs k, y = kV k ∧ H5 D = some (.dK kvs) ∧ kvs.length < sizeLine ∧ Nx (upd H5 D (.dK (putK kvs k z))) else Nx H3) := by
  refine ⟨fun i m H => m = n - i ∧ i ≤ n ∧ Pv i H, ⟨n, by simp, Nat.zero_le _, h0⟩, ?_⟩
  rintro i m H ⟨rfl, hi, p⟩
  have q := hl i H hi p
  by_cases hlt : i < n
  · exact .inr ⟨Wk.goes i H hlt q, Pv (i + 1), fun H' p' => ⟨n - (i + 1), by omega, rfl, hlt, p'⟩, fun x H' y => hs i x H H' hlt p (Wk.yields i H x H' hlt q y)⟩
  · have e : i = n := by omega
    subst e
    exact .inl ⟨Wk.stops H q, hd H p⟩
theorem pe_fldK {X : Cx} {K' : PySem.W.Frag} {e : Expr} {f : Str} {pos : Pos} {ta : TE} (hK : X.K = K') (he : PE X e ta) (hb : attributeBase e f X.env (eval e X.env) = eval e X.env) : PE X (.Attribute e f pos) (tFld K' ta f) := by
  subst hK
  exact pe_fld he hb
theorem tab_at {K : PySem.W.Frag} {H : Hp} {k : Key} {v : V} : ∀ {kvs : List (Key × V)} {ms : List MRow} {i : Nat}, Tab K H kvs (ms.map mT) → kvs[i]? = some (k, v) → ∃ m, ms[i]? = some m ∧ k = kS m.nm
  | [], _, _, _, h => by cases h
  | _ :: _, [], _, t, _ => by cases t
  | p :: kvs, m :: ms, 0, t, h => by
    cases t with
    | cons a _ =>
      cases h
      exact ⟨m, rfl, a.1⟩
  | p :: kvs, m :: ms, i + 1, t, h => by
    cases t with
    | cons _ r =>
      obtain ⟨m', e, hk⟩ := tab_at (i := i) r h
      exact ⟨m', e, hk⟩
/-- what the rows of a grammar keep to -/
structure GFit (rs : List SRow) (ms : List MRow) (ru : List RRow) (roof : Nat) : Prop where
  so : SortsOk rs
  nd : (ms.map MRow.nm).Nodup
  ok : ∀ m ∈ ms, MOk rs m
  m8 : ms.length ≤ 8
  ra : ∀ r ∈ ru, RuleOk rs ms roof r
  rn : RuNd ru
  rl : ru.length ≤ 240
  kf : KeptFew ru
  ko : ∀ m ∈ ms, (gotTx ((keptNames m.nm ru).map SX.S)).length ≤ 2
  rf : roof ≤ 9
/-- the class, in the written part -/
structure GCls (K : PySem.W.Frag) (C : Addr) : Prop where
  c : Cls K C
  top : NoAttr K C "top"
  sort : NoAttr K C "sort_table"
  making : NoAttr K C "making_table"
  rule : NoAttr K C "rule_table"
  kept : NoAttr K C "kept_table"
  risen : NoAttr K C "risen"
/-- what is kept of each making -/
def KTab (Z H : Hp) (kd : Addr) (ms : List MRow) (ru : List RRow) : Prop := ∃ kk, (H kd = some (.dK kk) ∧ ∀ k u, valV kk k = some u → ∃ m ∈ ms, k = kS m.nm) ∧ ∀ m ∈ ms, ∃ l ys, valV kk (kS m.nm) = some (.ref l) ∧ Z l = none ∧ H l = some (.lst (ys.map V.str)) ∧ ys.Perm (gotTx ((keptNames m.nm ru).map SX.S)) ∧ sortedS ys = true
/-- a grammar on the heap -/
structure GrOk (K : PySem.W.Frag) (P : Program) (w : World) (C : Addr) (Z H : Hp) (x : Addr) (rs : List SRow) (ms : List MRow) (ru : List RRow) (roof : Nat) : Prop where
  ex : ∃ dx sd md rd kd rt, H x = some (.ins C dx [("top", .int roof), ("sort_table", .ref sd), ("making_table", .ref md), ("rule_table", .ref rd), ("kept_table", .ref kd), ("risen", .ref rt)]) ∧
    (∃ skv, H sd = some (.dK skv) ∧ Tab K H skv (rs.map sT)) ∧ (∃ kvs, H md = some (.dK kvs) ∧ Tab K H kvs (ms.map mT)) ∧ (∃ nvs, H rd = some (dnO P w rd nvs) ∧ RPr K H nvs ru) ∧ KTab Z H kd ms ru
theorem GrOk.less {K : PySem.W.Frag} {P : Program} {w : World} {C : Addr} {Z Z' H : Hp} {x : Addr} {rs : List SRow} {ms : List MRow} {ru : List RRow} {roof : Nat} (h : GrOk K P w C Z' H x rs ms ru roof) (s : Same Z Z') : GrOk K P w C Z H x rs ms ru roof := by
  obtain ⟨dx, sd, md, rd, kd, rt, hx, h1, h2, h3, kk, hk, h4⟩ := h.ex
  exact ⟨dx, sd, md, rd, kd, rt, hx, h1, h2, h3, kk, hk, fun m hm => by
    obtain ⟨l, ys, q1, q2, q3⟩ := h4 m hm
    exact ⟨l, ys, q1, s.free q2, q3⟩⟩
theorem sT_imms (rs : List SRow) : ∀ t ∈ rs.map sT, imm t.r = true := fun t ht => by
  obtain ⟨r', _, e⟩ := List.mem_map.mp ht
  rw [← e]
  exact sT_imm r'
theorem mT_imms (ms : List MRow) : ∀ t ∈ ms.map mT, imm t.r = true := fun t ht => by
  obtain ⟨r', _, e⟩ := List.mem_map.mp ht
  rw [← e]
  exact mT_imm r'
theorem GrOk.but {K : PySem.W.Frag} {P : Program} {w : World} {C : Addr} {Z H H' : Hp} {x a : Addr} {b : List V} {rs : List SRow} {ms : List MRow} {ru : List RRow} {roof : Nat} (h : GrOk K P w C Z H x rs ms ru roof) (hZ : Z a ≠ none) (ha : H a = some (.lst b)) (s : But a H H') : GrOk K P w C Z H' x rs ms ru roof := by
  obtain ⟨dx, sd, md, rd, kd, rt, hx, ⟨skv, hs, ts⟩, ⟨mkv, hm, tm⟩, ⟨nvs, hn, tn⟩, kk, hk, h4⟩ := h.ex
  have k := KeepT.but ha s
  have nd : ∀ {c : Addr} {o : HO}, H c = some o → (∀ xs, o ≠ .lst xs) → H' c = some o := fun {c o} e n => s c o (fun z => by
    rw [z, ha] at e
    exact n _ (Option.some.inj e).symm) e
  exact ⟨dx, sd, md, rd, kd, rt, nd hx (fun _ z => nomatch z), ⟨skv, nd hs (fun _ z => nomatch z), ts.keep k (sT_imms rs)⟩, ⟨mkv, nd hm (fun _ z => nomatch z), tm.keep k (mT_imms ms)⟩, ⟨nvs, nd hn (fun _ z => nomatch z), tn.keep k⟩, kk, ⟨nd hk.1 (fun _ z => nomatch z), hk.2⟩, fun m hm' => by
    obtain ⟨l, ys, q1, q2, q3, q4⟩ := h4 m hm'
    exact ⟨l, ys, q1, q2, s _ _ (fun z => hZ (by rw [← z]; exact q2)) q3, q4⟩⟩
theorem GrOk.same {K : PySem.W.Frag} {P : Program} {w : World} {C : Addr} {Z H H' : Hp} {x : Addr} {rs : List SRow} {ms : List MRow} {ru : List RRow} {roof : Nat} (h : GrOk K P w C Z H x rs ms ru roof) (s : Same H H') : GrOk K P w C Z H' x rs ms ru roof := by
  obtain ⟨dx, sd, md, rd, kd, rt, hx, ⟨skv, hs, ts⟩, ⟨mkv, hm, tm⟩, ⟨nvs, hn, tn⟩, kk, hk, h4⟩ := h.ex
  have k := KeepT.of s
  exact ⟨dx, sd, md, rd, kd, rt, s _ _ hx, ⟨skv, s _ _ hs, ts.keep k (sT_imms rs)⟩, ⟨mkv, s _ _ hm, tm.keep k (mT_imms ms)⟩, ⟨nvs, s _ _ hn, tn.keep k⟩, kk, ⟨s _ _ hk.1, hk.2⟩, fun m hm' => by
    obtain ⟨l, ys, q1, q2, q3, q4⟩ := h4 m hm'
    exact ⟨l, ys, q1, q2, s _ _ q3, q4⟩⟩
/-! rows whose signs tell them -/
theorem toks_str {a b : Str} {xs ys : List PyData} (h : PySem.W.keyToks (.tuple (.str a :: xs)) = PySem.W.keyToks (.tuple (.str b :: ys))) : a = b ∧ PySem.W.keyToksAll xs = PySem.W.keyToksAll ys := by
  simp only [PySem.W.keyToks, PySem.W.toks_all_cons, List.cons_append, List.nil_append, List.cons.injEq, true_and, Sum.inr.injEq] at h
  exact ⟨PySem.W.str_of_cps h.1, h.2⟩
theorem rowsx_sorts {rs : List SRow} (h : SortsOk rs) : RowsX (rs.map SRow.d) := ⟨rows_sorts h, fun x hx y hy e => by
  obtain ⟨r, hr, rfl⟩ := List.mem_map.mp hx
  obtain ⟨r', hr', rfl⟩ := List.mem_map.mp hy
  have := SX.S_inj (toks_str e).1
  rw [by_name h.nd r hr r' hr' this]⟩
theorem rowsx_maks {ms : List MRow} (h : (ms.map MRow.nm).Nodup) : RowsX (ms.map MRow.d) := ⟨rows_maks h, fun x hx y hy e => by
  obtain ⟨r, hr, rfl⟩ := List.mem_map.mp hx
  obtain ⟨r', hr', rfl⟩ := List.mem_map.mp hy
  have := SX.S_inj (toks_str e).1
  rw [by_name h r hr r' hr' this]⟩
theorem en_toks {e e' : En} {xs ys : List PyData} (h : PySem.W.keyToksAll (e.d :: xs) = PySem.W.keyToksAll (e'.d :: ys)) : e = e' := by
  have at_ : ∀ (p : Nat) (w : List Nat), PySem.W.keyToks (En.d (.sp p w)) = [Sum.inl 1, Sum.inr (("at" : String) : Str).cps.toList, Sum.inl 1, Sum.inl ((p : Nat) : Int), Sum.inl 1, Sum.inr w, Sum.inl 0] := fun p w => by
    show PySem.W.keyToks (.tuple [.str "at", .int ((p : Nat) : Int), .str (SX.S w)]) = _
    simp only [PySem.W.keyToks, PySem.W.keyToksAll, List.cons_append, List.nil_append]
  have kp_ : ∀ (w : List Nat), PySem.W.keyToks (En.d (.kept w)) = [Sum.inl 1, Sum.inr (("kept" : String) : Str).cps.toList, Sum.inl 1, Sum.inr w, Sum.inl 0] := fun w => by
    show PySem.W.keyToks (.tuple [.str "kept", .str (SX.S w)]) = _
    simp only [PySem.W.keyToks, PySem.W.keyToksAll, List.cons_append, List.nil_append]
  have ne : (("at" : String) : Str).cps.toList ≠ (("kept" : String) : Str).cps.toList := by decide +kernel
  rw [PySem.W.toks_all_cons, PySem.W.toks_all_cons] at h
  cases e with
  | sp p w =>
    cases e' with
    | sp p' w' =>
      rw [at_, at_] at h
      simp only [List.cons_append, List.nil_append, List.cons.injEq, true_and, Sum.inl.injEq, Sum.inr.injEq] at h
      obtain ⟨h1, h2, _⟩ := h
      have : p = p' := by omega
      rw [this, h2]
    | kept w' =>
      rw [at_, kp_] at h
      simp only [List.cons_append, List.nil_append, List.cons.injEq, true_and, Sum.inr.injEq] at h
      exact absurd h.1 ne
  | kept w =>
    cases e' with
    | sp p' w' =>
      rw [at_, kp_] at h
      simp only [List.cons_append, List.nil_append, List.cons.injEq, true_and, Sum.inr.injEq] at h
      exact absurd h.1.symm ne
    | kept w' =>
      rw [kp_, kp_] at h
      simp only [List.cons_append, List.nil_append, List.cons.injEq, true_and, Sum.inr.injEq] at h
      rw [h.1]
theorem rowsx_rules {ru : List RRow} (h : RuNd ru) : RowsX (ru.map RRow.d) := ⟨rows_rules h, fun x hx y hy e => by
  obtain ⟨r, hr, rfl⟩ := List.mem_map.mp hx
  obtain ⟨r', hr', rfl⟩ := List.mem_map.mp hy
  obtain ⟨e1, e2⟩ := toks_str e
  rw [rund_same h r hr r' hr' (SX.S_inj e1) (en_toks e2)]⟩
theorem immAll_mem : ∀ {ds : List PyData}, immAll ds = true → ∀ d ∈ ds, imm d = true
  | [], _, d, hd => nomatch hd
  | x :: xs, h, d, hd => by
    have h : (imm x && immAll xs) = true := h
    rw [Bool.and_eq_true] at h
    rcases List.mem_cons.mp hd with rfl | hd
    · exact h.1
    · exact immAll_mem h.2 d hd
theorem immAll_of : ∀ {ds : List PyData}, (∀ d ∈ ds, imm d = true) → immAll ds = true
  | [], _ => rfl
  | x :: xs, h => by
    show (imm x && immAll xs) = true
    rw [h x List.mem_cons_self, immAll_of fun d hd => h d (List.mem_cons_of_mem _ hd)]
    rfl
theorem immAll_perm {ds es : List PyData} (p : es.Perm ds) (h : immAll ds = true) : immAll es = true := immAll_of fun d hd => immAll_mem h d (p.mem_iff.mp hd)
/-- all rows, in order -/
def Risen (K : PySem.W.Frag) (C : Addr) (Z H : Hp) (x : Addr) (rs : List SRow) (ms : List MRow) (ru : List RRow) (roof : Nat) : Prop := ∃ (dx rt p1 p2 p3 : Addr) (fs : List (Str × V)) (y1 y2 y3 : List V), H x = some (.ins C dx fs) ∧ fs.lookup (("risen" : String) : Str) = some (.ref rt) ∧ SqT K H rt [.int roof, .ref p1, .ref p2, .ref p3] ∧
  (H p1 = some (.lst y1) ∧ Z p1 = none ∧ DpAll K H y1 (srtR (rs.map SRow.d))) ∧ (H p2 = some (.lst y2) ∧ Z p2 = none ∧ DpAll K H y2 (srtR (ms.map MRow.d))) ∧ (H p3 = some (.lst y3) ∧ Z p3 = none ∧ DpAll K H y3 (srtR (ru.map RRow.d)))
theorem Risen.less {K : PySem.W.Frag} {C : Addr} {Z Z' H : Hp} {x : Addr} {rs : List SRow} {ms : List MRow} {ru : List RRow} {roof : Nat} (h : Risen K C Z' H x rs ms ru roof) (s : Same Z Z') : Risen K C Z H x rs ms ru roof := by
  obtain ⟨dx, rt, p1, p2, p3, fs, y1, y2, y3, h1, h2, h3, ⟨a1, b1, c1⟩, ⟨a2, b2, c2⟩, a3, b3, c3⟩ := h
  exact ⟨dx, rt, p1, p2, p3, fs, y1, y2, y3, h1, h2, h3, ⟨a1, s.free b1, c1⟩, ⟨a2, s.free b2, c2⟩, a3, s.free b3, c3⟩
theorem Risen.same {K : PySem.W.Frag} {C : Addr} {Z H H' : Hp} {x : Addr} {rs : List SRow} {ms : List MRow} {ru : List RRow} {roof : Nat} (h : Risen K C Z H x rs ms ru roof) (s : Same H H') : Risen K C Z H' x rs ms ru roof := by
  obtain ⟨dx, rt, p1, p2, p3, fs, y1, y2, y3, h1, h2, h3, ⟨a1, b1, c1⟩, ⟨a2, b2, c2⟩, a3, b3, c3⟩ := h
  exact ⟨dx, rt, p1, p2, p3, fs, y1, y2, y3, s _ _ h1, h2, Same.seqT s h3, ⟨s _ _ a1, b1, dpAll_same s c1⟩, ⟨s _ _ a2, b2, dpAll_same s c2⟩, s _ _ a3, b3, dpAll_same s c3⟩
theorem Risen.but {K : PySem.W.Frag} {C : Addr} {Z H H' : Hp} {x a : Addr} {b : List V} {rs : List SRow} {ms : List MRow} {ru : List RRow} {roof : Nat} (h : Risen K C Z H x rs ms ru roof) (i1 : immAll (srtR (rs.map SRow.d)) = true) (i2 : immAll (srtR (ms.map MRow.d)) = true) (i3 : immAll (srtR (ru.map RRow.d)) = true) (hZ : Z a ≠ none) (ha : H a = some (.lst b)) (s : But a H H') : Risen K C Z H' x rs ms ru roof := by
  obtain ⟨dx, rt, p1, p2, p3, fs, y1, y2, y3, h1, h2, h3, ⟨a1, b1, c1⟩, ⟨a2, b2, c2⟩, a3, b3, c3⟩ := h
  have k := KeepT.but ha s
  have ne : ∀ {p : Addr}, Z p = none → p ≠ a := fun e z => hZ (by rw [← z]; exact e)
  exact ⟨dx, rt, p1, p2, p3, fs, y1, y2, y3, s _ _ (fun z => by rw [z, ha] at h1; cases h1) h1, h2, KeepT.seqT k h3, ⟨s _ _ (ne b1) a1, b1, dpAll_imm k c1 i1⟩, ⟨s _ _ (ne b2) a2, b2, dpAll_imm k c2 i2⟩, s _ _ (ne b3) a3, b3, dpAll_imm k c3 i3⟩
def spGI (K : PySem.W.Frag) (P : Program) (w : World) (C : Addr) : Sp := fun vs H Q _ => ∃ (x dx ls lm lr : Addr) (roof : Nat) (sv mv rv : List V) (rs : List SRow) (ms : List MRow) (ru : List RRow), vs = [.ref x, .ref ls, .ref lm, .ref lr, .int roof] ∧ H x = some (.ins C dx []) ∧ H ls = some (.lst sv) ∧ H lm = some (.lst mv) ∧ H lr = some (.lst rv) ∧
  DpAll K H sv (rs.map SRow.d) ∧ DpAll K H mv (ms.map MRow.d) ∧ DpAll K H rv (ru.map RRow.d) ∧ GFit rs ms ru roof ∧ ∀ H', But x H H' → GrOk K P w C H H' x rs ms ru roof → Risen K C H H' x rs ms ru roof → Q .non H'
section
variable {P : Program} {w : World} {K : PySem.W.Frag} {mg : Str → Option Value} {base : Heap} {C : Addr}
theorem ok_GI {f : Addr} {fd : FuncData} (T : Gb mg) (gc : GCls K C) (ccap_in : C8.Cal P w K mg base 2 "cap_in" spCap []) (csorts_in : C8.Cal P w K mg base 4 "sorts_in" (spSortsIn K) []) (cmakings_in : C8.Cal P w K mg base 4 "makings_in" (spMaksIn K) []) (crules_in : C8.Cal P w K mg base 5 "rules_in" (spRulesIn K P w) []) (ckept_by : C8.Cal P w K mg base 1 "kept_by" (spKeptBy K P w) [])
    (F : FunD K "__init__" "Grammar.__init__" (defArgs s_GI) (defBody s_GI) (defScope s_GI) [] [("cap", .int 0)] f fd) : FnOk P w K mg base CX0 6 f fd P_GI (spGI K P w C) := by
  refine F.ok sc_GI (fun vs H Q E h => ?_) (fun cdv A outer s H vs Q E hr h => ?_)
  · obtain ⟨x, dx, ls, lm, lr, roof, sv, mv, rv, rs, ms, ru, rfl, _⟩ := h
    rfl
  · obtain ⟨x, dx, ls, lm, lr, roof, sv, mv, rv, rs, ms, ru, rfl, hx, hls, hlm, hlr, hsv, hmv, hrv, gf, q⟩ := h
    refine ⟨_, pss_cons (ps_fld (pv 0) (C8.pe_c ccap_in hr (by decide) (by rfl) (pa_cons (pv 4) pa_nil)) (by rfl))
      (pss_cons (ps_fld (pv 0) (C8.pe_c csorts_in hr (by decide) (by rfl) (pa_cons (pv 1) pa_nil)) (by rfl))
      (pss_cons (ps_fld (pv 0) (C8.pe_c cmakings_in hr (by decide) (by rfl) (pa_cons (pv 2) (pa_cons (pe_fld (pv 0) (by rfl)) pa_nil))) (by rfl))
      (pss_cons (ps_fld (pv 0) (C8.pe_c crules_in hr (by decide) (by rfl) (pa_cons (pv 3) (pa_cons (pe_fld (pv 0) (by rfl)) (pa_cons (pe_fld (pv 0) (by rfl)) (pa_cons (pv 4) pa_nil))))) (by rfl))
      (pss_cons (ps_fld (pv 0) (pe_lock (pe_dc (own := [("making", 5)]) rfl sc_GI.nd (pi_keys (pe_fld (pv 0) (by rfl))) (blkOk_by (own := [("making", 5)]) (N := N_GI) (sc := defScope s_GI) (by decide +kernel)) (fun _ _ _ _ _ => pg_name (i := 5) sc_GI.nd rfl (Or.inl rfl)) (fun _ _ _ _ _ => pts_nil) (fun _ _ _ _ _ => pv 5) (fun _ _ _ _ _ => C8.pe_c ckept_by hr (by decide) (by rfl) (pa_cons (pv 5) (pa_cons (pe_fldK (K' := K) (by rfl) (pv 0) (by rfl)) pa_nil))))) (by rfl))
      (pss_one (ps_fld (pv 0) (pe_tup (pa_cons (pv 4) (pa_cons (pe_callB (cr_sortX (hu65 hr)) (by rfl) T.sorted (by decide +kernel) (pa_cons (pv 1) pa_nil)) (pa_cons (pe_callB (cr_sortX (hu65 hr)) (by rfl) T.sorted (by decide +kernel) (pa_cons (pv 2) pa_nil)) (pa_cons (pe_callB (cr_sortX (hu65 hr)) (by rfl) T.sorted (by decide +kernel) (pa_cons (pv 3) pa_nil)) pa_nil))))) (by rfl))))))), ?_⟩
    have nls : ls ≠ x := fun z => by
      rw [z, hx] at hls
      cases hls
    have nlm : lm ≠ x := fun z => by
      rw [z, hx] at hlm
      cases hlm
    have nlr : lr ≠ x := fun z => by
      rw [z, hx] at hlr
      cases hlr
    have si : ∀ t ∈ rs.map sT, imm t.r = true := fun t ht => by
      obtain ⟨r', _, e⟩ := List.mem_map.mp ht
      rw [← e]
      exact sT_imm r'
    have mi : ∀ t ∈ ms.map mT, imm t.r = true := fun t ht => by
      obtain ⟨r', _, e⟩ := List.mem_map.mp ht
      rw [← e]
      exact mT_imm r'
    -- the cap
    refine ⟨_, rfl, roof, rfl, gf.rf, _, rfl, x, C, dx, [], rfl, hx, gc.c, gc.top, by decide, ?_⟩
    obtain ⟨H1, e1⟩ : ∃ H1, H1 = upd H x (.ins C dx (putF "top" (.int roof) [])) := ⟨_, rfl⟩
    rw [← e1]
    have hx1 : H1 x = some (.ins C dx (g1 (.int roof))) := by rw [e1, upd_same, pf1]
    have b1 : But x H H1 := e1 ▸ But.upd (But.refl x H)
    have k1 : KeepT H H1 := e1 ▸ KeepT.at_ hx ins_no
    -- the sorts
    refine ⟨_, rfl, ls, sv, rs, rfl, b1 _ _ nls hls, dpAll_imm k1 hsv (immAll_map SRow.imm rs), gf.so, fun H2 sd skv s2 nsd hsd htab => ?_⟩
    refine ⟨_, rfl, x, C, dx, _, rfl, s2 _ _ hx1, gc.c, gc.sort, by show 1 < 1000; decide, ?_⟩
    obtain ⟨H3, e3⟩ : ∃ H3, H3 = upd H2 x (.ins C dx (putF "sort_table" (.ref sd) (g1 (.int roof)))) := ⟨_, rfl⟩
    rw [← e3]
    have hx3 : H3 x = some (.ins C dx (g2 (.int roof) (.ref sd))) := by rw [e3, upd_same, pf2]
    have b23 : But x H2 H3 := e3 ▸ But.upd (But.refl x H2)
    have k23 : KeepT H2 H3 := e3 ▸ KeepT.at_ (s2 _ _ hx1) ins_no
    have b3 : But x H H3 := (b1.trans (But.of s2)).trans b23
    have k3 : KeepT H H3 := (k1.trans (KeepT.of s2)).trans k23
    have nsx : sd ≠ x := fun z => by
      rw [z, hx1] at nsd
      cases nsd
    have hsd3 := b23 _ _ nsx hsd
    have htab3 := htab.keep k23 si
    -- the makings
    refine ⟨_, rfl, _, rfl, x, C, dx, _, .ref sd, rfl, hx3, gc.c, gc.sort, lk2 _ _, lm, sd, mv, rs, ms, skv, rfl, b3 _ _ nlm hlm, dpAll_imm k3 hmv (immAll_map MRow.imm ms), gf.so, gf.nd, gf.ok, gf.m8, hsd3, htab3, fun H4 md kvs s4 nmd hmd hmtab => ?_⟩
    refine ⟨_, rfl, x, C, dx, _, rfl, s4 _ _ hx3, gc.c, gc.making, by show 2 < 1000; decide, ?_⟩
    obtain ⟨H5, e5⟩ : ∃ H5, H5 = upd H4 x (.ins C dx (putF "making_table" (.ref md) (g2 (.int roof) (.ref sd)))) := ⟨_, rfl⟩
    rw [← e5]
    have hx5 : H5 x = some (.ins C dx (g3 (.int roof) (.ref sd) (.ref md))) := by rw [e5, upd_same, pf3]
    have b45 : But x H4 H5 := e5 ▸ But.upd (But.refl x H4)
    have k45 : KeepT H4 H5 := e5 ▸ KeepT.at_ (s4 _ _ hx3) ins_no
    have b5 : But x H H5 := (b3.trans (But.of s4)).trans b45
    have k5 : KeepT H H5 := (k3.trans (KeepT.of s4)).trans k45
    have nmx : md ≠ x := fun z => by
      rw [z, hx3] at nmd
      cases nmd
    have hmd5 := b45 _ _ nmx hmd
    have hmtab5 := hmtab.keep k45 mi
    have hsd5 := b45 _ _ nsx (s4 _ _ hsd3)
    have htab5 := htab3.keep ((KeepT.of s4).trans k45) si
    -- the rules
    refine ⟨_, rfl, _, rfl, x, C, dx, _, .ref md, rfl, hx5, gc.c, gc.making, lk3 _ _ _, _, rfl, x, C, dx, _, .ref sd, rfl, hx5, gc.c, gc.sort, lk3b _ _ _, _, rfl, lr, md, sd, roof, rv, rs, ms, ru, rfl, b5 _ _ nlr hlr, dpAll_imm k5 hrv (immAll_map RRow.imm ru), ⟨⟨kvs, hmd5, hmtab5⟩, ⟨skv, hsd5, htab5⟩, gf.so, gf.nd, gf.ok⟩, gf.ra, gf.rn, gf.rl, gf.kf, fun H6 rd nvs s6 nrd hrd hpr => ?_⟩
    refine ⟨_, rfl, x, C, dx, _, rfl, s6 _ _ hx5, gc.c, gc.rule, by show 3 < 1000; decide, ?_⟩
    obtain ⟨H7, e7⟩ : ∃ H7, H7 = upd H6 x (.ins C dx (putF "rule_table" (.ref rd) (g3 (.int roof) (.ref sd) (.ref md)))) := ⟨_, rfl⟩
    rw [← e7]
    have hx7 : H7 x = some (.ins C dx (g4 (.int roof) (.ref sd) (.ref md) (.ref rd))) := by rw [e7, upd_same, pf4]
    have b67 : But x H6 H7 := e7 ▸ But.upd (But.refl x H6)
    have k67 : KeepT H6 H7 := e7 ▸ KeepT.at_ (s6 _ _ hx5) ins_no
    have b7 : But x H H7 := (b5.trans (But.of s6)).trans b67
    have k7 : KeepT H H7 := (k5.trans (KeepT.of s6)).trans k67
    have nrx : rd ≠ x := fun z => by
      rw [z, hx5] at nrd
      cases nrd
    have nrm : rd ≠ md := fun z => by
      rw [z, hmd5] at nrd
      cases nrd
    have hrd7 := b67 _ _ nrx hrd
    have hpr7 := hpr.keep k67
    have hmd7 := b67 _ _ nmx (s6 _ _ hmd5)
    have hmtab7 := hmtab5.keep ((KeepT.of s6).trans k67) mi
    have hsd7 := b67 _ _ nsx (s6 _ _ hsd5)
    have htab7 := htab5.keep ((KeepT.of s6).trans k67) si
    -- what is kept
    refine ⟨md, .dK kvs, hmd7, trivial, fun od => ?_⟩
    have nxm : x ≠ md := Ne.symm nmx
    have k8 : KeepT H7 (upd H7 md (.frz od (.dK kvs))) := KeepT.at_ hmd7 dK_no
    have hx8 : (upd H7 md (.frz od (.dK kvs))) x = some (.ins C dx (g4 (.int roof) (.ref sd) (.ref md) (.ref rd))) := by rw [upd_ne nxm]; exact hx7
    have hrd8 : (upd H7 md (.frz od (.dK kvs))) rd = some (dnO P w rd nvs) := by rw [upd_ne nrm]; exact hrd7
    have hfz8 : (upd H7 md (.frz od (.dK kvs))) md = some (.frz od (.dK kvs)) := upd_same
    refine ⟨_, rfl, x, C, dx, _, .ref md, rfl, hx8, gc.c, gc.making, lk4 _ _ _ _, md, od, rfl, .inl ⟨kvs, hfz8, fun D nD => ?_⟩⟩
    have lk : kvs.length = ms.length := by
      have := hmtab7.len
      rw [List.length_map] at this
      exact this
    have h8 := gf.m8
    refine dc_it walk_keys (fun i Y => Same (upd H7 md (.frz od (.dK kvs))) Y ∧ ∃ kk, Y D = some (.dK kk) ∧ (kk.length ≤ i ∧ ∀ k u, valV kk k = some u → ∃ m ∈ ms.take i, k = kS m.nm) ∧ ∀ m ∈ ms.take i, ∃ l ys, valV kk (kS m.nm) = some (.ref l) ∧ H l = none ∧ l ≠ D ∧ Y l = some (.lst (ys.map V.str)) ∧ ys.Perm (gotTx ((keptNames m.nm ru).map SX.S)) ∧ sortedS ys = true)
      ⟨same_upd nD, [], upd_same, ⟨Nat.le_refl _, (fun k u h => nomatch h)⟩, fun m hm => nomatch hm⟩ (fun i Y _ h => h.1 _ _ hfz8) ?_ ?_
    · rintro i v Y0 Y hi ⟨sY, kk, hD, ⟨hkl, hkin⟩, hall⟩ ⟨rfl, k, v', hk, rfl⟩
      obtain ⟨m, hm, rfl⟩ : ∃ m, ms[i]? = some m ∧ k = kS m.nm := tab_at hmtab7 hk
      have hmm := List.mem_of_getElem? hm
      have few := gf.ko m hmm
      refine ⟨rfl, yesT ?_⟩
      refine ⟨_, rfl, _, rfl, _, rfl, x, C, dx, _, .ref rd, rfl, sY _ _ hx8, gc.c, gc.rule, lk4b _ _ _ _, m.nm, rd, nvs, ru, rfl, sY _ _ hrd8, (hpr7.keep k8).keep (KeepT.of sY), gf.rn, gf.rl, fun r' hr' => ?_, by omega, fun Y2 l ys s2' n2 hl2 hys hso => ?_⟩
      · have h' := gf.ra r' hr'
        obtain ⟨o', _, h2, _⟩ := op_of h'.op
        rw [h'.ar, h2]
        exact op_n3 o'
      have hD2 := s2' _ _ hD
      have nlD : l ≠ D := fun z => by
        rw [z, hD] at n2
        cases n2
      have nlH : H l = none := by
        cases hz : H l with
        | none => rfl
        | some o =>
          have nlx : l ≠ x := fun z => by
            rw [z, sY _ _ hx8] at n2
            cases n2
          have h7 := b7 _ _ nlx hz
          by_cases hlm7 : l = md
          · rw [hlm7, sY _ _ hfz8] at n2
            cases n2
          · have h8 : (upd H7 md (.frz od (.dK kvs))) l = some o := by
              rw [upd_ne hlm7]
              exact h7
            rw [sY _ _ h8] at n2
            cases n2
      refine ⟨kk, kS m.nm, rfl, hD2, small1000 (by omega), Same.at_ (sY.trans s2') nD, _, upd_same, ⟨?_, fun k u h => ?_⟩, fun m' hm' => ?_⟩
      · have := length_putK kk (kS m.nm) (.ref l)
        omega
      · rw [valV_put] at h
        rw [List.take_add_one, hm]
        by_cases z : k = kS m.nm
        · exact ⟨m, List.mem_append_right _ (List.mem_singleton.mpr rfl), z⟩
        · rw [if_neg z] at h
          obtain ⟨m', h1, h2⟩ := hkin k u h
          exact ⟨m', List.mem_append_left _ h1, h2⟩
      · rw [List.take_add_one, hm] at hm'
        rw [valV_put]
        rcases List.mem_append.mp hm' with hm' | hm'
        · obtain ⟨l', ys', h1, h0, h2, h3, h4, h5⟩ := hall m' hm'
          have nn : m'.nm ≠ m.nm := fun z => new_name (f := MRow.nm) gf.nd hm (z ▸ List.mem_map_of_mem hm')
          refine ⟨l', ys', ?_, h0, h2, by rw [upd_ne h2]; exact s2' _ _ h3, h4, h5⟩
          rw [if_neg (fun z => nn (kS_inj z))]
          exact h1
        · have : m' = m := by simpa using hm'
          subst this
          exact ⟨l, ys, if_pos rfl, nlH, nlD, by rw [upd_ne nlD]; exact hl2, hys, hso⟩
    · rintro Y ⟨sY, kk, hD, ⟨hkl, hkin⟩, hall⟩
      rw [lk, List.take_length] at hall hkin
      refine ⟨sY _ _ hfz8, ?_⟩
      have sZ : Same H7 (upd Y md (.dK kvs)) := fun b o hb => by
        by_cases z : b = md
        · rw [z, hmd7] at hb
          rw [z, upd_same]
          exact hb
        · rw [upd_ne z]
          exact sY b o (by rw [upd_ne z]; exact hb)
      have nDm : D ≠ md := fun z => by
        rw [z, hfz8] at nD
        cases nD
      have ktZ : KTab H (upd Y md (.dK kvs)) D ms ru := ⟨kk, ⟨by rw [upd_ne nDm]; exact hD, hkin⟩, fun m hm => by
        obtain ⟨l, ys, h1, h0, h2, h3, h4, h5⟩ := hall m hm
        refine ⟨l, ys, h1, h0, ?_, h4, h5⟩
        rw [upd_ne (fun z => by rw [z, sY _ _ hfz8] at h3; cases h3)]
        exact h3⟩
      obtain ⟨Z, eZ⟩ : ∃ Z, Z = upd Y md (.dK kvs) := ⟨_, rfl⟩
      rw [← eZ] at sZ ktZ ⊢
      refine ⟨_, rfl, x, C, dx, _, rfl, sZ _ _ hx7, gc.c, gc.kept, by show 4 < 1000; decide, ?_⟩
      obtain ⟨H9, e9⟩ : ∃ H9, H9 = upd Z x (.ins C dx (putF "kept_table" (.ref D) (g4 (.int roof) (.ref sd) (.ref md) (.ref rd)))) := ⟨_, rfl⟩
      rw [← e9]
      have hx9 : H9 x = some (.ins C dx (g5 (.int roof) (.ref sd) (.ref md) (.ref rd) (.ref D))) := by rw [e9, upd_same, pf5]
      have b9' : But x Z H9 := e9 ▸ But.upd (But.refl x Z)
      have k9' : KeepT Z H9 := e9 ▸ KeepT.at_ (sZ _ _ hx7) ins_no
      have b9 : But x H H9 := (b7.trans (But.of sZ)).trans b9'
      have k9 : KeepT H H9 := (k7.trans (KeepT.of sZ)).trans k9'
      -- the rows, risen
      refine ⟨_, rfl, _, rfl, ls, sv, _, rfl, SqL.of (b9 _ _ nls hls), dpAll_imm k9 hsv (immAll_map SRow.imm rs), rowsx_sorts gf.so, fun ys1 p1 pm1 hy1 n1 => ?_⟩
      have sA := same_upd (o := .lst ys1) n1
      refine ⟨_, rfl, lm, mv, _, rfl, SqL.of (sA _ _ (b9 _ _ nlm hlm)), dpAll_same sA (dpAll_imm k9 hmv (immAll_map MRow.imm ms)), rowsx_maks gf.nd, fun ys2 p2 pm2 hy2 n2 => ?_⟩
      have sB := sA.trans (same_upd (o := .lst ys2) n2)
      refine ⟨_, rfl, lr, rv, _, rfl, SqL.of (sB _ _ (b9 _ _ nlr hlr)), dpAll_same sB (dpAll_imm k9 hrv (immAll_map RRow.imm ru)), rowsx_rules gf.rn, fun ys3 p3 pm3 hy3 n3 => ?_⟩
      have sC := sB.trans (same_upd (o := .lst ys3) n3)
      refine ⟨by show 4 ≤ sizeLine; decide, fun rt nrt => ?_⟩
      have sD := sC.trans (same_upd (o := .tup [.int roof, .ref p1, .ref p2, .ref p3]) nrt)
      refine ⟨_, rfl, x, C, dx, _, rfl, sD _ _ hx9, gc.c, gc.risen, by show 5 < 1000; decide, ?_⟩
      have bZW := (b9'.trans (But.of sD)).trans (But.upd (o := .ins C dx (putF "risen" (.ref rt) (g5 (.int roof) (.ref sd) (.ref md) (.ref rd) (.ref D)))) (But.refl x _))
      have kZW := (k9'.trans (KeepT.of sD)).trans (KeepT.at_ (o := .ins C dx (putF "risen" (.ref rt) (g5 (.int roof) (.ref sd) (.ref md) (.ref rd) (.ref D)))) (sD _ _ hx9) ins_no)
      have nDx : D ≠ x := fun z => by
        rw [z, hx8] at nD
        cases nD
      obtain ⟨kk', hkk, hkt⟩ := ktZ
      refine q _ ((b7.trans (But.of sZ)).trans bZW) ⟨dx, sd, md, rd, D, rt, by rw [upd_same, pf6], ⟨skv, bZW _ _ nsx (sZ _ _ hsd7), htab7.keep ((KeepT.of sZ).trans kZW) si⟩, ⟨kvs, bZW _ _ nmx (sZ _ _ hmd7), hmtab7.keep ((KeepT.of sZ).trans kZW) mi⟩, ⟨nvs, bZW _ _ nrx (sZ _ _ hrd7), hpr7.keep ((KeepT.of sZ).trans kZW)⟩, ⟨kk', ⟨bZW _ _ nDx hkk.1, hkk.2⟩, fun m hm => ?_⟩⟩ ?_
      · obtain ⟨l, ys, h1, h0, h3, h4, h5⟩ := hkt m hm
        exact ⟨l, ys, h1, h0, bZW _ _ (fun z => by rw [z, sZ _ _ hx7] at h3; cases h3) h3, h4, h5⟩
      · have fr : ∀ {c : Addr}, H9 c = none → H c = none := fun {c} h => by
          cases e : H c with
          | none => rfl
          | some o =>
            by_cases z : c = x
            · rw [z, hx9] at h
              cases h
            · have := b9 c o z e
              rw [h] at this
              cases this
        have hF : ∀ {c : Addr} {o : HO}, c ≠ x → (upd (upd (upd (upd H9 p1 (.lst ys1)) p2 (.lst ys2)) p3 (.lst ys3)) rt (.tup [.int roof, .ref p1, .ref p2, .ref p3])) c = some o → (upd (upd (upd (upd (upd H9 p1 (.lst ys1)) p2 (.lst ys2)) p3 (.lst ys3)) rt (.tup [.int roof, .ref p1, .ref p2, .ref p3])) x (.ins C dx (putF "risen" (.ref rt) (g5 (.int roof) (.ref sd) (.ref md) (.ref rd) (.ref D))))) c = some o := fun {c o} n h => by
          rw [upd_ne n]
          exact h
        have nx1 : p1 ≠ x := fun z => by
          rw [z, hx9] at n1
          cases n1
        have nx2 : p2 ≠ x := fun z => by
          rw [z, sA _ _ hx9] at n2
          cases n2
        have nx3 : p3 ≠ x := fun z => by
          rw [z, sB _ _ hx9] at n3
          cases n3
        have nxr : rt ≠ x := fun z => by
          rw [z, sC _ _ hx9] at nrt
          cases nrt
        have kF : KeepT (upd (upd (upd (upd H9 p1 (.lst ys1)) p2 (.lst ys2)) p3 (.lst ys3)) rt (.tup [.int roof, .ref p1, .ref p2, .ref p3])) (upd (upd (upd (upd (upd H9 p1 (.lst ys1)) p2 (.lst ys2)) p3 (.lst ys3)) rt (.tup [.int roof, .ref p1, .ref p2, .ref p3])) x (.ins C dx (putF "risen" (.ref rt) (g5 (.int roof) (.ref sd) (.ref md) (.ref rd) (.ref D))))) := KeepT.at_ (sD _ _ hx9) ins_no
        have sBD := (same_upd (o := .lst ys2) n2).trans ((same_upd (o := .lst ys3) n3).trans (same_upd (o := .tup [.int roof, .ref p1, .ref p2, .ref p3]) nrt))
        have sCD := (same_upd (o := .lst ys3) n3).trans (same_upd (o := .tup [.int roof, .ref p1, .ref p2, .ref p3]) nrt)
        have sDD := same_upd (o := .tup [.int roof, .ref p1, .ref p2, .ref p3]) nrt
        refine ⟨dx, rt, p1, p2, p3, _, ys1, ys2, ys3, by rw [upd_same], ?_, (KeepT.seqT kF (SqT.of upd_same)), ⟨hF nx1 (sBD _ _ upd_same), fr n1, ?_⟩, ⟨hF nx2 (sCD _ _ upd_same), fr (Same.free sA n2), ?_⟩, ⟨hF nx3 (sDD _ _ upd_same), fr (Same.free sB n3), ?_⟩⟩
        · rw [pf6]
          with_unfolding_all rfl
        · exact dpAll_imm (fun c o t h => kF c o t (sD _ _ h)) hy1 (immAll_perm pm1 (immAll_map SRow.imm rs))
        · exact dpAll_imm (fun c o t h => kF c o t (sBD _ _ h)) hy2 (immAll_perm pm2 (immAll_map MRow.imm ms))
        · exact dpAll_imm (fun c o t h => kF c o t (sCD _ _ h)) hy3 (immAll_perm pm3 (immAll_map RRow.imm ru))
end
/-! ### what is drawn is a grammar -/
theorem kept_in {m w : List Nat} {ru : List RRow} (h : w ∈ keptNames m ru) : ∃ r ∈ ru, r.ma = m ∧ ∃ o ∈ rOds r, w ∈ odName o := by
  unfold keptNames odsOf at h
  obtain ⟨o, ho, hw⟩ := List.mem_flatMap.mp h
  obtain ⟨r, hr, ho⟩ := List.mem_flatMap.mp ho
  obtain ⟨hr, e⟩ := List.mem_filter.mp hr
  exact ⟨r, hr, of_decide_eq_true e, o, ho, hw⟩
structure RuFit (rs : List SRow) (ms : List MRow) (ru : List RRow) (roof : Nat) : Prop where
  ra : ∀ r ∈ ru, RuleOk rs ms roof r
  rn : RuNd ru
  rl : ru.length ≤ 30 * ms.length
  ks : ∀ m ∈ ms, ∃ ks : List (List Nat), ks.length ≤ 2 ∧ ∀ r ∈ ru, r.ma = m.nm → ∀ o ∈ rOds r, ∀ w ∈ odName o, w ∈ ks
theorem ru_fit {rs : List SRow} {roof : Nat} : ∀ {ms : List MRow} {ru : List RRow}, RuAll rs roof ms ru → (ms.map MRow.nm).Nodup → RuFit rs ms ru roof := by
  intro ms ru h
  induction h with
  | nil =>
    intro _
    refine ⟨?_, List.Pairwise.nil, Nat.le_refl _, ?_⟩
    · intro r h
      cases h
    · intro m h
      cases h
  | @snoc ms ru pr mr ks h hok ih =>
    intro hn
    rw [List.map_append] at hn
    obtain ⟨n1, _, n3⟩ := List.nodup_append.mp hn
    have F := ih n1
    have old : ∀ m ∈ ms, m.nm ≠ mr.nm := fun m hm => n3 _ (List.mem_map_of_mem hm) _ (List.mem_map_of_mem (List.mem_singleton.mpr rfl))
    have rold : ∀ r ∈ ru, r.ma ≠ mr.nm := fun r hr => by
      obtain ⟨m, hm, e, _⟩ := (F.ra r hr).ex
      rw [e]
      exact old m hm
    refine ⟨fun r hr => ?_, ?_, ?_, fun m hm => ?_⟩
    · rcases List.mem_append.mp hr with hr | hr
      · obtain ⟨⟨m, hm, e⟩, h2, h3⟩ := F.ra r hr
        exact ⟨⟨m, List.mem_append_left _ hm, e⟩, h2, h3⟩
      · exact ⟨⟨mr, List.mem_append_right _ (List.mem_singleton.mpr rfl), hok.ma r hr, hok.tg r hr, hok.os r hr⟩, hok.op r hr, hok.ar r hr⟩
    · refine List.pairwise_append.mpr ⟨F.rn, ?_, fun r hr r' hr' e => absurd (e.trans (hok.ma r' hr')) (rold r hr)⟩
      have hp : pr.Pairwise fun r r' => r.tg ≠ r'.tg := List.pairwise_map.mp hok.nd
      exact hp.imp (fun {a b} h (_ : a.ma = b.ma) => h)
    · rw [List.length_append, List.length_append, List.length_singleton]
      have := F.rl
      have := hok.le
      omega
    · rcases List.mem_append.mp hm with hm | hm
      · obtain ⟨k0, h2, hk⟩ := F.ks m hm
        refine ⟨k0, h2, fun r hr e => ?_⟩
        rcases List.mem_append.mp hr with hr | hr
        · exact hk r hr e
        · exact absurd (e.symm.trans (hok.ma r hr)) (old m hm)
      · obtain rfl := List.mem_singleton.mp hm
        refine ⟨ks, hok.k2, fun r hr e o ho w hw => ?_⟩
        rcases List.mem_append.mp hr with hr | hr
        · exact absurd e (rold r hr)
        · rcases List.mem_cons.mp ho with rfl | ho
          · exact hok.kt r hr w hw
          · exact hok.ko r hr o ho w hw
theorem gfit {rs : List SRow} {ms : List MRow} {ru : List RRow} {roof : Nat} (g : GramOk rs ms ru roof) : GFit rs ms ru roof := by
  have F := ru_fit g.ru g.nd
  have m8 := g.m8
  have rl := F.rl
  have few : ∀ m ∈ ms, ∃ ks : List (List Nat), ks.length ≤ 2 ∧ ∀ w ∈ keptNames m.nm ru, w ∈ ks := fun m hm => by
    obtain ⟨ks, h2, hk⟩ := F.ks m hm
    refine ⟨ks, h2, fun w hw => ?_⟩
    obtain ⟨r, hr, e, o, ho, hw⟩ := kept_in hw
    exact hk r hr e o ho w hw
  refine ⟨g.so, g.nd, g.ok, g.m8, F.ra, F.rn, by omega, fun r hr => ?_, fun m hm => ?_, g.rf⟩
  · obtain ⟨m, hm, e, _⟩ := (F.ra r hr).ex
    rw [e]
    exact few m hm
  · obtain ⟨ks, h2, hk⟩ := few m hm
    refine Nat.le_trans (nodup_leA (f := ks.map SX.S) (gotTx_nodup _) fun u hu => ?_) (by rw [List.length_map]; exact h2)
    obtain ⟨w, hw, rfl⟩ := List.mem_map.mp (gotTx_mem.mp hu)
    exact List.mem_map_of_mem (hk w hw)
/-! ### the drawing, its rules by their targets followed -/
def HasIn (K : PySem.W.Frag) (P : Program) (w : World) (Y : Hp) (gd : Addr) (ru : List RRow) : Prop := ∃ kvs hd nvs, Y gd = some (.dK kvs) ∧ valV kvs (Sum.inr "has") = some (.ref hd) ∧ hd ≠ gd ∧ Y hd = some (dnO P w hd nvs) ∧ RPr K Y nvs ru
theorem HasIn.but {K : PySem.W.Frag} {P : Program} {w : World} {Y Z : Hp} {a gd : Addr} {b : List V} {ru : List RRow} (h : HasIn K P w Y gd ru) (hb : Y a = some (.lst b)) (t : But a Y Z) : HasIn K P w Z gd ru := by
  obtain ⟨kvs, hd, nvs, h1, h2, h3, h4, h5⟩ := h
  exact ⟨kvs, hd, nvs, t _ _ (fun z => by rw [z, hb] at h1; cases h1) h1, h2, h3, t _ _ (fun z => by
    rw [z, hb] at h4
    have h4 := Option.some.inj h4
    cases h4) h4, h5.keep (KeepT.but hb t)⟩
theorem HasIn.same {K : PySem.W.Frag} {P : Program} {w : World} {Y Z : Hp} {gd : Addr} {ru : List RRow} (h : HasIn K P w Y gd ru) (t : Same Y Z) : HasIn K P w Z gd ru := by
  obtain ⟨kvs, hd, nvs, h1, h2, h3, h4, h5⟩ := h
  exact ⟨kvs, hd, nvs, t _ _ h1, h2, h3, t _ _ h4, h5.keep (KeepT.of t)⟩
def HasK (K : PySem.W.Frag) (U : Hp) (k : Addr × PyData × V) (r : RRow) : Prop := k.2.1 = .tuple [strD r.ma, r.tg.d] ∧ Dp K U k.2.2 (.tuple [strD r.op, .tuple (r.os.map Od.d)])
theorem HasK.keep {K : PySem.W.Frag} {U U' : Hp} (t : KeepT U U') {k : Addr × PyData × V} {r : RRow} (h : HasK K U k r) : HasK K U' k r := ⟨h.1, dp_imm t h.2 r.vd_imm⟩
theorem has_keys {K : PySem.W.Frag} {U : Hp} : ∀ {ks : List (Addr × PyData × V)} {ru : List RRow}, Paired (HasK K U) ks ru → (ks.map neOf).map (·.1) = ru.map fun r => keyD r.kd
  | _, _, .nil => rfl
  | _, _, .cons (a := k) a h => by
    rw [List.map_cons, List.map_cons, List.map_cons, has_keys h]
    show keyD k.2.1 :: _ = _
    rw [a.1]
    rfl
theorem has_nd : ∀ {ru : List RRow}, RuNd ru → (ru.map fun r => keyD r.kd).Nodup
  | [], _ => List.nodup_nil
  | r :: ru, h => by
    unfold RuNd at h
    rw [List.pairwise_cons] at h
    rw [List.map_cons, List.nodup_cons]
    refine ⟨fun z => ?_, has_nd h.2⟩
    obtain ⟨r', hr', e⟩ := List.mem_map.mp z
    obtain ⟨e1, e2⟩ := kd_inj e
    exact h.1 r' hr' e1.symm e2.symm
theorem has_pr {K : PySem.W.Frag} {U U' : Hp} (s : Same U U') : ∀ {ps : List Addr} {ks : List (Addr × PyData × V)} {ru : List RRow}, Paired (fun p k => SqT K U p [.ref k.1, k.2.2] ∧ Dp K U (.ref k.1) k.2.1 ∧ imm k.2.1 = true ∧ (keyD k.2.1).depth ≤ 8) ps ks → Paired (HasK K U) ks ru → RPr K U' (ks.map neOf) ru
  | _, _, _, .nil, .nil => .nil
  | _, _, _, .cons (b := k) a h, .cons (b := r) c g => by
    refine .cons ⟨?_, ?_, ?_⟩ (has_pr s h g)
    · show keyD k.2.1 = _
      rw [c.1]
      rfl
    · have := dp_same s a.2.1
      rw [c.1] at this
      exact this
    · exact dp_same s c.2
/-- [(row[0], row[1:]) for row in rows] -/
theorem lc_of5 {K : PySem.W.Frag} {L D : Addr} {vs : List V} {ts : List T3} {x0 x1 x2 x3 x4 x5 : Option V} {Y : Hp} {Qd : Hp → Prop} (hL : Y L = some (.lst vs)) (hv : DpAll K Y vs (ts.map T3.d)) (hi : ∀ t ∈ ts, imm t.r = true) (hl : ts.length ≤ 100) (nD : Y D = none)
    (hd : ∀ (U : Hp) (ps : List Addr), Same Y U → U D = some (.lst (ps.map V.ref)) → Prs K U ps ts → Qd U) :
    ∃ W : Nat → Nat → Hp → Prop, (∃ m, W 0 m (upd Y D (.lst []))) ∧ ∀ i m H, W i m H →
      ((Itl K L).stop i H ∧ Qd H) ∨ ((Itl K L).go i H ∧ ∃ Nx : Hp → Prop, (∀ H', Nx H' → ∃ m', m' < m ∧ W (i + 1) m' H') ∧ ∀ x H', (Itl K L).yld i H x H' → gName 5 x (wipe [x0, x1, x2, x3, x4, x5] [5]) H' fun σ2 H2 => wipe σ2 [5] = wipe [x0, x1, x2, x3, x4, x5] [5] ∧ tYes σ2 H2 fun b H3 =>
        if b = true then tTup (tCons (tOp (rIxT K) (tVar 5) (tC (V.int 0))) (tCons (tSl (rSlAny K) (tVar 5) (tPart (tC (V.int 1))) tNoPart) tNil)) σ2 H3 fun y H4 => ∃ acc, H4 D = some (.lst acc) ∧ acc.length < sizeLine ∧ Nx (upd H4 D (.lst (acc ++ [y]))) else Nx H3) := by
  have lv := dpAll_len hv
  rw [List.length_map] at lv
  refine lc_list (K := K) (a := L) (xs := vs) (fun j U => Same Y U ∧ ∃ ps : List Addr, U D = some (.lst (ps.map V.ref)) ∧ Prs K U ps (ts.take j)) ⟨same_upd nD, [], upd_same, .nil⟩ (fun j U _ h => SqL.of (h.1 _ _ hL)) ?_ ?_
  · rintro j x U hx ⟨sU, ps, hD, hp⟩
    obtain ⟨dd, hdd, hxd⟩ := dpAll_at hv hx
    rw [List.getElem?_map] at hdd
    obtain ⟨t, ht, rfl⟩ : ∃ t, ts[j]? = some t ∧ dd = t.d := by
      cases h : ts[j]? with
      | none => rw [h] at hdd; cases hdd
      | some e => rw [h] at hdd; exact ⟨e, rfl, (Option.some.inj hdd).symm⟩
    have hj : j < ts.length := (List.getElem?_eq_some_iff.mp ht).1
    have tk : ts.take (j + 1) = ts.take j ++ [t] := by rw [List.take_add_one, ht]; rfl
    have lp := paired_len hp
    rw [List.length_take] at lp
    obtain ⟨q, v1, v2, rfl, hq, h1, h2⟩ := t3_at (dp_same sU hxd)
    refine ⟨rfl, yesT ?_⟩
    refine ⟨_, rfl, q, _, 0, .str (SX.S t.k), rfl, rfl, hq, atI_nat (j := 0) rfl, _, rfl, 1, rfl, q, _, rfl, hq, fun U2 t2 s2 ht2 => ?_⟩
    have ht2 : SqT K U2 t2 [v1, v2] := ht2
    refine ⟨by show 2 ≤ sizeLine; decide, fun p3 n3 => ?_⟩
    have s3 := same_upd (o := .tup [.str (SX.S t.k), .ref t2]) n3
    have s23 := s2.trans s3
    have hD3 := s23 _ _ hD
    refine ⟨_, hD3, small1000 (by rw [List.length_map]; omega), ?_, ps ++ [p3], ?_, ?_⟩
    · exact Same.at_ (sU.trans s23) nD
    · rw [List.map_append]
      exact upd_same
    · rw [tk]
      have kk : KeepT (upd U2 p3 (.tup [.str (SX.S t.k), .ref t2])) (upd (upd U2 p3 (.tup [.str (SX.S t.k), .ref t2])) D (.lst (ps.map V.ref ++ [.ref p3]))) := KeepT.at_ hD3 lst_no
      have hit := hi t (List.mem_of_getElem? ht)
      have dv : Dp K U2 (.ref t2) t.r := .tup ht2 (.cons (dp_same s2 h1) (.cons (dp_same s2 h2) .nil))
      exact paired_snoc (prs_keep ((KeepT.of s23).trans kk) (fun t h => hi t (List.mem_of_mem_take h)) hp) ⟨.ref t2, kk.seqT (SqT.of upd_same), dp_imm ((KeepT.of s3).trans kk) dv hit⟩
  · rintro U ⟨sU, ps, hD, hp⟩
    rw [lv, List.take_length] at hp
    exact hd U ps sU hD hp

abbrev s__law_sorted_out : Stmt := top 56
abbrev N__law_sorted_out : List Str := ["_law_roof", "_law_sorts", "_law_makings", "_law_rules", "_law_made", "_law_row"]
abbrev P__law_sorted_out : List Str := ["_law_roof", "_law_sorts", "_law_makings", "_law_rules"]
theorem sc__law_sorted_out : FnScope N__law_sorted_out P__law_sorted_out (defScope s__law_sorted_out) := ⟨rfl, rfl, rfl, by decide +kernel, rfl, by decide +kernel, by decide +kernel⟩
structure So6o (mg : Str → Option Value) : Prop where
  dict : mg "dict" = none
structure Si6 (K : PySem.W.Frag) (H : Hp) (ls lm lr : Addr) (rs : List SRow) (ms : List MRow) (ru : List RRow) (sv mv rv : List V) : Prop where
  hls : H ls = some (.lst sv)
  hlm : H lm = some (.lst mv)
  hlr : H lr = some (.lst rv)
  dsv : DpAll K H sv (rs.map SRow.d)
  dmv : DpAll K H mv (ms.map MRow.d)
  drv : DpAll K H rv (ru.map RRow.d)
  ns : (rs.map SRow.nm).Nodup
  nm : (ms.map MRow.nm).Nodup
  nr : RuNd ru
  l1 : rs.length ≤ 100
  l2 : ms.length ≤ 100
  l3 : ru.length ≤ 300
theorem Si6.go {K : PySem.W.Frag} {H H' : Hp} {ls lm lr : Addr} {rs : List SRow} {ms : List MRow} {ru : List RRow} {sv mv rv : List V} (h : Si6 K H ls lm lr rs ms ru sv mv rv) (s : Same H H') : Si6 K H' ls lm lr rs ms ru sv mv rv :=
  ⟨s _ _ h.hls, s _ _ h.hlm, s _ _ h.hlr, dpAll_same s h.dsv, dpAll_same s h.dmv, dpAll_same s h.drv, h.ns, h.nm, h.nr, h.l1, h.l2, h.l3⟩
def spSorted (K : PySem.W.Frag) (P : Program) (w : World) : Sp := fun vs H Q _ => ∃ (roof : Nat) (a ls lm lr : Addr) (rs : List SRow) (ms : List MRow) (ru : List RRow) (sv mv rv : List V), vs = [.int roof, .ref ls, .ref lm, .ref lr] ∧ Si6 K H ls lm lr rs ms ru sv mv rv ∧ ls ≠ a ∧ lm ≠ a ∧ lr ≠ a ∧
  ∀ (H' : Hp) (gd : Addr), Same H H' → H gd = none → GramIn K H' a gd rs ms ru roof → HasIn K P w H' gd ru → Q (.ref gd) H'
def spSorted8 (K : PySem.W.Frag) (P : Program) (w : World) : Sp := fun vs H Q _ => ∃ (roof : Nat) (ls lm lr : Addr) (rs : List SRow) (ms : List MRow) (ru : List RRow) (sv mv rv : List V), vs = [.int roof, .ref ls, .ref lm, .ref lr] ∧ Si6 K H ls lm lr rs ms ru sv mv rv ∧
  ∀ (H' : Hp) (gd : Addr), Same H H' → H gd = none → (∀ a, ls ≠ a → lm ≠ a → lr ≠ a → GramIn K H' a gd rs ms ru roof) → HasIn K P w H' gd ru → Q (.ref gd) H'
section
variable {P : Program} {w : World} {K : PySem.W.Frag} {mg : Str → Option Value} {base : Heap}
theorem ok_sorted8 (T : So6o mg) (D : Dd K mg "_law_sorted_out" s__law_sorted_out P__law_sorted_out) : C8.Cal P w K mg base 1 "_law_sorted_out" (spSorted8 K P w) [] := by
  refine D.cal sc__law_sorted_out (fun vs H Q E h => ?_) (fun f cdv A outer s H vs Q E hr h => ?_)
  · obtain ⟨roof, ls, lm, lr, rs, ms, ru, sv, mv, rv, rfl, _⟩ := h
    rfl
  · obtain ⟨roof, ls, lm, lr, rs, ms, ru, sv, mv, rv, rfl, si, q⟩ := h
    refine ⟨_, (C8.pss_cut (ps_set (i := 4) sc__law_sorted_out.nd rfl (Or.inl rfl) (pe_disp (pps_cons pe_str (pv 0) (pps_cons pe_str (pv 1) (pps_cons pe_str (pv 2) (pps_cons pe_str (pv 3) pps_nil)))) (by rfl) (by rfl) (fun z => by cases z) (by decide)))
        (C8.pss_cut (ps_dput (hu_of hr) (pv 4) pe_str (pe_callTy (call_dictP rfl) (by rfl) T.dict (by decide +kernel) (pa_cons (pe_lc (own := [("_law_row", 5)]) (by exact rfl) sc__law_sorted_out.nd (pi_list (pv 1)) (blkOk_by (own := [("_law_row", 5)]) (N := N__law_sorted_out) (sc := defScope s__law_sorted_out) (by decide +kernel)) (fun _ _ _ _ _ => (pg_name (i := 5) sc__law_sorted_out.nd rfl (Or.inl rfl))) (fun _ _ _ _ _ => pts_nil) (fun _ _ _ _ _ => (pe_tup (pa_cons (pe_ix (r := rIxT K) ix_tup (pv 5) pe_int (fun _ _ => rfl)) (pa_cons (pe_slice (r := rSlAny K) sl_any (pv 5) (po_some pe_int) po_none) pa_nil))))) pa_nil)) (by rfl))
        (C8.pss_cut (ps_dput (hu_of hr) (pv 4) pe_str (pe_callTy (call_dictP rfl) (by rfl) T.dict (by decide +kernel) (pa_cons (pe_lc (own := [("_law_row", 5)]) (by exact rfl) sc__law_sorted_out.nd (pi_list (pv 2)) (blkOk_by (own := [("_law_row", 5)]) (N := N__law_sorted_out) (sc := defScope s__law_sorted_out) (by decide +kernel)) (fun _ _ _ _ _ => (pg_name (i := 5) sc__law_sorted_out.nd rfl (Or.inl rfl))) (fun _ _ _ _ _ => pts_nil) (fun _ _ _ _ _ => (pe_tup (pa_cons (pe_ix (r := rIxT K) ix_tup (pv 5) pe_int (fun _ _ => rfl)) (pa_cons (pe_slice (r := rSlAny K) sl_any (pv 5) (po_some pe_int) po_none) pa_nil))))) pa_nil)) (by rfl))
        (C8.pss_cut (ps_dput (hu_of hr) (pv 4) pe_str (pe_callTy (r := rDictNF K P w) (call_dictNF (hu65 hr) rfl) (by rfl) T.dict (by decide +kernel) (pa_cons (pe_lc (own := [("_law_row", 5)]) (by exact rfl) sc__law_sorted_out.nd (pi_list (pv 3)) (blkOk_by (own := [("_law_row", 5)]) (N := N__law_sorted_out) (sc := defScope s__law_sorted_out) (by decide +kernel)) (fun _ _ _ _ _ => (pg_name (i := 5) sc__law_sorted_out.nd rfl (Or.inl rfl))) (fun _ _ _ _ _ => pts_nil) (fun _ _ _ _ _ => (pe_tup (pa_cons (pe_tup (pa_cons (pe_ix (r := rIxT K) ix_tup (pv 5) pe_int (fun _ _ => rfl)) (pa_cons (pe_ix (r := rIxT K) ix_tup (pv 5) pe_int (fun _ _ => rfl)) pa_nil))) (pa_cons (pe_slice (r := rSlAny K) sl_any (pv 5) (po_some pe_int) po_none) pa_nil))))) pa_nil)) (by rfl))
        (pss_one (ps_ret (pv 4))))))), ?_⟩
    have ndk : ((rs.map sT).map fun t => kS t.k).Nodup := by
      rw [show ((rs.map sT).map fun t => kS t.k) = (rs.map fun r => r.nm).map kS by rw [List.map_map, List.map_map]; rfl]
      exact List.pairwise_map.mpr (si.ns.imp fun h z => h (kS_inj z))
    have ndm : ((ms.map mT).map fun t => kS t.k).Nodup := by
      rw [show ((ms.map mT).map fun t => kS t.k) = (ms.map fun r => r.nm).map kS by rw [List.map_map, List.map_map]; rfl]
      exact List.pairwise_map.mpr (si.nm.imp fun h z => h (kS_inj z))
    -- the four rows
    refine ⟨fun σ X => ∃ (gd : Addr) (kvs : List (Key × V)), σ = [some (.int roof), some (.ref ls), some (.ref lm), some (.ref lr), some (.ref gd), none] ∧ Same H X ∧ H gd = none ∧ X gd = some (.dK kvs) ∧ kvs.length ≤ 4 ∧ valV kvs (Sum.inr "cap") = some (.int (roof : Nat)) ∧ valV kvs (Sum.inr "sorts") = some (.ref ls) ∧ valV kvs (Sum.inr "makings") = some (.ref lm) ∧ valV kvs (Sum.inr "rules") = some (.ref lr), ?_, ?_⟩
    · refine fun gd ngd => ?_
      refine ⟨_, rfl, _, rfl, _, rfl, _, rfl, upd_same, [(Sum.inr "cap", .int (roof : Nat)), (Sum.inr "sorts", .ref ls), (Sum.inr "makings", .ref lm), (Sum.inr "rules", .ref lr)], rfl, by show 4 ≤ 15; decide, ?_⟩
      exact ⟨gd, _, rfl, Same.at_ (same_upd ngd) ngd, ngd, upd_same, length_mergeK _ [], rfl, rfl, rfl, rfl⟩
    rintro σ X ⟨gd, kvs, rfl, sX, ngd, hgd, kl, v1, v2, v3, v4⟩
    have gone : ∀ {Z : Hp} {kvs' : List (Key × V)}, Same H Z → Same H (upd Z gd (.dK kvs')) := fun s => Same.at_ s ngd
    -- the sorts by their names
    refine ⟨fun σ X => ∃ (kvs : List (Key × V)) (of : Addr) (ofk : List (Key × V)), σ = [some (.int roof), some (.ref ls), some (.ref lm), some (.ref lr), some (.ref gd), none] ∧ Same H X ∧ X gd = some (.dK kvs) ∧ kvs.length ≤ 5 ∧ valV kvs (Sum.inr "cap") = some (.int (roof : Nat)) ∧ valV kvs (Sum.inr "sorts") = some (.ref ls) ∧ valV kvs (Sum.inr "makings") = some (.ref lm) ∧ valV kvs (Sum.inr "rules") = some (.ref lr) ∧ valV kvs (Sum.inr "of") = some (.ref of) ∧ of ≠ gd ∧ X of = some (.dK ofk) ∧ ofk.map (·.1) = rs.map (fun r => kS r.nm) ∧ ∀ r ∈ rs, ∃ v, valV ofk (kS r.nm) = some v ∧ Dp K X v (.tuple [.tuple (r.dn.map strD), .tuple (r.up.map strD)]), ?_, ?_⟩
    · have siX := si.go sX
      refine ⟨_, rfl, ls, rfl, ⟨_, SqL.of siX.hls⟩, fun D nD => ?_⟩
      refine lc_of5 (ts := rs.map sT) siX.hls (by rw [← sT_d]; exact siX.dsv) (fun t ht => ?_) (by rw [List.length_map]; exact si.l1) nD fun U ps sU hD hp => ?_
      · obtain ⟨r, _, rfl⟩ := List.mem_map.mp ht
        exact up_imm r
      obtain ⟨okv, k1, k2, k3⟩ := hp.kvs
      refine ⟨D, ps, okv, rfl, SqL.of hD, k1, fun of nof => ?_⟩
      have g3 := same_upd (o := .dK (mergeK [] okv)) nof
      have hgd3 := (sU.trans g3) _ _ hgd
      have n4 : of ≠ gd := fun z => by
        rw [z, sU _ _ hgd] at nof
        cases nof
      refine ⟨_, rfl, gd, _, rfl, DPut.k (k := Sum.inr "of") hgd3 (small1000 (by omega)), _, of, mergeK [] okv, rfl, gone (sX.trans (sU.trans g3)), upd_same, ?_, ?_, ?_, ?_, ?_, ?_, n4, ?_, (merge_keys okv [] (by show (okv.map (·.1)).Nodup; rw [k2]; exact ndk)).trans (by show okv.map (·.1) = _; rw [k2, List.map_map]; rfl), fun r hr => ?_⟩
      · have := length_putK kvs (Sum.inr "of") (.ref of)
        omega
      · rw [valV_put, if_neg (by decide +kernel)]; exact v1
      · rw [valV_put, if_neg (by decide +kernel)]; exact v2
      · rw [valV_put, if_neg (by decide +kernel)]; exact v3
      · rw [valV_put, if_neg (by decide +kernel)]; exact v4
      · rw [valV_put, if_pos rfl]
      · rw [upd_ne n4]; exact upd_same
      · obtain ⟨v, h1, h2⟩ := k3 (sT r) (List.mem_map_of_mem hr)
        exact ⟨v, merge_in okv [] (by rw [k2]; exact ndk) _ h1, dp_imm (KeepT.at_ hgd3 dK_no) (dp_same g3 h2) (up_imm r)⟩
    clear hgd kl v1 v2 v3 v4 sX kvs
    rintro σ X ⟨kvs, of, ofk, rfl, sX, hgd, kl, v1, v2, v3, v4, v5, n4, hof, hofk, hofv⟩
    -- the makings by their names
    refine ⟨fun σ X => ∃ (kvs : List (Key × V)) (by_ : Addr) (byk : List (Key × V)), σ = [some (.int roof), some (.ref ls), some (.ref lm), some (.ref lr), some (.ref gd), none] ∧ Same H X ∧ X gd = some (.dK kvs) ∧ kvs.length ≤ 6 ∧ valV kvs (Sum.inr "cap") = some (.int (roof : Nat)) ∧ valV kvs (Sum.inr "sorts") = some (.ref ls) ∧ valV kvs (Sum.inr "makings") = some (.ref lm) ∧ valV kvs (Sum.inr "rules") = some (.ref lr) ∧ valV kvs (Sum.inr "of") = some (.ref of) ∧ valV kvs (Sum.inr "by") = some (.ref by_) ∧ X of = some (.dK ofk) ∧ (∀ r ∈ rs, ∃ v, valV ofk (kS r.nm) = some v ∧ Dp K X v (.tuple [.tuple (r.dn.map strD), .tuple (r.up.map strD)])) ∧ by_ ≠ gd ∧ X by_ = some (.dK byk) ∧ byk.map (·.1) = ms.map (fun m => kS m.nm) ∧ ∀ m ∈ ms, ∃ v, valV byk (kS m.nm) = some v ∧ Dp K X v (.tuple [strD m.so, .tuple (m.pt.map strD)]), ?_, ?_⟩
    · have siX := si.go sX
      refine ⟨_, rfl, lm, rfl, ⟨_, SqL.of siX.hlm⟩, fun D nD => ?_⟩
      refine lc_of5 (ts := ms.map mT) siX.hlm (by rw [← mT_d]; exact siX.dmv) (fun t ht => ?_) (by rw [List.length_map]; exact si.l2) nD fun U ps sU hD hp => ?_
      · obtain ⟨r, _, rfl⟩ := List.mem_map.mp ht
        exact m_imm r
      obtain ⟨okv, k1, k2, k3⟩ := hp.kvs
      refine ⟨D, ps, okv, rfl, SqL.of hD, k1, fun by_ nby => ?_⟩
      have g3 := same_upd (o := .dK (mergeK [] okv)) nby
      have hgd3 := (sU.trans g3) _ _ hgd
      have n5 : by_ ≠ gd := fun z => by
        rw [z, sU _ _ hgd] at nby
        cases nby
      refine ⟨_, rfl, gd, _, rfl, DPut.k (k := Sum.inr "by") hgd3 (small1000 (by omega)), _, by_, mergeK [] okv, rfl, gone (sX.trans (sU.trans g3)), upd_same, ?_, ?_, ?_, ?_, ?_, ?_, ?_, ?_, fun r hr => ?_, n5, ?_, (merge_keys okv [] (by show (okv.map (·.1)).Nodup; rw [k2]; exact ndm)).trans (by show okv.map (·.1) = _; rw [k2, List.map_map]; rfl), fun r hr => ?_⟩
      · have := length_putK kvs (Sum.inr "by") (.ref by_)
        omega
      · rw [valV_put, if_neg (by decide +kernel)]; exact v1
      · rw [valV_put, if_neg (by decide +kernel)]; exact v2
      · rw [valV_put, if_neg (by decide +kernel)]; exact v3
      · rw [valV_put, if_neg (by decide +kernel)]; exact v4
      · rw [valV_put, if_neg (by decide +kernel)]; exact v5
      · rw [valV_put, if_pos rfl]
      · rw [upd_ne n4]; exact (sU.trans g3) _ _ hof
      · obtain ⟨v, h1, h2⟩ := hofv r hr
        exact ⟨v, h1, dp_imm ((KeepT.of (sU.trans g3)).trans (KeepT.at_ hgd3 dK_no)) h2 (up_imm r)⟩
      · rw [upd_ne n5]; exact upd_same
      · obtain ⟨v, h1, h2⟩ := k3 (mT r) (List.mem_map_of_mem hr)
        exact ⟨v, merge_in okv [] (by rw [k2]; exact ndm) _ h1, dp_imm (KeepT.at_ hgd3 dK_no) (dp_same g3 h2) (m_imm r)⟩
    clear hgd kl v1 v2 v3 v4 v5 sX kvs hof hofv
    rintro σ X6 ⟨kvs6, by_, byk, rfl, sX, hgd, kl, v1, v2, v3, v4, v5, v6, hof, hofv, n5, hby, hbks, hbv⟩
    have siX := si.go sX
    have hrv := siX.drv
    have hlr := siX.hlr
    have lrv := dpAll_len hrv
    rw [List.length_map] at lrv
    have lru := si.l3
    refine ⟨fun σ X => ∃ (kvs : List (Key × V)) (pz : Addr) (nvs : List NE), σ = [some (.int roof), some (.ref ls), some (.ref lm), some (.ref lr), some (.ref gd), none] ∧ Same H X ∧ X gd = some (.dK kvs) ∧ valV kvs (Sum.inr "cap") = some (.int (roof : Nat)) ∧ valV kvs (Sum.inr "sorts") = some (.ref ls) ∧ valV kvs (Sum.inr "makings") = some (.ref lm) ∧ valV kvs (Sum.inr "rules") = some (.ref lr) ∧ valV kvs (Sum.inr "of") = some (.ref of) ∧ valV kvs (Sum.inr "by") = some (.ref by_) ∧ X of = some (.dK ofk) ∧ (∀ r ∈ rs, ∃ v, valV ofk (kS r.nm) = some v ∧ Dp K X v (.tuple [.tuple (r.dn.map strD), .tuple (r.up.map strD)])) ∧ X by_ = some (.dK byk) ∧ (∀ m ∈ ms, ∃ v, valV byk (kS m.nm) = some v ∧ Dp K X v (.tuple [strD m.so, .tuple (m.pt.map strD)])) ∧ valV kvs (Sum.inr "has") = some (.ref pz) ∧ pz ≠ gd ∧ X pz = some (dnO P w pz nvs) ∧ RPr K X nvs ru, ?_, ?_⟩
    · refine ⟨_, rfl, lr, rfl, ⟨_, SqL.of hlr⟩, fun D nD => ?_⟩
      refine lc_list (K := K) (a := lr) (xs := rv) (fun j U => Same X6 U ∧ ∃ (ps : List Addr) (ks : List (Addr × PyData × V)), U D = some (.lst (ps.map V.ref)) ∧ Paired (fun p k => SqT K U p [.ref k.1, k.2.2] ∧ Dp K U (.ref k.1) k.2.1 ∧ imm k.2.1 = true ∧ (keyD k.2.1).depth ≤ 8) ps ks ∧ ps.length = j ∧ Paired (HasK K U) ks (ru.take j)) ⟨same_upd nD, [], [], upd_same, .nil, rfl, .nil⟩ (fun j U _ h => SqL.of (h.1 _ _ hlr)) ?_ ?_
      · rintro j x U hx ⟨sU, ps, ks, hD, hp, hpl, hkr⟩
        obtain ⟨dd, hdd, hxd⟩ := dpAll_at hrv hx
        rw [List.getElem?_map] at hdd
        obtain ⟨r, hr, rfl⟩ : ∃ r, ru[j]? = some r ∧ dd = r.d := by
          cases h : ru[j]? with
          | none => rw [h] at hdd; cases hdd
          | some e => rw [h] at hdd; exact ⟨e, rfl, (Option.some.inj hdd).symm⟩
        have hj : j < ru.length := (List.getElem?_eq_some_iff.mp hr).1
        obtain ⟨q0, v2', t40, us40, rfl, hq, h2, hq4, ha4⟩ := rr4 (dp_same sU hxd)
        have h4 : Dp K U (.ref t40) (.tuple (r.os.map Od.d)) := .tup hq4 ha4
        refine ⟨rfl, yesT ?_⟩
        refine ⟨_, rfl, q0, _, 0, .str (SX.S r.ma), rfl, rfl, hq, atI_nat (j := 0) rfl, _, rfl, q0, _, 1, v2', rfl, rfl, hq, atI_nat (j := 1) rfl, by show 2 ≤ sizeLine; decide, fun t1 n1 => ?_⟩
        have s1 := same_upd (o := .tup [.str (SX.S r.ma), v2']) n1
        refine ⟨_, rfl, 2, rfl, q0, _, rfl, Same.seqT s1 hq, fun U2 t2 s2 ht2 => ?_⟩
        refine ⟨by show 2 ≤ sizeLine; decide, fun p3 n3 => ?_⟩
        have s3 := same_upd (o := .tup [.ref t1, .ref t2]) n3
        have sA := s1.trans (s2.trans s3)
        have hD3 := sA _ _ hD
        have ht1 : SqT K (upd U t1 (.tup [.str (SX.S r.ma), v2'])) t1 [.str (SX.S r.ma), v2'] := SqT.of upd_same
        have dk : Dp K (upd U t1 (.tup [.str (SX.S r.ma), v2'])) (.ref t1) (.tuple [strD r.ma, r.tg.d]) := .tup ht1 (.cons (.str _) (.cons (dp_same s1 h2) .nil))
        have ht2 : SqT K U2 t2 [.str (SX.S r.op), .ref t40] := ht2
        have dv : Dp K U2 (.ref t2) (.tuple [strD r.op, .tuple (r.os.map Od.d)]) := .tup ht2 (.cons (.str _) (.cons (dp_same (s1.trans s2) h4) .nil))
        have ik : imm (.tuple [strD r.ma, r.tg.d]) = true := by
          show (true && (imm r.tg.d && true)) = true
          rw [r.tg.imm]
          rfl
        have kk : KeepT (upd U2 p3 (.tup [.ref t1, .ref t2])) (upd (upd U2 p3 (.tup [.ref t1, .ref t2])) D (.lst (ps.map V.ref ++ [.ref p3]))) := KeepT.at_ hD3 lst_no
        refine ⟨_, hD3, small1000 (by rw [List.length_map]; omega), Same.at_ (sU.trans sA) nD, ps ++ [p3], ks ++ [(t1, .tuple [strD r.ma, r.tg.d], .ref t2)], ?_, paired_snoc (paired_mono (fun p k h => ?_) hp) ⟨kk.seqT (SqT.of upd_same), dp_imm ((KeepT.of (s2.trans s3)).trans kk) dk ik, ik, key_depth _ _⟩, by rw [List.length_append]; show ps.length + 1 = j + 1; omega, ?_⟩
        · rw [List.map_append]
          exact upd_same
        rotate_left 1
        · rw [List.take_add_one, hr]
          exact paired_snoc (paired_mono (fun k r h => HasK.keep ((KeepT.of sA).trans kk) h) hkr) ⟨rfl, dp_imm ((KeepT.of s3).trans kk) dv r.vd_imm⟩
        · obtain ⟨q1, q2, q3, q4⟩ := h
          exact ⟨((KeepT.of sA).trans kk).seqT q1, dp_imm ((KeepT.of sA).trans kk) q2 q3, q3, q4⟩
      · rintro U0 ⟨sU0, ps, ks, hD, hp, hpl, hkr⟩
        rw [lrv, List.take_length] at hkr
        refine ⟨D, ps, ks, rfl, SqL.of hD, hp, ?_, fun pz npz => ?_⟩
        · rw [has_keys hkr]
          exact has_nd si.nr
        have sPz := same_upd (o := dnO P w pz (ks.map neOf)) npz
        have hpz : (upd U0 pz (dnO P w pz (ks.map neOf))) pz = some (dnO P w pz (ks.map neOf)) := upd_same
        have hprz : RPr K (upd U0 pz (dnO P w pz (ks.map neOf))) (ks.map neOf) ru := has_pr sPz hp hkr
        have sU := sU0.trans sPz
        have npzg : pz ≠ gd := fun z => by
          have := sU0 _ _ hgd
          rw [z, this] at npz
          cases npz
        show (fun _ _ => _) _ _
        generalize upd U0 pz (dnO P w pz (ks.map neOf)) = U at sU hpz hprz ⊢
        have hgdU := sU _ _ hgd
        have nof : of ≠ gd := n4
        have kg : ∀ {kvs'}, KeepT X6 (upd U gd (.dK kvs')) := fun {kvs'} => (KeepT.of sU).trans (KeepT.at_ hgdU dK_no)
        refine ⟨_, rfl, gd, _, rfl, DPut.k (k := Sum.inr "has") hgdU (small1000 (by omega)), _, pz, ks.map neOf, rfl, gone (sX.trans sU), upd_same, ?_, ?_, ?_, ?_, ?_, ?_, ?_, fun r hr => ?_, ?_, fun r hr => ?_, ?_, npzg, ?_, hprz.keep (KeepT.at_ hgdU dK_no)⟩
        · rw [valV_put, if_neg (by decide +kernel)]; exact v1
        · rw [valV_put, if_neg (by decide +kernel)]; exact v2
        · rw [valV_put, if_neg (by decide +kernel)]; exact v3
        · rw [valV_put, if_neg (by decide +kernel)]; exact v4
        · rw [valV_put, if_neg (by decide +kernel)]; exact v5
        · rw [valV_put, if_neg (by decide +kernel)]; exact v6
        · rw [upd_ne n4]; exact sU _ _ hof
        · obtain ⟨v, h1, h2⟩ := hofv r hr
          exact ⟨v, h1, dp_imm kg h2 (up_imm r)⟩
        · rw [upd_ne n5]; exact sU _ _ hby
        · obtain ⟨v, h1, h2⟩ := hbv r hr
          exact ⟨v, h1, dp_imm kg h2 (m_imm r)⟩
        · rw [valV_put, if_pos rfl]
        · rw [upd_ne npzg]; exact hpz
    clear hgd kl v1 v2 v3 v4 v5 v6 sX hof hofv hby hbv siX hrv hlr
    rintro σ X ⟨kvs, pz, nvs, rfl, sX, hgd, v1, v2, v3, v4, v5, v6, hof, hofv, hby, hbv, v7, npz, hpz, hpr⟩
    have siX := si.go sX
    exact ⟨_, rfl, q X gd sX ngd (fun _ n1 n2 n3 => ⟨ls, lm, lr, of, kvs, ⟨(fun c o _ hc => nomatch hc), hgd, rfl, v1, v2, v3, v4, v5, ⟨sv, siX.hls, siX.dsv⟩, ⟨mv, siX.hlm, siX.dmv⟩, ⟨rv, siX.hlr, siX.drv⟩, ⟨ofk, hof, hofk, hofv⟩, n1, n2, n3, n4⟩, by_, byk, v6, n5, hby, hbks, hbv⟩) ⟨kvs, pz, nvs, hgd, v7, npz, hpz, hpr⟩⟩
theorem ok_sorted (c : C8.Cal P w K mg base 1 "_law_sorted_out" (spSorted8 K P w) []) : C8.Cal P w K mg base 1 "_law_sorted_out" (spSorted K P w) [] := by
  obtain ⟨f, fd, ps, ds, F, c1, c2, c3, c4⟩ := c.ex
  refine ⟨f, fd, ps, ds, F.imp fun vs H Q E h => ?_, c1, c2, c3, c4⟩
  obtain ⟨roof, a, ls, lm, lr, rs, ms, ru, sv, mv, rv, rfl, si, n1, n2, n3, q⟩ := h
  exact ⟨roof, ls, lm, lr, rs, ms, ru, sv, mv, rv, rfl, si, fun H' gd s n gi hh => q H' gd s n (gi a n1 n2 n3) hh⟩
end
/-! ### other rules -/
theorem kept_mem {m w : List Nat} {ru : List RRow} : w ∈ keptNames m ru ↔ ∃ r ∈ ru, r.ma = m ∧ ∃ o ∈ rOds r, w ∈ odName o := by
  unfold keptNames odsOf
  rw [List.mem_flatMap]
  constructor
  · rintro ⟨o, ho, hw⟩
    obtain ⟨r, hr, ho⟩ := List.mem_flatMap.mp ho
    obtain ⟨hr, e⟩ := List.mem_filter.mp hr
    exact ⟨r, hr, of_decide_eq_true e, o, ho, hw⟩
  · rintro ⟨r, hr, e, o, ho, hw⟩
    exact ⟨o, List.mem_flatMap.mpr ⟨r, List.mem_filter.mpr ⟨hr, decide_eq_true e⟩, ho⟩, hw⟩
section
variable {rs rs' : List SRow} {ms ms' : List MRow} {ru ru' : List RRow} {roof roof' : Nat}
/-- other rules, of no more kept names -/
theorem GFit.rules (g : GFit rs ms ru roof) (h1 : ∀ r ∈ ru', RuleOk rs ms roof r) (h2 : RuNd ru') (h3 : ru'.length ≤ ru.length) (h4 : ∀ r' ∈ ru', ∃ r ∈ ru, r.ma = r'.ma) (h5 : ∀ m w, w ∈ keptNames m ru' → w ∈ keptNames m ru) : GFit rs ms ru' roof where
  so := g.so
  nd := g.nd
  ok := g.ok
  m8 := g.m8
  ra := h1
  rn := h2
  rl := Nat.le_trans h3 g.rl
  kf := fun r' hr' => by
    obtain ⟨r, hr, e⟩ := h4 r' hr'
    obtain ⟨ks, k1, k2⟩ := g.kf r hr
    exact ⟨ks, k1, fun w hw => k2 w (by rw [e]; exact h5 _ w hw)⟩
  ko := fun m hm => Nat.le_trans (few_of' (gotTx_nodup _) fun z hz => by
    obtain ⟨w, hw, rfl⟩ := List.mem_map.mp (gotTx_mem.mp hz)
    exact gotTx_mem.mpr (List.mem_map.mpr ⟨w, h5 _ w hw, rfl⟩)) (g.ko m hm)
  rf := g.rf
end
abbrev s__law_drawn : Stmt := top 62
abbrev N__law_drawn : List Str := ["_law_box", "_law_roof", "_law_wild", "_law_sorts", "_law_makings", "_law_rules", "_law_phases", "_law_kind", "_law_downs", "_law_ups", "_law_row"]
abbrev P__law_drawn : List Str := ["_law_box", "_law_roof", "_law_wild"]
theorem sc__law_drawn : FnScope N__law_drawn P__law_drawn (defScope s__law_drawn) := ⟨rfl, rfl, rfl, by decide +kernel, rfl, by decide +kernel, by decide +kernel⟩
structure Dw6 (mg : Str → Option Value) : Prop where
  len : mg "len" = none
  list : mg "list" = none
def spDrawn6 (K : PySem.W.Frag) (P : Program) (w : World) : Sp := fun vs H Q _ => ∃ (a : Addr) (roof m : Nat) (wv : V) (wb : Bool) (wn : Nat) (b : List V), vs = [.ref a, .int roof, wv] ∧ Dp K H wv (.tuple [.bool wb, .int (wn : Nat)]) ∧ 0 < wn ∧ wn < 1000000 ∧ roof ≤ 9 ∧ H a = some (.lst b) ∧ BoxL m b ∧ m + 8000 < 900000 ∧
  ∀ (H' : Hp) (gd : Addr) (rs : List SRow) (ms : List MRow) (ru : List RRow) (b' : List V), But a H H' → H gd = none → GramIn K H' a gd rs ms ru roof → GFit rs ms ru roof → 1 ≤ rs.length → rs.length ≤ ms.length → HasIn K P w H' gd ru → H' a = some (.lst b') → BoxL (m + 8000) b' → Q (.ref gd) H'
theorem dp_perm {K : PySem.W.Frag} {H : Hp} {ys xs : List V} {ru : List RRow} (p : ys.Perm xs) (h : DpAll K H xs (ru.map RRow.d)) : ∃ ru' : List RRow, ru'.Perm ru ∧ DpAll K H ys (ru'.map RRow.d) := by
  induction p generalizing ru with
  | nil =>
    cases ru with
    | nil => exact ⟨[], .nil, .nil⟩
    | cons r rs => cases h
  | cons x p ih =>
    cases ru with
    | nil => cases h
    | cons r rs =>
      cases h with
      | cons a b =>
        obtain ⟨ru', h1, h2⟩ := ih b
        exact ⟨r :: ru', h1.cons r, .cons a h2⟩
  | swap x y xs =>
    cases ru with
    | nil => cases h
    | cons r rs =>
      cases h with
      | cons a b =>
        cases rs with
        | nil => cases b
        | cons r2 rs =>
          cases b with
          | cons a2 b => exact ⟨r2 :: r :: rs, .swap .., .cons a2 (.cons a b)⟩
  | trans _ _ ih1 ih2 =>
    obtain ⟨ru1, h1, h2⟩ := ih2 h
    obtain ⟨ru2, h3, h4⟩ := ih1 h2
    exact ⟨ru2, h3.trans h1, h4⟩
theorem rund_perm {ru ru' : List RRow} (p : ru'.Perm ru) (h : RuNd ru) : RuNd ru' := by
  unfold RuNd at *
  refine (p.pairwise_iff ?_).mpr h
  intro x y g e z
  exact g e.symm z.symm
theorem gfit_perm {rs : List SRow} {ms : List MRow} {ru ru' : List RRow} {roof : Nat} (g : GFit rs ms ru roof) (p : ru'.Perm ru) : GFit rs ms ru' roof :=
  g.rules (fun r hr => g.ra r (p.mem_iff.mp hr)) (rund_perm p g.rn) (Nat.le_of_eq p.length_eq) (fun r hr => ⟨r, p.mem_iff.mp hr, rfl⟩) fun m w h => by
    obtain ⟨r, hr, e, o, ho, hw⟩ := kept_mem.mp h
    exact kept_mem.mpr ⟨r, p.mem_iff.mp hr, e, o, ho, hw⟩
section
variable {P : Program} {w : World} {K : PySem.W.Frag} {mg : Str → Option Value} {base : Heap}
theorem ok_drawn6 (T : Dw6 mg) (c_law_take : C8.Cal P w K mg base 1 "_law_take" spTake []) (c_law_sort_rows : C8.Cal P w K mg base 3 "_law_sort_rows" (spSortRows K) []) (c_law_making_rows : C8.Cal P w K mg base 3 "_law_making_rows" (spMakRows K) []) (c_law_strewn : C8.Cal P w K mg base 2 "_law_strewn" (spStrewn K) []) (c_law_rules_for : C8.Cal P w K mg base 4 "_law_rules_for" (spRules6 K) []) (c_law_sorted_out : C8.Cal P w K mg base 1 "_law_sorted_out" (spSorted K P w) [])
    (D : Dd K mg "_law_drawn" s__law_drawn P__law_drawn) : C8.Cal P w K mg base 5 "_law_drawn" (spDrawn6 K P w) [] := by
  refine D.cal sc__law_drawn (fun vs H Q E h => ?_) (fun f cdv A outer s H vs Q E hr h => ?_)
  · obtain ⟨a, roof, m, wv, wb, wn, b, rfl, _⟩ := h
    rfl
  · obtain ⟨a, roof, m, wv, wb, wn, b, rfl, hwv, w0, w1, hroof, ha, hB, hm, q⟩ := h
    refine ⟨_, (C8.pss_cut (ps_set (i := 3) sc__law_drawn.nd rfl (Or.inl rfl) (C8.pe_c c_law_sort_rows hr (by decide) (by rfl) (pa_cons (pv 0) (pa_cons (pe_op op_add pe_int (C8.pe_c c_law_take hr (by decide) (by rfl) (pa_cons (pv 0) (pa_cons pe_int pa_nil)))) pa_nil))))
        (C8.pss_cut (ps_par3 rfl sc__law_drawn.nd (i := 4) (j := 5) (l := 6) rfl rfl rfl (by decide) (by decide) (by decide) rfl rfl rfl (pa_cons (C8.pe_c c_law_making_rows hr (by decide) (by rfl) (pa_cons (pv 0) (pa_cons (pv 3) (pa_cons (pe_op op_add (pe_callB call_len_seq (by rfl) T.len PySem.boot_len (pa_cons (pv 3) pa_nil)) (C8.pe_c c_law_take hr (by decide) (by rfl) (pa_cons (pv 0) (pa_cons (pe_op op_sub pe_int (pe_callB call_len_seq (by rfl) T.len PySem.boot_len (pa_cons (pv 3) pa_nil))) pa_nil)))) pa_nil)))) (pa_cons (pe_lst pa_nil) (pa_cons pe_dnewK pa_nil))) (by rfl))
        (C8.pss_cut (ps_for PassesOwn.never rfl (pi_list (pv 3)) (pg_tup rfl (pgs_cons (pg_name (i := 7) sc__law_drawn.nd rfl (Or.inl rfl)) (pgs_cons (pg_name (i := 8) sc__law_drawn.nd rfl (Or.inl rfl)) (pgs_cons (pg_name (i := 9) sc__law_drawn.nd rfl (Or.inl rfl)) pgs_nil))))
          (pss_one (ps_dput (hu_of hr) (pv 6) (pv 7) (pe_ifExp (pt_cmpR op_eq (C8.pe_c c_law_take hr (by decide) (by rfl) (pa_cons (pv 0) (pa_cons pe_int pa_nil))) pe_int (nomark _)) (C8.pe_c c_law_strewn hr (by decide) (by rfl) (pa_cons (pv 0) (pa_cons (pe_callTy call_list_of (by rfl) T.list (by decide +kernel) (pa_cons (pe_op (r := rCatAny K) op_catAny (pv 8) (pv 9)) pa_nil)) pa_nil))) (pe_callTy call_list_of (by rfl) T.list (by decide +kernel) (pa_cons (pe_op (r := rCatAny K) op_catAny (pv 8) (pv 9)) pa_nil))) (by rfl))))
        (C8.pss_cut (ps_for PassesOwn.never rfl (pi_list (pv 4)) (pg_name (i := 10) sc__law_drawn.nd rfl (Or.inl rfl))
          (pss_one (ps_set (i := 5) sc__law_drawn.nd rfl (Or.inl rfl) (pe_op (r := rCat) op_cat (pv 5) (C8.pe_c c_law_rules_for hr (by decide) (by rfl) (pa_cons (pv 0) (pa_cons (pv 1) (pa_cons (pv 3) (pa_cons (pv 10) (pa_cons (pv 6) (pa_cons (pv 2) pa_nil)))))))))))
        (pss_one (ps_ret (C8.pe_c c_law_sorted_out hr (by decide) (by rfl) (pa_cons (pv 1) (pa_cons (pv 3) (pa_cons (pv 4) (pa_cons (C8.pe_c c_law_strewn hr (by decide) (by rfl) (pa_cons (pv 0) (pa_cons (pv 5) pa_nil))) pa_nil))))))))))), ?_⟩
    -- the sorts
    refine ⟨fun σ X => ∃ (ls : Addr) (sv b1 : List V) (rs : List SRow), σ = [some (.ref a), some (.int (roof : Nat)), some wv, some (.ref ls), none, none, none, none, none, none, none] ∧ But a H X ∧ H ls = none ∧ X ls = some (.lst sv) ∧ DpAll K X sv (rs.map SRow.d) ∧ SortsOk rs ∧ 1 ≤ rs.length ∧ rs.length ≤ 4 ∧ X a = some (.lst b1) ∧ BoxL (m + 301) b1, ?_, ?_⟩
    · refine ⟨_, rfl, _, rfl, a, 4, _, b, rfl, ha, hB, by omega, by decide, by decide, fun r0 b1 h0 h0' hB1 => ?_⟩
      obtain ⟨n0, rfl⟩ := Int.eq_ofNat_of_zero_le h0
      have bt0 : But a H (upd H a (.lst b1)) := But.upd (But.refl a H)
      refine ⟨_, _, rfl, rfl, a, 1 + n0, m + 1, b1, rfl, by omega, by omega, upd_same, hB1, by omega, fun X ls sv rs b2 bt nls hls hsv hrl hrs hb2 hB2 => ?_⟩
      exact ⟨ls, sv, b2, rs, rfl, bt0.trans bt, But.free bt0 upd_same nls, hls, hsv, hrs, by omega, by omega, hb2, hB2.mono (by omega)⟩
    rintro σ X0 ⟨ls, sv, b1, rs, rfl, bt0, nls, hls0, hsv0, hrs, rs1, rs4, hb0, hB0⟩
    have off : ∀ {x : Addr}, H x = none → x ≠ a := fun {x} h z => by
      rw [z, ha] at h
      cases h
    have lsv := dpAll_len hsv0
    rw [List.length_map] at lsv
    -- the makings
    refine ⟨fun σ X => ∃ (lm lr ph : Addr) (mv b1 : List V) (ms : List MRow), σ = [some (.ref a), some (.int (roof : Nat)), some wv, some (.ref ls), some (.ref lm), some (.ref lr), some (.ref ph), none, none, none, none] ∧ But a H X ∧ H lm = none ∧ H lr = none ∧ H ph = none ∧ X ls = some (.lst sv) ∧ DpAll K X sv (rs.map SRow.d) ∧ X lm = some (.lst mv) ∧ DpAll K X mv (ms.map MRow.d) ∧ X lr = some (.lst []) ∧ X ph = some (.dK []) ∧ (ms.map MRow.nm).Nodup ∧ (∀ m ∈ ms, MOk rs m) ∧ ms.length ≤ 8 ∧ rs.length ≤ ms.length ∧ X a = some (.lst b1) ∧ BoxL (m + 502) b1, ?_, ?_⟩
    · refine ⟨_, rfl, _, rfl, _, rfl, ls, _, rfl, .inl (SqL.of hls0), _, rfl, _, rfl, ls, _, rfl, .inl (SqL.of hls0), _, _, rfl, rfl, a, 9 - sv.length, _, b1, ?_, hb0, hB0, by omega, by omega, by omega, fun r1 b2 h1 h1' hB2 => ?_⟩
      · have e : (9 : Int) - ((sv.length : Nat) : Int) = ((9 - sv.length : Nat) : Int) := by omega
        show [V.ref a, V.int ((9 : Int) - ((sv.length : Nat) : Int))] = _
        rw [e]
      obtain ⟨n1, rfl⟩ := Int.eq_ofNat_of_zero_le h1
      have bt1 := bt0.trans (But.upd (But.refl a X0) (o := .lst b2))
      have kT := KeepT.but hb0 (But.upd (But.refl a X0) (o := .lst b2))
      refine ⟨_, _, rfl, rfl, a, ls, sv.length + n1, _, b2, sv, rs, rfl, by rw [upd_ne (off nls)]; exact hls0, dpAll_imm kT hsv0 (immAll_map SRow.imm rs), hrs, rs1, by omega, upd_same, hB2, by omega, fun X2 lm mv ms b3 bt2 nlm hlm hmv hml hmn hmo hb3 hB3 => ?_⟩
      have btX := bt1.trans bt2
      refine ⟨by show 0 ≤ sizeLine; decide, fun lr nlr ph nph => ?_⟩
      have g1 := same_upd (o := .lst []) nlr
      have g2 := same_upd (o := .dK []) nph
      have sA := g1.trans g2
      refine ⟨_, _, _, rfl, lm, lr, ph, mv, b3, ms, rfl, btX.trans (But.of sA), But.free bt1 upd_same nlm, But.free btX hb3 nlr, But.free (btX.trans (But.of g1)) (g1 _ _ hb3) nph, sA _ _ (bt2 _ _ (off nls) (by rw [upd_ne (off nls)]; exact hls0)), dpAll_same sA (dpAll_imm (kT.trans (KeepT.but upd_same bt2)) hsv0 (immAll_map SRow.imm rs)), sA _ _ hlm, dpAll_same sA hmv, g2 _ _ upd_same, upd_same, hmn, hmo, by omega, by omega, sA _ _ hb3, hB3.mono (by omega)⟩
    clear hls0 hsv0 hb0 hB0 bt0 b1 X0
    rintro σ X1 ⟨lm, lr, ph, mv, b1, ms, rfl, bt1, nlm, nlr, nph, hls1, hsv1, hlm1, hmv1, hlr1, hph1, hmn, hmo, hm8, hm1, hb1, hB1⟩
    have npl : ph ≠ ls := fun z => by rw [z, hls1] at hph1; cases hph1
    -- the phases
    refine ⟨fun σ X => ∃ (phs : List Nat → List (List Nat)) (b2 : List V) (y7 y8 y9 : Option V), σ = [some (.ref a), some (.int (roof : Nat)), some wv, some (.ref ls), some (.ref lm), some (.ref lr), some (.ref ph), y7, y8, y9, none] ∧ (∀ c o, c ≠ ph → c ≠ a → X1 c = some o → X c = some o) ∧ Ph X a ph rs phs ∧ X a = some (.lst b2) ∧ BoxL (m + 522) b2 ∧ But a H X, ?_, ?_⟩
    · refine ⟨_, rfl, ls, rfl, ⟨_, SqL.of hls1⟩, for_list (K := K) (a := ls) (xs := sv) (fun j σ X => ∃ (phs : List Nat → List (List Nat)) (phk : List (Key × V)) (b2 : List V) (y7 y8 y9 : Option V), σ = [some (.ref a), some (.int (roof : Nat)), some wv, some (.ref ls), some (.ref lm), some (.ref lr), some (.ref ph), y7, y8, y9, none] ∧ But a H X ∧ (∀ c o, c ≠ ph → c ≠ a → X1 c = some o → X c = some o) ∧ X ph = some (.dK phk) ∧ phk.length ≤ j ∧ (∀ r ∈ rs.take j, ∃ pl, valV phk (Sum.inr (SX.S r.nm)) = some (.ref pl) ∧ pl ≠ a ∧ X pl = some (.lst (nmV (phs r.nm))) ∧ (phs r.nm).Perm (r.dn ++ r.up)) ∧ X a = some (.lst b2) ∧ BoxL (m + 502 + 5 * j) b2)
        ⟨fun _ => [], [], b1, none, none, none, rfl, bt1, (fun c o _ _ h => h), hph1, Nat.le_refl _, (fun r h => nomatch h), hb1, hB1⟩ (fun j σ X _ ⟨_, _, _, _, _, _, _, _, h, _⟩ => SqL.of (h _ _ npl.symm (off nls) hls1)) ?_ ?_⟩
      · rintro j x σ X hx ⟨phs, phk, b2, y7, y8, y9, rfl, btX, kX, hph, hkl, hpr, hb2, hB2⟩
        have kT : KeepT X1 X := fun c o t h => kX c o (fun z => by rw [z, hph1] at h; cases h; exact dK_no t) (fun z => by rw [z, hb1] at h; cases h; exact lst_no t) h
        obtain ⟨dd, hdd, hxd⟩ := dpAll_at hsv1 hx
        rw [List.getElem?_map] at hdd
        obtain ⟨r, hr, rfl⟩ : ∃ r, rs[j]? = some r ∧ dd = r.d := by
          cases h : rs[j]? with
          | none => rw [h] at hdd; cases hdd
          | some e => rw [h] at hdd; exact ⟨e, rfl, (Option.some.inj hdd).symm⟩
        have hj : j < rs.length := (List.getElem?_eq_some_iff.mp hr).1
        have rok := hrs.ok r (List.mem_of_getElem? hr)
        have rd2 := rok.d2
        have ru2 := rok.u2
        have tk : rs.take (j + 1) = rs.take j ++ [r] := by rw [List.take_add_one, hr]; rfl
        have npa : ph ≠ a := fun z => by rw [z, hb2] at hph; cases hph
        have old : ∀ r' ∈ rs.take j, r'.nm ≠ r.nm := fun r' h' z => by
          have hnd := hrs.nd
          rw [← List.take_append_drop (j + 1) rs, tk, List.map_append, List.map_append] at hnd
          exact (List.nodup_append.mp (List.nodup_append.mp hnd).1).2.2 r'.nm (List.mem_map_of_mem h') r.nm (by simp) z
        obtain ⟨q, v1, v2, rfl, hq, h1, h2⟩ := t3_at (t := sT r) (dp_imm kT hxd r.imm)
        obtain ⟨td, rfl, htd⟩ := names_dp h1
        obtain ⟨tu, rfl, htu⟩ := names_dp h2
        have fin : ∀ (Y : Hp) (pl : Addr) (ws : List (List Nat)) (b4 : List V), But a X Y → X pl = none → Y pl = some (.lst (nmV ws)) → ws.Perm (r.dn ++ r.up) → Y a = some (.lst b4) → BoxL (m + 502 + 5 * (j + 1)) b4 → DPut Y ph (.str (SX.S r.nm)) (.ref pl) (upd Y ph (.dK (putK phk (Sum.inr (SX.S r.nm)) (.ref pl)))) ∧ ∃ (phs : List Nat → List (List Nat)) (phk' : List (Key × V)) (b2 : List V) (y7 y8 y9 : Option V), [some (.ref a), some (.int (roof : Nat)), some wv, some (.ref ls), some (.ref lm), some (.ref lr), some (.ref ph), some (.str (SX.S r.nm)), some (.ref td), some (.ref tu), none] = [some (.ref a), some (.int (roof : Nat)), some wv, some (.ref ls), some (.ref lm), some (.ref lr), some (.ref ph), y7, y8, y9, none] ∧ But a H (upd Y ph (.dK (putK phk (Sum.inr (SX.S r.nm)) (.ref pl)))) ∧ (∀ c o, c ≠ ph → c ≠ a → X1 c = some o → (upd Y ph (.dK (putK phk (Sum.inr (SX.S r.nm)) (.ref pl)))) c = some o) ∧ (upd Y ph (.dK (putK phk (Sum.inr (SX.S r.nm)) (.ref pl)))) ph = some (.dK phk') ∧ phk'.length ≤ j + 1 ∧ (∀ r' ∈ rs.take (j + 1), ∃ pl', valV phk' (Sum.inr (SX.S r'.nm)) = some (.ref pl') ∧ pl' ≠ a ∧ (upd Y ph (.dK (putK phk (Sum.inr (SX.S r.nm)) (.ref pl)))) pl' = some (.lst (nmV (phs r'.nm))) ∧ (phs r'.nm).Perm (r'.dn ++ r'.up)) ∧ (upd Y ph (.dK (putK phk (Sum.inr (SX.S r.nm)) (.ref pl)))) a = some (.lst b2) ∧ BoxL (m + 502 + 5 * (j + 1)) b2 := by
          intro Y pl ws b4 btY npl' hpl hpm hb4 hB4
          have hphY := btY _ _ npa hph
          have npla : pl ≠ a := fun z => by rw [z, hb2] at npl'; cases npl'
          have nplp : pl ≠ ph := fun z => by rw [z, hphY] at hpl; cases hpl
          refine ⟨DPut.k (k := Sum.inr (SX.S r.nm)) hphY (small1000 (by omega)), fun k => if k = r.nm then ws else phs k, _, b4, _, _, _, rfl, fun c o nc hc => ?_, fun c o n1 n2 hc => ?_, upd_same, ?_, fun r' hr' => ?_, by rw [upd_ne npa.symm]; exact hb4, hB4⟩
          · rw [upd_ne (ne_of_none hc nph)]
            exact btY _ _ nc (btX _ _ nc hc)
          · rw [upd_ne n1]
            exact btY _ _ n2 (kX c o n1 n2 hc)
          · have := length_putK phk (Sum.inr (SX.S r.nm)) (.ref pl)
            omega
          · rw [tk] at hr'
            rcases List.mem_append.mp hr' with h | h
            · have ne := old r' h
              obtain ⟨pl', e1, e2, e3, e4⟩ := hpr r' h
              refine ⟨pl', ?_, e2, ?_, ?_⟩
              · rw [valV_put, if_neg (fun z => ne (SX.S_inj (Sum.inr.inj z)))]; exact e1
              · rw [upd_ne (fun z => by rw [z, hph] at e3; cases e3)]
                show _ = some (HO.lst (nmV (if r'.nm = r.nm then ws else phs r'.nm)))
                rw [if_neg ne]
                exact btY _ _ e2 e3
              · show (if r'.nm = r.nm then ws else phs r'.nm).Perm _
                rw [if_neg ne]
                exact e4
            · rw [List.mem_singleton.mp h]
              refine ⟨pl, ?_, npla, ?_, ?_⟩
              · rw [valV_put, if_pos rfl]
              · rw [upd_ne nplp]
                show _ = some (HO.lst (nmV (if r.nm = r.nm then ws else phs r.nm)))
                rw [if_pos rfl]
                exact hpl
              · show (if r.nm = r.nm then ws else phs r.nm).Perm _
                rw [if_pos rfl]
                exact hpm
        refine ⟨q, _, rfl, hq, rfl, _, _, rfl, _, _, rfl, _, _, rfl, rfl, ?_⟩
        refine ⟨_, rfl, a, 2, _, b2, rfl, hb2, hB2, by omega, by decide, by decide, fun r3 b3 r30 r31 hB3 => ?_⟩
        refine ⟨rfl, _, rfl, ?_⟩
        have bX3 : But a X (upd X a (.lst b3)) := But.upd (But.refl a X)
        have hb3 : (upd X a (.lst b3)) a = some (.lst b3) := upd_same
        have kT3 := KeepT.but hb2 bX3
        have lc : (nmV r.dn ++ nmV r.up).length ≤ 4 := by
          rw [List.length_append, nmV_len, nmV_len]
          omega
        have lc2 : (nmV r.dn).length + (nmV r.up).length ≤ sizeLine := by
          rw [nmV_len, nmV_len]
          exact Nat.le_trans (show _ ≤ 4 by omega) (by decide)
        have ea : nmV r.dn ++ nmV r.up = nmV (r.dn ++ r.up) := by unfold nmV; rw [List.map_append]
        by_cases h0 : V.int r3 = V.int 0
        · refine ifT (decide_eq_true h0) ?_
          refine ⟨_, rfl, _, rfl, _, rfl, td, tu, _, _, rfl, rfl, kT3.seqT htd, kT3.seqT htu, lc2, fun U1 tc s1 htc => ⟨tc, _, rfl, .inr htc, fun l nl => ?_⟩⟩
          have s2 := same_upd (o := .lst (nmV r.dn ++ nmV r.up)) nl
          have hb5 := (s1.trans s2) _ _ hb3
          have nla : l ≠ a := fun z => by rw [z, s1 _ _ hb3] at nl; cases nl
          refine ⟨a, l, _, b3, _, rfl, hb5, hB3, by omega, SqL.of upd_same, nla, by omega, fun U2 l2 ys b6 bt6 nl2 hl2 hpm hb6 hB6 => ?_⟩
          obtain ⟨ws, rfl, hws⟩ := perm_map hpm (r.dn ++ r.up) (by unfold nmV; rw [List.map_append])
          have btY := (bX3.trans (But.of (s1.trans s2))).trans bt6
          have nlX : X l2 = none := But.free (bX3.trans (But.of (s1.trans s2))) hb5 nl2
          obtain ⟨d1, phs', phk', b', _, _, _, _, d2⟩ := fin U2 l2 ws b6 btY nlX hl2 hws hb6 (hB6.mono (by omega))
          exact ⟨_, rfl, _, rfl, ph, _, rfl, d1, phs', phk', b', _, _, _, rfl, d2⟩
        · refine ifF (decide_eq_false h0) ?_
          refine ⟨_, rfl, _, rfl, td, tu, _, _, rfl, rfl, kT3.seqT htd, kT3.seqT htu, lc2, fun U1 tc s1 htc => ⟨tc, _, rfl, .inr htc, fun l nl => ?_⟩⟩
          have s2 := same_upd (o := .lst (nmV r.dn ++ nmV r.up)) nl
          obtain ⟨d1, phs', phk', b', _, _, _, _, d2⟩ := fin _ l (r.dn ++ r.up) b3 (bX3.trans (But.of (s1.trans s2))) (But.free (bX3.trans (But.of s1)) (s1 _ _ hb3) nl) (by rw [upd_same, ea]) (List.Perm.refl _) ((s1.trans s2) _ _ hb3) (hB3.mono (by omega))
          exact ⟨_, rfl, _, rfl, ph, _, rfl, d1, phs', phk', b', _, _, _, rfl, d2⟩
      · rintro σ X ⟨phs, phk, b2, y7, y8, y9, rfl, btX, kX, hph, hkl, hpr, hb2, hB2⟩
        rw [lsv] at hB2
        rw [lsv, List.take_length] at hpr
        exact ⟨phs, b2, _, _, _, rfl, kX, ⟨phk, hph, hpr⟩, hb2, hB2.mono (by omega), btX⟩
    rintro σ X2 ⟨phs, b2, y7, y8, y9, rfl, kX2, hphs, hb2, hB2, bt2⟩
    have kT2 : KeepT X1 X2 := fun c o t h => kX2 c o (fun z => by rw [z, hph1] at h; cases h; exact dK_no t) (fun z => by rw [z, hb1] at h; cases h; exact lst_no t) h
    have nps : ∀ {c : Addr} {xs : List V}, X1 c = some (.lst xs) → c ≠ ph := fun {c xs} h z => by rw [z, hph1] at h; cases h
    have hls2 := kX2 _ _ (nps hls1) (off nls) hls1
    have hlm2 := kX2 _ _ (nps hlm1) (off nlm) hlm1
    have hlr2 := kX2 _ _ (nps hlr1) (off nlr) hlr1
    have hsv2 := dpAll_imm kT2 hsv1 (immAll_map SRow.imm rs)
    have hmv2 := dpAll_imm kT2 hmv1 (immAll_map MRow.imm ms)
    have hwv2 := dp_imm (KeepT.but ha bt2) hwv rfl
    clear hls1 hlm1 hlr1 hsv1 hmv1 hph1 kX2 kT2 nps hB1 hb1 bt1 npl
    have lmv := dpAll_len hmv2
    rw [List.length_map] at lmv
    -- the rules
    refine ⟨fun σ X => ∃ (lr : Addr) (rv : List V) (ru : List RRow) (b3 : List V) (y7 y8 y9 y10 : Option V), σ = [some (.ref a), some (.int (roof : Nat)), some wv, some (.ref ls), some (.ref lm), some (.ref lr), some (.ref ph), y7, y8, y9, y10] ∧ But a X2 X ∧ lr ≠ a ∧ X lr = some (.lst rv) ∧ DpAll K X rv (ru.map RRow.d) ∧ RuAll rs roof ms ru ∧ ru.length ≤ 240 ∧ X a = some (.lst b3) ∧ BoxL (m + 522 + 4800) b3, ?_, ?_⟩
    · refine ⟨_, rfl, lm, rfl, ⟨_, SqL.of hlm2⟩, for_list (K := K) (a := lm) (xs := mv) (fun j σ X => ∃ (lr : Addr) (rv : List V) (ru : List RRow) (b3 : List V) (y7 y8 y9 y10 : Option V), σ = [some (.ref a), some (.int (roof : Nat)), some wv, some (.ref ls), some (.ref lm), some (.ref lr), some (.ref ph), y7, y8, y9, y10] ∧ But a X2 X ∧ lr ≠ a ∧ X lr = some (.lst rv) ∧ DpAll K X rv (ru.map RRow.d) ∧ RuAll rs roof (ms.take j) ru ∧ ru.length ≤ 30 * j ∧ X a = some (.lst b3) ∧ BoxL (m + 522 + 600 * j) b3)
        ⟨lr, [], [], b2, y7, y8, y9, none, rfl, But.refl _ _, off nlr, hlr2, .nil, .nil, Nat.le_refl _, hb2, hB2⟩ (fun j σ X _ ⟨_, _, _, _, _, _, _, _, _, h, _⟩ => SqL.of (h _ _ (off nlm) hlm2)) ?_ ?_⟩
      · rintro j x σ X hx ⟨lr, rv, ru, b3, y7, y8, y9, y10, rfl, btX, nra, hlr, hrv, hra, hrl, hb3, hB3⟩
        obtain ⟨dd, hdd, hxd⟩ := dpAll_at hmv2 hx
        rw [List.getElem?_map] at hdd
        obtain ⟨mr, hmr, rfl⟩ : ∃ mr, ms[j]? = some mr ∧ dd = mr.d := by
          cases h : ms[j]? with
          | none => rw [h] at hdd; cases hdd
          | some e => rw [h] at hdd; exact ⟨e, rfl, (Option.some.inj hdd).symm⟩
        have hj : j < ms.length := (List.getElem?_eq_some_iff.mp hmr).1
        have mok := hmo mr (List.mem_of_getElem? hmr)
        have kT := KeepT.but hb2 btX
        have lrv := dpAll_len hrv
        rw [List.length_map] at lrv
        refine ⟨_, rfl, _, rfl, _, rfl, _, rfl, _, rfl, _, rfl, _, rfl, a, ls, ph, x, wv, sv, rs, mr, roof, wb, wn, phs, _, b3, rfl, ⟨btX _ _ (off nls) hls2, off nls, dpAll_imm kT hsv2 (immAll_map SRow.imm rs), hrs, dp_imm kT hxd mr.imm, mok.so, mok.p2, hphs.go hb2 btX, dp_imm kT hwv2 rfl, w0, w1⟩, hb3, hB3, by omega, fun X5 l vs' pr ks b5 bt5 nl hl hvs hpok hb5 hB5 => ?_⟩
        have hlr5 := bt5 _ _ nra hlr
        have lvs := dpAll_len hvs
        rw [List.length_map] at lvs
        have hpl := hpok.le
        refine ⟨lr, l, rv, vs', rfl, rfl, hlr5, hl, Nat.le_trans (show _ ≤ 300 by omega) (by decide), fun p np => ?_⟩
        have s6 := same_upd (o := .lst (rv ++ vs')) np
        have npa : p ≠ a := fun z => by rw [z, hb5] at np; cases np
        refine ⟨p, rv ++ vs', ru ++ pr, b5, _, _, _, _, rfl, (btX.trans bt5).trans (But.of s6), npa, upd_same, ?_, ?_, ?_, s6 _ _ hb5, hB5.mono (by omega)⟩
        · rw [List.map_append]
          exact dpAll_same s6 (dpAll_appI (dpAll_imm (KeepT.but hb3 bt5) hrv (immAll_map RRow.imm ru)) hvs)
        · rw [List.take_add_one, hmr]
          exact .snoc hra hpok
        · rw [List.length_append]
          omega
      · rintro σ X ⟨lr, rv, ru, b3, y7, y8, y9, y10, rfl, btX, nra, hlr, hrv, hra, hrl, hb3, hB3⟩
        rw [lmv] at hrl hB3
        rw [lmv, List.take_length] at hra
        exact ⟨lr, rv, ru, b3, _, _, _, _, rfl, btX, nra, hlr, hrv, hra, by omega, hb3, hB3.mono (by omega)⟩
    have hb2' := hb2
    clear hlr2 nlr hB2 lr y7 y8 y9
    rintro σ X3 ⟨lr, rv, ru, b3, y7, y8, y9, y10, rfl, btX, nra, hlr, hrv, hra, hrl, hb3, hB3⟩
    have lrv := dpAll_len hrv
    rw [List.length_map] at lrv
    refine ⟨_, rfl, _, rfl, _, rfl, _, rfl, _, rfl, a, lr, _, b3, rv, rfl, hb3, hB3, by omega, SqL.of hlr, nra, by omega, fun X4 l ys b4 bt4 nl hl hpm hb4 hB4 => ?_⟩
    have kT := (KeepT.but hb2' btX).trans (KeepT.but hb3 bt4)
    have btY := btX.trans bt4
    obtain ⟨ru', hp', hd'⟩ := dp_perm hpm (dpAll_imm (KeepT.but hb3 bt4) hrv (immAll_map RRow.imm ru))
    have G : GFit rs ms ru roof := gfit ⟨hrs, rs1, hmn, hmo, hm8, hm1, hra, hroof⟩
    have G' := gfit_perm G hp'
    have nla : l ≠ a := fun z => by rw [z, hb3] at nl; cases nl
    have lle := hp'.length_eq
    refine ⟨roof, a, ls, lm, l, rs, ms, ru', sv, mv, ys, rfl, ⟨btY _ _ (off nls) hls2, btY _ _ (off nlm) hlm2, hl, dpAll_imm kT hsv2 (immAll_map SRow.imm rs), dpAll_imm kT hmv2 (immAll_map MRow.imm ms), hd', hrs.nd, hmn, G'.rn, by omega, by omega, by omega⟩, off nls, off nlm, nla, fun H' gd s5 ngd gi hh => ?_⟩
    have bt3 := bt2.trans btX
    exact q H' gd rs ms ru' b4 ((bt3.trans bt4).trans (But.of s5)) (But.free (bt3.trans bt4) hb4 ngd) gi G' rs1 hm1 hh (s5 _ _ hb4) (hB4.mono (by omega))
end
abbrev s__law_any : Stmt := top 63
abbrev N__law_any : List Str := ["_law_box", "_law_roof"]
abbrev P__law_any : List Str := ["_law_box"]
theorem sc__law_any : FnScope N__law_any P__law_any (defScope s__law_any) := ⟨rfl, rfl, rfl, by decide +kernel, rfl, by decide +kernel, by decide +kernel⟩
def spAny6 (K : PySem.W.Frag) (P : Program) (w : World) : Sp := fun vs H Q _ => ∃ (a : Addr) (m : Nat) (b : List V), vs = [.ref a] ∧ H a = some (.lst b) ∧ BoxL m b ∧ m + 8010 < 900000 ∧
  ∀ (H' : Hp) (gd : Addr) (rs : List SRow) (ms : List MRow) (ru : List RRow) (roof : Nat) (b' : List V), But a H H' → H gd = none → GramIn K H' a gd rs ms ru roof → GFit rs ms ru roof → 1 ≤ rs.length → rs.length ≤ ms.length → HasIn K P w H' gd ru → H' a = some (.lst b') → BoxL (m + 8010) b' → Q (.ref gd) H'
section
variable {P : Program} {w : World} {K : PySem.W.Frag} {mg : Str → Option Value} {base : Heap}
theorem ok_any6 (c_law_take : C8.Cal P w K mg base 1 "_law_take" spTake []) (c_law_drawn : C8.Cal P w K mg base 5 "_law_drawn" (spDrawn6 K P w) [])
    (D : Dd K mg "_law_any" s__law_any P__law_any) : C8.Cal P w K mg base 6 "_law_any" (spAny6 K P w) [] := by
  refine D.cal sc__law_any (fun vs H Q E h => ?_) (fun f cdv A outer s H vs Q E hr h => ?_)
  · obtain ⟨a, m, b, rfl, _⟩ := h
    rfl
  · obtain ⟨a, m, b, rfl, ha, hB, hm, q⟩ := h
    refine ⟨_, (pss_cons (ps_set (i := 1) sc__law_any.nd rfl (Or.inl rfl) (pe_ix ix_list (pe_lst (pa_cons pe_int (pa_cons pe_int (pa_cons (pe_op op_add pe_int (C8.pe_c c_law_take hr (by decide) (by rfl) (pa_cons (pv 0) (pa_cons pe_int pa_nil)))) pa_nil)))) (C8.pe_c c_law_take hr (by decide) (by rfl) (pa_cons (pv 0) (pa_cons pe_int pa_nil))) (fun _ _ => rfl)))
        (pss_one (ps_ret (C8.pe_c c_law_drawn hr (by decide) (by rfl) (pa_cons (pv 0) (pa_cons (pv 1) (pa_cons (pe_tup (pa_cons (pe_cmpR op_eq (C8.pe_c c_law_take hr (by decide) (by rfl) (pa_cons (pv 0) (pa_cons pe_int pa_nil))) pe_int (nomark _)) (pa_cons (pe_ix ix_list (pe_lst (pa_cons pe_int (pa_cons pe_int (pa_cons pe_int pa_nil)))) (C8.pe_c c_law_take hr (by decide) (by rfl) (pa_cons (pv 0) (pa_cons pe_int pa_nil))) (fun _ _ => rfl)) pa_nil))) pa_nil))))))), ?_⟩
    refine ⟨_, rfl, a, 9, _, b, rfl, ha, hB, by omega, by decide, by decide, fun r1 b1 r10 r11 hB1 => ?_⟩
    refine ⟨_, _, rfl, rfl, by show 3 ≤ sizeLine; decide, fun l1 n1 => ?_⟩
    obtain ⟨n9, rfl⟩ := Int.eq_ofNat_of_zero_le r10
    have hb1 : (upd H a (.lst b1)) a = some (.lst b1) := upd_same
    have bt1 : But a H (upd H a (.lst b1)) := But.upd (But.refl a H)
    have s1 := same_upd (o := .lst [.int 0, .int 0, .int (1 + ((n9 : Nat) : Int))]) n1
    have n1a : l1 ≠ a := fun z => by
      rw [z, hb1] at n1
      cases n1
    refine ⟨_, rfl, a, 3, _, b1, rfl, s1 _ _ hb1, hB1, by omega, by decide, by decide, fun r2 b2 r20 r21 hB2 => ?_⟩
    obtain ⟨n2, rfl⟩ := Int.eq_ofNat_of_zero_le r20
    have bt2 : But a H (upd (upd (upd H a (.lst b1)) l1 (.lst [.int 0, .int 0, .int (1 + ((n9 : Nat) : Int))])) a (.lst b2)) := (bt1.trans (But.of s1)).trans (But.upd (But.refl a _))
    have hb2 : (upd (upd (upd H a (.lst b1)) l1 (.lst [.int 0, .int 0, .int (1 + ((n9 : Nat) : Int))])) a (.lst b2)) a = some (.lst b2) := upd_same
    have hl2 : (upd (upd (upd H a (.lst b1)) l1 (.lst [.int 0, .int 0, .int (1 + ((n9 : Nat) : Int))])) a (.lst b2)) l1 = some (.lst [.int 0, .int 0, .int (1 + ((n9 : Nat) : Int))]) := by
      rw [upd_ne n1a]
      exact upd_same
    obtain ⟨X2, e2⟩ : ∃ X2, X2 = upd (upd (upd H a (.lst b1)) l1 (.lst [.int 0, .int 0, .int (1 + ((n9 : Nat) : Int))])) a (.lst b2) := ⟨_, rfl⟩
    rw [← e2] at bt2 hb2 hl2 ⊢
    obtain ⟨roof, hat, hroof⟩ : ∃ roof : Nat, atI [V.int 0, V.int 0, V.int (1 + ((n9 : Nat) : Int))] ((n2 : Nat) : Int) = some (.int (roof : Nat)) ∧ roof ≤ 9 := by
      rcases n2 with _ | _ | _ | n2
      · exact ⟨0, atI_nat (j := 0) rfl, by decide⟩
      · exact ⟨0, atI_nat (j := 1) rfl, by decide⟩
      · exact ⟨1 + n9, atI_nat (j := 2) rfl, by omega⟩
      · omega
    refine ⟨l1, _, _, _, rfl, rfl, SqL.of hl2, hat, ?_⟩
    refine ⟨_, rfl, _, rfl, _, rfl, a, 3, _, b2, rfl, hb2, hB2, by omega, by decide, by decide, fun r3 b3 r30 r31 hB3 => ?_⟩
    refine ⟨rfl, by show 3 ≤ sizeLine; decide, fun l3 n3 => ?_⟩
    have hb3 : (upd X2 a (.lst b3)) a = some (.lst b3) := upd_same
    have s3 := same_upd (o := .lst [.int 1000, .int 1000, .int 12]) n3
    have n3a : l3 ≠ a := fun z => by
      rw [z, hb3] at n3
      cases n3
    refine ⟨_, rfl, a, 3, _, b3, rfl, s3 _ _ hb3, hB3, by omega, by decide, by decide, fun r4 b4 r40 r41 hB4 => ?_⟩
    obtain ⟨n4, rfl⟩ := Int.eq_ofNat_of_zero_le r40
    have bt4 : But a H (upd (upd (upd X2 a (.lst b3)) l3 (.lst [.int 1000, .int 1000, .int 12])) a (.lst b4)) := ((bt2.trans (But.upd (But.refl a _))).trans (But.of s3)).trans (But.upd (But.refl a _))
    have hb4 : (upd (upd (upd X2 a (.lst b3)) l3 (.lst [.int 1000, .int 1000, .int 12])) a (.lst b4)) a = some (.lst b4) := upd_same
    have hl4 : (upd (upd (upd X2 a (.lst b3)) l3 (.lst [.int 1000, .int 1000, .int 12])) a (.lst b4)) l3 = some (.lst [.int 1000, .int 1000, .int 12]) := by
      rw [upd_ne n3a]
      exact upd_same
    obtain ⟨X4, e4⟩ : ∃ X4, X4 = upd (upd (upd X2 a (.lst b3)) l3 (.lst [.int 1000, .int 1000, .int 12])) a (.lst b4) := ⟨_, rfl⟩
    rw [← e4] at bt4 hb4 hl4 ⊢
    obtain ⟨wn, hat4, w0, w1⟩ : ∃ wn : Nat, atI [V.int 1000, V.int 1000, V.int 12] ((n4 : Nat) : Int) = some (.int (wn : Nat)) ∧ 0 < wn ∧ wn < 1000000 := by
      rcases n4 with _ | _ | _ | n4
      · exact ⟨1000, atI_nat (j := 0) rfl, by decide, by decide⟩
      · exact ⟨1000, atI_nat (j := 1) rfl, by decide, by decide⟩
      · exact ⟨12, atI_nat (j := 2) rfl, by decide, by decide⟩
      · omega
    refine ⟨l3, _, _, _, rfl, rfl, SqL.of hl4, hat4, by show 2 ≤ sizeLine; decide, fun t5 n5 => ?_⟩
    have s5 := same_upd (o := .tup [.bl (decide (V.int r3 = V.int 0)), .int (wn : Nat)]) n5
    exact ⟨a, roof, _, _, _, wn, b4, rfl, .tup (SqT.of upd_same) (.cons (.bl _) (.cons (.int _) .nil)), w0, w1, hroof, s5 _ _ hb4, hB4, by omega, fun H' gd rs ms ru b' bt ng gi go l1 l2 hh hb' hB' => q H' gd rs ms ru roof b' ((bt4.trans (But.of s5)).trans bt) (But.free (bt4.trans (But.of s5)) (s5 _ _ hb4) ng) gi go l1 l2 hh hb' (hB'.mono (by omega))⟩
end
/-! ### rows in another order -/
/-- rows of data in another order -/
theorem rows_perm {K : PySem.W.Frag} {H : Hp} {α : Type} {f : α → PyData} : ∀ {vs ws : List V} {xs : List α}, ws.Perm vs → DpAll K H vs (xs.map f) → ∃ ys : List α, ys.Perm xs ∧ DpAll K H ws (ys.map f) := by
  intro vs ws xs p
  induction p generalizing xs with
  | nil =>
    intro h
    exact ⟨xs, List.Perm.refl _, h⟩
  | @cons x l1 l2 p ih =>
    intro h
    cases xs with
    | nil => cases h
    | cons y ys =>
      cases h with
      | cons h1 h2 =>
        obtain ⟨zs, q1, q2⟩ := ih h2
        exact ⟨y :: zs, q1.cons y, .cons h1 q2⟩
  | @swap x y l =>
    intro h
    cases xs with
    | nil => cases h
    | cons a xs =>
      cases xs with
      | nil =>
        cases h with
        | cons _ h => cases h
      | cons b xs =>
        cases h with
        | cons h1 h =>
          cases h with
          | cons h2 h => exact ⟨b :: a :: xs, List.Perm.swap .., .cons h2 (.cons h1 h)⟩
  | @trans l1 l2 l3 p q ih1 ih2 =>
    intro h
    obtain ⟨ys, a1, a2⟩ := ih2 h
    obtain ⟨zs, b1, b2⟩ := ih1 a2
    exact ⟨zs, b1.trans a1, b2⟩
theorem GFit.perm {rs rs2 : List SRow} {ms ms2 : List MRow} {ru ru2 : List RRow} {roof : Nat} (g : GFit rs ms ru roof) (p1 : rs2.Perm rs) (p2 : ms2.Perm ms) (p3 : ru2.Perm ru) : GFit rs2 ms2 ru2 roof := by
  have at_ : ∀ {m : MRow} {p : Nat} {w : List Nat} {b : Bool}, AtOf rs m p w b → AtOf rs2 m p w b := fun {m p w b} ⟨k, r0, h1, h2, h3, h4⟩ => ⟨k, r0, h1, p1.symm.subset h2, h3, h4⟩
  have kp : ∀ {m : MRow} {w : List Nat}, KeptOk rs m w → KeptOk rs2 m w := fun {m w} ⟨h1, h2⟩ => ⟨h1, fun r hr => h2 r (p1.subset hr)⟩
  have ks : ∀ {m w : List Nat}, w ∈ keptNames m ru2 → w ∈ keptNames m ru := fun {m w} h => by
    obtain ⟨r, hr, e⟩ := kept_mem.mp h
    exact kept_mem.mpr ⟨r, p3.subset hr, e⟩
  refine ⟨⟨fun r hr => g.so.ok r (p1.subset hr), (p1.map SRow.nm).nodup_iff.mpr g.so.nd, by rw [p1.length_eq]; exact g.so.le⟩, (p2.map MRow.nm).nodup_iff.mpr g.nd, fun m hm => ⟨(g.ok m (p2.subset hm)).nm, fun k hk => ?_, (g.ok m (p2.subset hm)).p2⟩, by rw [p2.length_eq]; exact g.m8, fun x hx => ?_, (p3.pairwise_iff (fun {a b} hab e1 e2 => hab e1.symm e2.symm)).mpr g.rn, by rw [p3.length_eq]; exact g.rl, fun r hr => ?_, fun m hm => ?_, g.rf⟩
  · obtain ⟨r, hr, e⟩ := (g.ok m (p2.subset hm)).so k hk
    exact ⟨r, p1.symm.subset hr, e⟩
  · have h0 := g.ra x (p3.subset hx)
    obtain ⟨m2, hm2, e, ht, ho⟩ := h0.ex
    refine ⟨⟨m2, p2.symm.subset hm2, e, ?_, fun o hos => ?_⟩, h0.op, h0.ar⟩
    · cases et : x.tg with
      | sp p w => rw [et] at ht; exact at_ ht
      | kept w => rw [et] at ht; exact kp ht
    · have h2 := ho o hos
      cases o with
      | own => trivial
      | num n => exact h2
      | en b =>
        cases b with
        | sp p w => exact at_ h2
        | kept w => exact kp h2
  · obtain ⟨kk, k1, k2⟩ := g.kf r (p3.subset hr)
    exact ⟨kk, k1, fun w hw => k2 w (ks hw)⟩
  · exact Nat.le_trans (few_of' (gotTx_nodup _) fun z hz => by
      obtain ⟨w, hw, rfl⟩ := List.mem_map.mp (gotTx_mem.mp hz)
      exact gotTx_mem.mpr (List.mem_map.mpr ⟨w, ks hw, rfl⟩)) (g.ko m (p2.subset hm))
/-! ### grammars turned: what stays fit -/
section
variable {rs rs' : List SRow} {ms ms' : List MRow} {ru ru' : List RRow} {roof roof' : Nat}
/-- a rule out, or another of the same target in its place -/
theorem GFit.put (g : GFit rs ms ru roof) {i : Nat} {r : RRow} (hi : ru[i]? = some r) {xs : List RRow} (hl : xs.length ≤ 1) (hx : ∀ x ∈ xs, x.ma = r.ma ∧ x.tg = r.tg ∧ RuleOk rs ms roof x ∧ ∀ o ∈ x.os, ∀ w ∈ odName o, ∃ o' ∈ r.os, w ∈ odName o') : GFit rs ms (ru.take i ++ xs ++ ru.drop (i + 1)) roof := by
  have hil := (List.getElem?_eq_some_iff.mp hi).1
  have hrm := List.mem_of_getElem? hi
  have esplit : ru = ru.take i ++ [r] ++ ru.drop (i + 1) := by
    have h2 := List.getElem_cons_drop hil
    rw [List.append_assoc]
    show ru = ru.take i ++ (r :: ru.drop (i + 1))
    rw [← (List.getElem?_eq_some_iff.mp hi).2, h2, List.take_append_drop]
  have mem : ∀ r' ∈ ru.take i ++ xs ++ ru.drop (i + 1), r' ∈ ru ∨ r' ∈ xs := fun r' h => by
    rcases List.mem_append.mp h with h | h
    · rcases List.mem_append.mp h with h | h
      · exact .inl (List.mem_of_mem_take h)
      · exact .inr h
    · exact .inl (List.mem_of_mem_drop h)
  have len : (ru.take i ++ xs ++ ru.drop (i + 1)).length ≤ ru.length := by
    rw [List.length_append, List.length_append, List.length_take, List.length_drop]
    omega
  refine g.rules (fun r' h => ?_) ?_ len (fun r' h => ?_) (fun m w hw => ?_)
  · rcases mem r' h with h | h
    · exact g.ra r' h
    · exact (hx r' h).2.2.1
  · have gn := g.rn
    unfold RuNd at gn ⊢
    have gn2 := List.pairwise_map (f := fun r : RRow => (r.ma, r.tg)) (R := fun a b => a.1 = b.1 → a.2 ≠ b.2) |>.mpr gn
    refine (List.pairwise_map (f := fun r : RRow => (r.ma, r.tg)) (R := fun a b => a.1 = b.1 → a.2 ≠ b.2)).mp ?_
    rw [esplit, List.map_append, List.map_append] at gn2
    rw [List.map_append, List.map_append]
    match xs, hl, hx with
    | [], _, _ => exact List.Pairwise.sublist (List.Sublist.append (List.Sublist.append (List.Sublist.refl _) (List.nil_sublist _)) (List.Sublist.refl _)) gn2
    | [x], _, hx =>
      have e : [x].map (fun r : RRow => (r.ma, r.tg)) = [r].map (fun r : RRow => (r.ma, r.tg)) := by
        obtain ⟨e1, e2, _⟩ := hx x List.mem_cons_self
        show [(x.ma, x.tg)] = [(r.ma, r.tg)]
        rw [e1, e2]
      rw [e]
      exact gn2
  · rcases mem r' h with h | h
    · exact ⟨r', h, rfl⟩
    · exact ⟨r, hrm, (hx r' h).1.symm⟩
  · obtain ⟨r', hr', e, o, ho, hw⟩ := kept_mem.mp hw
    rcases mem r' hr' with h | h
    · exact kept_mem.mpr ⟨r', h, e, o, ho, hw⟩
    · obtain ⟨e1, e2, _, h4⟩ := hx r' h
      rcases List.mem_cons.mp ho with rfl | ho
      · exact kept_mem.mpr ⟨r, hrm, by rw [← e1]; exact e, .en r.tg, List.mem_cons_self, by rw [← e2]; exact hw⟩
      · obtain ⟨o', h5, h6⟩ := h4 o ho w hw
        exact kept_mem.mpr ⟨r, hrm, by rw [← e1]; exact e, o', List.mem_cons_of_mem _ h5, h6⟩
/-- another cap -/
theorem GFit.cap8 (g : GFit rs ms ru roof) (h : roof ≠ 0) (h' : roof' ≠ 0) (h9 : roof' ≤ 9) : GFit rs ms ru roof' where
  so := g.so
  nd := g.nd
  ok := g.ok
  m8 := g.m8
  ra := fun r hr => ⟨(g.ra r hr).ex, by
    have := (g.ra r hr).op
    unfold opsOf at this ⊢
    rw [if_neg h] at this
    rw [if_neg h']
    exact this, (g.ra r hr).ar⟩
  rn := g.rn
  rl := g.rl
  kf := g.kf
  ko := g.ko
  rf := h9
/-- fewer makings, all with rules left -/
theorem GFit.lessM (g : GFit rs ms ru roof) (s : ms'.Sublist ms) (hu : ∀ m ∈ ms, (∃ r ∈ ru, r.ma = m.nm) → m ∈ ms') : GFit rs ms' ru roof where
  so := g.so
  nd := g.nd.sublist (s.map _)
  ok := fun m hm => g.ok m (s.subset hm)
  m8 := Nat.le_trans s.length_le g.m8
  ra := fun r hr => by
    obtain ⟨m, hm, e, ht, ho⟩ := (g.ra r hr).ex
    exact ⟨⟨m, hu m hm ⟨r, hr, e⟩, e, ht, ho⟩, (g.ra r hr).op, (g.ra r hr).ar⟩
  rn := g.rn
  rl := g.rl
  kf := g.kf
  ko := fun m hm => g.ko m (s.subset hm)
  rf := g.rf
/-- fewer sorts, all of the makings' left -/
theorem GFit.lessS (g : GFit rs ms ru roof) (s : rs'.Sublist rs) (hu : ∀ r ∈ rs, (∃ m ∈ ms, r.nm ∈ m.places) → r ∈ rs') : GFit rs' ms ru roof := by
  have at_ : ∀ {m : MRow} {p : Nat} {w : List Nat} {b : Bool}, m ∈ ms → AtOf rs m p w b → AtOf rs' m p w b := fun {m p w b} hm ⟨k, r0, h1, h2, h3, h4⟩ => ⟨k, r0, h1, hu r0 h2 ⟨m, hm, by rw [h3]; exact List.mem_of_getElem? h1⟩, h3, h4⟩
  have kp : ∀ {m : MRow} {w : List Nat}, KeptOk rs m w → KeptOk rs' m w := fun {m w} ⟨h1, h2⟩ => ⟨h1, fun r hr => h2 r (s.subset hr)⟩
  refine ⟨⟨fun r hr => g.so.ok r (s.subset hr), g.so.nd.sublist (s.map _), Nat.le_trans s.length_le g.so.le⟩, g.nd, fun m hm => ⟨(g.ok m hm).nm, fun k hk => ?_, (g.ok m hm).p2⟩, g.m8, fun x hx => ?_, g.rn, g.rl, g.kf, g.ko, g.rf⟩
  · obtain ⟨r, hr, e⟩ := (g.ok m hm).so k hk
    exact ⟨r, hu r hr ⟨m, hm, by rw [e]; exact hk⟩, e⟩
  · have h0 := g.ra x hx
    obtain ⟨m2, hm2, e, ht, ho⟩ := h0.ex
    refine ⟨⟨m2, hm2, e, ?_, fun o hos => ?_⟩, h0.op, h0.ar⟩
    · cases et : x.tg with
      | sp p w => rw [et] at ht; exact at_ hm2 ht
      | kept w => rw [et] at ht; exact kp ht
    · have h2 := ho o hos
      cases o with
      | own => trivial
      | num n => exact h2
      | en b =>
        cases b with
        | sp p w => exact at_ hm2 h2
        | kept w => exact kp h2
/-- every sort's row with its worths below the other way about -/
def dnRow (r : SRow) : SRow := ⟨r.nm, r.dn.reverse, r.up⟩
theorem dn_mem {w : List Nat} {r : SRow} : w ∈ (dnRow r).dn ++ (dnRow r).up ↔ w ∈ r.dn ++ r.up := by
  show w ∈ r.dn.reverse ++ r.up ↔ _
  simp
theorem dn_ok {r : SRow} (h : SOk r) : SOk (dnRow r) where
  nm := h.nm
  all := fun w hw => h.all w (dn_mem.mp hw)
  nd := by
    show (r.dn.reverse ++ r.up).Nodup
    have := List.nodup_append.mp h.nd
    exact List.nodup_append.mpr ⟨(List.reverse_perm r.dn).nodup_iff.mpr this.1, this.2.1, fun a ha b hb => this.2.2 a (List.mem_reverse.mp ha) b hb⟩
  d2 := by show r.dn.reverse.length ≤ 2; rw [List.length_reverse]; exact h.d2
  u2 := h.u2
theorem GFit.dns (g : GFit rs ms ru roof) : GFit (rs.map dnRow) ms ru roof := by
  have at_ : ∀ {m : MRow} {p : Nat} {w : List Nat} {b : Bool}, AtOf rs m p w b → AtOf (rs.map dnRow) m p w b := fun {m p w b} ⟨k, r0, h1, h2, h3, h4⟩ => ⟨k, dnRow r0, h1, List.mem_map_of_mem h2, h3, by
    cases b with
    | true => exact h4
    | false => exact List.mem_reverse.mpr h4⟩
  have kp : ∀ {m : MRow} {w : List Nat}, KeptOk rs m w → KeptOk (rs.map dnRow) m w := fun {m w} ⟨h1, h2⟩ => ⟨h1, fun r hr e hw => by
    obtain ⟨r0, hr0, rfl⟩ := List.mem_map.mp hr
    exact h2 r0 hr0 e (dn_mem.mp hw)⟩
  refine ⟨⟨fun r hr => ?_, by rw [List.map_map]; exact g.so.nd, by rw [List.length_map]; exact g.so.le⟩, g.nd, fun m hm => ⟨(g.ok m hm).nm, fun k hk => ?_, (g.ok m hm).p2⟩, g.m8, fun x hx => ?_, g.rn, g.rl, g.kf, g.ko, g.rf⟩
  · obtain ⟨r0, hr0, rfl⟩ := List.mem_map.mp hr
    exact dn_ok (g.so.ok r0 hr0)
  · obtain ⟨r, hr, e⟩ := (g.ok m hm).so k hk
    exact ⟨dnRow r, List.mem_map_of_mem hr, e⟩
  · have h0 := g.ra x hx
    obtain ⟨m2, hm2, e, ht, ho⟩ := h0.ex
    refine ⟨⟨m2, hm2, e, ?_, fun o hos => ?_⟩, h0.op, h0.ar⟩
    · cases et : x.tg with
      | sp p w => rw [et] at ht; exact at_ ht
      | kept w => rw [et] at ht; exact kp ht
    · have h2 := ho o hos
      cases o with
      | own => trivial
      | num n => exact h2
      | en b =>
        cases b with
        | sp p w => exact at_ h2
        | kept w => exact kp h2
end
/-! ### t[::-1] of a tuple -/
section
open HT
variable {prog : Program} {w : World} {A : Around} {E : Value → Shared → Prop} {s : Shared}
theorem sliceApplied_rev {sl : Addr} {u : Tok} {n : Nat} {Q : Int × Int × Nat → Shared → Prop} (hs : s.heap.IsSliceOf sl .none .none (.int (-1) u))
    (h : Q ((n : Int) - 1, -1, n) s) : wpAny (model prog w) A (Builtin.Slice.sliceApplied (.ref sl) (pure (n : Int))) Q E s := by
  obtain ⟨os, hos, hcs, hds⟩ := id hs
  unfold Builtin.Slice.sliceApplied Builtin.Slice.sliceFields
  refine wpAny_bind (wpAny_bind (wpAny_field hos hds (x := .none) rfl (wpAny_bind (wpAny_field hos hds (x := .none) rfl (wpAny_bind (wpAny_field hos hds (x := .int (-1) u) rfl (wpAny_pure ?_)))))))
  refine wpAny_bind (slicePart_int ?_)
  show wpAny _ _ (if ((-1 : Int) == 0) = true then _ else _) _ _ s
  rw [if_neg (by decide)]
  refine wpAny_bind (slicePart_none (wpAny_bind (slicePart_none (wpAny_bind (wpAny_pure ?_)))))
  have e : Builtin.Slice.slicePlaces ((n : Int) - 1) (-1) (-1) = n := by
    unfold Builtin.Slice.slicePlaces
    rw [if_neg (by decide)]
    by_cases hn : 0 < n
    · rw [if_pos (by omega)]
      have : ((n : Int) - 1 - -1 - 1) / (- -1) + 1 = n := by
        rw [show (- -1 : Int) = 1 from rfl, Int.ediv_one]
        omega
      rw [this]
      rfl
    · rw [if_neg (by omega)]
      have : n = 0 := by omega
      rw [this]
      rfl
  show wpAny _ _ (pure ((n : Int) - 1, (-1 : Int), Builtin.Slice.slicePlaces ((n : Int) - 1) (-1) (-1))) _ _ s
  rw [e]
  exact wpAny_pure h
theorem pick_rev (xs : Array Value) : ((List.range xs.size).filterMap fun (m : Nat) => xs[(((xs.size : Int) - 1) + (m : Int) * -1).toNat]?) = xs.toList.reverse := by
  refine List.ext_getElem? fun i => ?_
  have hf : ((List.range xs.size).filterMap fun (m : Nat) => xs[(((xs.size : Int) - 1) + (m : Int) * -1).toNat]?) = (List.range xs.size).pmap (fun m hm => xs[xs.size - 1 - m]'(by have := List.mem_range.mp hm; omega)) (fun m hm => hm) := by
    have : ∀ (l : List Nat) (hl : ∀ m ∈ l, m ∈ List.range xs.size), (l.filterMap fun (m : Nat) => xs[(((xs.size : Int) - 1) + (m : Int) * -1).toNat]?) = l.pmap (fun m hm => xs[xs.size - 1 - m]'(by have := List.mem_range.mp hm; omega)) hl := by
      intro l
      induction l with
      | nil => intro _; rfl
      | cons m l ih =>
        intro hl
        have hm := List.mem_range.mp (hl m List.mem_cons_self)
        have e : (((xs.size : Int) - 1) + (m : Int) * -1).toNat = xs.size - 1 - m := by omega
        have hx : xs[(((xs.size : Int) - 1) + (m : Int) * -1).toNat]? = some (xs[xs.size - 1 - m]'(by omega)) := by
          rw [e]
          exact Array.getElem?_eq_getElem (by omega)
        rw [List.filterMap_cons, hx, List.pmap_cons, ih fun k hk => hl k (List.mem_cons_of_mem _ hk)]
    exact this _ _
  rw [hf]
  by_cases hi : i < xs.size
  · rw [List.getElem?_eq_getElem (by rw [List.length_pmap, List.length_range]; exact hi), List.getElem_pmap, List.getElem?_reverse (by rw [Array.length_toList]; exact hi)]
    simp only [List.getElem_range, Array.length_toList]
    rw [List.getElem?_eq_getElem (by rw [Array.length_toList]; omega)]
    rfl
  · rw [List.getElem?_eq_none (by rw [List.length_pmap, List.length_range]; omega), List.getElem?_eq_none (by rw [List.length_reverse, Array.length_toList]; omega)]
theorem getItem_tuple_rev {t sl : Addr} {items : Array Value} {u : Tok} {Q : Value → Shared → Prop} (ht : IsTup s.heap t items) (hs : s.heap.IsSliceOf sl .none .none (.int (-1) u))
    (h : Q (.ref s.heap.objs.size) { s with heap := s.heap.push { cls := .type "tuple", data := .seq (items.toList.reverse).toArray } })
    (hsz : items.size ≤ sizeLine) : wpAny (model prog w) A (getItem (.ref t) (.ref sl)) Q E s := by
  have htake : sizeOk (.seq (items.toList.reverse).toArray) := by
    show (items.toList.reverse).toArray.size ≤ sizeLine
    rw [List.size_toArray, List.length_reverse, Array.length_toList]
    exact hsz
  obtain ⟨os, hos, hcs, hds⟩ := id hs
  have hTs : s.TypeIs (.ref sl) "slice" := ⟨os, hos, hcs⟩
  unfold getItem
  try with_reducible refine wpAny_holding ?_
  first | refine wpAny_bind (wpAny_pure ?_) | skip
  refine wpAny_bind (wpAny_sequenceKey ht.typeIs (by decide) ?_)
  refine wpAny_bind (wpAny_callSpecial?_slot (name := Str.ofString "__getitem__") ht.typeIs PyProof.Rows.slot_tuple_getitem
    (wpAny_call_entry PyProof.Rows.slot_tuple_getitem ht.typeIs entry_tuple_getitem ?_ (args_tuple_getitem _ _)))
  show wpAny _ _ (Builtin.Tuple.tupleItemsOf (.ref t) >>= _) _ _ s
  refine wpAny_bind (tupleItemsOf_ ht ?_)
  refine wpAny_bind (wpAny_typeOf hTs ?_)
  rw [if_pos (by decide)]
  refine wpAny_bind (sliceApplied_rev hs ?_)
  show wpAny _ _ (if (((items.size : Int) - 1) == 0 && (-1 : Int) == 1 && items.size == items.size) = true then _ else _) _ _ s
  rw [if_neg (by rw [show ((-1 : Int) == 1) = false from rfl, Bool.and_false, Bool.false_and]; decide), pick_rev]
  first
    | exact wpAny_bind (m := Builtin.Tuple.tupleExact _) (wpAny_newObj_type (wpAny_pure ⟨_, rfl, wpAny_pure h⟩) htake)
    | exact wpAny_bind (m := Builtin.Tuple.tupleExact _) (wpAny_newObj_type (wpAny_bind (wpAny_pure (wpAny_pure ⟨_, rfl, wpAny_pure h⟩))) htake)
    | exact wpAny_bind (wpAny_bind (m := Builtin.Tuple.tupleExact _) (wpAny_newObj_type (wpAny_pure (wpAny_pure ⟨_, rfl, wpAny_pure h⟩)) htake))
    | exact wpAny_bind (wpAny_bind (m := Builtin.Tuple.tupleExact _) (wpAny_newObj_type (wpAny_pure ⟨_, rfl, wpAny_pure h⟩) htake))
end
def tRevT (K : PySem.W.Frag) (te : TE) : TE := fun σ H Q => te σ H fun x H1 => ∃ a xs, x = .ref a ∧ SqT K H1 a xs ∧ ∀ p, H1 p = none → Q (.ref p) (upd H1 p (.tup xs.reverse))
theorem pe_revT {X : Cx} {e : Expr} {te : TE} {k : Nat} {p1 p2 p3 pos : Pos} (he : PE X e te) : PE X (.Subscript e (.Slice none none (some (.UnaryOp .USub (.Constant (.int 1) k p1) p2)) p3) pos) (tRevT X.K te) := by
  refine ⟨fun pins s σ H Q I h => ?_⟩
  refine Subscript_ (thn (he.run pins s σ H _ I h) fun v s1 ⟨x, H1, I1, r1, q1⟩ => ?_)
  obtain ⟨a, xs, ex, hx, q⟩ := q1
  subst ex
  cases r1
  have hst : PO X (some (.UnaryOp .USub (.Constant (.int 1) k p1) p2)) (tPart (tUn (rU fun i => .int (-i)) (tC (.int 1)))) := po_some (pe_un un_neg pe_int)
  refine wpAny_Slice (thn (po_none.run pins s1 σ H1 (fun o H2 => o = none ∧ H2 = H1) I1 ⟨rfl, rfl⟩) fun vl s2 ⟨l, H2, I2, pl, el, e2⟩ => ?_)
  subst el e2
  refine thn (po_none.run pins s2 σ H2 (fun o H3 => o = none ∧ H3 = H2) I2 ⟨rfl, rfl⟩) fun vu s3 ⟨u, H3, I3, pu, eu, e3⟩ => ?_
  subst eu e3
  refine thn (hst.run pins s3 σ H3 (fun o H4 => o = some (-1) ∧ H4 = H3) I3 ⟨1, rfl, -1, rfl, rfl, rfl⟩) fun vs s4 ⟨o, H4, I4, ps, eo, e4⟩ => ?_
  subst eo e4
  cases pl
  cases pu
  obtain ⟨tk, rfl⟩ : ∃ tk, vs = .int (-1) tk := by
    cases ps
    exact ⟨_, rfl⟩
  have I5 : L2.Inv X pins σ H4 { s4 with heap := s4.heap.push { cls := .type "slice", data := .fields #[.none, .none, .int (-1) tk] } } := I4.kept (t' := s4.toks) fun b ob q => Heap.get?_push_of_some _ q
  obtain ⟨its, r, ht, hz⟩ := I5.tuple hx
  have hlen := r.length
  refine tail_any (ops := [.ref a, .ref s4.heap.objs.size]) ht.typeIs (PyProof.Rows.slot_tuple_getitem.lookup) ?_ (by with_unfolding_all rfl)
  refine getItem_tuple_rev ht (Heap.IsSliceOf.new _ _ _ _) ?_ (by rw [List.size_toArray]; omega)
  have er : (its.toArray.toList.reverse) = its.reverse := rfl
  refine ⟨.ref _, _, I5.laid (t' := s4.toks) (o := .tup xs.reverse) (fun b ob q => Heap.get?_push_of_some _ q) (Nat.le_refl _) ?_, rfl, q _ (I5.hok.fresh (Nat.le_refl _))⟩
  exact ⟨by rw [List.length_reverse]; exact hz, _, r.reverse, IsTup.new _ _⟩
/-! ### a law's grammar turned -/
abbrev s__law_turned : Stmt := top 66
abbrev N__law_turned : List Str := ["_law_box", "_law_g", "_law_way", "_law_rules", "_law_sorts", "_law_makings", "_law_roof", "_law_at", "_law_making", "_law_target", "_law_op", "_law_operands", "_law_some", "_law_place", "_law_number_here", "_law_new", "_law_used", "_law_row", "_law_one", "_law_many", "_law_k"]
abbrev P__law_turned : List Str := ["_law_box", "_law_g"]
theorem sc__law_turned : FnScope N__law_turned P__law_turned (defScope s__law_turned) := ⟨rfl, rfl, rfl, by decide +kernel, rfl, by decide +kernel, by decide +kernel⟩
structure Tu8 (mg : Str → Option Value) : Prop where
  list : mg "list" = none
  len : mg "len" = none
  enumerate : mg "enumerate" = none
def spTurned8 (K : PySem.W.Frag) (P : Program) (w : World) : Sp := fun vs H Q _ => ∃ (a gd : Addr) (rs : List SRow) (ms : List MRow) (ru : List RRow) (roof m : Nat) (b : List V), vs = [.ref a, .ref gd] ∧ GramIn K H a gd rs ms ru roof ∧ GFit rs ms ru roof ∧ H a = some (.lst b) ∧ BoxL m b ∧ m + 20 < 900000 ∧
  ∀ (H' : Hp) (gd' : Addr) (rs' : List SRow) (ms' : List MRow) (ru' : List RRow) (roof' : Nat) (b' : List V), But a H H' → H gd' = none → GramIn K H' a gd' rs' ms' ru' roof' → GFit rs' ms' ru' roof' → H' a = some (.lst b') → BoxL (m + 20) b' → Q (.ref gd') H'
theorem opsR_all {roof : Nat} {op : List Nat} (h : op ∈ opsOf roof) : (op, arOf op) ∈ opsR roof := by
  unfold opsOf at h
  unfold opsR
  split at h
  · rename_i z
    rw [if_pos z]
    have : ∀ op ∈ OPS4 ++ OPS8, (op, arOf op) ∈ O4 ++ O7 := by decide +kernel
    exact this op h
  · rename_i z
    rw [if_neg z]
    have : ∀ op ∈ OPS4, (op, arOf op) ∈ O4 := by decide +kernel
    exact this op h
def rLen8 (K : PySem.W.Frag) : List V → Hp → VK → Prop := fun xs H Q => ∃ p ys, xs = [.ref p] ∧ (SqL K H p ys ∨ SqT K H p ys) ∧ Q (.int (ys.length : Nat)) H
/-- three lists of rows of one's own -/
structure Tl8 (K : PySem.W.Frag) (H X : Hp) (a pr ps pm : Addr) (rs : List SRow) (ms : List MRow) (ru : List RRow) : Prop where
  bt : But a H X
  nr : pr ≠ a
  ns : ps ≠ a
  nm : pm ≠ a
  hr : ∃ rv, X pr = some (.lst rv) ∧ DpAll K X rv (ru.map RRow.d)
  hs : ∃ sv, X ps = some (.lst sv) ∧ DpAll K X sv (rs.map SRow.d)
  hm : ∃ mv, X pm = some (.lst mv) ∧ DpAll K X mv (ms.map MRow.d)
theorem Tl8.go {K : PySem.W.Frag} {H X Y : Hp} {a pr ps pm : Addr} {rs : List SRow} {ms : List MRow} {ru : List RRow} {b : List V} (h : Tl8 K H X a pr ps pm rs ms ru) (hb : X a = some (.lst b)) (t : But a X Y) : Tl8 K H Y a pr ps pm rs ms ru := by
  have k := KeepT.but hb t
  obtain ⟨rv, r1, r2⟩ := h.hr
  obtain ⟨sv, s1, s2⟩ := h.hs
  obtain ⟨mv, m1, m2⟩ := h.hm
  exact ⟨h.bt.trans t, h.nr, h.ns, h.nm, ⟨rv, t _ _ h.nr r1, dpAll_imm k r2 (immAll_map RRow.imm ru)⟩, ⟨sv, t _ _ h.ns s1, dpAll_imm k s2 (immAll_map SRow.imm rs)⟩, ⟨mv, t _ _ h.nm m1, dpAll_imm k m2 (immAll_map MRow.imm ms)⟩⟩
section
variable {P : Program} {w : World} {K : PySem.W.Frag} {mg : Str → Option Value} {base : Heap}
theorem ok_turned8 (T : Tu8 mg) (c_law_take : C8.Cal P w K mg base 1 "_law_take" spTake []) (c_law_ops : C8.Cal P w K mg base 1 "_law_ops" (spOps6 K) []) (c_law_one_of : C8.Cal P w K mg base 2 "_law_one_of" (spOneOf K) []) (c_law_number : C8.Cal P w K mg base 2 "_law_number" spNumber []) (c_law_sorted_out : C8.Cal P w K mg base 1 "_law_sorted_out" (spSorted K P w) [])
    (D : Dd K mg "_law_turned" s__law_turned P__law_turned) : C8.Cal P w K mg base 3 "_law_turned" (spTurned8 K P w) [] := by
  refine D.cal sc__law_turned (fun vs H Q E h => ?_) (fun f cdv A outer s H vs Q E hr h => ?_)
  · obtain ⟨a, gd, rs, ms, ru, roof, m, b, rfl, _⟩ := h
    rfl
  · obtain ⟨a, gd, rs, ms, ru, roof, m, b, rfl, gi, gf, ha, hB, hm, q⟩ := h
    refine ⟨_, (C8.pss_cut (ps_par rfl sc__law_turned.nd (i := 2) (j := 3) rfl rfl (by decide) rfl rfl (pa_cons (C8.pe_c c_law_take hr (by decide) (by rfl) (pa_cons (pv 0) (pa_cons pe_int pa_nil))) (pa_cons (pe_callTy call_list_of (by rfl) T.list (by decide +kernel) (pa_cons (pe_dget (hu_of hr) (pv 1) pe_str (fun _ _ => rfl)) pa_nil)) pa_nil)) (by rfl))
        (C8.pss_cut (ps_asg (pe_tup (pa_cons (pe_callTy call_list_of (by rfl) T.list (by decide +kernel) (pa_cons (pe_dget (hu_of hr) (pv 1) pe_str (fun _ _ => rfl)) pa_nil)) (pa_cons (pe_callTy call_list_of (by rfl) T.list (by decide +kernel) (pa_cons (pe_dget (hu_of hr) (pv 1) pe_str (fun _ _ => rfl)) pa_nil)) (pa_cons (pe_dget (hu_of hr) (pv 1) pe_str (fun _ _ => rfl)) pa_nil)))) (pg_tup rfl (pgs_cons (pg_name (i := 4) sc__law_turned.nd rfl (Or.inr rfl)) (pgs_cons (pg_name (i := 5) sc__law_turned.nd rfl (Or.inr rfl)) (pgs_cons (pg_name (i := 6) sc__law_turned.nd rfl (Or.inl rfl)) pgs_nil)))))
        (C8.pss_cut (ps_if (PW.pt (pw_and (pt_cmpR op_lt (pv 2) pe_int (nomark _)) (pw_and1 (pt_cmpR (op_ne0 hr.units) (pv 3) (pe_lst pa_nil) (nomark _)))))
          (pss_cons (ps_set (i := 7) sc__law_turned.nd rfl (Or.inl rfl) (C8.pe_c c_law_take hr (by decide) (by rfl) (pa_cons (pv 0) (pa_cons (pe_callB call_len_seq (by rfl) T.len PySem.boot_len (pa_cons (pv 3) pa_nil)) pa_nil))))
        (pss_cons (ps_asg (pe_ix (r := rIxL K) ix_list (pv 3) (pv 7) (fun _ _ => rfl)) (pg_tup rfl (pgs_cons (pg_name (i := 8) sc__law_turned.nd rfl (Or.inl rfl)) (pgs_cons (pg_name (i := 9) sc__law_turned.nd rfl (Or.inl rfl)) (pgs_cons (pg_name (i := 10) sc__law_turned.nd rfl (Or.inl rfl)) (pgs_cons (pg_name (i := 11) sc__law_turned.nd rfl (Or.inr rfl)) pgs_nil))))))
        (C8.pss_cut (ps_setLc (g := gTup K 2 (gCons (gName 18) (gCons (gName 19) gNil))) (i := 12) (own := [("_law_one", 18), ("_law_many", 19)]) (by exact rfl) sc__law_turned.nd rfl rfl (sw_true rfl rfl rfl (by decide +kernel)) (pi_list (C8.pe_c c_law_ops hr (by decide) (by rfl) (pa_cons (pv 6) pa_nil))) (blkOk_by (own := [("_law_one", 18), ("_law_many", 19)]) (N := N__law_turned) (sc := defScope s__law_turned) (by decide +kernel)) (fun _ _ _ _ _ => (pg_tup (n := 2) rfl (pgs_cons (pg_name (i := 18) sc__law_turned.nd rfl (Or.inl rfl) (Or.inr rfl)) (pgs_cons (pg_name (i := 19) sc__law_turned.nd rfl (Or.inl rfl) (Or.inr rfl)) pgs_nil)))) (fun _ _ _ _ _ => (pts_one (pt_cmpR op_eq (pv 19) (pe_callB (r := rLen8 K) call_len_seq (by rfl) T.len PySem.boot_len (pa_cons (pv 11) pa_nil)) (nomark _)))) (fun _ _ _ _ _ => (pv 18)))
        (pss_cons (ps_par rfl sc__law_turned.nd (i := 13) (j := 14) rfl rfl (by decide) rfl rfl (pa_cons (C8.pe_c c_law_take hr (by decide) (by rfl) (pa_cons (pv 0) (pa_cons (pe_callB call_len_seq (by rfl) T.len PySem.boot_len (pa_cons (pv 11) pa_nil)) pa_nil))) (pa_cons (pe_tup (pa_cons pe_str (pa_cons (C8.pe_c c_law_number hr (by decide) (by rfl) (pa_cons (pv 0) pa_nil)) pa_nil))) pa_nil)) (by rfl))
        (pss_cons (ps_set (i := 15) sc__law_turned.nd rfl (Or.inl rfl) (pe_lst (pa_cons (pe_lst pa_nil) (pa_cons (pe_lst (pa_cons (pe_tup (pa_cons (pv 8) (pa_cons (pv 9) (pa_cons (C8.pe_c c_law_one_of hr (by decide) (by rfl) (pa_cons (pv 0) (pa_cons (pv 12) pa_nil))) (pa_cons (pv 11) pa_nil))))) pa_nil)) pa_nil))))
        (pss_cons (ps_set (i := 15) sc__law_turned.nd rfl (Or.inl rfl) (pe_op op_cat (pv 15) (pe_lst (pa_cons (pe_lst (pa_cons (pe_tup (pa_cons (pv 8) (pa_cons (pv 9) (pa_cons (pv 10) (pa_cons (pe_op (r := rCatAny K) op_catAny (pe_op (r := rCatAny K) op_catAny (pe_slice (r := rSlAny K) sl_any (pv 11) po_none (po_some (pv 13))) (pe_tup (pa_cons (pv 14) pa_nil))) (pe_slice (r := rSlAny K) sl_any (pv 11) (po_some (pe_op op_add (pv 13) pe_int)) po_none)) pa_nil))))) pa_nil)) (pa_cons (pe_lst (pa_cons (pe_ix (r := rIxL K) ix_list (pv 3) (pv 7) (fun _ _ => rfl)) pa_nil)) pa_nil)))))
        (pss_one (ps_set (i := 3) sc__law_turned.nd rfl (Or.inl rfl) (pe_op (r := rCat) op_cat (pe_op (r := rCat) op_cat (pe_slice (r := rSlL K) sl_list (pv 3) po_none (po_some (pv 7))) (pe_ix (r := rIxL K) ix_list (pv 15) (pv 2) (fun _ _ => rfl))) (pe_slice (r := rSlL K) sl_list (pv 3) (po_some (pe_op op_add (pv 7) pe_int)) po_none))))))))))
          (pss_one (ps_if (pt_cmpR op_eq (pv 2) pe_int (nomark _))
          (pss_cons (ps_set (i := 16) sc__law_turned.nd rfl (Or.inr rfl) (pe_lc (own := [("_law_row", 17)]) (by exact rfl) sc__law_turned.nd (pi_list (pv 3)) (blkOk_by (own := [("_law_row", 17)]) (N := N__law_turned) (sc := defScope s__law_turned) (by decide +kernel)) (fun _ _ _ _ _ => (pg_name (i := 17) sc__law_turned.nd rfl (Or.inl rfl))) (fun _ _ _ _ _ => pts_nil) (fun _ _ _ _ _ => (pe_ix (r := rIxT K) ix_tup (pv 17) pe_int (fun _ _ => rfl)))))
        (pss_one (ps_set (i := 5) sc__law_turned.nd rfl (Or.inr rfl) (pe_lc (g := gTup K 2 (gCons (gName 20) (gCons (gName 17) gNil))) (own := [("_law_k", 20), ("_law_row", 17)]) (by exact rfl) sc__law_turned.nd (pi_enum (by rfl) T.enumerate (pa_cons (pv 5) pa_nil)) (blkOk_by (own := [("_law_k", 20), ("_law_row", 17)]) (N := N__law_turned) (sc := defScope s__law_turned) (by decide +kernel)) (fun _ _ _ _ _ => (pg_tup (n := 2) rfl (pgs_cons (pg_name (i := 20) sc__law_turned.nd rfl (Or.inl rfl) (Or.inr rfl)) (pgs_cons (pg_name (i := 17) sc__law_turned.nd rfl (Or.inl rfl) (Or.inr rfl)) pgs_nil)))) (fun _ _ _ _ _ => (pts_one (PW.pt (pw_or (pt_cmpR op_lt (pe_op op_add (pv 20) pe_int) (pe_callB (r := rLen8 K) call_len_seq (by rfl) T.len PySem.boot_len (pa_cons (pv 5) pa_nil)) (nomark _)) (pw_or1 (pt_cmpR (r := rIn K false) op_in_seq (pe_ix (r := rIxT K) ix_tup (pv 17) pe_int (fun _ _ => rfl)) (pv 16) (by with_unfolding_all rfl))))))) (fun _ _ _ _ _ => (pv 17))))))
          (pss_one (ps_if (pt_cmpR op_eq (pv 2) pe_int (nomark _))
          (pss_cons (ps_set (i := 16) sc__law_turned.nd rfl (Or.inr rfl) (pe_lst pa_nil))
        (pss_cons (ps_for PassesOwn.never rfl (pi_list (pv 5)) (pg_name (i := 17) sc__law_turned.nd rfl (Or.inl rfl))
          (pss_one (ps_set (i := 16) sc__law_turned.nd rfl (Or.inr rfl) (pe_op op_cat (pe_op op_cat (pv 16) (pe_lst (pa_cons (pe_ix (r := rIxT K) ix_tup (pv 17) pe_int (fun _ _ => rfl)) pa_nil))) (pe_callTy call_list_of (by rfl) T.list (by decide +kernel) (pa_cons (pe_ix (r := rIxT K) ix_tup (pv 17) pe_int (fun _ _ => rfl)) pa_nil))))))
        (pss_one (ps_set (i := 4) sc__law_turned.nd rfl (Or.inr rfl) (pe_lc (g := gTup K 2 (gCons (gName 20) (gCons (gName 17) gNil))) (own := [("_law_k", 20), ("_law_row", 17)]) (by exact rfl) sc__law_turned.nd (pi_enum (by rfl) T.enumerate (pa_cons (pv 4) pa_nil)) (blkOk_by (own := [("_law_k", 20), ("_law_row", 17)]) (N := N__law_turned) (sc := defScope s__law_turned) (by decide +kernel)) (fun _ _ _ _ _ => (pg_tup (n := 2) rfl (pgs_cons (pg_name (i := 20) sc__law_turned.nd rfl (Or.inl rfl) (Or.inr rfl)) (pgs_cons (pg_name (i := 17) sc__law_turned.nd rfl (Or.inl rfl) (Or.inr rfl)) pgs_nil)))) (fun _ _ _ _ _ => (pts_one (PW.pt (pw_or (pt_cmpR op_lt (pe_op op_add (pv 20) pe_int) (pe_callB (r := rLen8 K) call_len_seq (by rfl) T.len PySem.boot_len (pa_cons (pv 4) pa_nil)) (nomark _)) (pw_or1 (pt_cmpR (r := rIn K false) op_in_seq (pe_ix (r := rIxT K) ix_tup (pv 17) pe_int (fun _ _ => rfl)) (pv 16) (by with_unfolding_all rfl))))))) (fun _ _ _ _ _ => (pv 17)))))))
          (pss_one (ps_set (i := 4) sc__law_turned.nd rfl (Or.inr rfl) (pe_lc (own := [("_law_row", 17)]) (by exact rfl) sc__law_turned.nd (pi_list (pv 4)) (blkOk_by (own := [("_law_row", 17)]) (N := N__law_turned) (sc := defScope s__law_turned) (by decide +kernel)) (fun _ _ _ _ _ => (pg_name (i := 17) sc__law_turned.nd rfl (Or.inl rfl))) (fun _ _ _ _ _ => pts_nil) (fun _ _ _ _ _ => (pe_tup (pa_cons (pe_ix (r := rIxT K) ix_tup (pv 17) pe_int (fun _ _ => rfl)) (pa_cons (show PE _ _ (tRevT K (tOp (rIxT K) _ _)) from pe_revT (pe_ix (r := rIxT K) ix_tup (pv 17) pe_int (fun _ _ => rfl))) (pa_cons (pe_ix (r := rIxT K) ix_tup (pv 17) pe_int (fun _ _ => rfl)) pa_nil)))))))))))))
        (C8.pss_cut (ps_if (PW.pt (pw_and (pt_cmpR op_eq (pv 2) pe_int (nomark _)) (pw_and1 (pt_cmpR op_gt (pv 6) pe_int (nomark _)))))
          (pss_one (ps_set (i := 6) sc__law_turned.nd rfl (Or.inl rfl) (pe_op op_add pe_int (pe_op op_mod (pv 6) pe_int))))
          pss_nil)
        (pss_one (ps_ret (C8.pe_c c_law_sorted_out hr (by decide) (by rfl) (pa_cons (pv 6) (pa_cons (pv 4) (pa_cons (pv 5) (pa_cons (pv 3) pa_nil))))))))))), ?_⟩
    obtain ⟨ls, lm, lr, of, gkv, gs, _⟩ := gi.ex
    obtain ⟨sv, a1, a2⟩ := gs.hls
    obtain ⟨mv, a3, a4⟩ := gs.hlm
    obtain ⟨rv, a5, a6⟩ := gs.hlr
    have nga : gd ≠ a := fun z => by
      have := gs.hgd
      rw [z, ha] at this
      cases this
    have dg : ∀ {Z : Hp} {k : Str} {v : V}, But a H Z → valV gkv (Sum.inr k) = some v → DGet Z gd (.str k) (some v) := fun {Z k v} t h => by
      have g := DGet.k (k := Sum.inr k) (t _ _ nga gs.hgd)
      rw [h] at g
      exact g
    have r4 := gf.so.le
    have m8 := gf.m8
    have u240 := gf.rl
    have r9 := gf.rf
    have imS := immAll_map SRow.imm rs
    have imM := immAll_map MRow.imm ms
    have imR := immAll_map RRow.imm ru
    refine ⟨fun σ X => ∃ (way : Nat) (pr : Addr) (b1 : List V), σ = [some (.ref a), some (.ref gd), some (.int (way : Nat)), some (.ref pr), none, none, none, none, none, none, none, none, none, none, none, none, none, none, none, none, none] ∧ way < 7 ∧ But a H X ∧ X pr = some (.lst rv) ∧ pr ≠ a ∧ X a = some (.lst b1) ∧ BoxL (m + 1) b1, ?_, ?_⟩
    · refine ⟨_, rfl, a, 7, _, b, rfl, ha, hB, by omega, by decide, by decide, fun r b1 r0 r7 hB1 => ?_⟩
      obtain ⟨n, rfl⟩ := Int.eq_ofNat_of_zero_le r0
      have bX : But a H (upd H a (.lst b1)) := But.upd (But.refl a H)
      have hb1 : (upd H a (.lst b1)) a = some (.lst b1) := upd_same
      generalize upd H a (.lst b1) = X at bX hb1 ⊢
      refine ⟨_, rfl, gd, .ref lr, rfl, dg bX gs.rl, lr, rv, rfl, .inl (SqL.of (bX _ _ gs.n3 a5)), fun pr npr => ⟨_, _, rfl, ?_⟩⟩
      have s1 := same_upd (o := .lst rv) npr
      exact ⟨n, pr, b1, rfl, by omega, bX.trans (But.of s1), upd_same, (fun z => by rw [z, hb1] at npr; cases npr), s1 _ _ hb1, hB1⟩
    rintro σ X ⟨way, pr, b1, rfl, hway, bX, hpr, nra, hb1, hB1⟩
    refine ⟨fun σ X => ∃ (ps pm : Addr), σ = [some (.ref a), some (.ref gd), some (.int (way : Nat)), some (.ref pr), some (.ref ps), some (.ref pm), some (.int (roof : Nat)), none, none, none, none, none, none, none, none, none, none, none, none, none, none] ∧ Tl8 K H X a pr ps pm rs ms ru ∧ X a = some (.lst b1), ?_, ?_⟩
    · refine ⟨_, rfl, gd, .ref ls, rfl, dg bX gs.so, ls, sv, rfl, .inl (SqL.of (bX _ _ gs.n1 a1)), fun ps nps => ?_⟩
      have s1 := same_upd (o := .lst sv) nps
      have b1X := bX.trans (But.of s1)
      refine ⟨_, rfl, gd, .ref lm, rfl, dg b1X gs.mak, lm, mv, rfl, .inl (SqL.of (b1X _ _ gs.n2 a3)), fun pm npm => ?_⟩
      have s2 := same_upd (o := .lst mv) npm
      have b2X := b1X.trans (But.of s2)
      refine ⟨_, rfl, gd, .int (roof : Nat), rfl, dg b2X gs.cap, by show 3 ≤ sizeLine; decide, fun tp ntp => ?_⟩
      have s3 := same_upd (o := .tup [.ref ps, .ref pm, .int (roof : Nat)]) ntp
      have b3X := b2X.trans (But.of s3)
      have kT := KeepT.but ha b3X
      have s23 := s2.trans s3
      refine ⟨tp, _, rfl, SqT.of upd_same, rfl, _, _, rfl, _, _, rfl, _, _, rfl, rfl, ?_⟩
      exact ⟨ps, pm, rfl, ⟨b3X, nra, (fun z => by rw [z, hb1] at nps; cases nps), (fun z => by rw [z, s1 _ _ hb1] at npm; cases npm), ⟨rv, (s1.trans s23) _ _ hpr, dpAll_imm kT a6 imR⟩, ⟨sv, s23 _ _ upd_same, dpAll_imm kT a2 imS⟩, ⟨mv, s3 _ _ upd_same, dpAll_imm kT a4 imM⟩⟩, (s1.trans s23) _ _ hb1⟩
    clear hpr nra hb1 bX X
    rintro σ X ⟨ps, pm, rfl, tl, hb1⟩
    -- turned
    refine ⟨fun σ X => ∃ (pr ps pm : Addr) (rs' : List SRow) (ms' : List MRow) (ru' : List RRow) (b2 : List V) (y7 y8 y9 y10 y11 y12 y13 y14 y15 y16 y17 y18 y19 y20 : Option V), σ = [some (.ref a), some (.ref gd), some (.int (way : Nat)), some (.ref pr), some (.ref ps), some (.ref pm), some (.int (roof : Nat)), y7, y8, y9, y10, y11, y12, y13, y14, y15, y16, y17, y18, y19, y20] ∧ Tl8 K H X a pr ps pm rs' ms' ru' ∧ GFit rs' ms' ru' roof ∧ X a = some (.lst b2) ∧ BoxL (m + 20) b2, ?_, ?_⟩
    · obtain ⟨rv, hr1, hr2⟩ := tl.hr
      obtain ⟨sv, hs1, hs2⟩ := tl.hs
      obtain ⟨mv, hm1, hm2⟩ := tl.hm
      have lrv := dpAll_len hr2
      have lsv := dpAll_len hs2
      have lmv := dpAll_len hm2
      rw [List.length_map] at lrv lsv lmv
      refine ⟨_, rfl, _, _, rfl, rfl, _, rfl, ?_⟩
      by_cases e4 : ((way : Nat) : Int) < 4
      · refine ifT (decide_eq_true e4) ?_
        refine ⟨_, rfl, by show 0 ≤ sizeLine; decide, fun l0 nl0 => ?_⟩
        have s0 := same_upd (o := .lst []) nl0
        refine ⟨pr, l0, rv, rfl, rfl, s0 _ _ hr1, upd_same, _, rfl, ?_⟩
        by_cases e0 : rv.length = 0
        · refine ifF (by rw [decide_eq_true e0]; rfl) ?_
          obtain ⟨Y, sY, eY⟩ : ∃ Y, Same X Y ∧ Y = upd X l0 (.lst []) := ⟨_, s0, rfl⟩
          rw [← eY]
          have n4 : ¬ V.int ((way : Nat) : Int) = V.int 4 := fun z => by have := V.int.inj z; omega
          have n5 : ¬ V.int ((way : Nat) : Int) = V.int 5 := fun z => by have := V.int.inj z; omega
          refine ⟨_, rfl, rfl, _, rfl, ifF (decide_eq_false n4) ?_⟩
          refine ⟨_, rfl, rfl, _, rfl, ifF (decide_eq_false n5) ?_⟩
          refine ⟨_, rfl, ps, rfl, ⟨_, SqL.of (sY _ _ hs1)⟩, fun D nD => ?_⟩
          refine lc_list (K := K) (a := ps) (xs := sv) (fun j U => Same Y U ∧ ∃ vs : List V, U D = some (.lst vs) ∧ DpAll K U vs ((rs.take j).map fun r => SRow.d (dnRow r))) ⟨same_upd nD, [], upd_same, .nil⟩ (fun j U _ h => SqL.of ((sY.trans h.1) _ _ hs1)) ?_ ?_
          · rintro j x U hx ⟨sU, vs, hD, hvs⟩
            obtain ⟨dd, hdd, hxd⟩ := dpAll_at (dpAll_same (sY.trans sU) hs2) hx
            rw [List.getElem?_map] at hdd
            obtain ⟨r, hr, rfl⟩ : ∃ r, rs[j]? = some r ∧ dd = r.d := by
              cases h : rs[j]? with
              | none => rw [h] at hdd; cases hdd
              | some e => rw [h] at hdd; exact ⟨e, rfl, (Option.some.inj hdd).symm⟩
            have hj : j < rs.length := (List.getElem?_eq_some_iff.mp hr).1
            have lv := dpAll_len hvs
            rw [List.length_map, List.length_take] at lv
            obtain ⟨q', v1, v2, rfl, hq, hv1, hv2⟩ := t3_at (t := sT r) hxd
            obtain ⟨t1, rfl, ht1⟩ := names_dp hv1
            refine ⟨rfl, yesT ?_⟩
            refine ⟨_, rfl, q', _, 0, .str (SX.S r.nm), rfl, rfl, hq, atI_nat (j := 0) rfl, _, rfl, q', _, 1, .ref t1, rfl, rfl, hq, atI_nat (j := 1) rfl, t1, _, rfl, ht1, fun p np => ?_⟩
            have s1 := same_upd (o := .tup (nmV r.dn).reverse) np
            refine ⟨_, rfl, q', _, 2, v2, rfl, rfl, Same.seqT s1 hq, atI_nat (j := 2) rfl, by show 3 ≤ sizeLine; decide, fun t3 nt3 => ?_⟩
            have s3 := same_upd (o := .tup [.str (SX.S r.nm), .ref p, v2]) nt3
            have s13 := s1.trans s3
            have hD3 := s13 _ _ hD
            have kk : KeepT (upd (upd U p (.tup (nmV r.dn).reverse)) t3 (.tup [.str (SX.S r.nm), .ref p, v2])) (upd (upd (upd U p (.tup (nmV r.dn).reverse)) t3 (.tup [.str (SX.S r.nm), .ref p, v2])) D (.lst (vs ++ [.ref t3]))) := KeepT.at_ hD3 lst_no
            have ep : (nmV r.dn).reverse = nmV (dnRow r).dn := by
              show (r.dn.map _).reverse = r.dn.reverse.map _
              rw [List.map_reverse]
            have drow : Dp K (upd (upd U p (.tup (nmV r.dn).reverse)) t3 (.tup [.str (SX.S r.nm), .ref p, v2])) (.ref t3) (SRow.d (dnRow r)) := by
              refine .tup (SqT.of upd_same) (.cons (.str _) (.cons (.tup (SqT.of (s3 _ _ upd_same)) ?_) (.cons (dp_same s13 hv2) .nil)))
              rw [ep]
              exact nm_dp _
            refine ⟨vs, hD3, small1000 (by omega), Same.at_ (sU.trans s13) nD, vs ++ [.ref t3], upd_same, ?_⟩
            rw [List.take_add_one, hr, List.map_append]
            exact dpAll_appI (dpAll_imm ((KeepT.of s13).trans kk) hvs (immAll_of6 fun d hd => by
              obtain ⟨r, _, rfl⟩ := List.mem_map.mp hd
              exact SRow.imm _)) (.cons (dp_imm kk drow (SRow.imm _)) .nil)
          · rintro U ⟨sU, vs, hD, hvs⟩
            rw [lsv, List.take_length] at hvs
            have sYU := sY.trans sU
            have nDa : D ≠ a := fun z => by rw [z, sY _ _ hb1] at nD; cases nD
            refine ⟨pr, D, pm, rs.map dnRow, ms, ru, b1, _, _, _, _, _, _, _, _, _, _, _, _, _, _, rfl, ⟨tl.bt.trans (But.of sYU), tl.nr, nDa, tl.nm, ⟨rv, sYU _ _ hr1, dpAll_same sYU hr2⟩, ⟨vs, hD, by rw [List.map_map]; exact hvs⟩, ⟨mv, sYU _ _ hm1, dpAll_same sYU hm2⟩⟩, gf.dns, sYU _ _ hb1, hB1.mono (by omega)⟩
        · refine ifT (by rw [decide_eq_false e0]; rfl) ?_
          have tl0 := tl.go hb1 (But.of s0)
          have hb0 := s0 _ _ hb1
          clear hr1 hr2 hs1 hs2 hm1 hm2
          generalize upd X l0 (.lst []) = Y0 at tl0 hb0 ⊢
          obtain ⟨rv1, hr1, hr2⟩ := tl0.hr
          have lrv1 := dpAll_len hr2
          rw [List.length_map] at lrv1
          have ru0 : ru.length ≠ 0 := by omega
          refine ⟨_, rfl, _, rfl, pr, rv1, rfl, .inl (SqL.of hr1), a, ru.length, _, b1, by rw [lrv1]; rfl, hb0, hB1, by omega, by omega, by omega, fun k b2 k0 k1 hB2 => ?_⟩
          obtain ⟨at_, rfl⟩ := Int.eq_ofNat_of_zero_le k0
          have hat : at_ < ru.length := by omega
          have tl1 := tl0.go hb0 (But.upd (But.refl a Y0) (o := .lst b2))
          have hb2 : (upd Y0 a (.lst b2)) a = some (.lst b2) := upd_same
          clear hr1 hr2 lrv1 tl0 rv1
          generalize upd Y0 a (.lst b2) = Y1 at tl1 hb2 ⊢
          obtain ⟨rv1, hr1, hr2⟩ := tl1.hr
          have lrv1 := dpAll_len hr2
          rw [List.length_map] at lrv1
          obtain ⟨r, hri⟩ : ∃ r, ru[at_]? = some r := ⟨ru[at_]'hat, List.getElem?_eq_getElem _⟩
          obtain ⟨v0, hv0⟩ : ∃ v, rv1[at_]? = some v := ⟨rv1[at_]'(by omega), List.getElem?_eq_getElem _⟩
          obtain ⟨dd, hdd, hvd⟩ := dpAll_at hr2 hv0
          rw [List.getElem?_map, hri] at hdd
          cases hdd
          have rok := gf.ra r (List.mem_of_getElem? hri)
          have ho3 := ar3 r.op
          have har := rok.ar
          obtain ⟨q4, w2, t4, us4, rfl, hq4, hw2, ht4, hus4⟩ := rr4 hvd
          have lus := dpAll_len hus4
          rw [List.length_map] at lus
          refine ⟨_, rfl, _, rfl, pr, _, _, .ref q4, rfl, rfl, SqL.of hr1, atI_nat hv0, q4, _, rfl, hq4, rfl, _, _, rfl, _, _, rfl, _, _, rfl, _, _, rfl, rfl, ?_⟩
          -- ops as many
          refine ⟨fun σ U => ∃ (sl_ : Addr) (zs : List (List Nat)), σ = [some (.ref a), some (.ref gd), some (.int (way : Nat)), some (.ref pr), some (.ref ps), some (.ref pm), some (.int (roof : Nat)), some (.int (at_ : Nat)), some (.str (SX.S r.ma)), some w2, some (.str (SX.S r.op)), some (.ref t4), some (.ref sl_), none, none, none, none, none, none, none, none] ∧ Same Y1 U ∧ U sl_ = some (.lst (nmV zs)) ∧ sl_ ≠ a ∧ zs ≠ [] ∧ zs.length ≤ 11 ∧ ∀ z ∈ zs, z ∈ opsOf roof ∧ arOf z = r.os.length, ?_, ?_⟩
          · refine ⟨_, rfl, roof, rfl, fun Y2 lo ov sO nlo hlo hov => ?_⟩
            refine ⟨lo, rfl, ⟨_, SqL.of hlo⟩, fun D nD => ?_⟩
            have lov := dpAll_len hov
            rw [List.length_map] at lov
            obtain ⟨ol1, ol2⟩ := opsR_len roof
            refine lc_list (K := K) (a := lo) (xs := ov) (fun j U => Same Y2 U ∧ U D = some (.lst (nmV ((((opsR roof).take j).filter fun o => decide (o.2 = us4.length)).map (·.1))))) ⟨same_upd nD, upd_same⟩ (fun j U _ h => SqL.of (h.1 _ _ hlo)) ?_ ?_
            · rintro j x U hx ⟨sU, hD⟩
              obtain ⟨dd, hdd, hde⟩ := dpAll_at hov hx
              rw [List.getElem?_map] at hdd
              obtain ⟨o, eo, rfl⟩ : ∃ o, (opsR roof)[j]? = some o ∧ dd = opRD o := by
                cases z : (opsR roof)[j]? with
                | none => rw [z] at hdd; cases hdd
                | some y => rw [z] at hdd; exact ⟨y, rfl, (Option.some.inj hdd).symm⟩
              have hj : j < (opsR roof).length := (List.getElem?_eq_some_iff.mp eo).1
              obtain ⟨to, rfl, hto⟩ : ∃ to, x = .ref to ∧ SqT K U to [.str (SX.S o.1), .int (o.2 : Nat)] := by
                cases dp_same sU hde with
                | tup hS hA =>
                  cases hA with
                  | cons a1 hA =>
                    cases hA with
                    | cons a2 hA =>
                      cases hA
                      cases a1
                      cases a2
                      exact ⟨_, rfl, hS⟩
              refine ⟨to, _, rfl, hto, rfl, _, _, rfl, _, _, rfl, rfl, rfl, ?_⟩
              refine ⟨_, rfl, _, rfl, t4, us4, rfl, .inr (Same.seqT (sO.trans sU) ht4), rfl, _, rfl, ?_⟩
              have fl : (((opsR roof).take j).filter fun o => decide (o.2 = us4.length)).length ≤ 11 := by
                refine Nat.le_trans (List.length_filter_le _ _) ?_
                rw [List.length_take]
                omega
              rw [List.take_add_one, eo, List.filter_append]
              by_cases he : o.2 = us4.length
              · refine ifT (decide_eq_true (by rw [he])) ⟨_, rfl, _, hD, small1000 (by rw [nmV_len, List.length_map]; omega), Same.at_ sU nD, ?_⟩
                rw [upd_same, show List.filter (fun o : List Nat × Nat => decide (o.2 = us4.length)) (some o).toList = [o] from by simp [he], List.map_append]
                unfold nmV
                rw [List.map_append]
                rfl
              · refine ifF (decide_eq_false (fun z => he (by have := V.int.inj z; omega))) ⟨sU, ?_⟩
                rw [show List.filter (fun o : List Nat × Nat => decide (o.2 = us4.length)) (some o).toList = [] from by simp [he], List.append_nil]
                exact hD
            · rintro U ⟨sU, hD⟩
              rw [lov, List.take_length] at hD
              have nDa : D ≠ a := fun z => by rw [z, sO _ _ hb2] at nD; cases nD
              refine ⟨D, _, rfl, sO.trans sU, hD, nDa, fun z => ?_, ?_, fun z hz => ?_⟩
              · have h := opsR_all rok.op
                have h2 : (r.op, arOf r.op) ∈ (opsR roof).filter fun o => decide (o.2 = us4.length) := List.mem_filter.mpr ⟨h, decide_eq_true (by show arOf r.op = _; omega)⟩
                have h3 := List.mem_map_of_mem (f := (·.1)) h2
                rw [z] at h3
                cases h3
              · rw [List.length_map]
                exact Nat.le_trans (List.length_filter_le _ _) ol2
              · obtain ⟨o, ho, rfl⟩ := List.mem_map.mp hz
                obtain ⟨h1, h2⟩ := List.mem_filter.mp ho
                obtain ⟨h3, h4⟩ := opsR_ok h1
                have h2 := of_decide_eq_true h2
                exact ⟨h3, by rw [h4, h2, lus]⟩
          rintro σ Y2 ⟨sl_, zs, rfl, sY2, hsl, nsla, zne, zl, hzs⟩
          have hb3 := sY2 _ _ hb2
          have arp : 1 ≤ us4.length := by
            have : 1 ≤ arOf r.op := by
              unfold arOf
              split
              · decide
              · split <;> decide
            omega
          have ht4' := Same.seqT sY2 ht4
          refine ⟨_, rfl, _, rfl, t4, us4, rfl, .inr ht4', a, us4.length, _, b2, rfl, hb3, hB2, by omega, by omega, by omega, fun p b3 p0 p1 hB3 => ?_⟩
          obtain ⟨pl, rfl⟩ := Int.eq_ofNat_of_zero_le p0
          have hpl : pl < r.os.length := by omega
          have bt3 : But a Y2 (upd Y2 a (.lst b3)) := But.upd (But.refl a Y2)
          have hb4 : (upd Y2 a (.lst b3)) a = some (.lst b3) := upd_same
          refine ⟨_, rfl, a, _, b3, rfl, hb4, hB3, by omega, fun Y3 z b4 bt4 hb5 hB4 z0 z1 => ?_⟩
          obtain ⟨zn, rfl⟩ := Int.eq_ofNat_of_zero_le z0
          refine ⟨by show 2 ≤ sizeLine; decide, fun tn ntn => ⟨_, _, rfl, ?_⟩⟩
          have s4 := same_upd (o := .tup [.str "number", .int (zn : Nat)]) ntn
          have htn : SqT K (upd Y3 tn (.tup [.str "number", .int (zn : Nat)])) tn [.str "number", .int (zn : Nat)] := SqT.of upd_same
          have bY : But a Y1 (upd Y3 tn (.tup [.str "number", .int (zn : Nat)])) := ((But.of sY2).trans (bt3.trans bt4)).trans (But.of s4)
          have bY2 : But a Y2 (upd Y3 tn (.tup [.str "number", .int (zn : Nat)])) := (bt3.trans bt4).trans (But.of s4)
          have hb6 := s4 _ _ hb5
          clear bt3 hb4
          generalize upd Y3 tn (.tup [.str "number", .int (zn : Nat)]) = Y4 at htn bY bY2 hb6 ⊢
          have hsl4 := bY2 _ _ nsla hsl
          have w2d := dp_imm (KeepT.but hb2 bY) hw2 r.tg.imm
          have tl4 := tl1.go hb2 bY
          have hop4 := dpAll_imm (KeepT.but hb2 bY) hus4 (immAll_map Od.imm r.os)
          have ht4'' := (KeepT.but hb2 bY).seqT ht4
          have zl1 : 1 ≤ zs.length := by
            cases zs with
            | nil => exact absurd rfl zne
            | cons z zs => rw [List.length_cons]; omega
          -- what may stand there
          refine ⟨by show 0 ≤ sizeLine; decide, fun n0 e0' => ?_⟩
          have g0 := same_upd (o := .lst []) e0'
          refine ⟨_, rfl, _, rfl, _, rfl, _, rfl, a, sl_, _, b4, _, rfl, g0 _ _ hb6, hB4, by omega, SqL.of (g0 _ _ hsl4), nsla, by rw [nmV_len]; omega, by rw [nmV_len]; omega, fun i2 v b5 hv hB5 => ?_⟩
          obtain ⟨z2, hz2, rfl⟩ : ∃ z2 ∈ zs, v = .str (SX.S z2) := by
            unfold nmV at hv
            rw [List.getElem?_map] at hv
            cases t : zs[i2]? with
            | none => rw [t] at hv; cases hv
            | some w => rw [t] at hv; exact ⟨w, List.mem_of_getElem? t, (Option.some.inj hv).symm⟩
          obtain ⟨ho1, ho2⟩ := hzs z2 hz2
          have n0a : n0 ≠ a := fun z => by rw [z, hb6] at e0'; cases e0'
          have c5 : But a Y4 (upd (upd Y4 n0 (.lst [])) a (.lst b5)) := (But.of g0).trans (But.upd (But.refl a _))
          have hn0 : (upd (upd Y4 n0 (.lst [])) a (.lst b5)) n0 = some (.lst []) := by rw [upd_ne n0a]; exact upd_same
          have hb7 : (upd (upd Y4 n0 (.lst [])) a (.lst b5)) a = some (.lst b5) := upd_same
          have kT5 := KeepT.but hb6 c5
          have w2d5 := dp_imm kT5 w2d r.tg.imm
          have tl5 := tl4.go hb6 c5
          have hop5 := dpAll_imm kT5 hop4 (immAll_map Od.imm r.os)
          have ht5 := kT5.seqT ht4''
          have htn5 := kT5.seqT htn
          clear hsl4 w2d tl4 hop4 ht4'' htn
          generalize upd (upd Y4 n0 (.lst [])) a (.lst b5) = Y5 at hn0 hb7 w2d5 tl5 hop5 ht5 htn5 c5 ⊢
          refine ⟨_, rfl, by show 4 ≤ sizeLine; decide, fun t1 nt1 => ⟨by show 1 ≤ sizeLine; decide, fun n1 e1 => ⟨by show 2 ≤ sizeLine; decide, fun nw enw => ?_⟩⟩⟩
          have s5 := same_upd (o := .tup [.str (SX.S r.ma), w2, .str (SX.S z2), .ref t4]) nt1
          have s6 := same_upd (o := .lst [.ref t1]) e1
          have s7 := same_upd (o := .lst [.ref n0, .ref n1]) enw
          have s57 := s5.trans (s6.trans s7)
          have hnw : (upd (upd (upd Y5 t1 (.tup [.str (SX.S r.ma), w2, .str (SX.S z2), .ref t4])) n1 (.lst [.ref t1])) nw (.lst [.ref n0, .ref n1])) nw = some (.lst [.ref n0, .ref n1]) := upd_same
          have hn1 := s7 _ _ (upd_same (H := upd Y5 t1 (.tup [.str (SX.S r.ma), w2, .str (SX.S z2), .ref t4])) (a := n1) (o := .lst [.ref t1]))
          have d1 : Dp K (upd (upd (upd Y5 t1 (.tup [.str (SX.S r.ma), w2, .str (SX.S z2), .ref t4])) n1 (.lst [.ref t1])) nw (.lst [.ref n0, .ref n1])) (.ref t1) (RRow.d ⟨r.ma, r.tg, z2, r.os⟩) :=
            dp_same (s6.trans s7) (.tup (SqT.of upd_same) (.cons (.str _) (.cons (dp_same s5 w2d5) (.cons (.str _) (.cons (.tup (Same.seqT s5 ht5) (dpAll_same s5 hop5)) .nil)))))
          have hn0' := s57 _ _ hn0
          have hb8 := s57 _ _ hb7
          have ht8 := Same.seqT s57 ht5
          have htn8 := Same.seqT s57 htn5
          have hop8 := dpAll_same s57 hop5
          have w2d8 := dp_same s57 w2d5
          have tl8 := tl5.go hb7 (But.of s57)
          clear s5 s6 s7 hn0 hb7 ht5 htn5 hop5 w2d5 tl5
          generalize upd (upd (upd Y5 t1 (.tup [.str (SX.S r.ma), w2, .str (SX.S z2), .ref t4])) n1 (.lst [.ref t1])) nw (.lst [.ref n0, .ref n1]) = Y8 at hnw hn1 d1 hn0' hb8 ht8 htn8 hop8 w2d8 tl8 s57 ⊢
          -- or with another number
          refine ⟨_, rfl, _, rfl, _, rfl, _, rfl, _, rfl, _, rfl, (pl : Nat), rfl, t4, us4, rfl, ht8, fun U1 ta sa hta => ?_⟩
          rw [cutV_to] at hta
          refine ⟨_, rfl, by show 1 ≤ sizeLine; decide, fun tb ntb => ?_⟩
          have sb := same_upd (o := .tup [.ref tn]) ntb
          refine ⟨ta, tb, _, _, rfl, rfl, Same.seqT sb hta, SqT.of upd_same, ?_, fun U2 tc sc htc => ?_⟩
          · rw [List.length_take]
            exact Nat.le_trans (show _ ≤ 10 by show min pl us4.length + 1 ≤ 10; omega) (by decide)
          have s82 := sa.trans (sb.trans sc)
          refine ⟨_, rfl, _, rfl, _, _, rfl, rfl, ((pl : Nat) : Int) + 1, rfl, t4, us4, rfl, Same.seqT s82 ht8, fun U3 td sd htd => ?_⟩
          rw [show (((pl : Nat) : Int) + 1) = ((pl + 1 : Nat) : Int) from rfl, cutV_from] at htd
          refine ⟨tc, td, _, _, rfl, rfl, Same.seqT sd htc, htd, ?_, fun U4 te se hte => ?_⟩
          · rw [List.length_append, List.length_take, List.length_drop]
            exact Nat.le_trans (show _ ≤ 10 by show min pl us4.length + 1 + (us4.length - (pl + 1)) ≤ 10; omega) (by decide)
          have s84 := s82.trans (sd.trans se)
          have dos : DpAll K U4 (us4.take pl ++ [V.ref tn] ++ us4.drop (pl + 1)) ((r.os.take pl ++ [Od.num zn] ++ r.os.drop (pl + 1)).map Od.d) := by
            have h := dpAll_same s84 hop8
            rw [List.map_append, List.map_append, List.map_take, List.map_drop]
            exact dpAll_appI (dpAll_appI (dpAll_take pl h) (.cons (.tup (Same.seqT s84 htn8) (.cons (.str _) (.cons (.int _) .nil))) .nil)) (dpAll_drop (pl + 1) h)
          have hb9 := s84 _ _ hb8
          have tl9 := tl8.go hb8 (But.of s84)
          have hnw9 := s84 _ _ hnw
          have hn19 := s84 _ _ hn1
          have hn09 := s84 _ _ hn0'
          have d19 := dp_same s84 d1
          have w2d9 := dp_same s84 w2d8
          clear hta ntb sb htc htd s82 ht8 htn8 hop8 w2d8 d1 hn1 hn0' hnw hb8 sa sc sd se
          refine ⟨by show 4 ≤ sizeLine; decide, fun t2 nt2 => ⟨by show 1 ≤ sizeLine; decide, fun n2 e2 => ?_⟩⟩
          have s1 := same_upd (o := .tup [.str (SX.S r.ma), w2, .str (SX.S r.op), .ref te]) nt2
          have s2 := same_upd (o := .lst [.ref t2]) e2
          have s12 := s1.trans s2
          have hn2 : (upd (upd U4 t2 (.tup [.str (SX.S r.ma), w2, .str (SX.S r.op), .ref te])) n2 (.lst [.ref t2])) n2 = some (.lst [.ref t2]) := upd_same
          have d2 : Dp K (upd (upd U4 t2 (.tup [.str (SX.S r.ma), w2, .str (SX.S r.op), .ref te])) n2 (.lst [.ref t2])) (.ref t2) (RRow.d ⟨r.ma, r.tg, r.op, r.os.take pl ++ [Od.num zn] ++ r.os.drop (pl + 1)⟩) :=
            dp_same s2 (.tup (SqT.of upd_same) (.cons (.str _) (.cons (dp_same s1 w2d9) (.cons (.str _) (.cons (.tup (Same.seqT s1 hte) (dpAll_same s1 dos)) .nil)))))
          have tl10 := tl9.go hb9 (But.of s12)
          have hb10 := s12 _ _ hb9
          have hnw10 := s12 _ _ hnw9
          have hn110 := s12 _ _ hn19
          have hn010 := s12 _ _ hn09
          have d110 := dp_same s12 d19
          clear hte dos s1 s2 tl9 hb9 hnw9 hn19 hn09 d19 w2d9
          generalize upd (upd U4 t2 (.tup [.str (SX.S r.ma), w2, .str (SX.S r.op), .ref te])) n2 (.lst [.ref t2]) = V1 at hn2 d2 tl10 hb10 hnw10 hn110 hn010 d110 s12 ⊢
          obtain ⟨rv2, hr3, hr4⟩ := tl10.hr
          have lrv2 := dpAll_len hr4
          rw [List.length_map] at lrv2
          obtain ⟨v3, hv3⟩ : ∃ v, rv2[at_]? = some v := ⟨rv2[at_]'(by omega), List.getElem?_eq_getElem _⟩
          obtain ⟨dd, hdd, d3⟩ := dpAll_at hr4 hv3
          rw [List.getElem?_map, hri] at hdd
          cases hdd
          refine ⟨_, rfl, _, rfl, pr, _, _, v3, rfl, rfl, SqL.of hr3, atI_nat hv3, by show 1 ≤ sizeLine; decide, fun n3 e3 => ⟨by show 2 ≤ sizeLine; decide, fun nx enx => ?_⟩⟩
          have s1 := same_upd (o := .lst [v3]) e3
          have s2 := same_upd (o := .lst [.ref n2, .ref n3]) enx
          have s13 := s1.trans s2
          refine ⟨nw, nx, _, _, rfl, rfl, s13 _ _ hnw10, upd_same, by show 4 ≤ sizeLine; decide, fun nn enn => ?_⟩
          have s3 := same_upd (o := .lst ([.ref n0, .ref n1] ++ [.ref n2, .ref n3])) enn
          have s14 := s13.trans s3
          have s24 := s2.trans s3
          have hnn : (upd (upd (upd V1 n3 (.lst [v3])) nx (.lst [.ref n2, .ref n3])) nn (.lst ([.ref n0, .ref n1] ++ [.ref n2, .ref n3]))) nn = some (.lst [.ref n0, .ref n1, .ref n2, .ref n3]) := upd_same
          have hn3 := s24 _ _ (upd_same (H := V1) (a := n3) (o := .lst [v3]))
          have tl11 := tl10.go hb10 (But.of s14)
          have hb11 := s14 _ _ hb10
          have hw4 : way < 4 := by omega
          obtain ⟨nk, xv, xs, hnk, hxv, hxd, hxl, hxo⟩ : ∃ (nk : Addr) (xv : List V) (xs : List RRow), atI [V.ref n0, .ref n1, .ref n2, .ref n3] ((way : Nat) : Int) = some (.ref nk) ∧ (upd (upd (upd V1 n3 (.lst [v3])) nx (.lst [.ref n2, .ref n3])) nn (.lst ([.ref n0, .ref n1] ++ [.ref n2, .ref n3]))) nk = some (.lst xv) ∧ DpAll K (upd (upd (upd V1 n3 (.lst [v3])) nx (.lst [.ref n2, .ref n3])) nn (.lst ([.ref n0, .ref n1] ++ [.ref n2, .ref n3]))) xv (xs.map RRow.d) ∧ xs.length ≤ 1 ∧ ∀ x ∈ xs, x.ma = r.ma ∧ x.tg = r.tg ∧ RuleOk rs ms roof x ∧ ∀ o ∈ x.os, ∀ w ∈ odName o, ∃ o' ∈ r.os, w ∈ odName o' := by
            obtain ⟨mm, hmm, ema, hmt, hmo⟩ := rok.ex
            have hc : way = 0 ∨ way = 1 ∨ way = 2 ∨ way = 3 := by omega
            rcases hc with rfl | rfl | rfl | rfl
            · exact ⟨n0, [], [], atI_nat (j := 0) rfl, s14 _ _ hn010, .nil, Nat.zero_le _, fun x h => nomatch h⟩
            · refine ⟨n1, _, [⟨r.ma, r.tg, z2, r.os⟩], atI_nat (j := 1) rfl, s14 _ _ hn110, .cons (dp_same s14 d110) .nil, Nat.le_refl _, fun x h => ?_⟩
              rw [List.mem_singleton.mp h]
              exact ⟨rfl, rfl, ⟨⟨mm, hmm, ema, hmt, hmo⟩, ho1, ho2.symm⟩, fun o ho w hw => ⟨o, ho, hw⟩⟩
            · refine ⟨n2, _, [⟨r.ma, r.tg, r.op, r.os.take pl ++ [Od.num zn] ++ r.os.drop (pl + 1)⟩], atI_nat (j := 2) rfl, s14 _ _ hn2, .cons (dp_same s14 d2) .nil, Nat.le_refl _, fun x h => ?_⟩
              rw [List.mem_singleton.mp h]
              have cut : ∀ o ∈ r.os.take pl ++ [Od.num zn] ++ r.os.drop (pl + 1), o ∈ r.os ∨ o = .num zn := fun o ho => by
                rcases List.mem_append.mp ho with h | h
                · rcases List.mem_append.mp h with h | h
                  · exact .inl (List.mem_of_mem_take h)
                  · exact .inr (List.mem_singleton.mp h)
                · exact .inl (List.mem_of_mem_drop h)
              refine ⟨rfl, rfl, ⟨⟨mm, hmm, ema, hmt, fun o ho => ?_⟩, rok.op, ?_⟩, fun o ho w hw => ?_⟩
              · rcases cut o ho with h | h
                · exact hmo o h
                · rw [h]
                  show zn < 1000000
                  omega
              · show (r.os.take pl ++ [Od.num zn] ++ r.os.drop (pl + 1)).length = _
                rw [List.length_append, List.length_append, List.length_take, List.length_drop]
                show min pl r.os.length + 1 + (r.os.length - (pl + 1)) = arOf r.op
                rw [← har]
                omega
              · rcases cut o ho with h | h
                · exact ⟨o, h, hw⟩
                · rw [h] at hw
                  cases hw
            · refine ⟨n3, _, [r], atI_nat (j := 3) rfl, hn3, .cons (dp_same s14 d3) .nil, Nat.le_refl _, fun x h => ?_⟩
              rw [List.mem_singleton.mp h]
              exact ⟨rfl, rfl, rok, fun o ho w hw => ⟨o, ho, hw⟩⟩
          clear hn3 hn010 hn110 hn2 d110 d2 d3 hv3 hr3 hr4 lrv2 rv2 tl10 hb10 s1 s2 s3 s13 s24 hnw10
          generalize upd (upd (upd V1 n3 (.lst [v3])) nx (.lst [.ref n2, .ref n3])) nn (.lst ([.ref n0, .ref n1] ++ [.ref n2, .ref n3])) = V2 at hnn tl11 hb11 hxv hxd s14 ⊢
          obtain ⟨rv2, hr3, hr4⟩ := tl11.hr
          obtain ⟨sv2, hs3, hs4⟩ := tl11.hs
          obtain ⟨mv2, hm3, hm4⟩ := tl11.hm
          have lrv2 := dpAll_len hr4
          have lxv := dpAll_len hxd
          rw [List.length_map] at lrv2 lxv
          refine ⟨_, rfl, _, rfl, ((at_ : Nat) : Int), rfl, pr, rv2, rfl, SqL.of hr3, fun c1 nc1 => ?_⟩
          rw [cutV_to]
          have t1' := same_upd (o := .lst (rv2.take at_)) nc1
          refine ⟨_, rfl, _, rfl, nn, _, _, .ref nk, rfl, rfl, SqL.of (t1' _ _ hnn), hnk, c1, nk, _, xv, rfl, rfl, upd_same, t1' _ _ hxv, ?_, fun c2 nc2 => ?_⟩
          · rw [List.length_take]
            exact Nat.le_trans (show _ ≤ 300 by omega) (by decide)
          have t2' := same_upd (o := .lst (rv2.take at_ ++ xv)) nc2
          have t12 := t1'.trans t2'
          refine ⟨_, rfl, _, rfl, _, _, rfl, rfl, ((at_ : Nat) : Int) + 1, rfl, pr, rv2, rfl, SqL.of (t12 _ _ hr3), fun c3 nc3 => ?_⟩
          rw [show (((at_ : Nat) : Int) + 1) = ((at_ + 1 : Nat) : Int) from rfl, cutV_from]
          have t3' := same_upd (o := .lst (rv2.drop (at_ + 1))) nc3
          refine ⟨c2, c3, _, _, rfl, rfl, t3' _ _ upd_same, upd_same, ?_, fun c4 nc4 => ?_⟩
          · rw [List.length_append, List.length_take, List.length_drop]
            exact Nat.le_trans (show _ ≤ 900 by omega) (by decide)
          have t4' := same_upd (o := .lst (rv2.take at_ ++ xv ++ rv2.drop (at_ + 1))) nc4
          have tA := t12.trans (t3'.trans t4')
          have c4a : c4 ≠ a := fun z => by rw [z, (t12.trans t3') _ _ hb11] at nc4; cases nc4
          refine ⟨c4, ps, pm, rs, ms, ru.take at_ ++ xs ++ ru.drop (at_ + 1), b5, _, _, _, _, _, _, _, _, _, _, _, _, _, _, rfl, ⟨tl11.bt.trans (But.of tA), c4a, tl11.ns, tl11.nm, ⟨_, upd_same, ?_⟩, ⟨sv2, tA _ _ hs3, dpAll_same tA hs4⟩, ⟨mv2, tA _ _ hm3, dpAll_same tA hm4⟩⟩, gf.put hri hxl hxo, tA _ _ hb11, hB5.mono (by omega)⟩
          rw [List.map_append, List.map_append, List.map_take, List.map_drop]
          exact dpAll_same tA (dpAll_appI (dpAll_appI (dpAll_take at_ hr4) hxd) (dpAll_drop (at_ + 1) hr4))
      · refine ifF (decide_eq_false e4) ?_
        have sY : Same X X := Same.refl X
        refine ⟨_, rfl, rfl, _, rfl, ?_⟩
        by_cases w4 : V.int ((way : Nat) : Int) = V.int 4
        · refine ifT (decide_eq_true w4) ?_
          refine ⟨_, rfl, pr, rfl, ⟨_, SqL.of hr1⟩, fun ul nul => ?_⟩
          refine lc_list (K := K) (a := pr) (xs := rv) (fun j U => Same X U ∧ U ul = some (.lst (nmV ((ru.take j).map RRow.ma)))) ⟨same_upd nul, upd_same⟩ (fun j U _ h => SqL.of (h.1 _ _ hr1)) ?_ ?_
          · rintro j x U hx ⟨sU, hD⟩
            obtain ⟨dd, hdd, hxd⟩ := dpAll_at (dpAll_same sU hr2) hx
            rw [List.getElem?_map] at hdd
            obtain ⟨r, hr, rfl⟩ : ∃ r, ru[j]? = some r ∧ dd = r.d := by
              cases h : ru[j]? with
              | none => rw [h] at hdd; cases hdd
              | some e => rw [h] at hdd; exact ⟨e, rfl, (Option.some.inj hdd).symm⟩
            have hj : j < ru.length := (List.getElem?_eq_some_iff.mp hr).1
            obtain ⟨q0, v2, t40, us40, rfl, hq, _⟩ := rr4 hxd
            refine ⟨rfl, yesT ?_⟩
            refine ⟨_, rfl, q0, _, 0, .str (SX.S r.ma), rfl, rfl, hq, atI_nat (j := 0) rfl, _, hD, small1000 (by rw [nmV_len, List.length_map, List.length_take]; omega), Same.at_ sU nul, ?_⟩
            rw [upd_same, List.take_add_one, hr, List.map_append]
            unfold nmV
            rw [List.map_append]
            rfl
          rintro Y ⟨sY, hul⟩
          rw [lrv, List.take_length] at hul
          obtain ⟨us, eus⟩ : ∃ us, us = ru.map RRow.ma := ⟨_, rfl⟩
          rw [← eus] at hul
          have hus : ∀ m ∈ ms, (∃ r ∈ ru, r.ma = m.nm) → m.nm ∈ us := fun m _ ⟨r, hr, e⟩ => by
            rw [eus, ← e]
            exact List.mem_map_of_mem hr
          refine ⟨_, rfl, pm, mv, rfl, SqL.of (sY _ _ hm1), fun D nD => ?_⟩
          refine lc_it (walk_enum (K := K) (a := pm) (xs := mv)) (fun j U => Same Y U ∧ ∃ (vs : List V) (ts : List MRow), U D = some (.lst vs) ∧ DpAll K U vs (ts.map MRow.d) ∧ ts.Sublist (ms.take j) ∧ ∀ m ∈ ms.take j, m.nm ∈ us → m ∈ ts) ⟨same_upd nD, [], [], upd_same, .nil, List.nil_sublist _, (fun m h => nomatch h)⟩ (fun j U _ h => SqL.of ((sY.trans h.1) _ _ hm1)) ?_ ?_
          · rintro j v U0 U hj ⟨sU, vs, ts, hD, hvs, hsub, hin⟩ ⟨TT, xx, yy, rfl, nT, rfl, ex, ey⟩
            cases ex
            obtain ⟨dd, hdd, hxd⟩ := dpAll_at (dpAll_same (sY.trans sU) hm2) ey
            rw [List.getElem?_map] at hdd
            obtain ⟨mr, hmr, rfl⟩ : ∃ mr, ms[j]? = some mr ∧ dd = mr.d := by
              cases h : ms[j]? with
              | none => rw [h] at hdd; cases hdd
              | some e => rw [h] at hdd; exact ⟨e, rfl, (Option.some.inj hdd).symm⟩
            have hj' : j < ms.length := (List.getElem?_eq_some_iff.mp hmr).1
            obtain ⟨q', v1, v2, rfl, hq, _, _⟩ := t3_at (t := mT mr) hxd
            have tk : ms.take (j + 1) = ms.take j ++ [mr] := by rw [List.take_add_one, hmr]; rfl
            have sT := same_upd (o := .tup [.int (j : Nat), .ref q']) nT
            refine ⟨TT, _, rfl, SqT.of upd_same, rfl, _, _, rfl, _, _, rfl, rfl, rfl, ?_⟩
            have sU := sU.trans sT
            have hD := sT _ _ hD
            have hvs := dpAll_same sT hvs
            have hxd := dp_same sT hxd
            have hq := Same.seqT sT hq
            generalize upd U0 TT (.tup [.int (j : Nat), .ref q']) = U at sU hD hvs hxd hq ⊢
            have lv := dpAll_len hvs
            rw [List.length_map] at lv
            have lts := hsub.length_le
            rw [List.length_take] at lts
            have yes : ∃ acc, U D = some (.lst acc) ∧ acc.length < sizeLine ∧ (Same Y (upd U D (.lst (acc ++ [.ref q']))) ∧ ∃ (vs : List V) (ts : List MRow), (upd U D (.lst (acc ++ [.ref q']))) D = some (.lst vs) ∧ DpAll K (upd U D (.lst (acc ++ [.ref q']))) vs (ts.map MRow.d) ∧ ts.Sublist (ms.take (j + 1)) ∧ ∀ m ∈ ms.take (j + 1), m.nm ∈ us → m ∈ ts) := by
              have kk : KeepT U (upd U D (.lst (vs ++ [.ref q']))) := KeepT.at_ hD lst_no
              refine ⟨vs, hD, small1000 (by omega), Same.at_ sU nD, vs ++ [.ref q'], ts ++ [mr], upd_same, ?_, by rw [tk]; exact List.Sublist.append hsub (List.Sublist.refl _), fun m hm hu => ?_⟩
              · rw [List.map_append]
                exact dpAll_appI (dpAll_imm kk hvs (immAll_map MRow.imm ts)) (.cons (dp_imm kk hxd mr.imm) .nil)
              · rw [tk] at hm
                rcases List.mem_append.mp hm with h | h
                · exact List.mem_append_left _ (hin m h hu)
                · exact List.mem_append_right _ h
            refine ⟨_, rfl, _, _, rfl, rfl, _, rfl, pm, mv, rfl, .inl (SqL.of ((sY.trans sU) _ _ hm1)), _, _, rfl, rfl, _, rfl, ?_⟩
            by_cases hlt : ((j : Nat) : Int) + 1 < ((mv.length : Nat) : Int)
            · refine ifT (decide_eq_true hlt) ?_
              refine iteT ?_
              exact ⟨_, rfl, yes⟩
            · refine ifF (decide_eq_false hlt) ?_
              refine ⟨_, rfl, q', _, 0, .str (SX.S mr.nm), rfl, rfl, hq, atI_nat (j := 0) rfl, _, rfl, ul, nmV us, rfl, .inl (SqL.of (sU _ _ hul)), rfl, flat_names _, _, rfl, ?_⟩
              show (if (inV (.str (SX.S mr.nm)) (nmV us)) = true then _ else _ : Prop)
              rw [in_names]
              by_cases hu : mr.nm ∈ us
              · refine ifT (decide_eq_true hu) ?_
                exact ⟨_, rfl, yes⟩
              · refine ifF (decide_eq_false hu) ?_
                refine ⟨sU, vs, ts, hD, hvs, ?_, fun m hm hmu => ?_⟩
                · rw [tk]
                  exact hsub.trans (List.sublist_append_left _ _)
                · rw [tk] at hm
                  rcases List.mem_append.mp hm with h | h
                  · exact hin m h hmu
                  · rw [List.mem_singleton.mp h] at hmu
                    exact absurd hmu hu
          · rintro U ⟨sU, vs, ts, hD, hvs, hsub, hin⟩
            rw [lmv, List.take_length] at hsub hin
            have sYU := sY.trans sU
            have nDa : D ≠ a := fun z => by rw [z, sY _ _ hb1] at nD; cases nD
            exact ⟨pr, ps, D, rs, ts, ru, b1, _, _, _, _, _, _, _, _, _, _, _, _, _, _, rfl, ⟨tl.bt.trans (But.of sYU), tl.nr, tl.ns, nDa, ⟨rv, sYU _ _ hr1, dpAll_same sYU hr2⟩, ⟨sv, sYU _ _ hs1, dpAll_same sYU hs2⟩, ⟨vs, hD, hvs⟩⟩, gf.lessM hsub (fun m hm ⟨r, hr, e⟩ => hin m hm (hus m hm ⟨r, hr, e⟩)), sYU _ _ hb1, hB1.mono (by omega)⟩
        refine ifF (decide_eq_false w4) ?_
        refine ⟨_, rfl, rfl, _, rfl, ?_⟩
        by_cases w5 : V.int ((way : Nat) : Int) = V.int 5
        · refine ifT (decide_eq_true w5) ?_
          refine ⟨by show 0 ≤ sizeLine; decide, fun ul nul => ?_⟩
          refine ⟨_, rfl, pm, rfl, ⟨_, SqL.of ((same_upd nul) _ _ hm1)⟩, ?_⟩
          refine for_list (K := K) (a := pm) (xs := mv) (fun j σ Y => ∃ (ul : Addr) (us : List (List Nat)) (y17 : Option V), σ = [some (.ref a), some (.ref gd), some (.int (way : Nat)), some (.ref pr), some (.ref ps), some (.ref pm), some (.int (roof : Nat)), none, none, none, none, none, none, none, none, none, some (.ref ul), y17, none, none, none] ∧ Same X Y ∧ Y ul = some (.lst (nmV us)) ∧ us.length ≤ 3 * j ∧ ∀ m ∈ ms.take j, ∀ k ∈ m.places, k ∈ us)
            ⟨ul, [], _, rfl, same_upd nul, upd_same, Nat.le_refl _, (fun m h => nomatch h)⟩ (fun j σ Y _ ⟨_, _, _, _, h, _⟩ => SqL.of (h _ _ hm1)) ?_ ?_
          · rintro j x σ Y hx ⟨ul, us, y17, rfl, sY, hul, hlu, hus⟩
            obtain ⟨dd, hdd, hxd⟩ := dpAll_at (dpAll_same sY hm2) hx
            rw [List.getElem?_map] at hdd
            obtain ⟨mr, hmr, rfl⟩ : ∃ mr, ms[j]? = some mr ∧ dd = mr.d := by
              cases h : ms[j]? with
              | none => rw [h] at hdd; cases hdd
              | some e => rw [h] at hdd; exact ⟨e, rfl, (Option.some.inj hdd).symm⟩
            have hj : j < ms.length := (List.getElem?_eq_some_iff.mp hmr).1
            have p2 := (gf.ok mr (List.mem_of_getElem? hmr)).p2
            obtain ⟨rq, rt, rfl, hq1, hq2⟩ := row_at hxd
            refine ⟨_, rfl, _, rfl, rq, _, 1, .str (SX.S mr.so), rfl, rfl, hq1, atI_nat (j := 1) rfl, by show 1 ≤ sizeLine; decide, fun l1 n1 => ?_⟩
            have s1 := same_upd (o := .lst [.str (SX.S mr.so)]) n1
            refine ⟨ul, l1, _, _, rfl, rfl, s1 _ _ hul, upd_same, ?_, fun l2 n2 => ?_⟩
            · rw [nmV_len]
              exact Nat.le_trans (show _ ≤ 40 by show us.length + 1 ≤ 40; omega) (by decide)
            have s2 := same_upd (o := .lst (nmV us ++ [.str (SX.S mr.so)])) n2
            have s12 := s1.trans s2
            refine ⟨_, rfl, rq, _, 2, .ref rt, rfl, rfl, Same.seqT s12 hq1, atI_nat (j := 2) rfl, rt, _, rfl, .inr (Same.seqT s12 hq2), fun l3 n3 => ?_⟩
            have s3 := same_upd (o := .lst (nmV mr.pt)) n3
            refine ⟨l2, l3, _, _, rfl, rfl, s3 _ _ upd_same, upd_same, ?_, fun l4 n4 => ?_⟩
            · rw [List.length_append, nmV_len, nmV_len]
              exact Nat.le_trans (show _ ≤ 40 by show us.length + 1 + mr.pt.length ≤ 40; omega) (by decide)
            have s4 := same_upd (o := .lst (nmV us ++ [.str (SX.S mr.so)] ++ nmV mr.pt)) n4
            refine ⟨l4, us ++ mr.places, _, rfl, sY.trans (s12.trans (s3.trans s4)), ?_, ?_, fun m hm k hk => ?_⟩
            · rw [upd_same]
              unfold nmV MRow.places
              rw [List.map_append, List.append_assoc]
              rfl
            · rw [List.length_append]
              show us.length + (mr.pt.length + 1) ≤ _
              omega
            · rw [List.take_add_one, hmr] at hm
              rcases List.mem_append.mp hm with h | h
              · exact List.mem_append_left _ (hus m h k hk)
              · have h : m ∈ [mr] := h
                rw [List.mem_singleton.mp h] at hk
                exact List.mem_append_right _ hk
          rintro σ Y ⟨ul, us, y17, rfl, sY, hul, _, hus⟩
          rw [lmv, List.take_length] at hus
          refine ⟨_, rfl, ps, sv, rfl, SqL.of (sY _ _ hs1), fun D nD => ?_⟩
          refine lc_it (walk_enum (K := K) (a := ps) (xs := sv)) (fun j U => Same Y U ∧ ∃ (vs : List V) (ts : List SRow), U D = some (.lst vs) ∧ DpAll K U vs (ts.map SRow.d) ∧ ts.Sublist (rs.take j) ∧ ∀ m ∈ rs.take j, m.nm ∈ us → m ∈ ts) ⟨same_upd nD, [], [], upd_same, .nil, List.nil_sublist _, (fun m h => nomatch h)⟩ (fun j U _ h => SqL.of ((sY.trans h.1) _ _ hs1)) ?_ ?_
          · rintro j v U0 U hj ⟨sU, vs, ts, hD, hvs, hsub, hin⟩ ⟨TT, xx, yy, rfl, nT, rfl, ex, ey⟩
            cases ex
            obtain ⟨dd, hdd, hxd⟩ := dpAll_at (dpAll_same (sY.trans sU) hs2) ey
            rw [List.getElem?_map] at hdd
            obtain ⟨mr, hmr, rfl⟩ : ∃ mr, rs[j]? = some mr ∧ dd = mr.d := by
              cases h : rs[j]? with
              | none => rw [h] at hdd; cases hdd
              | some e => rw [h] at hdd; exact ⟨e, rfl, (Option.some.inj hdd).symm⟩
            have hj' : j < rs.length := (List.getElem?_eq_some_iff.mp hmr).1
            obtain ⟨q', v1, v2, rfl, hq, _, _⟩ := t3_at (t := sT mr) hxd
            have tk : rs.take (j + 1) = rs.take j ++ [mr] := by rw [List.take_add_one, hmr]; rfl
            have sT := same_upd (o := .tup [.int (j : Nat), .ref q']) nT
            refine ⟨TT, _, rfl, SqT.of upd_same, rfl, _, _, rfl, _, _, rfl, rfl, rfl, ?_⟩
            have sU := sU.trans sT
            have hD := sT _ _ hD
            have hvs := dpAll_same sT hvs
            have hxd := dp_same sT hxd
            have hq := Same.seqT sT hq
            generalize upd U0 TT (.tup [.int (j : Nat), .ref q']) = U at sU hD hvs hxd hq ⊢
            have lv := dpAll_len hvs
            rw [List.length_map] at lv
            have lts := hsub.length_le
            rw [List.length_take] at lts
            have yes : ∃ acc, U D = some (.lst acc) ∧ acc.length < sizeLine ∧ (Same Y (upd U D (.lst (acc ++ [.ref q']))) ∧ ∃ (vs : List V) (ts : List SRow), (upd U D (.lst (acc ++ [.ref q']))) D = some (.lst vs) ∧ DpAll K (upd U D (.lst (acc ++ [.ref q']))) vs (ts.map SRow.d) ∧ ts.Sublist (rs.take (j + 1)) ∧ ∀ m ∈ rs.take (j + 1), m.nm ∈ us → m ∈ ts) := by
              have kk : KeepT U (upd U D (.lst (vs ++ [.ref q']))) := KeepT.at_ hD lst_no
              refine ⟨vs, hD, small1000 (by omega), Same.at_ sU nD, vs ++ [.ref q'], ts ++ [mr], upd_same, ?_, by rw [tk]; exact List.Sublist.append hsub (List.Sublist.refl _), fun m hm hu => ?_⟩
              · rw [List.map_append]
                exact dpAll_appI (dpAll_imm kk hvs (immAll_map SRow.imm ts)) (.cons (dp_imm kk hxd mr.imm) .nil)
              · rw [tk] at hm
                rcases List.mem_append.mp hm with h | h
                · exact List.mem_append_left _ (hin m h hu)
                · exact List.mem_append_right _ h
            refine ⟨_, rfl, _, _, rfl, rfl, _, rfl, ps, sv, rfl, .inl (SqL.of ((sY.trans sU) _ _ hs1)), _, _, rfl, rfl, _, rfl, ?_⟩
            by_cases hlt : ((j : Nat) : Int) + 1 < ((sv.length : Nat) : Int)
            · refine ifT (decide_eq_true hlt) ?_
              refine iteT ?_
              exact ⟨_, rfl, yes⟩
            · refine ifF (decide_eq_false hlt) ?_
              refine ⟨_, rfl, q', _, 0, .str (SX.S mr.nm), rfl, rfl, hq, atI_nat (j := 0) rfl, _, rfl, ul, nmV us, rfl, .inl (SqL.of (sU _ _ hul)), rfl, flat_names _, _, rfl, ?_⟩
              show (if (inV (.str (SX.S mr.nm)) (nmV us)) = true then _ else _ : Prop)
              rw [in_names]
              by_cases hu : mr.nm ∈ us
              · refine ifT (decide_eq_true hu) ?_
                exact ⟨_, rfl, yes⟩
              · refine ifF (decide_eq_false hu) ?_
                refine ⟨sU, vs, ts, hD, hvs, ?_, fun m hm hmu => ?_⟩
                · rw [tk]
                  exact hsub.trans (List.sublist_append_left _ _)
                · rw [tk] at hm
                  rcases List.mem_append.mp hm with h | h
                  · exact hin m h hmu
                  · rw [List.mem_singleton.mp h] at hmu
                    exact absurd hmu hu
          · rintro U ⟨sU, vs, ts, hD, hvs, hsub, hin⟩
            rw [lsv, List.take_length] at hsub hin
            have sYU := sY.trans sU
            have nDa : D ≠ a := fun z => by rw [z, sY _ _ hb1] at nD; cases nD
            exact ⟨pr, D, pm, ts, ms, ru, b1, _, _, _, _, _, _, _, _, _, _, _, _, _, _, rfl, ⟨tl.bt.trans (But.of sYU), tl.nr, nDa, tl.nm, ⟨rv, sYU _ _ hr1, dpAll_same sYU hr2⟩, ⟨vs, hD, hvs⟩, ⟨mv, sYU _ _ hm1, dpAll_same sYU hm2⟩⟩, gf.lessS hsub (fun r hr ⟨m, hm, e⟩ => hin r hr (hus m hm _ e)), sYU _ _ hb1, hB1.mono (by omega)⟩
        refine ifF (decide_eq_false w5) ?_
        refine ⟨_, rfl, ps, rfl, ⟨_, SqL.of (sY _ _ hs1)⟩, fun D nD => ?_⟩
        refine lc_list (K := K) (a := ps) (xs := sv) (fun j U => Same X U ∧ ∃ vs : List V, U D = some (.lst vs) ∧ DpAll K U vs ((rs.take j).map fun r => SRow.d (dnRow r))) ⟨same_upd nD, [], upd_same, .nil⟩ (fun j U _ h => SqL.of ((sY.trans h.1) _ _ hs1)) ?_ ?_
        · rintro j x U hx ⟨sU, vs, hD, hvs⟩
          obtain ⟨dd, hdd, hxd⟩ := dpAll_at (dpAll_same (sY.trans sU) hs2) hx
          rw [List.getElem?_map] at hdd
          obtain ⟨r, hr, rfl⟩ : ∃ r, rs[j]? = some r ∧ dd = r.d := by
            cases h : rs[j]? with
            | none => rw [h] at hdd; cases hdd
            | some e => rw [h] at hdd; exact ⟨e, rfl, (Option.some.inj hdd).symm⟩
          have hj : j < rs.length := (List.getElem?_eq_some_iff.mp hr).1
          have lv := dpAll_len hvs
          rw [List.length_map, List.length_take] at lv
          obtain ⟨q', v1, v2, rfl, hq, hv1, hv2⟩ := t3_at (t := sT r) hxd
          obtain ⟨t1, rfl, ht1⟩ := names_dp hv1
          refine ⟨rfl, yesT ?_⟩
          refine ⟨_, rfl, q', _, 0, .str (SX.S r.nm), rfl, rfl, hq, atI_nat (j := 0) rfl, _, rfl, q', _, 1, .ref t1, rfl, rfl, hq, atI_nat (j := 1) rfl, t1, _, rfl, ht1, fun p np => ?_⟩
          have s1 := same_upd (o := .tup (nmV r.dn).reverse) np
          refine ⟨_, rfl, q', _, 2, v2, rfl, rfl, Same.seqT s1 hq, atI_nat (j := 2) rfl, by show 3 ≤ sizeLine; decide, fun t3 nt3 => ?_⟩
          have s3 := same_upd (o := .tup [.str (SX.S r.nm), .ref p, v2]) nt3
          have s13 := s1.trans s3
          have hD3 := s13 _ _ hD
          have kk : KeepT (upd (upd U p (.tup (nmV r.dn).reverse)) t3 (.tup [.str (SX.S r.nm), .ref p, v2])) (upd (upd (upd U p (.tup (nmV r.dn).reverse)) t3 (.tup [.str (SX.S r.nm), .ref p, v2])) D (.lst (vs ++ [.ref t3]))) := KeepT.at_ hD3 lst_no
          have ep : (nmV r.dn).reverse = nmV (dnRow r).dn := by
            show (r.dn.map _).reverse = r.dn.reverse.map _
            rw [List.map_reverse]
          have drow : Dp K (upd (upd U p (.tup (nmV r.dn).reverse)) t3 (.tup [.str (SX.S r.nm), .ref p, v2])) (.ref t3) (SRow.d (dnRow r)) := by
            refine .tup (SqT.of upd_same) (.cons (.str _) (.cons (.tup (SqT.of (s3 _ _ upd_same)) ?_) (.cons (dp_same s13 hv2) .nil)))
            rw [ep]
            exact nm_dp _
          refine ⟨vs, hD3, small1000 (by omega), Same.at_ (sU.trans s13) nD, vs ++ [.ref t3], upd_same, ?_⟩
          rw [List.take_add_one, hr, List.map_append]
          exact dpAll_appI (dpAll_imm ((KeepT.of s13).trans kk) hvs (immAll_of6 fun d hd => by
            obtain ⟨r, _, rfl⟩ := List.mem_map.mp hd
            exact SRow.imm _)) (.cons (dp_imm kk drow (SRow.imm _)) .nil)
        · rintro U ⟨sU, vs, hD, hvs⟩
          rw [lsv, List.take_length] at hvs
          have sYU := sY.trans sU
          have nDa : D ≠ a := fun z => by rw [z, sY _ _ hb1] at nD; cases nD
          refine ⟨pr, D, pm, rs.map dnRow, ms, ru, b1, _, _, _, _, _, _, _, _, _, _, _, _, _, _, rfl, ⟨tl.bt.trans (But.of sYU), tl.nr, nDa, tl.nm, ⟨rv, sYU _ _ hr1, dpAll_same sYU hr2⟩, ⟨vs, hD, by rw [List.map_map]; exact hvs⟩, ⟨mv, sYU _ _ hm1, dpAll_same sYU hm2⟩⟩, gf.dns, sYU _ _ hb1, hB1.mono (by omega)⟩
    clear hb1 hB1 tl ps pm pr b1 X
    rintro σ X ⟨pr, ps, pm, rs', ms', ru', b2, y7, y8, y9, y10, y11, y12, y13, y14, y15, y16, y17, y18, y19, y20, rfl, tl, gf', hb2, hB2⟩
    -- another cap
    refine ⟨fun σ Y => ∃ roof' : Nat, σ = [some (.ref a), some (.ref gd), some (.int (way : Nat)), some (.ref pr), some (.ref ps), some (.ref pm), some (.int (roof' : Nat)), y7, y8, y9, y10, y11, y12, y13, y14, y15, y16, y17, y18, y19, y20] ∧ Y = X ∧ GFit rs' ms' ru' roof', ?_, ?_⟩
    · refine ⟨_, rfl, rfl, _, rfl, ?_⟩
      have stay : ∃ roof' : Nat, [some (.ref a), some (.ref gd), some (.int (way : Nat)), some (.ref pr), some (.ref ps), some (.ref pm), some (.int (roof : Nat)), y7, y8, y9, y10, y11, y12, y13, y14, y15, y16, y17, y18, y19, y20] = [some (.ref a), some (.ref gd), some (.int (way : Nat)), some (.ref pr), some (.ref ps), some (.ref pm), some (.int (roof' : Nat)), y7, y8, y9, y10, y11, y12, y13, y14, y15, y16, y17, y18, y19, y20] ∧ X = X ∧ GFit rs' ms' ru' roof' := ⟨roof, rfl, rfl, gf'⟩
      by_cases e3 : V.int ((way : Nat) : Int) = V.int 3
      · refine ifT (decide_eq_true e3) ?_
        refine ⟨_, rfl, _, _, rfl, rfl, _, rfl, ?_⟩
        by_cases e0 : ((roof : Nat) : Int) > 0
        · refine ifT (decide_eq_true e0) ?_
          refine ⟨_, rfl, _, _, rfl, rfl, (show (0 : Int) < 9 by decide), _, _, rfl, rfl, 1 + roof % 9, ?_, rfl, gf'.cap8 (by omega) (by omega) (by omega)⟩
          rfl
        · exact ifF (decide_eq_false e0) stay
      · exact ifF (decide_eq_false e3) stay
    rintro σ Y ⟨roof', rfl, rfl, gf2⟩
    obtain ⟨rv', r1, r2⟩ := tl.hr
    obtain ⟨sv', s1, s2⟩ := tl.hs
    obtain ⟨mv', m1, m2⟩ := tl.hm
    have q4 := gf2.so.le
    have q8 := gf2.m8
    have q240 := gf2.rl
    refine ⟨_, rfl, _, rfl, _, rfl, _, rfl, roof', a, ps, pm, pr, rs', ms', ru', sv', mv', rv', rfl, ⟨s1, m1, r1, s2, m2, r2, gf2.so.nd, gf2.nd, gf2.rn, by omega, by omega, by omega⟩, tl.ns, tl.nm, tl.nr, fun H' gd' s ngd gi' _ => ?_⟩
    exact q H' gd' rs' ms' ru' roof' b2 (tl.bt.trans (But.of s)) (But.free tl.bt hb2 ngd) gi' gf2 (s _ _ hb2) hB2
end
/-! ### a law's grammar in another order -/
abbrev s__law_mixed : Stmt := top 67
abbrev N__law_mixed : List Str := ["_law_box", "_law_g", "_law_parts", "_law_part"]
abbrev P__law_mixed : List Str := ["_law_box", "_law_g"]
theorem sc__law_mixed : FnScope N__law_mixed P__law_mixed (defScope s__law_mixed) := ⟨rfl, rfl, rfl, by decide +kernel, rfl, by decide +kernel, by decide +kernel⟩
def spMixed (K : PySem.W.Frag) (P : Program) (w : World) : Sp := fun vs H Q _ => ∃ (a gd : Addr) (rs : List SRow) (ms : List MRow) (ru : List RRow) (roof m : Nat) (b : List V), vs = [.ref a, .ref gd] ∧ GramIn K H a gd rs ms ru roof ∧ GFit rs ms ru roof ∧ H a = some (.lst b) ∧ BoxL m b ∧ m + 300 < 900000 ∧
  ∀ (H' : Hp) (gd' : Addr) (rs' : List SRow) (ms' : List MRow) (ru' : List RRow) (b' : List V), But a H H' → H gd' = none → (∀ L, L = a ∨ H L ≠ none → GramIn K H' L gd' rs' ms' ru' roof) → rs'.Perm rs → ms'.Perm ms → ru'.Perm ru → H' a = some (.lst b') → BoxL (m + 300) b' → Q (.ref gd') H'
section
variable {P : Program} {w : World} {K : PySem.W.Frag} {mg : Str → Option Value} {base : Heap}
theorem ok_mixed (c_law_strewn : C8.Cal P w K mg base 2 "_law_strewn" (spStrewn K) []) (c_law_sorted_out : C8.Cal P w K mg base 1 "_law_sorted_out" (spSorted8 K P w) [])
    (D : Dd K mg "_law_mixed" s__law_mixed P__law_mixed) : C8.Cal P w K mg base 3 "_law_mixed" (spMixed K P w) [] := by
  refine D.cal sc__law_mixed (fun vs H Q E h => ?_) (fun f cdv A outer s H vs Q E hr h => ?_)
  · obtain ⟨a, gd, rs, ms, ru, roof, m, b, rfl, _⟩ := h
    rfl
  · obtain ⟨a, gd, rs, ms, ru, roof, m, b, rfl, gi, gf, ha, hB, hm, q⟩ := h
    refine ⟨_, (C8.pss_cut (ps_setLc (i := 2) (own := [("_law_part", 3)]) (by exact rfl) sc__law_mixed.nd rfl rfl (sw_true rfl rfl rfl (by decide +kernel)) (pi_tup (pe_tup (pa_cons pe_str (pa_cons pe_str (pa_cons pe_str pa_nil))))) (blkOk_by (own := [("_law_part", 3)]) (N := N__law_mixed) (sc := defScope s__law_mixed) (by decide +kernel)) (fun _ _ _ _ _ => (pg_name (i := 3) sc__law_mixed.nd rfl (Or.inl rfl))) (fun _ _ _ _ _ => pts_nil) (fun _ _ _ _ _ => (C8.pe_c c_law_strewn hr (by decide) (by rfl) (pa_cons (pv 0) (pa_cons (pe_dget (hu_of hr) (pv 1) (pv 3) (fun _ _ => rfl)) pa_nil)))))
        (pss_one (ps_ret (C8.pe_c c_law_sorted_out hr (by decide) (by rfl) (pa_cons (pe_dget (hu_of hr) (pv 1) pe_str (fun _ _ => rfl)) (pa_cons (pe_ix (r := rIxL K) ix_list (pv 2) pe_int (fun _ _ => rfl)) (pa_cons (pe_ix (r := rIxL K) ix_list (pv 2) pe_int (fun _ _ => rfl)) (pa_cons (pe_ix (r := rIxL K) ix_list (pv 2) pe_int (fun _ _ => rfl)) pa_nil)))))))), ?_⟩
    obtain ⟨ls, lm, lr, of, gkv, gs, _⟩ := gi.ex
    obtain ⟨sv, a1, a2⟩ := gs.hls
    obtain ⟨mv, a3, a4⟩ := gs.hlm
    obtain ⟨rv, a5, a6⟩ := gs.hlr
    have nga : gd ≠ a := fun z => by
      have := gs.hgd
      rw [z, ha] at this
      cases this
    have dg : ∀ {Z : Hp} {k : Str} {v : V}, But a H Z → valV gkv (Sum.inr k) = some v → DGet Z gd (.str k) (some v) := fun {Z k v} t h => by
      have g := DGet.k (k := Sum.inr k) (t _ _ nga gs.hgd)
      rw [h] at g
      exact g
    have r4 := gf.so.le
    have m8 := gf.m8
    have u240 := gf.rl
    have lsv := dpAll_len a2
    have lmv := dpAll_len a4
    have lrv := dpAll_len a6
    rw [List.length_map] at lsv lmv lrv
    have three : ∀ j < 3, ∃ (k : Str) (L : Addr) (xs : List V), [V.str "sorts", .str "makings", .str "rules"][j]? = some (.str k) ∧ [sv, mv, rv][j]? = some xs ∧ valV gkv (Sum.inr k) = some (.ref L) ∧ L ≠ a ∧ H L = some (.lst xs) ∧ xs.length ≤ 240 := fun j hj => by
      have hc : j = 0 ∨ j = 1 ∨ j = 2 := by omega
      rcases hc with rfl | rfl | rfl
      · exact ⟨_, ls, sv, rfl, rfl, gs.so, gs.n1, a1, by omega⟩
      · exact ⟨_, lm, mv, rfl, rfl, gs.mak, gs.n2, a3, by omega⟩
      · exact ⟨_, lr, rv, rfl, rfl, gs.rl, gs.n3, a5, by omega⟩
    have tot : ∀ j, (([sv, mv, rv].take j).flatten).length ≤ 252 := fun j => by
      have h := flat_take_le [sv, mv, rv] j
      simp only [List.flatten_cons, List.flatten_nil, List.append_nil, List.length_append] at h
      omega
    refine ⟨fun σ X => ∃ (D p1 p2 p3 : Addr) (b1 ys1 ys2 ys3 : List V), σ = [some (.ref a), some (.ref gd), some (.ref D), none] ∧ But a H X ∧ X D = some (.lst [.ref p1, .ref p2, .ref p3]) ∧ (∀ L, L = a ∨ H L ≠ none → p1 ≠ L ∧ p2 ≠ L ∧ p3 ≠ L) ∧ X p1 = some (.lst ys1) ∧ X p2 = some (.lst ys2) ∧ X p3 = some (.lst ys3) ∧ ys1.Perm sv ∧ ys2.Perm mv ∧ ys3.Perm rv ∧ X a = some (.lst b1) ∧ BoxL (m + 260) b1, ?_, ?_⟩
    · refine ⟨by show 3 ≤ sizeLine; decide, fun tq ntq => ⟨tq, rfl, ⟨_, SqT.of upd_same⟩, fun D nD => ?_⟩⟩
      have sQ := same_upd (o := .tup [.str "sorts", .str "makings", .str "rules"]) ntq
      have hq3 : SqT K (upd H tq (.tup [.str "sorts", .str "makings", .str "rules"])) tq [.str "sorts", .str "makings", .str "rules"] := SqT.of upd_same
      have hb0 := sQ _ _ ha
      generalize upd H tq (.tup [.str "sorts", .str "makings", .str "rules"]) = Y at sQ hq3 hb0 nD ⊢
      have nDa : D ≠ a := fun z => by rw [z, hb0] at nD; cases nD
      have kY : ∀ {U : Hp}, But a Y U → SqT K U tq [.str "sorts", .str "makings", .str "rules"] := fun t => (KeepT.but hb0 t).seqT hq3
      refine lc_tup (K := K) (a := tq) (xs := [.str "sorts", .str "makings", .str "rules"]) (fun j U => But a Y U ∧ ∃ (ps : List Addr) (b1 : List V), U D = some (.lst (ps.map V.ref)) ∧ U a = some (.lst b1) ∧ BoxL (m + (([sv, mv, rv].take j).flatten).length) b1 ∧ Paired (fun p (xs : List V) => (∀ L, L = a ∨ H L ≠ none → p ≠ L) ∧ p ≠ D ∧ ∃ ys, U p = some (.lst ys) ∧ ys.Perm xs) ps ([sv, mv, rv].take j)) ⟨But.of (same_upd nD), [], b, upd_same, by rw [upd_ne nDa.symm]; exact hb0, hB, .nil⟩ (fun j U _ h => kY h.1) ?_ ?_
      · rintro j x U hx ⟨bU, ps, b1, hD, hb1, hB1, hp⟩
        have hj3 : j < 3 := (List.getElem?_eq_some_iff.mp hx).1
        obtain ⟨k, L, xs, h1, h2, h3, h4, h5, h6⟩ := three j hj3
        rw [h1] at hx
        cases hx
        have lp := paired_len hp
        rw [List.length_take] at lp
        have bHU := (But.of (a := a) sQ).trans bU
        have tj := tot (j + 1)
        rw [flat_take h2, List.length_append] at tj
        refine ⟨rfl, yesT ?_⟩
        refine ⟨_, rfl, _, rfl, _, rfl, gd, .ref L, rfl, dg bHU h3, a, L, _, b1, xs, rfl, hb1, hB1, by omega, SqL.of (bHU _ _ h4 h5), h4, by omega, fun U2 l ys b2 bt2 nl hl hpm hb2 hB2 => ?_⟩
        have hD2 := bt2 _ _ nDa hD
        have nla : l ≠ a := fun z => by rw [z, hb1] at nl; cases nl
        have nlD : l ≠ D := fun z => by rw [z, hD] at nl; cases nl
        refine ⟨_, hD2, small1000 (by rw [List.length_map, lp]; omega), ?_, ps ++ [l], b2, by rw [upd_same, List.map_append]; rfl, by rw [upd_ne nDa.symm]; exact hb2, ?_, ?_⟩
        · exact fun c oo nc hc => by
            rw [upd_ne (ne_of_none hc nD)]
            exact (bU.trans bt2) c oo nc hc
        · rw [flat_take h2, List.length_append]
          exact hB2.mono (by omega)
        · rw [List.take_add_one, h2]
          refine paired_snoc (paired_mono (fun p xs g => ?_) hp) ⟨(fun L hL z => by
            subst z
            rcases hL with z | hL
            · exact nla z
            · cases e : H l with
              | none => exact hL e
              | some o =>
                rw [bHU _ _ nla e] at nl
                cases nl), nlD, ys, by rw [upd_ne nlD]; exact hl, hpm⟩
          obtain ⟨g1, g2, ys, g3, g4⟩ := g
          exact ⟨g1, g2, ys, by rw [upd_ne g2]; exact bt2 _ _ (g1 a (.inl rfl)) g3, g4⟩
      · rintro U ⟨bU, ps, b1, hD, hb1, hB1, hp⟩
        have hp : Paired (fun p (xs : List V) => (∀ L, L = a ∨ H L ≠ none → p ≠ L) ∧ p ≠ D ∧ ∃ ys, U p = some (.lst ys) ∧ ys.Perm xs) ps [sv, mv, rv] := hp
        have tj := tot 3
        cases hp with
        | cons x1 hp =>
          cases hp with
          | cons x2 hp =>
            cases hp with
            | cons x3 hp =>
              cases hp
              obtain ⟨e1, _, y1, f1, g1⟩ := x1
              obtain ⟨e2, _, y2, f2, g2⟩ := x2
              obtain ⟨e3, _, y3, f3, g3⟩ := x3
              exact ⟨D, _, _, _, b1, y1, y2, y3, rfl, (But.of sQ).trans bU, hD, (fun L hL => ⟨e1 L hL, e2 L hL, e3 L hL⟩), f1, f2, f3, g1, g2, g3, hb1, hB1.mono (Nat.add_le_add_left (Nat.le_trans tj (by decide)) m)⟩
    rintro σ X ⟨D, p1, p2, p3, b1, ys1, ys2, ys3, rfl, bX, hD, e1, f1, f2, f3, g1, g2, g3, hb1, hB1⟩
    have kT := KeepT.but ha bX
    obtain ⟨rs', q1, d1⟩ := rows_perm g1 (dpAll_imm kT a2 (immAll_map SRow.imm rs))
    obtain ⟨ms', q2, d2⟩ := rows_perm g2 (dpAll_imm kT a4 (immAll_map MRow.imm ms))
    obtain ⟨ru', q3, d3⟩ := rows_perm g3 (dpAll_imm kT a6 (immAll_map RRow.imm ru))
    have gf' := gf.perm q1 q2 q3
    have z1 := q1.length_eq
    have z2 := q2.length_eq
    have z3 := q3.length_eq
    refine ⟨_, rfl, gd, .int (roof : Nat), rfl, dg bX gs.cap, _, rfl, D, _, 0, .ref p1, rfl, rfl, SqL.of hD, atI_nat (j := 0) rfl, _, rfl, D, _, 1, .ref p2, rfl, rfl, SqL.of hD, atI_nat (j := 1) rfl, _, rfl, D, _, 2, .ref p3, rfl, rfl, SqL.of hD, atI_nat (j := 2) rfl, ?_⟩
    refine ⟨roof, p1, p2, p3, rs', ms', ru', ys1, ys2, ys3, rfl, ⟨f1, f2, f3, d1, d2, d3, gf'.so.nd, gf'.nd, gf'.rn, by omega, by omega, by omega⟩, fun H' gd' s ngd gi' _ => ?_⟩
    exact q H' gd' rs' ms' ru' b1 (bX.trans (But.of s)) (But.free bX hb1 ngd) (fun L hL => gi' L (e1 L hL).1 (e1 L hL).2.1 (e1 L hL).2.2) q1 q2 q3 (s _ _ hb1) (hB1.mono (by omega))
end
/-! ### the class, and a law's dict of rows -/
/-- the class and how it makes -/
structure GMk (P : Program) (w : World) (K : PySem.W.Frag) (mg : Str → Option Value) (base : Heap) (C : Addr) : Prop where
  ex : ∃ (f : Addr) (fd : FuncData), FnOk P w K mg base CX0 6 f fd P_GI (spGI K P w C) ∧ Mk K C f ∧ mg "Grammar" = some (.ref C) ∧ KBn K fd P_GI 4 ["cap"] (fun us ws => us ++ ws) (fun vs zs => vs ++ zs)
theorem gmk_of {P : Program} {w : World} {K : PySem.W.Frag} {mg : Str → Option Value} {base : Heap} {C f : Addr} {fd : FuncData} (F : FunD K "__init__" "Grammar.__init__" (defArgs s_GI) (defBody s_GI) (defScope s_GI) [] [("cap", .int 0)] f fd) (ok : FnOk P w K mg base CX0 6 f fd P_GI (spGI K P w C)) (M : Mk K C f) (hm : mg "Grammar" = some (.ref C)) : GMk P w K mg base C := by
  refine ⟨f, fd, ok, M, hm, ?_⟩
  exact kbindsN (ps := P_GI) F 4 ["cap"] (fun us ws => us ++ ws) (fun h2 h3 => Vals.append h2 h3) (fun kV doc pm an cdv ct us ws hl hw => match us, ws, hl, hw with
    | [_, _, _, _], [_], _, _ => rfl)
/-- a grammar's rows, in a law's dict -/
structure GD (K : PySem.W.Frag) (Y : Hp) (gd : Addr) (rs : List SRow) (ms : List MRow) (ru : List RRow) (roof : Nat) : Prop where
  ex : ∃ (ls lm lr : Addr) (kvs : List (Key × V)) (sv mv rv : List V), Y gd = some (.dK kvs) ∧ valV kvs (Sum.inr "cap") = some (.int (roof : Nat)) ∧ valV kvs (Sum.inr "sorts") = some (.ref ls) ∧ valV kvs (Sum.inr "makings") = some (.ref lm) ∧ valV kvs (Sum.inr "rules") = some (.ref lr) ∧
    Y ls = some (.lst sv) ∧ DpAll K Y sv (rs.map SRow.d) ∧ Y lm = some (.lst mv) ∧ DpAll K Y mv (ms.map MRow.d) ∧ Y lr = some (.lst rv) ∧ DpAll K Y rv (ru.map RRow.d)
theorem GD.same {K : PySem.W.Frag} {Y Z : Hp} {gd : Addr} {rs : List SRow} {ms : List MRow} {ru : List RRow} {roof : Nat} (h : GD K Y gd rs ms ru roof) (s : Same Y Z) : GD K Z gd rs ms ru roof := by
  obtain ⟨ls, lm, lr, kvs, sv, mv, rv, h1, c1, c2, c3, c4, a1, a2, a3, a4, a5, a6⟩ := h.ex
  exact ⟨ls, lm, lr, kvs, sv, mv, rv, s _ _ h1, c1, c2, c3, c4, s _ _ a1, dpAll_same s a2, s _ _ a3, dpAll_same s a4, s _ _ a5, dpAll_same s a6⟩
theorem GramIn.gd {K : PySem.W.Frag} {Y : Hp} {a gd : Addr} {rs : List SRow} {ms : List MRow} {ru : List RRow} {roof : Nat} (h : GramIn K Y a gd rs ms ru roof) : GD K Y gd rs ms ru roof := by
  obtain ⟨ls, lm, lr, of, gkv, gs, _⟩ := h.ex
  obtain ⟨sv, hls, hsv⟩ := gs.hls
  obtain ⟨mv, hlm, hmv⟩ := gs.hlm
  obtain ⟨rv, hlr, hrv⟩ := gs.hlr
  exact ⟨ls, lm, lr, gkv, sv, mv, rv, gs.hgd, gs.cap, gs.so, gs.mak, gs.rl, hls, hsv, hlm, hmv, hlr, hrv⟩
/-! ### a grammar made of a law's -/
abbrev s__law_made_of : Stmt := top 68
abbrev N__law_made_of : List Str := ["_law_g"]
abbrev P__law_made_of : List Str := ["_law_g"]
theorem sc__law_made_of : FnScope N__law_made_of P__law_made_of (defScope s__law_made_of) := ⟨rfl, rfl, rfl, by decide +kernel, rfl, by decide +kernel, by decide +kernel⟩
def spMade (K : PySem.W.Frag) (P : Program) (w : World) (C : Addr) : Sp := fun vs H Q _ => ∃ (a gd : Addr) (rs : List SRow) (ms : List MRow) (ru : List RRow) (roof : Nat), vs = [.ref gd] ∧ GramIn K H a gd rs ms ru roof ∧ GFit rs ms ru roof ∧
  ∀ (H' : Hp) (x : Addr), Same H H' → H x = none → GrOk K P w C H H' x rs ms ru roof → Risen K C H H' x rs ms ru roof → Q (.ref x) H'
section
variable {P : Program} {w : World} {K : PySem.W.Frag} {mg : Str → Option Value} {base : Heap} {C : Addr}
theorem ok_made (T : Gb mg) (GK : GMk P w K mg base C) (D : Dd K mg "_law_made_of" s__law_made_of P__law_made_of) : C8.Cal P w K mg base 8 "_law_made_of" (spMade K P w C) [] := by
  obtain ⟨fG, fdG, FG, GM, gmg, gkb⟩ := GK.ex
  refine D.cal sc__law_made_of (fun vs H Q E h => ?_) (fun f cdv A outer s H vs Q E hr h => ?_)
  · obtain ⟨a, gd, rs, ms, ru, roof, rfl, _⟩ := h
    rfl
  · obtain ⟨a, gd, rs, ms, ru, roof, rfl, gi, gf, q⟩ := h
    obtain ⟨ls, lm, lr, of, gkv, gs, _⟩ := gi.ex
    obtain ⟨sv, hls, hsv⟩ := gs.hls
    obtain ⟨mv, hlm, hmv⟩ := gs.hlm
    obtain ⟨rv, hlr, hrv⟩ := gs.hlr
    have get : ∀ {Y : Hp} {k : Str} {v : V}, Same H Y → valV gkv (Sum.inr k) = some v → DGet Y gd (.str k) (some v) := fun {Y k v} sY e => by
      have h := DGet.k (k := Sum.inr k) (sY _ _ gs.hgd)
      rw [e] at h
      exact h
    refine ⟨_, (pss_one (ps_ret (pe_makeK GM FG (hr.mono (by decide)) (by rfl) gmg gkb pass0 (pa_cons (pe_callTy call_list_of (by rfl) T.list (by decide +kernel) (pa_cons (pe_dget (hu_of hr) (pv 0) pe_str (fun _ _ => rfl)) pa_nil)) (pa_cons (pe_callTy call_list_of (by rfl) T.list (by decide +kernel) (pa_cons (pe_dget (hu_of hr) (pv 0) pe_str (fun _ _ => rfl)) pa_nil)) (pa_cons (pe_callTy call_list_of (by rfl) T.list (by decide +kernel) (pa_cons (pe_dget (hu_of hr) (pv 0) pe_str (fun _ _ => rfl)) pa_nil)) pa_nil))) (pk_cons (pe_dget (hu_of hr) (pv 0) pe_str (fun _ _ => rfl)) pk_nil)))), ?_⟩
    refine ⟨_, rfl, gd, .ref ls, rfl, get (Same.refl H) gs.so, ?_⟩
    refine ⟨ls, sv, rfl, .inl (SqL.of hls), fun p1 n1 => ?_⟩
    have s1 := same_upd (o := .lst sv) n1
    refine ⟨_, rfl, gd, .ref lm, rfl, get s1 gs.mak, ?_⟩
    refine ⟨lm, mv, rfl, .inl (SqL.of (s1 _ _ hlm)), fun p2 n2 => ?_⟩
    have s2 := s1.trans (same_upd (o := .lst mv) n2)
    refine ⟨_, rfl, gd, .ref lr, rfl, get s2 gs.rl, ?_⟩
    refine ⟨lr, rv, rfl, .inl (SqL.of (s2 _ _ hlr)), fun p3 n3 => ?_⟩
    have s3 := s2.trans (same_upd (o := .lst rv) n3)
    refine ⟨_, rfl, gd, .int roof, rfl, get s3 gs.cap, ?_⟩
    refine ⟨rfl, rfl, fun x dx nx ndx ndd => ?_⟩
    have nx2 : (upd (upd (upd (upd H p1 (.lst sv)) p2 (.lst mv)) p3 (.lst rv)) dx (.own x)) x = none := by
      rw [upd_ne (Ne.symm ndd)]
      exact nx
    have s5 := (same_upd (o := .own x) ndx).trans (same_upd (o := .ins C dx []) nx2)
    have sU := s3.trans s5
    have h1 := s5 _ _ (same_upd (o := .lst rv) n3 _ _ (same_upd (o := .lst mv) n2 _ _ (upd_same (H := H) (a := p1) (o := .lst sv))))
    have h2 := s5 _ _ (same_upd (o := .lst rv) n3 _ _ (upd_same (H := upd H p1 (.lst sv)) (a := p2) (o := .lst mv)))
    have h3 := s5 _ _ (upd_same (H := upd (upd H p1 (.lst sv)) p2 (.lst mv)) (a := p3) (o := .lst rv))
    have hx0 := s3.free nx
    refine ⟨x, dx, p1, p2, p3, roof, sv, mv, rv, rs, ms, ru, rfl, upd_same, h1, h2, h3, dpAll_same sU hsv, dpAll_same sU hmv, dpAll_same sU hrv, gf, fun H' bt gr ri => ⟨rfl, q _ x (fun b o hb => bt b o (ne_of_none hb hx0) (sU b o hb)) hx0 (gr.less sU) (ri.less sU)⟩⟩
end
/-! ### str of a text or a number -/
theorem call_strB {X : Cx} : CallR X (.type "str") (fun xs H Q => (∃ a, xs = [.str a] ∧ Q (.str a) H) ∨ ∃ i, xs = [.int i] ∧ i.natAbs.log2 < 1920 ∧ Q (.str (toString i)) H) := by
  intro pins s σ H xs us Q I r h
  rcases h with h | h
  · exact SkE.call_str_str pins s σ H xs us Q I r h
  · exact call_str_int pins s σ H xs us Q I r h
theorem num_log {n : Nat} (h : n < 1000000) : (((n : Nat) : Int)).natAbs.log2 < 1920 := by
  rw [Int.natAbs_natCast]
  by_cases z : n = 0
  · rw [z]
    decide
  · have : n.log2 < 20 := (Nat.log2_lt z).mpr (by
      have : (2 : Nat) ^ 20 = 1048576 := by decide
      omega)
    omega
/-! ### a grammar shown -/
abbrev s__law_shown : Stmt := top 69
abbrev N__law_shown : List Str := ["_law_g"]
abbrev P__law_shown : List Str := ["_law_g"]
theorem sc__law_shown : FnScope N__law_shown P__law_shown (defScope s__law_shown) := ⟨rfl, rfl, rfl, by decide +kernel, rfl, by decide +kernel, by decide +kernel⟩
structure Sh8 (mg : Str → Option Value) : Prop where
  len : mg "len" = none
  str : mg "str" = none
def shownS (n m : Nat) : Str := Str.ofString "Grammar(" ++ Str.ofString (toString ((n : Nat) : Int)) ++ Str.ofString " sorts, " ++ Str.ofString (toString ((m : Nat) : Int)) ++ Str.ofString " makings)"
def spShown (K : PySem.W.Frag) : Sp := fun vs H Q _ => ∃ (gd : Addr) (rs : List SRow) (ms : List MRow) (ru : List RRow) (roof : Nat), vs = [.ref gd] ∧ GD K H gd rs ms ru roof ∧ rs.length ≤ 4 ∧ ms.length ≤ 8 ∧ Q (.str (shownS rs.length ms.length)) H
section
variable {P : Program} {w : World} {K : PySem.W.Frag} {mg : Str → Option Value} {base : Heap}
theorem ok_shown (T : Sh8 mg) (D : Dd K mg "_law_shown" s__law_shown P__law_shown) : C8.Cal P w K mg base 1 "_law_shown" (spShown K) [] := by
  refine D.cal sc__law_shown (fun vs H Q E h => ?_) (fun f cdv A outer s H vs Q E hr h => ?_)
  · obtain ⟨gd, rs, ms, ru, roof, rfl, _⟩ := h
    rfl
  · obtain ⟨gd, rs, ms, ru, roof, rfl, ga, h4, h8, q⟩ := h
    refine ⟨_, (pss_one (ps_ret (pe_op op_add_str (pe_op op_add_str (pe_op op_add_str (pe_op op_add_str pe_str (pe_callTy call_strB (by rfl) T.str (by decide +kernel) (pa_cons (pe_callB call_len_seq (by rfl) T.len PySem.boot_len (pa_cons (pe_dget (hu_of hr) (pv 0) pe_str (fun _ _ => rfl)) pa_nil)) pa_nil))) pe_str) (pe_callTy call_strB (by rfl) T.str (by decide +kernel) (pa_cons (pe_callB call_len_seq (by rfl) T.len PySem.boot_len (pa_cons (pe_dget (hu_of hr) (pv 0) pe_str (fun _ _ => rfl)) pa_nil)) pa_nil))) pe_str))), ?_⟩
    obtain ⟨ls, lm, lr, kvs, sv, mv, rv, h1, c1, c2, c3, c4, a1, a2, a3, a4, a5, a6⟩ := ga.ex
    have lsv := dpAll_len a2
    have lmv := dpAll_len a4
    rw [List.length_map] at lsv lmv
    have dg : ∀ {k : Str} {v : V}, valV kvs (Sum.inr k) = some v → DGet H gd (.str k) (some v) := fun {k v} h => by
      have g := DGet.k (k := Sum.inr k) h1
      rw [h] at g
      exact g
    have nl : ∀ n : Nat, n ≤ 8 → (Str.ofString (toString ((n : Nat) : Int))).length ≤ 6 := fun n h => by
      rw [SX.num_S, SX.S_len]
      exact TL.numL_len (by decide) (by omega)
    have n1 := nl rs.length (by omega)
    have n2 := nl ms.length h8
    have e1 : (Str.ofString "Grammar(").length = 8 := by decide +kernel
    have e2 : (Str.ofString " sorts, ").length = 8 := by decide +kernel
    have e3 : (Str.ofString " makings)").length = 9 := by decide +kernel
    have cap : ∀ k : Nat, k ≤ 200 → k ≤ sizeLine := fun k h => Nat.le_trans h (by decide)
    refine ⟨_, rfl, gd, .ref ls, rfl, dg c2, ls, sv, rfl, .inl (SqL.of a1), .inr ⟨_, rfl, num_log (by omega), ?_⟩⟩
    rw [lsv]
    refine ⟨_, _, rfl, rfl, cap _ (by omega), ?_⟩
    refine ⟨_, _, rfl, rfl, cap _ (by rw [Str.length_append]; omega), ?_⟩
    refine ⟨_, rfl, gd, .ref lm, rfl, dg c3, lm, mv, rfl, .inl (SqL.of a3), .inr ⟨_, rfl, num_log (by omega), ?_⟩⟩
    rw [lmv]
    refine ⟨_, _, rfl, rfl, cap _ (by rw [Str.length_append, Str.length_append]; omega), ?_⟩
    refine ⟨_, _, rfl, rfl, cap _ (by rw [Str.length_append, Str.length_append, Str.length_append]; omega), ?_⟩
    exact q
end
/-! ### str of a tuple of data -/
def rStrD (K : PySem.W.Frag) : List V → Hp → VK → Prop := fun xs H Q => ∃ (v : V) (ds : List PyData), xs = [v] ∧ Dp K H v (.tuple ds) ∧ (PyData.tuple ds).showable = true ∧ (PyData.tuple ds).hasDict = false ∧ (PyData.tuple ds).depth ≤ 50 ∧ (PyData.tuple ds).shown.length ≤ sizeLine ∧ Q (.str (PyData.tuple ds).shown) H
theorem call_strD {X : Cx} {j : Nat} (hg : X.A.guards = some []) (hr : Room j X.A) : CallR X (.type "str") (rStrD X.K) := by
  intro pins s σ H xs us Q I r h
  obtain ⟨v, ds, rfl, hd, hs, hn, hp, hz, q⟩ := h
  cases r with
  | cons r1 rr =>
    cases rr
    have un := hr.un
    cases hd with
    | tup h1 h2 =>
      rename_i a xs
      obtain rfl : _ = Value.ref a := r1
      obtain ⟨as, rd⟩ := Dp.reads I (.tuple ds) (.ref a) (.ref a) (.tup h1 h2) rfl
      exact str_of_reads rd hs (PyData.noDict_hsm hn) hg (by omega) (fun _ _ e => e) (fun h' u tk hk => ⟨.str _, H, I.kept (t' := tk) hk, ⟨_, rfl⟩, q⟩) hz
/-! ### texts of targets and operands tell them apart -/
theorem rc_let {c : Nat} (h : isLet c = true) : PySem.Builtin.Str.reprChar 39 c = [c] := by
  have all : ∀ k < 26, PySem.Builtin.Str.reprChar 39 (97 + k) = [97 + k] := by decide +kernel
  unfold isLet at h
  rw [Bool.and_eq_true, decide_eq_true_eq, decide_eq_true_eq] at h
  have := all (c - 97) (by omega)
  rw [show 97 + (c - 97) = c by omega] at this
  exact this
theorem rq_let {w : List Nat} (h : ∀ c ∈ w, isLet c = true) : reprQuote (SX.S w) = 39 := by
  unfold reprQuote
  have : (SX.S w).cps.contains 39 = false := by
    rw [Bool.eq_false_iff]
    intro z
    have hm : 39 ∈ w := by
      have := Array.contains_iff_mem.mp z
      simpa [SX.S] using this
    have := h 39 hm
    exact absurd this (by decide)
  rw [this]
  rfl
theorem fold_let : ∀ (l : List Nat) (acc : Array Nat), (∀ c ∈ l, isLet c = true) → (l.foldl (fun out c => out ++ (PySem.Builtin.Str.reprChar 39 c).toArray) acc).toList = acc.toList ++ l
  | [], acc, _ => by simp
  | c :: l, acc, h => by
    rw [List.foldl_cons, fold_let l _ fun x hx => h x (List.mem_cons_of_mem _ hx), rc_let (h c List.mem_cons_self)]
    simp
theorem repr_nm {w : List Nat} (h : ∀ c ∈ w, isLet c = true) : TL.tl (reprText (SX.S w)) = 39 :: (w ++ [39]) := by
  unfold reprText
  rw [rq_let h]
  show (Array.push _ 39).toList = _
  rw [Array.toList_push, ← Array.foldl_toList]
  rw [show (SX.S w).cps.toList = w from rfl, fold_let w _ h]
  rfl
theorem split_at {s : Nat} : ∀ {xs xs' ys ys' : List Nat}, s ∉ xs → s ∉ xs' → xs ++ s :: ys = xs' ++ s :: ys' → xs = xs' ∧ ys = ys'
  | [], [], _, _, _, _, h => ⟨rfl, (List.cons.inj h).2⟩
  | [], x' :: xs', _, _, _, h2, h => absurd (List.cons.inj h).1 (fun z => h2 (z ▸ List.mem_cons_self))
  | x :: xs, [], _, _, h1, _, h => absurd (List.cons.inj h).1 (fun z => h1 (z ▸ List.mem_cons_self))
  | x :: xs, x' :: xs', ys, ys', h1, h2, h => by
    obtain ⟨e, h⟩ := List.cons.inj h
    obtain ⟨a, b⟩ := split_at (fun z => h1 (List.mem_cons_of_mem _ z)) (fun z => h2 (List.mem_cons_of_mem _ z)) h
    exact ⟨by rw [e, a], b⟩
/-- the text of an end, but for its last sign -/
def enB : En → List Nat
  | .sp p w => sl "('at', " ++ TL.numL p ++ sl ", " ++ 39 :: (w ++ [39])
  | .kept w => sl "('kept', " ++ 39 :: (w ++ [39])
def odB : Od → List Nat
  | .en e => enB e
  | .own => sl "('own',"
  | .num n => sl "('number', " ++ TL.numL n
theorem tl_sl (x : String) : TL.tl (Str.ofString x) = sl x := rfl
theorem tt2 (a b : Str) : TL.tl (tupleText [a, b]) = sl "(" ++ TL.tl a ++ sl ", " ++ TL.tl b ++ sl ")" := by
  unfold tupleText
  show TL.tl (Str.ofString "(" ++ (a ++ Str.ofString ", " ++ b) ++ Str.ofString ")") = _
  rw [TL.tl_append, TL.tl_append, TL.tl_append, TL.tl_append, tl_sl, tl_sl, tl_sl]
  simp only [List.append_assoc]
theorem tt3 (a b c : Str) : TL.tl (tupleText [a, b, c]) = sl "(" ++ TL.tl a ++ sl ", " ++ TL.tl b ++ sl ", " ++ TL.tl c ++ sl ")" := by
  unfold tupleText
  show TL.tl (Str.ofString "(" ++ (a ++ Str.ofString ", " ++ (b ++ Str.ofString ", " ++ c)) ++ Str.ofString ")") = _
  rw [TL.tl_append, TL.tl_append, TL.tl_append, TL.tl_append, TL.tl_append, TL.tl_append, tl_sl, tl_sl, tl_sl]
  simp only [List.append_assoc]
theorem tt1 (a : Str) : TL.tl (tupleText [a]) = sl "(" ++ TL.tl a ++ sl ",)" := by
  unfold tupleText
  show TL.tl (Str.ofString "(" ++ a ++ Str.ofString ",)") = _
  rw [TL.tl_append, TL.tl_append, tl_sl, tl_sl]
theorem num_tl (n : Nat) : TL.tl (PyData.shown (.int (n : Nat))) = TL.numL n := by
  show TL.tl (Str.ofString (toString ((n : Nat) : Int))) = _
  rw [SX.num_S]
theorem en_tl {e : En} (h : ∀ c ∈ enW e, isLet c = true) : TL.tl (PyData.shown e.d) = enB e ++ [41] := by
  cases e with
  | sp p w =>
    show TL.tl (tupleText [reprText "at", PyData.shown (.int (p : Nat)), reprText (SX.S w)]) = _
    have h' : ∀ c ∈ w, isLet c = true := h
    rw [tt3, num_tl, repr_nm h', show TL.tl (reprText "at") = sl "'at'" by decide +kernel]
    show _ = (sl "('at', " ++ TL.numL p ++ sl ", " ++ 39 :: (w ++ [39])) ++ [41]
    rw [show sl "('at', " = sl "(" ++ sl "'at'" ++ sl ", " by decide +kernel, show sl ")" = [41] by decide +kernel]
  | kept w =>
    show TL.tl (tupleText [reprText "kept", reprText (SX.S w)]) = _
    have h' : ∀ c ∈ w, isLet c = true := h
    rw [tt2, repr_nm h', show TL.tl (reprText "kept") = sl "'kept'" by decide +kernel]
    show _ = (sl "('kept', " ++ 39 :: (w ++ [39])) ++ [41]
    rw [show sl "('kept', " = sl "(" ++ sl "'kept'" ++ sl ", " by decide +kernel, show sl ")" = [41] by decide +kernel]
def odW : Od → List Nat
  | .en e => enW e
  | _ => []
theorem od_tl {o : Od} (h : ∀ c ∈ odW o, isLet c = true) : TL.tl (PyData.shown o.d) = odB o ++ [41] := by
  cases o with
  | en e => exact en_tl h
  | own =>
    show TL.tl (tupleText [reprText "own"]) = _
    rw [tt1, show TL.tl (reprText "own") = sl "'own'" by decide +kernel]
    show _ = sl "('own'," ++ [41]
    decide +kernel
  | num n =>
    show TL.tl (tupleText [reprText "number", PyData.shown (.int (n : Nat))]) = _
    rw [tt2, num_tl, show TL.tl (reprText "number") = sl "'number'" by decide +kernel]
    show _ = sl "('number', " ++ TL.numL n ++ [41]
    rw [show sl "('number', " = sl "(" ++ sl "'number'" ++ sl ", " by decide +kernel, show sl ")" = [41] by decide +kernel]
theorem enB_inj {e e' : En} (he : ∀ c ∈ enW e, isLet c = true) (he' : ∀ c ∈ enW e', isLet c = true) (h : enB e = enB e') : e = e' := by
  have c0 : ∀ (x y : List Nat), sl "('at', " ++ x ≠ sl "('kept', " ++ y := fun x y z => by
    have e1 : sl "('at', " = [40, 39, 97, 116, 39, 44, 32] := by decide +kernel
    have e2 : sl "('kept', " = [40, 39, 107, 101, 112, 116, 39, 44, 32] := by decide +kernel
    rw [e1, e2] at z
    have := (List.cons.inj (List.cons.inj (List.cons.inj z).2).2).1
    omega
  cases e with
  | sp p w =>
    cases e' with
    | sp p' w' =>
      have h : sl "('at', " ++ TL.numL p ++ sl ", " ++ 39 :: (w ++ [39]) = sl "('at', " ++ TL.numL p' ++ sl ", " ++ 39 :: (w' ++ [39]) := h
      rw [show sl ", " = [44, 32] by decide +kernel] at h
      simp only [List.append_assoc] at h
      have h := List.append_cancel_left h
      obtain ⟨h1, h2⟩ := split_at (s := 44) (TL.numL_free (.inl (by decide))) (TL.numL_free (.inl (by decide))) h
      have h2 : 32 :: 39 :: (w ++ [39]) = 32 :: 39 :: (w' ++ [39]) := h2
      have h3 := List.append_cancel_right (List.cons.inj (List.cons.inj h2).2).2
      rw [TL.numL_inj h1, h3]
    | kept w' =>
      have h : sl "('at', " ++ TL.numL p ++ sl ", " ++ 39 :: (w ++ [39]) = sl "('kept', " ++ 39 :: (w' ++ [39]) := h
      simp only [List.append_assoc] at h
      exact absurd h (c0 _ _)
  | kept w =>
    cases e' with
    | sp p' w' =>
      have h : sl "('kept', " ++ 39 :: (w ++ [39]) = sl "('at', " ++ TL.numL p' ++ sl ", " ++ 39 :: (w' ++ [39]) := h
      simp only [List.append_assoc] at h
      exact absurd h.symm (c0 _ _)
    | kept w' =>
      have h : sl "('kept', " ++ 39 :: (w ++ [39]) = sl "('kept', " ++ 39 :: (w' ++ [39]) := h
      have h := List.append_cancel_left h
      rw [List.append_cancel_right (List.cons.inj h).2]
def odC : Od → Nat
  | .en (.sp _ _) => 97
  | .en (.kept _) => 107
  | .own => 111
  | .num _ => 110
theorem odB_inj {o o' : Od} (he : ∀ c ∈ odW o, isLet c = true) (he' : ∀ c ∈ odW o', isLet c = true) (h : odB o = odB o') : o = o' := by
  have e1 : sl "('at', " = [40, 39, 97, 116, 39, 44, 32] := by decide +kernel
  have e2 : sl "('kept', " = [40, 39, 107, 101, 112, 116, 39, 44, 32] := by decide +kernel
  have e3 : sl "('own'," = [40, 39, 111, 119, 110, 39, 44] := by decide +kernel
  have e4 : sl "('number', " = [40, 39, 110, 117, 109, 98, 101, 114, 39, 44, 32] := by decide +kernel
  have third : ∀ o : Od, ∃ r, odB o = 40 :: 39 :: odC o :: r := fun o => by
    cases o with
    | en e =>
      cases e with
      | sp p w => exact ⟨_, by show sl "('at', " ++ TL.numL p ++ sl ", " ++ 39 :: (w ++ [39]) = _; rw [e1]; rfl⟩
      | kept w => exact ⟨_, by show sl "('kept', " ++ 39 :: (w ++ [39]) = _; rw [e2]; rfl⟩
    | own => exact ⟨_, e3⟩
    | num n => exact ⟨_, by show sl "('number', " ++ TL.numL n = _; rw [e4]; rfl⟩
  obtain ⟨r, h1⟩ := third o
  obtain ⟨r', h2⟩ := third o'
  have h3 : odC o = odC o' := by
    rw [h1, h2] at h
    exact (List.cons.inj (List.cons.inj (List.cons.inj h).2).2).1
  cases o with
  | en e =>
    cases o' with
    | en e' => rw [enB_inj he he' h]
    | own => cases e <;> simp [odC] at h3
    | num n => cases e <;> simp [odC] at h3
  | own =>
    cases o' with
    | en e' => cases e' <;> simp [odC] at h3
    | own => rfl
    | num n => simp [odC] at h3
  | num n =>
    cases o' with
    | en e' => cases e' <;> simp [odC] at h3
    | own => simp [odC] at h3
    | num n' => rw [TL.numL_inj (List.append_cancel_left h)]
theorem odB_free {o : Od} (h : ∀ c ∈ odW o, isLet c = true) : 41 ∉ odB o := by
  have nl : ∀ {w : List Nat}, (∀ c ∈ w, isLet c = true) → 41 ∉ w := fun {w} h z => absurd (h 41 z) (by decide)
  have fix : ∀ x ∈ [sl "('at', ", sl "('kept', ", sl "('own',", sl "('number', ", sl ", "], 41 ∉ x := by decide +kernel
  have q : ∀ {w : List Nat}, (∀ c ∈ w, isLet c = true) → 41 ∉ 39 :: (w ++ [39]) := fun {w} h z => by
    rcases List.mem_cons.mp z with z | z
    · omega
    · rcases List.mem_append.mp z with z | z
      · exact nl h z
      · have := List.mem_singleton.mp z
        omega
  cases o with
  | en e =>
    cases e with
    | sp p w =>
      show 41 ∉ sl "('at', " ++ TL.numL p ++ sl ", " ++ 39 :: (w ++ [39])
      intro z
      rcases List.mem_append.mp z with z | z
      · rcases List.mem_append.mp z with z | z
        · rcases List.mem_append.mp z with z | z
          · exact fix _ (by simp) z
          · exact TL.numL_free (.inl (by decide)) z
        · exact fix _ (by simp) z
      · exact q h z
    | kept w =>
      show 41 ∉ sl "('kept', " ++ 39 :: (w ++ [39])
      intro z
      rcases List.mem_append.mp z with z | z
      · exact fix _ (by simp) z
      · exact q h z
  | own =>
    show 41 ∉ sl "('own',"
    exact fix _ (by simp)
  | num n =>
    show 41 ∉ sl "('number', " ++ TL.numL n
    intro z
    rcases List.mem_append.mp z with z | z
    · exact fix _ (by simp) z
    · exact TL.numL_free (.inl (by decide)) z
theorem tg_inj {e e' : En} (he : ∀ c ∈ enW e, isLet c = true) (he' : ∀ c ∈ enW e', isLet c = true) (h : PyData.shown e.d = PyData.shown e'.d) : e = e' := by
  have h := congrArg TL.tl h
  rw [en_tl he, en_tl he'] at h
  exact enB_inj he he' (List.append_cancel_right h)
/-! ### texts of operands tell them apart -/
theorem od_one {a a' : Od} {ys ys' : List Nat} (ha : ∀ c ∈ odW a, isLet c = true) (ha' : ∀ c ∈ odW a', isLet c = true) (h : odB a ++ [41] ++ ys = odB a' ++ [41] ++ ys') : a = a' ∧ ys = ys' := by
  rw [List.append_assoc, List.append_assoc] at h
  obtain ⟨e1, e2⟩ := split_at (odB_free ha) (odB_free ha') h
  exact ⟨odB_inj ha ha' e1, e2⟩
def Lw (o : Od) : Prop := ∀ c ∈ odW o, isLet c = true
theorem os1 {a a' : Od} (ha : Lw a) (ha' : Lw a') (h : TL.tl (tupleText [PyData.shown a.d]) = TL.tl (tupleText [PyData.shown a'.d])) : [a] = [a'] := by
  rw [tt1, tt1, od_tl ha, od_tl ha'] at h
  simp only [List.append_assoc] at h
  have h := List.append_cancel_left h
  rw [← List.append_assoc, ← List.append_assoc] at h
  rw [(od_one ha ha' h).1]
theorem os2 {a a' b b' : Od} (ha : Lw a) (ha' : Lw a') (hb : Lw b) (hb' : Lw b') (h : TL.tl (tupleText [PyData.shown a.d, PyData.shown b.d]) = TL.tl (tupleText [PyData.shown a'.d, PyData.shown b'.d])) : [a, b] = [a', b'] := by
  rw [tt2, tt2, od_tl ha, od_tl ha', od_tl hb, od_tl hb'] at h
  simp only [List.append_assoc] at h
  have h := List.append_cancel_left h
  rw [← List.append_assoc, ← List.append_assoc (odB a')] at h
  obtain ⟨e1, h⟩ := od_one ha ha' h
  have h := List.append_cancel_left h
  rw [← List.append_assoc, ← List.append_assoc (odB b')] at h
  obtain ⟨e2, _⟩ := od_one hb hb' h
  rw [e1, e2]
theorem os3 {a a' b b' c c' : Od} (ha : Lw a) (ha' : Lw a') (hb : Lw b) (hb' : Lw b') (hc : Lw c) (hc' : Lw c') (h : TL.tl (tupleText [PyData.shown a.d, PyData.shown b.d, PyData.shown c.d]) = TL.tl (tupleText [PyData.shown a'.d, PyData.shown b'.d, PyData.shown c'.d])) : [a, b, c] = [a', b', c'] := by
  rw [tt3, tt3, od_tl ha, od_tl ha', od_tl hb, od_tl hb', od_tl hc, od_tl hc'] at h
  simp only [List.append_assoc] at h
  have h := List.append_cancel_left h
  rw [← List.append_assoc, ← List.append_assoc (odB a')] at h
  obtain ⟨e1, h⟩ := od_one ha ha' h
  have h := List.append_cancel_left h
  rw [← List.append_assoc, ← List.append_assoc (odB b')] at h
  obtain ⟨e2, h⟩ := od_one hb hb' h
  have h := List.append_cancel_left h
  rw [← List.append_assoc, ← List.append_assoc (odB c')] at h
  obtain ⟨e3, _⟩ := od_one hc hc' h
  rw [e1, e2, e3]
theorem len2 {α : Type} {xs : List α} (h : xs.length = 2) : ∃ a b, xs = [a, b] := by
  cases xs with
  | nil => cases h
  | cons a xs =>
    obtain ⟨b, rfl⟩ := List.length_eq_one_iff.mp (Nat.succ.inj h)
    exact ⟨a, b, rfl⟩
theorem len3 {α : Type} {xs : List α} (h : xs.length = 3) : ∃ a b c, xs = [a, b, c] := by
  cases xs with
  | nil => cases h
  | cons a xs =>
    obtain ⟨b, c, rfl⟩ := len2 (Nat.succ.inj h)
    exact ⟨a, b, c, rfl⟩
theorem os_inj {os os' : List Od} (hl : os.length = os'.length) (h1 : 1 ≤ os.length) (h3 : os.length ≤ 3) (hw : ∀ o ∈ os, Lw o) (hw' : ∀ o ∈ os', Lw o) (h : PyData.shown (.tuple (os.map Od.d)) = PyData.shown (.tuple (os'.map Od.d))) : os = os' := by
  have h := congrArg TL.tl h
  have hc : os.length = 1 ∨ os.length = 2 ∨ os.length = 3 := by omega
  rcases hc with e | e | e
  · obtain ⟨a, rfl⟩ := List.length_eq_one_iff.mp e
    obtain ⟨a', rfl⟩ := List.length_eq_one_iff.mp (hl.symm.trans e)
    exact os1 (hw a (by simp)) (hw' a' (by simp)) h
  · obtain ⟨a, b, rfl⟩ := len2 e
    obtain ⟨a', b', rfl⟩ := len2 (hl.symm.trans e)
    exact os2 (hw a (by simp)) (hw' a' (by simp)) (hw b (by simp)) (hw' b' (by simp)) h
  · obtain ⟨a, b, c, rfl⟩ := len3 e
    obtain ⟨a', b', c', rfl⟩ := len3 (hl.symm.trans e)
    exact os3 (hw a (by simp)) (hw' a' (by simp)) (hw b (by simp)) (hw' b' (by simp)) (hw c (by simp)) (hw' c' (by simp)) h
/-- a rule's row as the law knows it -/
def krD (r : RRow) : PyData := .tuple [strD r.ma, .str (PyData.shown r.tg.d), strD r.op, .str (PyData.shown (.tuple (r.os.map Od.d)))]
theorem lw_fit {rs : List SRow} {ms : List MRow} {roof : Nat} {r : RRow} (so : SortsOk rs) (h : RuleOk rs ms roof r) : (∀ c ∈ enW r.tg, isLet c = true) ∧ ∀ o ∈ r.os, Lw o := by
  obtain ⟨m, hm, _, ht, ho⟩ := h.ex
  have at_ : ∀ {p : Nat} {w : List Nat} {b : Bool}, AtOf rs m p w b → ∀ c ∈ w, isLet c = true := fun {p w b} ⟨k, r0, _, h2, _, h4⟩ c hc => by
    refine ((so.ok r0 h2).all w ?_).1.2.2 c hc
    cases b with
    | true => exact List.mem_append_right _ h4
    | false => exact List.mem_append_left _ h4
  refine ⟨fun c hc => ?_, fun o ho' c hc => ?_⟩
  · cases e : r.tg with
    | sp p w => rw [e] at ht hc; exact at_ ht c hc
    | kept w => rw [e] at ht hc; exact ht.1.1.2.2 c hc
  · have h2 := ho o ho'
    cases o with
    | en e =>
      cases e with
      | sp p w => exact at_ h2 c hc
      | kept w => exact h2.1.1.2.2 c hc
    | own => cases hc
    | num n => cases hc
theorem krD_inj {rs rs' : List SRow} {ms ms' : List MRow} {roof roof' : Nat} {r r' : RRow} (so : SortsOk rs) (so' : SortsOk rs') (h : RuleOk rs ms roof r) (h' : RuleOk rs' ms' roof' r') (e : krD r = krD r') : r = r' := by
  obtain ⟨l1, l2⟩ := lw_fit so h
  obtain ⟨l1', l2'⟩ := lw_fit so' h'
  unfold krD at e
  injection e with e
  obtain ⟨e1, e⟩ := List.cons.inj e
  obtain ⟨e2, e⟩ := List.cons.inj e
  obtain ⟨e3, e⟩ := List.cons.inj e
  obtain ⟨e4, _⟩ := List.cons.inj e
  have ma : r.ma = r'.ma := SX.S_inj (by injection e1)
  have op : r.op = r'.op := SX.S_inj (by injection e3)
  have tg : r.tg = r'.tg := tg_inj l1 l1' (by injection e2)
  have a3 := ar3 r.op
  have a1 : 1 ≤ arOf r.op := by
    unfold arOf
    split
    · decide
    · split <;> decide
  have os : r.os = r'.os := os_inj (by rw [h.ar, h'.ar, op]) (by rw [h.ar]; exact a1) (by rw [h.ar]; exact a3) l2 l2' (by injection e4)
  cases r
  cases r'
  simp only at ma op tg os
  subst ma op tg os
  rfl
/-! ### unlike, told exactly -/
mutual
def pur : PyData → Bool
  | .int _ => true
  | .str _ => true
  | .tuple ds => purAll ds
  | _ => false
def purAll : List PyData → Bool
  | [] => true
  | d :: ds => pur d && purAll ds
end
mutual
theorem eqv_pur : ∀ x y : PyData, pur x = true → pur y = true → (PyData.eqv x y = true ↔ x = y)
  | .int i, .int j, _, _ => by
    show (i == j) = true ↔ _
    rw [beq_iff_eq]
    exact ⟨fun h => by rw [h], fun h => by cases h; rfl⟩
  | .str a, .str b, _, _ => by
    show (a == b) = true ↔ _
    rw [beq_iff_eq]
    exact ⟨fun h => by rw [h], fun h => by cases h; rfl⟩
  | .tuple xs, .tuple ys, h1, h2 => by
    rw [PyData.eqv]
    rw [eqvAll_pur xs ys h1 h2]
    exact ⟨fun h => by rw [h], fun h => by cases h; rfl⟩
  | .int _, .str _, _, _ => ⟨fun h => by rw [PyData.eqv] at h <;> first | cases h | (intros; contradiction), fun h => nomatch h⟩
  | .int _, .tuple _, _, _ => ⟨fun h => by rw [PyData.eqv] at h <;> first | cases h | (intros; contradiction), fun h => nomatch h⟩
  | .str _, .int _, _, _ => ⟨fun h => by rw [PyData.eqv] at h <;> first | cases h | (intros; contradiction), fun h => nomatch h⟩
  | .str _, .tuple _, _, _ => ⟨fun h => by rw [PyData.eqv] at h <;> first | cases h | (intros; contradiction), fun h => nomatch h⟩
  | .tuple _, .int _, _, _ => ⟨fun h => by rw [PyData.eqv] at h <;> first | cases h | (intros; contradiction), fun h => nomatch h⟩
  | .tuple _, .str _, _, _ => ⟨fun h => by rw [PyData.eqv] at h <;> first | cases h | (intros; contradiction), fun h => nomatch h⟩
  | .none, _, h, _ => by cases h
  | .bool _, _, h, _ => by cases h
  | .list _, _, h, _ => by cases h
  | .dict _, _, h, _ => by cases h
  | _, .none, _, h => by cases h
  | _, .bool _, _, h => by cases h
  | _, .list _, _, h => by cases h
  | _, .dict _, _, h => by cases h
theorem eqvAll_pur : ∀ xs ys : List PyData, purAll xs = true → purAll ys = true → (PyData.eqvAll xs ys = true ↔ xs = ys)
  | [], [], _, _ => ⟨fun _ => rfl, fun _ => rfl⟩
  | [], _ :: _, _, _ => ⟨fun h => (nomatch h), fun h => nomatch h⟩
  | _ :: _, [], _, _ => ⟨fun h => (nomatch h), fun h => nomatch h⟩
  | x :: xs, y :: ys, h1, h2 => by
    have h1 : (pur x && purAll xs) = true := h1
    have h2 : (pur y && purAll ys) = true := h2
    rw [Bool.and_eq_true] at h1 h2
    rw [PySem.W.eqv_all_cons, Bool.and_eq_true, eqv_pur x y h1.1 h2.1, eqvAll_pur xs ys h1.2 h2.2]
    exact ⟨fun h => by rw [h.1, h.2], fun h => by cases h; exact ⟨rfl, rfl⟩⟩
end
theorem pur_names : ∀ ws : List (List Nat), purAll (ws.map strD) = true
  | [] => rfl
  | _ :: ws => pur_names ws
theorem pur_en (e : En) : pur e.d = true := by cases e <;> rfl
theorem pur_od (o : Od) : pur o.d = true := by
  cases o with
  | en e => exact pur_en e
  | own => rfl
  | num n => rfl
theorem pur_ods : ∀ os : List Od, purAll (os.map Od.d) = true
  | [] => rfl
  | o :: os => by
    show (pur o.d && purAll (os.map Od.d)) = true
    rw [pur_od o, pur_ods os]
    rfl
/-! ### what the law knows of a grammar: sorted, and alike -/
theorem str_eqv (a b : Str) : PyData.eqv (.str a) (.str b) = (a == b) := rfl
theorem rowsx_kr {rs : List SRow} {ms : List MRow} {ru : List RRow} {roof : Nat} (g : GFit rs ms ru roof) : RowsX (ru.map krD) := by
  have pl : ∀ r : RRow, PyData.plainAll [strD r.ma, .str (PyData.shown r.tg.d), strD r.op, .str (PyData.shown (.tuple (r.os.map Od.d)))] = true := fun r => rfl
  refine ⟨⟨fun d hd => ?_, fun xs ys hx hy => ?_⟩, fun x hx y hy e => ?_⟩
  · obtain ⟨r, _, rfl⟩ := List.mem_map.mp hd
    refine ⟨SX.S r.ma, _, rfl, pl r, fun x hx => ?_⟩
    simp only [List.mem_cons, List.not_mem_nil, or_false] at hx
    rcases hx with rfl | rfl | rfl | rfl <;> exact Nat.zero_le _
  · obtain ⟨r, hr, e⟩ := List.mem_map.mp hx
    obtain ⟨r', hr', e'⟩ := List.mem_map.mp hy
    cases e
    cases e'
    by_cases hn : r.ma = r'.ma
    · by_cases ht : r.tg = r'.tg
      · rw [rund_same g.rn r hr r' hr' hn ht]
        exact fo_self _ 0 (pl r')
      · refine .eq (by rw [hn]; exact str_eq _) (.lt ?_ (.one (.al rfl (fun z => nomatch z))))
        rw [str_eqv]
        refine Bool.eq_false_iff.mpr fun z => ht ?_
        exact tg_inj (lw_fit g.so (g.ra r hr)).1 (lw_fit g.so (g.ra r' hr')).1 (eq_of_beq z)
    · exact .s0 (str_ne hn)
  · obtain ⟨r, hr, rfl⟩ := List.mem_map.mp hx
    obtain ⟨r', hr', rfl⟩ := List.mem_map.mp hy
    obtain ⟨e1, e2⟩ := toks_str e
    have e3 : PyData.shown r.tg.d = PyData.shown r'.tg.d := by
      simp only [PySem.W.toks_all_cons, PySem.W.keyToks, List.cons_append, List.nil_append, List.cons.injEq, true_and, Sum.inr.injEq] at e2
      exact PySem.W.str_of_cps e2.1
    have ht := tg_inj (lw_fit g.so (g.ra r hr)).1 (lw_fit g.so (g.ra r' hr')).1 e3
    rw [rund_same g.rn r hr r' hr' (SX.S_inj e1) ht]
/-- sorted rows are the same for the same rows -/
theorem srtR_perm {ds es : List PyData} (hd : RowsX ds) (p : es.Perm ds) : srtR es = srtR ds := by
  by_cases e : ∃ xs, rowsIn ds xs
  · have h3 : rowsIn ds (srtR ds) := by
      unfold srtR
      rw [dif_pos e]
      exact e.choose_spec
    have h4 : rowsIn es (srtR ds) := ⟨h3.1.trans p.symm, h3.2⟩
    exact (srtR_of (fun x hx y hy t => hd.inj x (p.mem_iff.mp hx) y (p.mem_iff.mp hy) t) h4).symm
  · have h3 : srtR ds = [] := by
      unfold srtR
      rw [dif_neg e]
    have h4 : srtR es = [] := by
      unfold srtR
      rw [dif_neg]
      rintro ⟨xs, h5⟩
      exact e ⟨xs, h5.1.trans p, h5.2⟩
    rw [h3, h4]
theorem map_perm_inj {α β : Type} {f : α → β} : ∀ {xs ys : List α}, (∀ x ∈ xs, ∀ y ∈ ys, f x = f y → x = y) → (xs.map f).Perm (ys.map f) → xs.Perm ys := by
  intro xs ys hi h
  induction xs generalizing ys with
  | nil =>
    have := h.length_eq
    rw [List.length_map, List.length_map] at this
    rw [List.length_eq_zero_iff.mp this.symm]
  | cons x xs ih =>
    have hm : f x ∈ ys.map f := h.mem_iff.mp (List.mem_cons_self ..)
    obtain ⟨y, hy, e⟩ := List.mem_map.mp hm
    have exy := hi x List.mem_cons_self y hy e.symm
    subst exy
    obtain ⟨l1, l2, rfl⟩ := List.append_of_mem hy
    have h2 : (f x :: (xs.map f)).Perm (f x :: ((l1 ++ l2).map f)) := by
      refine h.trans ?_
      rw [List.map_append, List.map_cons, List.map_append]
      exact List.perm_middle
    have h3 := ih (ys := l1 ++ l2) (fun a ha b hb => hi a (List.mem_cons_of_mem _ ha) b (by
      rcases List.mem_append.mp hb with h | h
      · exact List.mem_append_left _ h
      · exact List.mem_append_right _ (List.mem_cons_of_mem _ h))) (List.Perm.cons_inv h2)
    exact (h3.cons x).trans List.perm_middle.symm
theorem pur_kr : ∀ ru : List RRow, purAll (ru.map krD) = true
  | [] => rfl
  | r :: ru => by
    show (pur (krD r) && purAll (ru.map krD)) = true
    rw [pur_kr ru]
    rfl
theorem pur_rr : ∀ ru : List RRow, purAll (ru.map RRow.d) = true
  | [] => rfl
  | r :: ru => by
    show ((true && (pur r.tg.d && (true && (purAll (r.os.map Od.d) && true)))) && purAll (ru.map RRow.d)) = true
    rw [pur_rr ru, pur_en, pur_ods]
    rfl
theorem purAll_perm {ds es : List PyData} (p : es.Perm ds) (h : purAll ds = true) : purAll es = true := by
  induction p with
  | nil => rfl
  | cons x _ ih =>
    have h : (pur x && purAll _) = true := h
    rw [Bool.and_eq_true] at h
    show (pur x && purAll _) = true
    rw [h.1, ih h.2]
    rfl
  | swap x y l =>
    have h : (pur _ && (pur _ && purAll l)) = true := h
    rw [Bool.and_eq_true, Bool.and_eq_true] at h
    show (pur _ && (pur _ && purAll l)) = true
    rw [h.2.1, h.1, h.2.2]
    rfl
  | trans _ _ ih1 ih2 => exact ih1 (ih2 h)
theorem en_inj8 {e e' : En} (h : e.d = e'.d) : e = e' := by
  have h1 := en_eqv e e'
  rw [← h] at h1
  have h2 := en_eqv e e
  rw [decide_eq_true rfl] at h2
  rw [h2] at h1
  exact of_decide_eq_true h1.symm
theorem od_inj8 {o o' : Od} (h : o.d = o'.d) : o = o' := by
  have no : ∀ {e : En}, e.d ≠ Od.d .own := fun {e} z => by cases e <;> (injection z with z; injection z with z1 z2; cases z2)
  have nn : ∀ {e : En} {n : Nat}, e.d ≠ Od.d (.num n) := fun {e n} z => by
    cases e with
    | sp p w => injection z with z; injection z with z1 z2; injection z2 with z3 z4; cases z4
    | kept w => injection z with z; injection z with z1 z2; injection z2 with z3 z4; cases z3
  cases o with
  | en e =>
    cases o' with
    | en e' => rw [en_inj8 h]
    | own => exact absurd h no
    | num n => exact absurd h nn
  | own =>
    cases o' with
    | en e' => exact absurd h.symm no
    | own => rfl
    | num n => injection h with z; injection z with z1 z2; cases z2
  | num n =>
    cases o' with
    | en e' => exact absurd h.symm nn
    | own => injection h with z; injection z with z1 z2; cases z2
    | num n' =>
      injection h with z
      injection z with z1 z2
      injection z2 with z3 z4
      injection z3 with z5
      have : n = n' := by omega
      rw [this]
theorem ods_inj8 : ∀ {os os' : List Od}, os.map Od.d = os'.map Od.d → os = os'
  | [], [], _ => rfl
  | [], _ :: _, h => nomatch h
  | _ :: _, [], h => nomatch h
  | o :: os, o' :: os', h => by
    obtain ⟨h1, h2⟩ := List.cons.inj h
    rw [od_inj8 h1, ods_inj8 h2]
theorem rr_inj {r r' : RRow} (h : r.d = r'.d) : r = r' := by
  have h : PyData.tuple [strD r.ma, r.tg.d, strD r.op, .tuple (r.os.map Od.d)] = .tuple [strD r'.ma, r'.tg.d, strD r'.op, .tuple (r'.os.map Od.d)] := h
  injection h with h
  obtain ⟨e1, h⟩ := List.cons.inj h
  obtain ⟨e2, h⟩ := List.cons.inj h
  obtain ⟨e3, h⟩ := List.cons.inj h
  obtain ⟨e4, _⟩ := List.cons.inj h
  have ma : r.ma = r'.ma := SX.S_inj (by injection e1)
  have op : r.op = r'.op := SX.S_inj (by injection e3)
  have tg := en_inj8 e2
  have os : r.os = r'.os := ods_inj8 (by injection e4)
  cases r
  cases r'
  simp only at ma op tg os
  subst ma op tg os
  rfl
/-- the law knows the rules apart as a grammar does -/
theorem known_rules {rs rs' : List SRow} {ms ms' : List MRow} {ru ru' : List RRow} {roof roof' : Nat} (g : GFit rs ms ru roof) (g' : GFit rs' ms' ru' roof') (p1 : (srtR (ru.map krD)).Perm (ru.map krD)) (p2 : (srtR (ru'.map krD)).Perm (ru'.map krD)) (p3 : (srtR (ru.map RRow.d)).Perm (ru.map RRow.d)) (p4 : (srtR (ru'.map RRow.d)).Perm (ru'.map RRow.d)) :
    PyData.eqvAll (srtR (ru.map krD)) (srtR (ru'.map krD)) = PyData.eqvAll (srtR (ru.map RRow.d)) (srtR (ru'.map RRow.d)) := by
  rw [Bool.eq_iff_iff, eqvAll_pur _ _ (purAll_perm p1 (pur_kr ru)) (purAll_perm p2 (pur_kr ru')), eqvAll_pur _ _ (purAll_perm p3 (pur_rr ru)) (purAll_perm p4 (pur_rr ru'))]
  constructor
  · intro e
    have h : (ru.map krD).Perm (ru'.map krD) := p1.symm.trans (e ▸ p2)
    have h2 := map_perm_inj (fun x hx y hy => krD_inj g.so g'.so (g.ra x hx) (g'.ra y hy)) h
    exact srtR_perm (rowsx_rules g'.rn) (h2.map RRow.d)
  · intro e
    have h : (ru.map RRow.d).Perm (ru'.map RRow.d) := p3.symm.trans (e ▸ p4)
    have h2 := map_perm_inj (f := RRow.d) (fun x _ y _ e => rr_inj e) h
    exact srtR_perm (rowsx_kr g') (h2.map krD)
theorem allTrue (n : Nat) : (List.replicate n true).all id = true := by
  rw [List.all_eq_true]
  intro x hx
  rw [List.eq_of_mem_replicate hx]
  rfl
abbrev s__law_same : Stmt := top 64
abbrev N__law_same : List Str := ["_law_found", "_law_due", "_law_one", "_law_other"]
abbrev P__law_same : List Str := ["_law_found", "_law_due"]
theorem sc__law_same : FnScope N__law_same P__law_same (defScope s__law_same) := ⟨rfl, rfl, rfl, by decide +kernel, rfl, by decide +kernel, by decide +kernel⟩
structure Sa (mg : Str → Option Value) : Prop where
  isinstance : mg "isinstance" = none
  list : mg "list" = none
  tuple : mg "tuple" = none
  bool : mg "bool" = none
  str : mg "str" = none
  int : mg "int" = none
  len : mg "len" = none
  zip : mg "zip" = none
  all : mg "all" = none
  range : mg "range" = none
theorem walk_zipT {K : PySem.W.Frag} {a b : Addr} {xs ys : List V} {n : Nat} (hn : n = min xs.length ys.length) : Walk (RZ.ItzT K a b) n (fun H => SqT K H a xs ∧ SqT K H b ys) (YPair (fun i => xs[i]?) (fun i => ys[i]?)) := by
  subst hn
  refine ⟨fun i _ hi q => ?_, fun _ q => ⟨xs, ys, q.1, q.2, by omega⟩, fun i H v H' _ q y => ?_⟩
  · have h1 : i < xs.length := by omega
    have h2 : i < ys.length := by omega
    exact ⟨xs, ys, xs[i], ys[i], q.1, q.2, by simp [h1], by simp [h2]⟩
  · obtain ⟨T, x, z, h1, h2, h3, h4, h5⟩ := y
    exact ⟨T, x, z, h1, h2, h3, h4 xs q.1, h5 ys q.2⟩
def spSame (K : PySem.W.Frag) (n : Nat) : Sp := fun vs H Q _ => ∃ (x y : V) (d : PyData), vs = [x, y] ∧ Dp K H x d ∧ Dp K H y d ∧ Sm n d ∧ ∀ H', Same H H' → Q (.bl true) H'
section
variable {P : Program} {w : World} {K : PySem.W.Frag} {mg : Str → Option Value} {base : Heap}
theorem same_non (T : Sa mg) (f : Addr) (cdv : Value) (A : Around) (outer : List Env) (s : Shared) (H : Hp) (Q : VK) (E : XK) (q : ∀ H', Same H H' → Q (.bl true) H') :
    ∃ t, PSs (cxOf CX0 P w K mg base N__law_same "_law_same" (defScope s__law_same) f cdv A outer s H E).nox (defBody s__law_same) t ∧ t { nx := fun _ H' => Q .non H', rt := Q } (start N__law_same [.non, .non]) H := by
  refine ⟨_, (pss_cons (ps_if (pt_val (pe_callB call_isiT (by rfl) T.isinstance (by decide +kernel) (pa_cons (pv 1) (pa_cons (pe_tup (pa_cons (pe_bltn (v := .ty "list") rfl T.list (by decide +kernel) rfl) (pa_cons (pe_bltn (v := .ty "tuple") rfl T.tuple (by decide +kernel) rfl) pa_nil))) pa_nil))))
      (pss_cons ps_never (pss_one ps_never)) pss_nil)
    (pss_cons (ps_if (PW.pt (pw_or (pt_cmpR op_isN (pv 1) pe_non (nomark _)) (pw_or1 (pt_cmpR op_isN (pv 0) pe_non (nomark _)))))
      (pss_one (ps_ret (pe_and (pe_cmpR op_isN (pv 1) pe_non (nomark _)) (pe_one (pe_cmpR op_isN (pv 0) pe_non (nomark _))))))
      pss_nil) (pss_cons ps_never (pss_one ps_never)))), ?_⟩
  refine ⟨_, rfl, by show 2 ≤ sizeLine; decide, fun tp nt => ?_⟩
  refine ⟨.non, tp, _, .type "NoneType", [.type "list", .type "tuple"], false, rfl, upd_same, .cons (.ty "list") (.cons (.ty "tuple") .nil), .base .non, kitLT (by decide +kernel) (fun _ => by decide +kernel), _, rfl, iteF ?_⟩
  refine ⟨_, rfl, rfl, _, rfl, ifT (decide_eq_true rfl) (iteT ?_)⟩
  refine ⟨_, rfl, rfl, _, rfl, ifT (decide_eq_true rfl) ?_⟩
  refine ⟨_, rfl, rfl, ?_⟩
  rw [decide_eq_true rfl]
  exact q _ (same_upd nt)
theorem same_atom (T : Sa mg) (f : Addr) (cdv : Value) (A : Around) (outer : List Env) (s : Shared) (H : Hp) (Q : VK) (E : XK) {x : V} {t : String} (ty : ∀ H', TyX K H' x (.type t)) (nx : x ≠ .non) (k1 : kitB t "list" = some false) (k2 : kitB t "tuple" = some false)
    (kk : (kitB t "bool" = some true) ∨ (kitB t "bool" = some false ∧ kitB t "str" = some true) ∨ (kitB t "bool" = some false ∧ kitB t "str" = some false ∧ kitB t "int" = some true)) (sc : scal x x = true) (q : ∀ H', Same H H' → Q (.bl true) H') :
    ∃ t, PSs (cxOf CX0 P w K mg base N__law_same "_law_same" (defScope s__law_same) f cdv A outer s H E).nox (defBody s__law_same) t ∧ t { nx := fun _ H' => Q .non H', rt := Q } (start N__law_same [x, x]) H := by
  refine ⟨_, (pss_cons (ps_if (pt_val (pe_callB call_isiT (by rfl) T.isinstance (by decide +kernel) (pa_cons (pv 1) (pa_cons (pe_tup (pa_cons (pe_bltn (v := .ty "list") rfl T.list (by decide +kernel) rfl) (pa_cons (pe_bltn (v := .ty "tuple") rfl T.tuple (by decide +kernel) rfl) pa_nil))) pa_nil))))
      (pss_cons ps_never (pss_one ps_never)) pss_nil)
    (pss_cons (ps_if (PW.pt (pw_or (pt_cmpR op_isN (pv 1) pe_non (nomark _)) (pw_or1 (pt_cmpR op_isN (pv 0) pe_non (nomark _)))))
      (pss_one ps_never) pss_nil)
    (pss_cons (ps_if (PW.pt (pw_or (pt_val (pe_callB call_isi (by rfl) T.isinstance (by decide +kernel) (pa_cons (pv 1) (pa_cons (pe_bltn (v := .ty "bool") rfl T.bool (by decide +kernel) rfl) pa_nil)))) (pw_or1 (pt_val (pe_callB call_isi (by rfl) T.isinstance (by decide +kernel) (pa_cons (pv 1) (pa_cons (pe_bltn (v := .ty "str") rfl T.str (by decide +kernel) rfl) pa_nil)))))))
      (pss_one (ps_ret (pe_and (pe_cmpR op_eq (pe_callB call_isi (by rfl) T.isinstance (by decide +kernel) (pa_cons (pv 0) (pa_cons (pe_bltn (v := .ty "bool") rfl T.bool (by decide +kernel) rfl) pa_nil))) (pe_callB call_isi (by rfl) T.isinstance (by decide +kernel) (pa_cons (pv 1) (pa_cons (pe_bltn (v := .ty "bool") rfl T.bool (by decide +kernel) rfl) pa_nil))) (nomark _)) (pe_one (pe_cmpR op_eq (pv 0) (pv 1) (nomark _))))))
      pss_nil)
    (pss_one (ps_ret (pe_and (pe_callB call_isi (by rfl) T.isinstance (by decide +kernel) (pa_cons (pv 0) (pa_cons (pe_bltn (v := .ty "int") rfl T.int (by decide +kernel) rfl) pa_nil))) (pe_and (pe_not (pe_callB call_isi (by rfl) T.isinstance (by decide +kernel) (pa_cons (pv 0) (pa_cons (pe_bltn (v := .ty "bool") rfl T.bool (by decide +kernel) rfl) pa_nil)))) (pe_one (pe_cmpR op_eq (pv 0) (pv 1) (nomark _)))))))))), ?_⟩
  refine ⟨_, rfl, by show 2 ≤ sizeLine; decide, fun tp nt => ?_⟩
  refine ⟨x, tp, _, .type t, [.type "list", .type "tuple"], false, rfl, upd_same, .cons (.ty "list") (.cons (.ty "tuple") .nil), ty _, kitLT k1 (fun _ => k2), _, rfl, iteF ?_⟩
  refine ⟨_, rfl, rfl, _, rfl, ifF (decide_eq_false nx) ?_⟩
  refine ⟨_, rfl, rfl, _, rfl, ifF (decide_eq_false nx) ?_⟩
  rcases kk with kb | ⟨kb, ks⟩ | ⟨kb, ks, ki⟩
  · refine ⟨_, rfl, x, .ty "bool", .type t, .type "bool", true, rfl, .ty "bool", ty _, kit_ty kb, _, rfl, iteT (iteT ?_)⟩
    refine ⟨_, rfl, x, .ty "bool", .type t, .type "bool", true, rfl, .ty "bool", ty _, kit_ty kb, ?_⟩
    refine ⟨_, rfl, x, .ty "bool", .type t, .type "bool", true, rfl, .ty "bool", ty _, kit_ty kb, ?_⟩
    refine ⟨rfl, _, rfl, ifT (decide_eq_true rfl) ?_⟩
    refine ⟨_, rfl, _, rfl, sc, ?_⟩
    rw [decide_eq_true rfl]
    exact q _ (same_upd nt)
  · refine ⟨_, rfl, x, .ty "bool", .type t, .type "bool", false, rfl, .ty "bool", ty _, kit_ty kb, _, rfl, iteF ?_⟩
    refine ⟨_, rfl, x, .ty "str", .type t, .type "str", true, rfl, .ty "str", ty _, kit_ty ks, _, rfl, iteT ?_⟩
    refine ⟨_, rfl, x, .ty "bool", .type t, .type "bool", false, rfl, .ty "bool", ty _, kit_ty kb, ?_⟩
    refine ⟨_, rfl, x, .ty "bool", .type t, .type "bool", false, rfl, .ty "bool", ty _, kit_ty kb, ?_⟩
    refine ⟨rfl, _, rfl, ifT (decide_eq_true rfl) ?_⟩
    refine ⟨_, rfl, _, rfl, sc, ?_⟩
    rw [decide_eq_true rfl]
    exact q _ (same_upd nt)
  · refine ⟨_, rfl, x, .ty "bool", .type t, .type "bool", false, rfl, .ty "bool", ty _, kit_ty kb, _, rfl, iteF ?_⟩
    refine ⟨_, rfl, x, .ty "str", .type t, .type "str", false, rfl, .ty "str", ty _, kit_ty ks, _, rfl, iteF ?_⟩
    refine ⟨_, rfl, x, .ty "int", .type t, .type "int", true, rfl, .ty "int", ty _, kit_ty ki, _, rfl, iteT ?_⟩
    refine ⟨_, rfl, x, .ty "bool", .type t, .type "bool", false, rfl, .ty "bool", ty _, kit_ty kb, _, rfl, _, rfl, iteT ?_⟩
    refine ⟨_, rfl, _, rfl, sc, ?_⟩
    rw [decide_eq_true rfl]
    exact q _ (same_upd nt)
theorem ok_same (T : Sa mg) (D : Dd K mg "_law_same" s__law_same P__law_same) : ∀ n, C8.Cal P w K mg base (n + 1) "_law_same" (spSame K n) [] := by
  intro n
  induction n with
  | zero =>
    refine D.cal sc__law_same (fun vs H Q E h => ?_) (fun f cdv A outer s H vs Q E hr h => ?_)
    · obtain ⟨x, y, d, rfl, _⟩ := h
      rfl
    · obtain ⟨x, y, d, rfl, hx, hy, hs, q⟩ := h
      cases hs with
      | non => cases hx; cases hy; exact same_non T f cdv A outer s H Q E q
      | bl _ b => cases hx; cases hy; exact same_atom T f cdv A outer s H Q E (fun _ => .base (.bl b)) (fun z => nomatch z) (by decide +kernel) (by decide +kernel) (.inl (by decide +kernel)) rfl q
      | int _ i => cases hx; cases hy; exact same_atom T f cdv A outer s H Q E (fun _ => .base (.int i)) (fun z => nomatch z) (by decide +kernel) (by decide +kernel) (.inr (.inr ⟨by decide +kernel, by decide +kernel, by decide +kernel⟩)) rfl q
      | str _ z => cases hx; cases hy; exact same_atom T f cdv A outer s H Q E (fun _ => .base (.str z)) (fun z => nomatch z) (by decide +kernel) (by decide +kernel) (.inr (.inl ⟨by decide +kernel, by decide +kernel⟩)) rfl q
  | succ n c_law_same =>
    refine D.cal sc__law_same (fun vs H Q E h => ?_) (fun f cdv A outer s H vs Q E hr h => ?_)
    · obtain ⟨x, y, d, rfl, _⟩ := h
      rfl
    · obtain ⟨x, y, d, rfl, hx, hy, hs, q⟩ := h
      cases hs with
      | non => cases hx; cases hy; exact same_non T f cdv A outer s H Q E q
      | bl _ b => cases hx; cases hy; exact same_atom T f cdv A outer s H Q E (fun _ => .base (.bl b)) (fun z => nomatch z) (by decide +kernel) (by decide +kernel) (.inl (by decide +kernel)) rfl q
      | int _ i => cases hx; cases hy; exact same_atom T f cdv A outer s H Q E (fun _ => .base (.int i)) (fun z => nomatch z) (by decide +kernel) (by decide +kernel) (.inr (.inr ⟨by decide +kernel, by decide +kernel, by decide +kernel⟩)) rfl q
      | str _ z => cases hx; cases hy; exact same_atom T f cdv A outer s H Q E (fun _ => .base (.str z)) (fun z => nomatch z) (by decide +kernel) (by decide +kernel) (.inr (.inl ⟨by decide +kernel, by decide +kernel⟩)) rfl q
      | lst _ hlen hall =>
        rename_i ds
        cases hx with
        | lst hS hd =>
          rename_i a xs
          cases hy with
          | lst hS2 hd2 =>
            rename_i b ys
            refine ⟨_, (pss_cons (ps_if (pt_val (pe_callB call_isiT (by rfl) T.isinstance (by decide +kernel) (pa_cons (pv 1) (pa_cons (pe_tup (pa_cons (pe_bltn (v := .ty "list") rfl T.list (by decide +kernel) rfl) (pa_cons (pe_bltn (v := .ty "tuple") rfl T.tuple (by decide +kernel) rfl) pa_nil))) pa_nil))))
      (pss_cons (ps_if (PW.pt (pw_or (pt_cmpR op_ne (pe_callB call_isi (by rfl) T.isinstance (by decide +kernel) (pa_cons (pv 0) (pa_cons (pe_bltn (v := .ty "list") rfl T.list (by decide +kernel) rfl) pa_nil))) (pe_callB call_isi (by rfl) T.isinstance (by decide +kernel) (pa_cons (pv 1) (pa_cons (pe_bltn (v := .ty "list") rfl T.list (by decide +kernel) rfl) pa_nil))) (nomark _)) (pw_or1 (pt_cmpR op_ne (pe_callB call_isi (by rfl) T.isinstance (by decide +kernel) (pa_cons (pv 0) (pa_cons (pe_bltn (v := .ty "tuple") rfl T.tuple (by decide +kernel) rfl) pa_nil))) (pe_callB call_isi (by rfl) T.isinstance (by decide +kernel) (pa_cons (pv 1) (pa_cons (pe_bltn (v := .ty "tuple") rfl T.tuple (by decide +kernel) rfl) pa_nil))) (nomark _)))))
      (pss_one ps_never)
      pss_nil)
    (pss_one (ps_ret (pe_and (pe_cmpR op_eq (pe_callB call_len_seq (by rfl) T.len PySem.boot_len (pa_cons (pv 0) pa_nil)) (pe_callB call_len_seq (by rfl) T.len PySem.boot_len (pa_cons (pv 1) pa_nil)) (nomark _)) (pe_one (pe_callB (cr_all rfl) (by rfl) T.all (by decide +kernel) (pa_cons (pe_lc (g := gTup K 2 (gCons (gName 2) (gCons (gName 3) gNil))) (own := [("_law_one", 2), ("_law_other", 3)]) (by exact rfl) sc__law_same.nd (RZ.pi_zipA (by rfl) T.zip (pa_cons (pv 0) (pa_cons (pv 1) pa_nil))) (blkOk_by (own := [("_law_one", 2), ("_law_other", 3)]) (N := N__law_same) (sc := defScope s__law_same) (by decide +kernel)) (fun _ _ _ _ _ => (pg_tup (n := 2) rfl (pgs_cons (pg_name (i := 2) sc__law_same.nd rfl (Or.inl rfl) (Or.inr rfl)) (pgs_cons (pg_name (i := 3) sc__law_same.nd rfl (Or.inl rfl) (Or.inr rfl)) pgs_nil)))) (fun _ _ _ _ _ => pts_nil) (fun _ _ _ _ _ => (C8.pe_c c_law_same hr (by omega) (by rfl) (pa_cons (pv 2) (pa_cons (pv 3) pa_nil))))) pa_nil)))))))
      pss_nil)
    (pss_cons ps_never (pss_cons ps_never (pss_one ps_never)))), ?_⟩
            have lx := dpAll_len hd
            have ly := dpAll_len hd2
            refine ⟨_, rfl, by show 2 ≤ sizeLine; decide, fun tp nt => ?_⟩
            have s1 := same_upd (o := .tup [.ty "list", .ty "tuple"]) nt
            have h1 := Same.seqL s1 hS
            have h2 := Same.seqL s1 hS2
            refine ⟨.ref b, tp, _, .type "list", [.type "list", .type "tuple"], true, rfl, upd_same, .cons (.ty "list") (.cons (.ty "tuple") .nil), tyL h2, kitLT (by decide +kernel) (fun e => nomatch e), _, rfl, iteT ?_⟩
            refine ⟨_, rfl, .ref a, .ty "list", .type "list", .type "list", true, rfl, .ty "list", tyL h1, kit_ty (by decide +kernel), ?_⟩
            refine ⟨_, rfl, .ref b, .ty "list", .type "list", .type "list", true, rfl, .ty "list", tyL h2, kit_ty (by decide +kernel), rfl, _, rfl, iteF ?_⟩
            refine ⟨_, rfl, .ref a, .ty "tuple", .type "list", .type "tuple", false, rfl, .ty "tuple", tyL h1, kit_ty (by decide +kernel), ?_⟩
            refine ⟨_, rfl, .ref b, .ty "tuple", .type "list", .type "tuple", false, rfl, .ty "tuple", tyL h2, kit_ty (by decide +kernel), rfl, _, rfl, iteF ?_⟩
            refine ⟨_, rfl, a, xs, rfl, .inl h1, ?_⟩
            refine ⟨_, rfl, b, ys, rfl, .inl h2, rfl, _, rfl, ifT (by rw [lx, ly]; exact decide_eq_true rfl) ?_⟩
            refine ⟨_, rfl, _, rfl, a, b, xs, ys, rfl, .inl ⟨h1, h2, fun D nD => ?_⟩⟩
            refine lc_it (walk_zip (K := K) (a := a) (b := b) (xs := xs) (ys := ys) rfl) (fun j H' => Same H H' ∧ H' D = some (.lst ((List.replicate j true).map V.bl)))
              ⟨Same.trans s1 (same_upd nD), upd_same⟩ (fun j H' _ h => ⟨Same.seqL h.1 hS, Same.seqL h.1 hS2⟩) ?_ ?_
            · rintro j v H3 H4 hj ⟨sm, hD⟩ ⟨U, x, y, rfl, nU, rfl, ex, ey⟩
              obtain ⟨d1, e1, g1⟩ := dpAll_at hd ex
              obtain ⟨d2, e2, g2⟩ := dpAll_at hd2 ey
              rw [e1] at e2
              cases e2
              have sU : Same H3 (upd H3 U (.tup [x, y])) := same_upd nU
              have s5 := sm.trans sU
              refine ⟨U, _, rfl, SqT.of upd_same, rfl, _, _, rfl, _, _, rfl, rfl, ?_⟩
              refine ⟨rfl, yesT ?_⟩
              refine ⟨_, rfl, _, rfl, x, y, d1, rfl, dp_same s5 g1, dp_same s5 g2, hall d1 (List.mem_of_getElem? e1), fun H6 s6 => ?_⟩
              refine ⟨_, s6 _ _ (sU _ _ hD), by rw [List.length_map, List.length_replicate]; exact small1000 (by omega), Same.at_ (s5.trans s6) (s1.free nD), ?_⟩
              rw [upd_same, List.replicate_succ', List.map_append]
              rfl
            · rintro H6 ⟨s6, hD⟩
              refine ⟨D, _, rfl, SqL.of hD, ?_⟩
              rw [allTrue]
              exact q H6 s6
      | tup _ hlen hall =>
        rename_i ds
        cases hx with
        | tup hS hd =>
          rename_i a xs
          cases hy with
          | tup hS2 hd2 =>
            rename_i b ys
            refine ⟨_, (pss_cons (ps_if (pt_val (pe_callB call_isiT (by rfl) T.isinstance (by decide +kernel) (pa_cons (pv 1) (pa_cons (pe_tup (pa_cons (pe_bltn (v := .ty "list") rfl T.list (by decide +kernel) rfl) (pa_cons (pe_bltn (v := .ty "tuple") rfl T.tuple (by decide +kernel) rfl) pa_nil))) pa_nil))))
      (pss_cons (ps_if (PW.pt (pw_or (pt_cmpR op_ne (pe_callB call_isi (by rfl) T.isinstance (by decide +kernel) (pa_cons (pv 0) (pa_cons (pe_bltn (v := .ty "list") rfl T.list (by decide +kernel) rfl) pa_nil))) (pe_callB call_isi (by rfl) T.isinstance (by decide +kernel) (pa_cons (pv 1) (pa_cons (pe_bltn (v := .ty "list") rfl T.list (by decide +kernel) rfl) pa_nil))) (nomark _)) (pw_or1 (pt_cmpR op_ne (pe_callB call_isi (by rfl) T.isinstance (by decide +kernel) (pa_cons (pv 0) (pa_cons (pe_bltn (v := .ty "tuple") rfl T.tuple (by decide +kernel) rfl) pa_nil))) (pe_callB call_isi (by rfl) T.isinstance (by decide +kernel) (pa_cons (pv 1) (pa_cons (pe_bltn (v := .ty "tuple") rfl T.tuple (by decide +kernel) rfl) pa_nil))) (nomark _)))))
      (pss_one ps_never)
      pss_nil)
    (pss_one (ps_ret (pe_and (pe_cmpR op_eq (pe_callB call_len_seq (by rfl) T.len PySem.boot_len (pa_cons (pv 0) pa_nil)) (pe_callB call_len_seq (by rfl) T.len PySem.boot_len (pa_cons (pv 1) pa_nil)) (nomark _)) (pe_one (pe_callB (cr_all rfl) (by rfl) T.all (by decide +kernel) (pa_cons (pe_lc (g := gTup K 2 (gCons (gName 2) (gCons (gName 3) gNil))) (own := [("_law_one", 2), ("_law_other", 3)]) (by exact rfl) sc__law_same.nd (RZ.pi_zipA (by rfl) T.zip (pa_cons (pv 0) (pa_cons (pv 1) pa_nil))) (blkOk_by (own := [("_law_one", 2), ("_law_other", 3)]) (N := N__law_same) (sc := defScope s__law_same) (by decide +kernel)) (fun _ _ _ _ _ => (pg_tup (n := 2) rfl (pgs_cons (pg_name (i := 2) sc__law_same.nd rfl (Or.inl rfl) (Or.inr rfl)) (pgs_cons (pg_name (i := 3) sc__law_same.nd rfl (Or.inl rfl) (Or.inr rfl)) pgs_nil)))) (fun _ _ _ _ _ => pts_nil) (fun _ _ _ _ _ => (C8.pe_c c_law_same hr (by omega) (by rfl) (pa_cons (pv 2) (pa_cons (pv 3) pa_nil))))) pa_nil)))))))
      pss_nil)
    (pss_cons ps_never (pss_cons ps_never (pss_one ps_never)))), ?_⟩
            have lx := dpAll_len hd
            have ly := dpAll_len hd2
            refine ⟨_, rfl, by show 2 ≤ sizeLine; decide, fun tp nt => ?_⟩
            have s1 := same_upd (o := .tup [.ty "list", .ty "tuple"]) nt
            have h1 := Same.seqT s1 hS
            have h2 := Same.seqT s1 hS2
            refine ⟨.ref b, tp, _, .type "tuple", [.type "list", .type "tuple"], true, rfl, upd_same, .cons (.ty "list") (.cons (.ty "tuple") .nil), tyT h2, kitLT2, _, rfl, iteT ?_⟩
            refine ⟨_, rfl, .ref a, .ty "list", .type "tuple", .type "list", false, rfl, .ty "list", tyT h1, kit_ty (by decide +kernel), ?_⟩
            refine ⟨_, rfl, .ref b, .ty "list", .type "tuple", .type "list", false, rfl, .ty "list", tyT h2, kit_ty (by decide +kernel), rfl, _, rfl, iteF ?_⟩
            refine ⟨_, rfl, .ref a, .ty "tuple", .type "tuple", .type "tuple", true, rfl, .ty "tuple", tyT h1, kit_ty (by decide +kernel), ?_⟩
            refine ⟨_, rfl, .ref b, .ty "tuple", .type "tuple", .type "tuple", true, rfl, .ty "tuple", tyT h2, kit_ty (by decide +kernel), rfl, _, rfl, iteF ?_⟩
            refine ⟨_, rfl, a, xs, rfl, .inr h1, ?_⟩
            refine ⟨_, rfl, b, ys, rfl, .inr h2, rfl, _, rfl, ifT (by rw [lx, ly]; exact decide_eq_true rfl) ?_⟩
            refine ⟨_, rfl, _, rfl, a, b, xs, ys, rfl, .inr ⟨h1, h2, fun D nD => ?_⟩⟩
            refine lc_it (walk_zipT (K := K) (a := a) (b := b) (xs := xs) (ys := ys) rfl) (fun j H' => Same H H' ∧ H' D = some (.lst ((List.replicate j true).map V.bl)))
              ⟨Same.trans s1 (same_upd nD), upd_same⟩ (fun j H' _ h => ⟨Same.seqT h.1 hS, Same.seqT h.1 hS2⟩) ?_ ?_
            · rintro j v H3 H4 hj ⟨sm, hD⟩ ⟨U, x, y, rfl, nU, rfl, ex, ey⟩
              obtain ⟨d1, e1, g1⟩ := dpAll_at hd ex
              obtain ⟨d2, e2, g2⟩ := dpAll_at hd2 ey
              rw [e1] at e2
              cases e2
              have sU : Same H3 (upd H3 U (.tup [x, y])) := same_upd nU
              have s5 := sm.trans sU
              refine ⟨U, _, rfl, SqT.of upd_same, rfl, _, _, rfl, _, _, rfl, rfl, ?_⟩
              refine ⟨rfl, yesT ?_⟩
              refine ⟨_, rfl, _, rfl, x, y, d1, rfl, dp_same s5 g1, dp_same s5 g2, hall d1 (List.mem_of_getElem? e1), fun H6 s6 => ?_⟩
              refine ⟨_, s6 _ _ (sU _ _ hD), by rw [List.length_map, List.length_replicate]; exact small1000 (by omega), Same.at_ (s5.trans s6) (s1.free nD), ?_⟩
              rw [upd_same, List.replicate_succ', List.map_append]
              rfl
            · rintro H6 ⟨s6, hD⟩
              refine ⟨D, _, rfl, SqL.of hD, ?_⟩
              rw [allTrue]
              exact q H6 s6
end
/-! ### texts of data, how long at most -/
theorem textFrom_le : ∀ (ts : List Str) (k : Nat) (acc : Str), (textFrom k acc ts).length ≤ acc.length + piled ts
  | [], k, acc => by
    rw [piled_nil]
    exact Nat.le_refl _
  | t :: r, k, acc => by
    have ih := textFrom_le r (k + 1) (acc ++ (if k > 0 then ", " else "" : String) ++ t)
    have e2 : ((", " : String) : Str).length = 2 := rfl
    have e0 : (("" : String) : Str).length = 0 := rfl
    have e : (acc ++ (if k > 0 then ", " else "" : String) ++ t).length ≤ acc.length + 2 + t.length := by
      rw [strLen_append, strLen_append]
      by_cases h : k > 0
      · rw [if_pos h, e2]
        exact Nat.le_refl _
      · rw [if_neg h, e0]
        omega
    rw [piled_cons]
    exact Nat.le_trans ih (by omega)
theorem listText_le (ts : List Str) : (listText ts).length ≤ piled ts + 2 := by
  unfold listText
  rw [strLen_append]
  have h := textFrom_le ts 0 "["
  have e1 : (("[" : String) : Str).length = 1 := rfl
  have e2 : (("]" : String) : Str).length = 1 := rfl
  rw [e1] at h
  rw [e2]
  omega
theorem tupleText_le (ts : List Str) : (tupleText ts).length ≤ piled ts + 3 := by
  unfold tupleText
  rw [strLen_append, strLen_append]
  have e1 : (("(" : String) : Str).length = 1 := rfl
  have e2 : ((if ts.length == 1 then ",)" else ")" : String) : Str).length ≤ 2 := by
    by_cases h : (ts.length == 1) = true
    · rw [if_pos h]
      decide
    · rw [if_neg h]
      decide
  rw [e1]
  cases ts with
  | nil =>
    have e3 : (Str.join ", " []).length = 0 := rfl
    rw [e3]
    omega
  | cons t r =>
    have := join_length_add (t :: r) (by simp)
    omega
def Nm (z : Str) : Prop := ∃ w, z = SX.S w ∧ NmOk w
theorem let_small {c : Nat} (h : isLet c = true) : c < 128 := by
  unfold isLet at h
  simp only [Bool.and_eq_true, decide_eq_true_eq] at h
  omega
/-! ### data that keep off the box: how deep, how wide, how long their text is -/
mutual
def wt : PyData → Nat
  | .none => 1
  | .bool _ => 1
  | .int _ => 1
  | .str _ => 1
  | .list ds => wtAll ds + 1
  | .tuple ds => wtAll ds + 1
  | .dict _ => 1
def wtAll : List PyData → Nat
  | [] => 0
  | d :: ds => wt d + wtAll ds
end
mutual
def okD : PyData → Bool
  | .none => true
  | .bool _ => true
  | .int i => decide (i.natAbs < 10 ^ 21)
  | .str z => decide ((reprText z).length ≤ 62)
  | .list ds => okAll ds
  | .tuple ds => okAll ds
  | .dict _ => false
def okAll : List PyData → Bool
  | [] => true
  | d :: ds => okD d && okAll ds
end
theorem wt_pos : ∀ d : PyData, 1 ≤ wt d
  | .none => Nat.le_refl _
  | .bool _ => Nat.le_refl _
  | .int _ => Nat.le_refl _
  | .str _ => Nat.le_refl _
  | .list ds => by show 1 ≤ wtAll ds + 1; omega
  | .tuple ds => by show 1 ≤ wtAll ds + 1; omega
  | .dict _ => Nat.le_refl _
theorem wtAll_len : ∀ ds : List PyData, ds.length ≤ wtAll ds
  | [] => Nat.le_refl _
  | d :: ds => by
    have := wt_pos d
    have := wtAll_len ds
    show ds.length + 1 ≤ wt d + wtAll ds
    omega
theorem okD_int {i : Int} (h : i.natAbs < 10 ^ 21) : PyData.showable (.int i) = true ∧ (PyData.shown (.int i)).length ≤ 22 := by
  refine ⟨?_, ?_⟩
  · show decide (i.natAbs.log2 < 1920) = true
    refine decide_eq_true ?_
    by_cases z : i.natAbs = 0
    · rw [z]
      decide
    · have : i.natAbs.log2 < 70 := (Nat.log2_lt z).mpr (by
        have : (10 : Nat) ^ 21 < 2 ^ 70 := by decide
        omega)
      omega
  · show (Str.ofString (toString i)).length ≤ 22
    rw [PySem.ofString_length]
    cases i with
    | ofNat n =>
      show (Nat.repr n).length ≤ 22
      exact Nat.le_trans ((Nat.length_repr_le_iff (by decide)).mpr (show n < 10 ^ 21 from h)) (by decide)
    | negSucc n =>
      show (("-" : String) ++ Nat.repr (n + 1)).length ≤ 22
      rw [String.length_append]
      have : (Nat.repr (n + 1)).length ≤ 21 := (Nat.length_repr_le_iff (by decide)).mpr (show n + 1 < 10 ^ 21 from h)
      have e : ("-" : String).length = 1 := rfl
      omega
mutual
theorem okD_shown : ∀ {d : PyData}, okD d = true → d.showable = true ∧ d.hasDict = false ∧ d.shown.length + 2 ≤ 68 * wt d
  | .none, _ => ⟨rfl, rfl, by decide⟩
  | .bool b, _ => ⟨rfl, rfl, by cases b <;> decide⟩
  | .int i, h => by
    obtain ⟨h1, h2⟩ := okD_int (of_decide_eq_true h)
    refine ⟨h1, rfl, ?_⟩
    show _ ≤ 68 * 1
    omega
  | .str z, h => by
    have h : (reprText z).length ≤ 62 := of_decide_eq_true h
    refine ⟨rfl, rfl, ?_⟩
    show (reprText z).length + 2 ≤ 68 * 1
    omega
  | .list ds, h => by
    obtain ⟨h1, h2, h3⟩ := okAll_shown (ds := ds) h
    refine ⟨h1, h2, ?_⟩
    have := listText_le (PyData.shownAll ds)
    show (listText (PyData.shownAll ds)).length + 2 ≤ 68 * (wtAll ds + 1)
    omega
  | .tuple ds, h => by
    obtain ⟨h1, h2, h3⟩ := okAll_shown (ds := ds) h
    refine ⟨h1, h2, ?_⟩
    have := tupleText_le (PyData.shownAll ds)
    show (tupleText (PyData.shownAll ds)).length + 2 ≤ 68 * (wtAll ds + 1)
    omega
  | .dict _, h => nomatch h
theorem okAll_shown : ∀ {ds : List PyData}, okAll ds = true → PyData.showableAll ds = true ∧ PyData.hasDictAll ds = false ∧ piled (PyData.shownAll ds) ≤ 68 * wtAll ds
  | [], _ => ⟨rfl, rfl, Nat.zero_le _⟩
  | d :: ds, h => by
    have h : (okD d && okAll ds) = true := h
    rw [Bool.and_eq_true] at h
    obtain ⟨f1, f2, f3⟩ := okD_shown h.1
    obtain ⟨g1, g2, g3⟩ := okAll_shown h.2
    refine ⟨?_, ?_, ?_⟩
    · show (PyData.showable d && PyData.showableAll ds) = true
      rw [f1, g1]
      rfl
    · show (PyData.hasDict d || PyData.hasDictAll ds) = false
      rw [f2, g2]
      rfl
    · show piled (PyData.shown d :: PyData.shownAll ds) ≤ 68 * (wt d + wtAll ds)
      rw [piled_cons]
      omega
end
mutual
theorem okD_sm : ∀ {d : PyData} {n : Nat}, okD d = true → d.depth ≤ n → wt d ≤ 500 → Sm n d
  | .none, n, _, _, _ => .non n
  | .bool b, n, _, _, _ => .bl n b
  | .int i, n, _, _, _ => .int n i
  | .str z, n, _, _, _ => .str n z
  | .list ds, 0, _, h, _ => absurd h (by show ¬ PyData.depthAll ds + 1 ≤ 0; omega)
  | .list ds, n + 1, h1, h2, h3 => by
    have h2 : PyData.depthAll ds + 1 ≤ n + 1 := h2
    have h3 : wtAll ds + 1 ≤ 500 := h3
    have := wtAll_len ds
    exact .lst n (by omega) (okAll_sm (ds := ds) h1 (by omega) (by omega))
  | .tuple ds, 0, _, h, _ => absurd h (by show ¬ PyData.depthAll ds + 1 ≤ 0; omega)
  | .tuple ds, n + 1, h1, h2, h3 => by
    have h2 : PyData.depthAll ds + 1 ≤ n + 1 := h2
    have h3 : wtAll ds + 1 ≤ 500 := h3
    have := wtAll_len ds
    exact .tup n (by omega) (okAll_sm (ds := ds) h1 (by omega) (by omega))
  | .dict _, n, h, _, _ => nomatch h
theorem okAll_sm : ∀ {ds : List PyData} {n : Nat}, okAll ds = true → PyData.depthAll ds ≤ n → wtAll ds ≤ 500 → ∀ d ∈ ds, Sm n d
  | [], _, _, _, _ => fun d hd => nomatch hd
  | d :: ds, n, h1, h2, h3 => by
    have h1 : (okD d && okAll ds) = true := h1
    rw [Bool.and_eq_true] at h1
    have h2 : max (PyData.depth d) (PyData.depthAll ds) ≤ n := h2
    have h3 : wt d + wtAll ds ≤ 500 := h3
    have a1 := okD_sm (d := d) (n := n) h1.1 (by omega) (by omega)
    have a2 := okAll_sm (ds := ds) (n := n) h1.2 (by omega) (by omega)
    intro x hx
    rcases List.mem_cons.mp hx with e | hx
    · rw [e]
      exact a1
    · exact a2 x hx
end
structure TB (n k : Nat) (d : PyData) : Prop where
  ok : okD d = true
  dp : d.depth ≤ n
  wt : wt d ≤ k
structure TBs (n k : Nat) (ds : List PyData) : Prop where
  ok : okAll ds = true
  dp : PyData.depthAll ds ≤ n
  wt : wtAll ds ≤ k
theorem TB.mono {n m k j : Nat} {d : PyData} (h : TB n k d) (hn : n ≤ m) (hk : k ≤ j) : TB m j d := ⟨h.ok, Nat.le_trans h.dp hn, Nat.le_trans h.wt hk⟩
theorem TBs.mono {n m k j : Nat} {ds : List PyData} (h : TBs n k ds) (hn : n ≤ m) (hk : k ≤ j) : TBs m j ds := ⟨h.ok, Nat.le_trans h.dp hn, Nat.le_trans h.wt hk⟩
theorem TBs.nil {n : Nat} : TBs n 0 [] := ⟨rfl, Nat.zero_le _, Nat.le_refl _⟩
theorem TBs.cons {n k j : Nat} {d : PyData} {ds : List PyData} (h : TB n k d) (a : TBs n j ds) : TBs n (k + j) (d :: ds) := by
  refine ⟨?_, ?_, ?_⟩
  · show (okD d && okAll ds) = true
    rw [h.ok, a.ok]
    rfl
  · show max d.depth (PyData.depthAll ds) ≤ n
    have := h.dp
    have := a.dp
    omega
  · show Thr.wt d + wtAll ds ≤ k + j
    have := h.wt
    have := a.wt
    omega
theorem TBs.len {n k : Nat} {ds : List PyData} (h : TBs n k ds) : ds.length ≤ k := Nat.le_trans (wtAll_len ds) h.wt
theorem TBs.tup {n k : Nat} {ds : List PyData} (h : TBs n k ds) : TB (n + 1) (k + 1) (.tuple ds) := ⟨h.ok, Nat.succ_le_succ h.dp, Nat.succ_le_succ h.wt⟩
theorem TBs.lst {n k : Nat} {ds : List PyData} (h : TBs n k ds) : TB (n + 1) (k + 1) (.list ds) := ⟨h.ok, Nat.succ_le_succ h.dp, Nat.succ_le_succ h.wt⟩
theorem TB.sm {n k : Nat} {d : PyData} (h : TB n k d) (hk : k ≤ 500) : Sm n d := okD_sm h.ok h.dp (Nat.le_trans h.wt hk)
theorem TBs.mem {n k : Nat} : ∀ {ds : List PyData}, TBs n k ds → ∀ d ∈ ds, TB n k d
  | [], _, d, hd => nomatch hd
  | e :: ds, h, d, hd => by
    have h1 : (okD e && okAll ds) = true := h.ok
    rw [Bool.and_eq_true] at h1
    have h2 : max e.depth (PyData.depthAll ds) ≤ n := h.dp
    have h3 : Thr.wt e + wtAll ds ≤ k := h.wt
    rcases List.mem_cons.mp hd with rfl | hd
    · exact ⟨h1.1, by omega, by omega⟩
    · exact TBs.mem (k := k) ⟨h1.2, by omega, by omega⟩ d hd
theorem TBs.app {n k j : Nat} : ∀ {ds es : List PyData}, TBs n k ds → TBs n j es → TBs n (k + j) (ds ++ es)
  | [], es, h, a => a.mono (Nat.le_refl _) (Nat.le_add_left _ _)
  | d :: ds, es, h, a => by
    have h1 : (okD d && okAll ds) = true := h.ok
    rw [Bool.and_eq_true] at h1
    have h2 : max d.depth (PyData.depthAll ds) ≤ n := h.dp
    have h3 : Thr.wt d + wtAll ds ≤ k := h.wt
    have r : TBs n (wtAll ds + j) (ds ++ es) := TBs.app (k := wtAll ds) ⟨h1.2, by omega, Nat.le_refl _⟩ a
    have d0 : TB n (Thr.wt d) d := ⟨h1.1, by omega, Nat.le_refl _⟩
    exact (TBs.cons d0 r).mono (Nat.le_refl _) (by omega)
/-! ### off the box -/
section
variable {K : PySem.W.Frag} {a : Addr} {H H' : Hp}
theorem del_but (b : But a H H') : Same (del H a) (del H' a) := fun c o e => by
  by_cases z : c = a
  · rw [z, del_same] at e
    cases e
  · rw [del_ne z] at e ⊢
    exact b c o z e
theorem del_sub : Same (del H a) H := fun c o e => by
  by_cases z : c = a
  · rw [z, del_same] at e
    cases e
  · rw [del_ne z] at e
    exact e
theorem del_new {p : Addr} {o : HO} (ha : H a ≠ none) (hp : H p = none) : del (upd H p o) a p = some o := by
  have n : p ≠ a := fun z => ha (by rw [← z]; exact hp)
  rw [del_ne n, upd_same]
theorem del_keep {b : List V} (ha : H a = some (.lst b)) : KeepT H (del H a) := fun c o t h => by
  rw [del_ne (fun z => by
    rw [z, ha] at h
    cases h
    exact lst_no t)]
  exact h
theorem del_nw {o : HO} (ha : H a = some o) : Same (Nw H H') (del H' a) := fun c x e => by
  obtain ⟨h1, h2⟩ := Nw.get e
  rw [del_ne (fun z => by rw [z, ha] at h1; cases h1)]
  exact h2
end
def Bx (a : Addr) (m : Nat) (H : Hp) : Prop := ∃ b, H a = some (.lst b) ∧ BoxL m b
theorem Bx.ne {a : Addr} {m : Nat} {H : Hp} (h : Bx a m H) : H a ≠ none := by
  obtain ⟨b, h, _⟩ := h
  rw [h]
  simp
theorem Bx.same {a : Addr} {m : Nat} {H H' : Hp} (h : Bx a m H) (s : Same H H') : Bx a m H' := by
  obtain ⟨b, h, hb⟩ := h
  exact ⟨b, s _ _ h, hb⟩
theorem Bx.mono {a : Addr} {m n : Nat} {H : Hp} (h : Bx a m H) (l : m ≤ n) : Bx a n H := by
  obtain ⟨b, h, hb⟩ := h
  exact ⟨b, h, hb.mono l⟩
/-! ### what is made of such data, draws between -/
def tEv (K : PySem.W.Frag) (a : Addr) (c n k : Nat) (pre : L2.St → Hp → Prop) : TE := fun σ H Q => ∃ m, Bx a m H ∧ m + c < 900000 ∧ pre σ H ∧ ∀ H' v d, But a H H' → Bx a (m + c) H' → Dp K (del H' a) v d → TB n k d → Q v H'
def tEvs (K : PySem.W.Frag) (a : Addr) (c n k L : Nat) (pre : L2.St → Hp → Prop) : TA := fun σ H Q => ∃ m, Bx a m H ∧ m + c < 900000 ∧ pre σ H ∧ ∀ H' vs ds, But a H H' → Bx a (m + c) H' → DpAll K (del H' a) vs ds → TBs n k ds → vs.length = L → Q vs H'
def tEvm (K : PySem.W.Frag) (a : Addr) (c n k L : Nat) (pre : L2.St → Hp → Prop) : TA := fun σ H Q => ∃ m, Bx a m H ∧ m + c < 900000 ∧ pre σ H ∧ ∀ H' vs ds, But a H H' → Bx a (m + c) H' → DpAll K (del H' a) vs ds → (∀ d ∈ ds, TB n k d) → vs.length = L → Q vs H'
def Stb (a : Addr) (pre : L2.St → Hp → Prop) : Prop := ∀ σ H H' m, But a H H' → Bx a m H → pre σ H → pre σ H'
section
variable {X : Cx} {a : Addr} {c c' n k k' L : Nat} {pre : L2.St → Hp → Prop} {e : Expr} {es : List Expr} {pos : Pos}
theorem ev_of {t : TE} (he : PE X e t) (h : ∀ σ H Q, tEv X.K a c n k pre σ H Q → t σ H Q) : PE X e (tEv X.K a c n k pre) := ⟨fun pins s σ H Q I q => he.run pins s σ H Q I (h σ H Q q)⟩
theorem ev_val {t : TE} {v : V} {d : PyData} (he : PE X e t) (hd : ∀ H, Dp X.K H v d) (hb : TB n k d) (h : ∀ σ H (Q : VK), Q v H → t σ H Q) : PE X e (tEv X.K a 0 n k pre) :=
  ev_of he fun σ H Q ⟨m, hB, hm, _, q⟩ => h σ H Q (q H v d (But.refl a H) hB (hd _) hb)
theorem ev_var {i : Nat} {x : Str} {p : Pos} (he : PE X (.Name x p) (tVar i)) (hp : ∀ σ H, pre σ H → ∃ v d, σ[i]? = some (some v) ∧ Dp X.K (del H a) v d ∧ TB n k d) : PE X (.Name x p) (tEv X.K a 0 n k pre) :=
  ev_of he fun σ H Q ⟨m, hB, hm, hpre, q⟩ => by
    obtain ⟨v, d, h1, h2, h3⟩ := hp σ H hpre
    exact ⟨v, h1, q H v d (But.refl a H) hB h2 h3⟩
theorem ev_nil : PA X [] (tEvs X.K a 0 n 0 0 pre) := ⟨fun pos pins s σ H Q I ⟨m, hB, hm, _, q⟩ => pa_nil.run pos pins s σ H Q I (q H [] [] (But.refl a H) hB .nil .nil rfl)⟩
theorem ev_cons (hst : Stb a pre) (he : PE X e (tEv X.K a c n k pre)) (ha : PA X es (tEvs X.K a c' n k' L pre)) (hs : starEach (e :: es) X.env = (false, eval e X.env) :: starEach es X.env := by rfl) : PA X (e :: es) (tEvs X.K a (c + c') n (k + k') (L + 1) pre) := by
  refine ⟨fun pos pins s σ H Q I ⟨m, hB, hm, hpre, q⟩ => (pa_cons he ha hs).run pos pins s σ H Q I ?_⟩
  refine ⟨m, hB, by omega, hpre, fun H1 v d b1 hB1 hd ht => ⟨m + c, hB1, by omega, hst σ H H1 m b1 hB hpre, fun H2 vs ds b2 hB2 hds hts hL => ?_⟩⟩
  refine q H2 (v :: vs) (d :: ds) (b1.trans b2) (by rw [← Nat.add_assoc]; exact hB2) (.cons (dp_same (del_but b2) hd) hds) (.cons ht hts) (by rw [List.length_cons, hL])
theorem ev_tup {x1} (h : PA X es (tEvs X.K a c n k L pre)) (hk : k ≤ 1000) : PE X (.Tuple es x1 pos) (tEv X.K a c (n + 1) (k + 1) pre) := by
  refine ev_of (pe_tup h) fun σ H Q ⟨m, hB, hm, hpre, q⟩ => ⟨m, hB, hm, hpre, fun H1 vs ds b1 hB1 hds hts _ => ⟨?_, fun p np => ?_⟩⟩
  · rw [dpAll_len hds]
    exact Nat.le_trans hts.len (Nat.le_trans hk (by decide))
  · have s1 := same_upd (o := .tup vs) np
    exact q _ (.ref p) (.tuple ds) (b1.trans (But.of s1)) (hB1.same s1) (.tup (SqT.of (del_new hB1.ne np)) (dpAll_same (del_but (But.of s1)) hds)) hts.tup
theorem ev_lst (h : PA X es (tEvs X.K a c n k L pre)) (hk : k ≤ 1000) : PE X (.List es pos) (tEv X.K a c (n + 1) (k + 1) pre) := by
  refine ev_of (pe_lst h) fun σ H Q ⟨m, hB, hm, hpre, q⟩ => ⟨m, hB, hm, hpre, fun H1 vs ds b1 hB1 hds hts _ => ⟨?_, fun p np => ?_⟩⟩
  · rw [dpAll_len hds]
    exact Nat.le_trans hts.len (Nat.le_trans hk (by decide))
  · have s1 := same_upd (o := .lst vs) np
    exact q _ (.ref p) (.list ds) (b1.trans (But.of s1)) (hB1.same s1) (.lst (SqL.of (del_new hB1.ne np)) (dpAll_same (del_but (But.of s1)) hds)) hts.lst
theorem ev_up {c2 n2 k2 : Nat} (he : PE X e (tEv X.K a c n k pre)) (hc : c ≤ c2) (hn : n ≤ n2) (hk : k ≤ k2) : PE X e (tEv X.K a c2 n2 k2 pre) :=
  ev_of he fun σ H Q ⟨m, hB, hm, hpre, q⟩ => ⟨m, hB, by omega, hpre, fun H1 v d b1 hB1 hd ht => q H1 v d b1 (hB1.mono (by omega)) hd (ht.mono hn hk)⟩
theorem evm_nil : PA X [] (tEvm X.K a 0 n k 0 pre) := ⟨fun pos pins s σ H Q I ⟨m, hB, hm, _, q⟩ => pa_nil.run pos pins s σ H Q I (q H [] [] (But.refl a H) hB .nil (fun _ h => nomatch h) rfl)⟩
theorem evm_cons (hst : Stb a pre) (he : PE X e (tEv X.K a c n k pre)) (ha : PA X es (tEvm X.K a c' n k L pre)) (hs : starEach (e :: es) X.env = (false, eval e X.env) :: starEach es X.env := by rfl) : PA X (e :: es) (tEvm X.K a (c + c') n k (L + 1) pre) := by
  refine ⟨fun pos pins s σ H Q I ⟨m, hB, hm, hpre, q⟩ => (pa_cons he ha hs).run pos pins s σ H Q I ?_⟩
  refine ⟨m, hB, by omega, hpre, fun H1 v d b1 hB1 hd ht => ⟨m + c, hB1, by omega, hst σ H H1 m b1 hB hpre, fun H2 vs ds b2 hB2 hds hts hL => ?_⟩⟩
  refine q H2 (v :: vs) (d :: ds) (b1.trans b2) (by rw [← Nat.add_assoc]; exact hB2) (.cons (dp_same (del_but b2) hd) hds) (fun x hx => ?_) (by rw [List.length_cons, hL])
  rcases List.mem_cons.mp hx with rfl | hx
  · exact ht
  · exact hts x hx
end
/-! ### how long the texts of names, numbers, rows are -/
theorem nm_text {z : Str} (h : Nm z) : (reprText z).length ≤ 62 := by
  obtain ⟨w, rfl, hw⟩ := h
  have := StrLaws.reprText_len (SX.S w) (fun c hc => Nat.lt_trans (let_small (hw.1.2.2 c hc)) (by decide))
  have hl := SX.S_len w
  have := hw.1.2.1
  omega
theorem tb_str {n : Nat} {z : Str} (h : Nm z) : TB n 1 (.str z) := ⟨decide_eq_true (nm_text h), Nat.zero_le _, Nat.le_refl _⟩
theorem tb_int {n : Nat} {i : Int} (h0 : 0 ≤ i) (h1 : i < 1000000) : TB n 1 (.int i) := ⟨decide_eq_true (by
  have : (1000000 : Nat) < 10 ^ 21 := by decide
  omega), Nat.zero_le _, Nat.le_refl _⟩
theorem tb_nm {n : Nat} {w : List Nat} (h : NmOk w) : TB n 1 (strD w) := tb_str ⟨w, rfl, h⟩
theorem tbs_nms {n : Nat} : ∀ {ws : List (List Nat)}, (∀ w ∈ ws, NmOk w) → TBs n ws.length (ws.map strD)
  | [], _ => TBs.nil
  | w :: ws, h => (TBs.cons (tb_nm (h w (List.mem_cons_self ..))) (tbs_nms fun v hv => h v (List.mem_cons_of_mem _ hv))).mono (Nat.le_refl _) (by rw [List.length_cons]; omega)
theorem tbs_all {n k : Nat} : ∀ {ds : List PyData}, (∀ d ∈ ds, TB n k d) → TBs n (ds.length * k) ds
  | [], _ => by
    rw [List.length_nil, Nat.zero_mul]
    exact TBs.nil
  | d :: ds, h => by
    have h1 := TBs.cons (h d (List.mem_cons_self ..)) (tbs_all fun v hv => h v (List.mem_cons_of_mem _ hv))
    rw [List.length_cons, Nat.succ_mul, Nat.add_comm]
    exact h1
theorem srow_tb {r : SRow} (h : SOk r) : TB 2 8 r.d := by
  have a1 := tbs_nms (n := 0) (ws := r.dn) fun w hw => h.all w (List.mem_append_left _ hw)
  have a2 := tbs_nms (n := 0) (ws := r.up) fun w hw => h.all w (List.mem_append_right _ hw)
  have d2 := h.d2
  have u2 := h.u2
  exact (TBs.tup (TBs.cons (tb_nm h.nm) (TBs.cons a1.tup (TBs.cons a2.tup TBs.nil)))).mono (by omega) (by omega)
theorem mrow_tb {rs : List SRow} {m : MRow} (so : SortsOk rs) (h : MOk rs m) : TB 2 6 m.d := by
  have nk : ∀ k ∈ m.places, NmOk k := fun k hk => by
    obtain ⟨r, hr, e⟩ := h.so k hk
    rw [← e]
    exact (so.ok r hr).nm
  have a1 := tbs_nms (n := 0) (ws := m.pt) fun w hw => nk w (List.mem_cons_of_mem _ hw)
  have p2 := h.p2
  exact (TBs.tup (TBs.cons (tb_nm h.nm) (TBs.cons (tb_nm (nk m.so (List.mem_cons_self ..))) (TBs.cons a1.tup TBs.nil)))).mono (by omega) (by omega)
theorem at_tb {rs : List SRow} {m : MRow} {p : Nat} {w : List Nat} {b : Bool} (so : SortsOk rs) (hm : MOk rs m) (h : AtOf rs m p w b) : TB 1 4 (En.d (.sp p w)) := by
  obtain ⟨k, r, h1, h2, h3, h4⟩ := h
  have hp : p < m.places.length := (List.getElem?_eq_some_iff.mp h1).1
  have hp : p < m.pt.length + 1 := hp
  have p2 := hm.p2
  have hw : NmOk w := (so.ok r h2).all w (by
    cases b with
    | true => exact List.mem_append_right _ h4
    | false => exact List.mem_append_left _ h4)
  exact (TBs.tup (TBs.cons (n := 0) (k := 1) (d := .str "at") ⟨by decide +kernel, Nat.zero_le _, Nat.le_refl _⟩ (TBs.cons (tb_int (i := (p : Nat)) (by omega) (by omega)) (TBs.cons (tb_nm hw) TBs.nil)))).mono (by omega) (by omega)
theorem kept_tb {w : List Nat} (h : NmOk w) : TB 1 4 (En.d (.kept w)) :=
  (TBs.tup (TBs.cons (n := 0) (k := 1) (d := .str "kept") ⟨by decide +kernel, Nat.zero_le _, Nat.le_refl _⟩ (TBs.cons (tb_nm h) TBs.nil))).mono (by omega) (by omega)
theorem tg_tb {rs : List SRow} {m : MRow} {e : En} (so : SortsOk rs) (hm : MOk rs m) (h : TgOk rs m e) : TB 1 4 e.d := by
  cases e with
  | sp p w => exact at_tb so hm h
  | kept w => exact kept_tb h.1
theorem od_tb {rs : List SRow} {m : MRow} {o : Od} (so : SortsOk rs) (hm : MOk rs m) (h : OdOk rs m o) : TB 1 4 o.d := by
  cases o with
  | en e =>
    cases e with
    | sp p w => exact at_tb so hm h
    | kept w => exact kept_tb h.1
  | own => exact ⟨by decide +kernel, by decide, by decide⟩
  | num n =>
    have h : n < 1000000 := h
    exact (TBs.tup (TBs.cons (n := 0) (k := 1) (d := .str "number") ⟨by decide +kernel, Nat.zero_le _, Nat.le_refl _⟩ (TBs.cons (tb_int (i := (n : Nat)) (by omega) (by omega)) TBs.nil))).mono (by omega) (by omega)
theorem rrow_tb {rs : List SRow} {ms : List MRow} {roof : Nat} {r : RRow} (so : SortsOk rs) (hm : ∀ m ∈ ms, MOk rs m) (h : RuleOk rs ms roof r) : TB 3 20 r.d := by
  obtain ⟨mr, hmr, e, ht, ho⟩ := h.ex
  obtain ⟨o, eo, ea, _⟩ := op_of h.op
  have n3 := op_n3 o
  have lo : r.os.length ≤ 3 := by rw [h.ar, ea]; exact n3
  have a1 : TBs 1 ((r.os.map Od.d).length * 4) (r.os.map Od.d) := tbs_all fun d hd => by
    obtain ⟨x, hx, rfl⟩ := List.mem_map.mp hd
    exact od_tb so (hm mr hmr) (ho x hx)
  rw [List.length_map] at a1
  have top : TB 2 1 (strD r.op) := by
    refine ⟨?_, Nat.zero_le _, Nat.le_refl _⟩
    show decide ((reprText (SX.S r.op)).length ≤ 62) = true
    rw [eo]
    cases o <;> decide +kernel
  have tma : TB 2 1 (strD r.ma) := by
    rw [e]
    exact tb_nm (hm mr hmr).nm
  exact (TBs.tup (TBs.cons tma (TBs.cons ((tg_tb so (hm mr hmr) ht).mono (by omega) (Nat.le_refl _)) (TBs.cons top (TBs.cons a1.tup TBs.nil))))).mono (by omega) (by omega)
/-- all rows of a grammar -/
def gramD (rs : List SRow) (ms : List MRow) (ru : List RRow) : PyData := .list [.list (rs.map SRow.d), .list (ms.map MRow.d), .list (ru.map RRow.d)]
theorem gram_tb {rs : List SRow} {ms : List MRow} {ru : List RRow} {roof : Nat} (g : GFit rs ms ru roof) : TB 5 4900 (gramD rs ms ru) := by
  have a1 : TBs 3 _ (rs.map SRow.d) := tbs_all (k := 8) fun d hd => by
    obtain ⟨x, hx, rfl⟩ := List.mem_map.mp hd
    exact (srow_tb (g.so.ok x hx)).mono (by omega) (Nat.le_refl _)
  have a2 : TBs 3 _ (ms.map MRow.d) := tbs_all (k := 6) fun d hd => by
    obtain ⟨x, hx, rfl⟩ := List.mem_map.mp hd
    exact (mrow_tb g.so (g.ok x hx)).mono (by omega) (Nat.le_refl _)
  have a3 : TBs 3 _ (ru.map RRow.d) := tbs_all (k := 20) fun d hd => by
    obtain ⟨x, hx, rfl⟩ := List.mem_map.mp hd
    exact rrow_tb g.so g.ok (g.ra x hx)
  rw [List.length_map] at a1 a2 a3
  have l1 := g.so.le
  have l2 := g.m8
  have l3 := g.rl
  exact (TBs.lst (TBs.cons a1.lst (TBs.cons a2.lst (TBs.cons a3.lst TBs.nil)))).mono (by omega) (by omega)
theorem tb_show {n k : Nat} {d : PyData} (h : TB n k d) (hn : n ≤ 100) (hk : k ≤ 200000) : d.showable = true ∧ d.hasDict = false ∧ d.depth ≤ 100 ∧ d.shown.length ≤ sizeLine := by
  obtain ⟨w1, w2, w3⟩ := okD_shown h.ok
  refine ⟨w1, w2, Nat.le_trans h.dp hn, ?_⟩
  have := h.wt
  exact Nat.le_trans (show _ ≤ 68 * 200000 from by omega) (by decide)
/-! ### rows can be compared -/
theorem lay_cons {d : PyData} {ds : List PyData} (h : d.canLay0 = true) (a : PyData.canLayAll0 ds = true) : PyData.canLayAll0 (d :: ds) = true := by
  show (PyData.canLay0 d && PyData.canLayAll0 ds) = true
  rw [h, a]
  rfl
theorem lay_each : ∀ {ds : List PyData}, (∀ d ∈ ds, PyData.canLay0 d = true) → PyData.canLayAll0 ds = true
  | [], _ => rfl
  | d :: ds, h => lay_cons (h d List.mem_cons_self) (lay_each fun x hx => h x (List.mem_cons_of_mem _ hx))
theorem depth_each {n : Nat} : ∀ {ds : List PyData}, (∀ d ∈ ds, PyData.depth d ≤ n) → PyData.depthAll ds ≤ n
  | [], _ => Nat.zero_le _
  | d :: ds, h => by
    show max (PyData.depth d) (PyData.depthAll ds) ≤ n
    have h1 := h d List.mem_cons_self
    have h2 := depth_each (ds := ds) fun x hx => h x (List.mem_cons_of_mem _ hx)
    omega
theorem nm_lay {w : List Nat} (h : NmOk w) : PyData.canLay0 (strD w) = true := str_ok (nm_small h)
theorem nms_lay {ws : List (List Nat)} (h : ∀ w ∈ ws, NmOk w) : PyData.canLay0 (.tuple (ws.map strD)) = true := lay_each fun d hd => by
  obtain ⟨w, hw, rfl⟩ := List.mem_map.mp hd
  exact nm_lay (h w hw)
theorem srow_lay {r : SRow} (h : SOk r) : PyData.canLay0 r.d = true := lay_cons (nm_lay h.nm) (lay_cons (nms_lay fun w hw => h.all w (List.mem_append_left _ hw)) (lay_cons (nms_lay fun w hw => h.all w (List.mem_append_right _ hw)) rfl))
theorem mrow_lay {rs : List SRow} {m : MRow} (so : SortsOk rs) (h : MOk rs m) : PyData.canLay0 m.d = true := by
  have nk : ∀ k ∈ m.places, NmOk k := fun k hk => by
    obtain ⟨r', hr', e'⟩ := h.so k hk
    rw [← e']
    exact (so.ok r' hr').nm
  exact lay_cons (nm_lay h.nm) (lay_cons (nm_lay (nk m.so (List.mem_cons_self ..))) (lay_cons (nms_lay fun w hw => nk w (List.mem_cons_of_mem _ hw)) rfl))
theorem at_lay {rs : List SRow} {m : MRow} {p : Nat} {w : List Nat} {b : Bool} (so : SortsOk rs) (h : AtOf rs m p w b) : PyData.canLay0 (En.d (.sp p w)) = true := by
  refine (en_lay (e := .sp p w) ?_).1
  obtain ⟨k, r, h1, h2, h3, h4⟩ := h
  refine nm_small ((so.ok r h2).all w ?_)
  cases b with
  | true => exact List.mem_append_right _ h4
  | false => exact List.mem_append_left _ h4
theorem tg_lay {rs : List SRow} {m : MRow} {e : En} (so : SortsOk rs) (h : TgOk rs m e) : PyData.canLay0 e.d = true := by
  cases e with
  | sp p w => exact at_lay so h
  | kept w => exact (en_lay (e := .kept w) (nm_small h.1)).1
theorem od_lay {rs : List SRow} {m : MRow} {o : Od} (so : SortsOk rs) (h : OdOk rs m o) : PyData.canLay0 o.d = true := by
  cases o with
  | en e =>
    cases e with
    | sp p w => exact at_lay so h
    | kept w => exact (en_lay (e := .kept w) (nm_small h.1)).1
  | own => decide +kernel
  | num n =>
    refine lay_cons ?_ (lay_cons rfl rfl)
    decide +kernel
theorem rrow_lay {rs : List SRow} {ms : List MRow} {roof : Nat} {r : RRow} (so : SortsOk rs) (hm : ∀ m ∈ ms, MOk rs m) (h : RuleOk rs ms roof r) : PyData.canLay0 r.d = true := by
  obtain ⟨mr, hmr, e, ht, ho⟩ := h.ex
  obtain ⟨o, eo, ea, _⟩ := op_of h.op
  have top : PyData.canLay0 (strD r.op) = true := by
    show PyData.strOk (SX.S r.op) = true
    rw [eo]
    cases o <;> decide +kernel
  have tma : PyData.canLay0 (strD r.ma) = true := by
    rw [e]
    exact nm_lay (hm mr hmr).nm
  exact lay_cons tma (lay_cons (tg_lay so ht) (lay_cons top (lay_cons (lay_each fun d hd => by
    obtain ⟨x, hx, rfl⟩ := List.mem_map.mp hd
    exact od_lay so (ho x hx)) rfl)))
theorem srtR_mem {ds : List PyData} {d : PyData} (h : d ∈ srtR ds) : d ∈ ds := by
  unfold srtR at h
  by_cases hx : ∃ es, rowsIn ds es
  · rw [dif_pos hx] at h
    exact hx.choose_spec.1.mem_iff.mp h
  · rw [dif_neg hx] at h
    cases h
theorem risen_shape {rs : List SRow} {ms : List MRow} {ru : List RRow} {roof : Nat} (g : GFit rs ms ru roof) : SeqAt.shaped (.tuple [.int (roof : Nat), .list (srtR (rs.map SRow.d)), .list (srtR (ms.map MRow.d)), .list (srtR (ru.map RRow.d))]) = true := by
  have hs : ∀ d ∈ srtR (rs.map SRow.d), PyData.canLay0 d = true ∧ PyData.depth d ≤ 20 := fun d hd => by
    obtain ⟨r, hr, rfl⟩ := List.mem_map.mp (srtR_mem hd)
    exact ⟨srow_lay (g.so.ok r hr), Nat.le_trans (srow_tb (g.so.ok r hr)).dp (by decide)⟩
  have hm : ∀ d ∈ srtR (ms.map MRow.d), PyData.canLay0 d = true ∧ PyData.depth d ≤ 20 := fun d hd => by
    obtain ⟨r, hr, rfl⟩ := List.mem_map.mp (srtR_mem hd)
    exact ⟨mrow_lay g.so (g.ok r hr), Nat.le_trans (mrow_tb g.so (g.ok r hr)).dp (by decide)⟩
  have hr : ∀ d ∈ srtR (ru.map RRow.d), PyData.canLay0 d = true ∧ PyData.depth d ≤ 20 := fun d hd => by
    obtain ⟨r, hr, rfl⟩ := List.mem_map.mp (srtR_mem hd)
    exact ⟨rrow_lay g.so g.ok (g.ra r hr), Nat.le_trans (rrow_tb g.so g.ok (g.ra r hr)).dp (by decide)⟩
  have l1 : PyData.canLay0 (.list (srtR (rs.map SRow.d))) = true := lay_each fun d hd => (hs d hd).1
  have l2 : PyData.canLay0 (.list (srtR (ms.map MRow.d))) = true := lay_each fun d hd => (hm d hd).1
  have l3 : PyData.canLay0 (.list (srtR (ru.map RRow.d))) = true := lay_each fun d hd => (hr d hd).1
  have d1 := depth_each fun d hd => (hs d hd).2
  have d2 := depth_each fun d hd => (hm d hd).2
  have d3 := depth_each fun d hd => (hr d hd).2
  unfold SeqAt.shaped
  rw [show PyData.canLay0 (.tuple [.int (roof : Nat), .list (srtR (rs.map SRow.d)), .list (srtR (ms.map MRow.d)), .list (srtR (ru.map RRow.d))]) = true from lay_cons rfl (lay_cons l1 (lay_cons l2 (lay_cons l3 rfl))), decide_eq_true (show PyData.depth (.tuple [.int (roof : Nat), .list (srtR (rs.map SRow.d)), .list (srtR (ms.map MRow.d)), .list (srtR (ru.map RRow.d))]) ≤ 64 from by
    show max 0 (max (PyData.depthAll (srtR (rs.map SRow.d)) + 1) (max (PyData.depthAll (srtR (ms.map MRow.d)) + 1) (max (PyData.depthAll (srtR (ru.map RRow.d)) + 1) 0))) + 1 ≤ 64
    omega)]
  rfl
/-! ### what the law knows of a grammar -/
abbrev s__law_known : Stmt := top 65
abbrev N__law_known : List Str := ["_law_g", "_law_rules", "_law_row"]
abbrev P__law_known : List Str := ["_law_g"]
theorem sc__law_known : FnScope N__law_known P__law_known (defScope s__law_known) := ⟨rfl, rfl, rfl, by decide +kernel, rfl, by decide +kernel, by decide +kernel⟩
structure Kn8 (mg : Str → Option Value) : Prop where
  sorted : mg "sorted" = none
  str : mg "str" = none
/-- what is known of a grammar -/
noncomputable def knD (rs : List SRow) (ms : List MRow) (ru : List RRow) (roof : Nat) : PyData := .tuple [.int (roof : Nat), .list (srtR (rs.map SRow.d)), .list (srtR (ms.map MRow.d)), .list (srtR (ru.map krD))]
def spKnown (K : PySem.W.Frag) : Sp := fun vs H Q _ => ∃ (gd : Addr) (rs : List SRow) (ms : List MRow) (ru : List RRow) (roof : Nat), vs = [.ref gd] ∧ GD K H gd rs ms ru roof ∧ GFit rs ms ru roof ∧
  ∀ (H' : Hp) (x : Addr), Same H H' → H x = none → (srtR (rs.map SRow.d)).Perm (rs.map SRow.d) → (srtR (ms.map MRow.d)).Perm (ms.map MRow.d) → (srtR (ru.map krD)).Perm (ru.map krD) → Dp K H' (.ref x) (knD rs ms ru roof) → Q (.ref x) H'
theorem rr_at8 {K : PySem.W.Frag} {H : Hp} {v : V} {r : RRow} (h : Dp K H v r.d) : ∃ q v2 v4, v = .ref q ∧ SqT K H q [.str (SX.S r.ma), v2, .str (SX.S r.op), v4] ∧ Dp K H v2 r.tg.d ∧ Dp K H v4 (.tuple (r.os.map Od.d)) := by
  cases h with
  | tup hS hA =>
    cases hA with
    | cons a1 hA =>
      cases hA with
      | cons a2 hA =>
        cases hA with
        | cons a3 hA =>
          cases hA with
          | cons a4 hA =>
            cases hA
            cases a1
            cases a3
            exact ⟨_, _, _, rfl, hS, a2, a4⟩
section
variable {P : Program} {w : World} {K : PySem.W.Frag} {mg : Str → Option Value} {base : Heap}
theorem fng_known {f : Addr} {fd : FuncData} {qual : Str} (T : Kn8 mg) (F : L2.Fun K "_law_known" qual s__law_known f fd) : FnG P w K mg base 2 f fd P__law_known (spKnown K) := by
  refine fng_of F sc__law_known (fun xs G R Z h => ?_) (fun cv B up t H vs Q E hg hr h => ?_)
  · obtain ⟨gd, rs, ms, ru, roof, rfl, _⟩ := h
    rfl
  · obtain ⟨gd, rs, ms, ru, roof, rfl, ga, gf, q⟩ := h
    refine ⟨_, (pss_cons (ps_setLc (i := 1) (own := [("_law_row", 2)]) (by exact rfl) sc__law_known.nd rfl rfl (sw_true rfl rfl rfl (by decide +kernel)) (pi_list (pe_dget (hu_of hr) (pv 0) pe_str (fun _ _ => rfl))) (blkOk_by (own := [("_law_row", 2)]) (N := N__law_known) (sc := defScope s__law_known) (by decide +kernel)) (fun _ _ _ _ _ => (pg_name (i := 2) sc__law_known.nd rfl (Or.inl rfl))) (fun _ _ _ _ _ => pts_nil) (fun _ _ _ _ _ => (pe_tup (pa_cons (pe_ix (r := rIxT K) ix_tup (pv 2) pe_int (fun _ _ => rfl)) (pa_cons (pe_callTy (r := rStrD K) (call_strD hg hr) (by rfl) T.str (by decide +kernel) (pa_cons (pe_ix (r := rIxT K) ix_tup (pv 2) pe_int (fun _ _ => rfl)) pa_nil)) (pa_cons (pe_ix (r := rIxT K) ix_tup (pv 2) pe_int (fun _ _ => rfl)) (pa_cons (pe_callTy (r := rStrD K) (call_strD hg hr) (by rfl) T.str (by decide +kernel) (pa_cons (pe_ix (r := rIxT K) ix_tup (pv 2) pe_int (fun _ _ => rfl)) pa_nil)) pa_nil)))))))
        (pss_one (ps_ret (pe_tup (pa_cons (pe_dget (hu_of hr) (pv 0) pe_str (fun _ _ => rfl)) (pa_cons (pe_callB (r := rSortX K) (cr_sortX (hu65 hr)) (by rfl) T.sorted (by decide +kernel) (pa_cons (pe_dget (hu_of hr) (pv 0) pe_str (fun _ _ => rfl)) pa_nil)) (pa_cons (pe_callB (r := rSortX K) (cr_sortX (hu65 hr)) (by rfl) T.sorted (by decide +kernel) (pa_cons (pe_dget (hu_of hr) (pv 0) pe_str (fun _ _ => rfl)) pa_nil)) (pa_cons (pe_callB (r := rSortX K) (cr_sortX (hu65 hr)) (by rfl) T.sorted (by decide +kernel) (pa_cons (pv 1) pa_nil)) pa_nil)))))))), ?_⟩
    obtain ⟨ls, lm, lr, kvs, sv, mv, rv, h1, c1, c2, c3, c4, a1, a2, a3, a4, a5, a6⟩ := ga.ex
    have dgU : ∀ {U : Hp} (_ : Same H U) {k : Str} {v : V}, valV kvs (Sum.inr k) = some v → DGet U gd (.str k) (some v) := fun {U} s {k v} h => by
      have g := DGet.k (k := Sum.inr k) (s _ _ h1)
      rw [h] at g
      exact g
    refine ⟨_, rfl, gd, .ref lr, rfl, dgU (fun _ _ h => h) c4, ?_⟩
    have lru := dpAll_len a6
    rw [List.length_map] at lru
    have pr : ∀ r ∈ ru, (∃ ds, r.tg.d = .tuple ds ∧ (PyData.tuple ds).showable = true ∧ (PyData.tuple ds).hasDict = false ∧ (PyData.tuple ds).depth ≤ 50 ∧ (PyData.tuple ds).shown.length ≤ sizeLine) ∧
        (PyData.tuple (r.os.map Od.d)).showable = true ∧ (PyData.tuple (r.os.map Od.d)).hasDict = false ∧ (PyData.tuple (r.os.map Od.d)).depth ≤ 50 ∧ (PyData.tuple (r.os.map Od.d)).shown.length ≤ sizeLine := fun r hr => by
      have rk := gf.ra r hr
      obtain ⟨mr, hmr, e, ht, ho⟩ := rk.ex
      have hm := gf.ok mr hmr
      obtain ⟨o, eo, ea, _⟩ := op_of rk.op
      have n3 := op_n3 o
      have lo : r.os.length ≤ 3 := by rw [rk.ar, ea]; exact n3
      have a1 : TBs 1 ((r.os.map Od.d).length * 4) (r.os.map Od.d) := tbs_all fun d hd => by
        obtain ⟨x, hx, rfl⟩ := List.mem_map.mp hd
        exact od_tb gf.so hm (ho x hx)
      rw [List.length_map] at a1
      have b1 := (tg_tb gf.so hm ht).mono (m := 50) (j := 200) (by decide) (by decide)
      have b2 := a1.tup.mono (m := 50) (j := 200) (by decide) (by omega)
      have t1 := tb_show b1 (by decide) (by decide)
      have t2 := tb_show b2 (by decide) (by decide)
      have et : ∃ ds, r.tg.d = .tuple ds := by
        cases r.tg with
        | sp p w => exact ⟨_, rfl⟩
        | kept w => exact ⟨_, rfl⟩
      obtain ⟨ds, et⟩ := et
      have bd := b1.dp
      rw [et] at t1 bd
      exact ⟨⟨ds, et, t1.1, t1.2.1, bd, t1.2.2.2⟩, t2.1, t2.2.1, b2.dp, t2.2.2.2⟩
    have lr2 : ru.length ≤ 240 := gf.rl
    refine ⟨_, rfl, ⟨_, SqL.of a5⟩, fun D nD => ?_⟩
    refine lc_list (K := K) (a := lr) (xs := rv) (fun j U => Same H U ∧ ∃ vs, U D = some (.lst vs) ∧ vs.length = j ∧ DpAll K U vs ((ru.take j).map krD)) ⟨same_upd nD, [], upd_same, rfl, .nil⟩ (fun j U _ h => SqL.of (h.1 _ _ a5)) ?_ ?_
    · rintro j x U hx ⟨sU, vs, hD, lvs, hp⟩
      obtain ⟨dd, hdd, hxd⟩ := dpAll_at a6 hx
      rw [List.getElem?_map] at hdd
      obtain ⟨r, ht, rfl⟩ : ∃ r, ru[j]? = some r ∧ dd = r.d := by
        cases h : ru[j]? with
        | none => rw [h] at hdd; cases hdd
        | some e => rw [h] at hdd; exact ⟨e, rfl, (Option.some.inj hdd).symm⟩
      have hj : j < ru.length := (List.getElem?_eq_some_iff.mp ht).1
      have tk : ru.take (j + 1) = ru.take j ++ [r] := by rw [List.take_add_one, ht]; rfl
      obtain ⟨⟨ds, e1, b1, b2, b3, b4⟩, d1, d2, d3, d4⟩ := pr r (List.mem_of_getElem? ht)
      obtain ⟨q1, u2, u4, rfl, hq, g2, g4⟩ : ∃ q u2 u4, x = .ref q ∧ SqT K U q [.str (SX.S r.ma), u2, .str (SX.S r.op), u4] ∧ Dp K U u2 r.tg.d ∧ Dp K U u4 (.tuple (r.os.map Od.d)) := rr_at8 (dp_same sU hxd)
      refine ⟨rfl, yesT ?_⟩
      refine ⟨_, rfl, q1, _, 0, .str (SX.S r.ma), rfl, rfl, hq, atI_nat (j := 0) rfl, ?_⟩
      refine ⟨_, rfl, q1, _, 1, u2, rfl, rfl, hq, atI_nat (j := 1) rfl, u2, ds, rfl, e1 ▸ g2, b1, b2, b3, b4, ?_⟩
      refine ⟨_, rfl, q1, _, 2, .str (SX.S r.op), rfl, rfl, hq, atI_nat (j := 2) rfl, ?_⟩
      refine ⟨_, rfl, q1, _, 3, u4, rfl, rfl, hq, atI_nat (j := 3) rfl, u4, _, rfl, g4, d1, d2, d3, d4, ?_⟩
      refine ⟨by show 4 ≤ sizeLine; decide, fun p3 n3 => ?_⟩
      have s3 := same_upd (o := .tup [.str (SX.S r.ma), .str (PyData.tuple ds).shown, .str (SX.S r.op), .str (PyData.tuple (r.os.map Od.d)).shown]) n3
      have hD3 := s3 _ _ hD
      refine ⟨_, hD3, small1000 (by omega), Same.at_ (sU.trans s3) nD, _, upd_same, by rw [List.length_append, lvs]; rfl, ?_⟩
      rw [tk, List.map_append]
      have kk : KeepT U _ := (KeepT.of s3).trans (KeepT.at_ (o := .lst (vs ++ [.ref p3])) hD3 lst_no)
      have hkr : krD r = .tuple [strD r.ma, .str (PyData.tuple ds).shown, strD r.op, .str (PyData.tuple (r.os.map Od.d)).shown] := by
        show PyData.tuple [_, .str (PyData.shown r.tg.d), _, _] = _
        rw [e1]
      refine dpAll_snoc (dpAll_imm kk hp (immAll_map (fun r => rfl) _)) ?_
      rw [hkr]
      exact dp_imm (KeepT.at_ (o := .lst (vs ++ [.ref p3])) hD3 lst_no) (.tup (SqT.of upd_same) (.cons (.str _) (.cons (.str _) (.cons (.str _) (.cons (.str _) .nil))))) rfl
    · rintro U ⟨sU, vs, hD, lvs, hp⟩
      rw [lru, List.take_length] at hp
      refine ⟨_, rfl, gd, .int roof, rfl, dgU sU c1, ?_⟩
      refine ⟨_, rfl, gd, .ref ls, rfl, dgU sU c2, ls, sv, _, rfl, SqL.of (sU _ _ a1), dpAll_same sU a2, rowsx_sorts gf.so, fun ys1 p1 pm1 hy1 n1 => ?_⟩
      have sA := same_upd (o := .lst ys1) n1
      have sUA := sU.trans sA
      refine ⟨_, rfl, gd, .ref lm, rfl, dgU sUA c3, lm, mv, _, rfl, SqL.of (sUA _ _ a3), dpAll_same sUA a4, rowsx_maks gf.nd, fun ys2 p2 pm2 hy2 n2 => ?_⟩
      have sB := same_upd (o := .lst ys2) n2
      have sUB := sUA.trans sB
      refine ⟨_, rfl, D, vs, _, rfl, SqL.of (sB _ _ (sA _ _ hD)), dpAll_same (sA.trans sB) hp, rowsx_kr gf, fun ys3 p3 pm3 hy3 n3 => ?_⟩
      have sC := same_upd (o := .lst ys3) n3
      have sUC := sUB.trans sC
      refine ⟨by show 4 ≤ sizeLine; decide, fun rt nrt => ?_⟩
      have sD := same_upd (o := .tup [.int roof, .ref p1, .ref p2, .ref p3]) nrt
      have sCD := sC.trans sD
      have n0 : H rt = none := by
        cases e : H rt with
        | none => rfl
        | some o => rw [sUC _ _ e] at nrt; cases nrt
      exact q _ rt (sUC.trans sD) n0 pm1 pm2 pm3 (.tup (SqT.of upd_same) (.cons (.int _) (.cons (.lst (SqL.of (sD _ _ (sC _ _ (sB _ _ upd_same)))) (dpAll_same ((sA.trans sB).trans sCD) hy1)) (.cons (.lst (SqL.of (sD _ _ (sC _ _ upd_same))) (dpAll_same (sB.trans sCD) hy2)) (.cons (.lst (SqL.of (sD _ _ upd_same)) (dpAll_same sCD hy3)) .nil)))))
end
/-! ### == and != by an own __eq__, told exactly -/
def spEqX (R : Addr → Addr → Hp → Bool → Prop) : Sp := fun vs H Q _ => ∃ (a b : Addr) (c : Bool), vs = [.ref a, .ref b] ∧ R a b H c ∧ ∀ H', Same H H' → Q (.bl c) H'
def rEqX (C : Addr) (R : Addr → Addr → Hp → Bool → Prop) (neg : Bool) : R2 := fun x y H Q => ∃ (a b dx dy : Addr) (fs gs : List (Str × V)) (c : Bool), x = .ref a ∧ y = .ref b ∧ H a = some (.ins C dx fs) ∧ H b = some (.ins C dy gs) ∧ R a b H c ∧ ∀ H', Same H H' → Q (.bl (if neg then !c else c)) H'
section
variable {X : Cx} {n : Nat} {CX : CXT} {C f : Addr} {fd : FuncData} {ps : List Str} {R : Addr → Addr → Hp → Bool → Prop} {E : XK}
/-- the call of the own __eq__, at any place below -/
theorem call_eqX (F : FnOk X.prog X.w X.K X.mg X.base CX n f fd ps (spEqX R)) (hb : Binds X.K fd ps []) (hx : Passes CX X E) {A : Around} {pins : List (Addr × Obj)} {σ : L2.St} {H : Hp} {s : Shared} (sb : L2.Sub X n A) (I : Inv X pins σ H s) {a b : Addr} {c : Bool} (r : R a b H c) {Q : Value → Shared → Prop}
    (q : ∀ H' s', Inv X pins σ H' s' → Same H H' → Q (.bool c) s') : wpAny (model X.prog X.w) A (call (.ref f) [.ref a, .ref b]) Q X.xe s := by
  have hsp : spEqX R [.ref a, .ref b] H (fun v H' => v = .bl c ∧ Same H H') E := ⟨a, b, c, rfl, r, fun H' e => ⟨rfl, e⟩⟩
  have e0 : Env0 X.prog X.w X.K X.mg X.base A X.stack s H := by
    have e := I.env0
    exact ⟨by rw [sb.fr]; exact e.frames, e.mod, e.bs, e.bsz, e.funs, e.frf, e.hok, e.bare⟩
  have hl := F.len _ _ _ _ hsp
  have r2 : Vals [V.ref a, V.ref b] [Value.ref a, Value.ref b] := .cons rfl (.cons rfl .nil)
  refine wpAny_call (codeAny_mono (F.run A X.stack s H ⟨[.ref a, .ref b], []⟩ [.ref a, .ref b] [.ref a, .ref b] _ E sb.room e0 (by
    have := hb s [.ref a, .ref b] I.kIn (by simpa using hl)
    simpa using this) r2 hsp) fun r s' hq => ?_)
  cases r with
  | error e => exact hx pins σ H s e s' I hq
  | ok fl =>
    cases fl with
    | ret w =>
      obtain ⟨z, H', I', rz, ez, ex⟩ := I.after hq
      subst ez
      cases rz
      exact q H' s' I' ex
    | next => exact False.elim hq
    | brk => exact False.elim hq
    | cont => exact False.elim hq
theorem op_eqX (F : FnOk X.prog X.w X.K X.mg X.base CX n f fd ps (spEqX R)) (hs : PySem.W.findIn X.K (.ref C) "__eq__" = some (some (.ref f))) (hf : PySem.W.isFn X.K (.ref f) = true) (hb : Binds X.K fd ps []) (hx : Passes CX X E) (hr : Room n X.A) : OpR X (compareOp .Eq) (rEqX C R false) := by
  intro pins s σ H x y v u Q I rx ry h
  obtain ⟨a, b, dx, dy, fs, gs, c, rfl, rfl, ha, hb', hR, q⟩ := h
  cases rx
  cases ry
  obtain ⟨mA, J, _⟩ := ins_get I.hok ha
  obtain ⟨mB, J', _⟩ := ins_get I.hok hb'
  obtain ⟨od, J, _⟩ := J.look
  obtain ⟨od', J', _⟩ := J'.look
  obtain ⟨m, hF⟩ := I.fr
  show wpAny (model X.prog X.w) X.A (richCompare .Eq (.ref a) (.ref b)) (EP X pins σ Q) X.xe s
  refine PySem.W.cmp_K (op := .Eq) (tb := .ref C) hr.units0 hF I.ok.mod.kin J J'.type (by simp [PySem.W.notFirst]) hs hf ?_
  exact call_eqX F hb hx ⟨hr, rfl⟩ I hR fun H' s' I' e => ⟨.bl c, H', I', rfl, q H' e⟩
end
section
variable {M : Model} {prog : Program} {w : World} {A : Around} {E : Value → Shared → Prop} {s : Shared} {K : PySem.W.Frag} {x y C f : Addr} {ox : Obj} {od : Option Obj}
theorem ifBound_objNe {args : List Value} {Q : Option Value → Shared → Prop} (X : K.In s.heap) (I : PySem.W.InstAt s.heap x ox C od) (hs : PySem.W.findIn K (.ref C) "__ne__" = some (some (.builtin "object.__ne__")))
    (h : wpAny M A (call (.builtin "object.__ne__") (.ref x :: args)) (fun v => Q (some v)) E s) : wpAny M A (callSpecialIfBound? (.ref x) "__ne__" args) Q E s := by
  simp only [callSpecialIfBound?, bindSpecialIfBound?]
  refine wpAny_holding (wpAny_bind (wpAny_bind (wpAny_bind (I.type.here ((PySem.W.looks_findIn X hs).here ?_)))))
  refine wpAny_bind (wpAny_askSetting (wpAny_ite ?_))
  have fin : wpAny M A (call (.builtin "object.__ne__") ([.ref x] ++ args) >>= fun v => pure (some v)) Q E s := wpAny_bind (wpAny_mono h (fun v s' h' => wpAny_pure h') fun _ _ h' => h')
  split
  · exact wpAny_bind (wpAny_of_eq (F.cmp_object.ne.bind _) (wpAny_pure (by exact fin)))
  · exact wpAny_tryCatch (wpAny_bind (wpAny_of_eq (F.cmp_object.ne.bind _) (wpAny_pure (by exact fin))))
/-- object.__ne__: not what the own __eq__ tells -/
theorem entry_ne {Q : Fin → Shared → Prop} (hu : A.units < cLine) (X : K.In s.heap) (I : PySem.W.InstAt s.heap x ox C od) (hs : PySem.W.findIn K (.ref C) "__eq__" = some (some (.ref f))) (hf : PySem.W.isFn K (.ref f) = true)
    (h : wpAny M A (call (.ref f) [.ref x, .ref y]) (fun v s' => ∃ b, v = .bool b ∧ Q (.done (.ret (.bool (!b)))) s') E s) : wpAny M A (Builtin.«object.__ne__» ⟨[.ref x, .ref y], []⟩) Q E s := by
  unfold Builtin.«object.__ne__»
  repeat (first
    | with_reducible refine wpAny_cRoomFor hu ?_
    | (refine wpAny_bind (m := callSpecialIfBound? (.ref x) (Str.ofString "__eq__") [.ref y])
        (PySem.W.ifBound_K X I hs hf (wpAny_mono h (fun r s' hr => by
          obtain ⟨b, rfl, hq⟩ := hr
          repeat (first | exact hq | exact wpAny_pure hq | exact wpAny_truthy_bool hq | (refine wpAny_bind (m := truthy (.bool _)) (wpAny_truthy_bool ?_)) | wp_step)) fun _ _ e => e)))
    | wp_step)
theorem call_objNe {Q : Value → Shared → Prop} (hu : A.in1.units < cLine) (X : K.In s.heap) (I : PySem.W.InstAt s.heap x ox C od) (hm : PySem.W.mroIn K C (.type "object") = some true) (hs : PySem.W.findIn K (.ref C) "__eq__" = some (some (.ref f))) (hf : PySem.W.isFn K (.ref f) = true)
    (h : wpAny (model prog w) A.in1 (call (.ref f) [.ref x, .ref y]) (fun v s' => ∃ b, v = .bool b ∧ Q (.bool (!b)) s') E s) : wpAny (model prog w) A (call (.builtin "object.__ne__") [.ref x, .ref y]) Q E s :=
  wpAny_call (codeAny_call_builtin F.cmp_object.ne.plain F.cmpEntry_ne (PySem.W.check_slot F.cmpKind_ne F.cmpSplit_ne (I.type.andThen (PySem.W.looks_mroIn X hm)) (F.cmpArgs_ne _ _) (entry_ne hu X I hs hf h)))
end
section
variable {X : Cx} {n : Nat} {CX : CXT} {C f : Addr} {fd : FuncData} {ps : List Str} {R : Addr → Addr → Hp → Bool → Prop} {E : XK}
theorem op_neX (F : FnOk X.prog X.w X.K X.mg X.base CX n f fd ps (spEqX R)) (hs : PySem.W.findIn X.K (.ref C) "__eq__" = some (some (.ref f))) (hf : PySem.W.isFn X.K (.ref f) = true) (hn : PySem.W.findIn X.K (.ref C) "__ne__" = some (some (.builtin "object.__ne__"))) (hm : PySem.W.mroIn X.K C (.type "object") = some true) (hb : Binds X.K fd ps []) (hx : Passes CX X E) (hr : Room (n + 1) X.A) : OpR X (compareOp .NotEq) (rEqX C R true) := by
  intro pins s σ H x y v u Q I rx ry h
  obtain ⟨a, b, dx, dy, fs, gs, c, rfl, rfl, ha, hb', hR, q⟩ := h
  cases rx
  cases ry
  obtain ⟨mA, J, _⟩ := ins_get I.hok ha
  obtain ⟨mB, J', _⟩ := ins_get I.hok hb'
  obtain ⟨od, J, _⟩ := J.look
  obtain ⟨od', J', _⟩ := J'.look
  have hX := I.kIn
  have one : wpAny (model X.prog X.w) X.A (tryCompare (.ref a) "__ne__" (.ref b)) (fun r s' => ∃ v, r = some v ∧ EP X pins σ Q v s') X.xe s := by
    unfold tryCompare
    refine wpAny_bind (ifBound_objNe hX J hn (call_objNe hr.in1.units0 hX J hm hs hf (call_eqX F hb hx ⟨hr.in1, rfl⟩ I hR fun H' s' I' e => ⟨c, rfl, wpAny_pure ⟨_, rfl, .bl (!c), H', I', rfl, q H' e⟩⟩)))
  show wpAny (model X.prog X.w) X.A (richCompare .NotEq (.ref a) (.ref b)) (EP X pins σ Q) X.xe s
  unfold richCompare
  simp only [oneThing_ref]
  refine wpAny_holding (wpAny_bind (wpAny_cRoomFor (hr.mono (Nat.le_succ n)).units0 ?_))
  refine wpAny_bind (J.type.here (wpAny_bind (J'.type.here ?_)))
  rw [show (Value.ref C != Value.ref C) = false from by simp]
  simp only [Bool.false_eq_true, if_false]
  refine wpAny_bind (wpAny_pure ?_)
  simp only [Bool.false_eq_true, if_false]
  refine wpAny_bind (wpAny_mono one (fun r s' z => ?_) fun _ _ e => e)
  obtain ⟨v, rfl, hq⟩ := z
  exact wpAny_pure hq
end
/-! ### grammar == grammar, told exactly -/
def N_GE : List Str := ["self", "other"]
abbrev s_GEq : Stmt := (inClass (top 46) 10)
theorem sc_GEq : FnScope N_GE N_GE (defScope s_GEq) := ⟨rfl, rfl, rfl, by decide +kernel, rfl, by decide +kernel, by decide +kernel⟩
noncomputable def RsD (rs : List SRow) (ms : List MRow) (ru : List RRow) (roof : Nat) : PyData := .tuple [.int (roof : Nat), .list (srtR (rs.map SRow.d)), .list (srtR (ms.map MRow.d)), .list (srtR (ru.map RRow.d))]
def EqG (K : PySem.W.Frag) (C : Addr) (x y : Addr) (H : Hp) (c : Bool) : Prop := ∃ (Z Z' : Hp) (rs : List SRow) (ms : List MRow) (ru : List RRow) (roof : Nat) (rs' : List SRow) (ms' : List MRow) (ru' : List RRow) (roof' : Nat), Risen K C Z H x rs ms ru roof ∧ Risen K C Z' H y rs' ms' ru' roof' ∧ SeqAt.shaped (RsD rs ms ru roof) = true ∧ SeqAt.shaped (RsD rs' ms' ru' roof') = true ∧ c = PyData.eqv (RsD rs ms ru roof) (RsD rs' ms' ru' roof')
theorem Risen.dp {K : PySem.W.Frag} {C : Addr} {Z H : Hp} {x : Addr} {rs : List SRow} {ms : List MRow} {ru : List RRow} {roof : Nat} (h : Risen K C Z H x rs ms ru roof) : ∃ dx rt fs, H x = some (.ins C dx fs) ∧ fs.lookup (("risen" : String) : Str) = some (.ref rt) ∧ Dp K H (.ref rt) (RsD rs ms ru roof) := by
  obtain ⟨dx, rt, p1, p2, p3, fs, y1, y2, y3, a1, a2, a3, ⟨a4, _, a5⟩, ⟨a6, _, a7⟩, a8, _, a9⟩ := h
  exact ⟨dx, rt, fs, a1, a2, .tup a3 (.cons (.int _) (.cons (.lst (SqL.of a4) a5) (.cons (.lst (SqL.of a6) a7) (.cons (.lst (SqL.of a8) a9) .nil))))⟩
section
variable {P : Program} {w : World} {K : PySem.W.Frag} {mg : Str → Option Value} {base : Heap} {G : Addr}
theorem ok_geqx {f : Addr} {fd : FuncData} (hI : mg "isinstance" = none) (hG : mg "Grammar" = some (.ref G)) (ic : C8.InsC K G) (gc : GCls K G) (F : L2.Fun K "__eq__" "Grammar.__eq__" s_GEq f fd) : FnOk P w K mg base CX0 1 f fd N_GE (spEqX (EqG K G)) := by
  refine F.ok sc_GEq (fun vs H Q E h => ?_) (fun cdv A outer s H vs Q E hr h => ?_)
  · obtain ⟨a, b, c, rfl, _⟩ := h
    rfl
  · obtain ⟨a, b, c, rfl, ⟨Z, Z', rs, ms, ru, roof, rs', ms', ru', roof', h1, h2, sh1, sh2, rfl⟩, q⟩ := h
    refine ⟨_, (pss_one (ps_ret (pe_and (pe_callB (C8.call_isC ic) (by rfl) hI (by decide +kernel) (pa_cons (pv 1) (pa_cons (pe_glob (v := .ref G) (by rfl) hG rfl) pa_nil))) (pe_one (pe_cmpR (op_eqD hr.units) (pe_fld (pv 0) (by rfl)) (pe_fld (pv 1) (by rfl)) (nomark _)))))), ?_⟩
    obtain ⟨dx, rt, fs, a1, a2, d1⟩ := h1.dp
    obtain ⟨dy, rt', fs', b1, b2, d2⟩ := h2.dp
    refine ⟨_, rfl, b, dy, fs', rfl, b1, true, rfl, ?_⟩
    exact iteT ⟨_, rfl, a, G, dx, fs, _, rfl, a1, gc.c, gc.risen, a2, _, rfl, b, G, dy, fs', _, rfl, b1, gc.c, gc.risen, b2, _, _, d1, d2, sh1, sh2, q H (Same.refl H)⟩
end
/-! ### len(e), repr(e), e of a class with its own -/
section
variable {X : Cx} {n : Nat} {CX : CXT} {C f : Addr} {fd : FuncData} {ps : List Str} {sp : Sp} {E : XK}
theorem call_reprOwn (F : FnOk X.prog X.w X.K X.mg X.base CX n f fd ps sp) (hs : PySem.W.findIn X.K (.ref C) "__repr__" = some (some (.ref f))) (hf : PySem.W.isFn X.K (.ref f) = true) (hb : Binds X.K fd ps []) (hx : Passes CX X E) (hr : Room (n + 1) X.A) :
    CallR X (.builtin "repr") (fun xs H Q => ∃ (a dx : Addr) (fs : List (Str × V)), xs = [.ref a] ∧ H a = some (.ins C dx fs) ∧ sp [.ref a] H (fun v H' => ∃ z, v = .str z ∧ Q v H') E) := by
  intro pins s σ H xs us Q I r h
  obtain ⟨a, dx, fs, rfl, ha, hsp⟩ := h
  obtain ⟨u, rfl, rx⟩ := vals1 r
  obtain rfl : u = Value.ref a := rx
  obtain ⟨mA, J, _⟩ := ins_get I.hok ha
  obtain ⟨od, J, _⟩ := J.look
  obtain ⟨m, hF⟩ := I.fr
  have hr2 : Room n X.A.in1 := hr.in1
  refine PySem.W.repr_K hr2.units0 hF I.ok.mod.kin J hs hf ?_
  have e0 : Env0 X.prog X.w X.K X.mg X.base X.A.in1 X.stack s H := by
    have e := I.env0
    exact ⟨e.frames, e.mod, e.bs, e.bsz, e.funs, e.frf, e.hok, e.bare⟩
  have hl := F.len _ _ _ _ hsp
  have r2 : Vals [V.ref a] [Value.ref a] := .cons rfl .nil
  refine wpAny_call (codeAny_mono (F.run X.A.in1 X.stack s H ⟨[.ref a], []⟩ [.ref a] [.ref a] _ E hr2 e0 (by
    have := hb s [.ref a] I.kIn (by simpa using hl)
    simpa using this) r2 hsp) fun r s' hq => ?_)
  cases r with
  | error e => exact hx pins σ H s e s' I hq
  | ok fl =>
    cases fl with
    | ret w =>
      obtain ⟨y, H', I', rz, z, ez, q⟩ := I.after hq
      subst ez
      obtain ⟨t, rfl⟩ : ∃ t, w = Value.str z t := rz
      exact ⟨.str z, H', I', ⟨t, rfl⟩, q⟩
    | next => exact False.elim hq
    | brk => exact False.elim hq
    | cont => exact False.elim hq
theorem call_lenOwn (F : FnOk X.prog X.w X.K X.mg X.base CX n f fd ps sp) (hs : PySem.W.findIn X.K (.ref C) "__len__" = some (some (.ref f))) (hf : PySem.W.isFn X.K (.ref f) = true) (hb : Binds X.K fd ps []) (hx : Passes CX X E) (hr : Room (n + 1) X.A) :
    CallR X (.builtin "len") (fun xs H Q => ∃ (a dx : Addr) (fs : List (Str × V)), xs = [.ref a] ∧ H a = some (.ins C dx fs) ∧ sp [.ref a] H (fun v H' => ∃ k : Nat, v = .int (k : Nat) ∧ k < 1000000 ∧ Q v H') E) := by
  intro pins s σ H xs us Q I r h
  obtain ⟨a, dx, fs, rfl, ha, hsp⟩ := h
  obtain ⟨u, rfl, rx⟩ := vals1 r
  obtain rfl : u = Value.ref a := rx
  obtain ⟨mA, J, _⟩ := ins_get I.hok ha
  obtain ⟨od, J, _⟩ := J.look
  obtain ⟨m, hF⟩ := I.fr
  have hr2 : Room n X.A.in1 := hr.in1
  refine PySem.W.len_K hF I.ok.mod.kin J hs hf ?_
  have e0 : Env0 X.prog X.w X.K X.mg X.base X.A.in1 X.stack s H := by
    have e := I.env0
    exact ⟨e.frames, e.mod, e.bs, e.bsz, e.funs, e.frf, e.hok, e.bare⟩
  have hl := F.len _ _ _ _ hsp
  have r2 : Vals [V.ref a] [Value.ref a] := .cons rfl .nil
  refine wpAny_call (codeAny_mono (F.run X.A.in1 X.stack s H ⟨[.ref a], []⟩ [.ref a] [.ref a] _ E hr2 e0 (by
    have := hb s [.ref a] I.kIn (by simpa using hl)
    simpa using this) r2 hsp) fun r s' hq => ?_)
  cases r with
  | error e => exact hx pins σ H s e s' I hq
  | ok fl =>
    cases fl with
    | ret w =>
      obtain ⟨y, H', I', rz, z, ez, hz, q⟩ := I.after hq
      subst ez
      obtain ⟨t, rfl⟩ : ∃ t, w = Value.int (z : Nat) t := rz
      refine ⟨⟨Int.natCast_nonneg z, ?_⟩, ?_⟩
      · have : (2 : Int) ^ 63 = 9223372036854775808 := by decide +kernel
        omega
      · exact ⟨V.int ((z : Nat) : Int), H', I'.tok _, ⟨_, rfl⟩, q⟩
    | next => exact False.elim hq
    | brk => exact False.elim hq
    | cont => exact False.elim hq
end
theorem lk6m (a b c d e f : V) : (g6 a b c d e f).lookup (("making_table" : String) : Str) = some c := by with_unfolding_all rfl
/-! ### the methods __len__ and __repr__ of Grammar -/
abbrev s_GLn : Stmt := (inClass (top 46) 9)
abbrev s_GRp : Stmt := (inClass (top 46) 12)
abbrev N_GSf : List Str := ["self"]
theorem sc_GLn : FnScope N_GSf N_GSf (defScope s_GLn) := ⟨rfl, rfl, rfl, by decide +kernel, rfl, by decide +kernel, by decide +kernel⟩
theorem sc_GRp : FnScope N_GSf N_GSf (defScope s_GRp) := ⟨rfl, rfl, rfl, by decide +kernel, rfl, by decide +kernel, by decide +kernel⟩
def reprS (n m : Nat) : Str := Str.empty ++ "Grammar(" ++ toString ((n : Nat) : Int) ++ " sorts, " ++ toString ((m : Nat) : Int) ++ " makings)"
def spGLen (K : PySem.W.Frag) (P : Program) (w : World) (G : Addr) : Sp := fun vs H Q _ => ∃ (Z : Hp) (x : Addr) (rs : List SRow) (ms : List MRow) (ru : List RRow) (roof : Nat), vs = [.ref x] ∧ GrOk K P w G Z H x rs ms ru roof ∧ Q (.int (ms.length : Nat)) H
def spGRepr (K : PySem.W.Frag) (P : Program) (w : World) (G : Addr) : Sp := fun vs H Q _ => ∃ (Z : Hp) (x : Addr) (rs : List SRow) (ms : List MRow) (ru : List RRow) (roof : Nat), vs = [.ref x] ∧ GrOk K P w G Z H x rs ms ru roof ∧ rs.length ≤ 4 ∧ ms.length ≤ 8 ∧ Q (.str (reprS rs.length ms.length)) H
section
variable {P : Program} {w : World} {K : PySem.W.Frag} {mg : Str → Option Value} {base : Heap} {G : Addr}
theorem ok_glen {f : Addr} {fd : FuncData} (hlen : mg "len" = none) (gc : GCls K G) (F : L2.Fun K "__len__" "Grammar.__len__" s_GLn f fd) : FnOk P w K mg base CX0 1 f fd N_GSf (spGLen K P w G) := by
  refine F.ok sc_GLn (fun vs H Q E h => ?_) (fun cdv A outer s H vs Q E hr h => ?_)
  · obtain ⟨Z, x, rs, ms, ru, roof, rfl, _⟩ := h
    rfl
  · obtain ⟨Z, x, rs, ms, ru, roof, rfl, go, q⟩ := h
    obtain ⟨dx, sd, md, rd, kd, rt, hx, _, ⟨kvs, hmd, htab⟩, _⟩ := go.ex
    refine ⟨_, pss_one (ps_ret (pe_callB call_lenD (by rfl) hlen PySem.boot_len (pa_cons (pe_fld (pv 0) (by rfl)) pa_nil))), ?_⟩
    have lk := htab.len
    rw [List.length_map] at lk
    exact ⟨_, rfl, x, G, dx, _, .ref md, rfl, hx, gc.c, gc.making, lk6m _ _ _ _ _ _, md, kvs, rfl, hmd, lk ▸ q⟩
theorem ok_grepr {f : Addr} {fd : FuncData} (hlen : mg "len" = none) (gc : GCls K G) (F : L2.Fun K "__repr__" "Grammar.__repr__" s_GRp f fd) : FnOk P w K mg base CX0 1 f fd N_GSf (spGRepr K P w G) := by
  refine F.ok sc_GRp (fun vs H Q E h => ?_) (fun cdv A outer s H vs Q E hr h => ?_)
  · obtain ⟨Z, x, rs, ms, ru, roof, rfl, _⟩ := h
    rfl
  · obtain ⟨Z, x, rs, ms, ru, roof, rfl, go, h4, h8, q⟩ := h
    obtain ⟨dx, sd, md, rd, kd, rt, hx, ⟨skv, hsd, stab⟩, ⟨kvs, hmd, htab⟩, _⟩ := go.ex
    refine ⟨_, pss_one (ps_ret (pe_joined (.cons pe_str (.cons (pe_fmt (pe_callB call_lenD (by rfl) hlen PySem.boot_len (pa_cons (pe_fld (pv 0) (by rfl)) pa_nil))) (.cons pe_str (.cons (pe_fmt (pe_callB call_lenD (by rfl) hlen PySem.boot_len (pa_cons (pe_fld (pv 0) (by rfl)) pa_nil))) (.cons pe_str .nil))))))), ?_⟩
    have lk := htab.len
    have ls := stab.len
    rw [List.length_map] at lk ls
    have nl : ∀ n : Nat, n ≤ 8 → (Str.ofString (toString ((n : Nat) : Int))).length ≤ 6 := fun n h => by
      rw [SX.num_S, SX.S_len]
      exact TL.numL_len (by decide) (by omega)
    have n1 := nl rs.length (by omega)
    have n2 := nl ms.length h8
    have e0 : Str.empty.length = 0 := rfl
    have e1 : (Str.ofString "Grammar(").length = 8 := by decide +kernel
    have e2 : (Str.ofString " sorts, ").length = 8 := by decide +kernel
    have e3 : (Str.ofString " makings)").length = 9 := by decide +kernel
    have cap : ∀ k : Nat, k ≤ 200 → k ≤ sizeLine := fun k h => Nat.le_trans h (by decide)
    refine ⟨_, rfl, cap _ (by rw [Str.length_append]; omega), ?_⟩
    refine ⟨_, rfl, x, G, dx, _, .ref sd, rfl, hx, gc.c, gc.sort, by with_unfolding_all rfl, sd, skv, rfl, hsd, .inr ⟨_, rfl, num_log (by omega), _, rfl, ?_, ?_⟩⟩
    · rw [ls]
      exact cap _ (by rw [Str.length_append, Str.length_append]; omega)
    rw [ls]
    refine ⟨_, rfl, cap _ (by rw [Str.length_append, Str.length_append, Str.length_append]; omega), ?_⟩
    refine ⟨_, rfl, x, G, dx, _, .ref md, rfl, hx, gc.c, gc.making, lk6m _ _ _ _ _ _, md, kvs, rfl, hmd, .inr ⟨_, rfl, num_log (by omega), _, rfl, ?_, ?_⟩⟩
    · rw [lk]
      exact cap _ (by rw [Str.length_append, Str.length_append, Str.length_append, Str.length_append]; omega)
    rw [lk]
    refine ⟨_, rfl, cap _ (by rw [Str.length_append, Str.length_append, Str.length_append, Str.length_append, Str.length_append]; omega), ?_⟩
    exact q
end
/-! ### grammars held against each other -/
def ObjR (K : PySem.W.Frag) (G : Addr) (Y : Hp) (x : Addr) (R : PyData) : Prop := ∃ (Z : Hp) (rs : List SRow) (ms : List MRow) (ru : List RRow) (roof : Nat), GFit rs ms ru roof ∧ Risen K G Z Y x rs ms ru roof ∧ R = RsD rs ms ru roof
theorem ObjR.same {K : PySem.W.Frag} {G x : Addr} {Y Y' : Hp} {R : PyData} (h : ObjR K G Y x R) (s : Same Y Y') : ObjR K G Y' x R := by
  obtain ⟨Z, rs, ms, ru, roof, g, r, e⟩ := h
  exact ⟨Z, rs, ms, ru, roof, g, r.same s, e⟩
theorem eq_obj {K : PySem.W.Frag} {G x y : Addr} {Y : Hp} {R R' : PyData} {Q : VK} (h : ObjR K G Y x R) (h' : ObjR K G Y y R') (q : ∀ H', Same Y H' → Q (.bl (PyData.eqv R R')) H') : rEqX G (EqG K G) false (.ref x) (.ref y) Y Q := by
  obtain ⟨Z, rs, ms, ru, roof, g, r, rfl⟩ := h
  obtain ⟨Z', rs', ms', ru', roof', g', r', rfl⟩ := h'
  obtain ⟨dx, rt, fs, a1, _⟩ := r.dp
  obtain ⟨dy, rt', fs', b1, _⟩ := r'.dp
  exact ⟨x, y, dx, dy, fs, fs', _, rfl, rfl, a1, b1, ⟨Z, Z', _, _, _, roof, _, _, _, roof', r, r', risen_shape g, risen_shape g', rfl⟩, fun H' s => q H' s⟩
def rowE (xs : List (Addr × PyData)) (R : PyData) : List V := xs.map fun p => V.bl (PyData.eqv R p.2)
/-! ### what is known can be compared, and tells grammars apart as == does -/
theorem odB_far {o : Od} {s : Nat} (hs : 200 ≤ s) (h : ∀ c ∈ odW o, isLet c = true) : s ∉ odB o := by
  have nl : ∀ {w : List Nat}, (∀ c ∈ w, isLet c = true) → s ∉ w := fun {w} h z => by
    have := let_small (h s z)
    omega
  have fix0 : ∀ x ∈ [sl "('at', ", sl "('kept', ", sl "('own',", sl "('number', ", sl ", "], ∀ c ∈ x, c < 200 := by decide +kernel
  have fix : ∀ x ∈ [sl "('at', ", sl "('kept', ", sl "('own',", sl "('number', ", sl ", "], s ∉ x := fun x hx z => by
    have := fix0 x hx s z
    omega
  have q : ∀ {w : List Nat}, (∀ c ∈ w, isLet c = true) → s ∉ 39 :: (w ++ [39]) := fun {w} h z => by
    rcases List.mem_cons.mp z with z | z
    · omega
    · rcases List.mem_append.mp z with z | z
      · exact nl h z
      · have := List.mem_singleton.mp z
        omega
  cases o with
  | en e =>
    cases e with
    | sp p w =>
      show s ∉ sl "('at', " ++ TL.numL p ++ sl ", " ++ 39 :: (w ++ [39])
      intro z
      rcases List.mem_append.mp z with z | z
      · rcases List.mem_append.mp z with z | z
        · rcases List.mem_append.mp z with z | z
          · exact fix _ (by simp) z
          · exact TL.numL_free (.inr (by omega)) z
        · exact fix _ (by simp) z
      · exact q h z
    | kept w =>
      show s ∉ sl "('kept', " ++ 39 :: (w ++ [39])
      intro z
      rcases List.mem_append.mp z with z | z
      · exact fix _ (by simp) z
      · exact q h z
  | own =>
    show s ∉ sl "('own',"
    exact fix _ (by simp)
  | num n =>
    show s ∉ sl "('number', " ++ TL.numL n
    intro z
    rcases List.mem_append.mp z with z | z
    · exact fix _ (by simp) z
    · exact TL.numL_free (.inr (by omega)) z
theorem sign_far {s : Nat} (hs : 200 ≤ s) : s ∉ sl "(" ∧ s ∉ sl ", " ∧ s ∉ sl ")" ∧ s ∉ sl ",)" := by
  have fix0 : ∀ x ∈ [sl "(", sl ", ", sl ")", sl ",)"], ∀ c ∈ x, c < 200 := by decide +kernel
  have fix : ∀ x ∈ [sl "(", sl ", ", sl ")", sl ",)"], s ∉ x := fun x hx z => by
    have := fix0 x hx s z
    omega
  exact ⟨fix _ (by simp), fix _ (by simp), fix _ (by simp), fix _ (by simp)⟩
theorem shown_far {o : Od} {s : Nat} (hs : 200 ≤ s) (h : Lw o) : s ∉ TL.tl (PyData.shown o.d) := by
  rw [od_tl h]
  intro z
  rcases List.mem_append.mp z with z | z
  · exact odB_far hs h z
  · have := List.mem_singleton.mp z
    omega
theorem os_far {os : List Od} {s : Nat} (hs : 200 ≤ s) (h1 : 1 ≤ os.length) (h3 : os.length ≤ 3) (hw : ∀ o ∈ os, Lw o) : s ∉ TL.tl (PyData.shown (.tuple (os.map Od.d))) := by
  obtain ⟨f1, f2, f3, f4⟩ := sign_far hs
  match os, h1, h3, hw with
  | [a], _, _, hw =>
    have fa := shown_far hs (hw a (by simp))
    show s ∉ TL.tl (tupleText [PyData.shown a.d])
    rw [tt1]
    simp only [List.mem_append, f1, f4, fa, or_self, not_false_eq_true]
  | [a, b], _, _, hw =>
    have fa := shown_far hs (hw a (by simp))
    have fb := shown_far hs (hw b (by simp))
    show s ∉ TL.tl (tupleText [PyData.shown a.d, PyData.shown b.d])
    rw [tt2]
    simp only [List.mem_append, f1, f2, f3, fa, fb, or_self, not_false_eq_true]
  | [a, b, c], _, _, hw =>
    have fa := shown_far hs (hw a (by simp))
    have fb := shown_far hs (hw b (by simp))
    have fc := shown_far hs (hw c (by simp))
    show s ∉ TL.tl (tupleText [PyData.shown a.d, PyData.shown b.d, PyData.shown c.d])
    rw [tt3]
    simp only [List.mem_append, f1, f2, f3, fa, fb, fc, or_self, not_false_eq_true]
theorem ok_far {x : Str} (h : ∀ s, 200 ≤ s → s ∉ TL.tl x) : PyData.strOk x = true := by
  show x.cps.all _ = true
  rw [← Array.all_toList]
  refine List.all_eq_true.mpr fun c hc => decide_eq_true ?_
  rcases Nat.lt_or_ge c 200 with q | q
  · omega
  · exact absurd hc (h c q)
theorem op_ar {op : List Nat} {roof : Nat} (h : op ∈ opsOf roof) : 1 ≤ arOf op ∧ arOf op ≤ 3 := by
  unfold arOf
  split
  · omega
  · split <;> omega
theorem kr_lay {rs : List SRow} {ms : List MRow} {roof : Nat} {r : RRow} (so : SortsOk rs) (hm : ∀ m ∈ ms, MOk rs m) (h : RuleOk rs ms roof r) : PyData.canLay0 (krD r) = true := by
  obtain ⟨w1, w2⟩ := lw_fit so h
  obtain ⟨a1, a2⟩ := op_ar h.op
  have ar := h.ar
  obtain ⟨mr, hmr, e, ht, ho⟩ := h.ex
  obtain ⟨o, eo, ea, _⟩ := op_of h.op
  have top : PyData.canLay0 (strD r.op) = true := by
    show PyData.strOk (SX.S r.op) = true
    rw [eo]
    cases o <;> decide +kernel
  have tma : PyData.canLay0 (strD r.ma) = true := by
    rw [e]
    exact nm_lay (hm mr hmr).nm
  have t1 : PyData.canLay0 (.str (PyData.shown r.tg.d)) = true := ok_far fun s hs => shown_far (o := .en r.tg) hs w1
  have t2 : PyData.canLay0 (.str (PyData.shown (.tuple (r.os.map Od.d)))) = true := ok_far fun s hs => os_far hs (by omega) (by omega) w2
  exact lay_cons tma (lay_cons t1 (lay_cons top (lay_cons t2 rfl)))
theorem kn_shape {rs : List SRow} {ms : List MRow} {ru : List RRow} {roof : Nat} (g : GFit rs ms ru roof) : SeqAt.shaped (knD rs ms ru roof) = true := by
  unfold knD
  have hs : ∀ d ∈ srtR (rs.map SRow.d), PyData.canLay0 d = true ∧ PyData.depth d ≤ 20 := fun d hd => by
    obtain ⟨r, hr, rfl⟩ := List.mem_map.mp (srtR_mem hd)
    exact ⟨srow_lay (g.so.ok r hr), Nat.le_trans (srow_tb (g.so.ok r hr)).dp (by decide)⟩
  have hm : ∀ d ∈ srtR (ms.map MRow.d), PyData.canLay0 d = true ∧ PyData.depth d ≤ 20 := fun d hd => by
    obtain ⟨r, hr, rfl⟩ := List.mem_map.mp (srtR_mem hd)
    exact ⟨mrow_lay g.so (g.ok r hr), Nat.le_trans (mrow_tb g.so (g.ok r hr)).dp (by decide)⟩
  have hr : ∀ d ∈ srtR (ru.map krD), PyData.canLay0 d = true ∧ PyData.depth d ≤ 20 := fun d hd => by
    obtain ⟨r, hr, rfl⟩ := List.mem_map.mp (srtR_mem hd)
    exact ⟨kr_lay g.so g.ok (g.ra r hr), by show 0 + 1 ≤ 20; decide⟩
  have l1 : PyData.canLay0 (.list (srtR (rs.map SRow.d))) = true := lay_each fun d hd => (hs d hd).1
  have l2 : PyData.canLay0 (.list (srtR (ms.map MRow.d))) = true := lay_each fun d hd => (hm d hd).1
  have l3 : PyData.canLay0 (.list (srtR (ru.map krD))) = true := lay_each fun d hd => (hr d hd).1
  have d1 := depth_each fun d hd => (hs d hd).2
  have d2 := depth_each fun d hd => (hm d hd).2
  have d3 := depth_each fun d hd => (hr d hd).2
  unfold SeqAt.shaped
  rw [show PyData.canLay0 (.tuple [.int (roof : Nat), .list (srtR (rs.map SRow.d)), .list (srtR (ms.map MRow.d)), .list (srtR (ru.map krD))]) = true from lay_cons rfl (lay_cons l1 (lay_cons l2 (lay_cons l3 rfl))), decide_eq_true (show PyData.depth (.tuple [.int (roof : Nat), .list (srtR (rs.map SRow.d)), .list (srtR (ms.map MRow.d)), .list (srtR (ru.map krD))]) ≤ 64 from by
    show max 0 (max (PyData.depthAll (srtR (rs.map SRow.d)) + 1) (max (PyData.depthAll (srtR (ms.map MRow.d)) + 1) (max (PyData.depthAll (srtR (ru.map krD)) + 1) 0))) + 1 ≤ 64
    omega)]
  rfl
theorem srt_any (ds : List PyData) : ∃ es, rowsIn ds es := by
  refine ⟨ds.mergeSort fun a b => !ltKey (PySem.W.keyToks b) (PySem.W.keyToks a), List.mergeSort_perm _ _, ?_⟩
  have h := List.pairwise_mergeSort (le := fun a b : PyData => !ltKey (PySem.W.keyToks b) (PySem.W.keyToks a)) (fun a b c h1 h2 => by
    rw [Bool.not_eq_true'] at h1 h2 ⊢
    exact ltKey_tr h1 h2) (fun a b => by
    cases e : ltKey (PySem.W.keyToks b) (PySem.W.keyToks a) with
    | false => rfl
    | true =>
      rw [ltKey_asym e]
      rfl) ds
  exact h.imp fun h => by
    rw [Bool.not_eq_true'] at h
    exact h
theorem srt_perm (ds : List PyData) : (srtR ds).Perm ds := by
  unfold srtR
  rw [dif_pos (srt_any ds)]
  exact (srt_any ds).choose_spec.1
theorem eqv_known {rs rs' : List SRow} {ms ms' : List MRow} {ru ru' : List RRow} {roof roof' : Nat} (g : GFit rs ms ru roof) (g' : GFit rs' ms' ru' roof') : PyData.eqv (knD rs ms ru roof) (knD rs' ms' ru' roof') = PyData.eqv (RsD rs ms ru roof) (RsD rs' ms' ru' roof') := by
  have h := known_rules g g' (srt_perm _) (srt_perm _) (srt_perm _) (srt_perm _)
  unfold knD RsD
  have tu : ∀ xs ys : List PyData, PyData.eqv (.tuple xs) (.tuple ys) = PyData.eqvAll xs ys := fun xs ys => by rw [PyData.eqv]
  have ls : ∀ xs ys : List PyData, PyData.eqv (.list xs) (.list ys) = PyData.eqvAll xs ys := fun xs ys => by rw [PyData.eqv]
  rw [tu, tu, PySem.W.eqv_all_cons, PySem.W.eqv_all_cons, PySem.W.eqv_all_cons, PySem.W.eqv_all_cons, PySem.W.eqv_all_cons, PySem.W.eqv_all_cons, PySem.W.eqv_all_cons, PySem.W.eqv_all_cons, ls, ls, ls, ls, h]
/-! ### the law's grammars, told and held against each other -/
abbrev s__law_right : Stmt := top 70
abbrev N__law_right : List Str := ["_law_box", "_law_g", "_law_some", "_law_turn", "_law_made", "_law_one", "_law_told", "_law_due", "_law_found"]
abbrev P__law_right : List Str := ["_law_box"]
theorem sc__law_right : FnScope N__law_right P__law_right (defScope s__law_right) := ⟨rfl, rfl, rfl, by decide +kernel, rfl, by decide +kernel, by decide +kernel⟩
/-- a law's grammar: where it lies, and its rows -/
structure G8 where
  gd : Addr
  rs : List SRow
  ms : List MRow
  ru : List RRow
  roof : Nat
def G8.fit (g : G8) : Prop := GFit g.rs g.ms g.ru g.roof
noncomputable def G8.R (g : G8) : PyData := RsD g.rs g.ms g.ru g.roof
def G8.inn (K : PySem.W.Frag) (Y : Hp) (a : Addr) (g : G8) : Prop := GramIn K Y a g.gd g.rs g.ms g.ru g.roof
theorem GramIn.go2 {K : PySem.W.Frag} {Y Z : Hp} {a L gd : Addr} {b : List V} {rs : List SRow} {ms : List MRow} {ru : List RRow} {roof : Nat} (h1 : GramIn K Y a gd rs ms ru roof) (h2 : GramIn K Y L gd rs ms ru roof) (hb : Y a = some (.lst b)) (t : But a Y Z) : GramIn K Z L gd rs ms ru roof := by
  obtain ⟨ls, lm, lr, of, kvs, gs, by_, byk, b1, b2, b3, b4, b5⟩ := h1.ex
  obtain ⟨ls2, lm2, lr2, of2, kvs2, gs2, _⟩ := h2.ex
  have ek : kvs2 = kvs := by
    have := gs2.hgd
    rw [gs.hgd] at this
    cases this
    rfl
  subst ek
  have e1 : ls2 = ls := by
    have := gs2.so
    rw [gs.so] at this
    cases this
    rfl
  have e2 : lm2 = lm := by
    have := gs2.mak
    rw [gs.mak] at this
    cases this
    rfl
  have e3 : lr2 = lr := by
    have := gs2.rl
    rw [gs.rl] at this
    cases this
    rfl
  subst e1 e2 e3
  have g := gs.go hb t
  refine ⟨ls2, lm2, lr2, of, kvs2, ⟨(fun c o _ hc => nomatch hc), g.hgd, rfl, g.cap, g.so, g.mak, g.rl, g.ofv, g.hls, g.hlm, g.hlr, g.hof, gs2.n1, gs2.n2, gs2.n3, g.n4⟩, by_, byk, b1, b2, t _ _ (fun z => by rw [z, hb] at b3; cases b3) b3, b4, fun m hm => ?_⟩
  obtain ⟨v, e1, e2⟩ := b5 m hm
  exact ⟨v, e1, dp_imm (KeepT.but hb t) e2 (m_imm m)⟩
/-- .. none of its lists the box, nor the list of all -/
def In2 (K : PySem.W.Frag) (Y : Hp) (a L : Addr) (g : G8) : Prop := g.fit ∧ g.inn K Y a ∧ g.inn K Y L
theorem In2.box {K : PySem.W.Frag} {Y Z : Hp} {a L : Addr} {b : List V} {g : G8} (h : In2 K Y a L g) (hb : Y a = some (.lst b)) (t : But a Y Z) : In2 K Z a L g := ⟨h.1, GramIn.go2 h.2.1 h.2.1 hb t, GramIn.go2 h.2.1 h.2.2 hb t⟩
theorem In2.lst {K : PySem.W.Frag} {Y Z : Hp} {a L : Addr} {b : List V} {g : G8} (h : In2 K Y a L g) (hb : Y L = some (.lst b)) (t : But L Y Z) : In2 K Z a L g := ⟨h.1, GramIn.go2 h.2.2 h.2.1 hb t, GramIn.go2 h.2.2 h.2.2 hb t⟩
theorem In2.new {K : PySem.W.Frag} {Y Z : Hp} {a L : Addr} {b : List V} {g : G8} (f : g.fit) (h : g.inn K Y a) (hb : Y a = some (.lst b)) (n : Y L = none) (s : Same Y Z) : In2 K Z a L g := by
  have h0 : GramIn K Y a g.gd g.rs g.ms g.ru g.roof := h
  obtain ⟨ls, lm, lr, of, kvs, gs, r⟩ := h0.ex
  obtain ⟨sv, a1, _⟩ := gs.hls
  obtain ⟨mv, a2, _⟩ := gs.hlm
  obtain ⟨rv, a3, _⟩ := gs.hlr
  have h2 : GramIn K Y L g.gd g.rs g.ms g.ru g.roof := ⟨ls, lm, lr, of, kvs, ⟨(fun c o _ hc => nomatch hc), gs.hgd, rfl, gs.cap, gs.so, gs.mak, gs.rl, gs.ofv, gs.hls, gs.hlm, gs.hlr, gs.hof, ne_of_none a1 n, ne_of_none a2 n, ne_of_none a3 n, gs.n4⟩, r⟩
  exact ⟨f, GramIn.go2 h0 h0 hb (But.of s), GramIn.go2 h0 h2 hb (But.of s)⟩
theorem one_fit {rs : List SRow} {ms : List MRow} {ru : List RRow} {roof : Nat} (g : GFit rs ms ru roof) : GFit (rs.take 1) [] [] roof where
  so := ⟨fun r hr => g.so.ok r (List.mem_of_mem_take hr), by
    rw [List.map_take]
    exact g.so.nd.sublist (List.take_sublist ..), by
    have := g.so.le
    rw [List.length_take]
    omega⟩
  nd := List.nodup_nil
  ok := fun _ h => nomatch h
  m8 := Nat.zero_le _
  ra := fun _ h => nomatch h
  rn := List.Pairwise.nil
  rl := Nat.zero_le _
  kf := fun _ h => nomatch h
  ko := fun _ h => nomatch h
  rf := g.rf
theorem repr_shown (n m : Nat) : reprS n m = shownS n m := by
  unfold reprS shownS
  rw [show (Str.empty ++ ("Grammar(" : Str)) = Str.ofString "Grammar(" from by decide +kernel]
/-- an object made of these rows, when D was there -/
def ObjD (K : PySem.W.Frag) (P : Program) (w : World) (G D : Addr) (Y : Hp) (x : Addr) (g : G8) : Prop := ∃ Z : Hp, Z D ≠ none ∧ GrOk K P w G Z Y x g.rs g.ms g.ru g.roof ∧ Risen K G Z Y x g.rs g.ms g.ru g.roof
theorem srt_imm {α : Type} {f : α → PyData} (h : ∀ x, imm (f x) = true) (xs : List α) : immAll (srtR (xs.map f)) = true := by
  unfold srtR
  split
  · rename_i hx
    refine immAll_of fun d hd => ?_
    obtain ⟨x, _, rfl⟩ := List.mem_map.mp (hx.choose_spec.1.mem_iff.mp hd)
    exact h x
  · rfl
theorem ObjD.same {K : PySem.W.Frag} {P : Program} {w : World} {G D : Addr} {Y Y' : Hp} {x : Addr} {g : G8} (h : ObjD K P w G D Y x g) (s : Same Y Y') : ObjD K P w G D Y' x g := by
  obtain ⟨Z, h0, h1, h2⟩ := h
  exact ⟨Z, h0, h1.same s, h2.same s⟩
theorem ObjD.at_ {K : PySem.W.Frag} {P : Program} {w : World} {G D : Addr} {Y : Hp} {x : Addr} {g : G8} {b c : List V} (h : ObjD K P w G D Y x g) (hb : Y D = some (.lst b)) : ObjD K P w G D (upd Y D (.lst c)) x g := by
  obtain ⟨Z, h0, h1, h2⟩ := h
  have t : But D Y (upd Y D (.lst c)) := But.upd (But.refl D Y)
  exact ⟨Z, h0, h1.but h0 hb t, h2.but (srt_imm SRow.imm g.rs) (srt_imm MRow.imm g.ms) (srt_imm RRow.imm g.ru) h0 hb t⟩
theorem ObjD.r {K : PySem.W.Frag} {P : Program} {w : World} {G D : Addr} {Y : Hp} {x : Addr} {g : G8} (h : ObjD K P w G D Y x g) (f : g.fit) : ObjR K G Y x g.R := by
  obtain ⟨Z, _, _, h2⟩ := h
  exact ⟨Z, g.rs, g.ms, g.ru, g.roof, f, h2, rfl⟩
theorem sm3 (c : Bool) : Sm 2 (.list [.bool c, .bool c, .bool true]) := by
  cases c <;> exact okD_sm rfl (by decide) (by decide)
structure Ri8 (mg : Str → Option Value) : Prop where
  range : mg "range" = none
  zip : mg "zip" = none
  repr : mg "repr" = none
def spRight8 : Sp := fun vs H Q _ => ∃ (a : Addr) (b : List V), vs = [.ref a] ∧ H a = some (.lst b) ∧ BoxL 0 b ∧ ∀ H', But a H H' → Q (.bl true) H'
section
variable {P : Program} {w : World} {K : PySem.W.Frag} {mg : Str → Option Value} {base : Heap} {G fE fR : Addr} {fdE fdR : FuncData}
theorem fng_right8 (T : Ri8 mg) (FE : FnOk P w K mg base CX0 1 fE fdE N_GE (spEqX (EqG K G))) (hsE : PySem.W.findIn K (.ref G) "__eq__" = some (some (.ref fE))) (hfE : PySem.W.isFn K (.ref fE) = true) (hbE : Binds K fdE N_GE [])
    (FR : FnOk P w K mg base CX0 1 fR fdR N_GSf (spGRepr K P w G)) (hsR : PySem.W.findIn K (.ref G) "__repr__" = some (some (.ref fR))) (hfR : PySem.W.isFn K (.ref fR) = true) (hbR : Binds K fdR N_GSf [])
    (c_law_take : C8.Cal P w K mg base 1 "_law_take" spTake []) (c_law_any : C8.Cal P w K mg base 6 "_law_any" (spAny6 K P w) []) (c_law_mixed : C8.Cal P w K mg base 3 "_law_mixed" (spMixed K P w) []) (c_law_turned : C8.Cal P w K mg base 3 "_law_turned" (spTurned8 K P w) [])
    (c_law_sorted_out : C8.Cal P w K mg base 1 "_law_sorted_out" (spSorted8 K P w) []) (c_law_made_of : C8.Cal P w K mg base 8 "_law_made_of" (spMade K P w G) []) (c_law_known : CalG P w K mg base 2 "_law_known" (spKnown K)) (c_law_same : C8.Cal P w K mg base 3 "_law_same" (spSame K 2) []) (c_law_shown : C8.Cal P w K mg base 1 "_law_shown" (spShown K) [])
    {f : Addr} {fd : FuncData} (F : L2.Fun K "_law_right" "_law_right" s__law_right f fd) : FnG P w K mg base 9 f fd P__law_right spRight8 := by
  refine fng_of F sc__law_right (fun vs H Q E h => ?_) (fun cdv A outer s H vs Q E hg hr h => ?_)
  · obtain ⟨a, b, rfl, _⟩ := h
    rfl
  · obtain ⟨a, b, rfl, ha, hB, q⟩ := h
    refine ⟨_, (C8.pss_cut (ps_set (i := 1) sc__law_right.nd rfl (Or.inl rfl) (C8.pe_c c_law_any hr (by decide) (by rfl) (pa_cons (pv 0) pa_nil)))
        (C8.pss_cut (ps_set (i := 2) sc__law_right.nd rfl (Or.inl rfl) (pe_lst (pa_cons (pv 1) (pa_cons (C8.pe_c c_law_mixed hr (by decide) (by rfl) (pa_cons (pv 0) (pa_cons (pv 1) pa_nil))) (pa_cons (C8.pe_c c_law_sorted_out hr (by decide) (by rfl) (pa_cons (pe_dget (hu_of hr) (pv 1) pe_str (fun _ _ => rfl)) (pa_cons (pe_slice (r := rSlL K) sl_list (pe_dget (hu_of hr) (pv 1) pe_str (fun _ _ => rfl)) po_none (po_some pe_int)) (pa_cons (pe_lst pa_nil) (pa_cons (pe_lst pa_nil) pa_nil))))) pa_nil)))))
        (C8.pss_cut (ps_for PassesOwn.never rfl (pi_range1 rfl T.range (pa_cons pe_int pa_nil)) (pg_name (i := 3) sc__law_right.nd rfl (Or.inl rfl))
          (pss_one (ps_expr (pe_bm PySem.F.plainAttrs_list PySem.F.slot_list_append PySem.F.type_list_append mt_append (pv 2) (pa_cons (C8.pe_c c_law_mixed hr (by decide) (by rfl) (pa_cons (pv 0) (pa_cons (C8.pe_c c_law_turned hr (by decide) (by rfl) (pa_cons (pv 0) (pa_cons (pe_ix (r := rIxL K) ix_list (pv 2) (pe_ix (r := rIxL K) ix_list (pe_lst (pa_cons pe_int (pa_cons (pe_un un_neg pe_int) pa_nil))) (C8.pe_c c_law_take hr (by decide) (by rfl) (pa_cons (pv 0) (pa_cons pe_int pa_nil))) (fun _ _ => rfl)) (fun _ _ => rfl)) pa_nil))) pa_nil))) pa_nil)))))
        (C8.pss_cut (ps_setLc (i := 4) (own := [("_law_one", 5)]) (by exact rfl) sc__law_right.nd rfl rfl (sw_true rfl rfl rfl (by decide +kernel)) (pi_list (pv 2)) (blkOk_by (own := [("_law_one", 5)]) (N := N__law_right) (sc := defScope s__law_right) (by decide +kernel)) (fun _ _ _ _ _ => (pg_name (i := 5) sc__law_right.nd rfl (Or.inl rfl))) (fun _ _ _ _ _ => pts_nil) (fun _ _ _ _ _ => (C8.pe_c c_law_made_of hr (by decide) (by rfl) (pa_cons (pv 5) pa_nil))))
        (C8.pss_cut (ps_for PassesOwn.never rfl (pi_zip (by rfl) T.zip (pa_cons (pv 2) (pa_cons (pv 4) pa_nil))) (pg_tup rfl (pgs_cons (pg_name (i := 5) sc__law_right.nd rfl (Or.inl rfl)) (pgs_cons (pg_name (i := 6) sc__law_right.nd rfl (Or.inl rfl)) pgs_nil)))
          (C8.pss_cut (ps_set (i := 7) sc__law_right.nd rfl (Or.inl rfl) (pe_cmpR (show OpR _ _ (rEqD K) from op_eqD hr.units) (pe_cG c_law_known hg hr (by decide) (by rfl) (pa_cons (pv 5) pa_nil)) (pe_cG c_law_known hg hr (by decide) (by rfl) (pa_cons (pv 1) pa_nil)) (nomark _)))
        (C8.pss_cut (ps_set (i := 8) sc__law_right.nd rfl (Or.inl rfl) (pe_lst (pa_cons (pe_cmpR (r := rEqX G (EqG K G) false) (op_eqX FE hsE hfE hbE pass0 (hr.mono (by decide))) (pv 6) (pe_ix (r := rIxL K) ix_list (pv 4) pe_int (fun _ _ => rfl)) (nomark _)) (pa_cons (pe_cmpR (r := rEqX G (EqG K G) false) (op_eqX FE hsE hfE hbE pass0 (hr.mono (by decide))) (pe_ix (r := rIxL K) ix_list (pv 4) pe_int (fun _ _ => rfl)) (pv 6) (nomark _)) (pa_cons (pe_cmpR (r := rEqX G (EqG K G) false) (op_eqX FE hsE hfE hbE pass0 (hr.mono (by decide))) (pv 6) (pv 6) (nomark _)) pa_nil)))))
        (pss_one (ps_if (PW.pt (pw_or (pt_not (pt_val (C8.pe_c c_law_same hr (by decide) (by rfl) (pa_cons (pv 8) (pa_cons (pe_lst (pa_cons (pv 7) (pa_cons (pv 7) (pa_cons pe_bl pa_nil)))) pa_nil))))) (pw_or (pt_cmpR op_ne (pe_callB (call_reprOwn (E := C8.E0) FR hsR hfR hbR pass0 (hr.mono (by decide))) (by rfl) T.repr (by decide +kernel) (pa_cons (pv 6) pa_nil)) (C8.pe_c c_law_shown hr (by decide) (by rfl) (pa_cons (pv 5) pa_nil)) (nomark _)) (pw_or1 (pt_cmpR op_ne (pe_callB (call_reprOwn (E := C8.E0) FR hsR hfR hbR pass0 (hr.mono (by decide))) (by rfl) T.repr (by decide +kernel) (pa_cons (pv 6) pa_nil)) (C8.pe_c c_law_shown hr (by decide) (by rfl) (pa_cons (pv 5) pa_nil)) (nomark _))))))
          (pss_one (ps_ret pe_bl))
          pss_nil)))))
        (pss_one (ps_ret pe_bl))))))), ?_⟩
    -- the law's grammar
    refine ⟨fun σ Y => ∃ (g : G8) (b1 : List V), σ = [some (.ref a), some (.ref g.gd), none, none, none, none, none, none, none] ∧ But a H Y ∧ Y a = some (.lst b1) ∧ BoxL 8010 b1 ∧ g.inn K Y a ∧ g.fit, ?_, ?_⟩
    · exact ⟨_, rfl, a, 0, b, rfl, ha, hB, by decide, fun Y gd rs ms ru roof b' bt _ gi gf _ _ hh hb hB' => ⟨⟨gd, rs, ms, ru, roof⟩, b', rfl, bt, hb, hB'.mono (by omega), gi, gf⟩⟩
    rintro σ Y ⟨g, b1, rfl, bY, hb1, hB1, gi, gf⟩
    -- three to begin with
    refine ⟨fun σ Z => ∃ (L : Addr) (g2 g3 : G8) (b2 : List V), σ = [some (.ref a), some (.ref g.gd), some (.ref L), none, none, none, none, none, none] ∧ But a H Z ∧ L ≠ a ∧ H L = none ∧ Z a = some (.lst b2) ∧ BoxL 8310 b2 ∧ Z L = some (.lst [.ref g.gd, .ref g2.gd, .ref g3.gd]) ∧ In2 K Z a L g ∧ In2 K Z a L g2 ∧ In2 K Z a L g3, ?_, ?_⟩
    · refine ⟨_, rfl, _, rfl, _, rfl, a, g.gd, g.rs, g.ms, g.ru, g.roof, 8010, b1, rfl, gi, gf, hb1, hB1, by decide, fun Y2 gd2 rs2 ms2 ru2 b2 bt2 n2 gi2 q1 q2 q3 hb2 hB2 => ?_⟩
      have gY2 : GramIn K Y2 a g.gd g.rs g.ms g.ru g.roof := GramIn.go2 gi gi hb1 bt2
      obtain ⟨ls, lm, lr, of, gkv, gs, _⟩ := gY2.ex
      obtain ⟨sv, a1, a2⟩ := gs.hls
      have dg : ∀ {k : Str} {v : V}, valV gkv (Sum.inr k) = some v → DGet Y2 g.gd (.str k) (some v) := fun {k v} h => by
        have e := DGet.k (k := Sum.inr k) gs.hgd
        rw [h] at e
        exact e
      refine ⟨_, rfl, g.gd, .int g.roof, rfl, dg gs.cap, _, rfl, g.gd, .ref ls, rfl, dg gs.so, ?_⟩
      refine ⟨_, rfl, ls, sv, rfl, SqL.of a1, fun p np => ?_⟩
      have cut1 : cutV sv none (some (1 : Int)) = sv.take 1 := cutV_to sv 1
      rw [cut1]
      refine ⟨by show 0 ≤ sizeLine; decide, fun l1 e1 => ⟨by show 0 ≤ sizeLine; decide, fun l2 e2 => ?_⟩⟩
      have s0 := same_upd (o := .lst (sv.take 1)) np
      have s1 := same_upd (o := .lst []) e1
      have s2 := same_upd (o := .lst []) e2
      have sA := s0.trans (s1.trans s2)
      have na : ∀ {c : Addr}, Y2 c = none → c ≠ a := fun {c} h z => by
        rw [z, hb2] at h
        cases h
      refine ⟨g.roof, p, l1, l2, g.rs.take 1, [], [], sv.take 1, [], [], rfl, ⟨(s1.trans s2) _ _ upd_same, s2 _ _ upd_same, upd_same, ?_, .nil, .nil, (one_fit gf).so.nd, List.nodup_nil, List.Pairwise.nil, by rw [List.length_take]; omega, Nat.zero_le _, Nat.zero_le _⟩, fun Y3 gd3 s3 n3 gi3 _ => ?_⟩
      · rw [List.map_take]
        exact dpAll_take 1 (dpAll_same sA a2)
      refine ⟨by show 3 ≤ sizeLine; decide, fun L nL => ?_⟩
      have s4 := same_upd (o := .lst [.ref g.gd, .ref gd2, .ref gd3]) nL
      have sB := sA.trans s3
      have hb3 := sB _ _ hb2
      have nL2 := sB.free nL
      refine ⟨L, ⟨gd2, rs2, ms2, ru2, g.roof⟩, ⟨gd3, g.rs.take 1, [], [], g.roof⟩, b2, rfl, (bY.trans bt2).trans (But.of (sB.trans s4)), na nL2, But.free ((bY.trans bt2).trans (But.of sB)) hb3 nL, s4 _ _ hb3, hB2.mono (by decide), upd_same, In2.new gf gY2 hb2 nL2 (sB.trans s4), In2.new (gf.perm q1 q2 q3) (gi2 a (.inl rfl)) hb2 nL2 (sB.trans s4), In2.new (g := ⟨gd3, g.rs.take 1, [], [], g.roof⟩) (one_fit gf) (gi3 a (na np) (na (s0.free e1)) (na ((s0.trans s1).free e2))) hb3 nL s4⟩
    rintro σ Z ⟨L, g2, g3, b2, rfl, bZ, nLa, nHL, hb2, hB2, hL, i1, i2, i3⟩
    -- ten more
    refine ⟨fun σ Z => ∃ (xs : List G8) (b3 : List V) (y3 : Option V), σ = [some (.ref a), some (.ref g.gd), some (.ref L), y3, none, none, none, none, none] ∧ But a H Z ∧ Z a = some (.lst b3) ∧ Z L = some (.lst (xs.map fun x => .ref x.gd)) ∧ xs[0]? = some g ∧ xs.length = 13 ∧ ∀ x ∈ xs, In2 K Z a L x, ?_, ?_⟩
    · refine ⟨10, rfl, by decide, by decide, for_range (lo := 0) (n := Int.toNat 10) (fun j σ Z => ∃ (xs : List G8) (b3 : List V) (y3 : Option V), σ = [some (.ref a), some (.ref g.gd), some (.ref L), y3, none, none, none, none, none] ∧ But a H Z ∧ Z a = some (.lst b3) ∧ BoxL (8310 + 400 * j) b3 ∧ Z L = some (.lst (xs.map fun x => .ref x.gd)) ∧ xs[0]? = some g ∧ xs.length = 3 + j ∧ ∀ x ∈ xs, In2 K Z a L x)
        ⟨[g, g2, g3], b2, none, rfl, bZ, hb2, hB2, hL, rfl, rfl, fun x hx => by
          simp only [List.mem_cons, List.not_mem_nil, or_false] at hx
          rcases hx with rfl | rfl | rfl
          · exact i1
          · exact i2
          · exact i3⟩ ?_ ?_⟩
      · rintro j σ U hj ⟨xs, bj, y3, rfl, bU, hbU, hBU, hLU, x0, lx, hx⟩
        have hj10 : j < 10 := hj
        refine ⟨_, rfl, .inl ⟨rfl, _, SqL.of hLU⟩, ?_⟩
        refine ⟨_, rfl, _, rfl, _, rfl, ?_⟩
        refine ⟨1, rfl, by show 2 ≤ sizeLine; decide, fun l nl => ?_⟩
        have sl_ := same_upd (o := .lst [.int 0, .int (-1)]) nl
        have hl : (upd U l (.lst [.int 0, .int (-1)])) l = some (.lst [.int 0, .int (-1)]) := upd_same
        have hb1 := sl_ _ _ hbU
        generalize upd U l (.lst [V.int 0, V.int (-1)]) = U1 at sl_ hl hb1 ⊢
        have nla : l ≠ a := fun z => by
          rw [z, hbU] at nl
          cases nl
        refine ⟨_, rfl, a, 2, _, bj, rfl, hb1, hBU, by omega, by decide, by decide, fun c b2 c0 c2 hB2 => ?_⟩
        have b12 : But a U1 (upd U1 a (.lst b2)) := But.upd (But.refl a U1)
        have hb2 : (upd U1 a (.lst b2)) a = some (.lst b2) := upd_same
        generalize upd U1 a (.lst b2) = U2 at b12 hb2 ⊢
        have bU2 := (But.of (a := a) sl_).trans b12
        obtain ⟨i, x, e1, e2, hxm⟩ : ∃ (i : Int) (x : G8), atI [V.int 0, V.int (-1)] c = some (.int i) ∧ atI (xs.map fun x => V.ref x.gd) i = some (.ref x.gd) ∧ x ∈ xs := by
          have hc : c = 0 ∨ c = 1 := by omega
          rcases hc with rfl | rfl
          · exact ⟨0, g, rfl, atI_nat (j := 0) (by rw [List.getElem?_map, x0]; rfl), List.mem_of_getElem? x0⟩
          · have hl : xs.length - 1 < xs.length := by omega
            have hd : xs = xs.dropLast ++ [xs[xs.length - 1]] := by
              have hne : xs ≠ [] := fun z => by
                rw [z, List.length_nil] at lx
                omega
              rw [← List.getLast_eq_getElem hne]
              exact (List.dropLast_concat_getLast hne).symm
            refine ⟨-1, xs[xs.length - 1], rfl, ?_, List.getElem_mem hl⟩
            have e0 : (xs.map fun x => V.ref x.gd) = (xs.dropLast.map fun x => V.ref x.gd) ++ [V.ref (xs[xs.length - 1]).gd] := by
              conv => lhs; rw [hd]
              rw [List.map_append]
              rfl
            rw [e0]
            exact atI_last _ _
        refine ⟨l, _, c, _, rfl, rfl, SqL.of (b12 _ _ nla hl), e1, L, _, i, _, rfl, rfl, SqL.of (bU2 _ _ nLa hLU), e2, ?_⟩
        have ix := (hx x hxm).box hbU bU2
        refine ⟨a, x.gd, x.rs, x.ms, x.ru, x.roof, _, b2, rfl, ix.2.1, ix.1, hb2, hB2, by omega, fun U3 gd' rs' ms' ru' roof' b4 bt n gi' gf' hb4 hB4 => ?_⟩
        refine ⟨a, gd', rs', ms', ru', roof', _, b4, rfl, gi', gf', hb4, hB4, by omega, fun U4 gd5 rs5 ms5 ru5 b5 bt5 n5 gi5 q1 q2 q3 hb5 hB5 => ?_⟩
        have bU4 := (bU2.trans bt).trans bt5
        have hL3 := (bU2.trans bt) _ _ nLa hLU
        have hL4 := bU4 _ _ nLa hLU
        have tL : ∀ {o : HO}, But L U4 (upd U4 L o) := fun {o} => But.upd (But.refl L U4)
        refine ⟨L, _, .ref gd5, rfl, rfl, hL4, small1000 (by rw [List.length_map]; omega), ?_⟩
        refine ⟨xs ++ [⟨gd5, rs5, ms5, ru5, roof'⟩], b5, _, rfl, ?_, ?_, hB5.mono (by omega), ?_, ?_, ?_, ?_⟩
        · exact fun d oo nd hd => by
            rw [upd_ne (ne_of_none hd nHL)]
            exact (bU.trans bU4) d oo nd hd
        · rw [upd_ne nLa.symm]
          exact hb5
        · rw [upd_same, List.map_append]
          rfl
        · rw [List.getElem?_append_left (by omega)]
          exact x0
        · rw [List.length_append, lx]
          rfl
        · intro y hy
          rcases List.mem_append.mp hy with hy | hy
          · exact ((hx y hy).box hbU bU4).lst hL4 tL
          · rw [List.mem_singleton] at hy
            subst hy
            exact In2.lst ⟨gf'.perm q1 q2 q3, gi5 a (.inl rfl), gi5 L (.inr (fun z => by rw [z] at hL3; cases hL3))⟩ hL4 tL
      · rintro σ U ⟨xs, bj, y3, rfl, bU, hbU, hBU, hLU, x0, lx, hx⟩
        exact ⟨xs, bj, y3, rfl, bU, hbU, hLU, x0, lx, hx⟩
    rintro σ Z ⟨xs, b3, y3, rfl, bZ, hb3, hL, x0, lx, hx⟩
    -- grammars made of them
    refine ⟨fun σ W => ∃ (M : Addr) (ys : List Addr), σ = [some (.ref a), some (.ref g.gd), some (.ref L), y3, some (.ref M), none, none, none, none] ∧ Same Z W ∧ W M = some (.lst (ys.map V.ref)) ∧ ys.length = 13 ∧ Paired (fun y x => ObjD K P w G M W y x) ys xs, ?_, ?_⟩
    · refine ⟨_, rfl, L, rfl, ⟨_, SqL.of hL⟩, fun D nD => ?_⟩
      have nDL : L ≠ D := ne_of_none hL nD
      refine lc_list (K := K) (a := L) (xs := xs.map fun x => V.ref x.gd) (fun j W => Same Z W ∧ ∃ ys : List Addr, W D = some (.lst (ys.map V.ref)) ∧ ys.length = j ∧ Paired (fun y x => ObjD K P w G D W y x) ys (xs.take j)) ⟨same_upd nD, [], upd_same, rfl, .nil⟩ (fun j W _ h => SqL.of (h.1 _ _ hL)) ?_ ?_
      · rintro j x W hj ⟨sW, ys, hD, ly, hp⟩
        rw [List.getElem?_map] at hj
        obtain ⟨y, hy, rfl⟩ : ∃ y, xs[j]? = some y ∧ x = .ref y.gd := by
          cases h : xs[j]? with
          | none => rw [h] at hj; cases hj
          | some e => rw [h] at hj; exact ⟨e, rfl, (Option.some.inj hj).symm⟩
        have hj13 : j < xs.length := (List.getElem?_eq_some_iff.mp hy).1
        refine ⟨rfl, yesT ?_⟩
        have iy := hx y (List.mem_of_getElem? hy)
        refine ⟨_, rfl, a, y.gd, y.rs, y.ms, y.ru, y.roof, rfl, GramIn.go2 iy.2.1 iy.2.1 hb3 (But.of sW), iy.1, fun W2 o s2 no gr ri => ?_⟩
        have hD2 := s2 _ _ hD
        refine ⟨_, hD2, small1000 (by rw [List.length_map]; omega), Same.at_ (sW.trans s2) nD, ys ++ [o], by rw [upd_same, List.map_append]; rfl, by rw [List.length_append, ly]; rfl, ?_⟩
        rw [List.take_add_one, hy]
        exact paired_snoc (paired_mono (fun q z h => (h.same s2).at_ hD2) hp) (ObjD.at_ (g := y) ⟨W, (fun z => by rw [hD] at z; cases z), gr, ri⟩ hD2)
      · rintro W ⟨sW, ys, hD, ly, hp⟩
        rw [List.length_map] at ly hp
        rw [List.take_length] at hp
        exact ⟨D, ys, rfl, sW, hD, ly.trans lx, hp⟩
    rintro σ W ⟨M, ys, rfl, sW, hM, ly, hp⟩
    refine ⟨fun σ V => Same W V, ?_, ?_⟩
    · refine ⟨_, rfl, _, rfl, L, M, _, _, rfl, SqL.of (sW _ _ hL), SqL.of hM, ?_⟩
      refine for_it (walk_zip (n := 13) (by rw [List.length_map, List.length_map, lx, ly]; rfl)) (fun _ σ U => ∃ y5 y6 y7 y8 : Option V, σ = [some (.ref a), some (.ref g.gd), some (.ref L), y3, some (.ref M), y5, y6, y7, y8] ∧ Same W U) ⟨none, none, none, none, rfl, Same.refl W⟩ (fun j σ V _ ⟨_, _, _, _, _, s⟩ => ⟨SqL.of (s _ _ (sW _ _ hL)), SqL.of (s _ _ hM)⟩) ?_ ?_
      · rintro j v σ V0 V hj ⟨y5, y6, y7, y8, rfl, sV⟩ ⟨T, x, y, rfl, nT, rfl, ex, ey⟩
        have hj13 : j < 13 := hj
        obtain ⟨z, hz, rfl⟩ : ∃ z, xs[j]? = some z ∧ x = .ref z.gd := by
          have ex : (xs.map fun x => V.ref x.gd)[j]? = some x := ex
          rw [List.getElem?_map] at ex
          cases h : xs[j]? with
          | none => rw [h] at ex; cases ex
          | some e => rw [h] at ex; exact ⟨e, rfl, (Option.some.inj ex).symm⟩
        obtain ⟨o, ho, rfl⟩ : ∃ o, ys[j]? = some o ∧ y = .ref o := by
          have ey : (ys.map V.ref)[j]? = some y := ey
          rw [List.getElem?_map] at ey
          cases h : ys[j]? with
          | none => rw [h] at ey; cases ey
          | some e => rw [h] at ey; exact ⟨e, rfl, (Option.some.inj ey).symm⟩
        obtain ⟨z', hz', od⟩ := paired_ix hp ho
        obtain rfl : z = z' := Option.some.inj (hz.symm.trans hz')
        have sT := same_upd (o := .tup [.ref z.gd, .ref o]) nT
        have hT : (upd V0 T (.tup [.ref z.gd, .ref o])) T = some (.tup [.ref z.gd, .ref o]) := upd_same
        have sV1 := sV.trans sT
        generalize upd V0 T (.tup [.ref z.gd, .ref o]) = V1 at sT hT sV1 ⊢
        refine ⟨T, _, rfl, SqT.of hT, rfl, _, _, rfl, ?_⟩
        refine ⟨_, _, rfl, ?_⟩
        have iz := hx z (List.mem_of_getElem? hz)
        have ig := hx g (List.mem_of_getElem? x0)
        have sZ1 := sW.trans sV1
        have gdz : ∀ {U : Hp}, Same V1 U → GD K U z.gd z.rs z.ms z.ru z.roof := fun {U} s => (GramIn.go2 iz.2.1 iz.2.1 hb3 (But.of (sZ1.trans s))).gd
        have gdg : ∀ {U : Hp}, Same V1 U → GD K U g.gd g.rs g.ms g.ru g.roof := fun {U} s => (GramIn.go2 ig.2.1 ig.2.1 hb3 (But.of (sZ1.trans s))).gd
        obtain ⟨o0, ho0⟩ : ∃ o0, ys[0]? = some o0 := ⟨ys[0]'(by omega), List.getElem?_eq_getElem (by omega)⟩
        obtain ⟨g', hg', og⟩ := paired_ix hp ho0
        obtain rfl : g = g' := Option.some.inj (x0.symm.trans hg')
        have od1 := od.same sV1
        have og1 := og.same sV1
        have hM1 := sV1 _ _ hM
        -- is it due?
        refine ⟨rfl, fun σ U => σ = [some (.ref a), some (.ref g.gd), some (.ref L), y3, some (.ref M), some (.ref z.gd), some (.ref o), some (.bl (PyData.eqv z.R g.R)), y8] ∧ Same V1 U, ?_, ?_⟩
        · refine ⟨_, rfl, z.gd, z.rs, z.ms, z.ru, z.roof, rfl, gdz (Same.refl V1), iz.1, fun V2 k1 s2 nk1 _ _ _ d1 => ?_⟩
          refine ⟨_, rfl, g.gd, g.rs, g.ms, g.ru, g.roof, rfl, gdg s2, ig.1, fun V3 k2 s3 nk2 _ _ _ d2 => ?_⟩
          refine ⟨_, _, dp_same s3 d1, d2, kn_shape iz.1, kn_shape ig.1, ?_⟩
          rw [eqv_known iz.1 ig.1]
          exact ⟨rfl, s2.trans s3⟩
        rintro σ V2 ⟨rfl, s2⟩
        -- what is told
        refine ⟨fun σ U => ∃ l : Addr, σ = [some (.ref a), some (.ref g.gd), some (.ref L), y3, some (.ref M), some (.ref z.gd), some (.ref o), some (.bl (PyData.eqv z.R g.R)), some (.ref l)] ∧ Same V2 U ∧ U l = some (.lst [.bl (PyData.eqv z.R g.R), .bl (PyData.eqv z.R g.R), .bl true]), ?_, ?_⟩
        · refine ⟨_, rfl, _, rfl, M, _, 0, .ref o0, rfl, rfl, SqL.of (s2 _ _ hM1), atI_nat (j := 0) (by rw [List.getElem?_map, ho0]; rfl), ?_⟩
          refine eq_obj ((od1.same s2).r iz.1) ((og1.same s2).r ig.1) fun V3 s3 => ?_
          refine ⟨_, rfl, M, _, 0, .ref o0, rfl, rfl, SqL.of (s3 _ _ (s2 _ _ hM1)), atI_nat (j := 0) (by rw [List.getElem?_map, ho0]; rfl), ?_⟩
          refine ⟨_, rfl, ?_⟩
          refine eq_obj ((og1.same (s2.trans s3)).r ig.1) ((od1.same (s2.trans s3)).r iz.1) fun V4 s4 => ?_
          refine ⟨_, rfl, _, rfl, ?_⟩
          have s24 := (s2.trans s3).trans s4
          refine eq_obj ((od1.same s24).r iz.1) ((od1.same s24).r iz.1) fun V5 s5 => ?_
          refine ⟨by show 3 ≤ sizeLine; decide, fun l nl => ⟨l, rfl, (s3.trans s4).trans (s5.trans (same_upd nl)), ?_⟩⟩
          rw [upd_same, PySem.W.eqv_comm g.R z.R, show PyData.eqv z.R z.R = true from SeqAt.eqv_refl _ (SeqAt.canLay_of_shaped (risen_shape iz.1))]
        rintro σ V3 ⟨l, rfl, s3, hl⟩
        refine ⟨_, rfl, _, rfl, _, rfl, by show 3 ≤ sizeLine; decide, fun l2 nl2 => ?_⟩
        have s4 := same_upd (o := .lst [.bl (PyData.eqv z.R g.R), .bl (PyData.eqv z.R g.R), .bl true]) nl2
        refine ⟨.ref l, .ref l2, _, rfl, .lst (SqL.of (s4 _ _ hl)) (.cons (.bl _) (.cons (.bl _) (.cons (.bl _) .nil))), .lst (SqL.of upd_same) (.cons (.bl _) (.cons (.bl _) (.cons (.bl _) .nil))), sm3 _, fun V4 s5 => ⟨_, rfl, iteF ?_⟩⟩
        have sAll := s2.trans (s3.trans (s4.trans s5))
        have f4 := iz.1.so.le
        have f8 := iz.1.m8
        have odA := od1.same sAll
        obtain ⟨Zo, hZo, gro, rio⟩ := odA
        obtain ⟨dx, sd, md, rd, kd, rt, hxo, _⟩ := gro.ex
        refine ⟨_, rfl, o, dx, _, rfl, hxo, Zo, o, z.rs, z.ms, z.ru, z.roof, rfl, gro, f4, f8, _, rfl, ?_⟩
        refine ⟨_, rfl, z.gd, z.rs, z.ms, z.ru, z.roof, rfl, gdz sAll, f4, f8, ?_⟩
        rw [repr_shown]
        generalize shownS z.rs.length z.ms.length = tx
        refine ⟨rfl, _, rfl, ifF (by rw [decide_eq_true rfl]; rfl) ?_⟩
        refine ⟨_, rfl, o, dx, _, rfl, hxo, Zo, o, z.rs, z.ms, z.ru, z.roof, rfl, gro, f4, f8, _, rfl, ?_⟩
        refine ⟨_, rfl, z.gd, z.rs, z.ms, z.ru, z.roof, rfl, gdz sAll, f4, f8, ?_⟩
        rw [repr_shown]
        generalize shownS z.rs.length z.ms.length = tx
        refine ⟨rfl, _, rfl, ifF (by rw [decide_eq_true rfl]; rfl) ?_⟩
        exact ⟨_, _, _, _, rfl, sV1.trans sAll⟩
      · rintro σ V ⟨y5, y6, y7, y8, rfl, sV⟩
        exact sV
    rintro σ V sV
    exact q _ (bZ.trans (But.of (sW.trans sV)))
end
/-! ### the law -/
abbrev s_law : Stmt := top 71
abbrev N_law : List Str := ["_law_script", "_law_cells", "_law_k"]
abbrev P_law : List Str := ["_law_script"]
theorem sc_law : FnScope N_law P_law (defScope s_law) := ⟨rfl, rfl, rfl, by decide +kernel, rfl, by decide +kernel, by decide +kernel⟩
structure GMk0 (P : Program) (w : World) (K : PySem.W.Frag) (mg : Str → Option Value) (base : Heap) (G : Addr) : Prop where
  ex : ∃ (f : Addr) (fd : FuncData) (ds : List Value), FnOk P w K mg base CX0 6 f fd P_GI (spGI K P w G) ∧ Mk K G f ∧ mg "Grammar" = some (.ref G) ∧ Binds K fd P_GI ds ∧ Vals [.int 0] ds
theorem gmk0_of {P : Program} {w : World} {K : PySem.W.Frag} {mg : Str → Option Value} {base : Heap} {G f : Addr} {fd : FuncData} (F : FunD K "__init__" "Grammar.__init__" (defArgs s_GI) (defBody s_GI) (defScope s_GI) [] [("cap", .int 0)] f fd) (ok : FnOk P w K mg base CX0 6 f fd P_GI (spGI K P w G)) (M : Mk K G f) (hm : mg "Grammar" = some (.ref G)) : GMk0 P w K mg base G := by
  obtain ⟨ds, hv, hb⟩ := FunD.binds0 (ps := P_GI) F 4 (by simp) rfl (fun D doc pm an cdv ct us ks hl hk => match us, ks, hl, hk with
    | [_, _, _, _], [_], _, _ => ⟨_, _, _, _, _, _, rfl, rfl, rfl⟩)
  exact ⟨f, fd, ds, ok, M, hm, hb, hv⟩
theorem mk_gram8 {P : Program} {w : World} {K : PySem.W.Frag} {G : Addr} {H : Hp} {ls lm lr : Addr} {sv mv rv : List V} {rs : List SRow} {ms : List MRow} {ru : List RRow} {x dx : Addr} {R : Hp → Prop} {E : XK} (nx : H x = none) (ndx : H dx = none) (ndd : dx ≠ x) (hls : H ls = some (.lst sv)) (hlm : H lm = some (.lst mv)) (hlr : H lr = some (.lst rv)) (d1 : DpAll K H sv (rs.map SRow.d)) (d2 : DpAll K H mv (ms.map MRow.d)) (d3 : DpAll K H rv (ru.map RRow.d)) (gf : GFit rs ms ru 0)
    (q : ∀ (H' : Hp), Same H H' → GrOk K P w G H H' x rs ms ru 0 → Risen K G H H' x rs ms ru 0 → R H') :
    spGI K P w G (.ref x :: ([.ref ls, .ref lm, .ref lr] ++ [.int 0])) (upd (upd H dx (.own x)) x (.ins G dx [])) (fun v H2 => v = .non ∧ R H2) E := by
  have nx2 : (upd H dx (.own x)) x = none := by
    rw [upd_ne (Ne.symm ndd)]
    exact nx
  have s5 := (same_upd (o := .own x) ndx).trans (same_upd (o := .ins G dx []) nx2)
  exact ⟨x, dx, ls, lm, lr, 0, sv, mv, rv, rs, ms, ru, rfl, upd_same, s5 _ _ hls, s5 _ _ hlm, s5 _ _ hlr, dpAll_same s5 d1, dpAll_same s5 d2, dpAll_same s5 d3, gf, fun H' bt gr ri => ⟨rfl, q _ (fun b o hb => bt b o (ne_of_none hb nx) (s5 b o hb)) (gr.less s5) (ri.less s5)⟩⟩
def spLaw (K : PySem.W.Frag) : Sp := fun vs H Q _ => ∃ (a : Addr) (ns : List Int), vs = [.ref a] ∧ SqL K H a (ns.map V.int) ∧ ns.length ≤ 63 ∧ ∀ H', Q (.bl true) H'
structure La8 (mg : Str → Option Value) : Prop where
  all : mg "all" = none
  range : mg "range" = none
  max : mg "max" = none
  len : mg "len" = none
  repr : mg "repr" = none
theorem bare_fit0 : GFit [] [] [] 0 where
  so := ⟨(fun _ h => nomatch h), List.nodup_nil, Nat.zero_le _⟩
  nd := List.nodup_nil
  ok := fun _ h => nomatch h
  m8 := Nat.zero_le _
  ra := fun _ h => nomatch h
  rn := List.Pairwise.nil
  rl := Nat.zero_le _
  kf := fun _ h => nomatch h
  ko := fun _ h => nomatch h
  rf := Nat.zero_le _
theorem bare_text : reprS ([] : List SRow).length ([] : List MRow).length = ("Grammar(0 sorts, 0 makings)" : Str) := by decide +kernel
section
variable {P : Program} {w : World} {K : PySem.W.Frag} {mg : Str → Option Value} {base : Heap} {G fE fR : Addr} {fdE fdR : FuncData}
theorem fng_law8 (T : La8 mg) (GK0 : GMk0 P w K mg base G) (FE : FnOk P w K mg base CX0 1 fE fdE N_GE (spEqX (EqG K G))) (hsE : PySem.W.findIn K (.ref G) "__eq__" = some (some (.ref fE))) (hfE : PySem.W.isFn K (.ref fE) = true) (hbE : Binds K fdE N_GE [])
    (FR : FnOk P w K mg base CX0 1 fR fdR N_GSf (spGRepr K P w G)) (hsR : PySem.W.findIn K (.ref G) "__repr__" = some (some (.ref fR))) (hfR : PySem.W.isFn K (.ref fR) = true) (hbR : Binds K fdR N_GSf [])
    (c_law_folded : C8.Cal P w K mg base 1 "_law_folded" (spFold K) []) (c_law_dip : C8.Cal P w K mg base 1 "_law_dip" (spDip K) []) (c_law_right : CalG P w K mg base 9 "_law_right" spRight8)
    {f : Addr} {fd : FuncData} (F : L2.Fun K "law" "law" s_law f fd) : FnG P w K mg base 10 f fd ["_law_script"] (spLaw K) := by
  refine fng_of F sc_law (fun vs H Q E h => ?_) (fun cdv A outer s H vs Q E hg hr h => ?_)
  · obtain ⟨a, ns, rfl, _⟩ := h
    rfl
  · obtain ⟨a, ns, rfl, hS, hlen, q⟩ := h
    obtain ⟨fG, fdG, ds0, FG, GM, gmg, gb0, gd0⟩ := GK0.ex
    refine ⟨_, (pss_cons (ps_set (i := 1) sc_law.nd rfl (Or.inr rfl) (C8.pe_c c_law_folded hr (by decide) (by rfl) (pa_cons (pv 0) (pa_cons pe_int pa_nil))))
        (C8.pss_cut (ps_if (PW.pt (pw_or (pt_cmpR op_ne (pe_callB (call_reprOwn (E := C8.E0) FR hsR hfR hbR pass0 (hr.mono (by decide))) (by rfl) T.repr (by decide +kernel) (pa_cons (pe_make GM FG (hr.mono (by decide)) (by rfl) gmg gb0 gd0 pass0 (pa_cons (pe_lst pa_nil) (pa_cons (pe_lst pa_nil) (pa_cons (pe_lst pa_nil) pa_nil)))) pa_nil)) pe_str (nomark _)) (pw_or1 (pt_not (pt_cmpR (r := rEqX G (EqG K G) false) (op_eqX FE hsE hfE hbE pass0 (hr.mono (by decide))) (pe_make GM FG (hr.mono (by decide)) (by rfl) gmg gb0 gd0 pass0 (pa_cons (pe_lst pa_nil) (pa_cons (pe_lst pa_nil) (pa_cons (pe_lst pa_nil) pa_nil)))) (pe_make GM FG (hr.mono (by decide)) (by rfl) gmg gb0 gd0 pass0 (pa_cons (pe_lst pa_nil) (pa_cons (pe_lst pa_nil) (pa_cons (pe_lst pa_nil) pa_nil)))) (nomark _))))))
          (pss_one (ps_ret pe_bl))
          pss_nil)
        (pss_one (ps_ret (pe_callB (cr_all rfl) (by rfl) T.all (by decide +kernel) (pa_cons (pe_lc (own := [("_law_k", 2)]) (by exact rfl) sc_law.nd (pi_range1 rfl T.range (pa_cons (pe_callB (call_max2 rfl) (by rfl) T.max (by decide +kernel) (pa_cons pe_int (pa_cons (pe_callB call_len_seq (by rfl) T.len PySem.boot_len (pa_cons (pv 1) pa_nil)) pa_nil))) pa_nil)) (blkOk_by (own := [("_law_k", 2)]) (N := N_law) (sc := defScope s_law) (by decide +kernel)) (fun _ _ _ _ _ => (pg_name (i := 2) sc_law.nd rfl (Or.inl rfl))) (fun _ _ _ _ _ => pts_nil) (fun _ _ _ _ _ => (pe_cG c_law_right hg hr (by decide) (by rfl) (pa_cons (C8.pe_c c_law_dip hr (by decide) (by rfl) (pa_cons (pv 1) (pa_cons (pv 2) pa_nil))) pa_nil)))) pa_nil)))))), ?_⟩
    refine ⟨_, rfl, a, 3, ns, rfl, hS, hlen, by decide, by decide, fun H0 cp ms s1 ncp hcp hml => ?_⟩
    refine ⟨fun σ Z => σ = [some (.ref a), some (.ref cp), none] ∧ Same H0 Z, ?_, ?_⟩
    · refine ⟨by show 0 ≤ sizeLine; decide, fun l1 e1 => ⟨by show 0 ≤ sizeLine; decide, fun l2 e2 => ⟨by show 0 ≤ sizeLine; decide, fun l3 e3 => ?_⟩⟩⟩
      have g1 := same_upd (o := .lst []) e1
      have g2 := same_upd (o := .lst []) e2
      have g3 := same_upd (o := .lst []) e3
      refine fun x dx nx ndx ndd => mk_gram8 (rs := []) (ms := []) (ru := []) nx ndx ndd ((g2.trans g3) _ _ upd_same) (g3 _ _ upd_same) upd_same .nil .nil .nil bare_fit0 fun W sW gx ri => ?_
      have sW0 := ((g1.trans g2).trans g3).trans sW
      obtain ⟨d0, sd, md, rd, kd, rt, hxo, _⟩ := gx.ex
      refine ⟨x, d0, _, rfl, hxo, _, x, [], [], [], 0, rfl, gx, Nat.zero_le _, Nat.zero_le _, _, rfl, ?_⟩
      rw [bare_text]
      refine ⟨rfl, _, rfl, ifF (by rw [decide_eq_true rfl]; rfl) ?_⟩
      refine ⟨by show 0 ≤ sizeLine; decide, fun l4 e4 => ⟨by show 0 ≤ sizeLine; decide, fun l5 e5 => ⟨by show 0 ≤ sizeLine; decide, fun l6 e6 => ?_⟩⟩⟩
      have g4 := same_upd (o := .lst []) e4
      have g5 := same_upd (o := .lst []) e5
      have g6 := same_upd (o := .lst []) e6
      refine fun x2 dx2 nx2 ndx2 ndd2 => mk_gram8 (rs := []) (ms := []) (ru := []) nx2 ndx2 ndd2 ((g5.trans g6) _ _ upd_same) (g6 _ _ upd_same) upd_same .nil .nil .nil bare_fit0 fun W2 sW2 gx2 ri2 => ?_
      have sW20 := ((g4.trans g5).trans g6).trans sW2
      refine ⟨by show 0 ≤ sizeLine; decide, fun l7 e7 => ⟨by show 0 ≤ sizeLine; decide, fun l8 e8 => ⟨by show 0 ≤ sizeLine; decide, fun l9 e9 => ?_⟩⟩⟩
      have g7 := same_upd (o := .lst []) e7
      have g8 := same_upd (o := .lst []) e8
      have g9 := same_upd (o := .lst []) e9
      refine fun x3 dx3 nx3 ndx3 ndd3 => mk_gram8 (rs := []) (ms := []) (ru := []) nx3 ndx3 ndd3 ((g8.trans g9) _ _ upd_same) (g9 _ _ upd_same) upd_same .nil .nil .nil bare_fit0 fun W3 sW3 gx3 ri3 => ?_
      have sW30 := ((g7.trans g8).trans g9).trans sW3
      refine eq_obj ⟨_, [], [], [], 0, bare_fit0, ri2.same sW30, rfl⟩ ⟨_, [], [], [], 0, bare_fit0, ri3, rfl⟩ fun W4 s4 => ?_
      rw [show PyData.eqv (RsD [] [] [] 0) (RsD [] [] [] 0) = true from SeqAt.eqv_refl _ (SeqAt.canLay_of_shaped (risen_shape bare_fit0))]
      refine ⟨_, rfl, ?_⟩
      refine iteF ?_
      exact ⟨rfl, sW0.trans (sW20.trans (sW30.trans s4))⟩
    rintro σ Z ⟨rfl, sZ⟩
    have hcp := sZ _ _ hcp
    refine ⟨_, rfl, cp, _, rfl, .inl (SqL.of hcp), _, _, rfl, _, rfl, ?_, ?_, fun D nD => ?_⟩
    · rw [List.length_map]
      split <;> omega
    · rw [List.length_map]
      split <;> omega
    have nDc : cp ≠ D := ne_of_none hcp nD
    rw [List.length_map]
    refine lc_range (lo := 0) (fun j H' => H' cp = some (.lst (ms.map V.int)) ∧ H' D = some (.lst ((List.replicate j true).map V.bl))) ⟨same_upd nD _ _ hcp, upd_same⟩ ?_ ?_
    · rintro j H' hj ⟨h1, h2⟩
      rw [Int.zero_add]
      have hj4 : j < 8 := by
        split at hj <;> omega
      refine ⟨rfl, yesT ?_⟩
      refine ⟨_, rfl, _, rfl, cp, j, ms, rfl, SqL.of h1, by omega, fun p b np hB => ?_⟩
      have npc : cp ≠ p := ne_of_none h1 np
      have npD : D ≠ p := ne_of_none h2 np
      refine ⟨p, b, rfl, upd_same, hB, fun H2 bt => ?_⟩
      have g1 := bt _ _ npc (same_upd np _ _ h1)
      have g2 := bt _ _ npD (same_upd np _ _ h2)
      refine ⟨_, g2, by rw [List.length_map, List.length_replicate]; exact small1000 (by omega), by rw [upd_ne nDc]; exact g1, ?_⟩
      rw [upd_same, List.replicate_succ', List.map_append]
      rfl
    · rintro H' ⟨h1, h2⟩
      refine ⟨D, _, rfl, SqL.of h2, ?_⟩
      rw [allTrue]
      exact q _
end
section
variable {w : World} {K : PySem.W.Frag} {h : Heap} {mg : Str → Option Value}
theorem fun_dd {x : Str} {st : Stmt} {ps : List Str} {f : Addr} {oc : Value} {od an : Option Addr} {osl : Array (Option Value)} {kV doc pm cdv ct : Value} (X : K.In h) (G : h.Ns mainGlobals mg) (a : PySem.W.nsIn K mainGlobals x = some (some (.ref f)))
    (l : K.lookup f = some ⟨oc, od, .func (PySem.W.fnOf x x (defArgs st) (defBody st) (defScope st) .none kV doc pm an cdv ct), osl⟩) (c : PySem.W.codeIn K cdv x = true) (k : PySem.W.keepIn K (.ref f) = true)
    (hb : ∀ (kV doc pm : Value) (an : Option Addr) (cdv ct : Value) (us : List Value), us.length = ps.length → bindArgs (PySem.W.fnOf x x (defArgs st) (defBody st) (defScope st) .none kV doc pm an cdv ct) ⟨us, []⟩ = pure (ps.zip us)) : Dd K mg x st ps :=
  ⟨f, _, fun_mk (st := st) l c k, PySem.W.mg_of X G a, (fun_mk (st := st) l c k).binds hb⟩
end
/-! ### from what the top has written: the class Grammar and its words -/
structure GIn (K : PySem.W.Frag) (mg : Str → Option Value) (C : Addr) : Prop where
  ex : ∃ (f : Addr) (fd : FuncData), FunD K "__init__" "Grammar.__init__" (defArgs s_GI) (defBody s_GI) (defScope s_GI) [] [("cap", .int 0)] f fd ∧ Mk K C f
  mg : mg "Grammar" = some (.ref C)
structure GMt (K : PySem.W.Frag) (C : Addr) (m qual : Str) (st : Stmt) (ps : List Str) : Prop where
  ex : ∃ (f : Addr) (fd : FuncData), L2.Fun K m qual st f fd ∧ Meth K C m f ∧ Binds K fd ps []
section
variable {w : World} {K : PySem.W.Frag} {h : Heap} {mg : Str → Option Value}
theorem fun_ddk {x kn : Str} {kv : V} {ku : Value} {st : Stmt} {f kd : Addr} {oc : Value} {od an : Option Addr} {osl : Array (Option Value)} {doc pm cdv ct : Value} (X : K.In h) (G : h.Ns mainGlobals mg) (a : PySem.W.nsIn K mainGlobals x = some (some (.ref f)))
    (l : K.lookup f = some ⟨oc, od, .func (PySem.W.fnOf x x (defArgs st) (defBody st) (defScope st) .none (.ref kd) doc pm an cdv ct), osl⟩) (c : PySem.W.codeIn K cdv x = true) (k : PySem.W.keepIn K (.ref f) = true)
    (d : PySem.W.nsIn K kd kn = some (some ku)) (r : RelV kv ku) : DdK K mg x st [(kn, kv)] :=
  ⟨f, _, ⟨⟨_, _, _, _, _, _, _, _, _, _, rfl, l, c, .inl ⟨rfl, rfl⟩, .inr ⟨kd, rfl, fun q hq => by
    rw [List.mem_singleton.mp hq]
    exact ⟨_, d, r⟩⟩⟩, k⟩, PySem.W.mg_of X G a⟩
def AllOp : List DictEntry → Prop
  | [] => True
  | e :: r => (∃ (o : Op) (t : Tok), e.key = .str o.w t) ∧ AllOp r
theorem parts_at {PD : Addr} {es : Array DictEntry} {n : Nat} (l : K.lookup PD = some ⟨.type "dict", none, .dict es n, #[]⟩) (kl : PySem.W.KeysLit w.params es.toList) (lo : (PD == sysModules) = false)
    (ns : ∀ o : Op, ∃ t, PySem.W.nsIn K PD o.w = some (some (.int (o.n : Nat) t))) : PartsAt K w PD where
  kd := ⟨es, n, l, kl, lo⟩
  ops := fun o => by
    obtain ⟨t, e⟩ := ns o
    exact ⟨⟨es, n, _, l, kl, e, ⟨_, rfl⟩⟩, _, e⟩
theorem ops_of {PD : Addr} {t1 t2 t3 t4 t5 t6 t7 t8 t9 t10 t11 : Tok} (h1 : PySem.W.nsIn K PD "copy" = some (some (.int 1 t1))) (h2 : PySem.W.nsIn K PD "plus" = some (some (.int 2 t2))) (h3 : PySem.W.nsIn K PD "less" = some (some (.int 2 t3))) (h4 : PySem.W.nsIn K PD "times" = some (some (.int 2 t4))) (h5 : PySem.W.nsIn K PD "over" = some (some (.int 2 t5))) (h6 : PySem.W.nsIn K PD "rest" = some (some (.int 2 t6))) (h7 : PySem.W.nsIn K PD "least" = some (some (.int 2 t7))) (h8 : PySem.W.nsIn K PD "most" = some (some (.int 2 t8))) (h9 : PySem.W.nsIn K PD "same" = some (some (.int 2 t9))) (h10 : PySem.W.nsIn K PD "under" = some (some (.int 2 t10))) (h11 : PySem.W.nsIn K PD "pick" = some (some (.int 3 t11))) : ∀ o : Op, ∃ t, PySem.W.nsIn K PD o.w = some (some (.int (o.n : Nat) t)) := fun o => by
  cases o with
  | copy => exact ⟨_, h1⟩
  | plus => exact ⟨_, h2⟩
  | less => exact ⟨_, h3⟩
  | times => exact ⟨_, h4⟩
  | over => exact ⟨_, h5⟩
  | rest => exact ⟨_, h6⟩
  | least => exact ⟨_, h7⟩
  | most => exact ⟨_, h8⟩
  | same => exact ⟨_, h9⟩
  | under => exact ⟨_, h10⟩
  | pick => exact ⟨_, h11⟩
theorem gcls_of {C : Addr} (c1 : PySem.W.plainGet K C Str.empty = true) (c2 : PySem.W.hasDictIn K C = true) (c3 : PySem.W.plainOver K C = true) (c4 : PySem.W.findIn K (.ref C) "__setattr__" = some (some (.builtin "object.__setattr__"))) (n1 : PySem.W.findIn K (.ref C) "top" = some none) (n2 : PySem.W.findIn K (.ref C) "sort_table" = some none) (n3 : PySem.W.findIn K (.ref C) "making_table" = some none) (n4 : PySem.W.findIn K (.ref C) "rule_table" = some none) (n5 : PySem.W.findIn K (.ref C) "kept_table" = some none) (n6 : PySem.W.findIn K (.ref C) "risen" = some none) : GCls K C := ⟨⟨c1, c2, c3, c4⟩, n1, n2, n3, n4, n5, n6⟩
theorem fun_gi {C f kd : Addr} {oc : Value} {od an : Option Addr} {osl : Array (Option Value)} {doc pm cdv ct : Value} {t : Tok} (X : K.In h) (G : h.Ns mainGlobals mg) (a : PySem.W.nsIn K mainGlobals "Grammar" = some (some (.ref C)))
    (m1 : PySem.W.makesIn K C = true) (m2 : PySem.W.findIn K (.ref C) "__init__" = some (some (.ref f))) (m3 : PySem.W.isFn K (.ref f) = true) (m4 : PySem.W.keepIn K (.ref C) = true)
    (l : K.lookup f = some ⟨oc, od, .func (PySem.W.fnOf "__init__" "Grammar.__init__" (defArgs s_GI) (defBody s_GI) (defScope s_GI) .none (.ref kd) doc pm an cdv ct), osl⟩) (c : PySem.W.codeIn K cdv "Grammar.__init__" = true) (k : PySem.W.keepIn K (.ref f) = true)
    (d : PySem.W.nsIn K kd "cap" = some (some (.int 0 t))) : GIn K mg C where
  ex := ⟨f, _, ⟨⟨_, _, _, _, _, _, _, _, _, _, rfl, l, c, .inl ⟨rfl, rfl⟩, .inr ⟨kd, rfl, fun q hq => by
    rw [List.mem_singleton.mp hq]
    exact ⟨_, d, ⟨_, rfl⟩⟩⟩⟩, k⟩, ⟨m1, m2, m3, m4⟩⟩
  mg := PySem.W.mg_of X G a
theorem fun_gm {C f : Addr} {m qual : Str} {st : Stmt} {ps : List Str} {oc : Value} {od an : Option Addr} {osl : Array (Option Value)} {kV doc pm cdv ct : Value} (m1 : PySem.W.findIn K (.ref C) m = some (some (.ref f))) (m2 : PySem.W.isFn K (.ref f) = true) (k : PySem.W.keepIn K (.ref f) = true)
    (l : K.lookup f = some ⟨oc, od, .func (PySem.W.fnOf m qual (defArgs st) (defBody st) (defScope st) .none kV doc pm an cdv ct), osl⟩) (c : PySem.W.codeIn K cdv qual = true)
    (hb : ∀ (kV doc pm : Value) (an : Option Addr) (cdv ct : Value) (us : List Value), us.length = ps.length → bindArgs (PySem.W.fnOf m qual (defArgs st) (defBody st) (defScope st) .none kV doc pm an cdv ct) ⟨us, []⟩ = pure (ps.zip us)) : GMt K C m qual st ps :=
  ⟨f, _, fun_mk (st := st) l c k, ⟨m1, m2, k⟩, (fun_mk (st := st) l c k).binds hb⟩
end
/-! ### what isinstance asks of the class Grammar -/
theorem kit_self {K : PySem.W.Frag} {C : Addr} : PySem.W.kitOne K (.ref C) (.ref C) = some true := by
  have n : (Value.ref C == Value.ref C) = true := by simp
  unfold PySem.W.kitOne
  rw [n]
  rfl
theorem insC_of {K : PySem.W.Frag} {C : Addr} (c : Cls K C) (a7 : PySem.W.findIn K (.ref C) "__class__" = some (some (.builtin "object.__class__"))) (a8 : PySem.W.specialIn K (.builtin "object.__class__") "__get__" = some (some (.builtin "getset_descriptor.__get__")))
    (a9 : PySem.W.takesIn K (.builtin "object.__class__") = some true) (a10 : PySem.W.mroIn K C (.type "object") = some true) : C8.InsC K C := ⟨c, a7, a8, a9, a10, kit_self⟩
theorem all_mk {l : PySem.W.OpenLaw} {w : World} {K : PySem.W.Frag} {h : Heap} {mg : Str → Option Value} {fa  f4 : Addr} (X : K.In h) (G : h.Ns mainGlobals mg) (hfa : mg "law" = some (.ref fa))
    {t0 t1 t2 t3 t4 t5 t6 : Tok} (a10 : PySem.W.nsIn K mainGlobals "BOUND" = some (some (.int 1000000 t0))) (a11 : PySem.W.nsIn K mainGlobals "SIGNS" = some (some (.int 6 t1))) (a12 : PySem.W.nsIn K mainGlobals "LETTERS" = some (some (.str LETS t2))) (a13 : PySem.W.nsIn K mainGlobals "CAP" = some (some (.int 9 t3))) (a14 : PySem.W.nsIn K mainGlobals "SORTS" = some (some (.int 4 t4))) (a15 : PySem.W.nsIn K mainGlobals "MAKINGS" = some (some (.int 8 t5))) (a16 : PySem.W.nsIn K mainGlobals "EACH" = some (some (.int 2 t6)))
    {PD LA GC : Addr} (aP : PySem.W.nsIn K mainGlobals "PARTS" = some (some (.ref PD))) (PA : PartsAt K w PD)
    (aLT : PySem.W.nsIn K mainGlobals "LET" = some (some (.ref LA))) {dL : Option Addr} {itL : Array Value} {nL : Nat} {slL : Array (Option Value)} (lLT : K.lookup LA = some ⟨.type "tuple", dL, .seq itL nL, slL⟩) (vL : Vals [.str "copy", .str "plus", .str "least", .str "most"] itL.toList)
    (DKo : DdK K mg "op_let" s_op_let [("cap", .int 0)]) (GC1 : GCls K GC) (GI1 : GIn K mg GC)
    (GM0 : GMt K GC "__eq__" "Grammar.__eq__" s_GEq N_GE)
    (GM1 : GMt K GC "__repr__" "Grammar.__repr__" s_GRp N_GSf)
    (IC : C8.InsC K GC)
    (z0 : PySem.W.nsIn K mainGlobals "len" = some none) (z1 : PySem.W.nsIn K mainGlobals "abs" = some none) (z2 : PySem.W.nsIn K mainGlobals "int" = some none) (z3 : PySem.W.nsIn K mainGlobals "list" = some none) (z4 : PySem.W.nsIn K mainGlobals "enumerate" = some none) (z5 : PySem.W.nsIn K mainGlobals "range" = some none) (z6 : PySem.W.nsIn K mainGlobals "isinstance" = some none) (z7 : PySem.W.nsIn K mainGlobals "tuple" = some none) (z8 : PySem.W.nsIn K mainGlobals "min" = some none) (z9 : PySem.W.nsIn K mainGlobals "dict" = some none) (z10 : PySem.W.nsIn K mainGlobals "bool" = some none) (z11 : PySem.W.nsIn K mainGlobals "str" = some none) (z12 : PySem.W.nsIn K mainGlobals "zip" = some none) (z13 : PySem.W.nsIn K mainGlobals "all" = some none) (z14 : PySem.W.nsIn K mainGlobals "sorted" = some none) (z15 : PySem.W.nsIn K mainGlobals "repr" = some none) (z16 : PySem.W.nsIn K mainGlobals "max" = some none) (z17 : PySem.W.nsIn K mainGlobals "set" = some none)
    (D0 : Dd K mg "own_copy" s_own_copy P_own_copy) (D1 : Dd K mg "is_number" s_is_number P_is_number) (D2 : Dd K mg "is_worth" s_is_worth P_is_worth) (D3 : Dd K mg "is_name" s_is_name P_is_name) (D4 : Dd K mg "is_tuple_of" s_is_tuple_of P_is_tuple_of) (D5 : Dd K mg "is_op" s_is_op P_is_op) (D6 : Dd K mg "parts_of" s_parts_of P_parts_of) (D7 : Dd K mg "rows_of" s_rows_of P_rows_of) (D8 : Dd K mg "cap_in" s_cap_in P_cap_in) (D9 : Dd K mg "are_names" s_are_names P_are_names) (D10 : Dd K mg "sort_stands" s_sort_stands P_sort_stands) (D11 : Dd K mg "sorts_in" s_sorts_in P_sorts_in) (D12 : Dd K mg "making_stands" s_making_stands P_making_stands) (D13 : Dd K mg "makings_in" s_makings_in P_makings_in) (D14 : Dd K mg "worths_at" s_worths_at P_worths_at) (D15 : Dd K mg "is_at" s_is_at P_is_at) (D16 : Dd K mg "is_kept" s_is_kept P_is_kept) (D17 : Dd K mg "is_target" s_is_target P_is_target) (D18 : Dd K mg "is_operand" s_is_operand P_is_operand) (D19 : Dd K mg "kept_by" s_kept_by P_kept_by) (D20 : Dd K mg "rule_is_so" s_rule_is_so P_rule_is_so) (D21 : Dd K mg "rules_in" s_rules_in P_rules_in) (D22 : Dd K mg "_law_take" s__law_take P__law_take) (D23 : Dd K mg "_law_dip" s__law_dip P__law_dip) (D24 : Dd K mg "_law_folded" s__law_folded P__law_folded) (D25 : Dd K mg "_law_one_of" s__law_one_of P__law_one_of) (D26 : Dd K mg "_law_strewn" s__law_strewn P__law_strewn) (D27 : Dd K mg "_law_named" s__law_named P__law_named) (D28 : Dd K mg "_law_number" s__law_number P__law_number) (D29 : Dd K mg "_law_ops" s__law_ops P__law_ops) (D30 : Dd K mg "_law_sorted_out" s__law_sorted_out P__law_sorted_out) (D31 : Dd K mg "_law_sort_rows" s__law_sort_rows P__law_sort_rows) (D32 : Dd K mg "_law_making_rows" s__law_making_rows P__law_making_rows) (D33 : Dd K mg "_law_lists" s__law_lists P__law_lists) (D34 : Dd K mg "_law_operand" s__law_operand P__law_operand) (D35 : Dd K mg "_law_rules_for" s__law_rules_for P__law_rules_for) (D36 : Dd K mg "_law_drawn" s__law_drawn P__law_drawn) (D37 : Dd K mg "_law_any" s__law_any P__law_any) (D38 : Dd K mg "_law_same" s__law_same P__law_same) (D39 : Dd K mg "_law_known" s__law_known P__law_known) (D40 : Dd K mg "_law_turned" s__law_turned P__law_turned) (D41 : Dd K mg "_law_mixed" s__law_mixed P__law_mixed) (D42 : Dd K mg "_law_made_of" s__law_made_of P__law_made_of) (D43 : Dd K mg "_law_shown" s__law_shown P__law_shown) (D44 : Dd K mg "_law_right" s__law_right P__law_right)
    {od4 an4 : Option Addr} {sl4 : Array (Option Value)} {oc4 kV4 dc4 pm4 cd4 ct4 : Value}
    (a4 : PySem.W.nsIn K mainGlobals "law" = some (some (.ref f4))) (l4 : K.lookup f4 = some ⟨oc4, od4, .func (PySem.W.fnOf "law" "law" (defArgs s_law) (defBody s_law) (defScope s_law) .none kV4 dc4 pm4 an4 cd4 ct4), sl4⟩) (c4 : PySem.W.codeIn K cd4 "law" = true) (k4 : PySem.W.keepIn K (.ref f4) = true) :
    ∃ fd : FuncData, (∀ (s : Shared) (v : Value), BindsTo s fd ⟨[v], []⟩ [("_law_script", v)]) ∧ ∀ base : Heap, K.In base → base.Ns mainGlobals mg → FnG l.prog w K mg base 10 fa fd ["_law_script"] (spLaw K) := by
  have e := hfa.symm.trans (PySem.W.mg_of X G a4)
  cases e
  have F4 := fun_mk (st := s_law) l4 c4 k4
  have m0 := PySem.W.mg_none_of X G z0
  have m1 := PySem.W.mg_none_of X G z1
  have m2 := PySem.W.mg_none_of X G z2
  have m3 := PySem.W.mg_none_of X G z3
  have m4 := PySem.W.mg_none_of X G z4
  have m5 := PySem.W.mg_none_of X G z5
  have m6 := PySem.W.mg_none_of X G z6
  have m7 := PySem.W.mg_none_of X G z7
  have m8 := PySem.W.mg_none_of X G z8
  have m9 := PySem.W.mg_none_of X G z9
  have m10 := PySem.W.mg_none_of X G z10
  have m11 := PySem.W.mg_none_of X G z11
  have m12 := PySem.W.mg_none_of X G z12
  have m13 := PySem.W.mg_none_of X G z13
  have m14 := PySem.W.mg_none_of X G z14
  have m15 := PySem.W.mg_none_of X G z15
  have m16 := PySem.W.mg_none_of X G z16
  have m17 := PySem.W.mg_none_of X G z17
  have TB : Bt mg := ⟨m0, m1, m2, m3, m4, m5⟩
  have TO : Ot mg := ⟨m6, m3, m7⟩
  have TSo : So6 mg := ⟨m4, m7, m8, m0⟩
  have TMr : Mr6 mg := ⟨m4, m7, m5, m0⟩
  have TOp : Op6 mg := ⟨m0, m8⟩
  have TLm : Lm6 mg := ⟨m4, m9, m2⟩
  have TLr : Lr6 mg := ⟨m0, m7, m5⟩
  have TSr : So6o mg := ⟨m9⟩
  have TDw : Dw6 mg := ⟨m0, m3⟩
  have TS : Sa mg := ⟨m6, m3, m7, m10, m11, m2, m0, m12, m13, m5⟩
  have TTu : Tu8 mg := ⟨m3, m0, m4⟩
  have TSh : Sh8 mg := ⟨m0, m11⟩
  have TKn : Kn8 mg := ⟨m14, m11⟩
  have TR : Ri8 mg := ⟨m5, m12, m15⟩
  have TLa : La8 mg := ⟨m13, m5, m16, m0, m15⟩
  have TGb : Gb mg := ⟨m6, m2, m10, m11, m7, m3, m0, m13, m17, m14, m4⟩
  have TN : Nu mg := ⟨m6, m2, m10, m7, m0⟩
  refine ⟨PySem.W.fnOf "law" "law" (defArgs s_law) (defBody s_law) (defScope s_law) .none kV4 dc4 pm4 an4 cd4 ct4, fun s v => .of_eq rfl, fun base _ _ => ?_⟩
  have ct := ok_take (P := l.prog) (w := w) (base := base) D22
  have co := ok_one_of TB ct D25
  have cu := ok_number ct D28
  have cn := ok_named TB ct D27
  have cs := ok_strewn TB ct D26
  have cr := ok_sort_rows TSo ct cn cs D31
  have cm := ok_making_rows TMr ct cn co D32
  have cop := ok_ops6 (P := l.prog) (w := w) (base := base) D29
  have cod := ok_operand TOp ct co cu D34
  have cls := ok_lists (P := l.prog) (w := w) (base := base) TLm D33
  have cf := ok_rules6 TLr ct cn co cop cls cod D35
  have cso8 := ok_sorted8 (P := l.prog) (w := w) (base := base) TSr D30
  have cso := ok_sorted cso8
  have cd := ok_drawn6 TDw ct cr cm cs cf cso D36
  have ca := ok_any6 ct cd D37
  
  have hL : ∀ H, SqT K H LA [.str "copy", .str "plus", .str "least", .str "most"] := fun H => .inr ⟨_, itL, nL, lLT, rfl, rfl, by
    have z : itL.toList.length = 4 := by first | exact vL.length | exact vL.length.symm
    have z2 : itL.size = 4 := by
      rw [← Array.length_toList]
      exact z
    rw [z2]
    decide, vL⟩
  have TG : Gg mg PD LA := ⟨⟨_, PySem.W.mg_of X G a10, ⟨_, rfl⟩⟩, ⟨_, PySem.W.mg_of X G a11, ⟨_, rfl⟩⟩, ⟨_, PySem.W.mg_of X G a12, ⟨_, rfl⟩⟩, ⟨_, PySem.W.mg_of X G a13, ⟨_, rfl⟩⟩, ⟨_, PySem.W.mg_of X G a14, ⟨_, rfl⟩⟩, ⟨_, PySem.W.mg_of X G a15, ⟨_, rfl⟩⟩, ⟨_, PySem.W.mg_of X G a16, ⟨_, rfl⟩⟩, PySem.W.mg_of X G aP, PySem.W.mg_of X G aLT⟩
  have gNu := ok_is_number (P := l.prog) (w := w) (base := base) TN D1
  have gWo := ok_is_worth TGb TG gNu D2
  have gNa := ok_is_nameT (P := l.prog) (w := w) (base := base) TGb TG D3
  have gTu := ok_is_tuple_of (P := l.prog) (w := w) (base := base) TGb D4
  have gOp := ok_is_op (P := l.prog) (w := w) (base := base) TGb TG PA D5
  have gPa := ok_parts_of TG PA gOp D6
  have gLe := ok_op_letT TG hL gOp DKo
  have gRo := ok_rows_of (P := l.prog) (w := w) (base := base) TGb D7
  have gCa := ok_cap_in TGb TG gNu D8
  have gAn := ok_are_names TGb TG gNa D9
  have gSs := ok_sort_stands TGb TG gNa gTu gAn D10
  have gSi := ok_sorts_in TGb gRo gSs D11
  have gMs := ok_making_stands TGb TG gNa gTu gAn D12
  have gMi := ok_makings_in TGb gRo gMs D13
  have gWa := ok_worths_at TGb gNu D14
  have gIa := ok_is_at gTu D15
  have gIk := ok_is_kept gTu gNa D16
  have gIt := ok_is_target gIa gIk gWa D17
  have gIo := ok_is_operand gIa gIk gWa gTu gWo D18
  have gKb := ok_kept_by (P := l.prog) (w := w) (base := base) TGb D19
  have gRs := ok_rule_is_so TGb gTu gNa gIt gOp gLe gPa gIo D20
  have gRi := ok_rules_in TGb TG gRo gRs gKb D21
  obtain ⟨fG, fdG, FG, MG⟩ := GI1.ex
  have okG := ok_GI TGb GC1 gCa gSi gMi gRi gKb FG
  
  obtain ⟨fE, fdE, FE, mE, bE⟩ := GM0.ex
  obtain ⟨fR, fdR, FR, mR, bR⟩ := GM1.ex
  have gE := ok_geqx (P := l.prog) (w := w) (base := base) m6 GI1.mg IC GC1 FE
  have gR := ok_grepr (P := l.prog) (w := w) (base := base) m0 GC1 FR
  have cmx := ok_mixed cs cso8 D41
  have ctu := ok_turned8 TTu ct cop co cu cso D40
  have cmd := ok_made TGb (gmk_of FG okG MG GI1.mg) D42
  have csa := ok_same (P := l.prog) (w := w) (base := base) TS D38 2
  have csh := ok_shown (P := l.prog) (w := w) (base := base) TSh D43
  obtain ⟨fkn, fdkn, Fkn, gkn, bkn⟩ := (D39).ex
  have ckn : CalG l.prog w K mg base 2 "_law_known" (spKnown K) := ⟨fkn, fdkn, _, fng_known TKn Fkn, gkn, Fkn.kp, bkn⟩
  obtain ⟨fri, fdri, Fri, gri, bri⟩ := (D44).ex
  have cri : CalG l.prog w K mg base 9 "_law_right" spRight8 := ⟨fri, fdri, _, fng_right8 TR gE mE.at_ mE.fn bE gR mR.at_ mR.fn bR ct ca cmx ctu cso8 cmd ckn csa csh Fri, gri, Fri.kp, bri⟩
  
  exact fng_law8 TLa (gmk0_of FG okG MG GI1.mg) gE mE.at_ mE.fn bE gR mR.at_ mR.fn bR (ok_folded TB D24) (ok_dip TB D23) cri F4
end Thr
open PySem PySem.W PyProof.Rows
set_option maxRecDepth 100000 in
set_option maxHeartbeats 0 in
theorem PySem.Challenge.cw_threereckons_k08_grammars_alike_holds : PySem.Challenge.rw_threereckons_k08_grammars_alike.Holds := by
  w_on; o_law; k_head; (case hw => w_witness2)
  k_fill
  refine Thr.walk_ofG (l := PySem.Challenge.rw_threereckons_k08_grammars_alike) (n := 63) (k := 10) (x := "_law_script") (sp := fun w => Thr.spLaw _) rfl (by decide) rfl ⟨rfl, by decide, by decide⟩ (fun w h Y => PySem.W.kIn_of Y) ?F (fun _ _ a ns hl _ hS => ⟨a, ns, rfl, hS, hl, fun _ => rfl⟩)
  case F =>
    intro w mg fa h KX G hmg
    refine' Thr.all_mk KX G hmg
      ?kn0 ?kn1 ?kn2 ?kn3 ?kn4 ?kn5 ?kn6
      ?aP (Thr.parts_at ?lP ?kl ?lo (Thr.ops_of ?p1 ?p2 ?p3 ?p4 ?p5 ?p6 ?p7 ?p8 ?p9 ?p10 ?p11)) ?aLT ?lLT ?vL
      (Thr.fun_ddk KX G ?ko1 ?ko2 ?ko3 ?ko4 ?ko5 ?ko6) (Thr.gcls_of ?gc1 ?gc2 ?gc3 ?gc4 ?gn1 ?gn2 ?gn3 ?gn4 ?gn5 ?gn6) (Thr.fun_gi KX G ?gi1 ?gi2 ?gi3 ?gi4 ?gi5 ?gi6 ?gi7 ?gi8 ?gi9)
      (Thr.fun_gm ?mm0_1 ?mm0_2 ?mm0_3 ?mm0_4 ?mm0_5 ?mm0_6)
      (Thr.fun_gm ?mm1_1 ?mm1_2 ?mm1_3 ?mm1_4 ?mm1_5 ?mm1_6)
      (Thr.insC_of ⟨?ic1, ?ic2, ?ic3, ?ic4⟩ ?ic5 ?ic6 ?ic7 ?ic8)
      ?z0 ?z1 ?z2 ?z3 ?z4 ?z5 ?z6 ?z7 ?z8 ?z9 ?z10 ?z11 ?z12 ?z13 ?z14 ?z15 ?z16 ?z17
      (Thr.fun_dd KX G ?x0 ?w0 ?u0 ?t0 ?s0)
      (Thr.fun_dd KX G ?x1 ?w1 ?u1 ?t1 ?s1)
      (Thr.fun_dd KX G ?x2 ?w2 ?u2 ?t2 ?s2)
      (Thr.fun_dd KX G ?x3 ?w3 ?u3 ?t3 ?s3)
      (Thr.fun_dd KX G ?x4 ?w4 ?u4 ?t4 ?s4)
      (Thr.fun_dd KX G ?x5 ?w5 ?u5 ?t5 ?s5)
      (Thr.fun_dd KX G ?x6 ?w6 ?u6 ?t6 ?s6)
      (Thr.fun_dd KX G ?x7 ?w7 ?u7 ?t7 ?s7)
      (Thr.fun_dd KX G ?x8 ?w8 ?u8 ?t8 ?s8)
      (Thr.fun_dd KX G ?x9 ?w9 ?u9 ?t9 ?s9)
      (Thr.fun_dd KX G ?x10 ?w10 ?u10 ?t10 ?s10)
      (Thr.fun_dd KX G ?x11 ?w11 ?u11 ?t11 ?s11)
      (Thr.fun_dd KX G ?x12 ?w12 ?u12 ?t12 ?s12)
      (Thr.fun_dd KX G ?x13 ?w13 ?u13 ?t13 ?s13)
      (Thr.fun_dd KX G ?x14 ?w14 ?u14 ?t14 ?s14)
      (Thr.fun_dd KX G ?x15 ?w15 ?u15 ?t15 ?s15)
      (Thr.fun_dd KX G ?x16 ?w16 ?u16 ?t16 ?s16)
      (Thr.fun_dd KX G ?x17 ?w17 ?u17 ?t17 ?s17)
      (Thr.fun_dd KX G ?x18 ?w18 ?u18 ?t18 ?s18)
      (Thr.fun_dd KX G ?x19 ?w19 ?u19 ?t19 ?s19)
      (Thr.fun_dd KX G ?x20 ?w20 ?u20 ?t20 ?s20)
      (Thr.fun_dd KX G ?x21 ?w21 ?u21 ?t21 ?s21)
      (Thr.fun_dd KX G ?x22 ?w22 ?u22 ?t22 ?s22)
      (Thr.fun_dd KX G ?x23 ?w23 ?u23 ?t23 ?s23)
      (Thr.fun_dd KX G ?x24 ?w24 ?u24 ?t24 ?s24)
      (Thr.fun_dd KX G ?x25 ?w25 ?u25 ?t25 ?s25)
      (Thr.fun_dd KX G ?x26 ?w26 ?u26 ?t26 ?s26)
      (Thr.fun_dd KX G ?x27 ?w27 ?u27 ?t27 ?s27)
      (Thr.fun_dd KX G ?x28 ?w28 ?u28 ?t28 ?s28)
      (Thr.fun_dd KX G ?x29 ?w29 ?u29 ?t29 ?s29)
      (Thr.fun_dd KX G ?x30 ?w30 ?u30 ?t30 ?s30)
      (Thr.fun_dd KX G ?x31 ?w31 ?u31 ?t31 ?s31)
      (Thr.fun_dd KX G ?x32 ?w32 ?u32 ?t32 ?s32)
      (Thr.fun_dd KX G ?x33 ?w33 ?u33 ?t33 ?s33)
      (Thr.fun_dd KX G ?x34 ?w34 ?u34 ?t34 ?s34)
      (Thr.fun_dd KX G ?x35 ?w35 ?u35 ?t35 ?s35)
      (Thr.fun_dd KX G ?x36 ?w36 ?u36 ?t36 ?s36)
      (Thr.fun_dd KX G ?x37 ?w37 ?u37 ?t37 ?s37)
      (Thr.fun_dd KX G ?x38 ?w38 ?u38 ?t38 ?s38)
      (Thr.fun_dd KX G ?x39 ?w39 ?u39 ?t39 ?s39)
      (Thr.fun_dd KX G ?x40 ?w40 ?u40 ?t40 ?s40)
      (Thr.fun_dd KX G ?x41 ?w41 ?u41 ?t41 ?s41)
      (Thr.fun_dd KX G ?x42 ?w42 ?u42 ?t42 ?s42)
      (Thr.fun_dd KX G ?x43 ?w43 ?u43 ?t43 ?s43)
      (Thr.fun_dd KX G ?x44 ?w44 ?u44 ?t44 ?s44)
      ?a4 ?l4 ?c4 ?k4
    (case kn0 => k_is)
    (case kn1 => k_is)
    (case kn2 => k_is)
    (case kn3 => k_is)
    (case kn4 => k_is)
    (case kn5 => k_is)
    (case kn6 => k_is)
    (case aP => k_is)
    (case lP => k_is)
    (case kl => (repeat (first | exact trivial | refine ⟨⟨_, _, rfl, rfl⟩, ?_⟩)))
    (case lo => rfl)
    (case p1 => k_is)
    (case p2 => k_is)
    (case p3 => k_is)
    (case p4 => k_is)
    (case p5 => k_is)
    (case p6 => k_is)
    (case p7 => k_is)
    (case p8 => k_is)
    (case p9 => k_is)
    (case p10 => k_is)
    (case p11 => k_is)
    (case aLT => k_is)
    (case lLT => k_is)
    (case vL => exact .cons ⟨_, rfl⟩ (.cons ⟨_, rfl⟩ (.cons ⟨_, rfl⟩ (.cons ⟨_, rfl⟩ .nil))))
    (case ko1 => k_is)
    (case ko2 => k_is)
    (case ko3 => k_is)
    (case ko4 => k_is)
    (case ko5 => k_is)
    (case ko6 => exact ⟨_, rfl⟩)
    (case gi1 => k_is)
    (case gi2 => k_is)
    (case gi3 => k_is)
    (case gi4 => k_is)
    (case gi5 => k_is)
    (case gi6 => k_is)
    (case gi7 => k_is)
    (case gi8 => k_is)
    (case gi9 => k_is)
    (case gc1 => k_is)
    (case gc2 => k_is)
    (case gc3 => k_is)
    (case gc4 => k_is)
    (case gn1 => k_is)
    (case gn2 => k_is)
    (case gn3 => k_is)
    (case gn4 => k_is)
    (case gn5 => k_is)
    (case gn6 => k_is)
    (case mm0_1 => k_is)
    (case mm0_2 => k_is)
    (case mm0_3 => k_is)
    (case mm0_4 => k_is)
    (case mm0_5 => k_is)
    (case mm0_6 => exact fun _ _ _ _ _ _ us hl => match us, hl with | [_, _], _ => rfl)
    (case mm1_1 => k_is)
    (case mm1_2 => k_is)
    (case mm1_3 => k_is)
    (case mm1_4 => k_is)
    (case mm1_5 => k_is)
    (case mm1_6 => exact fun _ _ _ _ _ _ us hl => match us, hl with | [_], _ => rfl)
    (case ic1 => k_is)
    (case ic2 => k_is)
    (case ic3 => k_is)
    (case ic4 => k_is)
    (case ic5 => k_is)
    (case ic6 => k_is)
    (case ic7 => k_is)
    (case ic8 => k_is)
    (case z0 => k_is)
    (case z1 => k_is)
    (case z2 => k_is)
    (case z3 => k_is)
    (case z4 => k_is)
    (case z5 => k_is)
    (case z6 => k_is)
    (case z7 => k_is)
    (case z8 => k_is)
    (case z9 => k_is)
    (case z10 => k_is)
    (case z11 => k_is)
    (case z12 => k_is)
    (case z13 => k_is)
    (case z14 => k_is)
    (case z15 => k_is)
    (case z16 => k_is)
    (case z17 => k_is)
    (case x0 => k_is)
    (case w0 => k_is)
    (case u0 => k_is)
    (case t0 => k_is)
    (case s0 => exact fun _ _ _ _ _ _ us hl => match us, hl with | [_], _ => rfl)
    (case x1 => k_is)
    (case w1 => k_is)
    (case u1 => k_is)
    (case t1 => k_is)
    (case s1 => exact fun _ _ _ _ _ _ us hl => match us, hl with | [_], _ => rfl)
    (case x2 => k_is)
    (case w2 => k_is)
    (case u2 => k_is)
    (case t2 => k_is)
    (case s2 => exact fun _ _ _ _ _ _ us hl => match us, hl with | [_], _ => rfl)
    (case x3 => k_is)
    (case w3 => k_is)
    (case u3 => k_is)
    (case t3 => k_is)
    (case s3 => exact fun _ _ _ _ _ _ us hl => match us, hl with | [_], _ => rfl)
    (case x4 => k_is)
    (case w4 => k_is)
    (case u4 => k_is)
    (case t4 => k_is)
    (case s4 => exact fun _ _ _ _ _ _ us hl => match us, hl with | [_, _], _ => rfl)
    (case x5 => k_is)
    (case w5 => k_is)
    (case u5 => k_is)
    (case t5 => k_is)
    (case s5 => exact fun _ _ _ _ _ _ us hl => match us, hl with | [_], _ => rfl)
    (case x6 => k_is)
    (case w6 => k_is)
    (case u6 => k_is)
    (case t6 => k_is)
    (case s6 => exact fun _ _ _ _ _ _ us hl => match us, hl with | [_], _ => rfl)
    (case x7 => k_is)
    (case w7 => k_is)
    (case u7 => k_is)
    (case t7 => k_is)
    (case s7 => exact fun _ _ _ _ _ _ us hl => match us, hl with | [_, _], _ => rfl)
    (case x8 => k_is)
    (case w8 => k_is)
    (case u8 => k_is)
    (case t8 => k_is)
    (case s8 => exact fun _ _ _ _ _ _ us hl => match us, hl with | [_], _ => rfl)
    (case x9 => k_is)
    (case w9 => k_is)
    (case u9 => k_is)
    (case t9 => k_is)
    (case s9 => exact fun _ _ _ _ _ _ us hl => match us, hl with | [_], _ => rfl)
    (case x10 => k_is)
    (case w10 => k_is)
    (case u10 => k_is)
    (case t10 => k_is)
    (case s10 => exact fun _ _ _ _ _ _ us hl => match us, hl with | [_, _], _ => rfl)
    (case x11 => k_is)
    (case w11 => k_is)
    (case u11 => k_is)
    (case t11 => k_is)
    (case s11 => exact fun _ _ _ _ _ _ us hl => match us, hl with | [_], _ => rfl)
    (case x12 => k_is)
    (case w12 => k_is)
    (case u12 => k_is)
    (case t12 => k_is)
    (case s12 => exact fun _ _ _ _ _ _ us hl => match us, hl with | [_, _, _], _ => rfl)
    (case x13 => k_is)
    (case w13 => k_is)
    (case u13 => k_is)
    (case t13 => k_is)
    (case s13 => exact fun _ _ _ _ _ _ us hl => match us, hl with | [_, _], _ => rfl)
    (case x14 => k_is)
    (case w14 => k_is)
    (case u14 => k_is)
    (case t14 => k_is)
    (case s14 => exact fun _ _ _ _ _ _ us hl => match us, hl with | [_, _, _], _ => rfl)
    (case x15 => k_is)
    (case w15 => k_is)
    (case u15 => k_is)
    (case t15 => k_is)
    (case s15 => exact fun _ _ _ _ _ _ us hl => match us, hl with | [_], _ => rfl)
    (case x16 => k_is)
    (case w16 => k_is)
    (case u16 => k_is)
    (case t16 => k_is)
    (case s16 => exact fun _ _ _ _ _ _ us hl => match us, hl with | [_, _, _], _ => rfl)
    (case x17 => k_is)
    (case w17 => k_is)
    (case u17 => k_is)
    (case t17 => k_is)
    (case s17 => exact fun _ _ _ _ _ _ us hl => match us, hl with | [_, _, _], _ => rfl)
    (case x18 => k_is)
    (case w18 => k_is)
    (case u18 => k_is)
    (case t18 => k_is)
    (case s18 => exact fun _ _ _ _ _ _ us hl => match us, hl with | [_, _, _], _ => rfl)
    (case x19 => k_is)
    (case w19 => k_is)
    (case u19 => k_is)
    (case t19 => k_is)
    (case s19 => exact fun _ _ _ _ _ _ us hl => match us, hl with | [_, _], _ => rfl)
    (case x20 => k_is)
    (case w20 => k_is)
    (case u20 => k_is)
    (case t20 => k_is)
    (case s20 => exact fun _ _ _ _ _ _ us hl => match us, hl with | [_, _, _, _], _ => rfl)
    (case x21 => k_is)
    (case w21 => k_is)
    (case u21 => k_is)
    (case t21 => k_is)
    (case s21 => exact fun _ _ _ _ _ _ us hl => match us, hl with | [_, _, _, _], _ => rfl)
    (case x22 => k_is)
    (case w22 => k_is)
    (case u22 => k_is)
    (case t22 => k_is)
    (case s22 => exact fun _ _ _ _ _ _ us hl => match us, hl with | [_, _], _ => rfl)
    (case x23 => k_is)
    (case w23 => k_is)
    (case u23 => k_is)
    (case t23 => k_is)
    (case s23 => exact fun _ _ _ _ _ _ us hl => match us, hl with | [_, _], _ => rfl)
    (case x24 => k_is)
    (case w24 => k_is)
    (case u24 => k_is)
    (case t24 => k_is)
    (case s24 => exact fun _ _ _ _ _ _ us hl => match us, hl with | [_, _], _ => rfl)
    (case x25 => k_is)
    (case w25 => k_is)
    (case u25 => k_is)
    (case t25 => k_is)
    (case s25 => exact fun _ _ _ _ _ _ us hl => match us, hl with | [_, _], _ => rfl)
    (case x26 => k_is)
    (case w26 => k_is)
    (case u26 => k_is)
    (case t26 => k_is)
    (case s26 => exact fun _ _ _ _ _ _ us hl => match us, hl with | [_, _], _ => rfl)
    (case x27 => k_is)
    (case w27 => k_is)
    (case u27 => k_is)
    (case t27 => k_is)
    (case s27 => exact fun _ _ _ _ _ _ us hl => match us, hl with | [_, _], _ => rfl)
    (case x28 => k_is)
    (case w28 => k_is)
    (case u28 => k_is)
    (case t28 => k_is)
    (case s28 => exact fun _ _ _ _ _ _ us hl => match us, hl with | [_], _ => rfl)
    (case x29 => k_is)
    (case w29 => k_is)
    (case u29 => k_is)
    (case t29 => k_is)
    (case s29 => exact fun _ _ _ _ _ _ us hl => match us, hl with | [_], _ => rfl)
    (case x30 => k_is)
    (case w30 => k_is)
    (case u30 => k_is)
    (case t30 => k_is)
    (case s30 => exact fun _ _ _ _ _ _ us hl => match us, hl with | [_, _, _, _], _ => rfl)
    (case x31 => k_is)
    (case w31 => k_is)
    (case u31 => k_is)
    (case t31 => k_is)
    (case s31 => exact fun _ _ _ _ _ _ us hl => match us, hl with | [_, _], _ => rfl)
    (case x32 => k_is)
    (case w32 => k_is)
    (case u32 => k_is)
    (case t32 => k_is)
    (case s32 => exact fun _ _ _ _ _ _ us hl => match us, hl with | [_, _, _], _ => rfl)
    (case x33 => k_is)
    (case w33 => k_is)
    (case u33 => k_is)
    (case t33 => k_is)
    (case s33 => exact fun _ _ _ _ _ _ us hl => match us, hl with | [_, _, _, _], _ => rfl)
    (case x34 => k_is)
    (case w34 => k_is)
    (case u34 => k_is)
    (case t34 => k_is)
    (case s34 => exact fun _ _ _ _ _ _ us hl => match us, hl with | [_, _], _ => rfl)
    (case x35 => k_is)
    (case w35 => k_is)
    (case u35 => k_is)
    (case t35 => k_is)
    (case s35 => exact fun _ _ _ _ _ _ us hl => match us, hl with | [_, _, _, _, _, _], _ => rfl)
    (case x36 => k_is)
    (case w36 => k_is)
    (case u36 => k_is)
    (case t36 => k_is)
    (case s36 => exact fun _ _ _ _ _ _ us hl => match us, hl with | [_, _, _], _ => rfl)
    (case x37 => k_is)
    (case w37 => k_is)
    (case u37 => k_is)
    (case t37 => k_is)
    (case s37 => exact fun _ _ _ _ _ _ us hl => match us, hl with | [_], _ => rfl)
    (case x38 => k_is)
    (case w38 => k_is)
    (case u38 => k_is)
    (case t38 => k_is)
    (case s38 => exact fun _ _ _ _ _ _ us hl => match us, hl with | [_, _], _ => rfl)
    (case x39 => k_is)
    (case w39 => k_is)
    (case u39 => k_is)
    (case t39 => k_is)
    (case s39 => exact fun _ _ _ _ _ _ us hl => match us, hl with | [_], _ => rfl)
    (case x40 => k_is)
    (case w40 => k_is)
    (case u40 => k_is)
    (case t40 => k_is)
    (case s40 => exact fun _ _ _ _ _ _ us hl => match us, hl with | [_, _], _ => rfl)
    (case x41 => k_is)
    (case w41 => k_is)
    (case u41 => k_is)
    (case t41 => k_is)
    (case s41 => exact fun _ _ _ _ _ _ us hl => match us, hl with | [_, _], _ => rfl)
    (case x42 => k_is)
    (case w42 => k_is)
    (case u42 => k_is)
    (case t42 => k_is)
    (case s42 => exact fun _ _ _ _ _ _ us hl => match us, hl with | [_], _ => rfl)
    (case x43 => k_is)
    (case w43 => k_is)
    (case u43 => k_is)
    (case t43 => k_is)
    (case s43 => exact fun _ _ _ _ _ _ us hl => match us, hl with | [_], _ => rfl)
    (case x44 => k_is)
    (case w44 => k_is)
    (case u44 => k_is)
    (case t44 => k_is)
    (case s44 => exact fun _ _ _ _ _ _ us hl => match us, hl with | [_], _ => rfl)
    (case a4 => k_is)
    (case l4 => k_is)
    (case c4 => k_is)
    (case k4 => k_is)
