import PyProof.Rows.All
import Wide.All
import OpenK.AllK
import Wide.FinOn
import HandS.ForMost
import HandS.Walk
import HandS.Codes
import HandS.IsInst
import HandS.Defaults
import HandS.Star
import HandS.Flow
import HandS.Style
import HandS.CallLocal
import HandS.More
import HandS.ForExc
import HandS.ExcInit
import HandS.ExcIs
import HandS.ExcField
import KE.KExcIs
import KE.KExcInit
import HandS.Zip
import HandS.DeepEq
import PyProof.Rows.NestShow
import HandS.TupAny
import HandS.RevRange
import HandS.Text
import PyProof.StrLawsRepr
import HandS.StrMore
import KE.IntTextText
import KE.KDictKeyed
import KE.GoesMore
import PyProof.EnumMake
import PyProof.Draws
import HandS.DictComp
import HandS.Conv
import HandS.Deep
import HandS.Dict
import HandS.FStr
import HandS.TryOnly
import HandS.DictTup
import HandS.TupLen
import HandS.SetFor
import HandS.Strs
import HandS.Set
import HandS.Spec
import PyProof.AutoSeq1
import HandS.Sort
import KE.LtData
import KE.DataEq
import HandS.MakeKwOnly
import HandS.TupMul
import HandS.List
import HandS.RaiseMore
import HandS.OwnEq
import KE.KCallOwn
import HandS.SortOrd
import PyProof.Claim2Refuses
import KE.SortData
import PyProof.Rows.TupTab
import HandS.Small
import PySem.Challenge.RW_threereckons_k55_grammars_joined
set_option Elab.async false
set_option linter.all false
set_option maxRecDepth 100000
set_option maxHeartbeats 4000000
namespace Thr
open PySem PySem.Spec PyProof.Rows L2
/-! ### heaps -/
theorem same_upd {H : Hp} {p : Addr} {o : HO} (h : H p = none) : Same H (upd H p o) := fun b x e => by
  rw [upd_ne (ne_of_none e h)]
  exact e
/-- all but what stands at a -/
def But (a : Addr) (H H' : Hp) : Prop := ∀ b o, b ≠ a → H b = some o → H' b = some o
theorem But.refl (a : Addr) (H : Hp) : But a H H := fun _ _ _ h => h
theorem But.trans {a : Addr} {H H1 H2 : Hp} (x : But a H H1) (y : But a H1 H2) : But a H H2 := fun b o n h => y b o n (x b o n h)
theorem But.of {a : Addr} {H H' : Hp} (s : Same H H') : But a H H' := fun b o _ h => s b o h
theorem But.upd {a : Addr} {H H' : Hp} {o : HO} (x : But a H H') : But a H (upd H' a o) := fun b u n h => by
  rw [upd_ne n]
  exact x b u n h
theorem But.new {a p : Addr} {H H' : Hp} {o : HO} (x : But a H H') (h : H' p = none) : But a H (L2.upd H' p o) := fun b u n e => by
  have e' := x b u n e
  rw [upd_ne (ne_of_none e' h)]
  exact e'
theorem But.seq {K : PySem.W.Frag} {H H' : Hp} {a b : Addr} {xs : List V} (e : But a H H') (n : b ≠ a) (h : SqL K H b xs) : SqL K H' b xs := by
  rcases h with (h | ⟨o, h⟩) | h
  · exact .inl (.inl (e _ _ n h))
  · exact .inl (.inr ⟨o, e _ _ n h⟩)
  · exact .inr h
/-! ### a def of the top, under its name -/
structure Dd (K : PySem.W.Frag) (mg : Str → Option Value) (x : Str) (st : Stmt) (ps : List Str) : Prop where
  ex : ∃ (f : Addr) (fd : FuncData), L2.Fun K x x st f fd ∧ mg x = some (.ref f) ∧ Binds K fd ps []
section
variable {P : Program} {w : World} {K : PySem.W.Frag} {mg : Str → Option Value} {base : Heap}
theorem Dd.cal {x : Str} {st : Stmt} {N ps : List Str} {k : Nat} {sp : Sp} (D : Dd K mg x st ps) (S : FnScope N ps (defScope st)) (len : ∀ vs H Q E, sp vs H Q E → vs.length = ps.length)
    (hbody : ∀ (f : Addr) (cdv : Value) (A : Around) (outer : List Env) (s : Shared) (H : Hp) (vs : List V) (Q : VK) (E : XK), Room k (A.deeper (envOfC x (defScope st) s.heap.objs.size f cdv)) → sp vs H Q E →
      ∃ t, PSs (cxOf CX0 P w K mg base N x (defScope st) f cdv A outer s H E).nox (defBody st) t ∧ t { nx := fun _ H' => Q .non H', rt := Q } (start N vs) H) : C8.Cal P w K mg base (k + 1) x sp [] := by
  obtain ⟨f, fd, F, g, b⟩ := D.ex
  exact ⟨f, fd, ps, [], F.ok S len (fun cdv A outer s H vs Q E hr h => hbody f cdv A outer s H vs Q E hr h), g, F.kp, b, .nil⟩
end
/-! ### what is drawn from -/
def BoxL (n : Nat) (b : List V) : Prop := ∃ b0 b1 b2 : Int, b = [.int b0, .int b1, .int b2] ∧ 0 ≤ b0 ∧ 0 ≤ b1 ∧ b1 < 4611686018427387904 ∧ 0 ≤ b2 ∧ b2 ≤ n
def spTake : Sp := fun vs H Q _ => ∃ (a : Addr) (many : Int) (n : Nat) (b : List V), vs = [.ref a, .int many] ∧ H a = some (.lst b) ∧ BoxL n b ∧ n < 1000000 ∧ 0 < many ∧ many < 1073741824 ∧
  ∀ (r : Int) (b' : List V), 0 ≤ r → r < many → BoxL (n + 1) b' → Q (.int r) (upd H a (.lst b'))
def spDip (K : PySem.W.Frag) : Sp := fun vs H Q _ => ∃ (a : Addr) (k : Nat) (ns : List Int), vs = [.ref a, .int k] ∧ SqL K H a (ns.map V.int) ∧ k ≤ 63 ∧
  ∀ (p : Addr) (b : List V), H p = none → BoxL 0 b → Q (.ref p) (upd H p (.lst b))
def spFold (K : PySem.W.Frag) : Sp := fun vs H Q _ => ∃ (a : Addr) (size : Nat) (ns : List Int), vs = [.ref a, .int size] ∧ SqL K H a (ns.map V.int) ∧ ns.length ≤ 63 ∧ 1 ≤ size ∧ size ≤ 8 ∧
  ∀ (H' : Hp) (p : Addr) (ms : List Int), Same H H' → H p = none → H' p = some (.lst (ms.map V.int)) → ms.length ≤ size → Q (.ref p) H'
/-- the built-in names that the law uses stand as they were -/
structure Bt (mg : Str → Option Value) : Prop where
  len : mg "len" = none
  abs : mg "abs" = none
  int : mg "int" = none
  list : mg "list" = none
  enumerate : mg "enumerate" = none
  range : mg "range" = none
theorem cut_len (xs : List V) (lo hi : Option Int) : (cutV xs lo hi).length ≤ xs.length := by
  unfold cutV
  rw [List.length_take, List.length_drop]
  omega
theorem cut_ints (ns : List Int) (lo hi : Option Int) : ∃ ms : List Int, cutV (ns.map V.int) lo hi = ms.map V.int ∧ ms.length ≤ ns.length := by
  refine ⟨(ns.drop (HT.sIx (ns.map V.int).length 0 lo)).take (HT.sIx (ns.map V.int).length (ns.map V.int).length hi - HT.sIx (ns.map V.int).length 0 lo), ?_, ?_⟩
  · unfold cutV
    rw [List.map_take, List.map_drop]
  · rw [List.length_take, List.length_drop]
    omega
theorem cut_to (ns : List Int) (size : Nat) : cutV (ns.map V.int) none (some (size : Int)) = (ns.take size).map V.int := by
  unfold cutV
  rw [HT.sIx_none, show HT.sIx (ns.map V.int).length (ns.map V.int).length (some (size : Int)) = min size (ns.map V.int).length from HT.sIx_nat _ _ size, List.map_take, List.length_map]
  show ((ns.map V.int).drop 0).take (min size ns.length - 0) = _
  rw [List.drop_zero, Nat.sub_zero]
  by_cases h : size ≤ ns.length
  · rw [Nat.min_eq_left h]
  · rw [Nat.min_eq_right (by omega), List.take_of_length_le (by rw [List.length_map]; omega), List.take_of_length_le (by rw [List.length_map]; omega)]
theorem cut_from_nil (ns : List Int) (size : Nat) (h : ns.length ≤ size) (hi : Option Int) : cutV (ns.map V.int) (some (size : Int)) hi = [] := by
  unfold cutV
  rw [show HT.sIx (ns.map V.int).length 0 (some (size : Int)) = min size (ns.map V.int).length from HT.sIx_nat _ _ size, List.drop_eq_nil_of_le (by rw [List.length_map]; omega), List.take_nil]
section
variable {X : Cx} {k j n i : Nat} {x : Str} {sp : Sp} {p pos : Pos} {e : Expr} {es : List Expr} {kws : List Keyword} {t tk : TA} {te : TE} {ks : List Str} {gV : List V → List V → List V}
/-! ### what is never reached -/
theorem pe_never {e : Expr} : PE X e (fun _ _ _ => False) := ⟨fun _ _ _ _ _ _ h => h.elim⟩
theorem pt_never {e : Expr} : PT X e (fun _ _ _ => False) := ⟨fun _ _ _ _ _ _ h => h.elim⟩
/-! ### calls with keywords -/
structure KCal (P : Program) (w : World) (K : PySem.W.Frag) (mg : Str → Option Value) (base : Heap) (k : Nat) (x : Str) (sp : Sp) (n : Nat) (ks : List Str) (gV : List V → List V → List V) : Prop where
  ex : ∃ (f : Addr) (fd : FuncData) (ps : List Str) (g : List Value → List Value → List Value), FnOk P w K mg base CX0 k f fd ps sp ∧ mg x = some (.ref f) ∧ PySem.W.keepIn K (.ref f) = true ∧ KBn K fd ps n ks g gV
theorem pe_kw (c : KCal X.prog X.w X.K X.mg X.base k x sp n ks gV) (hr : Room j X.A) (hk : k ≤ j) (hg : Gl X x) (ha : PA X (e :: es) t) (hkw : PK X kws tk)
    (hall : (backToKw pos (keywordEach kws X.env)).all (·.1.isSome) = true := by rfl) (hks : (backToKw pos (keywordEach kws X.env)).filterMap (·.1) = ks := by rfl)
    (hdb : (x == ("__debug__" : Str)) = false := by decide) (he : starEach (e :: es) X.env = (false, eval e X.env) :: starEach es X.env := by rfl)
    (hpl : ((backTo pos (starEach (e :: es) X.env)).any (·.1) || (backToKw pos (keywordEach kws X.env)).any (·.1.isNone)) = false := by rfl) :
    PE X (.Call (.Name x p) (e :: es) kws pos) (tCallN n ks.length sp gV E0 t tk) := by
  obtain ⟨f, fd, ps, g, F, hm, kp, b⟩ := c.ex
  exact pe_callN F (hr.mono hk) hg hm kp b pass0 ha hkw hall hks hdb he hpl
theorem pe_kw0 (c : KCal X.prog X.w X.K X.mg X.base k x sp 0 ks gV) (hr : Room j X.A) (hk : k ≤ j) (hg : Gl X x) (hkw : PK X kws tk)
    (hall : (backToKw pos (keywordEach kws X.env)).all (·.1.isSome) = true := by rfl) (hks : (backToKw pos (keywordEach kws X.env)).filterMap (·.1) = ks := by rfl)
    (hdb : (x == ("__debug__" : Str)) = false := by decide)
    (hpl : ((backTo pos (starEach [] X.env)).any (·.1) || (backToKw pos (keywordEach kws X.env)).any (·.1.isNone)) = false := by rfl) :
    PE X (.Call (.Name x p) [] kws pos) (tCallN 0 ks.length sp gV E0 tNil tk) := by
  obtain ⟨f, fd, ps, g, F, hm, kp, b⟩ := c.ex
  refine ⟨fun pins s σ H Q I h => ?_⟩
  refine wpAny_Call_Name_kw (ld_glob I hg hm ?_ hdb)
  refine PySem.W.callWith_KW0 (h₀ := X.base) I.ok.mod.kin kp hall ?_ hpl
  refine thn (hkw.run pos pins s σ H _ I h) fun ws s2 ⟨zs, H2, I2, rz, l1, l2, q2⟩ => ⟨I2.kIn, ?_⟩
  rw [hks]
  exact run_fnN (us := []) (vs := []) F (hr.mono hk) b pass0 I2 .nil rz rfl l2 q2
/-! ### x(*y), x a local name that holds a def -/
def tCallHS (P : Program) (w : World) (K : PySem.W.Frag) (mg : Str → Option Value) (base : Heap) (k i : Nat) (te : TE) : TE := fun σ H Q => ∃ f sp, σ[i]? = some (some (.ref f)) ∧ Held P w K mg base k f sp ∧
  te σ H fun y H1 => ∃ a xs, y = V.ref a ∧ (SqT K H1 a xs ∨ SqL K H1 a xs) ∧ sp xs H1 Q (fun _ _ _ => False)
theorem pe_callHS {sp_ : Pos} (hr : Room k X.A) (hN : X.N[i]? = some x) (hv : Vis X.env.scope x) (he : PE X e te)
    (hdb : (x == ("__debug__" : Str)) = false := by decide) (hcd : (x == ("__classdict__" : Str)) = false := by decide)
    (hst : starEach [.Starred e sp_] X.env = [(true, eval e X.env)] := by rfl) :
    PE X (.Call (.Name x p) [.Starred e sp_] [] pos) (tCallHS X.prog X.w X.K X.mg X.base k i te) := by
  refine ⟨fun pins s σ H Q I h => ?_⟩
  obtain ⟨f, sp, hs, hH, ht⟩ := h
  obtain ⟨fd, ps, F, hk, hb⟩ := hH.ex
  refine wpAny_Call_Name_kw (thn ((pe_var (pos := p) hN hv hdb hcd).run pins s σ H (fun v H1 => v = .ref f ∧ H1 = H) I ⟨.ref f, hs, rfl, rfl⟩) fun u s1 ⟨v, H1, I1, r1, q1⟩ => ?_)
  obtain ⟨rfl, rfl⟩ := q1
  cases r1
  refine PySem.W.callWith_S (h₀ := X.base) I.ok.mod.kin hk (thn (he.run pins s1 σ _ _ I1 ht) fun v s2 ⟨y, H2, I2, ry, a, xs, ey, hxs, q⟩ => ?_) hst
  subst ey
  obtain rfl : v = Value.ref a := ry
  refine StX.star_any I2 hxs fun us s3 I3 rv => ⟨I3.kIn, ?_⟩
  exact run_fn (E := fun _ _ _ => False) F hr hb .nil (fun _ _ _ _ _ _ _ z => z.elim) I3 rv (by rw [List.append_nil]; exact q)
end
section
variable {K : PySem.W.Frag} {x qual : Str} {params : Arguments} {body : List Stmt} {scope : Scope} {kws : List (Str × V)} {f : Addr} {fd : FuncData} {ps : List Str}
/-- keywords, and keyword-only defaults for those that lack; no other defaults -/
theorem kbinds0 (F : FunD K x qual params body scope [] kws f fd) (n : Nat) (ks : List Str) (g : {α : Type} → List α → List α → List α → List α) (hk : kws ≠ [])
    (hrel : ∀ {vs mz zs : List V} {us mv ws : List Value}, Vals vs us → Vals mz mv → Vals zs ws → Vals (g vs mz zs) (g us mv ws))
    (h : ∀ (D : Addr) (doc pm : Value) (an : Option Addr) (cdv ct : Value) (us mv ws : List Value), us.length = n → mv.length = kws.length → ws.length = ks.length →
      KwChain D ((kws.map (·.1)).zip mv) (bindArgs (PySem.W.fnOf x qual params body scope .none (.ref D) doc pm an cdv ct) ⟨us, ks.zip ws⟩) (ps.zip (g us mv ws))) :
    ∃ mv : List Value, KBn K fd ps n ks (fun us ws => g us mv ws) (fun vs zs => g vs (kws.map (·.2)) zs) := by
  obtain ⟨oc, od, dV, kV, doc, pm, an, cdv, ct, osl, rfl, lk, hcd, hD, hK⟩ := F.ex
  rcases hD with ⟨_, rfl⟩ | ⟨e, _⟩
  · rcases hK with e | ⟨D, rfl, hq⟩
    · exact absurd e hk
    · obtain ⟨mv, hl, rk, hks⟩ := kwd_vals hq
      refine ⟨mv, ⟨fun s us ws X l1 l2 => ?_, fun r1 r2 => hrel r1 rk r2⟩⟩
      exact BindsTo.of_looks fun M => KwChain.looks X hks (h D doc pm an cdv ct us mv ws l1 hl l2)
  · exact absurd rfl e
/-- keywords alone, every parameter named or placed -/
theorem kbindsN (F : FunD K x qual params body scope [] kws f fd) (n : Nat) (ks : List Str) (g : {α : Type} → List α → List α → List α)
    (hrel : ∀ {vs zs : List V} {us ws : List Value}, Vals vs us → Vals zs ws → Vals (g vs zs) (g us ws))
    (h : ∀ (kV doc pm : Value) (an : Option Addr) (cdv ct : Value) (us ws : List Value), us.length = n → ws.length = ks.length →
      bindArgs (PySem.W.fnOf x qual params body scope .none kV doc pm an cdv ct) ⟨us, ks.zip ws⟩ = pure (ps.zip (g us ws))) :
    KBn K fd ps n ks (fun us ws => g us ws) (fun vs zs => g vs zs) := by
  obtain ⟨oc, od, dV, kV, doc, pm, an, cdv, ct, osl, rfl, lk, hcd, hD, hK⟩ := F.ex
  rcases hD with ⟨_, rfl⟩ | ⟨e, _⟩
  · exact ⟨fun s us ws X l1 l2 => .of_eq (h kV doc pm an cdv ct us ws l1 l2), fun r1 r2 => hrel r1 r2⟩
  · exact absurd rfl e
end
/-! ### d.update(e) -/
def rDUpd : V → List V → Hp → VK → Prop := fun x vs H Q => ∃ (a b : Addr) (kvs more : List (Key × V)), x = .ref a ∧ vs = [.ref b] ∧ a ≠ b ∧ H a = some (.dK kvs) ∧ H b = some (.dK more) ∧ kvs.length + more.length ≤ 1000 ∧ Q .non (upd H a (.dK (mergeK kvs more)))
theorem mtd_update {X : Cx} : MtR X "dict.update" rDUpd := by
  intro pins s σ H x vs v us Q I rx rv h
  obtain ⟨a, b, kvs, more, ex, ev, nab, ea, eb, hz, q⟩ := h
  subst ex
  subst ev
  obtain rfl : v = Value.ref a := rx
  obtain ⟨u, eu, ru⟩ := rv.one
  subst eu
  obtain rfl : u = Value.ref b := ru
  obtain ⟨z1, ls1, vs1, r1, d1⟩ := I.hok a _ ea
  obtain ⟨z2, ls2, vs2, r2, d2⟩ := I.hok b _ eb
  have l1 : kvs.length = vs1.length := Paired.length r1
  have l2 : more.length = vs2.length := Paired.length r2
  refine call_meetsIn PySem.F.slot_dict_update d1.typeIs PySem.F.entry_dict_update (PySem.F.args_dict_update_2 _ _) (meets_dict_update (mixKind X.prog X.w) a b nab ls2)
    ⟨vs1, vs2, d1, d2, (by rw [← l1, ← l2]; exact Nat.le_trans hz (by decide)), fun h' hm _ hs => ?_⟩
  refine ⟨.non, upd H a (.dK (mergeK kvs more)), ?_, rfl, q⟩
  have hlen : (mergeK kvs more).length ≤ sizeLine := by
    have := length_mergeK more kvs
    have h2 : (1000 : Nat) ≤ sizeLine := by decide
    omega
  obtain ⟨oo, es', ep', ho', _⟩ := id hm
  exact I.write (t' := s.toks) (e := a) (o := .dK (mergeK kvs more)) (by rw [ea]; trivial) (.inl rfl) (fun c u nc e => (hs.2 c nc).trans e) ⟨oo, ho'⟩ ⟨hlen, ls1, merged vs1 vs2, KV.merge r2 r1, hm⟩
/-! ### an exception that is held as a value: its class, its own dict -/
def exv (a C d : Addr) : HO := .ext fun g => ∃ ob fv, g.get? a = some ob ∧ ob.cls = .ref C ∧ ob.dict = some d ∧ ob.data = .fields fv
theorem exv_ok {P : Program} {w : World} {H : Hp} {g : Heap} {a C d : Addr} {ob : Obj} {fv : Array Value} (h1 : g.get? a = some ob) (h2 : ob.cls = .ref C) (h3 : ob.dict = some d) (h4 : ob.data = .fields fv) : ObjOk P w H g a (exv a C d) :=
  ⟨⟨ob, fv, h1, h2, h3, h4⟩, ⟨ob, h1⟩, fun g1 g2 ⟨o2, f2, e1, e2, e3, e4⟩ k => ⟨o2, f2, k _ e1, e2, e3, e4⟩⟩
theorem exv_at {P : Program} {w : World} {H : Hp} {g : Heap} {a C d : Addr} (ok : HOk P w H g) (e : H a = some (exv a C d)) : ∃ ob fv, g.get? a = some ob ∧ ob.cls = .ref C ∧ ob.dict = some d ∧ ob.data = .fields fv := by
  have z : ObjOk P w H g a (.ext fun g => ∃ ob fv, g.get? a = some ob ∧ ob.cls = .ref C ∧ ob.dict = some d ∧ ob.data = .fields fv) := ok a _ e
  exact z.1
section
variable {X : Cx} {pins : List (Addr × Obj)} {σ : L2.St} {H : Hp} {s : Shared}
/-- an object that was made here and is not yet tracked is tracked from now on -/
theorem inv_track {a : Addr} {u : HO} (I : Inv X pins σ H s) (na : H a = none) (nw : ∀ o, X.s_0.heap.get? a ≠ some o) (nL : a ≠ X.env.locals) (nC : ∀ x c, X.env.cells.lookup x = some c → c ≠ a) (nP : ∀ p ∈ X.pn ++ pins, p.1 ≠ a)
    (new : ObjOk X.prog X.w (upd H a u) s.heap a u) : Inv X pins σ (upd H a u) s where
  ok := I.ok
  os := I.os
  bare := I.bare
  base := {
    keep := I.base.keep
    slot := I.base.slot
    free := fun b o e n hx => by
      have nb : b ≠ a := fun z => nw o (z ▸ e)
      rw [upd_ne nb]
      exact I.base.free b o e n hx
    there := I.base.there
    tups := fun b xs e => by
      have e' := I.base.tups b xs e
      rw [upd_ne (ne_of_none e' na)]
      exact e'
    frzs := fun b o xs e => by
      have e' := I.base.frzs b o xs e
      rw [upd_ne (ne_of_none e' na)]
      exact e'
    tbls := fun b ps e => by
      obtain ⟨m, e'⟩ := I.base.tbls b ps e
      exact ⟨m, by rw [upd_ne (ne_of_none e' na)]; exact e'⟩ }
  loc := I.loc
  cell := I.cell
  free := by
    rw [upd_ne (Ne.symm nL)]
    exact I.free
  freeC := fun x c e => by
    rw [upd_ne (nC x c e)]
    exact I.freeC x c e
  pin := fun p hp => by
    obtain ⟨p1, p2, p3⟩ := I.pin p hp
    exact ⟨p1, by rw [upd_ne (nP p hp)]; exact p2, p3⟩
  hok := fun b o e => by
    by_cases hb : b = a
    · subst hb
      rw [upd_same] at e
      cases e
      exact new
    · rw [upd_ne hb] at e
      exact (I.hok b o e).stay (fun _ _ _ z => z) (fun c z => by rw [upd_ne (ne_of_none z na)]; exact z) (fun c xs z => by rw [upd_ne (ne_of_none z na)]; exact z)
  len := I.len
end
/-- what 'except x as n' wishes, where the exception is tracked behind the suite -/
def wKeep (K : PySem.W.Frag) (c : Value) (i : Nat) (ts : Addr → Value → Option Addr → TS) (Wout : WX) (D : Ends) : WX := fun cls d σ H =>
  ∃ (C dd : Addr) (b : Bool), cls = .ref C ∧ d = some dd ∧ PySem.W.exmOne K cls c = some b ∧
    (b = true → ∀ a, H a = none → ts a cls d { nx := fun σ2 H2 => D.nx (σ2.set i none) (upd H2 a (exv a C dd)), rt := D.rt, bk := fun _ _ => False, ct := fun _ _ => False } (σ.set i (some (.ref a))) H) ∧ (b = false → Wout cls d σ H)
section
variable {X : Cx} {x n : Str} {c : Value} {i : Nat} {body suite : List Stmt} {b0 : Stmt} {np pos pos' : Pos} {tb : WX → TS} {ts : Addr → Value → Option Addr → TS} {Wout : WX}
theorem ps_try_keep (hst : X.stack = X.env :: X.outer) (hfr0 : X.env.frame = some X.env.locals) (hex : X.ex = []) (nd : X.N.Nodup) (hi : X.N[i]? = some n) (hk : X.env.kindOf n = some .local) (hnm : Names X x c) (tk : Takes X Wout)
    (hbody : ∀ (W : WX) (pn : List (Addr × Obj)) (xe : Value → Shared → Prop), Takes (X.tr pn xe) W → PassesOwn (model X.prog X.w) X.A X.env xe → PSs (X.tr pn xe) body (tb W))
    (hsuite : ∀ (a : Addr) (oe : Obj) (cls : Value) (d : Option Addr) (pn : List (Addr × Obj)), Zc cls d oe → (∃ vs, oe.data = .fields vs) → PSs (X.suite a ((a, oe) :: pn)) (b0 :: suite) (ts a cls d)) :
    PS X (.Try body [.ExceptHandler (some (.Name x np)) (some n) (b0 :: suite) pos'] [] [] pos) (fun D σ H => tb (wKeep X.K c i ts Wout D) D σ H) := by
  refine ⟨fun pins s σ H D I rd => ?_⟩
  have okX := I.ok
  have hA : X.A.frames = some (X.env :: X.outer) := okX.frames.trans (congrArg some hst)
  refine wpAny_Try_except (wpAny_mono ((hbody (wKeep X.K c i ts Wout D) (X.pn ++ pins)
    (fun e s1 => wpAny (model X.prog X.w) X.A (noteFrame e X.env) (fun _ s2 => wpAny (model X.prog X.w) X.A (setFlight e none) (fun _ s3 => wpAny (model X.prog X.w) X.A (handleBy e X.env [.ExceptHandler (some (.Name x np)) (some n) (b0 :: suite) pos']) (SP X pins D) X.xe s3) X.xe s2) X.xe s1)
    (fun u t xx => ?_) PassesOwn.looking).run [] s σ H D (I.toTry _) rd) (fun fl s1 hfl => ?_) (fun _ _ z => z))
  · obtain ⟨a, G, sI, pins2, σ2, H2, cls, d, eu, J0, inG, upS, sky0, na, eos, bare, C, dd, b, ecls, ed, hexm, hyes, hno⟩ := xx
    subst eu
    subst ecls
    subst ed
    have J : Inv X pins σ2 H2 sI := J0.ofTry okX
    rw [hst] at sky0
    refine Sky.land Zc.steady hA hfr0 sky0 fun g3 fly3 up3 => ?_
    have J3 : Inv X pins σ2 H2 { t with heap := g3 } := J.landed inG fly3.1 (upS.trans up3) eos bare
    obtain ⟨o3, f3, at3, z3, dat3⟩ := fly3.there
    have offF : a ∉ frs (X.env :: X.outer) := fun hm => by
      obtain ⟨_, ob, eo, nof⟩ := fly3.2.2.1.mem hm
      have eq : o3 = ob := Option.some.inj (at3.symm.trans eo)
      exact nof _ (eq ▸ dat3)
    have nLoc : a ≠ X.env.locals := fun z => offF (List.mem_filterMap.mpr ⟨X.env, List.mem_cons_self, by rw [hfr0, z]⟩)
    have nFs : a ∉ X.fs := fun hm => by
      obtain ⟨ev, hev, qe⟩ := List.mem_filterMap.mp hm
      exact offF (List.mem_filterMap.mpr ⟨ev, List.mem_cons_of_mem _ hev, qe⟩)
    have outG : G.get? a = none := fly3.2.1
    have outI : ∀ o, sI.heap.get? a ≠ some o := fun o z => by
      have z2 := inG a o z (by rw [hst]; exact offF)
      rw [outG] at z2
      cases z2
    have out0 : ∀ o, X.s_0.heap.get? a ≠ some o := fun o z => by
      obtain ⟨o', z2⟩ := J.base.there a o z (by rw [hex]; exact List.not_mem_nil)
      exact outI o' z2
    have noPin : ∀ p ∈ X.pn ++ pins, p.1 ≠ a := fun p hp z => outI p.2 (z ▸ (J.pin p hp).1)
    refine wpAny_handleBy_cons (codeAny_handlers_test ?_) (fun q => by cases q)
    have isT : PySem.W.Looks (model X.prog X.w) g3 (typeOf (.ref a)) (.ref C) := fun _ _ _ _ kp q => wpAny_typeOf_ref (kp _ _ at3) (by rw [z3.1]; exact q)
    have asks := PySem.W.exm_one (M := model X.prog X.w) J3.kIn isT hexm
    have S3 := J3.suite at3 dat3 na nLoc nFs
    have named : ∀ {Q E : Value → Shared → Prop}, Q c { t with heap := g3 } → wpAny (model X.prog X.w) (X.A.mark (some (.ref a))) (eval (.Name x np) X.env) Q E { t with heap := g3 } := fun {Q E} q => by
      obtain ⟨gl, db, way⟩ := hnm
      rcases way with m1 | ⟨m1, m2, m3⟩
      · exact ld_glob (X := X.suite a ((a, o3) :: (X.pn ++ pins))) S3 gl m1 q db
      · exact ld_blt (X := X.suite a ((a, o3) :: (X.pn ++ pins))) S3 gl m1 m2 q m3 db
    refine named (asks.here ?_)
    cases b with
    | true =>
      refine codeAny_handlers_suite_as (HandSPX.lands_againZ fly3 fun g4 fly4 up4 => ?_)
      have J4 : Inv X pins σ2 H2 { t with heap := g4 } := J.landed inG fly4.1 ((upS.trans up3).trans up4) eos bare
      obtain ⟨o4, f4, at4, z4, dat4⟩ := fly4.there
      have S4 := J4.suite at4 dat4 na nLoc nFs
      refine store_ok (X := X.suite a ((a, o4) :: (X.pn ++ pins))) (v := .ref a) S4 nd hi (.inl hk) rfl (fun s5 S5 => ?_) (.inr hk)
      refine wpAny_mono ((hsuite a o4 (.ref C) (some dd) (X.pn ++ pins) z4 ⟨_, dat4⟩).run [] s5 _ H2 _ S5 (hyes rfl a na)) (fun fl s6 hfl => ?_) (fun _ _ z => z.elim)
      cases fl with
      | next =>
        obtain ⟨σ6, H6, S6, q6⟩ := hfl
        refine gone_ok (X := X.suite a ((a, o4) :: (X.pn ++ pins))) S6 nd hi hk fun s7 S7 => ?_
        obtain ⟨at7, na7, _, _, nc7⟩ := S7.pin (a, o4) (by rw [List.append_nil]; exact List.mem_cons_self)
        have J7 : Inv X pins (σ6.set i none) H6 s7 := S7.unsuite okX
        refine ⟨_, _, inv_track (u := exv a C dd) J7 na7 out0 nLoc (fun y cc e z => ?_) noPin (exv_ok at7 z4.1 z4.2 dat4), q6⟩
        obtain ⟨vv, oc, ec, dc⟩ := J7.cell y cc e
        rw [z, at7] at ec
        cases ec
        rw [dat4] at dc
        cases dc
      | ret u =>
        obtain ⟨v6, σ6, H6, S6, r6, q6⟩ := hfl
        exact gone_ok (S6.unsuite okX) nd hi hk fun s7 J7 => ⟨_, _, _, J7, r6, q6⟩
      | brk =>
        obtain ⟨_, _, _, q6⟩ := hfl
        exact q6.elim
      | cont =>
        obtain ⟨_, _, _, q6⟩ := hfl
        exact q6.elim
    | false =>
      refine wpAny_handleBy_nil ?_
      obtain ⟨_, _, _, ob, fv, T, oT, _, eo, _, dat, h1, _⟩ := id fly3
      unfold PySem.passOn
      refine wpAny_bind (wpAny_field eo dat h1 ?_)
      rw [if_neg (show ¬ ((Value.ref T == Value.none) = true) by simp)]
      have leave : wpAny (model X.prog X.w) X.A (setFlight (.ref a) X.env.frame) (fun _ s4 => wpAny (model X.prog X.w) X.A (throw (.ref a) : Sem Flow) (SP X pins D) X.xe s4) X.xe { t with heap := g3 } := by
        rw [hfr0]
        refine HandSPX.setFlight_upZ fly3 fun g4 held4 up4 => wpAny_throw (tk _ _ ⟨a, G, sI, pins, σ2, H2, .ref C, some dd, rfl, J, inG, (upS.trans up3).trans up4, .inr (.inr ?_), na, eos, bare, hno rfl⟩)
        rw [hst]
        exact held4
      first
        | exact wpAny_bind (wpAny_pure (wpAny_bind leave))
        | exact wpAny_bind leave
  · cases fl with
    | next =>
      obtain ⟨σ1, H1, J1, q1⟩ := hfl
      exact wpAny_execs_nil ⟨_, _, J1.ofTry okX, q1⟩
    | brk =>
      obtain ⟨σ1, H1, J1, q1⟩ := hfl
      exact ⟨_, _, J1.ofTry okX, q1⟩
    | cont =>
      obtain ⟨σ1, H1, J1, q1⟩ := hfl
      exact ⟨_, _, J1.ofTry okX, q1⟩
    | ret u =>
      obtain ⟨v1, σ1, H1, J1, r1, q1⟩ := hfl
      exact ⟨_, _, _, J1.ofTry okX, r1, q1⟩
end
/-! ### what such a value bears, and of which class it is -/
structure XvC (K : PySem.W.Frag) (C : Addr) : Prop where
  ga : PySem.W.findIn K (.ref C) "__getattribute__" = some (some (.builtin "BaseException.__getattribute__"))
  gg : PySem.W.findIn K (.ref C) "__getattr__" = some none
  sb : PySem.W.subIn K (.ref C) (.type "BaseException") = some true
  hd : PySem.W.hasDictIn K C = true
  kl : PySem.W.findIn K (.ref C) "__class__" = some (some (.builtin "object.__class__"))
  kg : PySem.W.specialIn K (.builtin "object.__class__") "__get__" = some (some (.builtin "getset_descriptor.__get__"))
  kt : PySem.W.takesIn K (.builtin "object.__class__") = some true
  ob : PySem.W.mroIn K C (.type "object") = some true
def tXv (K : PySem.W.Frag) (f : Str) (te : TE) : TE := fun σ H Q => te σ H fun y H1 => ∃ (a C d : Addr) (fs : List (Str × V)) (v : V), y = .ref a ∧ H1 a = some (exv a C d) ∧ XvC K C ∧ PySem.W.findIn K (.ref C) f = some none ∧ H1 d = some (.xd fs) ∧ fs.lookup f = some v ∧ Q v H1
theorem inst_of {X : Cx} {pins : List (Addr × Obj)} {σ : L2.St} {H : Hp} {s : Shared} {a C d : Addr} {fs : List (Str × V)} (I : Inv X pins σ H s) (ea : H a = some (exv a C d)) (ed : H d = some (.xd fs)) :
    ∃ (ob od : Obj) (mA : Str → Option Value), PySem.W.InstAt s.heap a ob C (some od) ∧ (∀ f, RelO (fs.lookup f) (mA f)) ∧ ∀ nm, PySem.W.lookIn nm od = some (mA nm) := by
  obtain ⟨ob, fv, h1, h2, h3, h4⟩ := exv_at I.hok ea
  obtain ⟨mA, hns, hr⟩ : ObjOk X.prog X.w H s.heap d (.xd fs) := I.hok d _ ed
  obtain ⟨od, ho, hl⟩ := lookIn_ns hns
  refine ⟨ob, od, mA, ⟨h1, h2, ?_, ?_⟩, hr, hl⟩
  · unfold PySem.W.notCls
    rw [h4]
  · rw [h3]
    exact ho
theorem pe_xv {X : Cx} {e : Expr} {te : TE} {pos : Pos} {f : Str} (he : PE X e te) (hb : attributeBase e f X.env (eval e X.env) = eval e X.env := by rfl) : PE X (.Attribute e f pos) (tXv X.K f te) := by
  refine ⟨fun pins s σ H Q I rd => attr_of hb (thn (he.run pins s σ H _ I rd) fun u s1 hh => ?_)⟩
  obtain ⟨y, H1, I1, ry, a, C, d, fs, v, ey, ea, T, hno, ed, hl, q⟩ := hh
  subst ey
  obtain rfl : u = Value.ref a := ry
  obtain ⟨ob, od, mA, J, hr, hlk⟩ := inst_of I1 ea ed
  obtain ⟨u2, e2, r2⟩ := RelO.some_of (v := v) (o := mA f) (by rw [← hl]; exact hr f)
  exact HandSPX.exc_get I1.kIn J T.ga T.gg T.sb (PySem.W.findObj_own T.hd hno rfl (by rw [hlk, e2])) (handed_of r2) ⟨v, H1, I1.tok _, r2, q⟩
/-- isinstance(e, c) -/
def rXvI (K : PySem.W.Frag) : List V → Hp → VK → Prop := fun xs H Q => ∃ (a C d : Addr) (fs : List (Str × V)) (c : V) (cu : Value) (b : Bool), xs = [.ref a, c] ∧ H a = some (exv a C d) ∧ XvC K C ∧ H d = some (.xd fs) ∧ ClsV c cu ∧ PySem.W.kitOne K (.ref C) cu = some b ∧ Q (.bl b) H
theorem call_isXv {X : Cx} : CallR X (.builtin "isinstance") (rXvI X.K) := by
  intro pins s σ H xs us Q I r h
  obtain ⟨a, C, d, fs, c, cu, b, rfl, ea, T, ed, hc, hk, q⟩ := h
  cases r with
  | cons r1 rr =>
    cases rr with
    | cons r2 r3 =>
      cases r3
      cases r1
      have ec := hc.eq r2
      subst ec
      obtain ⟨ob, od, mA, J, hr, hlk⟩ := inst_of I ea ed
      have hcl : (PySem.W.clsIn X.K C).isSome = true := by
        obtain ⟨cd, e1, _⟩ := PySem.W.any_some T.hd
        rw [e1]
        rfl
      exact PySem.W.kia_one (PySem.W.kitx_exc hcl T.ga T.gg T.sb T.kl T.kg T.kt T.ob) I.kIn J hk (fun z => nomatch z) fun tk => ⟨.bl b, H, I.kept (t' := tk) fun _ _ z => z, rfl, q⟩
/-- isinstance(e, (c1, c2, ..)) -/
def rXvT (K : PySem.W.Frag) : List V → Hp → VK → Prop := fun xs H Q => ∃ (a C d tp : Addr) (fs : List (Str × V)) (cs : List V) (cu : List Value) (b : Bool), xs = [.ref a, .ref tp] ∧ H a = some (exv a C d) ∧ XvC K C ∧ H d = some (.xd fs) ∧ H tp = some (.tup cs) ∧ Paired ClsV cs cu ∧
  PySem.W.kitAny K (.ref C) cu = some b ∧ Q (.bl b) H
theorem call_isXvT {X : Cx} : CallR X (.builtin "isinstance") (rXvT X.K) := by
  intro pins s σ H xs us Q I r h
  obtain ⟨a, C, d, tp, fs, cs, cu, b, rfl, ea, T, ed, et, hc, hk, q⟩ := h
  cases r with
  | cons r1 rr =>
    cases rr with
    | cons r2 r3 =>
      cases r3
      cases r1
      cases r2
      obtain ⟨ob, od, mA, J, hr, hlk⟩ := inst_of I ea ed
      have hcl : (PySem.W.clsIn X.K C).isSome = true := by
        obtain ⟨cd, e1, _⟩ := PySem.W.any_some T.hd
        rw [e1]
        rfl
      obtain ⟨hz, its, rv, ⟨c5, d5, t5, s5⟩, p1, p2, n5, p3⟩ : ObjOk X.prog X.w H s.heap tp (.tup cs) := I.hok tp _ et
      have ei := ClsV.all hc rv
      subst ei
      dsimp only at p2 p3
      subst p2 p3
      exact PySem.W.kia_tup (PySem.W.kitx_exc hcl T.ga T.gg T.sb T.kl T.kg T.kt T.ob) I.kIn J p1 hk (fun z => nomatch z) fun tk => ⟨.bl b, H, I.kept (t' := tk) fun _ _ z => z, rfl, q⟩
/-! ### calls with keywords of a def that may let an error out -/
structure KCalX (P : Program) (w : World) (K : PySem.W.Frag) (mg : Str → Option Value) (base : Heap) (k : Nat) (x : Str) (sp : Sp) (n : Nat) (ks : List Str) (gV : List V → List V → List V) : Prop where
  ex : ∃ (f : Addr) (fd : FuncData) (ps : List Str) (g : List Value → List Value → List Value), FnOk P w K mg base (L2.CX P w) k f fd ps sp ∧ mg x = some (.ref f) ∧ PySem.W.keepIn K (.ref f) = true ∧ KBn K fd ps n ks g gV
structure CalX (P : Program) (w : World) (K : PySem.W.Frag) (mg : Str → Option Value) (base : Heap) (k : Nat) (x : Str) (sp : Sp) (dvs : List V) : Prop where
  ex : ∃ (f : Addr) (fd : FuncData) (ps : List Str) (ds : List Value), FnOk P w K mg base (L2.CX P w) k f fd ps sp ∧ mg x = some (.ref f) ∧ PySem.W.keepIn K (.ref f) = true ∧ Binds K fd ps ds ∧ Vals dvs ds
theorem passX {X : Cx} : Passes (L2.CX X.prog X.w) X (fun _ _ _ => False) := fun _ _ _ _ _ _ _ h => by
  obtain ⟨_, _, _, _, _, _, _, _, _, _, _, _, z⟩ := h
  exact z.elim
section
variable {X : Cx} {k j n : Nat} {x : Str} {sp : Sp} {p pos : Pos} {e : Expr} {es : List Expr} {kws : List Keyword} {t tk : TA} {ks : List Str} {gV : List V → List V → List V} {dvs : List V}
theorem pe_cX (c : CalX X.prog X.w X.K X.mg X.base k x sp dvs) (hr : Room j X.A) (hk : k ≤ j) (hg : Gl X x) (ha : PA X (e :: es) t)
    (hdb : (x == ("__debug__" : Str)) = false := by decide) (he : starEach (e :: es) X.env = (false, eval e X.env) :: starEach es X.env := by rfl) (hpl : (backTo pos (starEach es X.env)).any (·.1) = false := by rfl) :
    PE X (.Call (.Name x p) (e :: es) [] pos) (tCall sp dvs (fun _ _ _ => False) t) := by
  obtain ⟨f, fd, ps, ds, F, hm, kp, b, d⟩ := c.ex
  exact pe_call F (hr.mono hk) hg hm kp b d passX ha hdb he hpl
theorem pe_kwX (c : KCalX X.prog X.w X.K X.mg X.base k x sp n ks gV) (hr : Room j X.A) (hk : k ≤ j) (hg : Gl X x) (ha : PA X (e :: es) t) (hkw : PK X kws tk)
    (hall : (backToKw pos (keywordEach kws X.env)).all (·.1.isSome) = true := by rfl) (hks : (backToKw pos (keywordEach kws X.env)).filterMap (·.1) = ks := by rfl)
    (hdb : (x == ("__debug__" : Str)) = false := by decide) (he : starEach (e :: es) X.env = (false, eval e X.env) :: starEach es X.env := by rfl)
    (hpl : ((backTo pos (starEach (e :: es) X.env)).any (·.1) || (backToKw pos (keywordEach kws X.env)).any (·.1.isNone)) = false := by rfl) :
    PE X (.Call (.Name x p) (e :: es) kws pos) (tCallN n ks.length sp gV (fun _ _ _ => False) t tk) := by
  obtain ⟨f, fd, ps, g, F, hm, kp, b⟩ := c.ex
  exact pe_callN F (hr.mono hk) hg hm kp b passX ha hkw hall hks hdb he hpl
theorem pe_kw0X (c : KCalX X.prog X.w X.K X.mg X.base k x sp 0 ks gV) (hr : Room j X.A) (hk : k ≤ j) (hg : Gl X x) (hkw : PK X kws tk)
    (hall : (backToKw pos (keywordEach kws X.env)).all (·.1.isSome) = true := by rfl) (hks : (backToKw pos (keywordEach kws X.env)).filterMap (·.1) = ks := by rfl)
    (hdb : (x == ("__debug__" : Str)) = false := by decide)
    (hpl : ((backTo pos (starEach [] X.env)).any (·.1) || (backToKw pos (keywordEach kws X.env)).any (·.1.isNone)) = false := by rfl) :
    PE X (.Call (.Name x p) [] kws pos) (tCallN 0 ks.length sp gV (fun _ _ _ => False) tNil tk) := by
  obtain ⟨f, fd, ps, g, F, hm, kp, b⟩ := c.ex
  refine ⟨fun pins s σ H Q I h => ?_⟩
  refine wpAny_Call_Name_kw (ld_glob I hg hm ?_ hdb)
  refine PySem.W.callWith_KW0 (h₀ := X.base) I.ok.mod.kin kp hall ?_ hpl
  refine thn (hkw.run pos pins s σ H _ I h) fun ws s2 ⟨zs, H2, I2, rz, l1, l2, q2⟩ => ⟨I2.kIn, ?_⟩
  rw [hks]
  exact run_fnN (us := []) (vs := []) F (hr.mono hk) b passX I2 .nil rz rfl l2 q2
/-- what it lets out is wished for at the caller's slots -/
def tCallNT (n m : Nat) (sp : Sp) (gV : List V → List V → List V) (W : WX) (t tk : TA) : TE := fun σ H Q => t σ H fun vs H1 => tk σ H1 fun zs H2 => vs.length = n ∧ zs.length = m ∧ sp (gV vs zs) H2 Q (WE W σ)
theorem pe_kwT {W : WX} (c : KCalX X.prog X.w X.K X.mg X.base k x sp n ks gV) (hr : Room j X.A) (hk : k ≤ j) (hg : Gl X x) (tkw : Takes X W) (ha : PA X (e :: es) t) (hkw : PK X kws tk)
    (hall : (backToKw pos (keywordEach kws X.env)).all (·.1.isSome) = true := by rfl) (hks : (backToKw pos (keywordEach kws X.env)).filterMap (·.1) = ks := by rfl)
    (hdb : (x == ("__debug__" : Str)) = false := by decide) (he : starEach (e :: es) X.env = (false, eval e X.env) :: starEach es X.env := by rfl)
    (hpl : ((backTo pos (starEach (e :: es) X.env)).any (·.1) || (backToKw pos (keywordEach kws X.env)).any (·.1.isNone)) = false := by rfl) :
    PE X (.Call (.Name x p) (e :: es) kws pos) (tCallNT n ks.length sp gV W t tk) := by
  obtain ⟨f, fd, ps, g, F, hm, kp, b⟩ := c.ex
  refine ⟨fun pins s σ H Q I h => ?_⟩
  refine wpAny_Call_Name_kw (ld_glob I hg hm ?_ hdb)
  refine PySem.W.callWith_KW (h₀ := X.base) I.ok.mod.kin kp hall (thn (ha.run pos pins s σ H _ I h) fun us s1 ⟨vs, H1, I1, r, q⟩ => ?_) hpl he
  refine thn (hkw.run pos pins s1 σ H1 _ I1 q) fun ws s2 ⟨zs, H2, I2, rz, l1, l2, q2⟩ => ⟨I2.kIn, ?_⟩
  rw [hks]
  have r2 := b.rel r rz
  refine wpAny_call (codeAny_mono (F.run X.A X.stack s2 H2 ⟨us, ks.zip ws⟩ (g us ws) (gV vs zs) Q (WE W σ) (hr.mono hk) I2.env0 (b.to s2 us ws I2.kIn (r.length.symm.trans l1) (rz.length.symm.trans l2)) r2 q2) fun res s' hq => ?_)
  cases res with
  | error er => exact passAt tkw σ pins H2 s2 er s' I2 hq
  | ok fl =>
    cases fl with
    | ret u => exact I2.after hq
    | next => exact hq.elim
    | brk => exact hq.elim
    | cont => exact hq.elim
end
end Thr
namespace PySem
namespace Oxb
open PySem.W PySem.Calls PyProof.Rows PySem.HandSPX
section
open Builtin Builtin.ObjectAttr
variable {prog : Program} {w : World} {A : Around} {R : Result → Shared → Prop} {h0 : Heap} {gs : Array GenState} {dr : Drawn} {tn : Nat} {os : OsState}
/-- the mro of such a class lets a field be stored -/
structure MroOk (m : List Value) : Prop where
  pass : ∀ self, refuseLoop self "__setattr__" m = pure ()
  obj : m.contains (.type "object") = true
  full : m.isEmpty = false
theorem sub_obj {K : W.Frag} {e C : Addr} {ob : Obj} {od : Option Obj} {cd : ClassData} (X : K.In h0) (I : W.InstAt h0 e ob C od) (hcd : W.clsIn K C = some cd) (hm : MroOk cd.mro) : W.Looks (model prog w) h0 (isInstance (.ref e) (.type "object")) true := by
  refine I.type.andThen (W.looks_mroIn X ?_)
  unfold W.mroIn
  rw [hcd, Option.bind_some, if_neg (by rw [hm.full]; decide), hm.obj]
/-- the first field: the dict is laid -/
theorem store_first {K : W.Frag} {nm : Str} {tk : Tok} {v : Value} {e C : Addr} {fv : Array Value} {cd : ClassData} (X : K.In h0) (he : h0.get? e = some { cls := .ref C, data := .fields fv }) (hcd : W.clsIn K C = some cd) (hm : MroOk cd.mro) (hh : cd.hasDict = true) (ha : W.findIn K (.ref C) nm = some none)
    (hq : ∀ h1 t1 dx, (∀ b o, b ≠ e → h0.get? b = some o → h1.get? b = some o) → h0.objs.size ≤ dx → dx ≠ e → h1.get? e = some { cls := .ref C, dict := some dx, data := .fields fv } → h1.Ns1 dx (fun y => if y = nm then some v else none) → R (.ok (.ret .none)) ⟨h1, gs, dr, t1, os⟩) :
    codeAny (model prog w) A (.call (.builtin "object.__setattr__") ⟨[.ref e, .str nm tk, v], []⟩) R ⟨h0, gs, dr, tn, os⟩ := by
  have J : W.InstAt h0 e { cls := .ref C, data := .fields fv } C none := ⟨he, rfl, rfl, trivial⟩
  have hes : e ≠ h0.objs.size := Nat.ne_of_lt (Heap.lt_size he)
  have L1 : W.Looks (model prog w) h0 (mroOf (.ref C)) cd.mro := (W.looks_clsIn X hcd).andThen .now
  have L2 : W.Looks (model prog w) h0 (storeTaker? none) none := .now
  have L4 : W.Looks (model prog w) h0 (classData C) cd := W.looks_clsIn X hcd
  refine codeAny_call_builtin F.store_object.slot.plain F.store_object.entry (@W.check_slot (model prog w) _ _ ⟨h0, gs, dr, tn, os⟩ "object.__setattr__" "object" "__setattr__" (.ref e) [.str nm tk, v] [] _ F.store_object.kind F.store_object.split (sub_obj X J hcd hm) (F.store_object.args (.ref e) (.str nm tk) v) ?_)
  rw [W.osa_eq, refuse_eq]
  refine wpAny_bind (wpAny_bind (J.type.at (wpAny_bind (L1.at ?_))))
  rw [hm.pass]
  refine wpAny_pure (wpAny_bind (J.type.at (wpAny_bind ((W.looks_findIn X ha).at (wpAny_bind (L2.at ?_))))))
  show wpAny _ _ (storeInOwnDict (.ref e) (.ref C) (.str nm tk) nm v false) _ _ _
  obtain ⟨c1, c2, c3, c4, c5, c6, c7, c8, c9, c10, c11⟩ := cd
  dsimp only at hh
  subst hh
  unfold storeInOwnDict ownDictForStores
  repeat (first | with_reducible refine store_in_new ?_ ?_ | with_reducible refine wpAny_loadPart_at he ?_ | with_reducible refine L4.at ?_ | wp_step)
  · exact ⟨_, #[], _, (Heap.get?_update_ne _ _ _ _ hes.symm).trans (Heap.get?_push_at rfl rfl), rfl, fun x hx => absurd hx (by simp), fun _ => rfl⟩
  · intro h1 t1 hn hs
    have he1 : (h0.push { cls := .type "dict", data := .dict #[] }).get? e = some { cls := .ref C, data := .fields fv } := Heap.get?_push_of_some _ he
    refine hq h1 t1 h0.objs.size (fun b o hb ho => ?_) (Nat.le_refl _) hes.symm ((hs.2 e hes).trans (Heap.get?_update_self _ he1 rfl)) hn
    exact (hs.2 b (Nat.ne_of_lt (Heap.lt_size ho))).trans ((Heap.get?_update_ne _ _ _ _ hb).trans (Heap.get?_push_of_some _ ho))
/-- a further field -/
theorem store_more {K : W.Frag} {nm : Str} {tk : Tok} {v : Value} {e C dx : Addr} {fv : Array Value} {cd : ClassData} {m0 : Str → Option Value} {nl : List Str} (X : K.In h0) (he : h0.get? e = some { cls := .ref C, dict := some dx, data := .fields fv }) (hns : h0.Ns1 dx m0) (hw : Within m0 nl) (hz : nl.length ≤ 1000)
    (hcd : W.clsIn K C = some cd) (hm : MroOk cd.mro) (hh : cd.hasDict = true) (ha : W.findIn K (.ref C) nm = some none)
    (hq : ∀ h1 t1, (∀ b o, b ≠ dx → h0.get? b = some o → h1.get? b = some o) → h1.Ns1 dx (fun y => if y = nm then some v else m0 y) → R (.ok (.ret .none)) ⟨h1, gs, dr, t1, os⟩) :
    codeAny (model prog w) A (.call (.builtin "object.__setattr__") ⟨[.ref e, .str nm tk, v], []⟩) R ⟨h0, gs, dr, tn, os⟩ := by
  obtain ⟨oD, esD, epD, hoD, _, _⟩ := hns.count hw
  have J : W.InstAt h0 e { cls := .ref C, dict := some dx, data := .fields fv } C (some oD) := ⟨he, rfl, rfl, hoD⟩
  have L1 : W.Looks (model prog w) h0 (mroOf (.ref C)) cd.mro := (W.looks_clsIn X hcd).andThen .now
  have L2 : W.Looks (model prog w) h0 (storeTaker? none) none := .now
  have L4 : W.Looks (model prog w) h0 (classData C) cd := W.looks_clsIn X hcd
  refine codeAny_call_builtin F.store_object.slot.plain F.store_object.entry (@W.check_slot (model prog w) _ _ ⟨h0, gs, dr, tn, os⟩ "object.__setattr__" "object" "__setattr__" (.ref e) [.str nm tk, v] [] _ F.store_object.kind F.store_object.split (sub_obj X J hcd hm) (F.store_object.args (.ref e) (.str nm tk) v) ?_)
  rw [W.osa_eq, refuse_eq]
  refine wpAny_bind (wpAny_bind (J.type.at (wpAny_bind (L1.at ?_))))
  rw [hm.pass]
  refine wpAny_pure (wpAny_bind (J.type.at (wpAny_bind ((W.looks_findIn X ha).at (wpAny_bind (L2.at ?_))))))
  show wpAny _ _ (storeInOwnDict (.ref e) (.ref C) (.str nm tk) nm v false) _ _ _
  obtain ⟨c1, c2, c3, c4, c5, c6, c7, c8, c9, c10, c11⟩ := cd
  dsimp only at hh
  subst hh
  unfold storeInOwnDict ownDictForStores
  repeat (first | with_reducible refine PySem.OEX.store_in_old hns hw hz ?_ | with_reducible refine wpAny_loadPart_at he ?_ | with_reducible refine L4.at ?_ | wp_step)
  exact fun h1 t1 hn hs => hq h1 t1 (fun b o hb ho => (hs.2 b hb).trans ho) hn
end
/-! ### making such an error: the built-in __new__ that it inherits, then its own __init__ -/
structure NewOk (newId : String) (bm : List Value) : Prop where
  ex : ∃ (Bn initn : String) (bn : List Value), ExcBaseFacts Bn newId initn bn ∧ bm.contains (.type Bn) = true ∧ bm.contains (.type "AttributeError") = false ∧ bm.contains (.type "NameError") = false
structure InitOk (B : String) (bm : List Value) : Prop where
  plain : plainId (B ++ ".__init__") = true
  entry : entryFor table (B ++ ".__init__") = some Builtin.«BaseException.__init__»
  kind : builtinKind (B ++ ".__init__") = some .slot
  split : splitId (B ++ ".__init__") = some (B, "__init__")
  row : Manifest.signature? (B ++ ".__init__") = some ⟨.positional, "*", B, .self, [⟨"args", .varPos, false⟩]⟩
  star : (B != "*") = true
  has : bm.contains (.type B) = true
section
variable {prog : Program} {w : World} {A : Around} {E : Value → Shared → Prop} {R : Result → Shared → Prop} {hp : Heap} {ga : Array GenState} {dw : Drawn} {tn : Nat} {os : OsState}
variable {n1 n2 : Str} {C N : Addr} {b1 bm : List Value} {hd : Bool} {s1 : List Str} {s2 : List Value} {ab : Bool} {co : Option Bool} {d1 : Option Addr} {k0 k1 k2 k3 k5 : Option Value} {B newId : String}
theorem init_any (I : InitOk B bm) {e t0 : Addr} {more : List Value} (hC : hp.get? C = some (excClassObj n1 n2 C N b1 bm hd s1 s2 ab co d1 k0 k1 k2 k3 k5 newId)) (he : hp.get? e = some (excO C t0)) (hl : more.length ≤ sizeLine)
    (hq : ∀ h2 t2, (∀ b o, b ≠ e → hp.get? b = some o → h2.get? b = some o) → h2.get? e = some (excO C t2) → R (.ok (.ret .none)) ⟨h2, ga, dw, tn, os⟩) :
    codeAny (model prog w) A (.call (.builtin (B ++ ".__init__")) ⟨.ref e :: more, []⟩) R ⟨hp, ga, dw, tn, os⟩ := by
  have hin : (Value.ref C :: bm).contains (.type B) = true := by
    rw [List.contains_cons, I.has, Bool.or_true]
  have hst := I.star
  refine codeAny_call_builtin I.plain I.entry ?_
  have chk : ∀ {Q : Unit → Shared → Prop} {E : Value → Shared → Prop} {A : Around}, Q () ⟨hp, ga, dw, tn, os⟩ → wpAny (model prog w) A (checkBuiltinCall (B ++ ".__init__") ⟨.ref e :: more, []⟩) Q E ⟨hp, ga, dw, tn, os⟩ := fun {Q E A} q => by
    simp only [checkBuiltinCall, I.kind, I.split, I.row]
    repeat (first | (with_reducible refine wpAny_loadPart_at he ?_) | with_reducible refine wpAny_loadPart_at hC ?_ | (with_reducible refine wpAny_isSubtype_exc hC ?_; rw [hin]) | wp_step)
    refine wpAny_onRaise ?_
    rw [show ∀ (x y : String) (n : Nat), Bind.check ⟨.positional, "*", B, .self, [⟨"args", .varPos, false⟩]⟩ x y n (List.map (fun z => z.fst) ({ pos := Value.ref e :: more } : Args).kw) = pure () from
      fun _ _ _ => check_star_args _ _ _ _ _ _]
    exact wpAny_pure q
  refine chk ?_
  wp_walk
  refine hq _ hp.objs.size (fun b o hb ho => ?_) ?_
  · exact (Heap.get?_update_other _ _ (Ne.symm hb)).trans (Heap.get?_push_of_some _ ho)
  · exact Heap.get?_update_self _ (Heap.get?_push_of_some _ he) rfl
theorem new_any (Nw : NewOk newId bm) {more : List Value} (hC : hp.get? C = some (excClassObj n1 n2 C N b1 bm hd s1 s2 ab co d1 k0 k1 k2 k3 k5 newId)) (hl : more.length ≤ sizeLine)
    (hq : R (.ok (.ret (.ref (hp.objs.size + 1)))) ⟨(hp.push { cls := .type "tuple", data := .seq more.toArray }).push { cls := .ref C, data := .fields #[.ref hp.objs.size, .none, .none, .none, .bool false, .none] }, ga, dw, tn, os⟩) :
    codeAny (model prog w) A (.builtin newId ⟨.ref C :: more, []⟩) R ⟨hp, ga, dw, tn, os⟩ := by
  obtain ⟨Bn, initn, bn, FB, c1, c2, c3⟩ := Nw.ex
  have e0 := FB.ends
  have e1 : (Value.ref C :: bm).contains (.type Bn) = true := by
    rw [List.contains_cons, c1, Bool.or_true]
  have e2 : (Value.ref C :: bm).contains (.type "AttributeError") = false := by
    rw [List.contains_cons, c2]
    rfl
  have e3 : (Value.ref C :: bm).contains (.type "NameError") = false := by
    rw [List.contains_cons, c3]
    rfl
  refine codeAny_builtinAt FB.entry ?_
  unfold Builtin.«BaseException.__new__»
  refine wpAt_bind ?_
  show wpAt _ _ _ (stack >>= _) _ _ _
  refine wpAt_bind (wpAt_stack fun p below => wpAt_of_wpAny ?_)
  wp_walk
  refine wpAt_of_wpAny ?_
  rw [FB.owner]
  repeat (first | with_reducible refine wpAny_madeHere_exc FB.canon hC ?_ | with_reducible refine wpAny_loadPart_at hC ?_ | (with_reducible refine wpAny_isSubtype_exc hC ?_; first | rw [e1] | rw [e2] | rw [e3]) | wp_step)
  show R _ _
  rw [Heap.size_push]
  exact hq
theorem check_any (Nw : NewOk newId bm) {M : Model} {more : List Value} {Q : Unit → Shared → Prop} (hC : hp.get? C = some (excClassObj n1 n2 C N b1 bm hd s1 s2 ab co d1 k0 k1 k2 k3 k5 newId)) (q : Q () ⟨hp, ga, dw, tn, os⟩) :
    wpAny M A (checkBuiltinCall newId ⟨.ref C :: more, []⟩) Q E ⟨hp, ga, dw, tn, os⟩ := by
  obtain ⟨Bn, initn, bn, FB, c1, c2, c3⟩ := Nw.ex
  have e1 : (Value.ref C :: bm).contains (.type Bn) = true := by
    rw [List.contains_cons, c1, Bool.or_true]
  have e0 := FB.noStar
  simp only [checkBuiltinCall, FB.newKind, FB.newSplit, FB.newRow]
  repeat (first | refine wpAny_loadPart_at hC ?_ | (refine wpAny_isSubtype_exc hC ?_; rw [e1]) | refine wpAny_staticBase_exc hC ?_ | refine wpAny_madeBy_exc hC ?_ | simp only [bne_self_eq_false, Bool.false_eq_true, if_false] | wp_step)
  exact q
theorem typeCall_any (Nw : NewOk newId bm) {more : List Value} {fI : Addr} {Q : Fin → Shared → Prop} (hC : hp.get? C = some (excClassObj n1 n2 C N b1 bm hd s1 s2 ab co d1 k0 k1 k2 k3 k5 newId))
    (hi : W.Looks (model prog w) hp (typeLookup (.ref C) "__init__") (some (.ref fI))) (hb : ∀ self, W.Looks (model prog w) hp (bindSpecial (.ref fI) self) (.ref fI, [self])) (hl : more.length ≤ sizeLine)
    (hq : codeAny (model prog w) A (.call (.ref fI) ⟨.ref (hp.objs.size + 1) :: more, []⟩) (fun res z => match res with | .ok (.ret v) => v = .none ∧ Q (.done (.ret (.ref (hp.objs.size + 1)))) z | .ok _ => False | .error er => E er z) ⟨(hp.push (W.kdv_tup more)).push (excO C hp.objs.size), ga, dw, tn, os⟩) :
    wpAny (model prog w) A (Builtin.«type.__call__» ⟨.ref C :: more, []⟩) Q E ⟨hp, ga, dw, tn, os⟩ := by
  obtain ⟨Bn, initn, bn, FB, _, _, _⟩ := id Nw.ex
  repeat (first | with_reducible refine wpAny_loadPart_at hC ?_ | with_reducible refine wpAny_madeBy_exc hC ?_ | wp_step)
  refine codeAny_call_builtin_code (Code.quiet_builtin _ FB.quiet) (check_any Nw hC ?_)
  refine new_any Nw hC hl ?_
  show wpAny _ _ _ _ _ _
  have up : ∀ b o, hp.get? b = some o → ((hp.push (W.kdv_tup more)).push (excO C hp.objs.size)).get? b = some o := fun b o z => Heap.get?_push_of_some _ (Heap.get?_push_of_some _ z)
  have hC2 := up _ _ hC
  have hE : ((hp.push (W.kdv_tup more)).push (excO C hp.objs.size)).get? (hp.objs.size + 1) = some (excO C hp.objs.size) := by heap_get
  have self_in : (Value.ref C :: bm).contains (.ref C) = true := by simp
  have l1 := hi.keeps up
  have l2 := (hb (.ref (hp.objs.size + 1))).keeps up
  unfold isInstance
  repeat (first | with_reducible refine wpAny_loadPart_at hE ?_ | (with_reducible refine wpAny_isSubtype_exc hC2 ?_; rw [self_in]) | wp_step)
  show wpAny _ _ (typeLookup (.ref C) _) _ _ _
  refine l1.at (wpAny_holding (wpAny_bind (l2.at ?_)))
  refine wpAny_bind (wpAny_call (codeAny_mono hq fun res z q => ?_))
  rcases res with er | (v | _ | _ | _) <;> first | exact q | exact q.elim | skip
  obtain ⟨rfl, q⟩ := q
  first
    | exact wpAny_pure (wpAny_pure q)
    | (wp_walk; exact q)
theorem call_any (Nw : NewOk newId bm) {more : List Value} {fI : Addr} (hC : hp.get? C = some (excClassObj n1 n2 C N b1 bm hd s1 s2 ab co d1 k0 k1 k2 k3 k5 newId))
    (hi : W.Looks (model prog w) hp (typeLookup (.ref C) "__init__") (some (.ref fI))) (hb : ∀ self, W.Looks (model prog w) hp (bindSpecial (.ref fI) self) (.ref fI, [self])) (hl : more.length ≤ sizeLine)
    (hq : codeAny (model prog w) (A.under (.builtin "type.__call__" ⟨.ref C :: more, []⟩)) (.call (.ref fI) ⟨.ref (hp.objs.size + 1) :: more, []⟩) (W.InitBack (hp.objs.size + 1) R) ⟨(hp.push (W.kdv_tup more)).push (excO C hp.objs.size), ga, dw, tn, os⟩) :
    codeAny (model prog w) A (.call (.ref C) ⟨more, []⟩) R ⟨hp, ga, dw, tn, os⟩ := by
  have g1 := tc_lookup
  have g2 := tc_bind (.ref C)
  have hty : (⟨hp, ga, dw, tn, os⟩ : Shared).TypeIs (.ref C) "type" := ⟨_, hC, rfl⟩
  refine codeAny_of_tree ?_
  show wpAny _ _ (callAny (.ref C) _) _ _ _
  repeat (any_goals (first | assumption | with_reducible refine wpAny_loadPart_at hC ?_ | wp_step))
  refine ⟨rfl, codeAny_call_builtin_at (Code.quiet_builtin _ (by decide +kernel)) entry_typeCall (wpAny_check_type_call_sub hC (typeCall_any Nw hC hi hb hl (codeAny_mono hq fun res z q => ?_)))⟩
  rcases res with er | (v | _ | _ | _) <;> exact q
end
end Oxb
end PySem
namespace Thr
open PySem PySem.Spec PyProof.Rows L2
/-! ### an own error straight over a built-in one (B), whose __init__ is walked as a def -/
structure OxC (K : PySem.W.Frag) (C : Addr) (B : String) : Prop where
  cls : ∃ nm q N bs bm sn sub ab col dd k0 k1 k2 k3 k5 newId, K.lookup C = some (excClassObj nm q C N bs bm true sn sub ab col dd k0 k1 k2 k3 k5 newId) ∧ PySem.Oxb.NewOk newId bm ∧ PySem.Oxb.InitOk B bm ∧ PySem.Oxb.MroOk (.ref C :: bm)
  sa : PySem.W.findIn K (.ref C) "__setattr__" = some (some (.builtin "object.__setattr__"))
  exC : PySem.W.subIn K (.ref C) (.type "BaseException") = some true
  tyC : PySem.W.typeIn K (.ref C) = some (.type "type")
  kC : PySem.W.keepIn K (.ref C) = true
section
variable {X : Cx} {pins : List (Addr × Obj)} {σ : L2.St} {H : Hp} {s : Shared} {a C dx : Addr} {f : Str} {y : V} {u : Value} {fs : List (Str × V)} {Q : Unit → Shared → Prop} {E : Value → Shared → Prop} {A : Around} {B : String}
theorem ox_first (T : OxC X.K C B) (I : Inv X pins σ H s) (e : H a = some (exo a C none)) (hno : PySem.W.findIn X.K (.ref C) f = some none) (ry : RelV y u)
    (h : ∀ dx s1, H dx = none → dx ≠ a → Inv X pins σ (upd (upd H dx (exd dx [(f, y)])) a (exo a C (some dx))) s1 → Q () s1) : wpAny (model X.prog X.w) A (setAttr (.ref a) f u) Q E s := by
  obtain ⟨nm, q, N, bs, bm, sn, sub, ab, col, dd, k0, k1, k2, k3, k5, newId, hC, _, _, hm⟩ := T.cls
  have hcl : ∃ cd, PySem.W.clsIn X.K C = some cd ∧ cd.mro = .ref C :: bm ∧ cd.hasDict = true := by
    unfold PySem.W.clsIn
    rw [hC]
    exact ⟨_, rfl, rfl, rfl⟩
  obtain ⟨cd, hcd, em, ehd⟩ := hcl
  obtain ⟨t1, ho⟩ := exo_at I.hok e
  obtain ⟨h0, gs, dr, tn, os⟩ := s
  refine PySem.W.set_plain I.kIn (ox := { cls := .ref C, dict := none, data := .fields #[.ref t1, .none, .none, .none, .bool false, .none] }) (od := none) ⟨ho, rfl, rfl, trivial⟩ T.sa ?_
  refine PySem.Oxb.store_first I.kIn ho hcd (em ▸ hm) ehd hno (fun h1 t2 dx kp hbig hne hx hn => ?_)
  have fresh : H dx = none := I.hok.fresh hbig
  have offD : ∀ {b : Addr} {o : Obj}, h0.get? b = some o → b ≠ dx := fun z => Nat.ne_of_lt (Nat.lt_of_lt_of_le (Heap.lt_size z) hbig)
  have offA : ∀ {b : Addr}, H b = none → b ≠ a := fun {b} z1 z2 => by
    rw [z2, e] at z1
    cases z1
  have U : Un X.fs [] H (upd (upd H dx (exd dx [(f, y)])) a (exo a C (some dx))) h0 h1 :=
    ⟨fun b o z n _ _ => kp b o (offA n) z, fun b o z n _ _ => ⟨o.slots, kp b o (offA n) z⟩, fun b o z n _ => by rw [upd_ne (offA n), upd_ne (offD z)]; exact n,
      fun b o z _ => by
        by_cases hb : b = a
        · exact ⟨_, hb ▸ hx⟩
        · exact ⟨o, kp b o hb z⟩,
      fun b xs z => by rw [upd_ne (at_ne e z exo_tup), upd_ne (ne_of_none z fresh)]; exact z,
      fun b o v z => by rw [upd_ne (at_ne e z exo_frz), upd_ne (ne_of_none z fresh)]; exact z,
      fun b ps z => ⟨#[], by rw [upd_ne (at_ne e z exo_tbl), upd_ne (ne_of_none z fresh), z]; simp⟩⟩
  refine h dx _ fresh hne (I.un (t' := t2) U fun b o z => ?_)
  by_cases hb : b = a
  · subst hb
    rw [upd_same] at z
    cases z
    exact exo_ok hx
  rw [upd_ne hb] at z
  by_cases hd : b = dx
  · subst hd
    rw [upd_same] at z
    cases z
    exact exd_ok hn (relO_put (fs := []) ry fun _ => True.intro)
  rw [upd_ne hd] at z
  refine (I.hok b o z).stay (fun c v hc z2 => kp c v (fun z3 => ?_) z2) (fun c hc => by rw [upd_ne (at_ne e hc exo_own), upd_ne (ne_of_none hc fresh)]; exact hc) (fun c xs hc => by rw [upd_ne (at_ne e hc exo_tup), upd_ne (ne_of_none hc fresh)]; exact hc)
  rcases hc with hc | hc
  · exact hb (hc.symm.trans z3)
  · exact at_ne e hc exo_own z3
theorem ox_more (T : OxC X.K C B) (I : Inv X pins σ H s) (e : H a = some (exo a C (some dx))) (ed : H dx = some (exd dx fs)) (hl : fs.length ≤ 900) (hno : PySem.W.findIn X.K (.ref C) f = some none) (ry : RelV y u)
    (h : ∀ s1, Inv X pins σ (upd H dx (exd dx ((f, y) :: fs))) s1 → Q () s1) : wpAny (model X.prog X.w) A (setAttr (.ref a) f u) Q E s := by
  obtain ⟨nm, q, N, bs, bm, sn, sub, ab, col, dd, k0, k1, k2, k3, k5, newId, hC, _, _, hm⟩ := T.cls
  have hcl : ∃ cd, PySem.W.clsIn X.K C = some cd ∧ cd.mro = .ref C :: bm ∧ cd.hasDict = true := by
    unfold PySem.W.clsIn
    rw [hC]
    exact ⟨_, rfl, rfl, rfl⟩
  obtain ⟨cd, hcd, em, ehd⟩ := hcl
  obtain ⟨t1, ho⟩ := exo_at I.hok e
  obtain ⟨mA, hns, rel⟩ := exd_at I.hok ed
  have hw := within_of rel
  obtain ⟨h0, gs, dr, tn, os⟩ := s
  obtain ⟨oD, _, _, hoD, _, _⟩ := hns.count hw
  refine PySem.W.set_plain I.kIn (ox := { cls := .ref C, dict := some dx, data := .fields #[.ref t1, .none, .none, .none, .bool false, .none] }) (od := some oD) ⟨ho, rfl, rfl, hoD⟩ T.sa ?_
  refine PySem.Oxb.store_more I.kIn ho hns hw (by rw [List.length_map]; omega) hcd (em ▸ hm) ehd hno (fun h1 t2 kp hn => ?_)
  obtain ⟨o2, _, _, e2, _⟩ := id hn
  exact h _ (I.write (t' := t2) (x := dx) (e := dx) (o := exd dx ((f, y) :: fs)) (by rw [ed]; exact True.intro) (.inl rfl) kp ⟨o2, e2⟩ (exd_ok hn (relO_put ry rel)))
theorem ox_init {us : List Value} {Q : Value → Shared → Prop} (T : OxC X.K C B) (I : Inv X pins σ H s) (e : H a = some (exo a C none)) (hl : us.length ≤ sizeLine) (h : ∀ s1, Inv X pins σ H s1 → Q .none s1) :
    wpAny (model X.prog X.w) A (call (.builtin (B ++ ".__init__")) (.ref a :: us)) Q E s := by
  obtain ⟨nm, q, N, bs, bm, sn, sub, ab, col, dd, k0, k1, k2, k3, k5, newId, hC, _, FB, _⟩ := T.cls
  obtain ⟨t1, ho⟩ := exo_at I.hok e
  obtain ⟨h0, gs, dr, tn, os⟩ := s
  refine wpAny_call (PySem.Oxb.init_any FB (I.kIn _ _ hC) ho hl fun h1 t2 kp hx => ?_)
  have J := I.write (t' := tn) (x := a) (e := a) (o := exo a C none) (by rw [e]; exact True.intro) (.inl rfl) kp ⟨_, hx⟩ (exo_ok hx)
  have same : upd H a (exo a C none) = H := funext fun b => by
    by_cases hb : b = a
    · rw [hb, upd_same, e]
    · rw [upd_ne hb]
  rw [same] at J
  exact h _ J
end
/-- B.__init__(self, ..) -/
def tBI (K : PySem.W.Frag) (B : String) (ta : TA) : TE := fun σ H Q => ta σ H fun vs H1 => ∃ (a C : Addr) (ws : List V), vs = .ref a :: ws ∧ ws.length ≤ 1000 ∧ OxC K C B ∧ H1 a = some (exo a C none) ∧ Q .non H1
/-- self.f = e -/
def tOxs (K : PySem.W.Frag) (f : Str) (to te : TE) : TS := fun D σ H => te σ H fun y H1 => to σ H1 fun x H2 => ∃ (a C : Addr) (B : String), x = .ref a ∧ OxC K C B ∧ PySem.W.findIn K (.ref C) f = some none ∧
  ((H2 a = some (exo a C none) ∧ ∀ dx, H2 dx = none → dx ≠ a → D.nx σ (upd (upd H2 dx (exd dx [(f, y)])) a (exo a C (some dx)))) ∨
    ∃ (dx : Addr) (fs : List (Str × V)), H2 a = some (exo a C (some dx)) ∧ H2 dx = some (exd dx fs) ∧ fs.length ≤ 900 ∧ D.nx σ (upd H2 dx (exd dx ((f, y) :: fs))))
section
variable {X : Cx} {o e : Expr} {es : List Expr} {to te : TE} {ta : TA} {f : Str} {p p' p1 p2 pos : Pos} {B : String}
/-- B's own facts: the name, its type, its __init__ -/
structure BInit (K : PySem.W.Frag) (B : String) : Prop where
  boot : bootBuiltins (Str.ofString B) = some (.type B)
  ty : typeOf (.type B) = pure (.type "type")
  stub : Manifest.isStub B = false
  fnd : PySem.W.findCls K (.type B) (.type "type") "__init__" = some (.val (.builtin (B ++ ".__init__")))
  out : PySem.W.handedIn (.builtin (B ++ ".__init__")) = true
  nn : Str.ofString B ≠ "__name__"
  nd : (Str.ofString B == ("__debug__" : Str)) = false
theorem pe_binit {pl : Sem Bool} (b : BInit X.K B) (hg : Gl X (Str.ofString B)) (hm : X.mg (Str.ofString B) = none) (ha : PA X (e :: es) ta)
    (hc : eval (.Call (.Attribute (.Name (Str.ofString B) p1) "__init__" p2) (e :: es) [] pos) X.env = (do
      let ov ← eval (.Name (Str.ofString B) p1) X.env
      standAt p2.atName
      let (fn, first) ← holding [ov] (getMethod ov "__init__" pl)
      callWith pos fn first (backTo pos (starEach (e :: es) X.env)) (backToKw pos (keywordEach [] X.env))) := by rfl)
    (he : starEach (e :: es) X.env = (false, eval e X.env) :: starEach es X.env := by rfl) (hpl : (backTo pos (starEach es X.env)).any (·.1) = false := by rfl) :
    PE X (.Call (.Attribute (.Name (Str.ofString B) p1) "__init__" p2) (e :: es) [] pos) (tBI X.K B ta) := by
  refine ⟨fun pins s σ H Q I rd => ?_⟩
  refine PySem.W.methodCall_KW (ld_blt I hg hm b.boot ?_ b.nn b.nd) hc
  obtain ⟨m, fr⟩ := I.fr
  refine PySem.W.method_type fr I.ok.mod.kin b.ty b.stub b.fnd b.out ?_
  show wpAny _ _ (callWith pos (Value.builtin (B ++ ".__init__")) [] (backTo pos (starEach (e :: es) X.env)) []) _ _ _
  refine PyProof.Rows.callWith_method1 (thn (ha.run pos pins _ σ H _ (I.tok _) rd) fun us s1 ⟨vs, H1, I1, r1, a, C, ws, ev, hl, T, ea, q⟩ => ?_) he hpl
  subst ev
  cases r1 with
  | cons ra rs =>
    cases ra
    exact ox_init T I1 ea (by rw [← Paired.length rs, sizeLine_eq]; omega) fun s2 J => ⟨.non, H1, J, rfl, q⟩
theorem ps_oxs (ho : PE X o to) (he : PE X e te) (hs : swapsWith e (some (.Attribute o f p')) pos.line X.env = pure false := by rfl) : PS X (.Assign [.Attribute o f p'] e pos) (tOxs X.K f to te) := by
  refine ⟨fun pins s σ H D I rd => plainObj_wpAny_Assign_Attribute (thn (he.run pins s σ H _ I rd) fun v s1 ⟨y, H1, I1, r1, q1⟩ => thn (ho.run pins s1 σ H1 _ I1 q1) fun u s2 ⟨z, H2, I2, r2, a, C, B, ez, T, hno, q⟩ => ?_) hs⟩
  subst ez
  cases r2
  rcases q with ⟨ea, q⟩ | ⟨dx, fs, ea, ed, hl, q⟩
  · exact ox_first T I2 ea hno r1 fun dx s3 n ne J => ⟨σ, _, J, q dx n ne⟩
  · exact ox_more T I2 ea ed hl hno r1 fun s3 J => ⟨σ, _, J, q⟩
end
/-- C(e, ..) as a value: tracked from then on -/
def tMkV (C : Addr) (sp : Sp) (ta : TA) : TE := fun σ H Q => ta σ H fun vs H1 => vs.length ≤ 1000 ∧ ∀ a, H1 a = none → sp (.ref a :: vs) (upd H1 a (exo a C none))
  (fun v H2 => v = .non ∧ ∃ (d : Addr) (fs : List (Str × V)), H2 a = some (exo a C (some d)) ∧ H2 d = some (exd d fs) ∧ Q (.ref a) (upd (upd H2 a (exv a C d)) d (.xd fs))) (fun _ _ _ => False)
section
variable {X : Cx} {e : Expr} {es : List Expr} {ta : TA} {p pos : Pos} {B : String} {CX : CXT} {x : Str} {C fI : Addr} {k : Nat} {fd : FuncData} {ps : List Str} {sp : Sp}
/-- the exception that its __init__ has left, as a value -/
theorem inv_value {pins : List (Addr × Obj)} {σ : L2.St} {H : Hp} {s : Shared} {a d : Addr} {fs : List (Str × V)} (I : Inv X pins σ H s) (ea : H a = some (exo a C (some d))) (ed : H d = some (exd d fs)) :
    Inv X pins σ (upd (upd H a (exv a C d)) d (.xd fs)) s := by
  obtain ⟨t1, h1⟩ := exo_at I.hok ea
  obtain ⟨mA, h2, rel⟩ := exd_at I.hok ed
  obtain ⟨od, es', ep', h3, h4, _⟩ := id h2
  have nda : d ≠ a := fun z => by
    rw [z, h1] at h3
    have z2 := Option.some.inj h3
    subst z2
    cases h4
  have I1 := I.write (t' := s.toks) (x := a) (e := a) (o := exv a C d) (h' := s.heap) (by rw [ea]; exact True.intro) (.inl rfl) (fun _ _ _ z => z) ⟨_, h1⟩ (exv_ok h1 rfl rfl rfl)
  have ed1 : (upd H a (exv a C d)) d = some (exd d fs) := by
    rw [upd_ne nda]
    exact ed
  exact I1.write (t' := s.toks) (x := d) (e := d) (o := .xd fs) (h' := s.heap) (by rw [ed1]; exact True.intro) (.inl rfl) (fun _ _ _ z => z) ⟨_, h3⟩ ⟨mA, h2, rel⟩
theorem run_ox {pins : List (Addr × Obj)} {σ : L2.St} {H1 : Hp} {vs : List V} {us : List Value} {hp : Heap} {gs : Array GenState} {dr : Drawn} {tk : Nat} {os : OsState} {Qk : V → Hp → Prop} {G : Value → Shared → Prop} (T : OxC X.K C B) (iC : PySem.W.findIn X.K (.ref C) "__init__" = some (some (.ref fI)))
    (tI : PySem.W.typeIn X.K (.ref fI) = some (.type "function")) (F1 : FnOk X.prog X.w X.K X.mg X.base CX k fI fd ps sp) (hr : Room (k + 1) X.A) (hb : Binds X.K fd ps []) (hx : Passes CX X (fun _ _ _ => False)) (I1 : Inv X pins σ H1 ⟨hp, gs, dr, tk, os⟩) (r1 : Vals vs us) (hz : vs.length ≤ 1000)
    (q1 : sp (.ref (hp.objs.size + 1) :: vs) (upd H1 (hp.objs.size + 1) (exo (hp.objs.size + 1) C none)) Qk (fun _ _ _ => False))
    (fin : ∀ (kk : ∀ b o, hp.get? b = some o → ((hp.push (PySem.W.kdv_tup us)).push (PySem.HandSPX.excO C hp.objs.size)).get? b = some o)
      (I2 : Inv X pins σ (upd H1 (hp.objs.size + 1) (exo (hp.objs.size + 1) C none)) ⟨(hp.push (PySem.W.kdv_tup us)).push (PySem.HandSPX.excO C hp.objs.size), gs, dr, tk, os⟩) (v : V) (u : Value) (H2 : Hp) (s2 : Shared), s2.os = os → AllBare s2.gens →
      Un (frs X.stack) [] (upd H1 (hp.objs.size + 1) (exo (hp.objs.size + 1) C none)) H2 ((hp.push (PySem.W.kdv_tup us)).push (PySem.HandSPX.excO C hp.objs.size)) s2.heap → HOk X.prog X.w H2 s2.heap → RelV v u → Qk v H2 → u = .none ∧ G (.ref (hp.objs.size + 1)) s2) :
    wpAny (model X.prog X.w) X.A (call (.ref C) us) G X.xe ⟨hp, gs, dr, tk, os⟩ := by
  obtain ⟨nm, q, N, bs, bm, sn, sub, ab, col, dd, k0, k1, k2, k3, k5, newId, hC, Nw, _, _⟩ := T.cls
  have kk : ∀ b o, hp.get? b = some o → ((hp.push (PySem.W.kdv_tup us)).push (PySem.HandSPX.excO C hp.objs.size)).get? b = some o := fun b o z => Heap.get?_push_of_some _ (Heap.get?_push_of_some _ z)
  have hE : ((hp.push (PySem.W.kdv_tup us)).push (PySem.HandSPX.excO C hp.objs.size)).get? (hp.objs.size + 1) = some (PySem.HandSPX.excO C hp.objs.size) := by heap_get
  have I2 := I1.laid (t' := tk) (a := hp.objs.size + 1) (o := exo (hp.objs.size + 1) C none) kk (Nat.le_succ _) (exo_ok hE)
  have r2 : Vals (V.ref (hp.objs.size + 1) :: vs) (Value.ref (hp.objs.size + 1) :: us) := .cons rfl r1
  have hl : (Value.ref (hp.objs.size + 1) :: us ++ []).length = ps.length := by
    rw [List.append_nil, ← r2.length]
    exact F1.len _ _ _ _ q1
  have bd := hb _ (Value.ref (hp.objs.size + 1) :: us) I2.kIn hl
  rw [List.append_nil] at bd
  refine wpAny_call (PySem.Oxb.call_any Nw (I1.kIn _ _ hC) (PySem.W.looks_findIn I1.kIn iC) (fun self => PySem.W.bind_fn I1.kIn self tI) (by rw [← Paired.length r1, sizeLine_eq]; omega)
    (codeAny_mono (F1.run _ X.stack _ _ ⟨Value.ref (hp.objs.size + 1) :: us, []⟩ (Value.ref (hp.objs.size + 1) :: us) _ _ (fun _ _ _ => False) (hr.make C us []) (I2.env0.make C us []) bd r2 q1) fun res s2 hq => ?_))
  cases res with
  | error er => exact hx pins σ _ _ er s2 I2 hq
  | ok fl =>
    cases fl with
    | ret u =>
      obtain ⟨v, H2, o2, b2, un2, ok2, rv, qv⟩ := hq
      exact fin kk I2 v u H2 s2 o2 b2 un2 ok2 rv qv
    | next => exact hq.elim
    | brk => exact hq.elim
    | cont => exact hq.elim
/-- raise C(e, ..) -/
theorem pmk_ox (T : OxC X.K C B) (iC : PySem.W.findIn X.K (.ref C) "__init__" = some (some (.ref fI))) (tI : PySem.W.typeIn X.K (.ref fI) = some (.type "function"))
    (F1 : FnOk X.prog X.w X.K X.mg X.base CX k fI fd ps sp) (hr : Room (k + 1) X.A) (hb : Binds X.K fd ps []) (hx : Passes CX X (fun _ _ _ => False)) (hg : Gl X x) (hm : X.mg x = some (.ref C)) (ha : PA X (e :: es) ta)
    (hdb : (x == ("__debug__" : Str)) = false := by decide) (he : starEach (e :: es) X.env = (false, eval e X.env) :: starEach es X.env := by rfl) (hpl : (backTo pos (starEach es X.env)).any (·.1) = false := by rfl) :
    PMk X (.Call (.Name x p) (e :: es) [] pos) (tMkO C sp [] ta) := by
  intro pins s σ H Q I rd
  refine wpAny_Call_Name_kw (ld_glob I hg hm ?_ hdb)
  refine PySem.W.callWith_K (h₀ := X.base) I.ok.mod.kin T.kC (thn (ha.run pos pins s σ H _ I rd) fun us s1 ⟨vs, H1, I1, r1, hz, q1⟩ => ⟨I1.kIn, ?_⟩) he hpl
  show wpAny _ _ (call (.ref C) us) _ _ _
  obtain ⟨hp, gs, dr, tk, os⟩ := s1
  have q2 := q1 (hp.objs.size + 1) (I1.hok.fresh (Nat.le_succ _))
  rw [List.append_nil] at q2
  refine run_ox T iC tI F1 hr hb hx I1 r1 hz q2 (fun kk I2 v u H2 s2 o2 b2 un2 ok2 rv qv => ?_)
  obtain ⟨ev, d, fs, ea, ed, hd1, q3⟩ := qv
  subst ev
  obtain ⟨h2, g2, d2, t2, os2⟩ := s2
  exact ⟨rv, mk_end (raises_own T.exC T.tyC) I1 (Nat.le_succ _) kk un2 ok2 o2 b2 ea ed hd1 q3⟩
theorem pe_mkv (T : OxC X.K C B) (iC : PySem.W.findIn X.K (.ref C) "__init__" = some (some (.ref fI))) (tI : PySem.W.typeIn X.K (.ref fI) = some (.type "function"))
    (F1 : FnOk X.prog X.w X.K X.mg X.base CX k fI fd ps sp) (hr : Room (k + 1) X.A) (hb : Binds X.K fd ps []) (hx : Passes CX X (fun _ _ _ => False)) (hg : Gl X x) (hm : X.mg x = some (.ref C)) (ha : PA X (e :: es) ta)
    (hdb : (x == ("__debug__" : Str)) = false := by decide) (he : starEach (e :: es) X.env = (false, eval e X.env) :: starEach es X.env := by rfl) (hpl : (backTo pos (starEach es X.env)).any (·.1) = false := by rfl) :
    PE X (.Call (.Name x p) (e :: es) [] pos) (tMkV C sp ta) := by
  refine ⟨fun pins s σ H Q I rd => ?_⟩
  refine wpAny_Call_Name_kw (ld_glob I hg hm ?_ hdb)
  refine PySem.W.callWith_K (h₀ := X.base) I.ok.mod.kin T.kC (thn (ha.run pos pins s σ H _ I rd) fun us s1 ⟨vs, H1, I1, r1, hz, q1⟩ => ⟨I1.kIn, ?_⟩) he hpl
  show wpAny _ _ (call (.ref C) us) _ _ _
  obtain ⟨hp, gs, dr, tk, os⟩ := s1
  have q2 := q1 (hp.objs.size + 1) (I1.hok.fresh (Nat.le_succ _))
  refine run_ox T iC tI F1 hr hb hx I1 r1 hz q2 (fun kk I2 v u H2 s2 o2 b2 un2 ok2 rv qv => ?_)
  obtain ⟨ev, d, fs, ea, ed, q3⟩ := qv
  subst ev
  exact ⟨rv, .ref (hp.objs.size + 1), _, inv_value (I2.call' (ch := []) o2 un2 ok2 b2 (fun _ z => nomatch z)) ea ed, rfl, q3⟩
end
/-! ### the built-in errors that own ones stand under -/
section
open PySem.Oxb
theorem cont_obj {C : Addr} {l : List Value} (h : l.contains (.type "object") = true) : (Value.ref C :: l).contains (.type "object") = true := by
  rw [List.contains_cons, h, Bool.or_true]
theorem new_VE : NewOk "ValueError.__new__" [.type "ValueError", .type "Exception", .type "BaseException", .type "object"] := ⟨_, _, _, PySem.F.excBase_ValueError, by decide +kernel, by decide +kernel, by decide +kernel⟩
theorem init_VE : InitOk "ValueError" [.type "ValueError", .type "Exception", .type "BaseException", .type "object"] :=
  ⟨PySem.F.excBase_ValueError.init.plain, PySem.F.excBase_ValueError.initEntry, PySem.F.excBase_ValueError.initKind, PySem.F.excBase_ValueError.initSplit, PySem.F.excBase_ValueError.initRow, PySem.F.excBase_ValueError.noStar, by decide +kernel⟩
theorem mro_VE (C : Addr) : MroOk (.ref C :: [.type "ValueError", .type "Exception", .type "BaseException", .type "object"]) :=
  ⟨fun self => by rw [refuseLoop_ref]; exact PySem.F.store_ValueError.passes self, cont_obj (by decide +kernel), rfl⟩
theorem new_KE : NewOk "LookupError.__new__" [.type "KeyError", .type "LookupError", .type "Exception", .type "BaseException", .type "object"] := ⟨_, _, _, PySem.F.excBase_LookupError, by decide +kernel, by decide +kernel, by decide +kernel⟩
theorem init_KE : InitOk "KeyError" [.type "KeyError", .type "LookupError", .type "Exception", .type "BaseException", .type "object"] where
  plain := by decide +kernel
  entry := entryFor_alias (id' := "BaseException.__init__") (by rw [fastTable_eq_tree]; kernel_rfl)
    (by first | rfl | decide +kernel) (by decide +kernel) (by rw [fastTable_eq_tree]; kernel_rfl)
  kind := by kernel_rfl
  split := by kernel_rfl
  row := by kernel_rfl
  star := by decide +kernel
  has := by decide +kernel
theorem mro_KE (C : Addr) : MroOk (.ref C :: [.type "KeyError", .type "LookupError", .type "Exception", .type "BaseException", .type "object"]) :=
  ⟨fun self => by rw [refuseLoop_ref]; kernel_rfl, cont_obj (by decide +kernel), rfl⟩
end
/-! ### further built-in errors that own ones stand under -/
section
open PySem.Oxb
theorem new_LE : NewOk "LookupError.__new__" [.type "LookupError", .type "Exception", .type "BaseException", .type "object"] := ⟨_, _, _, PySem.F.excBase_LookupError, by decide +kernel, by decide +kernel, by decide +kernel⟩
theorem init_LE : InitOk "LookupError" [.type "LookupError", .type "Exception", .type "BaseException", .type "object"] :=
  ⟨PySem.F.excBase_LookupError.init.plain, PySem.F.excBase_LookupError.initEntry, PySem.F.excBase_LookupError.initKind, PySem.F.excBase_LookupError.initSplit, PySem.F.excBase_LookupError.initRow, PySem.F.excBase_LookupError.noStar, by decide +kernel⟩
theorem mro_LE (C : Addr) : MroOk (.ref C :: [.type "LookupError", .type "Exception", .type "BaseException", .type "object"]) :=
  ⟨fun self => by rw [refuseLoop_ref]; kernel_rfl, cont_obj (by decide +kernel), rfl⟩
theorem new_IE : NewOk "IndexError.__new__" [.type "IndexError", .type "LookupError", .type "Exception", .type "BaseException", .type "object"] := ⟨_, _, _, PySem.F.excBase_IndexError, by decide +kernel, by decide +kernel, by decide +kernel⟩
theorem init_IE : InitOk "IndexError" [.type "IndexError", .type "LookupError", .type "Exception", .type "BaseException", .type "object"] :=
  ⟨PySem.F.excBase_IndexError.init.plain, PySem.F.excBase_IndexError.initEntry, PySem.F.excBase_IndexError.initKind, PySem.F.excBase_IndexError.initSplit, PySem.F.excBase_IndexError.initRow, PySem.F.excBase_IndexError.noStar, by decide +kernel⟩
theorem mro_IE (C : Addr) : MroOk (.ref C :: [.type "IndexError", .type "LookupError", .type "Exception", .type "BaseException", .type "object"]) :=
  ⟨fun self => by rw [refuseLoop_ref]; kernel_rfl, cont_obj (by decide +kernel), rfl⟩
theorem new_RE : NewOk "RuntimeError.__new__" [.type "RuntimeError", .type "Exception", .type "BaseException", .type "object"] := ⟨_, _, _, PySem.F.excBase_RuntimeError, by decide +kernel, by decide +kernel, by decide +kernel⟩
theorem init_RE : InitOk "RuntimeError" [.type "RuntimeError", .type "Exception", .type "BaseException", .type "object"] :=
  ⟨PySem.F.excBase_RuntimeError.init.plain, PySem.F.excBase_RuntimeError.initEntry, PySem.F.excBase_RuntimeError.initKind, PySem.F.excBase_RuntimeError.initSplit, PySem.F.excBase_RuntimeError.initRow, PySem.F.excBase_RuntimeError.noStar, by decide +kernel⟩
theorem mro_RE (C : Addr) : MroOk (.ref C :: [.type "RuntimeError", .type "Exception", .type "BaseException", .type "object"]) :=
  ⟨fun self => by rw [refuseLoop_ref]; kernel_rfl, cont_obj (by decide +kernel), rfl⟩
theorem new_AE : NewOk "ArithmeticError.__new__" [.type "ArithmeticError", .type "Exception", .type "BaseException", .type "object"] := ⟨_, _, _, PySem.F.excBase_ArithmeticError, by decide +kernel, by decide +kernel, by decide +kernel⟩
theorem init_AE : InitOk "ArithmeticError" [.type "ArithmeticError", .type "Exception", .type "BaseException", .type "object"] :=
  ⟨PySem.F.excBase_ArithmeticError.init.plain, PySem.F.excBase_ArithmeticError.initEntry, PySem.F.excBase_ArithmeticError.initKind, PySem.F.excBase_ArithmeticError.initSplit, PySem.F.excBase_ArithmeticError.initRow, PySem.F.excBase_ArithmeticError.noStar, by decide +kernel⟩
theorem mro_AE (C : Addr) : MroOk (.ref C :: [.type "ArithmeticError", .type "Exception", .type "BaseException", .type "object"]) :=
  ⟨fun self => by rw [refuseLoop_ref]; kernel_rfl, cont_obj (by decide +kernel), rfl⟩
theorem new_OE : NewOk "OverflowError.__new__" [.type "OverflowError", .type "ArithmeticError", .type "Exception", .type "BaseException", .type "object"] := ⟨_, _, _, PySem.F.excBase_OverflowError, by decide +kernel, by decide +kernel, by decide +kernel⟩
theorem init_OE : InitOk "OverflowError" [.type "OverflowError", .type "ArithmeticError", .type "Exception", .type "BaseException", .type "object"] :=
  ⟨PySem.F.excBase_OverflowError.init.plain, PySem.F.excBase_OverflowError.initEntry, PySem.F.excBase_OverflowError.initKind, PySem.F.excBase_OverflowError.initSplit, PySem.F.excBase_OverflowError.initRow, PySem.F.excBase_OverflowError.noStar, by decide +kernel⟩
theorem mro_OE (C : Addr) : MroOk (.ref C :: [.type "OverflowError", .type "ArithmeticError", .type "Exception", .type "BaseException", .type "object"]) :=
  ⟨fun self => by rw [refuseLoop_ref]; kernel_rfl, cont_obj (by decide +kernel), rfl⟩
end
/-! ### defs that make texts of lists and tuples: they run where no such text is under way -/
structure FnG (P : Program) (w : World) (K : PySem.W.Frag) (mg : Str → Option Value) (base : Heap) (k : Nat) (f : Addr) (fd : FuncData) (qs : List Str) (sp : Sp) : Prop where
  size : ∀ xs G R Z, sp xs G R Z → xs.length = qs.length
  goes : ∀ (B : Around) (up : List Env) (t : Shared) (G : Hp) (ar : Args) (ws : List Value) (xs : List V) (R : VK) (Z : XK), B.guards = some [] → Room k B → Env0 P w K mg base B up t G →
    BindsTo t fd ar (qs.zip ws) → Vals xs ws → sp xs G R Z → codeAny (model P w) B (.call (.ref f) ar) (CR CX0 up P w G t R Z) t
section
variable {P : Program} {w : World} {K : PySem.W.Frag} {mg : Str → Option Value} {base : Heap}
theorem fng_of {x qual : Str} {st : Stmt} {f : Addr} {fd : FuncData} {N qs : List Str} {k : Nat} {sp : Sp} (F : L2.Fun K x qual st f fd) (S : FnScope N qs (defScope st)) (size : ∀ xs G R Z, sp xs G R Z → xs.length = qs.length)
    (hb : ∀ (cv : Value) (B : Around) (up : List Env) (t : Shared) (G : Hp) (xs : List V) (R : VK) (Z : XK), (B.deeper (envOfC qual (defScope st) t.heap.objs.size f cv)).guards = some [] → Room k (B.deeper (envOfC qual (defScope st) t.heap.objs.size f cv)) → sp xs G R Z →
      ∃ d, PSs (cxOf CX0 P w K mg base N qual (defScope st) f cv B up t G Z).nox (defBody st) d ∧ d { nx := fun _ G' => R .non G', rt := R } (start N xs) G) : FnG P w K mg base (k + 1) f fd qs sp := by
  obtain ⟨oc, od, kV, doc, pm, an, cv, ct, osl, rfl, at_, co⟩ := F.ex
  refine ⟨size, fun B up t G ar ws xs R Z hg rm e0 bt rel hsp => ?_⟩
  have keepB : ∀ b o, base.get? b = some o → t.heap.get? b = some o := fun b o e => (e0.bs b o e).1
  have inT : K.In t.heap := e0.mod.kin.keeps keepB
  have noL : t.heap.NoLimit := e0.mod.nolimit.keeps keepB
  have kinds : ∀ y ∈ qs.zip ws, (defScope st).names.lookup y.1 = some .local ∨ ((defScope st).names.lookup y.1 = some .cell ∧ ((cellsFrom (t.heap.objs.size + 1) (defScope st).names []).lookup y.1).isSome = true) := by
    rintro ⟨n, v⟩ hy
    rcases S.par n (List.of_mem_zip hy).1 with z | z
    · exact .inl z
    · exact .inr ⟨z, PySem.W.cellsFrom_some _ _ _ (.inl z)⟩
  refine codeAny_call_function rm.depth (inT _ _ at_) rfl S.co S.gen rfl (PySem.W.codeRec_of inT co) (bt _ _ _ _ ?_)
  refine wpAny_newFunctionEnv_cells S.kind kinds fun en hen t1 y => ?_
  subst hen
  refine ⟨noL.keeps y.toInCall.keep, codeAny_func ?_⟩
  obtain ⟨d, hd, hq⟩ := hb cv B up t G xs R Z hg (rm.deeper _) hsp
  have J0 : Inv (cxOf CX0 P w K mg base N qual (defScope st) f cv B up t G Z) [] (start N xs) G t1 := inv_start S rm.hd e0 (size _ _ _ _ hsp) rel y
  refine wpAny_mono (hd.nox.run [] t1 (start N xs) G _ J0 hq) (fun out t' hs => ?_) fun _ _ hs => hs
  cases out with
  | next =>
    obtain ⟨_, G', J, z⟩ := hs
    exact ⟨.non, G', J.os, J.bare, J.base, J.hok, rfl, z⟩
  | ret u =>
    obtain ⟨v, _, G', J, rv, z⟩ := hs
    exact ⟨v, G', J.os, J.bare, J.base, J.hok, rv, z⟩
  | brk =>
    obtain ⟨_, _, _, z⟩ := hs
    exact z.elim
  | cont =>
    obtain ⟨_, _, _, z⟩ := hs
    exact z.elim
end
/-- such a def under its name -/
structure CalG (P : Program) (w : World) (K : PySem.W.Frag) (mg : Str → Option Value) (base : Heap) (k : Nat) (x : Str) (sp : Sp) : Prop where
  ex : ∃ (f : Addr) (fd : FuncData) (qs : List Str), FnG P w K mg base k f fd qs sp ∧ mg x = some (.ref f) ∧ PySem.W.keepIn K (.ref f) = true ∧ Binds K fd qs []
section
variable {X : Cx} {k j : Nat} {x : Str} {sp : Sp} {p pos : Pos} {e : Expr} {es : List Expr} {t : TA}
theorem pe_cG (c : CalG X.prog X.w X.K X.mg X.base k x sp) (hg : X.A.guards = some []) (hr : Room j X.A) (hk : k ≤ j) (gl : Gl X x) (ha : PA X (e :: es) t) (hdb : (x == ("__debug__" : Str)) = false := by decide)
    (he : starEach (e :: es) X.env = (false, eval e X.env) :: starEach es X.env := by rfl) (hpl : (backTo pos (starEach es X.env)).any (·.1) = false := by rfl) : PE X (.Call (.Name x p) (e :: es) [] pos) (tCall sp [] C8.E0 t) := by
  obtain ⟨f, fd, qs, F, hm, kp, b⟩ := c.ex
  refine ⟨fun pins s σ H Q I h => wpAny_Call_Name_kw (ld_glob I gl hm ?_ hdb)⟩
  refine PySem.W.callWith_K (h₀ := X.base) I.ok.mod.kin kp (thn (ha.run pos pins s σ H _ I h) fun us s1 ⟨vs, H1, I1, r, q⟩ => ⟨I1.kIn, ?_⟩) he hpl
  have q2 : sp vs H1 Q C8.E0 := by
    have q3 : sp (vs ++ []) H1 Q C8.E0 := q
    rw [List.append_nil] at q3
    exact q3
  have hl : us.length = qs.length := by
    rw [← r.length]
    exact F.size _ _ _ _ q2
  have bb := b s1 us I1.kIn (by rw [List.append_nil]; exact hl)
  rw [List.append_nil] at bb
  refine wpAny_call (codeAny_mono (F.goes X.A X.stack s1 H1 ⟨us, []⟩ us vs Q C8.E0 hg (hr.mono hk) I1.env0 bb r q2) fun res s' hq => ?_)
  cases res with
  | error er => exact hq.elim
  | ok fl =>
    cases fl with
    | ret u => exact I1.after hq
    | next => exact hq.elim
    | brk => exact hq.elim
    | cont => exact hq.elim
/-- repr of data -/
def rReprD (K : PySem.W.Frag) : List V → Hp → VK → Prop := fun xs H Q => ∃ (v : V) (d : PyData), xs = [v] ∧ Dp K H v d ∧ d.showable = true ∧ d.hasDict = false ∧ d.depth ≤ 100 ∧ d.shown.length ≤ sizeLine ∧ Q (.str d.shown) H
theorem cr_reprD (hg : X.A.guards = some []) (hr : Room j X.A) : CallR X (.builtin "repr") (rReprD X.K) := by
  intro pins s σ H xs us Q I r h
  obtain ⟨v, d, rfl, hd, hs, hn, hp, hz, q⟩ := h
  cases r with
  | cons r1 rr =>
    cases rr
    have un := hr.un
    cases hd with
    | non =>
      cases (show _ = Value.none from r1)
      exact PySem.P.repr_of_none ⟨.str "None", H, I.tok _, ⟨_, rfl⟩, q⟩
    | bl b =>
      cases (show _ = Value.bool b from r1)
      exact PySem.P.repr_of_bool ⟨.str (PyData.shown (.bool b)), H, I.tok _, ⟨_, by cases b <;> rfl⟩, q⟩
    | int i =>
      obtain ⟨t, rfl⟩ := (show ∃ t, _ = Value.int i t from r1)
      exact PySem.P.repr_of_int (of_decide_eq_true hs) ⟨.str (PyData.shown (.int i)), H, I.tok _, ⟨_, rfl⟩, q⟩
    | str z =>
      obtain ⟨t, rfl⟩ := (show ∃ t, _ = Value.str z t from r1)
      exact PySem.P.repr_of_str ⟨.str (PyData.shown (.str z)), H, I.tok _, ⟨_, rfl⟩, q⟩ hz
    | lst h1 h2 =>
      rename_i a xs ds
      obtain rfl : _ = Value.ref a := r1
      obtain ⟨as, rd⟩ := Dp.reads I (.list ds) (.ref a) (.ref a) (.lst h1 h2) rfl
      exact repr_of_reads' rd hs (PyData.noDict_hsm hn) hg (by omega) (fun _ _ e => e) (fun h' u tk hk => ⟨.str _, H, I.kept (t' := tk) hk, ⟨_, rfl⟩, q⟩) hz
    | tup h1 h2 =>
      rename_i a xs ds
      obtain rfl : _ = Value.ref a := r1
      obtain ⟨as, rd⟩ := Dp.reads I (.tuple ds) (.ref a) (.ref a) (.tup h1 h2) rfl
      exact repr_of_reads' rd hs (PyData.noDict_hsm hn) hg (by omega) (fun _ _ e => e) (fun h' u tk hk => ⟨.str _, H, I.kept (t' := tk) hk, ⟨_, rfl⟩, q⟩) hz
end
/-! ### the end, for a law that makes texts of lists and tuples -/
section
variable {P : Program} {w : World} {K : PySem.W.Frag} {mg mb : Str → Option Value} {k : Nat} {fa a : Addr} {fd : FuncData} {x : Str} {sp : Sp} {s1 : Shared} {us : List Value} {ns : List Int}
/-- from a heap in which the script alone may be tracked -/
theorem end_from {H : Hp} (inK : K.In s1.heap) (nm : s1.heap.Ns mainGlobals mg) (nb : s1.heap.Ns builtinsNs mb) (bb : ∀ y : Str, y ≠ "__name__" → mb y = bootBuiltins y) (lim : s1.heap.NoLimit) (gs : s1.gens = #[])
    (at_ : s1.heap.get? a = some { cls := .type "list", data := .seq us.toArray }) (rm : Room k callerA)
    (F : ∀ base : Heap, K.In base → base.Ns mainGlobals mg → FnG P w K mg base k fa fd [x] sp) (bt : ∀ (s : Shared) (u : Value), BindsTo s fd ⟨[u], []⟩ [(x, u)])
    (hO : Only H) (want : sp [.ref a] H (fun v _ => v = .bl true) fun _ _ _ => False) (hok : HOk P w H s1.heap) (onlyA : ∀ b, H b ≠ none → b = a) (offK : H a ≠ none → K.lookup a = none) :
    codeAny (model P w) callerA (.call (.ref fa) ⟨[.ref a], []⟩) (fun r s' => r = .ok (.ret (.bool true)) ∧ OldK s1.heap s'.heap ∧ s'.os = s1.os ∧ AllBare s'.gens) s1 := by
  have untr : ∀ {b : Addr}, (b = a → False) → H b = none := fun {b} nb => by
    cases z : H b with
    | none => rfl
    | some u => exact (nb (onlyA b (by rw [z]; simp))).elim
  have stay : ∀ {b : Addr} {o : Obj}, s1.heap.get? b = some o → H b = none → (hidT s1.heap H).get? b = some o := fun e n => hidT_get e n
  have names : ∀ {b : Addr} {m : Str → Option Value}, s1.heap.Ns b m → (hidT s1.heap H).Ns b m := fun {b m} ⟨o, es, ep, e, d, r⟩ => ⟨o, es, ep, stay e (untr fun z => by
    subst z
    rw [at_] at e
    cases e
    have d2 : Data.seq us.toArray _ = Data.dict es ep := d
    cases d2), d, r⟩
  have inK2 : K.In (hidT s1.heap H) := fun b o e => stay (inK b o e) (by
    cases z : H b with
    | none => rfl
    | some u =>
      have e2 : b = a := onlyA b (by rw [z]; simp)
      subst e2
      rw [offK (by rw [z]; simp)] at e
      cases e)
  obtain ⟨mc, l1, l2⟩ := lim
  have start0 : Env0 P w K mg (hidT s1.heap H) callerA [] s1 H :=
    ⟨rfl, ⟨inK2, names nm, ⟨mb, names nb, bb⟩, ⟨mc, names l1, l2⟩⟩, fun b o e => of_hidT e, Nat.le_of_eq (hidT_size _ _), trivial, fun b hb => absurd (show b ∈ ([] : List Addr) from hb) (by simp), hok, .of_eq gs⟩
  refine codeAny_mono ((F _ inK2 (names nm)).goes callerA [] s1 H ⟨[.ref a], []⟩ [.ref a] [.ref a] _ _ rfl rm start0 (bt s1 (.ref a)) (.cons rfl .nil) want) fun out t hs => ?_
  cases out with
  | error er => exact hs.elim
  | ok fl =>
    cases fl with
    | ret u =>
      obtain ⟨v, H', os, bare, un, hok2, rv, z⟩ := hs
      have z2 : v = .bl true := z
      subst z2
      obtain rfl : u = Value.bool true := rv
      refine ⟨rfl, OldK.of_keep fun b o e => ?_, os, bare⟩
      cases z : H b with
      | none => exact un.keep b o e z (fun y => absurd (show b ∈ ([] : List Addr) from y) (by simp)) (by simp)
      | some h0 =>
        rcases hO b with y | ⟨ob, xs, y⟩
        · rw [z] at y
          cases y
        · obtain ⟨e1, _⟩ := hok b _ y
          obtain ⟨e2, _⟩ := hok2 b _ (un.frzs b ob _ y)
          rw [e] at e1
          cases e1
          exact e2
    | next => exact hs.elim
    | brk => exact hs.elim
    | cont => exact hs.elim
theorem end_call (inK : K.In s1.heap) (nm : s1.heap.Ns mainGlobals mg) (nb : s1.heap.Ns builtinsNs mb) (bb : ∀ y : Str, y ≠ "__name__" → mb y = bootBuiltins y) (lim : s1.heap.NoLimit) (gs : s1.gens = #[])
    (at_ : s1.heap.get? a = some { cls := .type "list", data := .seq us.toArray }) (hIn : IntsAre us ns) (fits : ns.length ≤ sizeLine) (rm : Room k callerA)
    (F : ∀ base : Heap, K.In base → base.Ns mainGlobals mg → FnG P w K mg base k fa fd [x] sp) (bt : ∀ (s : Shared) (u : Value), BindsTo s fd ⟨[u], []⟩ [(x, u)])
    (want : ∀ H : Hp, Only H → SqL K H a (ns.map V.int) → sp [.ref a] H (fun v _ => v = .bl true) fun _ _ _ => False) :
    codeAny (model P w) callerA (.call (.ref fa) ⟨[.ref a], []⟩) (fun r s' => r = .ok (.ret (.bool true)) ∧ OldK s1.heap s'.heap ∧ s'.os = s1.os ∧ AllBare s'.gens) s1 := by
  have rel := vals_ints hIn
  have len := hIn.length
  cases lk : K.lookup a with
  | some o =>
    have e := inK a o lk
    rw [at_] at e
    cases e
    have only0 : Only (fun _ => none) := fun _ => .inl rfl
    exact end_from (H := fun _ => none) inK nm nb bb lim gs at_ rm F bt only0 (want _ only0 (.inr ⟨_, us.toArray, _, lk, rfl, rfl, rfl, by rw [List.size_toArray, len]; exact fits, by simpa using rel⟩))
      (fun b u z => nomatch (show (none : Option HO) = some u from z)) (fun b z => absurd rfl z) fun z => absurd rfl z
  | none =>
    have pos : ∀ {b : Addr}, b = a → (if b = a then some (HO.frz { cls := .type "list", data := .seq us.toArray } (.lst (ns.map V.int))) else none) = some (.frz { cls := .type "list", data := .seq us.toArray } (.lst (ns.map V.int))) := fun e => if_pos e
    have only1 : Only (fun b => if b = a then some (.frz { cls := .type "list", data := .seq us.toArray } (.lst (ns.map V.int))) else none) := fun b => by
      by_cases e : b = a
      · exact .inr ⟨_, _, pos e⟩
      · exact .inl (if_neg e)
    refine end_from inK nm nb bb lim gs at_ rm F bt only1 (want _ only1 (.inl (.inr ⟨{ cls := .type "list", data := .seq us.toArray }, if_pos rfl⟩))) (fun b u z => ?_) (fun b z => ?_) fun _ => lk
    · by_cases e : b = a
      · have y := (pos e).symm.trans z
        cases y
        subst e
        exact ⟨at_, by rw [List.length_map]; exact fits, us, _, rel, at_⟩
      · have y := (if_neg e).symm.trans z
        cases y
    · by_cases e : b = a
      · exact e
      · exact absurd (if_neg e) z
end
theorem walk_ofG {l : PySem.W.OpenLaw} {n k : Nat} {q : Program} {loose : List Str} {XP : (Str → Option Value) → Heap → Prop} {YP : World → Heap → Prop} {d : DefRec} {K : Params → PySem.W.Frag} {sp : World → Sp} {x : Str}
    (hn : l.most = some n) (hn2 : n ≤ sizeLine) (hdf : d.params.defaults = []) (rm : Room k callerA) (inK : ∀ (w : World) (h : Heap), YP w h → (K w.params).In h)
    (F : ∀ (w : World) (mg : Str → Option Value) (fa : Addr) (h : Heap), (K w.params).In h → h.Ns mainGlobals mg → mg d.name = some (.ref fa) →
      ∃ fd : FuncData, (∀ (s : Shared) (u : Value), BindsTo s fd ⟨[u], []⟩ [(x, u)]) ∧ ∀ base : Heap, (K w.params).In base → base.Ns mainGlobals mg → FnG l.prog w (K w.params) mg base k fa fd [x] (sp w))
    (want : ∀ (w : World) (H : Hp) (a : Addr) (ns : List Int), ns.length ≤ n → Only H → SqL (K w.params) H a (ns.map V.int) → sp w [.ref a] H (fun v _ => v = .bl true) fun _ _ _ => False) :
    PySem.W.WalkO q loose XP YP l.row.toRowW d [] (fun f vs => PySem.call f vs) := by
  refine Att.attach_call hn hdf fun w s0 s1 mg mb fa o pm cd doc a us ns G Y ho hd hcd hmg hobj hints hlen hg => ?_
  obtain ⟨fd, bt, go⟩ := F w mg fa _ (inK w _ Y) G.T.g hmg
  exact end_call (inK w _ Y) G.T.g G.T.b G.T.builtins G.T.nolimit hg hobj hints (Nat.le_trans hlen hn2) rm go bt fun H hO hS => want w H a ns hlen hO hS
def top (i : Nat) : Stmt := PySem.Challenge.pw_threereckons_k55_grammars_joined.main.body.getD i (.Pass ⟨0, 0, 0, 0⟩)
def isLet (c : Nat) : Bool := decide (97 ≤ c) && decide (c ≤ 122)
def OWNL : List Nat := [111, 119, 110]
/-! ### the draws -/
abbrev s__law_take : Stmt := top 56
abbrev N__law_take : List Str := ["_law_box", "_law_many", "_law_found", "_law_once", "_law_twice"]
abbrev P__law_take : List Str := ["_law_box", "_law_many"]
theorem sc__law_take : FnScope N__law_take P__law_take (defScope s__law_take) := ⟨rfl, rfl, rfl, by decide +kernel, rfl, by decide +kernel, by decide +kernel⟩
abbrev s__law_dip : Stmt := top 55
abbrev N__law_dip : List Str := ["_law_script", "_law_k", "_law_cell"]
abbrev P__law_dip : List Str := ["_law_script", "_law_k"]
theorem sc__law_dip : FnScope N__law_dip P__law_dip (defScope s__law_dip) := ⟨rfl, rfl, rfl, by decide +kernel, rfl, by decide +kernel, by decide +kernel⟩
abbrev s__law_folded : Stmt := top 57
abbrev N__law_folded : List Str := ["_law_script", "_law_size", "_law_cells", "_law_k", "_law_cell"]
abbrev P__law_folded : List Str := ["_law_script", "_law_size"]
theorem sc__law_folded : FnScope N__law_folded P__law_folded (defScope s__law_folded) := ⟨rfl, rfl, rfl, by decide +kernel, rfl, by decide +kernel, by decide +kernel⟩
section
variable {P : Program} {w : World} {K : PySem.W.Frag} {mg : Str → Option Value} {base : Heap}
theorem ok_take (D : Dd K mg "_law_take" s__law_take P__law_take) : C8.Cal P w K mg base 1 "_law_take" spTake [] := by
  refine D.cal sc__law_take (fun vs H Q E h => ?_) (fun f cdv A outer s H vs Q E hr h => ?_)
  · obtain ⟨a, many, n, b, rfl, _⟩ := h
    rfl
  · obtain ⟨a, many, n, b, rfl, ha, ⟨b0, b1, b2, rfl, h0, h1, h1', h2, h2'⟩, hn, hm, hm', k⟩ := h
    refine ⟨_, (pss_cons (ps_if (pt_cmpR op_gt (pe_ix ix_list (pv 0) pe_int (fun _ _ => rfl)) pe_int (nomark _))
          (pss_cons (ps_set (i := 2) sc__law_take.nd rfl (Or.inl rfl) (pe_op op_mod (pe_ix ix_list (pv 0) pe_int (fun _ _ => rfl)) (pv 1)))
        (pss_cons (ps_asg (pe_op op_fdiv (pe_ix ix_list (pv 0) pe_int (fun _ _ => rfl)) (pv 1)) (pg_sub (pv 0) pe_int set_list))
        (pss_one (ps_ret (pv 2)))))
          pss_nil)
        (pss_cons (ps_asg (pe_op op_add (pe_ix ix_list (pv 0) pe_int (fun _ _ => rfl)) pe_int) (pg_sub (pv 0) pe_int set_list))
        (pss_cons (ps_set (i := 3) sc__law_take.nd rfl (Or.inl rfl) (pe_op op_mod (pe_op op_pow (pe_op op_add (pe_ix ix_list (pv 0) pe_int (fun _ _ => rfl)) (pe_op op_mul pe_int (pe_ix ix_list (pv 0) pe_int (fun _ _ => rfl)))) pe_int) pe_int))
        (pss_cons (ps_set (i := 4) sc__law_take.nd rfl (Or.inl rfl) (pe_op op_mod (pe_op op_mul (pe_op op_add (pe_op op_add (pv 3) (pe_ix ix_list (pv 0) pe_int (fun _ _ => rfl))) (pe_op op_fdiv (pe_ix ix_list (pv 0) pe_int (fun _ _ => rfl)) pe_int)) (pe_op op_add (pe_op op_add (pe_op op_mod (pv 3) pe_int) pe_int) (pe_ix ix_list (pv 0) pe_int (fun _ _ => rfl)))) pe_int))
        (pss_one (ps_ret (pe_op op_mod (pe_op op_fdiv (pe_op op_mod (pe_op op_add (pe_op op_mul (pv 4) pe_int) (pv 3)) pe_int) pe_int) (pv 1)))))))), ?_⟩
    have hL : SqL K H a [.int b0, .int b1, .int b2] := SqL.of ha
    refine ⟨_, rfl, a, _, 0, .int b0, rfl, rfl, hL, atI_nat (j := 0) rfl, _, _, rfl, rfl, _, rfl, ite2 (fun e => ?_) (fun e => ?_)⟩
    · have e0 : 0 < b0 := of_decide_eq_true e
      refine ⟨_, rfl, a, _, 0, .int b0, rfl, rfl, hL, atI_nat (j := 0) rfl, .int many, rfl, _, _, rfl, rfl, hm, ?_⟩
      refine ⟨_, rfl, a, _, 0, .int b0, rfl, rfl, hL, atI_nat (j := 0) rfl, .int many, rfl, _, _, rfl, rfl, ⟨hm, hm'⟩, ?_⟩
      refine ⟨_, rfl, a, _, 0, 0, rfl, rfl, ha, rfl, _, rfl, ?_⟩
      refine k (b0 % many) _ (Int.emod_nonneg _ (by omega)) (Int.emod_lt_of_pos _ hm) ⟨b0 / many, b1, b2, rfl, Int.ediv_nonneg h0 (by omega), h1, h1', h2, by omega⟩
    · refine ⟨_, rfl, a, _, 2, .int b2, rfl, rfl, hL, atI_nat (j := 2) rfl, _, _, rfl, rfl, _, rfl, a, _, 2, 2, rfl, rfl, ha, rfl, ?_⟩
      have hL2 : SqL K (upd H a (.lst [.int b0, .int b1, .int (b2 + 1)])) a [.int b0, .int b1, .int (b2 + 1)] := SqL.of upd_same
      refine ⟨_, rfl, a, _, 1, .int b1, rfl, rfl, hL2, atI_nat (j := 1) rfl, _, rfl, a, _, 2, .int (b2 + 1), rfl, rfl, hL2, atI_nat (j := 2) rfl, _, _, rfl, rfl, .inl ⟨by decide, by decide⟩, _, _, rfl, rfl, _, _, rfl, rfl,
        ⟨by decide, by decide, by omega⟩, _, _, rfl, rfl, (by show (0 : Int) < _; decide), ?_⟩
      have q : (b1 + 39373 * (b2 + 1)) ^ Int.toNat 5 % 2147483647 = (b1 + 39373 * (b2 + 1)) ^ Int.toNat 5 % 2147483647 := rfl
      generalize (b1 + 39373 * (b2 + 1)) ^ Int.toNat 5 = w5
      have g1 : 0 ≤ w5 % 2147483647 := Int.emod_nonneg _ (by decide)
      have g2 : w5 % 2147483647 < 2147483647 := Int.emod_lt_of_pos _ (by decide)
      have g3 : 0 ≤ b1 / 1000003 := Int.ediv_nonneg h1 (by decide)
      have g4 : b1 / 1000003 ≤ b1 := Int.ediv_le_self _ h1
      have g5 : 0 ≤ w5 % 2147483647 % 40009 := Int.emod_nonneg _ (by decide)
      have g6 : w5 % 2147483647 % 40009 < 40009 := Int.emod_lt_of_pos _ (by decide)
      refine ⟨_, rfl, _, rfl, a, _, 2, .int (b2 + 1), rfl, rfl, hL2, atI_nat (j := 2) rfl, _, _, rfl, rfl, _, rfl, a, _, 1, .int b1, rfl, rfl, hL2, atI_nat (j := 1) rfl, _, _, rfl, rfl, ⟨by decide, by decide⟩, _, _, rfl, rfl,
        _, rfl, _, _, rfl, rfl, (by show (0 : Int) < _; decide), _, _, rfl, rfl, _, rfl, a, _, 2, .int (b2 + 1), rfl, rfl, hL2, atI_nat (j := 2) rfl, _, _, rfl, rfl, _, _, rfl, rfl, .inl ⟨by omega, by omega⟩, _, _, rfl, rfl, (by show (0 : Int) < _; decide), ?_⟩
      generalize (w5 % 2147483647 + (b2 + 1) + b1 / 1000003) * (w5 % 2147483647 % 40009 + 7 + (b2 + 1)) = w6
      refine ⟨_, rfl, _, _, rfl, rfl, .inr ⟨by decide, by decide⟩, _, rfl, _, _, rfl, rfl, _, _, rfl, rfl, (by show (0 : Int) < _; decide), _, _, rfl, rfl, ⟨by decide, by decide⟩, .int many, rfl, _, _, rfl, rfl, hm, ?_⟩
      exact k _ _ (Int.emod_nonneg _ (by omega)) (Int.emod_lt_of_pos _ hm) ⟨b0, b1, b2 + 1, rfl, h0, h1, h1', by omega, by omega⟩
theorem b01 (b : Bool) : -(2 ^ 64) < (if b = true then (1 : Int) else 0) ∧ (if b = true then (1 : Int) else 0) < 2 ^ 64 := by cases b <;> decide
theorem dip_b0 (c : Int) (b : Bool) : 0 ≤ (if c < 0 then -c else c) * (if b = true then 1 else 0) := by
  cases b with
  | false => simp
  | true =>
    rw [if_pos rfl, Int.mul_one]
    split <;> omega
theorem ok_dip (B : Bt mg) (D : Dd K mg "_law_dip" s__law_dip P__law_dip) : C8.Cal P w K mg base 1 "_law_dip" (spDip K) [] := by
  refine D.cal sc__law_dip (fun vs H Q E h => ?_) (fun f cdv A outer s H vs Q E hr h => ?_)
  · obtain ⟨a, k, ns, rfl, _⟩ := h
    rfl
  · obtain ⟨a, k, ns, rfl, hS, hk, q⟩ := h
    have T := B
    refine ⟨_, (pss_cons (ps_set (i := 2) sc__law_dip.nd rfl (Or.inl rfl) (pe_ifExp (pt_cmpR op_lt (pv 1) (pe_callB call_len_seq (by rfl) T.len PySem.boot_len (pa_cons (pv 0) pa_nil)) (nomark _)) (pe_ix ix_list (pv 0) (pv 1) (fun _ _ => rfl)) pe_int))
        (pss_one (ps_ret (pe_lst (pa_cons (pe_op op_mul (pe_callB call_abs (by rfl) T.abs (by decide +kernel) (pa_cons (pv 2) pa_nil)) (pe_callTy call_int1 (by rfl) T.int (by decide +kernel) (pa_cons (pe_cmpR op_ge (pe_callB call_abs (by rfl) T.abs (by decide +kernel) (pa_cons (pv 2) pa_nil)) (pe_op op_pow pe_int pe_int) (nomark _)) pa_nil))) (pa_cons (pe_op op_add (pe_op op_add (pe_op op_mod (pv 2) pe_int) (pe_op op_mul pe_int (pv 1))) pe_int) (pa_cons pe_int pa_nil))))))), ?_⟩
    have rest : ∀ c : Int, (tRet (tLst (tCons (tOp (rI CMul fun i j => .int (i * j)) (tCB (fun xs H Q => ∃ i, xs = [.int i] ∧ Q (.int (if i < 0 then -i else i)) H) (tCons (tVar 2) tNil))
        (tCB (fun xs H Q => (∃ i, xs = [.int i] ∧ Q (.int i) H) ∨ ∃ k, xs = [.bl k] ∧ Q (.int (if k then 1 else 0)) H) (tCons (tOp (rI0 fun i j => .bl (decide (j ≤ i))) (tCB (fun xs H Q => ∃ i, xs = [.int i] ∧ Q (.int (if i < 0 then -i else i)) H) (tCons (tVar 2) tNil)) (tOp (rI CPow fun i j => .int (i ^ j.toNat)) (tC (.int 10)) (tC (.int 18)))) tNil)))
        (tCons (tOp (rI0 fun i j => .int (i + j)) (tOp (rI0 fun i j => .int (i + j)) (tOp (rI (fun _ j => 0 < j) fun i j => .int (i % j)) (tVar 2) (tC (.int 2305843009213693951))) (tOp (rI CMul fun i j => .int (i * j)) (tC (.int 39373)) (tVar 1))) (tC (.int 17))) (tCons (tC (.int 0)) tNil)))))
        { nx := fun _ H' => Q .non H', rt := Q } [some (.ref a), some (.int k), some (.int c)] H := fun c => by
      refine ⟨_, rfl, c, rfl, _, rfl, c, rfl, _, _, rfl, rfl, ⟨by decide, by decide, by decide⟩, _, _, rfl, rfl, .inr ⟨_, rfl, ?_⟩⟩
      refine ⟨_, _, rfl, rfl, .inr (b01 _), ?_⟩
      refine ⟨_, rfl, _, _, rfl, rfl, (by show (0 : Int) < _; decide), _, rfl, _, _, rfl, rfl, .inl ⟨by decide, by decide⟩, _, _, rfl, rfl, _, _, rfl, rfl, ?_⟩
      refine ⟨by show 3 ≤ sizeLine; decide, fun p hp => q p _ hp ⟨_, _, 0, rfl, dip_b0 c _, ?_, ?_, Int.le_refl _, Int.le_refl _⟩⟩
      · have := Int.emod_nonneg c (show (2305843009213693951 : Int) ≠ 0 by decide)
        omega
      · have := Int.emod_lt_of_pos c (show (0 : Int) < 2305843009213693951 by decide)
        omega
    refine ⟨_, rfl, _, rfl, a, _, rfl, .inl hS, _, _, rfl, rfl, _, rfl, ite2 (fun e => ?_) (fun e => ?_)⟩
    · have hlt : k < ns.length := by
        have := of_decide_eq_true e
        rw [List.length_map] at this
        omega
      have g : (ns.map V.int)[k]? = some (.int ns[k]) := by
        rw [List.getElem?_map, List.getElem?_eq_getElem hlt]
        rfl
      exact ⟨_, rfl, _, rfl, a, _, k, .int ns[k], rfl, rfl, hS, atI_nat g, rest _⟩
    · exact rest 0
theorem ixN_nat {n j : Nat} (h : j < n) : ixN n (j : Int) = some j := by
  unfold ixN
  rw [if_pos (by omega), if_pos (by omega)]
  simp
theorem ok_folded (B : Bt mg) (D : Dd K mg "_law_folded" s__law_folded P__law_folded) : C8.Cal P w K mg base 1 "_law_folded" (spFold K) [] := by
  refine D.cal sc__law_folded (fun vs H Q E h => ?_) (fun f cdv A outer s H vs Q E hr h => ?_)
  · obtain ⟨a, size, ns, rfl, _⟩ := h
    rfl
  · obtain ⟨a, size, ns, rfl, hS, hl, h1, h8, q⟩ := h
    have T := B
    refine ⟨_, (pss_cons (ps_set (i := 2) sc__law_folded.nd rfl (Or.inl rfl) (pe_callTy call_list_of (by rfl) T.list (by decide +kernel) (pa_cons (pe_slice sl_list (pv 0) po_none (po_some (pv 1))) pa_nil)))
        (pss_cons (ps_for PassesOwn.never rfl (pi_enum (by rfl) T.enumerate (pa_cons (pe_slice sl_list (pv 0) (po_some (pv 1)) (po_some pe_int)) pa_nil)) (pg_tup rfl (pgs_cons (pg_name (i := 3) sc__law_folded.nd rfl (Or.inl rfl)) (pgs_cons (pg_name (i := 4) sc__law_folded.nd rfl (Or.inl rfl)) pgs_nil)))
          (pss_one (ps_asg (pe_op op_add (pe_ix ix_list (pv 2) (pe_op op_mod (pv 3) (pv 1)) (fun _ _ => rfl)) (pe_op op_mul (pv 4) (pe_op op_add (pv 3) pe_int))) (pg_sub (pv 2) (pe_op op_mod (pv 3) (pv 1)) set_list))))
        (pss_one (ps_ret (pv 2))))), ?_⟩
    -- cells = list(script[:size])
    refine ⟨_, rfl, _, rfl, _, rfl, a, _, rfl, hS, fun c1 n1 => ⟨c1, _, rfl, .inl (SqL.of upd_same), fun l nl => ?_⟩⟩
    have s1 : Same H (upd H c1 (.lst (cutV (ns.map V.int) none (some (size : Int))))) := same_upd n1
    have s2 := s1.trans (same_upd (o := .lst (cutV (ns.map V.int) none (some (size : Int)))) nl)
    -- enumerate(script[size:63])
    refine ⟨_, rfl, _, rfl, _, rfl, _, rfl, a, _, rfl, s2.seq hS, fun c2 n2 => ⟨c2, _, rfl, SqL.of upd_same, ?_⟩⟩
    have nlc : l ≠ c2 := fun e => by
      rw [e] at n2
      rw [← e, upd_same] at n2
      cases n2
    refine for_it walk_enum (fun i σ H3 => ∃ y3 y4, ∃ ms : List Int, σ = [some (.ref a), some (.int size), some (.ref l), y3, y4] ∧ Same H H3 ∧ H3 c2 = some (.lst (cutV (ns.map V.int) (some (size : Int)) (some 63))) ∧ H3 l = some (.lst (ms.map V.int)) ∧ ms.length = min size ns.length)
      ⟨none, none, ns.take size, rfl, s2.trans (same_upd n2), upd_same, ?_, by rw [List.length_take]⟩ (fun i σ H3 _ ⟨_, _, _, _, _, hc, _⟩ => SqL.of hc) ?_ ?_
    · rw [upd_ne nlc, upd_same, cut_to]
    · rintro i v σ H3 H4 hi ⟨y3, y4, ms, rfl, sm, hc, hm, hml⟩ ⟨T, x, y, rfl, nT, rfl, ex, ey⟩
      cases ex
      obtain ⟨rs, ers, _⟩ := cut_ints ns (some (size : Int)) (some 63)
      have hsz : size ≤ ns.length := by
        apply Classical.byContradiction
        intro hh
        rw [cut_from_nil ns size (by omega)] at hi
        simp at hi
      have hms : ms.length = size := by omega
      rw [ers] at ey
      rw [ers, List.length_map] at hi
      have ey' : y = .int rs[i] := by
        replace ey : (List.map V.int rs)[i]? = some y := ey
        rw [List.getElem?_map, List.getElem?_eq_getElem hi] at ey
        exact (Option.some.inj ey).symm
      subst ey'
      have hi63 : i < 63 := by omega
      have nTl : l ≠ T := ne_of_none hm nT
      have nTc : c2 ≠ T := ne_of_none hc nT
      have hm' : (upd H3 T (.tup [.int (i : Nat), .int rs[i]])) l = some (.lst (ms.map V.int)) := by
        rw [upd_ne nTl]
        exact hm
      have hj : i % size < ms.length := by
        rw [hms]
        exact Nat.mod_lt _ (by omega)
      have g : (ms.map V.int)[i % size]? = some (.int ms[i % size]) := by
        rw [List.getElem?_map, List.getElem?_eq_getElem hj]
        rfl
      have ei : ((i : Nat) : Int) % ((size : Nat) : Int) = ((i % size : Nat) : Int) := by omega
      refine ⟨T, _, rfl, SqT.of upd_same, rfl, _, _, rfl, _, _, rfl, rfl, ?_⟩
      refine ⟨_, rfl, _, rfl, _, rfl, _, _, rfl, rfl, (by show (0 : Int) < _; omega), l, _, _, .int ms[i % size], rfl, rfl, SqL.of hm', ?_, ?_⟩
      · rw [ei]
        exact atI_nat g
      refine ⟨_, rfl, _, rfl, _, _, rfl, rfl, _, _, rfl, rfl, .inr ⟨by omega, by omega⟩, _, _, rfl, rfl, _, rfl, _, rfl, _, rfl, _, _, rfl, rfl, (by show (0 : Int) < _; omega), l, _, _, i % size, rfl, rfl, hm', ?_, ?_⟩
      · rw [ei, List.length_map]
        exact ixN_nat hj
      · refine ⟨_, _, ms.set (i % size) (ms[i % size] + rs[i] * ((i : Int) + 2)), rfl, fun b z e => ?_, ?_, ?_, by rw [List.length_set]; exact hml⟩
        · have nb : b ≠ l := by
            intro eb
            rw [eb] at e
            have e2 := s1 _ _ e
            rw [e2] at nl
            cases nl
          rw [upd_ne nb]
          exact same_upd nT _ _ (sm _ _ e)
        · rw [upd_ne nlc.symm, upd_ne nTc]
          exact hc
        · rw [upd_same, List.map_set]
    · rintro σ H3 ⟨y3, y4, ms, rfl, sm, hc, hm, hml⟩
      exact ⟨_, rfl, q H3 l ms sm (s1.free nl) hm (by omega)⟩
end
/-! ### own_copy, of data of any depth -/
abbrev s_own_copy : Stmt := top 5
abbrev N_own_copy : List Str := ["thing", "copied", "part"]
abbrev P_own_copy : List Str := ["thing"]
theorem sc_own_copy : FnScope N_own_copy P_own_copy (defScope s_own_copy) := ⟨rfl, rfl, rfl, by decide +kernel, rfl, by decide +kernel, by decide +kernel⟩
structure Ot (mg : Str → Option Value) : Prop where
  isinstance : mg "isinstance" = none
  list : mg "list" = none
  tuple : mg "tuple" = none
/-- data so deep at most, no list or tuple of more than 500 -/
inductive Sm : Nat → PyData → Prop where
  | non (n : Nat) : Sm n .none
  | bl (n : Nat) (b : Bool) : Sm n (.bool b)
  | int (n : Nat) (i : Int) : Sm n (.int i)
  | str (n : Nat) (x : Str) : Sm n (.str x)
  | lst (n : Nat) {ds : List PyData} (h : ds.length ≤ 500) (a : ∀ d ∈ ds, Sm n d) : Sm (n + 1) (.list ds)
  | tup (n : Nat) {ds : List PyData} (h : ds.length ≤ 500) (a : ∀ d ∈ ds, Sm n d) : Sm (n + 1) (.tuple ds)
section
variable {K : PySem.W.Frag} {H H' : Hp}
theorem Same.seqL {a : Addr} {xs : List V} (s : Same H H') (h : SqL K H a xs) : SqL K H' a xs := by
  rcases h with (h | ⟨o, h⟩) | h
  · exact .inl (.inl (s _ _ h))
  · exact .inl (.inr ⟨o, s _ _ h⟩)
  · exact .inr h
theorem Same.seqT {a : Addr} {xs : List V} (s : Same H H') (h : SqT K H a xs) : SqT K H' a xs := by
  rcases h with (h | ⟨o, h⟩) | h
  · exact .inl (.inl (s _ _ h))
  · exact .inl (.inr ⟨o, s _ _ h⟩)
  · exact .inr h
mutual
theorem dp_same (s : Same H H') : ∀ {v : V} {d : PyData}, Dp K H v d → Dp K H' v d
  | _, _, .non => .non
  | _, _, .bl b => .bl b
  | _, _, .int i => .int i
  | _, _, .str x => .str x
  | _, _, .lst h a => .lst (Same.seqL s h) (dpAll_same s a)
  | _, _, .tup h a => .tup (Same.seqT s h) (dpAll_same s a)
theorem dpAll_same (s : Same H H') : ∀ {vs : List V} {ds : List PyData}, DpAll K H vs ds → DpAll K H' vs ds
  | _, _, .nil => .nil
  | _, _, .cons h a => .cons (dp_same s h) (dpAll_same s a)
end
theorem dpAll_len : ∀ {vs : List V} {ds : List PyData}, DpAll K H vs ds → vs.length = ds.length
  | _, _, .nil => rfl
  | _, _, .cons _ a => by
    rw [List.length_cons, List.length_cons, dpAll_len a]
theorem dpAll_at : ∀ {vs : List V} {ds : List PyData}, DpAll K H vs ds → ∀ {i : Nat} {v : V}, vs[i]? = some v → ∃ d, ds[i]? = some d ∧ Dp K H v d
  | _, _, .cons h _, 0, _, e => ⟨_, rfl, by rw [← Option.some.inj e]; exact h⟩
  | _, _, .cons _ a, i + 1, _, e => dpAll_at a (i := i) e
theorem dpAll_snoc : ∀ {vs : List V} {ds : List PyData}, DpAll K H vs ds → ∀ {v : V} {d : PyData}, Dp K H v d → DpAll K H (vs ++ [v]) (ds ++ [d])
  | _, _, .nil, _, _, h => .cons h .nil
  | _, _, .cons h0 a, _, _, h => .cons h0 (dpAll_snoc a h)
theorem tyL {a : Addr} {xs : List V} (h : SqL K H a xs) : TyX K H (.ref a) (.type "list") := by
  rcases h with (h | ⟨o, h⟩) | ⟨o, its, n, l, c, _⟩
  · exact .base (.lst h)
  · exact .base (.frz h)
  · exact .kList l c
theorem tyT {a : Addr} {xs : List V} (h : SqT K H a xs) : TyX K H (.ref a) (.type "tuple") := by
  rcases h with (h | ⟨o, h⟩) | ⟨o, its, n, l, c, _⟩
  · exact .base (.tup h)
  · exact .fTuple h
  · exact .kTuple l c
theorem kitLT {t : String} {b : Bool} (h : kitB t "list" = some b) (h2 : b = false → kitB t "tuple" = some false) : PySem.W.kitAny K (.type t) [.type "list", .type "tuple"] = some b := by
  refine kitAny_cons (kit_ty h) (fun e => ?_) (fun e => e)
  rw [e]
  exact kitAny_cons (b := false) (kit_ty (h2 e)) (fun _ => kitAny_nil) (fun e => nomatch e)
end
/-- what is new in H', the address c left out -/
def Nw (H H' : Hp) : Hp := fun b => if H b = none then H' b else none
theorem Nw.sub {H H' : Hp} : Same (Nw H H') H' := fun b o e => by
  unfold Nw at e
  split at e
  · exact e
  · cases e
theorem Nw.mk {H H' : Hp} {b : Addr} {o : HO} (h : H b = none) (e : H' b = some o) : Nw H H' b = some o := by
  unfold Nw
  rw [if_pos h]
  exact e
theorem Nw.get {H H' : Hp} {b : Addr} {o : HO} (h : Nw H H' b = some o) : H b = none ∧ H' b = some o := by
  unfold Nw at h
  split at h
  · exact ⟨by assumption, h⟩
  · cases h
theorem kitLT2 {K : PySem.W.Frag} : PySem.W.kitAny K (.type "tuple") [.type "list", .type "tuple"] = some true :=
  kitAny_cons (b := false) (kit_ty (by decide +kernel)) (fun _ => kitAny_cons (b := true) (kit_ty (by decide +kernel)) (fun e => nomatch e) (fun _ => rfl)) (fun e => nomatch e)
def spOwnD (K : PySem.W.Frag) (n : Nat) : Sp := fun vs H Q _ => ∃ (x : V) (d : PyData), vs = [x] ∧ Dp K H x d ∧ Sm n d ∧ ∀ (H' : Hp) (y : V), Same H H' → Dp K (Nw H H') y d → Q y H'
section
variable {P : Program} {w : World} {K : PySem.W.Frag} {mg : Str → Option Value} {base : Heap}
theorem own_flat (T : Ot mg) (f : Addr) (cdv : Value) (A : Around) (outer : List Env) (s : Shared) (H : Hp) (Q : VK) (E : XK) {x : V} {t : String} (ty : ∀ H', TyX K H' x (.type t)) (k1 : kitB t "list" = some false) (k2 : kitB t "tuple" = some false) (q : ∀ H', Same H H' → Q x H') :
    ∃ t, PSs (cxOf CX0 P w K mg base N_own_copy "own_copy" (defScope s_own_copy) f cdv A outer s H E).nox (defBody s_own_copy) t ∧ t { nx := fun _ H' => Q .non H', rt := Q } (start N_own_copy [x]) H := by
  refine ⟨_, (pss_cons (ps_if (pt_not (pt_val (pe_callB call_isiT (by rfl) T.isinstance (by decide +kernel) (pa_cons (pv 0) (pa_cons (pe_tup (pa_cons (pe_bltn (v := .ty "list") rfl T.list (by decide +kernel) rfl) (pa_cons (pe_bltn (v := .ty "tuple") rfl T.tuple (by decide +kernel) rfl) pa_nil))) pa_nil)))))
      (pss_one (ps_ret (pv 0))) pss_nil) (pss_cons ps_never (pss_cons ps_never (pss_cons ps_never (pss_one ps_never))))), ?_⟩
  refine ⟨_, rfl, by show 2 ≤ sizeLine; decide, fun tp nt => ?_⟩
  refine ⟨x, tp, _, .type t, [.type "list", .type "tuple"], false, rfl, upd_same, .cons (.ty "list") (.cons (.ty "tuple") .nil), ty _, kitLT k1 (fun _ => k2), _, rfl, ?_⟩
  exact iteT ⟨_, rfl, q _ (same_upd nt)⟩
theorem ok_ownD (T : Ot mg) (D : Dd K mg "own_copy" s_own_copy P_own_copy) : ∀ n, C8.Cal P w K mg base (n + 1) "own_copy" (spOwnD K n) [] := by
  intro n
  induction n with
  | zero =>
    refine D.cal sc_own_copy (fun vs H Q E h => ?_) (fun f cdv A outer s H vs Q E hr h => ?_)
    · obtain ⟨x, d, rfl, _⟩ := h
      rfl
    · obtain ⟨x, d, rfl, hx, hs, q⟩ := h
      cases hs with
      | non => cases hx; exact own_flat T f cdv A outer s H Q E (fun _ => .base .non) (by decide +kernel) (by decide +kernel) fun H' e => q H' _ e .non
      | bl _ b => cases hx; exact own_flat T f cdv A outer s H Q E (fun _ => .base (.bl b)) (by decide +kernel) (by decide +kernel) fun H' e => q H' _ e (.bl b)
      | int _ i => cases hx; exact own_flat T f cdv A outer s H Q E (fun _ => .base (.int i)) (by decide +kernel) (by decide +kernel) fun H' e => q H' _ e (.int i)
      | str _ z => cases hx; exact own_flat T f cdv A outer s H Q E (fun _ => .base (.str z)) (by decide +kernel) (by decide +kernel) fun H' e => q H' _ e (.str z)
  | succ n cown_copy =>
    refine D.cal sc_own_copy (fun vs H Q E h => ?_) (fun f cdv A outer s H vs Q E hr h => ?_)
    · obtain ⟨x, d, rfl, _⟩ := h
      rfl
    · obtain ⟨x, d, rfl, hx, hs, q⟩ := h
      cases hs with
      | non => cases hx; exact own_flat T f cdv A outer s H Q E (fun _ => .base .non) (by decide +kernel) (by decide +kernel) fun H' e => q H' _ e .non
      | bl _ b => cases hx; exact own_flat T f cdv A outer s H Q E (fun _ => .base (.bl b)) (by decide +kernel) (by decide +kernel) fun H' e => q H' _ e (.bl b)
      | int _ i => cases hx; exact own_flat T f cdv A outer s H Q E (fun _ => .base (.int i)) (by decide +kernel) (by decide +kernel) fun H' e => q H' _ e (.int i)
      | str _ z => cases hx; exact own_flat T f cdv A outer s H Q E (fun _ => .base (.str z)) (by decide +kernel) (by decide +kernel) fun H' e => q H' _ e (.str z)
      | lst _ hlen hall =>
        rename_i ds
        cases hx with
        | lst hS hd =>
          rename_i a xs
          refine ⟨_, (pss_cons (ps_if (pt_not (pt_val (pe_callB call_isiT (by rfl) T.isinstance (by decide +kernel) (pa_cons (pv 0) (pa_cons (pe_tup (pa_cons (pe_bltn (v := .ty "list") rfl T.list (by decide +kernel) rfl) (pa_cons (pe_bltn (v := .ty "tuple") rfl T.tuple (by decide +kernel) rfl) pa_nil))) pa_nil)))))
                (pss_one (ps_ret (pv 0)))
                pss_nil)
              (pss_cons (ps_set (i := 1) sc_own_copy.nd rfl (Or.inl rfl) (pe_lst pa_nil))
              (pss_cons (ps_for PassesOwn.never rfl (pi_list (pv 0)) (pg_name (i := 2) sc_own_copy.nd rfl (Or.inl rfl))
                (pss_one (ps_expr (pe_bm PySem.F.plainAttrs_list PySem.F.slot_list_append PySem.F.type_list_append mt_append (pv 1) (pa_cons (C8.pe_c cown_copy hr (by omega) (by rfl) (pa_cons (pv 2) pa_nil)) pa_nil)))))
              (pss_cons (ps_if (pt_val (pe_callB call_isi (by rfl) T.isinstance (by decide +kernel) (pa_cons (pv 0) (pa_cons (pe_bltn (v := .ty "tuple") rfl T.tuple (by decide +kernel) rfl) pa_nil))))
                (pss_one (ps_ret (pe_callTy call_tuple_of (by rfl) T.tuple (by decide +kernel) (pa_cons (pv 1) pa_nil))))
                pss_nil)
              (pss_one (ps_ret (pv 1))))))), ?_⟩
          have lx := dpAll_len hd
          refine ⟨_, rfl, by show 2 ≤ sizeLine; decide, fun tp nt => ?_⟩
          have s1 := same_upd (o := .tup [.ty "list", .ty "tuple"]) nt
          refine ⟨.ref a, tp, _, .type "list", [.type "list", .type "tuple"], true, rfl, upd_same, .cons (.ty "list") (.cons (.ty "tuple") .nil), tyL (Same.seqL s1 hS), kitLT (by decide +kernel) (fun e => nomatch e), _, rfl, iteF ?_⟩
          refine ⟨by show 0 ≤ sizeLine; decide, fun c nc => ?_⟩
          have s2 := s1.trans (same_upd (o := .lst []) nc)
          have nc0 : H c = none := s1.free nc
          refine ⟨_, rfl, a, rfl, ⟨_, Same.seqL s2 hS⟩, for_list (K := K) (a := a) (xs := xs) (fun i σ H3 => ∃ y2 ys, σ = [some (.ref a), some (.ref c), y2] ∧ Same H H3 ∧ H3 c = some (.lst ys) ∧ DpAll K (Nw (upd H c (.lst [])) H3) ys (ds.take i) ∧ i ≤ ds.length)
            ⟨none, [], rfl, s2, upd_same, .nil, by omega⟩ (fun i σ H3 _ ⟨_, _, _, s3, _⟩ => Same.seqL s3 hS) ?_ ?_⟩
          · rintro i x σ H3 hxi ⟨y2, ys, rfl, s3, hc, hys, hi⟩
            obtain ⟨d, hdi, hdp⟩ := dpAll_at hd hxi
            have hi2 : i < ds.length := (List.getElem?_eq_some_iff.mp hdi).1
            have ly := dpAll_len hys
            rw [List.length_take] at ly
            refine ⟨_, rfl, .inl ⟨rfl, _, SqL.of hc⟩, _, rfl, x, d, rfl, dp_same s3 hdp, hall d (List.mem_of_getElem? hdi), fun H4 y s4 hy => ?_⟩
            refine ⟨c, ys, y, rfl, rfl, s4 _ _ hc, small1000 (by omega), ?_⟩
            refine ⟨_, ys ++ [y], rfl, fun b o e => ?_, upd_same, ?_, by omega⟩
            · rw [upd_ne (ne_of_none e nc0)]
              exact s4 _ _ (s3 _ _ e)
            · rw [List.take_add_one, hdi]
              refine dpAll_snoc (dpAll_same (fun b o e => ?_) hys) (dp_same (fun b o e => ?_) hy)
              · obtain ⟨e1, e2⟩ := Nw.get e
                have nb : b ≠ c := fun z => by
                  rw [z, upd_same] at e1
                  cases e1
                exact Nw.mk e1 (by rw [upd_ne nb]; exact s4 _ _ e2)
              · obtain ⟨e1, e2⟩ := Nw.get e
                have nb : b ≠ c := fun z => by
                  rw [z, hc] at e1
                  cases e1
                exact Nw.mk (by rw [upd_ne nb]; exact s3.free e1) (by rw [upd_ne nb]; exact e2)
          · rintro σ H3 ⟨y2, ys, rfl, s3, hc, hys, _⟩
            rw [lx, List.take_length] at hys
            have toN : ∀ H5, Same H3 H5 → Same (Nw (upd H c (.lst [])) H3) (Nw H H5) := fun H5 s5 b o e => by
              obtain ⟨e1, e2⟩ := Nw.get e
              have nb : b ≠ c := fun z => by
                rw [z, upd_same] at e1
                cases e1
              rw [upd_ne nb] at e1
              exact Nw.mk e1 (s5 _ _ e2)
            refine ⟨_, rfl, .ref a, .ty "tuple", .type "list", .type "tuple", false, rfl, .ty "tuple", tyL (Same.seqL s3 hS), kit_ty (by decide +kernel), _, rfl, iteF ?_⟩
            exact ⟨_, rfl, q _ _ s3 (.lst (SqL.of (Nw.mk nc0 hc)) (dpAll_same (toN _ (Same.refl _)) hys))⟩
      | tup _ hlen hall =>
        rename_i ds
        cases hx with
        | tup hS hd =>
          rename_i a xs
          refine ⟨_, (pss_cons (ps_if (pt_not (pt_val (pe_callB call_isiT (by rfl) T.isinstance (by decide +kernel) (pa_cons (pv 0) (pa_cons (pe_tup (pa_cons (pe_bltn (v := .ty "list") rfl T.list (by decide +kernel) rfl) (pa_cons (pe_bltn (v := .ty "tuple") rfl T.tuple (by decide +kernel) rfl) pa_nil))) pa_nil)))))
                (pss_one (ps_ret (pv 0)))
                pss_nil)
              (pss_cons (ps_set (i := 1) sc_own_copy.nd rfl (Or.inl rfl) (pe_lst pa_nil))
              (pss_cons (ps_for PassesOwn.never rfl (pi_tup (pv 0)) (pg_name (i := 2) sc_own_copy.nd rfl (Or.inl rfl))
                (pss_one (ps_expr (pe_bm PySem.F.plainAttrs_list PySem.F.slot_list_append PySem.F.type_list_append mt_append (pv 1) (pa_cons (C8.pe_c cown_copy hr (by omega) (by rfl) (pa_cons (pv 2) pa_nil)) pa_nil)))))
              (pss_cons (ps_if (pt_val (pe_callB call_isi (by rfl) T.isinstance (by decide +kernel) (pa_cons (pv 0) (pa_cons (pe_bltn (v := .ty "tuple") rfl T.tuple (by decide +kernel) rfl) pa_nil))))
                (pss_one (ps_ret (pe_callTy call_tuple_of (by rfl) T.tuple (by decide +kernel) (pa_cons (pv 1) pa_nil))))
                pss_nil)
              (pss_one (ps_ret (pv 1))))))), ?_⟩
          have lx := dpAll_len hd
          refine ⟨_, rfl, by show 2 ≤ sizeLine; decide, fun tp nt => ?_⟩
          have s1 := same_upd (o := .tup [.ty "list", .ty "tuple"]) nt
          refine ⟨.ref a, tp, _, .type "tuple", [.type "list", .type "tuple"], true, rfl, upd_same, .cons (.ty "list") (.cons (.ty "tuple") .nil), tyT (Same.seqT s1 hS), kitLT2, _, rfl, iteF ?_⟩
          refine ⟨by show 0 ≤ sizeLine; decide, fun c nc => ?_⟩
          have s2 := s1.trans (same_upd (o := .lst []) nc)
          have nc0 : H c = none := s1.free nc
          refine ⟨_, rfl, a, rfl, ⟨_, Same.seqT s2 hS⟩, for_tup (K := K) (a := a) (xs := xs) (fun i σ H3 => ∃ y2 ys, σ = [some (.ref a), some (.ref c), y2] ∧ Same H H3 ∧ H3 c = some (.lst ys) ∧ DpAll K (Nw (upd H c (.lst [])) H3) ys (ds.take i) ∧ i ≤ ds.length)
            ⟨none, [], rfl, s2, upd_same, .nil, by omega⟩ (fun i σ H3 _ ⟨_, _, _, s3, _⟩ => Same.seqT s3 hS) ?_ ?_⟩
          · rintro i x σ H3 hxi ⟨y2, ys, rfl, s3, hc, hys, hi⟩
            obtain ⟨d, hdi, hdp⟩ := dpAll_at hd hxi
            have hi2 : i < ds.length := (List.getElem?_eq_some_iff.mp hdi).1
            have ly := dpAll_len hys
            rw [List.length_take] at ly
            refine ⟨_, rfl, .inl ⟨rfl, _, SqL.of hc⟩, _, rfl, x, d, rfl, dp_same s3 hdp, hall d (List.mem_of_getElem? hdi), fun H4 y s4 hy => ?_⟩
            refine ⟨c, ys, y, rfl, rfl, s4 _ _ hc, small1000 (by omega), ?_⟩
            refine ⟨_, ys ++ [y], rfl, fun b o e => ?_, upd_same, ?_, by omega⟩
            · rw [upd_ne (ne_of_none e nc0)]
              exact s4 _ _ (s3 _ _ e)
            · rw [List.take_add_one, hdi]
              refine dpAll_snoc (dpAll_same (fun b o e => ?_) hys) (dp_same (fun b o e => ?_) hy)
              · obtain ⟨e1, e2⟩ := Nw.get e
                have nb : b ≠ c := fun z => by
                  rw [z, upd_same] at e1
                  cases e1
                exact Nw.mk e1 (by rw [upd_ne nb]; exact s4 _ _ e2)
              · obtain ⟨e1, e2⟩ := Nw.get e
                have nb : b ≠ c := fun z => by
                  rw [z, hc] at e1
                  cases e1
                exact Nw.mk (by rw [upd_ne nb]; exact s3.free e1) (by rw [upd_ne nb]; exact e2)
          · rintro σ H3 ⟨y2, ys, rfl, s3, hc, hys, _⟩
            rw [lx, List.take_length] at hys
            have toN : ∀ H5, Same H3 H5 → Same (Nw (upd H c (.lst [])) H3) (Nw H H5) := fun H5 s5 b o e => by
              obtain ⟨e1, e2⟩ := Nw.get e
              have nb : b ≠ c := fun z => by
                rw [z, upd_same] at e1
                cases e1
              rw [upd_ne nb] at e1
              exact Nw.mk e1 (s5 _ _ e2)
            refine ⟨_, rfl, .ref a, .ty "tuple", .type "tuple", .type "tuple", true, rfl, .ty "tuple", tyT (Same.seqT s3 hS), kit_ty (by decide +kernel), _, rfl, iteT ?_⟩
            refine ⟨_, rfl, c, ys, rfl, .inl ⟨SqL.of hc, fun l nl => ?_⟩⟩
            exact q _ _ (s3.trans (same_upd nl)) (.tup (SqT.of (Nw.mk (s3.free nl) upd_same)) (dpAll_same (toN _ (same_upd nl)) hys))
end
/-! ### what is drawn: one of some, some in another order, numbers -/
theorem ifT {c : Bool} {A B : Prop} (h : c = true) (x : A) : if c = true then A else B := by rw [if_pos h]; exact x
theorem ifF {c : Bool} {A B : Prop} (h : c = false) (x : B) : if c = true then A else B := by rw [if_neg (by rw [h]; decide)]; exact x
theorem yesT {σ : L2.St} {H : Hp} {A B : Hp → Prop} (h : A H) : tYes σ H (fun b H3 => if b = true then A H3 else B H3) := by
  show (if true = true then A H else B H)
  exact iteT h
theorem Same.at_ {H0 H : Hp} {p : Addr} {o : HO} (s : Same H0 H) (n : H0 p = none) : Same H0 (upd H p o) := fun b x e => by
  rw [upd_ne (ne_of_none e n)]
  exact s b x e
theorem Same.new {H0 H : Hp} {p : Addr} {o : HO} (s : Same H0 H) (n : H p = none) : Same H0 (upd H p o) := s.trans (same_upd n)
theorem Same.but {H0 H H' : Hp} {a : Addr} (s : Same H0 H) (n : H0 a = none) (b : But a H H') : Same H0 H' := fun x o e => b x o (ne_of_none e n) (s x o e)
theorem BoxL.mono {n m : Nat} {b : List V} (h : BoxL n b) (l : n ≤ m) : BoxL m b := by
  obtain ⟨b0, b1, b2, e, h0, h1, h2, h3, h4⟩ := h
  exact ⟨b0, b1, b2, e, h0, h1, h2, h3, by omega⟩
theorem But.free {a b : Addr} {H H' : Hp} {o : HO} (x : But a H H') (ha : H' a = some o) (h : H' b = none) : H b = none := by
  cases e : H b with
  | none => rfl
  | some u =>
    by_cases z : b = a
    · rw [z, ha] at h
      cases h
    · rw [x b u z e] at h
      cases h
abbrev s__law_one_of : Stmt := top 58
abbrev N__law_one_of : List Str := ["_law_box", "_law_some"]
abbrev P__law_one_of : List Str := ["_law_box", "_law_some"]
theorem sc__law_one_of : FnScope N__law_one_of P__law_one_of (defScope s__law_one_of) := ⟨rfl, rfl, rfl, by decide +kernel, rfl, by decide +kernel, by decide +kernel⟩
abbrev s__law_strewn : Stmt := top 59
abbrev N__law_strewn : List Str := ["_law_box", "_law_some", "_law_found", "_law_one"]
abbrev P__law_strewn : List Str := ["_law_box", "_law_some"]
theorem sc__law_strewn : FnScope N__law_strewn P__law_strewn (defScope s__law_strewn) := ⟨rfl, rfl, rfl, by decide +kernel, rfl, by decide +kernel, by decide +kernel⟩
abbrev s__law_number : Stmt := top 61
abbrev N__law_number : List Str := ["_law_box"]
abbrev P__law_number : List Str := ["_law_box"]
theorem sc__law_number : FnScope N__law_number P__law_number (defScope s__law_number) := ⟨rfl, rfl, rfl, by decide +kernel, rfl, by decide +kernel, by decide +kernel⟩
def spOneOf (K : PySem.W.Frag) : Sp := fun vs H Q _ => ∃ (a sl : Addr) (m : Nat) (b xs : List V), vs = [.ref a, .ref sl] ∧ H a = some (.lst b) ∧ BoxL m b ∧ m < 900000 ∧ SqL K H sl xs ∧ sl ≠ a ∧ 0 < xs.length ∧ xs.length ≤ 1000 ∧
  ∀ (i : Nat) (v : V) (b' : List V), xs[i]? = some v → BoxL (m + 1) b' → Q v (upd H a (.lst b'))
def spStrewn (K : PySem.W.Frag) : Sp := fun vs H Q _ => ∃ (a sl : Addr) (m : Nat) (b xs : List V), vs = [.ref a, .ref sl] ∧ H a = some (.lst b) ∧ BoxL m b ∧ m + xs.length < 900000 ∧ SqL K H sl xs ∧ sl ≠ a ∧ xs.length ≤ 100000 ∧
  ∀ (H' : Hp) (l : Addr) (ys b' : List V), But a H H' → H l = none → H' l = some (.lst ys) → ys.Perm xs → H' a = some (.lst b') → BoxL (m + xs.length) b' → Q (.ref l) H'
def spNumber : Sp := fun vs H Q _ => ∃ (a : Addr) (m : Nat) (b : List V), vs = [.ref a] ∧ H a = some (.lst b) ∧ BoxL m b ∧ m + 4 < 900000 ∧
  ∀ (H' : Hp) (r : Int) (b' : List V), But a H H' → H' a = some (.lst b') → BoxL (m + 4) b' → 0 ≤ r → r < 1000000 → Q (.int r) H'
section
variable {P : Program} {w : World} {K : PySem.W.Frag} {mg : Str → Option Value} {base : Heap}
theorem ok_one_of (T : Bt mg) (c_law_take : C8.Cal P w K mg base 1 "_law_take" spTake []) (D : Dd K mg "_law_one_of" s__law_one_of P__law_one_of) : C8.Cal P w K mg base 2 "_law_one_of" (spOneOf K) [] := by
  refine D.cal sc__law_one_of (fun vs H Q E h => ?_) (fun f cdv A outer s H vs Q E hr h => ?_)
  · obtain ⟨a, sl, m, b, xs, rfl, _⟩ := h
    rfl
  · obtain ⟨a, sl, m, b, xs, rfl, ha, hB, hm, hS, ns, h0, h1, q⟩ := h
    refine ⟨_, (pss_one (ps_ret (pe_ix ix_list (pv 1) (C8.pe_c c_law_take hr (by decide) (by rfl) (pa_cons (pv 0) (pa_cons (pe_callB call_len_seq (by rfl) T.len PySem.boot_len (pa_cons (pv 1) pa_nil)) pa_nil))) (fun _ _ => rfl)))), ?_⟩
    refine ⟨_, rfl, _, rfl, _, rfl, sl, xs, rfl, .inl hS, a, xs.length, m, b, rfl, ha, hB, by omega, by omega, by omega, fun r b' r0 r1 hB' => ?_⟩
    obtain ⟨i, rfl⟩ : ∃ i : Nat, r = (i : Int) := ⟨r.toNat, by omega⟩
    have hi : i < xs.length := by omega
    exact ⟨sl, xs, _, xs[i], rfl, rfl, But.seq (But.upd (But.refl a H)) ns hS, atI_nat (j := i) (by simp [hi]), q i _ b' (by simp [hi]) hB'⟩
theorem ok_strewn (T : Bt mg) (c_law_take : C8.Cal P w K mg base 1 "_law_take" spTake []) (D : Dd K mg "_law_strewn" s__law_strewn P__law_strewn) : C8.Cal P w K mg base 2 "_law_strewn" (spStrewn K) [] := by
  refine D.cal sc__law_strewn (fun vs H Q E h => ?_) (fun f cdv A outer s H vs Q E hr h => ?_)
  · obtain ⟨a, sl, m, b, xs, rfl, _⟩ := h
    rfl
  · obtain ⟨a, sl, m, b, xs, rfl, ha, hB, hm, hS, ns, h1, q⟩ := h
    refine ⟨_, (pss_cons (ps_set (i := 2) sc__law_strewn.nd rfl (Or.inl rfl) (pe_lst pa_nil))
        (pss_cons (ps_for PassesOwn.never rfl (pi_list (pv 1)) (pg_name (i := 3) sc__law_strewn.nd rfl (Or.inl rfl))
          (pss_one (ps_expr (pe_bm PySem.F.plainAttrs_list PySem.F.slot_list_insert PySem.F.type_list_insert mt_insert (pv 2) (pa_cons (C8.pe_c c_law_take hr (by decide) (by rfl) (pa_cons (pv 0) (pa_cons (pe_op op_add (pe_callB call_len_seq (by rfl) T.len PySem.boot_len (pa_cons (pv 2) pa_nil)) pe_int) pa_nil))) (pa_cons (pv 3) pa_nil))))))
        (pss_one (ps_ret (pv 2))))), ?_⟩
    refine ⟨by show 0 ≤ sizeLine; decide, fun l nl => ?_⟩
    have nla : a ≠ l := ne_of_none ha nl
    have s1 := same_upd (o := .lst []) nl
    refine ⟨_, rfl, sl, rfl, ⟨_, (But.seq (a := a) (But.of s1) ns hS)⟩, for_list (K := K) (a := sl) (xs := xs) (fun i σ H3 => ∃ y ys b', σ = [some (.ref a), some (.ref sl), some (.ref l), y] ∧ But a H H3 ∧ H3 l = some (.lst ys) ∧ ys.Perm (xs.take i) ∧ H3 a = some (.lst b') ∧ BoxL (m + i) b' ∧ SqL K H3 sl xs ∧ i ≤ xs.length)
      ⟨none, [], b, rfl, But.of s1, upd_same, .nil, s1 _ _ ha, hB, (But.seq (a := a) (But.of s1) ns hS), Nat.zero_le _⟩ (fun i σ H3 _ ⟨_, _, _, _, _, _, _, _, _, h, _⟩ => h) ?_ ?_⟩
    · rintro i x σ H3 hx ⟨y, ys, b', rfl, bt, hl, hp, hb', hB', hS3, hi⟩
      have hi2 : i < xs.length := (List.getElem?_eq_some_iff.mp hx).1
      have ly : ys.length = i := by
        rw [hp.length_eq, List.length_take]
        omega
      refine ⟨_, rfl, .inl ⟨rfl, _, SqL.of hl⟩, _, rfl, _, rfl, l, ys, rfl, .inl (SqL.of hl), _, _, rfl, rfl, a, _, _, b', rfl, hb', hB', by omega, by omega, by omega, fun r b2 r0 r1 hB2 => ?_⟩
      have hl2 : (upd H3 a (.lst b2)) l = some (.lst ys) := by
        rw [upd_ne nla.symm]
        exact hl
      refine ⟨_, rfl, l, ys, r, x, rfl, rfl, hl2, by rw [ly]; exact Nat.lt_of_le_of_lt (Nat.le_of_lt hi2) (Nat.lt_of_le_of_lt h1 (by decide)), r0, by omega, ?_⟩
      have bt2 : But a H (upd (upd H3 a (.lst b2)) l (.lst (ys.take r.toNat ++ [x] ++ ys.drop r.toNat))) := fun c o nc hc => by
        rw [upd_ne (ne_of_none hc nl), upd_ne nc]
        exact bt _ _ nc hc
      refine ⟨_, _, b2, rfl, bt2, upd_same, ?_, by rw [upd_ne nla, upd_same], hB2, But.seq bt2 ns hS, by omega⟩
      rw [List.take_add_one, hx]
      refine List.Perm.trans ?_ (List.Perm.append hp (List.Perm.refl [x]))
      rw [List.append_assoc]
      refine List.Perm.trans (List.Perm.append_left _ List.perm_append_comm) ?_
      rw [← List.append_assoc, List.take_append_drop]
    · rintro σ H3 ⟨y, ys, b', rfl, bt, hl, hp, hb', hB', hS3, hi⟩
      rw [List.take_length] at hp
      exact ⟨_, rfl, q _ l ys b' bt nl hl hp hb' hB'⟩
theorem ok_number (c_law_take : C8.Cal P w K mg base 1 "_law_take" spTake []) (D : Dd K mg "_law_number" s__law_number P__law_number) : C8.Cal P w K mg base 2 "_law_number" spNumber [] := by
  refine D.cal sc__law_number (fun vs H Q E h => ?_) (fun f cdv A outer s H vs Q E hr h => ?_)
  · obtain ⟨a, m, b, rfl, _⟩ := h
    rfl
  · obtain ⟨a, m, b, rfl, ha, hB, hm, q⟩ := h
    refine ⟨_, (pss_one (ps_ret (pe_ix ix_list (pe_lst (pa_cons (C8.pe_c c_law_take hr (by decide) (by rfl) (pa_cons (pv 0) (pa_cons pe_int pa_nil))) (pa_cons (C8.pe_c c_law_take hr (by decide) (by rfl) (pa_cons (pv 0) (pa_cons pe_int pa_nil))) (pa_cons (C8.pe_c c_law_take hr (by decide) (by rfl) (pa_cons (pv 0) (pa_cons (pe_op op_pow pe_int pe_int) pa_nil))) pa_nil)))) (C8.pe_c c_law_take hr (by decide) (by rfl) (pa_cons (pv 0) (pa_cons pe_int pa_nil))) (fun _ _ => rfl)))), ?_⟩
    refine ⟨_, rfl, a, 4, m, b, rfl, ha, hB, by omega, by decide, by decide, fun r1 b1 r10 r11 hB1 => ?_⟩
    refine ⟨_, rfl, a, 30, m + 1, b1, rfl, upd_same, hB1, by omega, by decide, by decide, fun r2 b2 r20 r21 hB2 => ?_⟩
    refine ⟨_, rfl, _, _, rfl, rfl, ⟨by decide, by decide, by decide⟩, a, _, m + 2, b2, rfl, upd_same, hB2, by omega, by decide, by decide, fun r3 b3 r30 r31 hB3 => ?_⟩
    refine ⟨by show 3 ≤ sizeLine; decide, fun l nl => ?_⟩
    have nla : l ≠ a := fun z => by
      rw [z, upd_same] at nl
      cases nl
    refine ⟨_, rfl, a, 3, m + 3, b3, rfl, by rw [upd_ne nla.symm, upd_same], hB3, by omega, by decide, by decide, fun r4 b4 r40 r41 hB4 => ?_⟩
    have hl : (upd (upd (upd (upd (upd H a (.lst b1)) a (.lst b2)) a (.lst b3)) l (.lst [.int r1, .int r2, .int r3])) a (.lst b4)) l = some (.lst [.int r1, .int r2, .int r3]) := by
      rw [upd_ne nla, upd_same]
    have bt : But a H (upd (upd (upd (upd (upd H a (.lst b1)) a (.lst b2)) a (.lst b3)) l (.lst [.int r1, .int r2, .int r3])) a (.lst b4)) := But.upd (But.new (But.upd (But.upd (But.upd (But.refl a H)))) nl)
    have r31' : r3 < 1000000 := r31
    have hc : r4 = 0 ∨ r4 = 1 ∨ r4 = 2 := by omega
    rcases hc with rfl | rfl | rfl
    · exact ⟨l, _, _, _, rfl, rfl, SqL.of hl, atI_nat (j := 0) rfl, q _ _ b4 bt upd_same hB4 r10 (by omega)⟩
    · exact ⟨l, _, _, _, rfl, rfl, SqL.of hl, atI_nat (j := 1) rfl, q _ _ b4 bt upd_same hB4 r20 (by omega)⟩
    · exact ⟨l, _, _, _, rfl, rfl, SqL.of hl, atI_nat (j := 2) rfl, q _ _ b4 bt upd_same hB4 r30 r31'⟩
end
/-! ### names: unlike ones, NAMEs all -/
abbrev s__law_named : Stmt := top 60
abbrev N__law_named : List Str := ["_law_box", "_law_many", "_law_letters", "_law_found", "_law_words", "_law_k", "_law_name", "_law_turn"]
abbrev P__law_named : List Str := ["_law_box", "_law_many"]
theorem sc__law_named : FnScope N__law_named P__law_named (defScope s__law_named) := ⟨rfl, rfl, rfl, by decide +kernel, rfl, by decide +kernel, by decide +kernel⟩
def LET : Str := "abcdefghijklmnopqrstuvwxyz"
theorem let_lst : LET.cps.toList = [97, 98, 99, 100, 101, 102, 103, 104, 105, 106, 107, 108, 109, 110, 111, 112, 113, 114, 115, 116, 117, 118, 119, 120, 121, 122] := by decide +kernel
theorem let_nth {i : Nat} (h : i < 26) : LET.cps.toList[i]? = some (97 + i) := by
  rw [let_lst]
  have hc : i = 0 ∨ i = 1 ∨ i = 2 ∨ i = 3 ∨ i = 4 ∨ i = 5 ∨ i = 6 ∨ i = 7 ∨ i = 8 ∨ i = 9 ∨ i = 10 ∨ i = 11 ∨ i = 12 ∨ i = 13 ∨ i = 14 ∨ i = 15 ∨ i = 16 ∨ i = 17 ∨ i = 18 ∨ i = 19 ∨ i = 20 ∨ i = 21 ∨ i = 22 ∨ i = 23 ∨ i = 24 ∨ i = 25 := by omega
  rcases hc with rfl | rfl | rfl | rfl | rfl | rfl | rfl | rfl | rfl | rfl | rfl | rfl | rfl | rfl | rfl | rfl | rfl | rfl | rfl | rfl | rfl | rfl | rfl | rfl | rfl | rfl <;> rfl
/-- letters, one to six -/
def Wd (w : List Nat) : Prop := 1 ≤ w.length ∧ w.length ≤ 6 ∧ ∀ c ∈ w, isLet c = true
/-- a NAME -/
def NmOk (w : List Nat) : Prop := Wd w ∧ w ≠ OWNL
theorem join_nil : ∀ ps : List (List Nat), TL.joinL [] ps = ps.flatten := fun ps => by
  induction ps with
  | nil => rfl
  | cons p r ih =>
    cases r with
    | nil => simp [TL.joinL]
    | cons q r =>
      show p ++ ([] ++ TL.joinL [] (q :: r)) = _
      rw [ih]
      rfl
theorem sing_flat : ∀ cs : List Nat, (cs.map fun c => [c]).flatten = cs
  | [] => rfl
  | c :: cs => by
    rw [List.map_cons, List.flatten_cons, sing_flat cs]
    rfl
theorem s_emp : (("" : String) : Str) = SX.S [] := by decide +kernel
theorem s_own : (("own" : String) : Str) = SX.S OWNL := by decide +kernel
def WORDS : Str := "copy plus less over rest least same pick sort make rule cap kept at number lay put end ask tree"
theorem words_wd : (Txt.split WORDS " ").length = 20 ∧ ∀ z ∈ Txt.split WORDS " ", ∃ w, z = SX.S w ∧ Wd w := by
  have hall : (Txt.split WORDS " ").length = 20 ∧ (Txt.split WORDS " ").all (fun z => decide (1 ≤ z.cps.toList.length) && (decide (z.cps.toList.length ≤ 6) && z.cps.toList.all isLet)) = true := by decide +kernel
  refine ⟨hall.1, fun z hz => ⟨z.cps.toList, (SX.S_tl z).symm, ?_⟩⟩
  have hh := List.all_eq_true.mp hall.2 z hz
  simp only [Bool.and_eq_true, decide_eq_true_eq] at hh
  exact ⟨hh.1, hh.2.1, fun c hc => List.all_eq_true.mp hh.2.2 c hc⟩
theorem nodup_le {us f : List (List Nat)} (h : us.Nodup) (s : ∀ u ∈ us, u ∈ f) : us.length ≤ f.length := by
  induction us generalizing f with
  | nil => exact Nat.zero_le _
  | cons u us ih =>
    have hu := s u (List.mem_cons_self ..)
    rw [List.nodup_cons] at h
    have := ih (f := f.erase u) h.2 fun x hx => (List.mem_erase_of_ne (fun z => h.1 (by rw [← z]; exact hx))).mpr (s x (List.mem_cons_of_mem _ hx))
    rw [List.length_erase_of_mem hu] at this
    have : 0 < f.length := List.length_pos_of_mem hu
    rw [List.length_cons]
    omega
/-- another name in the place of one that is taken -/
def bend (w : List Nat) (j : Nat) : List Nat := w.take 4 ++ [97] ++ [97 + j]
theorem bend_wd {w : List Nat} {j : Nat} (h : Wd w) (hj : j < 26) : Wd (bend w j) := by
  unfold bend
  refine ⟨?_, ?_, fun c hc => ?_⟩
  · rw [List.length_append, List.length_append]
    show 1 ≤ _ + 1 + 1
    omega
  · rw [List.length_append, List.length_append, List.length_take]
    show _ + 1 + 1 ≤ 6
    omega
  · rw [List.mem_append, List.mem_append] at hc
    rcases hc with (hc | hc) | hc
    · exact h.2.2 c (List.mem_of_mem_take hc)
    · rw [List.mem_singleton.mp hc]
      rfl
    · rw [List.mem_singleton.mp hc]
      unfold isLet
      rw [decide_eq_true (by omega : 97 ≤ 97 + j), decide_eq_true (by omega : 97 + j ≤ 122)]
      rfl
theorem bend_last (w : List Nat) (j : Nat) : (bend w j).getLast? = some (97 + j) := by
  unfold bend
  rw [List.getLast?_append]
  rfl
theorem bend_own {w : List Nat} {j : Nat} : bend w j ≠ OWNL := fun z => by
  have e : (bend w j).reverse = OWNL.reverse := congrArg List.reverse z
  unfold bend OWNL at e
  rw [List.reverse_append, List.reverse_append] at e
  have e2 : (97 + j) :: 97 :: (w.take 4).reverse = [110, 119, 111] := e
  injection e2 with _ e3
  injection e3 with e4 _
  exact absurd e4 (by decide)
/-- what the turns leave: it is free, or so many were met -/
def Clash (f : List (List Nat)) (j : Nat) (w : List Nat) : Prop := (w ∉ f ∧ w ≠ OWNL) ∨ j = 0 ∨ ∃ us : List (List Nat), us.Nodup ∧ (∀ u ∈ us, u ∈ f ∧ ∃ i, i + 1 < j ∧ u.getLast? = some (97 + i)) ∧ us.length + 1 = j ∧ w.getLast? = some (97 + (j - 1)) ∧ w ≠ OWNL
theorem clash_step {f : List (List Nat)} {j : Nat} {w : List Nat} (h : Clash f j w) (hb : w ∈ f ∨ w = OWNL) : Clash f (j + 1) (bend w j) := by
  refine .inr (.inr ?_)
  rcases h with ⟨h1, h2⟩ | rfl | ⟨us, n1, n2, n3, n4, n5⟩
  · rcases hb with hb | hb
    · exact absurd hb h1
    · exact absurd hb h2
  · exact ⟨[], List.nodup_nil, (fun u hu => nomatch hu), rfl, bend_last _ _, bend_own⟩
  · have hw : w ∈ f := by
      rcases hb with hb | hb
      · exact hb
      · exact absurd hb n5
    refine ⟨w :: us, List.nodup_cons.mpr ⟨fun hm => ?_, n1⟩, fun u hu => ?_, by rw [List.length_cons]; omega, bend_last _ _, bend_own⟩
    · obtain ⟨_, i, hi, hl⟩ := n2 w hm
      rw [n4] at hl
      have := Option.some.inj hl
      omega
    · rcases List.mem_cons.mp hu with rfl | hu
      · exact ⟨hw, j - 1, by omega, n4⟩
      · obtain ⟨h1, i, hi, hl⟩ := n2 u hu
        exact ⟨h1, i, by omega, hl⟩
theorem clash_end {f : List (List Nat)} {w : List Nat} (h : Clash f (f.length + 2) w) : w ∉ f ∧ w ≠ OWNL := by
  rcases h with h | h | ⟨us, n1, n2, n3, _, _⟩
  · exact h
  · omega
  · have := nodup_le n1 fun u hu => (n2 u hu).1
    omega
def nmV (ws : List (List Nat)) : List V := ws.map fun w => V.str (SX.S w)
theorem in_names (w : List Nat) (ws : List (List Nat)) : inV (.str (SX.S w)) (nmV ws) = decide (w ∈ ws) := by
  induction ws with
  | nil => rfl
  | cons u ws ih =>
    show (eqV (.str (SX.S u)) (.str (SX.S w)) || inV (.str (SX.S w)) (nmV ws)) = _
    rw [ih]
    show ((SX.S u == SX.S w) || _) = _
    rw [SX.S_beq_eq, Bool.eq_iff_iff, Bool.or_eq_true, decide_eq_true_eq, decide_eq_true_eq, decide_eq_true_eq, List.mem_cons]
    exact ⟨fun h => h.elim (fun e => .inl e.symm) .inr, fun h => h.elim (fun e => .inl e.symm) .inr⟩
theorem flat_names (ws : List (List Nat)) : (nmV ws).all flatV = true := by
  induction ws with
  | nil => rfl
  | cons w ws ih =>
    show (true && (nmV ws).all flatV) = true
    rw [ih]
    rfl
theorem nmV_len (ws : List (List Nat)) : (nmV ws).length = ws.length := List.length_map _
def spNamed : Sp := fun vs H Q _ => ∃ (a : Addr) (many m : Nat) (b : List V), vs = [.ref a, .int many] ∧ many ≤ 20 ∧ H a = some (.lst b) ∧ BoxL m b ∧ m + 10 * many < 900000 ∧
  ∀ (H' : Hp) (l : Addr) (ws : List (List Nat)) (b' : List V), But a H H' → H l = none → H' l = some (.lst (nmV ws)) → ws.length = many → ws.Nodup → (∀ w ∈ ws, NmOk w) → H' a = some (.lst b') → BoxL (m + 10 * many) b' → Q (.ref l) H'
section
variable {P : Program} {w : World} {K : PySem.W.Frag} {mg : Str → Option Value} {base : Heap}
theorem ok_named (T : Bt mg) (c_law_take : C8.Cal P w K mg base 1 "_law_take" spTake []) (D : Dd K mg "_law_named" s__law_named P__law_named) : C8.Cal P w K mg base 2 "_law_named" spNamed [] := by
  refine D.cal sc__law_named (fun vs H Q E h => ?_) (fun f cdv A outer s H vs Q E hr h => ?_)
  · obtain ⟨a, many, m, b, rfl, _⟩ := h
    rfl
  · obtain ⟨a, many, m, b, rfl, hmany, ha, hB, hm, q⟩ := h
    refine ⟨_, (pss_cons (ps_asg (pe_tup (pa_cons pe_str (pa_cons (pe_lst pa_nil) pa_nil))) (pg_tup rfl (pgs_cons (pg_name (i := 2) sc__law_named.nd rfl (Or.inr rfl)) (pgs_cons (pg_name (i := 3) sc__law_named.nd rfl (Or.inl rfl)) pgs_nil))))
        (pss_cons (ps_set (i := 4) sc__law_named.nd rfl (Or.inl rfl) pe_str)
        (pss_cons (ps_for PassesOwn.never rfl (pi_range1 rfl T.range (pa_cons (pv 1) pa_nil)) (pg_name (i := 5) sc__law_named.nd rfl (Or.inl rfl))
          (pss_cons (ps_set (i := 6) sc__law_named.nd rfl (Or.inl rfl) (pe_bm PySem.F.plainAttrs_str PySem.F.slot_str_join PySem.F.type_str_join mt_join pe_str (pa_cons (pe_lc (own := [("_law_turn", 7)]) (by exact rfl) sc__law_named.nd (pi_range1 rfl T.range (pa_cons (pe_ix ix_list (pe_lst (pa_cons pe_int (pa_cons pe_int (pa_cons pe_int (pa_cons pe_int pa_nil))))) (C8.pe_c c_law_take hr (by decide) (by rfl) (pa_cons (pv 0) (pa_cons pe_int pa_nil))) (fun _ _ => rfl)) pa_nil)) (blkOk_by (own := [("_law_turn", 7)]) (N := N__law_named) (sc := defScope s__law_named) (by decide +kernel)) (fun _ _ _ _ _ => (pg_name (i := 7) sc__law_named.nd rfl (Or.inl rfl))) (fun _ _ _ _ _ => pts_nil) (fun _ _ _ _ _ => (pe_ix ix_str (pv 2) (C8.pe_c c_law_take hr (by decide) (by rfl) (pa_cons (pv 0) (pa_cons pe_int pa_nil))) (fun _ _ => rfl)))) pa_nil)))
        (C8.pss_cut (ps_if (pt_cmpR op_eq (C8.pe_c c_law_take hr (by decide) (by rfl) (pa_cons (pv 0) (pa_cons pe_int pa_nil))) pe_int (nomark _))
          (pss_one (ps_set (i := 6) sc__law_named.nd rfl (Or.inl rfl) (pe_ix ix_list (pe_bm PySem.F.plainAttrs_str PySem.F.slot_str_split PySem.F.type_str_split mt_split (pv 4) (pa_cons pe_str pa_nil)) (C8.pe_c c_law_take hr (by decide) (by rfl) (pa_cons (pv 0) (pa_cons pe_int pa_nil))) (fun _ _ => rfl))))
          pss_nil)
        (pss_cons (ps_for PassesOwn.never rfl (pi_range1 rfl T.range (pa_cons (pe_op op_add (pe_callB call_len_seq (by rfl) T.len PySem.boot_len (pa_cons (pv 3) pa_nil)) pe_int) pa_nil)) (pg_name (i := 7) sc__law_named.nd rfl (Or.inl rfl))
          (pss_one (ps_if (PW.pt (pw_or (pt_cmpR op_in_seq (pv 6) (pv 3) (by with_unfolding_all rfl)) (pw_or1 (pt_cmpR op_eq (pv 6) pe_str (nomark _)))))
          (pss_one (ps_set (i := 6) sc__law_named.nd rfl (Or.inl rfl) (pe_op op_add_str (pe_op op_add_str (pe_slice sl_str (pv 6) po_none (po_some pe_int)) (pe_ix ix_str (pv 2) (pe_op op_fdiv (pv 7) pe_int) (fun _ _ => rfl))) (pe_ix ix_str (pv 2) (pe_op op_mod (pv 7) pe_int) (fun _ _ => rfl)))))
          pss_nil)))
        (pss_one (ps_expr (pe_bm PySem.F.plainAttrs_list PySem.F.slot_list_append PySem.F.type_list_append mt_append (pv 3) (pa_cons (pv 6) pa_nil))))))))
        (pss_one (ps_ret (pv 3)))))), ?_⟩
    refine ⟨by show 0 ≤ sizeLine; decide, fun l nl => ⟨by show 2 ≤ sizeLine; decide, fun tp nt => ⟨tp, _, rfl, SqT.of upd_same, rfl, _, _, rfl, _, _, rfl, rfl, ?_⟩⟩⟩
    have nla : a ≠ l := ne_of_none ha nl
    have s1 := same_upd (o := .lst []) nl
    have s2 := same_upd (o := .tup [.str "abcdefghijklmnopqrstuvwxyz", .ref l]) nt
    have hl0 := s2 _ _ (upd_same (H := H) (a := l) (o := .lst []))
    have ha0 := s2 _ _ (s1 _ _ ha)
    have s12 := s1.trans s2
    obtain ⟨H0, e0⟩ : ∃ H0, H0 = upd (upd H l (.lst [])) tp (.tup [.str "abcdefghijklmnopqrstuvwxyz", .ref l]) := ⟨_, rfl⟩
    rw [← e0] at hl0 ha0 s12 ⊢
    refine ⟨_, rfl, _, rfl, by omega, by omega, ?_⟩
    refine for_range (lo := 0) (fun i σ H2 => ∃ y5 y6 y7 ws b', σ = [some (.ref a), some (.int many), some (.str LET), some (.ref l), some (.str WORDS), y5, y6, y7] ∧ But a H H2 ∧ H2 l = some (.lst (nmV ws)) ∧ ws.length = i ∧ ws.Nodup ∧ (∀ w ∈ ws, NmOk w) ∧ H2 a = some (.lst b') ∧ BoxL (m + 10 * i) b')
      ⟨none, none, none, [], b, rfl, But.of s12, hl0, rfl, List.nodup_nil, (fun z hz => nomatch hz), ha0, hB⟩ ?_ ?_
    · rintro i σ H2 hi ⟨y5, y6, y7, ws, b2, rfl, bt2, hl2, hzl, hnd, hws, hb2, hB2⟩
      rw [Int.zero_add]
      have hi' : i < 20 := by omega
      refine ⟨rfl, by show 4 ≤ sizeLine; decide, fun l4 n4 => ?_⟩
      have na4 : a ≠ l4 := ne_of_none hb2 n4
      refine ⟨_, rfl, a, 4, m + 10 * i, b2, rfl, same_upd n4 _ _ hb2, hB2, by omega, by decide, by decide, fun r4 b3 r40 r41 hB3 => ?_⟩
      obtain ⟨nn, hn1, hnn, hat⟩ : ∃ nn : Nat, 1 ≤ nn ∧ nn ≤ 6 ∧ atI [V.int 1, .int 2, .int 3, .int 6] r4 = some (.int nn) := by
        have hc : r4 = 0 ∨ r4 = 1 ∨ r4 = 2 ∨ r4 = 3 := by omega
        rcases hc with rfl | rfl | rfl | rfl
        · exact ⟨1, by decide, by decide, atI_nat (j := 0) rfl⟩
        · exact ⟨2, by decide, by decide, atI_nat (j := 1) rfl⟩
        · exact ⟨3, by decide, by decide, atI_nat (j := 2) rfl⟩
        · exact ⟨6, by decide, by decide, atI_nat (j := 3) rfl⟩
      refine ⟨l4, _, _, _, rfl, rfl, SqL.of (by rw [upd_ne na4.symm, upd_same]), hat, nn, rfl, by omega, by omega, fun D nD => ?_⟩
      have hl3 : (upd (upd H2 l4 (.lst [.int 1, .int 2, .int 3, .int 6])) a (.lst b3)) l = some (.lst (nmV ws)) := by
        rw [upd_ne nla.symm]
        exact same_upd n4 _ _ hl2
      have hb3 : (upd (upd H2 l4 (.lst [.int 1, .int 2, .int 3, .int 6])) a (.lst b3)) a = some (.lst b3) := upd_same
      have bt3 : But a H (upd (upd H2 l4 (.lst [.int 1, .int 2, .int 3, .int 6])) a (.lst b3)) := But.upd (But.new bt2 n4)
      obtain ⟨Z, eZ⟩ : ∃ Z, Z = upd (upd H2 l4 (.lst [.int 1, .int 2, .int 3, .int 6])) a (.lst b3) := ⟨_, rfl⟩
      rw [← eZ] at nD hl3 hb3 bt3 ⊢
      have nDa : a ≠ D := ne_of_none hb3 nD
      refine lc_range (lo := 0) (n := (nn : Int).toNat) (fun j H' => But a Z H' ∧ ∃ b' cs, H' a = some (.lst b') ∧ BoxL (m + 10 * i + 1 + j) b' ∧ H' D = some (.lst (nmV (cs.map fun c => [c]))) ∧ cs.length = j ∧ ∀ c ∈ cs, isLet c = true)
        ⟨But.of (same_upd nD), b3, [], by rw [upd_ne nDa]; exact hb3, hB3, upd_same, rfl, (fun z hz => nomatch hz)⟩ ?_ ?_
      · rintro j H4 hj ⟨bt4, b4, cs, hb4, hB4, hD4, hyl, hys⟩
        refine ⟨rfl, yesT ?_⟩
        refine ⟨_, rfl, _, rfl, a, 26, _, b4, rfl, hb4, hB4, by omega, by decide, by decide, fun r b5 r0 r1 hB5 => ?_⟩
        obtain ⟨k, rfl⟩ := Int.eq_ofNat_of_zero_le r0
        have hk : k < 26 := by omega
        refine ⟨LET, _, 97 + k, rfl, rfl, by decide +kernel, atI_nat (let_nth hk), ?_⟩
        refine ⟨_, by rw [upd_ne nDa.symm]; exact hD4, by rw [nmV_len, List.length_map, hyl]; exact small1000 (by omega), ?_, b5, cs ++ [97 + k], by rw [upd_ne nDa, upd_same], hB5, by rw [upd_same]; unfold nmV; rw [List.map_append, List.map_append]; rfl, by rw [List.length_append, hyl]; rfl, fun c hc => ?_⟩
        · refine fun x o nx hx => ?_
          rw [upd_ne (ne_of_none hx nD), upd_ne nx]
          exact bt4 _ _ nx hx
        · rcases List.mem_append.mp hc with h | h
          · exact hys c h
          · rw [List.mem_singleton.mp h]
            unfold isLet
            rw [decide_eq_true (by omega : 97 ≤ 97 + k), decide_eq_true (by omega : 97 + k ≤ 122)]
            rfl
      rintro H4 ⟨bt4, b4, cs, hb4, hB4, hD4, hyl, hys⟩
      have hy6 : cs.length ≤ 6 := by omega
      have hB4 := hB4.mono (show m + 10 * i + 1 + (nn : Int).toNat ≤ m + 10 * i + 7 by omega)
      have hD4' : H4 D = some (.lst (((cs.map fun c => [c]).map SX.S).map V.str)) := by
        rw [hD4]
        unfold nmV
        rw [List.map_map, List.map_map, List.map_map]
        rfl
      refine ⟨"", D, (cs.map fun c => [c]).map SX.S, rfl, rfl, .inl (SqL.of hD4'), ?_, ?_⟩
      · rw [SX.lens, List.map_map, show (("" : String) : Str).length = 0 from rfl, Nat.mul_zero, Nat.add_zero]
        have : ∀ l : List Nat, ((l.map ((fun x : List Nat => x.length) ∘ fun c => [c])).sum) = l.length := fun l => by
          induction l with
          | nil => rfl
          | cons c l ih =>
            rw [List.map_cons, List.sum_cons, ih, List.length_cons]
            show 1 + _ = _
            omega
        rw [this]
        omega
      have ejoin : Txt.join "" ((cs.map fun c => [c]).map SX.S) = SX.S cs := by
        rw [s_emp, SX.join_S, join_nil, sing_flat]
      rw [ejoin]
      have wd0 : Wd cs := ⟨by omega, hy6, hys⟩
      have hl4 := bt4 _ _ nla.symm hl3
      have btA := bt3.trans bt4
      refine ⟨fun σ H5 => ∃ z b5, σ = [some (.ref a), some (.int many), some (.str LET), some (.ref l), some (.str WORDS), some (.int i), some (.str (SX.S z)), y7] ∧ Wd z ∧ But a H H5 ∧ H5 l = some (.lst (nmV ws)) ∧ H5 a = some (.lst b5) ∧ BoxL (m + 10 * i + 9) b5, ?_, ?_⟩
      · refine ⟨_, rfl, a, 12, m + 10 * i + 7, b4, rfl, hb4, hB4, by omega, by decide, by decide, fun r b5 r0 r1 hB5 => ⟨rfl, _, rfl, ?_⟩⟩
        have hl5 : (upd H4 a (.lst b5)) l = some (.lst (nmV ws)) := by
          rw [upd_ne nla.symm]
          exact hl4
        have bt5 : But a H (upd H4 a (.lst b5)) := But.upd btA
        by_cases e : r = 0
        · refine ifT (decide_eq_true (by rw [e])) ?_
          refine ⟨_, rfl, rfl, WORDS, " ", rfl, rfl, rfl, by decide +kernel, fun p np => ?_⟩
          have npa : a ≠ p := fun z => by
            rw [← z, upd_same] at np
            cases np
          refine ⟨_, rfl, a, 20, m + 10 * i + 8, b5, rfl, same_upd np _ _ upd_same, hB5, by omega, by decide, by decide, fun r2 b6 r20 r21 hB6 => ?_⟩
          obtain ⟨w20, wnm⟩ := words_wd
          obtain ⟨k, rfl⟩ : ∃ k : Nat, r2 = (k : Int) := ⟨r2.toNat, by omega⟩
          have hk : k < (Txt.split WORDS " ").length := by
            rw [w20]
            omega
          obtain ⟨wd, ewd, hwd⟩ := wnm _ (List.getElem_mem hk)
          refine ⟨p, _, _, .str (Txt.split WORDS " ")[k], rfl, rfl, SqL.of (by rw [upd_ne npa.symm, upd_same]), atI_nat (j := k) (by rw [List.getElem?_map, List.getElem?_eq_getElem hk]; rfl), ?_⟩
          rw [ewd]
          exact ⟨wd, b6, rfl, hwd, But.upd (But.new bt5 np), by rw [upd_ne nla.symm]; exact same_upd np _ _ hl5, upd_same, hB6⟩
        · exact ifF (decide_eq_false fun z => e (V.int.inj z)) ⟨cs, b5, rfl, wd0, bt5, hl5, upd_same, hB5.mono (by omega)⟩
      · rintro σ H5 ⟨z0, b5, rfl, hz0, bt5, hl5, hb5, hB5⟩
        have hzl2 : ((nmV ws).length : Int) ≤ 20 := by
          rw [nmV_len]
          omega
        refine ⟨_, rfl, l, _, rfl, .inl (SqL.of hl5), _, _, rfl, rfl, _, rfl, by omega, by omega, ?_⟩
        refine for_range (lo := 0) (fun j σ H6 => H6 = H5 ∧ ∃ z y, σ = [some (.ref a), some (.int many), some (.str LET), some (.ref l), some (.str WORDS), some (.int i), some (.str (SX.S z)), y] ∧ Wd z ∧ Clash ws j z) ⟨rfl, z0, y7, rfl, hz0, .inr (.inl rfl)⟩ ?_ ?_
        · rintro j σ H6 hj ⟨rfl, z, y, rfl, hz, hcl⟩
          rw [Int.zero_add]
          have hj2 : j < 26 := by omega
          have ec : cutS (SX.S z) none (some 4) = SX.S (z.take 4) := by
            unfold cutS
            have hl : (SX.S z).length = z.length := SX.S_len z
            rw [HT.sIx_none, show HT.sIx (SX.S z).length (SX.S z).length (some (4 : Int)) = min 4 (SX.S z).length from HT.sIx_nat _ _ 4, hl, Nat.sub_zero]
            show SX.S ((z.drop 0).take (min 4 z.length)) = _
            rw [List.drop_zero]
            congr 1
            by_cases h4 : 4 ≤ z.length
            · rw [Nat.min_eq_left h4]
            · rw [Nat.min_eq_right (by omega), List.take_length, List.take_of_length_le (by omega)]
          have lz : (SX.S z).length ≤ sizeLine := by
            rw [SX.S_len]
            exact Nat.le_trans hz.2.1 (by decide)
          have l4 : (z.take 4).length ≤ 4 := by
            rw [List.length_take]
            omega
          -- the name is bent
          have bent : (w' : Bool) → w' = true → (z ∈ ws ∨ z = OWNL) → ∃ z' y', ([some (.ref a), some (.int many), some (.str LET), some (.ref l), some (.str WORDS), some (.int i), some (.str (SX.S (bend z j))), some (.int (j : Nat))] : L2.St) = [some (.ref a), some (.int many), some (.str LET), some (.ref l), some (.str WORDS), some (.int i), some (.str (SX.S z')), y'] ∧ Wd z' ∧ Clash ws (j + 1) z' :=
            fun _ _ hb => ⟨bend z j, _, rfl, bend_wd hz hj2, clash_step hcl hb⟩
          have e97 : (SX.S (z.take 4) ++ ⟨#[97]⟩ ++ ⟨#[97 + j]⟩ : Str) = SX.S (bend z j) := by
            show SX.S (z.take 4) ++ SX.S [97] ++ SX.S [97 + j] = _
            rw [SX.S_cat, SX.S_cat]
            rfl
          have at1 : atI LET.cps.toList ((j : Int) / 26) = some 97 := by
            rw [show (j : Int) / 26 = ((0 : Nat) : Int) by omega]
            exact atI_nat (let_nth (by decide))
          have at2 : atI LET.cps.toList ((j : Int) % 26) = some (97 + j) := by
            rw [show (j : Int) % 26 = ((j : Nat) : Int) by omega]
            exact atI_nat (let_nth hj2)
          have s97 : (⟨#[97]⟩ : Str).length = 1 := rfl
          have s97j : (⟨#[97 + j]⟩ : Str).length = 1 := rfl
          have f1 : (cutS (SX.S z) none (some 4)).length + (⟨#[97]⟩ : Str).length ≤ sizeLine := by
            rw [ec, SX.S_len, s97]
            exact Nat.le_trans (show _ ≤ 7 by omega) (by decide)
          have f2 : (cutS (SX.S z) none (some 4) ++ ⟨#[97]⟩).length + (⟨#[97 + j]⟩ : Str).length ≤ sizeLine := by
            rw [strLen_append, ec, SX.S_len, s97, s97j]
            exact Nat.le_trans (show _ ≤ 7 by omega) (by decide)
          refine ⟨_, rfl, _, rfl, l, _, rfl, .inl (SqL.of hl5), rfl, flat_names ws, _, rfl, ?_⟩
          show if inV (.str (SX.S z)) (nmV ws) = true then _ else _
          rw [in_names]
          by_cases hin : z ∈ ws
          · refine ifT (decide_eq_true hin) (iteT ?_)
            refine ⟨_, rfl, 4, rfl, SX.S z, rfl, lz, ?_⟩
            refine ⟨_, rfl, _, rfl, _, _, rfl, rfl, ⟨by show (0 : Int) < 26; decide, by decide⟩, LET, _, 97, rfl, rfl, by decide +kernel, at1, _, _, rfl, rfl, f1, ?_⟩
            refine ⟨_, rfl, _, rfl, _, _, rfl, rfl, (by show (0 : Int) < 26; decide), LET, _, 97 + j, rfl, rfl, by decide +kernel, at2, _, _, rfl, rfl, f2, ?_⟩
            rw [ec, e97]
            exact ⟨rfl, bent true rfl (.inl hin)⟩
          · refine ifF (decide_eq_false hin) ?_
            refine ⟨_, rfl, rfl, _, rfl, ?_⟩
            by_cases ho : z = OWNL
            · refine ifT (decide_eq_true (by rw [ho, s_own])) ?_
              refine ⟨_, rfl, 4, rfl, SX.S z, rfl, lz, ?_⟩
              refine ⟨_, rfl, _, rfl, _, _, rfl, rfl, ⟨by show (0 : Int) < 26; decide, by decide⟩, LET, _, 97, rfl, rfl, by decide +kernel, at1, _, _, rfl, rfl, f1, ?_⟩
              refine ⟨_, rfl, _, rfl, _, _, rfl, rfl, (by show (0 : Int) < 26; decide), LET, _, 97 + j, rfl, rfl, by decide +kernel, at2, _, _, rfl, rfl, f2, ?_⟩
              rw [ec, e97]
              exact ⟨rfl, bent true rfl (.inr ho)⟩
            · refine ifF (decide_eq_false fun y => ho (by rw [s_own] at y; exact SX.S_inj (V.str.inj y))) ⟨rfl, z, _, rfl, hz, .inl ⟨hin, ho⟩⟩
        · rintro σ H6 ⟨rfl, z, y, rfl, hz, hcl⟩
          have hcl : Clash ws (ws.length + 2) z := by
            have e : ((nmV ws).length : Int) + 2 = ((ws.length + 2 : Nat) : Int) := by
              rw [nmV_len]
              omega
            have hcl2 : Clash ws (((nmV ws).length : Int) + 2).toNat z := hcl
            rw [e, Int.toNat_natCast] at hcl2
            exact hcl2
          obtain ⟨hfree, hown⟩ := clash_end hcl
          refine ⟨_, rfl, .inl ⟨rfl, _, SqL.of hl5⟩, _, rfl, l, _, .str (SX.S z), rfl, rfl, hl5, by rw [nmV_len]; exact small1000 (by omega), ?_⟩
          refine ⟨_, _, _, ws ++ [z], b5, rfl, ?_, by rw [upd_same]; unfold nmV; rw [List.map_append]; rfl, by rw [List.length_append, hzl]; rfl, ?_, fun x hx => ?_, by rw [upd_ne nla]; exact hb5, hB5.mono (by omega)⟩
          · refine fun x o nx hx => ?_
            rw [upd_ne (ne_of_none hx nl)]
            exact bt5 _ _ nx hx
          · rw [List.nodup_append]
            exact ⟨hnd, by simp, fun x hx y hy => by
              rw [List.mem_singleton.mp hy]
              exact fun e => hfree (e ▸ hx)⟩
          · rcases List.mem_append.mp hx with h | h
            · exact hws x h
            · rw [List.mem_singleton.mp h]
              exact ⟨hz, hown⟩
    · rintro σ H2 ⟨y5, y6, y7, ws, b2, rfl, bt2, hl2, hzl, hnd, hws, hb2, hB2⟩
      exact ⟨_, rfl, q _ l ws b2 bt2 nl hl2 hzl hnd hws hb2 hB2⟩
end
/-! ### data without lists stand wherever tuples stand -/
def TupO (o : HO) : Prop := (∃ xs, o = .tup xs) ∨ ∃ o' v, o = .frz o' v
def KeepT (H H' : Hp) : Prop := ∀ c o, TupO o → H c = some o → H' c = some o
theorem lst_no {xs : List V} : ¬ TupO (.lst xs) := by
  rintro (⟨ys, z⟩ | ⟨o', v, z⟩) <;> cases z
theorem dK_no {xs : List (Key × V)} : ¬ TupO (.dK xs) := by
  rintro (⟨ys, z⟩ | ⟨o', v, z⟩) <;> cases z
theorem KeepT.refl (H : Hp) : KeepT H H := fun _ _ _ h => h
theorem KeepT.trans {H H1 H2 : Hp} (x : KeepT H H1) (y : KeepT H1 H2) : KeepT H H2 := fun c o t h => y c o t (x c o t h)
theorem KeepT.of {H H' : Hp} (s : Same H H') : KeepT H H' := fun c o _ h => s c o h
theorem KeepT.but {H H' : Hp} {a : Addr} {xs : List V} (ha : H a = some (.lst xs)) (b : But a H H') : KeepT H H' := fun c o t h => b c o (fun z => by
  rw [z, ha] at h
  cases h
  exact lst_no t) h
theorem KeepT.at_ {H : Hp} {a : Addr} {o0 o : HO} (ha : H a = some o0) (n : ¬ TupO o0) : KeepT H (upd H a o) := fun c x t h => by
  rw [upd_ne (fun z => by
    rw [z, ha] at h
    cases h
    exact n t)]
  exact h
theorem KeepT.new {H : Hp} {p : Addr} {o : HO} (n : H p = none) : KeepT H (upd H p o) := KeepT.of (same_upd n)
mutual
def imm : PyData → Bool
  | .tuple ds => immAll ds
  | .list _ => false
  | .dict _ => false
  | .none => true
  | .bool _ => true
  | .int _ => true
  | .str _ => true
def immAll : List PyData → Bool
  | [] => true
  | d :: ds => imm d && immAll ds
end
section
variable {K : PySem.W.Frag} {H H' : Hp}
theorem KeepT.seqT {a : Addr} {xs : List V} (k : KeepT H H') (h : SqT K H a xs) : SqT K H' a xs := by
  rcases h with (h | ⟨o, h⟩) | h
  · exact .inl (.inl (k _ _ (.inl ⟨_, rfl⟩) h))
  · exact .inl (.inr ⟨o, k _ _ (.inr ⟨_, _, rfl⟩) h⟩)
  · exact .inr h
mutual
theorem dp_imm (k : KeepT H H') : ∀ {v : V} {d : PyData}, Dp K H v d → imm d = true → Dp K H' v d
  | _, _, .non, _ => .non
  | _, _, .bl b, _ => .bl b
  | _, _, .int i, _ => .int i
  | _, _, .str x, _ => .str x
  | _, _, .lst h a, i => nomatch (show (false : Bool) = true from i)
  | _, _, .tup h a, i => .tup (k.seqT h) (dpAll_imm k a i)
theorem dpAll_imm (k : KeepT H H') : ∀ {vs : List V} {ds : List PyData}, DpAll K H vs ds → immAll ds = true → DpAll K H' vs ds
  | _, _, .nil, _ => .nil
  | _, _, .cons h a, i => .cons (dp_imm k h (Bool.and_eq_true_iff.mp i).1) (dpAll_imm k a (Bool.and_eq_true_iff.mp i).2)
end
end
theorem immAll_app : ∀ {ds es : List PyData}, immAll ds = true → immAll es = true → immAll (ds ++ es) = true
  | [], _, _, h => h
  | d :: ds, es, h, k => by
    obtain ⟨h1, h2⟩ := Bool.and_eq_true_iff.mp h
    show (imm d && immAll (ds ++ es)) = true
    rw [h1, immAll_app h2 k]
    rfl
theorem immAll_map {α : Type} {f : α → PyData} (h : ∀ a, imm (f a) = true) : ∀ l : List α, immAll (l.map f) = true
  | [] => rfl
  | a :: l => by
    show (imm (f a) && immAll (l.map f)) = true
    rw [h a, immAll_map h l]
    rfl
theorem dpAll_appI {K : PySem.W.Frag} {H : Hp} : ∀ {vs ws : List V} {ds es : List PyData}, DpAll K H vs ds → DpAll K H ws es → DpAll K H (vs ++ ws) (ds ++ es)
  | _, _, _, _, .nil, h => h
  | _, _, _, _, .cons h a, k => .cons h (dpAll_appI a k)
/-! ### slices by whole numbers -/
theorem cutV_to (xs : List V) (k : Nat) : cutV xs none (some (k : Int)) = xs.take k := by
  unfold cutV
  rw [HT.sIx_none, show HT.sIx xs.length xs.length (some (k : Int)) = min k xs.length from HT.sIx_nat _ _ k, List.drop_zero, Nat.sub_zero]
  by_cases h : k ≤ xs.length
  · rw [Nat.min_eq_left h]
  · rw [Nat.min_eq_right (by omega), List.take_length, List.take_of_length_le (by omega)]
theorem cutV_from (xs : List V) (i : Nat) : cutV xs (some (i : Int)) none = xs.drop i := by
  unfold cutV
  rw [HT.sIx_none, show HT.sIx xs.length 0 (some (i : Int)) = min i xs.length from HT.sIx_nat _ _ i]
  by_cases h : i ≤ xs.length
  · rw [Nat.min_eq_left h, List.take_of_length_le (by rw [List.length_drop]; exact Nat.le_refl _)]
  · rw [List.drop_eq_nil_of_le (by omega : xs.length ≤ min i xs.length), List.take_nil, List.drop_eq_nil_of_le (by omega)]
theorem cutV_nat (xs : List V) (i k : Nat) : cutV xs (some (i : Int)) (some (k : Int)) = (xs.drop i).take (k - i) := by
  unfold cutV
  rw [show HT.sIx xs.length 0 (some (i : Int)) = min i xs.length from HT.sIx_nat _ _ i, show HT.sIx xs.length xs.length (some (k : Int)) = min k xs.length from HT.sIx_nat _ _ k]
  by_cases hi : i ≤ xs.length
  · rw [Nat.min_eq_left hi]
    by_cases hk : k ≤ xs.length
    · rw [Nat.min_eq_left hk]
    · rw [Nat.min_eq_right (by omega), List.take_of_length_le (by rw [List.length_drop]; omega), List.take_of_length_le (by rw [List.length_drop]; omega)]
  · rw [List.drop_eq_nil_of_le (by omega : xs.length ≤ min i xs.length), List.drop_eq_nil_of_le (by omega : xs.length ≤ i), List.take_nil, List.take_nil]
theorem perm_map {α : Type} {f : α → V} : ∀ {ys xs : List V}, ys.Perm xs → ∀ us : List α, xs = us.map f → ∃ ws : List α, ys = ws.map f ∧ ws.Perm us := by
  intro ys xs h
  induction h with
  | nil =>
    intro us e
    exact ⟨[], rfl, by rw [List.map_eq_nil_iff.mp e.symm]⟩
  | cons x _ ih =>
    intro us e
    cases us with
    | nil => cases e
    | cons u us =>
      injection e with e1 e2
      obtain ⟨ws, h1, h2⟩ := ih us e2
      exact ⟨u :: ws, by rw [h1, e1]; rfl, h2.cons u⟩
  | swap x y l =>
    intro us e
    cases us with
    | nil => cases e
    | cons u us =>
      cases us with
      | nil =>
        injection e with _ e2
        cases e2
      | cons u2 us =>
        injection e with e1 e2
        injection e2 with e2 e3
        exact ⟨u2 :: u :: us, by rw [e1, e2, e3]; rfl, .swap u u2 us⟩
  | trans _ _ ih1 ih2 =>
    intro us e
    obtain ⟨ws, h1, h2⟩ := ih2 us e
    obtain ⟨vs, h3, h4⟩ := ih1 ws h1
    exact ⟨vs, h3, h4.trans h2⟩
/-! ### sorts drawn -/
abbrev s__law_sort_rows : Stmt := top 62
abbrev N__law_sort_rows : List Str := ["_law_box", "_law_many", "_law_names", "_law_rows", "_law_k", "_law_some", "_law_cut"]
abbrev P__law_sort_rows : List Str := ["_law_box", "_law_many"]
theorem sc__law_sort_rows : FnScope N__law_sort_rows P__law_sort_rows (defScope s__law_sort_rows) := ⟨rfl, rfl, rfl, by decide +kernel, rfl, by decide +kernel, by decide +kernel⟩
def strD (w : List Nat) : PyData := .str (SX.S w)
structure SRow where
  nm : List Nat
  dn : List (List Nat)
  up : List (List Nat)
def SRow.d (r : SRow) : PyData := .tuple [strD r.nm, .tuple (r.dn.map strD), .tuple (r.up.map strD)]
structure SOk (r : SRow) : Prop where
  nm : NmOk r.nm
  all : ∀ w ∈ r.dn ++ r.up, NmOk w
  nd : (r.dn ++ r.up).Nodup
  d2 : r.dn.length ≤ 2
  u2 : r.up.length ≤ 2
structure SortsOk (rs : List SRow) : Prop where
  ok : ∀ r ∈ rs, SOk r
  nd : (rs.map SRow.nm).Nodup
  le : rs.length ≤ 4
theorem strD_imm (w : List Nat) : imm (strD w) = true := rfl
theorem SRow.imm (r : SRow) : Thr.imm r.d = true := by
  show (true && (immAll (r.dn.map strD) && (immAll (r.up.map strD) && true))) = true
  rw [immAll_map strD_imm, immAll_map strD_imm]
  rfl
theorem nm_dp {K : PySem.W.Frag} {H : Hp} : ∀ ws : List (List Nat), DpAll K H (nmV ws) (ws.map strD)
  | [] => .nil
  | w :: ws => .cons (.str _) (nm_dp ws)
theorem nmV_take (ws : List (List Nat)) (k : Nat) : (nmV ws).take k = nmV (ws.take k) := List.map_take.symm
theorem nmV_drop (ws : List (List Nat)) (k : Nat) : (nmV ws).drop k = nmV (ws.drop k) := List.map_drop.symm
theorem nmV_at {ws : List (List Nat)} {i : Nat} {w : List Nat} (h : ws[i]? = some w) : (nmV ws)[i]? = some (.str (SX.S w)) := by
  unfold nmV
  rw [List.getElem?_map, h]
  rfl
def spSortRows (K : PySem.W.Frag) : Sp := fun vs H Q _ => ∃ (a : Addr) (many m : Nat) (b : List V), vs = [.ref a, .int many] ∧ 1 ≤ many ∧ many ≤ 4 ∧ H a = some (.lst b) ∧ BoxL m b ∧ m + 300 < 900000 ∧
  ∀ (H' : Hp) (l : Addr) (vs' : List V) (rs : List SRow) (b' : List V), But a H H' → H l = none → H' l = some (.lst vs') → DpAll K H' vs' (rs.map SRow.d) → rs.length = many → SortsOk rs → H' a = some (.lst b') → BoxL (m + 300) b' → Q (.ref l) H'
structure So (mg : Str → Option Value) : Prop where
  range : mg "range" = none
  tuple : mg "tuple" = none
section
variable {P : Program} {w : World} {K : PySem.W.Frag} {mg : Str → Option Value} {base : Heap}
theorem ok_sort_rows (T : So mg) (c_law_take : C8.Cal P w K mg base 1 "_law_take" spTake []) (c_law_named : C8.Cal P w K mg base 2 "_law_named" spNamed []) (c_law_strewn : C8.Cal P w K mg base 2 "_law_strewn" (spStrewn K) [])
    (D : Dd K mg "_law_sort_rows" s__law_sort_rows P__law_sort_rows) : C8.Cal P w K mg base 3 "_law_sort_rows" (spSortRows K) [] := by
  refine D.cal sc__law_sort_rows (fun vs H Q E h => ?_) (fun f cdv A outer s H vs Q E hr h => ?_)
  · obtain ⟨a, many, m, b, rfl, _⟩ := h
    rfl
  · obtain ⟨a, many, m, b, rfl, hm1, hm4, ha, hB, hm, q⟩ := h
    refine ⟨_, (pss_cons (ps_par rfl sc__law_sort_rows.nd (i := 2) (j := 3) rfl rfl (by decide) rfl rfl (pa_cons (C8.pe_c c_law_named hr (by decide) (by rfl) (pa_cons (pv 0) (pa_cons (pe_op op_add (pv 1) pe_int) pa_nil))) (pa_cons (pe_lst pa_nil) pa_nil)) (by rfl))
        (pss_cons (ps_for PassesOwn.never rfl (pi_range1 rfl T.range (pa_cons (pv 1) pa_nil)) (pg_name (i := 4) sc__law_sort_rows.nd rfl (Or.inl rfl))
          (C8.pss_cut (ps_set (i := 5) sc__law_sort_rows.nd rfl (Or.inl rfl) (pe_ifExp (pt_cmpR op_eq (C8.pe_c c_law_take hr (by decide) (by rfl) (pa_cons (pv 0) (pa_cons pe_int pa_nil))) pe_int (nomark _)) (pe_slice sl_list (C8.pe_c c_law_strewn hr (by decide) (by rfl) (pa_cons (pv 0) (pa_cons (pe_slice sl_list (pv 2) (po_some (pv 1)) po_none) pa_nil))) po_none (po_some pe_int)) (pe_slice sl_list (pe_slice sl_list (pv 2) (po_some (pe_op op_add (pv 1) (pe_op op_mul pe_int (pv 4)))) po_none) po_none (po_some pe_int))))
        (pss_cons (ps_set (i := 6) sc__law_sort_rows.nd rfl (Or.inl rfl) (C8.pe_c c_law_take hr (by decide) (by rfl) (pa_cons (pv 0) (pa_cons pe_int pa_nil))))
        (pss_one (ps_expr (pe_bm PySem.F.plainAttrs_list PySem.F.slot_list_append PySem.F.type_list_append mt_append (pv 3) (pa_cons (pe_tup (pa_cons (pe_ix ix_list (pv 2) (pv 4) (fun _ _ => rfl)) (pa_cons (pe_callTy call_tuple_of (by rfl) T.tuple (by decide +kernel) (pa_cons (pe_slice sl_list (pv 5) po_none (po_some (pv 6))) pa_nil)) (pa_cons (pe_callTy call_tuple_of (by rfl) T.tuple (by decide +kernel) (pa_cons (pe_slice sl_list (pv 5) (po_some (pv 6)) (po_some (pe_op op_add (pe_op op_add (pv 6) pe_int) (C8.pe_c c_law_take hr (by decide) (by rfl) (pa_cons (pv 0) (pa_cons pe_int pa_nil)))))) pa_nil)) pa_nil)))) pa_nil)))))))
        (pss_one (ps_ret (pv 3))))), ?_⟩
    refine ⟨_, rfl, _, rfl, _, _, rfl, rfl, a, many + 8, m, b, rfl, by omega, ha, hB, by omega, fun H1 ln ws b1 bt1 nln hln hwl hnd hws hb1 hB1 => ?_⟩
    refine ⟨by show 0 ≤ sizeLine; decide, fun l nl => ⟨_, _, rfl, ?_⟩⟩
    have g1 := same_upd (o := .lst []) nl
    have nla : l ≠ a := fun z => by
      rw [z, hb1] at nl
      cases nl
    have nlna : ln ≠ a := fun z => by
      rw [z, ha] at nln
      cases nln
    have nll : l ≠ ln := fun z => by
      rw [z, hln] at nl
      cases nl
    have nlH : H l = none := But.free bt1 hb1 nl
    refine ⟨_, rfl, _, rfl, by omega, by omega, ?_⟩
    refine for_range (lo := 0) (fun i σ X => ∃ y4 y5 y6 vs rs b', σ = [some (.ref a), some (.int many), some (.ref ln), some (.ref l), y4, y5, y6] ∧ But a H X ∧ X ln = some (.lst (nmV ws)) ∧ X l = some (.lst vs) ∧ DpAll K X vs (rs.map SRow.d) ∧ rs.length = i ∧ (∀ r ∈ rs, SOk r) ∧ rs.map SRow.nm = ws.take i ∧ X a = some (.lst b') ∧ BoxL (m + 10 * (many + 8) + 20 * i) b')
      ⟨none, none, none, [], [], b1, rfl, bt1.trans (But.of g1), g1 _ _ hln, upd_same, .nil, rfl, (fun r h => nomatch h), rfl, g1 _ _ hb1, hB1⟩ ?_ ?_
    · rintro i σ X hi ⟨y4, y5, y6, vs, rs, b2, rfl, btX, hlnX, hlX, hdX, hrl, hrs, hrn, hbX, hBX⟩
      rw [Int.zero_add]
      have hi4 : i < many := by omega
      have kX : ∀ {Y : Hp}, But a X Y → KeepT X Y := fun {Y} z => KeepT.but hbX z
      refine ⟨fun σ Y => ∃ ls us b3, σ = [some (.ref a), some (.int many), some (.ref ln), some (.ref l), some (.int (i : Nat)), some (.ref ls), y6] ∧ But a X Y ∧ Y ls = some (.lst (nmV us)) ∧ X ls = none ∧ us.Nodup ∧ (∀ w ∈ us, w ∈ ws) ∧ us.length ≤ 3 ∧ Y a = some (.lst b3) ∧ BoxL (m + 10 * (many + 8) + 20 * i + 15) b3, ?_, ?_⟩
      · refine ⟨_, rfl, a, 2, _, b2, rfl, hbX, hBX, by omega, by decide, by decide, fun r b3 r0 r1 hB3 => ⟨rfl, _, rfl, ?_⟩⟩
        have bX1 : But a X (upd X a (.lst b3)) := But.upd (But.refl a X)
        have ha1 : (upd X a (.lst b3)) a = some (.lst b3) := upd_same
        have hln1 := bX1 _ _ nlna hlnX
        obtain ⟨X1, e1⟩ : ∃ X1, X1 = upd X a (.lst b3) := ⟨_, rfl⟩
        rw [← e1] at bX1 ha1 hln1 ⊢
        by_cases h0 : r = 0
        · refine ifT (decide_eq_true (by rw [h0])) ?_
          refine ⟨_, rfl, _, rfl, _, rfl, _, rfl, ln, _, rfl, SqL.of hln1, fun c nc => ?_⟩
          rw [cutV_from, nmV_drop] 
          have g2 := same_upd (o := .lst (nmV (ws.drop many))) nc
          have nca : c ≠ a := fun z => by
            rw [z, ha1] at nc
            cases nc
          have ld : (nmV (ws.drop many)).length = 8 := by
            rw [nmV_len, List.length_drop]
            omega
          refine ⟨a, c, _, b3, _, rfl, g2 _ _ ha1, hB3, by omega, SqL.of upd_same, nca, by omega, fun Y ls0 ys b4 bt4 nls hls hperm hb4 hB4 => ?_⟩
          obtain ⟨us, eus, hp⟩ := perm_map hperm (ws.drop many) rfl
          have eus : ys = nmV us := eus
          subst eus
          refine ⟨3, rfl, ls0, _, rfl, SqL.of hls, fun c2 nc2 => ?_⟩
          have bXY : But a X Y := bX1.trans ((But.of g2).trans bt4)
          have hnd2 : us.Nodup := hp.nodup_iff.mpr (hnd.sublist (List.drop_sublist _ _))
          refine ⟨c2, us.take 3, b4, rfl, bXY.trans (But.of (same_upd nc2)), ?_, ?_, hnd2.sublist (List.take_sublist _ _), fun w hw => List.mem_of_mem_drop (hp.mem_iff.mp (List.mem_of_mem_take hw)), by rw [List.length_take]; omega, same_upd nc2 _ _ hb4, hB4.mono (by rw [ld]; omega)⟩
          · rw [upd_same, show (3 : Int) = ((3 : Nat) : Int) from rfl, cutV_to, nmV_take]
          · exact But.free bXY hb4 nc2
        · refine ifF (decide_eq_false fun y => h0 (V.int.inj y)) ?_
          refine ⟨_, rfl, _, rfl, _, rfl, _, _, rfl, rfl, .inl ⟨by decide, by decide⟩, _, _, rfl, rfl, _, rfl, ln, _, rfl, SqL.of hln1, fun c nc => ?_⟩
          have ec : cutV (nmV ws) (some ((many : Int) + 2 * (i : Int))) none = nmV (ws.drop (many + 2 * i)) := by
            rw [show (many : Int) + 2 * (i : Int) = ((many + 2 * i : Nat) : Int) by omega, cutV_from, nmV_drop]
          have g2 := same_upd (o := .lst (cutV (nmV ws) (some ((many : Int) + 2 * (i : Int))) none)) nc
          refine ⟨3, rfl, c, _, rfl, SqL.of upd_same, fun c2 nc2 => ?_⟩
          have bXY := bX1.trans (But.of (a := a) g2)
          refine ⟨c2, (ws.drop (many + 2 * i)).take 3, b3, rfl, bXY.trans (But.of (same_upd nc2)), ?_, ?_, (hnd.sublist (List.drop_sublist _ _)).sublist (List.take_sublist _ _), fun w hw => List.mem_of_mem_drop (List.mem_of_mem_take hw), by rw [List.length_take]; omega, same_upd nc2 _ _ (g2 _ _ ha1), hB3.mono (by omega)⟩
          · rw [upd_same, ec, show (3 : Int) = ((3 : Nat) : Int) from rfl, cutV_to, nmV_take]
          · exact But.free bXY (g2 _ _ ha1) nc2
      rintro σ Y ⟨ls, us, b3, rfl, bXY, hls, nls, hnu, hus, hul, hbY, hBY⟩
      have nlsa : ls ≠ a := fun z => by
        rw [z, hbX] at nls
        cases nls
      refine ⟨_, rfl, a, 3, _, b3, rfl, hbY, hBY, by omega, by decide, by decide, fun r5 b5 h5 h5' hB5 => ?_⟩
      obtain ⟨cut, rfl⟩ := Int.eq_ofNat_of_zero_le h5
      have bY1 : But a Y (upd Y a (.lst b5)) := But.upd (But.refl a Y)
      have ha1 : (upd Y a (.lst b5)) a = some (.lst b5) := upd_same
      obtain ⟨Y1, e1⟩ : ∃ Y1, Y1 = upd Y a (.lst b5) := ⟨_, rfl⟩
      rw [← e1] at bY1 ha1 ⊢
      have bXY1 := bXY.trans bY1
      have hlY1 := bXY1 _ _ nla hlX
      have hln1 := bXY1 _ _ nlna hlnX
      have hls1 := bY1 _ _ nlsa hls
      obtain ⟨w, hw⟩ : ∃ w, ws[i]? = some w := ⟨ws[i]'(by omega), List.getElem?_eq_getElem _⟩
      refine ⟨_, rfl, .inl ⟨rfl, _, SqL.of hlY1⟩, ?_⟩
      refine ⟨_, rfl, _, rfl, ln, _, _, _, rfl, rfl, SqL.of hln1, atI_nat (nmV_at hw), ?_⟩
      refine ⟨_, rfl, _, rfl, _, rfl, ls, _, rfl, SqL.of hls1, fun c1 nc1 => ⟨c1, _, rfl, .inl ⟨SqL.of upd_same, fun t1 nt1 => ?_⟩⟩⟩
      have e2 : cutV (nmV us) none (some (cut : Int)) = nmV (us.take cut) := by rw [cutV_to, nmV_take]
      have k1 := same_upd (o := .lst (cutV (nmV us) none (some (cut : Int)))) nc1
      have k2 := same_upd (o := .tup (cutV (nmV us) none (some (cut : Int)))) nt1
      have k12 := k1.trans k2
      have ht1 := upd_same (H := upd Y1 c1 (.lst (cutV (nmV us) none (some (cut : Int))))) (a := t1) (o := .tup (cutV (nmV us) none (some (cut : Int))))
      obtain ⟨Y2, eY2⟩ : ∃ Y2, Y2 = upd (upd Y1 c1 (.lst (cutV (nmV us) none (some (cut : Int))))) t1 (.tup (cutV (nmV us) none (some (cut : Int)))) := ⟨_, rfl⟩
      rw [← eY2] at k12 ht1 ⊢
      rw [e2] at ht1
      refine ⟨_, rfl, _, rfl, _, rfl, _, rfl, _, _, rfl, rfl, _, rfl, a, 2, _, b5, rfl, k12 _ _ ha1, hB5, by omega, by decide, by decide, fun r6 b6 h6 h6' hB6 => ?_⟩
      obtain ⟨x6, rfl⟩ := Int.eq_ofNat_of_zero_le h6
      have bY3 : But a Y2 (upd Y2 a (.lst b6)) := But.upd (But.refl a Y2)
      have ha3 : (upd Y2 a (.lst b6)) a = some (.lst b6) := upd_same
      have nt1a : t1 ≠ a := fun z => by
        have := k12 _ _ ha1
        rw [← z, ht1] at this
        cases this
      have ht3 := bY3 _ _ nt1a ht1
      obtain ⟨Y3, eY3⟩ : ∃ Y3, Y3 = upd Y2 a (.lst b6) := ⟨_, rfl⟩
      rw [← eY3] at bY3 ha3 ht3 ⊢
      have bY13 : But a Y1 Y3 := (But.of k12).trans bY3
      have hls3 := bY13 _ _ nlsa hls1
      refine ⟨_, _, rfl, rfl, _, rfl, ls, _, rfl, SqL.of hls3, fun c2 nc2 => ⟨c2, _, rfl, .inl ⟨SqL.of upd_same, fun t2 nt2 => ?_⟩⟩⟩
      have e3 : cutV (nmV us) (some (cut : Int)) (some ((cut : Int) + 1 + (x6 : Int))) = nmV ((us.drop cut).take (1 + x6)) := by
        rw [show (cut : Int) + 1 + (x6 : Int) = ((cut + 1 + x6 : Nat) : Int) by omega, cutV_nat, show cut + 1 + x6 - cut = 1 + x6 by omega, nmV_drop, nmV_take]
      have k3 := same_upd (o := .lst (cutV (nmV us) (some (cut : Int)) (some ((cut : Int) + 1 + (x6 : Int))))) nc2
      have k4 := same_upd (o := .tup (cutV (nmV us) (some (cut : Int)) (some ((cut : Int) + 1 + (x6 : Int))))) nt2
      refine ⟨by show 3 ≤ sizeLine; decide, fun t3 nt3 => ?_⟩
      have k5 := same_upd (o := .tup [.str (SX.S w), .ref t1, .ref t2]) nt3
      have k35 := (k3.trans k4).trans k5
      have ht2 := k5 _ _ (upd_same (H := upd Y3 c2 (.lst (cutV (nmV us) (some (cut : Int)) (some ((cut : Int) + 1 + (x6 : Int)))))) (a := t2) (o := .tup (cutV (nmV us) (some (cut : Int)) (some ((cut : Int) + 1 + (x6 : Int))))))
      have ht3' := upd_same (H := upd (upd Y3 c2 (.lst (cutV (nmV us) (some (cut : Int)) (some ((cut : Int) + 1 + (x6 : Int)))))) t2 (.tup (cutV (nmV us) (some (cut : Int)) (some ((cut : Int) + 1 + (x6 : Int)))))) (a := t3) (o := .tup [.str (SX.S w), .ref t1, .ref t2])
      obtain ⟨Y5, eY5⟩ : ∃ Y5, Y5 = upd (upd (upd Y3 c2 (.lst (cutV (nmV us) (some (cut : Int)) (some ((cut : Int) + 1 + (x6 : Int)))))) t2 (.tup (cutV (nmV us) (some (cut : Int)) (some ((cut : Int) + 1 + (x6 : Int)))))) t3 (.tup [.str (SX.S w), .ref t1, .ref t2]) := ⟨_, rfl⟩
      rw [← eY5] at k35 ht2 ht3' ⊢
      rw [e3] at ht2
      have bX5 : But a X Y5 := bXY1.trans (bY13.trans (But.of k35))
      have hl5 := bX5 _ _ nla hlX
      have lvs := dpAll_len hdX
      rw [List.length_map, hrl] at lvs
      refine ⟨l, vs, .ref t3, rfl, rfl, hl5, by rw [lvs]; exact small1000 (by omega), ?_⟩
      have kl : KeepT Y5 (upd Y5 l (.lst (vs ++ [.ref t3]))) := KeepT.at_ hl5 lst_no
      have dRow : Dp K Y5 (.ref t3) (SRow.d ⟨w, us.take cut, (us.drop cut).take (1 + x6)⟩) :=
        .tup (SqT.of ht3') (.cons (.str _) (.cons (.tup (SqT.of (k35 _ _ ht3)) (nm_dp _)) (.cons (.tup (SqT.of ht2) (nm_dp _)) .nil)))
      have okR : SOk ⟨w, us.take cut, (us.drop cut).take (1 + x6)⟩ := by
        have hsub : (us.take cut ++ (us.drop cut).take (1 + x6)).Sublist us := by
          have h1 : (us.take cut ++ (us.drop cut).take (1 + x6)).Sublist (us.take cut ++ us.drop cut) := List.Sublist.append (List.Sublist.refl _) (List.take_sublist _ _)
          rw [List.take_append_drop] at h1
          exact h1
        exact ⟨hws w (List.mem_of_getElem? hw), fun x hx => hws x (hus x (hsub.subset hx)), hnu.sublist hsub, by show (us.take cut).length ≤ 2; rw [List.length_take]; omega, by show ((us.drop cut).take (1 + x6)).length ≤ 2; rw [List.length_take]; omega⟩
      refine ⟨_, _, _, vs ++ [.ref t3], rs ++ [⟨w, us.take cut, (us.drop cut).take (1 + x6)⟩], b6, rfl, fun c o nc hc => ?_, ?_, upd_same, ?_, by rw [List.length_append, hrl]; rfl, fun r hr => ?_, ?_, ?_, hB6.mono (by omega)⟩
      · rw [upd_ne (ne_of_none hc nlH)]
        exact (btX.trans bX5) c o nc hc
      · rw [upd_ne nll.symm]
        exact bX5 _ _ nlna hlnX
      · rw [List.map_append]
        exact dpAll_appI (dpAll_imm ((kX bX5).trans kl) hdX (immAll_map SRow.imm rs)) (.cons (dp_imm kl dRow (SRow.imm _)) .nil)
      · rcases List.mem_append.mp hr with h | h
        · exact hrs r h
        · rw [List.mem_singleton.mp h]
          exact okR
      · rw [List.map_append, hrn, List.take_add_one, hw]
        rfl
      · rw [upd_ne nla.symm]
        exact k35 _ _ ha3
    · rintro σ X ⟨y4, y5, y6, vs, rs, b2, rfl, btX, hlnX, hlX, hdX, hrl, hrs, hrn, hbX, hBX⟩
      refine ⟨_, rfl, q X l vs rs b2 btX nlH hlX hdX (by omega) ⟨hrs, ?_, by omega⟩ hbX (hBX.mono (by omega))⟩
      rw [hrn]
      exact List.Nodup.sublist (List.take_sublist _ _) hnd
end
/-! ### slices and sums of tuples -/
def rSlAny (K : PySem.W.Frag) : V → Option Int → Option Int → Hp → VK → Prop := fun x lo hi H Q => ∃ (a : Addr) (xs : List V), x = .ref a ∧ SqT K H a xs ∧ ∀ (H' : Hp) (p : Addr), Same H H' → SqT K H' p (cutV xs lo hi) → Q (.ref p) H'
theorem cut_whole {xs : List V} {lo hi : Option Int} (h : HT.sIx xs.length 0 lo = 0 ∧ HT.sIx xs.length xs.length hi = xs.length) : cutV xs lo hi = xs := by
  unfold cutV
  rw [h.1, h.2, List.drop_zero, Nat.sub_zero, List.take_length]
theorem sl_any {X : Cx} : SlR X (rSlAny X.K) := by
  intro pins s σ H x v vl vu lo hi sl Q I rx hs pl pu h
  obtain ⟨a, xs, ex, hS, q⟩ := h
  exact sl_tupA pins s σ H x v vl vu lo hi sl Q I rx hs pl pu ⟨a, xs, ex, hS, fun e => q H a (Same.refl H) (by rw [cut_whole e]; exact hS), fun _ p np => q _ p (same_upd np) (SqT.of upd_same)⟩
theorem dp_int {K : PySem.W.Frag} {H : Hp} {x : V} {j : Int} (h : Dp K H x (.int j)) : x = .int j := by
  cases h
  rfl
def rCatAny (K : PySem.W.Frag) : V → V → Hp → VK → Prop := fun x y H Q => ∃ (a b : Addr) (xs ys : List V), x = .ref a ∧ y = .ref b ∧ SqT K H a xs ∧ SqT K H b ys ∧ xs.length + ys.length ≤ sizeLine ∧ ∀ (H' : Hp) (p : Addr), Same H H' → SqT K H' p (xs ++ ys) → Q (.ref p) H'
theorem op_catAny {X : Cx} : OpR X (binaryOp .Add) (rCatAny X.K) := by
  intro pins s σ H x y v u Q I rx ry h
  obtain ⟨a, b, xs, ys, ex, ey, hX, hY, hl, q⟩ := h
  refine op_catA pins s σ H x y v u Q I rx ry ⟨a, b, xs, ys, ex, ey, hX, hY, hl, fun e => q H b (Same.refl H) (by rw [e]; exact hY), fun _ e => q H a (Same.refl H) (by rw [e, List.append_nil]; exact hX), fun _ _ p np => q _ p (same_upd np) (SqT.of upd_same)⟩
/-! ### rows of a grammar -/
structure MRow where
  nm : List Nat
  so : List Nat
  pt : List (List Nat)
def MRow.d (r : MRow) : PyData := .tuple [strD r.nm, strD r.so, .tuple (r.pt.map strD)]
def MRow.places (r : MRow) : List (List Nat) := r.so :: r.pt
inductive En where
  | sp (p : Nat) (w : List Nat)
  | kept (w : List Nat)
  deriving DecidableEq
def En.d : En → PyData
  | .sp p w => .tuple [.str "at", .int (p : Nat), strD w]
  | .kept w => .tuple [.str "kept", strD w]
inductive Od where
  | en (e : En)
  | own
  | num (n : Nat)
def Od.d : Od → PyData
  | .en e => e.d
  | .own => .tuple [.str "own"]
  | .num n => .tuple [.str "number", .int (n : Nat)]
structure RRow where
  ma : List Nat
  tg : En
  op : List Nat
  os : List Od
def RRow.d (r : RRow) : PyData := .tuple [strD r.ma, r.tg.d, strD r.op, .tuple (r.os.map Od.d)]
theorem MRow.imm (r : MRow) : Thr.imm r.d = true := by
  show (true && (true && (immAll (r.pt.map strD) && true))) = true
  rw [immAll_map strD_imm]
  rfl
theorem En.imm (e : En) : Thr.imm e.d = true := by cases e <;> rfl
theorem Od.imm (o : Od) : Thr.imm o.d = true := by
  cases o with
  | en e => exact e.imm
  | own => rfl
  | num n => rfl
theorem RRow.imm (r : RRow) : Thr.imm r.d = true := by
  show (true && (Thr.imm r.tg.d && (true && (immAll (r.os.map Od.d) && true)))) = true
  rw [r.tg.imm, immAll_map Od.imm]
  rfl
/-- a worth of a place -/
def AtOf (rs : List SRow) (mr : MRow) (p : Nat) (w : List Nat) (up : Bool) : Prop := ∃ k r, mr.places[p]? = some k ∧ r ∈ rs ∧ r.nm = k ∧ w ∈ (if up then r.up else r.dn)
def KeptOk (rs : List SRow) (mr : MRow) (w : List Nat) : Prop := NmOk w ∧ ∀ r ∈ rs, r.nm = mr.so → w ∉ r.dn ++ r.up
/-- what a rule may have as its target -/
def TgOk (rs : List SRow) (mr : MRow) : En → Prop
  | .sp p w => AtOf rs mr p w (decide (p = 0))
  | .kept w => KeptOk rs mr w
/-- what it may need -/
def FrOk (rs : List SRow) (mr : MRow) : En → Prop
  | .sp p w => AtOf rs mr p w (!decide (p = 0))
  | .kept w => KeptOk rs mr w
def OdOk (rs : List SRow) (mr : MRow) : Od → Prop
  | .en e => FrOk rs mr e
  | .own => True
  | .num n => n < 1000000
def sl (s : String) : List Nat := (Str.ofString s).cps.toList
theorem sl_S (s : String) : SX.S (sl s) = Str.ofString s := SX.S_tl _
def OPS4 : List (List Nat) := [sl "copy", sl "plus", sl "least", sl "most"]
def OPS8 : List (List Nat) := [sl "plus", sl "less", sl "times", sl "over", sl "rest", sl "same", sl "under", sl "pick"]
def opsOf (roof : Nat) : List (List Nat) := if roof = 0 then OPS4 ++ OPS8 else OPS4
def arOf (op : List Nat) : Nat := if op = sl "copy" then 1 else if op = sl "pick" then 3 else 2
def enName : En → List (List Nat)
  | .sp _ _ => []
  | .kept w => [w]
def odName : Od → List (List Nat)
  | .en e => enName e
  | _ => []
structure RulesOk (rs : List SRow) (mr : MRow) (roof : Nat) (ks : List (List Nat)) (ru : List RRow) : Prop where
  ma : ∀ r ∈ ru, r.ma = mr.nm
  tg : ∀ r ∈ ru, TgOk rs mr r.tg
  nd : (ru.map RRow.tg).Nodup
  op : ∀ r ∈ ru, r.op ∈ opsOf roof
  ar : ∀ r ∈ ru, r.os.length = arOf r.op
  os : ∀ r ∈ ru, ∀ o ∈ r.os, OdOk rs mr o
  k2 : ks.length ≤ 2
  kt : ∀ r ∈ ru, ∀ w ∈ enName r.tg, w ∈ ks
  ko : ∀ r ∈ ru, ∀ o ∈ r.os, ∀ w ∈ odName o, w ∈ ks
  le : ru.length ≤ 30
/-- what rules are made by -/
structure Cxt (K : PySem.W.Frag) (H : Hp) (a gd ph : Addr) (rowv wv : V) (rs : List SRow) (mr : MRow) (roof : Nat) (wb : Bool) (wn : Nat) (phs : List Nat → List (List Nat)) : Prop where
  g : ∃ kvs of ofk, H gd = some (.dK kvs) ∧ valV kvs (Sum.inr "cap") = some (.int (roof : Nat)) ∧ valV kvs (Sum.inr "of") = some (.ref of) ∧ H of = some (.dK ofk) ∧
    ∀ r ∈ rs, ∃ v, valV ofk (Sum.inr (SX.S r.nm)) = some v ∧ Dp K H v (.tuple [.tuple (r.dn.map strD), .tuple (r.up.map strD)])
  p : ∃ phk, H ph = some (.dK phk) ∧ ∀ r ∈ rs, ∃ pl, valV phk (Sum.inr (SX.S r.nm)) = some (.ref pl) ∧ pl ≠ a ∧ H pl = some (.lst (nmV (phs r.nm))) ∧ (phs r.nm).Perm (r.dn ++ r.up)
  row : Dp K H rowv mr.d
  wl : Dp K H wv (.tuple [.bool wb, .int (wn : Nat)])
  w0 : 0 < wn
  w1 : wn < 1000000
  sok : SortsOk rs
  so : ∀ k ∈ mr.places, ∃ r ∈ rs, r.nm = k
  p2 : mr.pt.length ≤ 2
  rf : roof ≤ 9
theorem Cxt.but {K : PySem.W.Frag} {H H' : Hp} {a gd ph : Addr} {rowv wv : V} {rs : List SRow} {mr : MRow} {roof : Nat} {wb : Bool} {wn : Nat} {phs : List Nat → List (List Nat)} {b : List V} (c : Cxt K H a gd ph rowv wv rs mr roof wb wn phs) (ha : H a = some (.lst b)) (t : But a H H') :
    Cxt K H' a gd ph rowv wv rs mr roof wb wn phs := by
  have k := KeepT.but ha t
  have nd : ∀ {d : Addr} {kv : List (Key × V)}, H d = some (.dK kv) → d ≠ a := fun {d kv} h z => by
    rw [z, ha] at h
    cases h
  obtain ⟨kvs, of, ofk, g1, g2, g3, g4, g5⟩ := c.g
  obtain ⟨phk, p1, p2⟩ := c.p
  refine ⟨⟨kvs, of, ofk, t _ _ (nd g1) g1, g2, g3, t _ _ (nd g4) g4, fun r hr => ?_⟩, ⟨phk, t _ _ (nd p1) p1, fun r hr => ?_⟩, dp_imm k c.row mr.imm, dp_imm k c.wl rfl, c.w0, c.w1, c.sok, c.so, c.p2, c.rf⟩
  · obtain ⟨v, h1, h2⟩ := g5 r hr
    refine ⟨v, h1, dp_imm k h2 ?_⟩
    show (immAll (r.dn.map strD) && (immAll (r.up.map strD) && true)) = true
    rw [immAll_map strD_imm, immAll_map strD_imm]
    rfl
  · obtain ⟨pl, h1, h2, h3, h4⟩ := p2 r hr
    exact ⟨pl, h1, h2, t _ _ h2 h3, h4⟩
/-- a row on the heap -/
theorem row_at {K : PySem.W.Frag} {H : Hp} {v : V} {mr : MRow} (h : Dp K H v mr.d) : ∃ q t, v = .ref q ∧ SqT K H q [.str (SX.S mr.nm), .str (SX.S mr.so), .ref t] ∧ SqT K H t (nmV mr.pt) := by
  cases h with
  | tup hS hA =>
    cases hA with
    | cons a1 hA =>
      cases hA with
      | cons a2 hA =>
        cases hA with
        | cons a3 hA =>
          cases hA
          cases a1
          cases a2
          cases a3 with
          | tup hS3 hA3 =>
            refine ⟨_, _, rfl, hS, ?_⟩
            have : ∀ {xs : List V} {ws : List (List Nat)}, DpAll K H xs (ws.map strD) → xs = nmV ws := fun {xs ws} => by
              induction ws generalizing xs with
              | nil => intro h; cases h; rfl
              | cons i is ih =>
                intro h
                cases h with
                | cons a b =>
                  cases a
                  rw [ih b]
                  rfl
            rw [← this hA3]
            exact hS3
theorem names_of {K : PySem.W.Frag} {H : Hp} {xs : List V} {ws : List (List Nat)} (h : DpAll K H xs (ws.map strD)) : xs = nmV ws := by
  induction ws generalizing xs with
  | nil => cases h; rfl
  | cons i is ih =>
    cases h with
    | cons a b =>
      cases a
      rw [ih b]
      rfl
def spRules (K : PySem.W.Frag) : Sp := fun vs H Q _ => ∃ (a gd ph : Addr) (rowv wv : V) (rs : List SRow) (mr : MRow) (roof : Nat) (wb : Bool) (wn : Nat) (phs : List Nat → List (List Nat)) (m : Nat) (b : List V), vs = [.ref a, .ref gd, rowv, .ref ph, wv] ∧ Cxt K H a gd ph rowv wv rs mr roof wb wn phs ∧ H a = some (.lst b) ∧ BoxL m b ∧ m + 700 < 900000 ∧
  ∀ (H' : Hp) (l : Addr) (vs' : List V) (ru : List RRow) (ks : List (List Nat)) (b' : List V), But a H H' → H l = none → H' l = some (.lst vs') → DpAll K H' vs' (ru.map RRow.d) → RulesOk rs mr roof ks ru → H' a = some (.lst b') → BoxL (m + 700) b' → Q (.ref l) H'
theorem dpAll_take {K : PySem.W.Frag} {H : Hp} : ∀ {vs : List V} {ds : List PyData} (k : Nat), DpAll K H vs ds → DpAll K H (vs.take k) (ds.take k)
  | _, _, 0, _ => .nil
  | _, _, k + 1, .nil => .nil
  | _, _, k + 1, .cons h a => .cons h (dpAll_take k a)
theorem dpAll_drop {K : PySem.W.Frag} {H : Hp} : ∀ {vs : List V} {ds : List PyData} (k : Nat), DpAll K H vs ds → DpAll K H (vs.drop k) (ds.drop k)
  | _, _, 0, h => h
  | _, _, k + 1, .nil => .nil
  | _, _, k + 1, .cons _ a => dpAll_drop k a
theorem ins_perm {α : Type} (xs : List α) (x : α) (k : Nat) : (xs.take k ++ [x] ++ xs.drop k).Perm (x :: xs) := by
  have h : (xs.take k ++ [x] ++ xs.drop k).Perm ([x] ++ xs.take k ++ xs.drop k) := List.Perm.append_right _ List.perm_append_comm
  rw [List.append_assoc [x], List.take_append_drop] at h
  exact h
/-- an end of the making -/
def EnOk (rs : List SRow) (mr : MRow) (ks : List (List Nat)) : En → Prop
  | .sp p w => ∃ k r, mr.places[p]? = some k ∧ r ∈ rs ∧ r.nm = k ∧ w ∈ r.dn ++ r.up
  | .kept w => KeptOk rs mr w ∧ w ∈ ks
theorem EnOk.mono {rs : List SRow} {mr : MRow} {ks ks' : List (List Nat)} (h : ∀ w ∈ ks, w ∈ ks') {e : En} (x : EnOk rs mr ks e) : EnOk rs mr ks' e := by
  cases e with
  | sp p w => exact x
  | kept w => exact ⟨x.1, h w x.2⟩
def NmSmall (w : List Nat) : Prop := ∀ c ∈ w, c < 128
theorem nm_small {w : List Nat} (h : NmOk w) : NmSmall w := fun c hc => by
  have := h.1.2.2 c hc
  unfold isLet at this
  simp only [Bool.and_eq_true, decide_eq_true_eq] at this
  omega
theorem str_ok {w : List Nat} (h : NmSmall w) : PyData.strOk (SX.S w) = true := by
  unfold PyData.strOk
  rw [Array.all_eq_true']
  intro c hc
  have : c ∈ w := by simpa using hc
  have := h c this
  exact decide_eq_true (by omega)
def enW : En → List Nat
  | .sp _ w => w
  | .kept w => w
theorem en_lay {e : En} (h : NmSmall (enW e)) : e.d.canLay0 = true ∧ e.d.depth = 1 := by
  cases e with
  | sp p w =>
    refine ⟨?_, rfl⟩
    show (PyData.strOk "at" && (true && (PyData.strOk (SX.S w) && true))) = true
    rw [show PyData.strOk (SX.S w) = true from str_ok h]
    decide +kernel
  | kept w =>
    refine ⟨?_, rfl⟩
    show (PyData.strOk "kept" && (PyData.strOk (SX.S w) && true)) = true
    rw [show PyData.strOk (SX.S w) = true from str_ok h]
    decide +kernel
theorem en_shape {e : En} (h : NmSmall (enW e)) : SeqAt.shaped e.d = true := by
  obtain ⟨h1, h2⟩ := en_lay h
  unfold SeqAt.shaped
  rw [h1, h2]
  rfl
theorem ens_lay : ∀ {es : List En}, (∀ e ∈ es, NmSmall (enW e)) → PyData.canLayAll0 (es.map En.d) = true ∧ PyData.depthAll (es.map En.d) ≤ 1
  | [], _ => ⟨rfl, Nat.zero_le _⟩
  | e :: es, h => by
    obtain ⟨h1, h2⟩ := en_lay (h e (List.mem_cons_self ..))
    obtain ⟨h3, h4⟩ := ens_lay (es := es) fun x hx => h x (List.mem_cons_of_mem _ hx)
    refine ⟨?_, ?_⟩
    · show (PyData.canLay0 e.d && PyData.canLayAll0 (es.map En.d)) = true
      rw [h1, h3]
      rfl
    · show max (PyData.depth e.d) (PyData.depthAll (es.map En.d)) ≤ 1
      omega
theorem ens_shape {es : List En} (h : ∀ e ∈ es, NmSmall (enW e)) : SeqAt.shaped (.list (es.map En.d)) = true := by
  obtain ⟨h1, h2⟩ := ens_lay h
  unfold SeqAt.shaped
  rw [show PyData.canLay0 (.list (es.map En.d)) = true from h1, decide_eq_true (show PyData.depth (.list (es.map En.d)) ≤ 64 from by
    show PyData.depthAll (es.map En.d) + 1 ≤ 64
    omega)]
  rfl
theorem en_eqv (e e' : En) : PyData.eqv e.d e'.d = decide (e = e') := by
  have hs : ∀ a b : List Nat, ((SX.S a : Str) == SX.S b) = decide (a = b) := fun a b => SX.S_beq_eq
  cases e with
  | sp p w =>
    cases e' with
    | sp p' w' =>
      show ((Str.ofString "at" == Str.ofString "at") && ((((p : Nat) : Int) == ((p' : Nat) : Int)) && ((SX.S w == SX.S w') && true))) = _
      rw [show (Str.ofString "at" == Str.ofString "at") = true by decide +kernel, hs w w', Bool.and_true, Bool.true_and, Bool.eq_iff_iff, Bool.and_eq_true, decide_eq_true_eq, decide_eq_true_eq, beq_iff_eq]
      constructor
      · rintro ⟨h1, h2⟩
        rw [Int.ofNat_inj.mp h1, h2]
      · intro h
        cases h
        exact ⟨rfl, rfl⟩
    | kept w' =>
      show ((Str.ofString "at" == Str.ofString "kept") && PyData.eqvAll [.int ((p : Nat) : Int), strD w] [strD w']) = _
      rw [show (Str.ofString "at" == Str.ofString "kept") = false by decide +kernel, Bool.false_and]
      rfl
  | kept w =>
    cases e' with
    | sp p' w' =>
      show ((Str.ofString "kept" == Str.ofString "at") && PyData.eqvAll [strD w] [.int ((p' : Nat) : Int), strD w']) = _
      rw [show (Str.ofString "kept" == Str.ofString "at") = false by decide +kernel, Bool.false_and]
      rfl
    | kept w' =>
      show ((Str.ofString "kept" == Str.ofString "kept") && ((SX.S w == SX.S w') && true)) = _
      rw [show (Str.ofString "kept" == Str.ofString "kept") = true by decide +kernel, hs w w', Bool.and_true, Bool.true_and, Bool.eq_iff_iff, decide_eq_true_eq, decide_eq_true_eq]
      constructor
      · intro h
        rw [h]
      · intro h
        cases h
        rfl
theorem ens_any (e : En) : ∀ es : List En, ((es.map En.d).any fun z => PyData.eqv z e.d) = decide (e ∈ es)
  | [] => rfl
  | x :: es => by
    rw [List.map_cons, List.any_cons, en_eqv, ens_any e es, Bool.eq_iff_iff, Bool.or_eq_true, decide_eq_true_eq, decide_eq_true_eq, decide_eq_true_eq, List.mem_cons]
    exact ⟨fun h => h.elim (fun z => .inl z.symm) .inr, fun h => h.elim (fun z => .inl z.symm) .inr⟩
theorem ens_nil (es : List En) : PyData.eqv (.list (es.map En.d)) (.list []) = decide (es = []) := by
  cases es <;> rfl
/-- an end on the heap -/
theorem en_at {K : PySem.W.Frag} {H : Hp} {v : V} {e : En} (h : Dp K H v e.d) : ∃ q, v = .ref q ∧ match e with
    | .sp p w => SqT K H q [.str "at", .int (p : Nat), .str (SX.S w)]
    | .kept w => SqT K H q [.str "kept", .str (SX.S w)] := by
  cases e with
  | sp p w =>
    cases h with
    | tup hS hA =>
      cases hA with
      | cons a1 hA =>
        cases hA with
        | cons a2 hA =>
          cases hA with
          | cons a3 hA =>
            cases hA
            cases a1
            cases a2
            cases a3
            exact ⟨_, rfl, hS⟩
  | kept w =>
    cases h with
    | tup hS hA =>
      cases hA with
      | cons a1 hA =>
        cases hA with
        | cons a2 hA =>
          cases hA
          cases a1
          cases a2
          exact ⟨_, rfl, hS⟩
theorem cutV_back (xs : List V) (k : Nat) : cutV xs (some (-1 - (k : Int))) none = xs.drop (xs.length - (k + 1)) := by
  unfold cutV
  rw [HT.sIx_none]
  have e : HT.sIx xs.length 0 (some (-1 - (k : Int))) = xs.length - (k + 1) := by
    show (if (-1 - (k : Int)) < 0 then ((-1 - (k : Int)) + (xs.length : Int)).toNat else min (-1 - (k : Int)).toNat xs.length) = _
    rw [if_pos (by omega)]
    omega
  rw [e, List.take_of_length_le (by rw [List.length_drop]; exact Nat.le_refl _)]
abbrev s__law_rules_for : Stmt := top 63
abbrev N__law_rules_for : List Str := ["_law_box", "_law_g", "_law_row", "_law_phases", "_law_wild", "_law_places", "_law_ends", "_law_rules", "_law_known", "_law_ops", "_law_at", "_law_place", "_law_name", "_law_free", "_law_end", "_law_op", "_law_some", "_law_operands", "_law_turn", "_law_way", "_law_one", "_law_worth"]
abbrev P__law_rules_for : List Str := ["_law_box", "_law_g", "_law_row", "_law_phases", "_law_wild"]
theorem sc__law_rules_for : FnScope N__law_rules_for P__law_rules_for (defScope s__law_rules_for) := ⟨rfl, rfl, rfl, by decide +kernel, rfl, by decide +kernel, by decide +kernel⟩
theorem hu65 {k : Nat} {A : Around} (r : Room k A) : A.units + 65 < cLine := by
  have := r.un
  omega
structure Ru (mg : Str → Option Value) : Prop where
  range : mg "range" = none
  list : mg "list" = none
  len : mg "len" = none
  int : mg "int" = none
  tuple : mg "tuple" = none
/-- what stands beside the ends -/
structure Lc (K : PySem.W.Frag) (H X : Hp) (a pt lr lk lo : Addr) (mr : MRow) (ops : List (List Nat)) : Prop where
  bt : But a H X
  pt : SqT K X pt (nmV mr.places)
  lr : X lr = some (.lst [])
  lk : X lk = some (.lst [])
  lo : X lo = some (.lst (nmV ops))
theorem Lc.go {K : PySem.W.Frag} {H X Y : Hp} {a pt lr lk lo : Addr} {mr : MRow} {ops : List (List Nat)} {b : List V} (h : Lc K H X a pt lr lk lo mr ops) (hb : X a = some (.lst b)) (nr : lr ≠ a) (nk : lk ≠ a) (no : lo ≠ a) (t : But a X Y) : Lc K H Y a pt lr lk lo mr ops :=
  ⟨h.bt.trans t, (KeepT.but hb t).seqT h.pt, t _ _ nr h.lr, t _ _ nk h.lk, t _ _ no h.lo⟩
/-- an end as it was drawn: so many rounds, these places in the last one -/
def Drawn (mr : MRow) (phs : List Nat → List (List Nat)) (i : Nat) (done : List Nat) : En → Prop
  | .sp p w => ∃ k t, mr.places[p]? = some k ∧ (phs k)[t]? = some w ∧ (t < i ∨ t = i ∧ p ∈ done)
  | .kept _ => False
/-- while the rules are drawn -/
structure Ls (K : PySem.W.Frag) (H Y : Hp) (a le lo lf : Addr) (vs us : List V) (es fs : List En) (ops : List (List Nat)) : Prop where
  bt : But a H Y
  le : Y le = some (.lst vs)
  de : DpAll K Y vs (es.map En.d)
  lf : Y lf = some (.lst us)
  df : DpAll K Y us (fs.map En.d)
  lo : Y lo = some (.lst (nmV ops))
theorem Ls.go {K : PySem.W.Frag} {H Y Z : Hp} {a le lo lf : Addr} {vs us b : List V} {es fs : List En} {ops : List (List Nat)} (h : Ls K H Y a le lo lf vs us es fs ops) (hb : Y a = some (.lst b)) (ne : le ≠ a) (nf : lf ≠ a) (no : lo ≠ a) (t : But a Y Z) : Ls K H Z a le lo lf vs us es fs ops :=
  have k := KeepT.but hb t
  ⟨h.bt.trans t, t _ _ ne h.le, dpAll_imm k h.de (immAll_map En.imm es), t _ _ nf h.lf, dpAll_imm k h.df (immAll_map En.imm fs), t _ _ no h.lo⟩
theorem Ls.put {K : PySem.W.Frag} {H Y : Hp} {a le lo lf r : Addr} {vs us rv rv' : List V} {es fs : List En} {ops : List (List Nat)} (h : Ls K H Y a le lo lf vs us es fs ops) (hr : Y r = some (.lst rv)) (ne : le ≠ r) (nf : lf ≠ r) (no : lo ≠ r) (nH : H r = none) : Ls K H (upd Y r (.lst rv')) a le lo lf vs us es fs ops := by
  have k : KeepT Y (upd Y r (.lst rv')) := KeepT.at_ hr lst_no
  refine ⟨fun c o nc hc => ?_, ?_, dpAll_imm k h.de (immAll_map En.imm es), ?_, dpAll_imm k h.df (immAll_map En.imm fs), ?_⟩
  · rw [upd_ne (ne_of_none hc nH)]
    exact h.bt c o nc hc
  · rw [upd_ne ne]; exact h.le
  · rw [upd_ne nf]; exact h.lf
  · rw [upd_ne no]; exact h.lo
/-- the rules so far, and what is known -/
structure Rst (rs : List SRow) (mr : MRow) (roof : Nat) (ks : List (List Nat)) (es fs : List En) (i j : Nat) (ru : List RRow) (kn : List En) : Prop where
  sub : (ru.map RRow.tg).Sublist (es.take j)
  ok : ∀ r ∈ ru, r.ma = mr.nm ∧ TgOk rs mr r.tg ∧ r.op ∈ opsOf roof ∧ r.os.length = arOf r.op ∧ ∀ o ∈ r.os, OdOk rs mr o ∧ ∀ w ∈ odName o, w ∈ ks
  kf : ∀ e ∈ kn, e ∈ fs
  kl : kn.length ≤ i
theorem dpAll_look {K : PySem.W.Frag} {H : Hp} {vs : List V} {es : List En} {i : Nat} {x : V} {e : En} (h : DpAll K H vs (es.map En.d)) (hx : vs[i]? = some x) (he : es[i]? = some e) : Dp K H x e.d := by
  obtain ⟨dd, hdd, hxd⟩ := dpAll_at h hx
  rw [List.getElem?_map, he] at hdd
  cases hdd
  exact hxd
def isK : En → Bool
  | .sp _ _ => false
  | .kept _ => true
theorem ifs_or {t1 t2 t3 : TT} {A B : TS} {D : Ends} {σ : L2.St} {H : Hp} {c1 c2 : Bool} (h1 : ∀ Q : Bool → Hp → Prop, (∀ c, c = c1 → Q c H) → t1 σ H Q) (h2 : ∀ Q : Bool → Hp → Prop, (∀ c, c = c2 → Q c H) → t2 σ H Q)
    (hA : (c1 || c2) = true → tIfS t3 A B D σ H) (hB : (c1 || c2) = false → B D σ H) : tIfS (tAnd (tOr t1 t2) t3) A B D σ H := by
  refine h1 _ ?_
  intro c hc
  rw [hc]
  cases c1 with
  | true => exact iteT (iteT (hA rfl))
  | false =>
    show t2 σ H _
    refine h2 _ ?_
    intro c hc
    rw [hc]
    cases c2 with
    | true => exact iteT (hA rfl)
    | false => exact hB rfl
theorem if_some {c : Bool} {ta tb : TE} {Q : VK} {σ : L2.St} {H : Hp} {u v : V} (ha : ∀ Q : VK, Q u H → ta σ H Q) (hb : ∀ Q : VK, Q v H → tb σ H Q) (h : Q (if c = true then u else v) H) : if c = true then ta σ H Q else tb σ H Q := by
  cases c with
  | true => exact ha _ h
  | false => exact hb _ h
theorem wild_at {K : PySem.W.Frag} {H : Hp} {v : V} {wb : Bool} {wn : Nat} (h : Dp K H v (.tuple [.bool wb, .int (wn : Nat)])) : ∃ q, v = .ref q ∧ SqT K H q [.bl wb, .int (wn : Nat)] := by
  cases h with
  | tup hS hA =>
    cases hA with
    | cons a1 hA =>
      cases hA with
      | cons a2 hA =>
        cases hA
        cases a1
        cases a2
        exact ⟨_, rfl, hS⟩
def AR : List (Key × V) := [(Sum.inr "copy", .int 1), (Sum.inr "pick", .int 3)]
theorem ar_get {roof : Nat} {op : List Nat} (h : op ∈ opsOf roof) : (valV (mergeK [] AR) (Sum.inr (SX.S op))).getD (.int 2) = .int ((arOf op : Nat) : Int) := by
  have h' : op ∈ OPS4 ++ OPS8 := by
    unfold opsOf at h
    split at h
    · exact h
    · exact List.mem_append_left _ h
  simp only [OPS4, OPS8, List.cons_append, List.nil_append, List.mem_cons, List.not_mem_nil, or_false] at h'
  rcases h' with rfl | rfl | rfl | rfl | rfl | rfl | rfl | rfl | rfl | rfl | rfl | rfl <;> (rw [sl_S]; rfl)
theorem ar_le (op : List Nat) : arOf op ≤ 3 := by
  unfold arOf
  split
  · decide
  · split <;> decide
theorem ops_len (roof : Nat) : 0 < (opsOf roof).length ∧ (opsOf roof).length ≤ 12 := by
  unfold opsOf
  split <;> exact ⟨by decide, by decide⟩
section
variable {P : Program} {w : World} {K : PySem.W.Frag} {mg : Str → Option Value} {base : Heap}
theorem ok_rules_for (T : Ru mg) (c_law_take : C8.Cal P w K mg base 1 "_law_take" spTake []) (c_law_named : C8.Cal P w K mg base 2 "_law_named" spNamed []) (c_law_strewn : C8.Cal P w K mg base 2 "_law_strewn" (spStrewn K) []) (c_law_one_of : C8.Cal P w K mg base 2 "_law_one_of" (spOneOf K) []) (c_law_number : C8.Cal P w K mg base 2 "_law_number" spNumber [])
    (D : Dd K mg "_law_rules_for" s__law_rules_for P__law_rules_for) : C8.Cal P w K mg base 3 "_law_rules_for" (spRules K) [] := by
  refine D.cal sc__law_rules_for (fun vs H Q E h => ?_) (fun f cdv A outer s H vs Q E hr h => ?_)
  · obtain ⟨a, gd, ph, rowv, wv, rs, mr, roof, wb, wn, phs, m, b, rfl, _⟩ := h
    rfl
  · obtain ⟨a, gd, ph, rowv, wv, rs, mr, roof, wb, wn, phs, m, b, rfl, cx, ha, hB, hm, q⟩ := h
    refine ⟨_, (C8.pss_cut (ps_asg (pe_tup (pa_cons (pe_op op_catAny (pe_tup (pa_cons (pe_ix ix_tup (pv 2) pe_int (fun _ _ => rfl)) pa_nil)) (pe_ix ix_tup (pv 2) pe_int (fun _ _ => rfl))) (pa_cons (pe_lst pa_nil) (pa_cons (pe_lst pa_nil) (pa_cons (pe_lst pa_nil) (pa_cons (pe_lst (pa_cons pe_str (pa_cons pe_str (pa_cons pe_str (pa_cons pe_str pa_nil))))) pa_nil)))))) (pg_tup rfl (pgs_cons (pg_name (i := 5) sc__law_rules_for.nd rfl (Or.inr rfl)) (pgs_cons (pg_name (i := 6) sc__law_rules_for.nd rfl (Or.inl rfl)) (pgs_cons (pg_name (i := 7) sc__law_rules_for.nd rfl (Or.inl rfl)) (pgs_cons (pg_name (i := 8) sc__law_rules_for.nd rfl (Or.inl rfl)) (pgs_cons (pg_name (i := 9) sc__law_rules_for.nd rfl (Or.inl rfl)) pgs_nil)))))))
        (C8.pss_cut (ps_if (pt_cmpR op_eq (pe_dget (hu_of hr) (pv 1) pe_str (fun _ _ => rfl)) pe_int (nomark _))
          (pss_one (ps_set (i := 9) sc__law_rules_for.nd rfl (Or.inl rfl) (pe_op op_cat (pv 9) (pe_lst (pa_cons pe_str (pa_cons pe_str (pa_cons pe_str (pa_cons pe_str (pa_cons pe_str (pa_cons pe_str (pa_cons pe_str (pa_cons pe_str pa_nil))))))))))))
          pss_nil)
        (C8.pss_cut (ps_for PassesOwn.never rfl (pi_range1 rfl T.range (pa_cons pe_int pa_nil)) (pg_name (i := 10) sc__law_rules_for.nd rfl (Or.inl rfl))
          (pss_one (ps_for PassesOwn.never rfl (pi_list (C8.pe_c c_law_strewn hr (by decide) (by rfl) (pa_cons (pv 0) (pa_cons (pe_listRg rfl (by rfl) T.list (prg_1 (by rfl) T.range (pe_callB call_len_seq (by rfl) T.len PySem.boot_len (pa_cons (pv 5) pa_nil)))) pa_nil)))) (pg_name (i := 11) sc__law_rules_for.nd rfl (Or.inr rfl))
          (pss_one (ps_set (i := 6) sc__law_rules_for.nd rfl (Or.inl rfl) (pe_op op_cat (pv 6) (pe_lc (own := [("_law_worth", 21)]) (by exact rfl) sc__law_rules_for.nd (pi_list (pe_slice sl_list (pe_dget (hu_of hr) (pv 3) (pe_ix ix_tup (pv 5) (pv 11) (fun _ _ => rfl)) (fun _ _ => rfl)) (po_some (pv 10)) (po_some (pe_op op_add (pv 10) pe_int)))) (blkOk_by (own := [("_law_worth", 21)]) (N := N__law_rules_for) (sc := defScope s__law_rules_for) (by decide +kernel)) (fun _ _ _ _ _ => (pg_name (i := 21) sc__law_rules_for.nd rfl (Or.inl rfl))) (fun _ _ _ _ _ => pts_nil) (fun _ _ _ _ _ => (pe_tup (pa_cons pe_str (pa_cons (pv 11) (pa_cons (pv 21) pa_nil))))))))))))
        (C8.pss_cut (ps_for PassesOwn.never rfl (pi_list (C8.pe_c c_law_named hr (by decide) (by rfl) (pa_cons (pv 0) (pa_cons (C8.pe_c c_law_take hr (by decide) (by rfl) (pa_cons (pv 0) (pa_cons pe_int pa_nil))) pa_nil)))) (pg_name (i := 12) sc__law_rules_for.nd rfl (Or.inl rfl))
          (pss_one (ps_if (pt_cmpR op_notIn_seq (pv 12) (pe_dget (hu_of hr) (pv 3) (pe_ix ix_tup (pv 2) pe_int (fun _ _ => rfl)) (fun _ _ => rfl)) (by with_unfolding_all rfl))
          (pss_one (ps_expr (pe_bm PySem.F.plainAttrs_list PySem.F.slot_list_insert PySem.F.type_list_insert mt_insert (pv 6) (pa_cons (C8.pe_c c_law_take hr (by decide) (by rfl) (pa_cons (pv 0) (pa_cons (pe_op op_add (pe_callB call_len_seq (by rfl) T.len PySem.boot_len (pa_cons (pv 6) pa_nil)) pe_int) pa_nil))) (pa_cons (pe_tup (pa_cons pe_str (pa_cons (pv 12) pa_nil))) pa_nil)))))
          pss_nil)))
        (C8.pss_cut (ps_set (i := 13) sc__law_rules_for.nd rfl (Or.inr rfl) (pe_lc (own := [("_law_end", 14)]) (by exact rfl) sc__law_rules_for.nd (pi_list (pv 6)) (blkOk_by (own := [("_law_end", 14)]) (N := N__law_rules_for) (sc := defScope s__law_rules_for) (by decide +kernel)) (fun _ _ _ _ _ => (pg_name (i := 14) sc__law_rules_for.nd rfl (Or.inl rfl))) (fun _ _ _ _ _ => (pts_one (PW.pt (pw_or (pt_cmpR op_eq (pe_ix (r := rIxT K) ix_tup (pv 14) pe_int (fun _ _ => rfl)) pe_str (nomark _)) (pw_or1 (pt_cmpR (r := rIn K true) op_notIn_seq (pe_ix (r := rIxT K) ix_tup (pv 14) pe_int (fun _ _ => rfl)) (pe_ix (r := rIxT K) ix_tup (pe_dget (hu_of hr) (pe_dget (hu_of hr) (pv 1) pe_str (fun _ _ => rfl)) (pe_ix (r := rIxT K) ix_tup (pv 5) (pe_ix (r := rIxT K) ix_tup (pv 14) pe_int (fun _ _ => rfl)) (fun _ _ => rfl)) (fun _ _ => rfl)) (pe_callTy call_int1 (by rfl) T.int (by decide +kernel) (pa_cons (pe_cmpR op_eq (pe_ix (r := rIxT K) ix_tup (pv 14) pe_int (fun _ _ => rfl)) pe_int (nomark _)) pa_nil)) (fun _ _ => rfl)) (by with_unfolding_all rfl))))))) (fun _ _ _ _ _ => (pv 14))))
        (pss_cons (ps_for PassesOwn.never rfl (pi_list (pv 6)) (pg_name (i := 14) sc__law_rules_for.nd rfl (Or.inl rfl))
          (C8.pss_cut (ps_if (PW.pt (pw_and (PW.pt (pw_or (pt_cmpR op_eq (pe_ix (r := rIxT K) ix_tup (pv 14) pe_int (fun _ _ => rfl)) pe_str (nomark _)) (pw_or1 (pt_cmpR (op_notInD (hu65 hr)) (pv 14) (pv 13) (by with_unfolding_all rfl))))) (pw_and1 (pt_cmpR op_gt (C8.pe_c c_law_take hr (by decide) (by rfl) (pa_cons (pv 0) (pa_cons (pe_ix ix_tup (pv 4) pe_int (fun _ _ => rfl)) pa_nil))) pe_int (nomark _)))))
          (pss_cons (ps_par3 rfl sc__law_rules_for.nd (i := 15) (j := 16) (l := 17) rfl rfl rfl (by decide) (by decide) (by decide) rfl rfl rfl (pa_cons (C8.pe_c c_law_one_of hr (by decide) (by rfl) (pa_cons (pv 0) (pa_cons (pv 9) pa_nil))) (pa_cons (pe_ifExp (pt_val (pe_ix ix_tup (pv 4) pe_int (fun _ _ => rfl))) (pv 13) (pv 8)) (pa_cons (pe_lst pa_nil) pa_nil))) (by rfl))
        (C8.pss_cut (ps_for PassesOwn.never rfl (pi_range1 rfl T.range (pa_cons (pe_dget2 (hu_of hr) (pe_disp (pps_cons pe_str pe_int (pps_cons pe_str pe_int pps_nil)) (by rfl) (by rfl) (fun z => by cases z) (by decide)) (pv 15) pe_int (by exact ⟨rfl, rfl, rfl, rfl⟩)) pa_nil)) (pg_name (i := 18) sc__law_rules_for.nd rfl (Or.inl rfl))
          (pss_cons (ps_set (i := 19) sc__law_rules_for.nd rfl (Or.inl rfl) (C8.pe_c c_law_take hr (by decide) (by rfl) (pa_cons (pv 0) (pa_cons pe_int pa_nil))))
        (pss_cons (ps_set (i := 20) sc__law_rules_for.nd rfl (Or.inl rfl) (pe_ix ix_list (pe_lst (pa_cons (pe_tup (pa_cons pe_str pa_nil)) (pa_cons (pe_tup (pa_cons pe_str (pa_cons (C8.pe_c c_law_number hr (by decide) (by rfl) (pa_cons (pv 0) pa_nil)) pa_nil))) pa_nil))) (pe_op op_mod (pv 19) pe_int) (fun _ _ => rfl)))
        (pss_one (ps_expr (pe_bm PySem.F.plainAttrs_list PySem.F.slot_list_append PySem.F.type_list_append mt_append (pv 17) (pa_cons (pe_ifExp (PW.pt (pw_and (pt_cmpR op_lt (pv 19) pe_int (nomark _)) (pw_and1 (pt_cmpR (op_neD hr.units) (pv 16) (pe_lst pa_nil) (nomark _))))) (C8.pe_c c_law_one_of hr (by decide) (by rfl) (pa_cons (pv 0) (pa_cons (pe_slice sl_list (pv 16) (po_some (pe_op op_sub (pe_un un_neg pe_int) (pv 19))) po_none) pa_nil))) (pv 20)) pa_nil)))))))
        (pss_one (ps_expr (pe_bm PySem.F.plainAttrs_list PySem.F.slot_list_append PySem.F.type_list_append mt_append (pv 7) (pa_cons (pe_tup (pa_cons (pe_ix ix_tup (pv 2) pe_int (fun _ _ => rfl)) (pa_cons (pv 14) (pa_cons (pv 15) (pa_cons (pe_callTy call_tuple_of (by rfl) T.tuple (by decide +kernel) (pa_cons (pv 17) pa_nil)) pa_nil))))) pa_nil))))))
          pss_nil)
        (pss_one (ps_set (i := 8) sc__law_rules_for.nd rfl (Or.inl rfl) (pe_op op_cat (pv 8) (pe_lc (own := [("_law_one", 20)]) (by exact rfl) sc__law_rules_for.nd (pi_list (pe_lst (pa_cons (pv 14) pa_nil))) (blkOk_by (own := [("_law_one", 20)]) (N := N__law_rules_for) (sc := defScope s__law_rules_for) (by decide +kernel)) (fun _ _ _ _ _ => (pg_name (i := 20) sc__law_rules_for.nd rfl (Or.inl rfl))) (fun _ _ _ _ _ => (pts_one (pt_cmpR (r := rInD K) (op_inD (hu65 hr)) (pv 20) (pv 13) (by with_unfolding_all rfl)))) (fun _ _ _ _ _ => (pv 20))))))))
        (pss_one (ps_ret (pv 7))))))))), ?_⟩
    -- places, ends, rules, known, ops
    refine ⟨fun σ X => ∃ pt le lr lk lo, σ = [some (.ref a), some (.ref gd), some rowv, some (.ref ph), some wv, some (.ref pt), some (.ref le), some (.ref lr), some (.ref lk), some (.ref lo), none, none, none, none, none, none, none, none, none, none, none, none] ∧ Lc K H X a pt lr lk lo mr OPS4 ∧ X le = some (.lst []) ∧ X a = some (.lst b) ∧ H le = none ∧ H lr = none ∧ H lk = none ∧ H lo = none ∧ le ≠ lr ∧ le ≠ lk ∧ le ≠ lo ∧ lr ≠ lk ∧ lr ≠ lo, ?_, ?_⟩
    · obtain ⟨rq, rt, rfl, hr1, hr2⟩ := row_at cx.row
      refine ⟨_, rfl, rq, _, 1, .str (SX.S mr.so), rfl, rfl, hr1, atI_nat (j := 1) rfl, by show 1 ≤ sizeLine; decide, fun t1 n1 => ?_⟩
      have g1 := same_upd (o := .tup [.str (SX.S mr.so)]) n1
      refine ⟨_, rfl, rq, _, 2, .ref rt, rfl, rfl, Same.seqT g1 hr1, atI_nat (j := 2) rfl, t1, rt, _, _, rfl, rfl, SqT.of upd_same, Same.seqT g1 hr2, ?_, fun H2 pt s2 hpt => ?_⟩
      · rw [nmV_len]
        have := cx.p2
        exact Nat.le_trans (show _ ≤ 3 from by show 1 + mr.pt.length ≤ 3; omega) (by decide)
      have s12 := g1.trans s2
      refine ⟨by show 0 ≤ sizeLine; decide, fun le nle => ⟨by show 0 ≤ sizeLine; decide, fun lr nlr => ⟨by show 0 ≤ sizeLine; decide, fun lk nlk => ⟨by show 4 ≤ sizeLine; decide, fun lo nlo => ⟨by show 5 ≤ sizeLine; decide, fun tp ntp => ?_⟩⟩⟩⟩⟩
      refine ⟨tp, _, rfl, SqT.of upd_same, rfl, _, _, rfl, _, _, rfl, _, _, rfl, _, _, rfl, _, _, rfl, rfl, ?_⟩
      have h1 := same_upd (o := .lst []) nle
      have h2 := same_upd (o := .lst []) nlr
      have h3 := same_upd (o := .lst []) nlk
      have h4 := same_upd (o := .lst (nmV OPS4)) nlo
      have h5 := same_upd (o := .tup [.ref pt, .ref le, .ref lr, .ref lk, .ref lo]) ntp
      have sA := (((h1.trans h2).trans h3).trans h4).trans h5
      refine ⟨pt, le, lr, lk, lo, rfl, ⟨But.of (s12.trans sA), Same.seqT sA hpt, h5 _ _ (h4 _ _ (h3 _ _ upd_same)), h5 _ _ (h4 _ _ upd_same), h5 _ _ upd_same⟩, h5 _ _ (h4 _ _ (h3 _ _ (h2 _ _ upd_same))), (s12.trans sA) _ _ ha, s12.free nle, (s12.trans h1).free nlr, (s12.trans (h1.trans h2)).free nlk, (s12.trans ((h1.trans h2).trans h3)).free nlo, ne_of_none upd_same nlr, ne_of_none (h2 _ _ upd_same) nlk, ne_of_none (h3 _ _ (h2 _ _ upd_same)) nlo, ne_of_none upd_same nlk, ne_of_none (h3 _ _ upd_same) nlo⟩
    rintro σ X0 ⟨pt, le0, lr, lk, lo0, rfl, lc0, hle0, hb0, nle0, nlr, nlk, nlo0, d1, d2, d3, d4, d5⟩
    have off : ∀ {x : Addr}, H x = none → x ≠ a := fun {x} h z => by
      rw [z, ha] at h
      cases h
    -- ops
    refine ⟨fun σ X => ∃ lo, σ = [some (.ref a), some (.ref gd), some rowv, some (.ref ph), some wv, some (.ref pt), some (.ref le0), some (.ref lr), some (.ref lk), some (.ref lo), none, none, none, none, none, none, none, none, none, none, none, none] ∧ Lc K H X a pt lr lk lo mr (opsOf roof) ∧ X le0 = some (.lst []) ∧ X a = some (.lst b) ∧ H lo = none ∧ le0 ≠ lo ∧ lr ≠ lo, ?_, ?_⟩
    · obtain ⟨kvs, of, ofk, q1, q2, q3, q4, q5⟩ := (cx.but ha lc0.bt).g
      refine ⟨_, rfl, gd, .int (roof : Nat), rfl, by have h := DGet.k (k := Sum.inr "cap") q1; rw [q2] at h; exact h, rfl, _, rfl, ?_⟩
      by_cases hz : roof = 0
      · refine ifT (decide_eq_true (congrArg V.int (by omega))) ?_
        refine ⟨_, rfl, by show 8 ≤ sizeLine; decide, fun l8 n8 => ?_⟩
        have g8 := same_upd (o := .lst (nmV OPS8)) n8
        refine ⟨lo0, l8, _, _, rfl, rfl, g8 _ _ lc0.lo, upd_same, by show 12 ≤ sizeLine; decide, fun lo nlo => ?_⟩
        have g9 := same_upd (o := .lst (nmV OPS4 ++ nmV OPS8)) nlo
        have sA := g8.trans g9
        refine ⟨lo, rfl, ⟨lc0.bt.trans (But.of sA), Same.seqT sA lc0.pt, sA _ _ lc0.lr, sA _ _ lc0.lk, ?_⟩, sA _ _ hle0, sA _ _ hb0, ?_, ne_of_none (g8 _ _ hle0) nlo, ne_of_none (g8 _ _ lc0.lr) nlo⟩
        · have e : nmV (opsOf roof) = nmV OPS4 ++ nmV OPS8 := by
            unfold opsOf
            rw [if_pos hz]
            exact List.map_append
          rw [e]
          exact upd_same
        · exact But.free (lc0.bt.trans (But.of g8)) (g8 _ _ hb0) nlo
      · refine ifF (decide_eq_false (fun y => hz (by have := V.int.inj y; omega))) ?_
        have e : opsOf roof = OPS4 := if_neg hz
        exact ⟨lo0, rfl, by rw [e]; exact lc0, hle0, hb0, nlo0, d3, d5⟩
    rintro σ X1 ⟨lo, rfl, lc1, hle1, hb1, nlo, d6, d7⟩
    have nra := off nlr
    have nka := off nlk
    have noa := off nlo
    have pl3 : mr.places.length ≤ 3 := by
      have := cx.p2
      unfold MRow.places
      rw [List.length_cons]
      omega
    -- the ends of all places
    refine ⟨fun σ X => ∃ (y10 y11 : Option V) (le : Addr) (vs : List V) (es : List En) (b' : List V), σ = [some (.ref a), some (.ref gd), some rowv, some (.ref ph), some wv, some (.ref pt), some (.ref le), some (.ref lr), some (.ref lk), some (.ref lo), y10, y11, none, none, none, none, none, none, none, none, none, none] ∧ Lc K H X a pt lr lk lo mr (opsOf roof) ∧ X le = some (.lst vs) ∧ DpAll K X vs (es.map En.d) ∧ es.Nodup ∧ (∀ e ∈ es, Drawn mr phs 3 [] e) ∧ es.length ≤ 9 ∧ X a = some (.lst b') ∧ BoxL (m + 9) b' ∧ H le = none ∧ le ≠ lr ∧ le ≠ lk ∧ le ≠ lo, ?_, ?_⟩
    · refine ⟨3, rfl, by decide, by decide, for_range (lo := 0) (n := Int.toNat 3) (fun i σ X => ∃ (y10 y11 : Option V) (le : Addr) (vs : List V) (es : List En) (b' : List V), σ = [some (.ref a), some (.ref gd), some rowv, some (.ref ph), some wv, some (.ref pt), some (.ref le), some (.ref lr), some (.ref lk), some (.ref lo), y10, y11, none, none, none, none, none, none, none, none, none, none] ∧ Lc K H X a pt lr lk lo mr (opsOf roof) ∧ X le = some (.lst vs) ∧ DpAll K X vs (es.map En.d) ∧ es.Nodup ∧ (∀ e ∈ es, Drawn mr phs i [] e) ∧ es.length ≤ 3 * i ∧ X a = some (.lst b') ∧ BoxL (m + 3 * i) b' ∧ H le = none ∧ le ≠ lr ∧ le ≠ lk ∧ le ≠ lo)
        ⟨none, none, le0, [], [], b, rfl, lc1, hle1, .nil, List.nodup_nil, (fun e h => nomatch h), Nat.le_refl _, hb1, hB, nle0, d1, d2, d6⟩ ?_ ?_⟩
      · rintro i σ X hi ⟨y10, y11, le, vs, es, b2, rfl, lc, hle, hds, hnd, hdr, hel, hb, hBx, nle, e1, e2, e3⟩
        have hi : i < 3 := hi
        refine ⟨_, rfl, _, rfl, pt, _, rfl, .inr lc.pt, _, rfl, ⟨by decide, by decide, by omega, by rw [nmV_len]; omega, by rw [nmV_len]; omega⟩, fun q1 nq1 => ?_⟩
        have g1 := same_upd (o := .lst (rgV 0 ((nmV mr.places).length : Int))) nq1
        have nq1a : q1 ≠ a := fun z => by
          rw [z, hb] at nq1
          cases nq1
        have lrg : (rgV 0 ((nmV mr.places).length : Int)).length = mr.places.length := by
          rw [rgV_length, nmV_len]
          omega
        refine ⟨a, q1, _, b2, _, rfl, g1 _ _ hb, hBx, by omega, SqL.of upd_same, nq1a, by omega, fun X2 ls ys b3 bt2 nls hls hperm hb3 hB3 => ?_⟩
        have erg : rgV 0 ((nmV mr.places).length : Int) = (List.range mr.places.length).map fun i : Nat => V.int ((i : Nat) : Int) := by
          unfold rgV
          rw [nmV_len, Int.sub_zero, Int.toNat_natCast]
          congr 1
          funext x
          rw [Int.zero_add]
        obtain ⟨ps, eps, hps⟩ := perm_map hperm (List.range mr.places.length) erg
        subst eps
        have psn : ps.Nodup := hps.nodup_iff.mpr List.nodup_range
        have psl : ps.length = mr.places.length := by rw [hps.length_eq, List.length_range]
        have bXX2 : But a X X2 := (But.of g1).trans bt2
        have lc2 := lc.go hb nra nka noa bXX2
        have nle2 := off nle
        have hle2 := bXX2 _ _ nle2 hle
        have kT2 := KeepT.but hb bXX2
        have nlsX : X ls = none := g1.free nls
        have e4 : ls ≠ le := fun z => by
          rw [z, hle] at nlsX
          cases nlsX
        refine ⟨ls, rfl, ⟨_, SqL.of hls⟩, for_list (K := K) (a := ls) (xs := ps.map fun i : Nat => V.int ((i : Nat) : Int)) (fun j σ Y => ∃ (y11 : Option V) (le : Addr) (vs : List V) (es : List En), σ = [some (.ref a), some (.ref gd), some rowv, some (.ref ph), some wv, some (.ref pt), some (.ref le), some (.ref lr), some (.ref lk), some (.ref lo), some (.int (0 + (i : Nat))), y11, none, none, none, none, none, none, none, none, none, none] ∧ Lc K H Y a pt lr lk lo mr (opsOf roof) ∧ Y le = some (.lst vs) ∧ DpAll K Y vs (es.map En.d) ∧ es.Nodup ∧ (∀ e ∈ es, Drawn mr phs i (ps.take j) e) ∧ es.length ≤ 3 * i + j ∧ Y a = some (.lst b3) ∧ Y ls = some (.lst (ps.map fun i : Nat => V.int ((i : Nat) : Int))) ∧ H le = none ∧ le ≠ lr ∧ le ≠ lk ∧ le ≠ lo)
          ⟨y11, le, vs, es, rfl, lc2, hle2, dpAll_imm kT2 hds (immAll_map En.imm es), hnd, fun e he => ?_, by omega, hb3, hls, nle, e1, e2, e3⟩ (fun j σ Y _ ⟨_, _, _, _, _, _, _, _, _, _, _, _, h, _⟩ => SqL.of h) ?_ ?_⟩
        · have h := hdr e he
          cases e with
          | kept w => exact h.elim
          | sp p w =>
            obtain ⟨k, t, h1, h2, h3⟩ := h
            exact ⟨k, t, h1, h2, h3.elim .inl (fun z => nomatch z.2)⟩
        · rintro j x σ Y hx ⟨y11, le, vs, es, rfl, lcY, hleY, hdsY, hndY, hdrY, helY, hbY, hlsY, nleY, f1, f2, f3⟩
          obtain ⟨p, hp, rfl⟩ : ∃ p : Nat, ps[j]? = some p ∧ x = V.int ((p : Nat) : Int) := by
            rw [List.getElem?_map] at hx
            cases e : ps[j]? with
            | none => rw [e] at hx; cases hx
            | some p => rw [e] at hx; exact ⟨p, rfl, (Option.some.inj hx).symm⟩
          have hjl : j < ps.length := (List.getElem?_eq_some_iff.mp hp).1
          have hpl : p < mr.places.length := by
            have := hps.mem_iff.mp (List.mem_of_getElem? hp)
            exact List.mem_range.mp this
          obtain ⟨k, hk⟩ : ∃ k, mr.places[p]? = some k := ⟨mr.places[p], List.getElem?_eq_getElem hpl⟩
          obtain ⟨r, hr1, hr2⟩ := cx.so k (List.mem_of_getElem? hk)
          have cY := cx.but ha lcY.bt
          obtain ⟨phk, p1, p2⟩ := cY.p
          obtain ⟨pl, h1, h2, h3, h4⟩ := p2 r hr1
          rw [hr2] at h1 h3 h4
          refine ⟨_, rfl, _, rfl, _, rfl, _, rfl, pt, _, _, _, rfl, rfl, lcY.pt, atI_nat (nmV_at hk), ph, .ref pl, rfl, by have h := DGet.k (k := Sum.inr (SX.S k)) p1; rw [h1] at h; exact h, ?_⟩
          refine ⟨_, rfl, _, rfl, _, rfl, _, _, rfl, rfl, _, rfl, pl, _, rfl, SqL.of h3, fun c nc => ?_⟩
          have ec : cutV (nmV (phs k)) (some (0 + (i : Nat) : Int)) (some (0 + (i : Nat) + 1 : Int)) = nmV (((phs k).drop i).take 1) := by
            rw [Int.zero_add, show ((i : Nat) : Int) + 1 = ((i + 1 : Nat) : Int) by omega, cutV_nat, show i + 1 - i = 1 by omega, nmV_drop, nmV_take]
          have k1 := same_upd (o := .lst (cutV (nmV (phs k)) (some (0 + (i : Nat) : Int)) (some (0 + (i : Nat) + 1 : Int)))) nc
          have hc := upd_same (H := Y) (a := c) (o := .lst (cutV (nmV (phs k)) (some (0 + (i : Nat) : Int)) (some (0 + (i : Nat) + 1 : Int))))
          obtain ⟨Y1, eY1⟩ : ∃ Y1, Y1 = upd Y c (.lst (cutV (nmV (phs k)) (some (0 + (i : Nat) : Int)) (some (0 + (i : Nat) + 1 : Int)))) := ⟨_, rfl⟩
          rw [← eY1] at k1 hc ⊢
          rw [ec] at hc
          obtain ⟨wl, ewl⟩ : ∃ wl, wl = ((phs k).drop i).take 1 := ⟨_, rfl⟩
          rw [← ewl] at hc
          refine ⟨c, rfl, ⟨_, SqL.of hc⟩, fun D nD => ?_⟩
          refine lc_list (K := K) (a := c) (xs := nmV wl) (fun j H' => Same Y1 H' ∧ ∃ us, H' D = some (.lst us) ∧ DpAll K H' us (((wl.take j).map (En.sp p)).map En.d)) ⟨same_upd nD, [], upd_same, .nil⟩ (fun j H' _ h => SqL.of (h.1 _ _ hc)) ?_ ?_
          · rintro t v Z hv ⟨sZ, us, hD, hus⟩
            obtain ⟨wd, hwd, rfl⟩ : ∃ wd, wl[t]? = some wd ∧ v = V.str (SX.S wd) := by
              unfold nmV at hv
              rw [List.getElem?_map] at hv
              cases e : wl[t]? with
              | none => rw [e] at hv; cases hv
              | some u => rw [e] at hv; exact ⟨u, rfl, (Option.some.inj hv).symm⟩
            have hlen := dpAll_len hus
            rw [List.length_map, List.length_map, List.length_take] at hlen
            have wl1 : wl.length ≤ 1 := by
              rw [ewl, List.length_take]
              omega
            refine ⟨rfl, yesT ?_⟩
            refine ⟨_, rfl, _, rfl, by show 3 ≤ sizeLine; decide, fun tq ntq => ?_⟩
            have k2 := same_upd (o := .tup [.str "at", .int (p : Nat), .str (SX.S wd)]) ntq
            refine ⟨us, k2 _ _ hD, small1000 (by omega), Same.at_ (sZ.trans k2) nD, us ++ [.ref tq], upd_same, ?_⟩
            rw [List.take_add_one, hwd, List.map_append, List.map_append]
            have kl : KeepT (upd Z tq (.tup [.str "at", .int (p : Nat), .str (SX.S wd)])) (upd (upd Z tq (.tup [.str "at", .int (p : Nat), .str (SX.S wd)])) D (.lst (us ++ [.ref tq]))) := KeepT.at_ (k2 _ _ hD) lst_no
            exact dpAll_appI (dpAll_imm ((KeepT.of k2).trans kl) hus (immAll_map En.imm _)) (.cons (dp_imm kl (.tup (SqT.of upd_same) (.cons (.str _) (.cons (.int _) (.cons (.str _) .nil)))) rfl) .nil)
          rintro Z ⟨sZ, us, hD, hus⟩
          rw [nmV_len, List.take_length] at hus
          have sYZ := k1.trans sZ
          have lv := dpAll_len hdsY
          rw [List.length_map] at lv
          have lu := dpAll_len hus
          rw [List.length_map, List.length_map] at lu
          have wl1 : wl.length ≤ 1 := by
            rw [ewl, List.length_take]
            omega
          refine ⟨le, D, _, _, rfl, rfl, sYZ _ _ hleY, hD, Nat.le_trans (show _ ≤ 100 from by omega) (by decide), fun le' nle' => ?_⟩
          have k3 := same_upd (o := .lst (vs ++ us)) nle'
          have sA := sYZ.trans k3
          have nleH' : H le' = none := But.free (lcY.bt.trans (But.of sYZ)) (sYZ _ _ hbY) nle'
          refine ⟨_, le', vs ++ us, es ++ wl.map (En.sp p), rfl, lcY.go hbY nra nka noa (But.of sA), upd_same, ?_, ?_, fun e he => ?_, ?_, sA _ _ hbY, sA _ _ hlsY, nleH', ?_, ?_, ?_⟩
          · rw [List.map_append]
            exact dpAll_appI (dpAll_same sA hdsY) (dpAll_same k3 hus)
          · rw [List.nodup_append]
            refine ⟨hndY, ?_, fun x hx y hy e => ?_⟩
            · cases wl with
              | nil => exact List.nodup_nil
              | cons u r =>
                cases r with
                | nil => simp
                | cons _ _ => simp at wl1
            · subst e
              obtain ⟨u, hu, rfl⟩ := List.mem_map.mp hy
              obtain ⟨k', t, g1, g2, g3⟩ := hdrY _ hx
              rw [hk] at g1
              cases g1
              have hui : (phs k)[i]? = some u := by
                rw [ewl] at hu
                cases ed : (phs k).drop i with
                | nil =>
                  rw [ed] at hu
                  cases hu
                | cons v r =>
                  rw [ed] at hu
                  have : u = v := by simpa using hu
                  subst this
                  have := List.getElem?_drop (xs := phs k) (i := i) (j := 0)
                  rw [ed] at this
                  exact this.symm
              have nd : (phs k).Nodup := h4.nodup_iff.mpr ((cx.sok.ok r hr1).nd)
              rcases g3 with g3 | ⟨rfl, g3⟩
              · have := (List.getElem?_inj (by
                  rcases List.getElem?_eq_some_iff.mp hui with ⟨hh, _⟩
                  omega) nd).mp (g2.trans hui.symm)
                omega
              · obtain ⟨s1, hs1, hs2⟩ := List.getElem_of_mem g3
                rw [List.length_take] at hs1
                rw [List.getElem_take] at hs2
                have hs3 : ps[s1]? = some p := by
                  rw [List.getElem?_eq_getElem (by omega), hs2]
                have := (List.getElem?_inj (by omega) psn).mp (hs3.trans hp.symm)
                omega
          · rcases List.mem_append.mp he with he | he
            · have h := hdrY e he
              cases e with
              | kept w => exact h.elim
              | sp p' w =>
                obtain ⟨k', t, g1, g2, g3⟩ := h
                refine ⟨k', t, g1, g2, g3.elim .inl fun z => .inr ⟨z.1, ?_⟩⟩
                rw [List.take_add_one]
                exact List.mem_append_left _ z.2
            · obtain ⟨u, hu, rfl⟩ := List.mem_map.mp he
              refine ⟨k, i, hk, ?_, .inr ⟨rfl, ?_⟩⟩
              · rw [ewl] at hu
                cases ed : (phs k).drop i with
                | nil =>
                  rw [ed] at hu
                  cases hu
                | cons v r =>
                  rw [ed] at hu
                  have : u = v := by simpa using hu
                  subst this
                  have := List.getElem?_drop (xs := phs k) (i := i) (j := 0)
                  rw [ed] at this
                  exact this.symm
              · rw [List.take_add_one, hp]
                exact List.mem_append_right _ (by simp)
          · rw [List.length_append, List.length_map]
            omega
          · exact fun z => by
              have := sYZ _ _ lcY.lr
              rw [← z, nle'] at this
              cases this
          · exact fun z => by
              have := sYZ _ _ lcY.lk
              rw [← z, nle'] at this
              cases this
          · exact fun z => by
              have := sYZ _ _ lcY.lo
              rw [← z, nle'] at this
              cases this
        · rintro σ Y ⟨y11, le, vs, es, rfl, lcY, hleY, hdsY, hndY, hdrY, helY, hbY, hlsY, nleY, f1, f2, f3⟩
          refine ⟨_, _, le, vs, es, b3, rfl, lcY, hleY, hdsY, hndY, fun e he => ?_, by rw [List.length_map] at helY; omega, hbY, hB3.mono (by rw [lrg]; omega), nleY, f1, f2, f3⟩
          have h := hdrY e he
          cases e with
          | kept w => exact h.elim
          | sp p w =>
            obtain ⟨k, t, h1, h2, h3⟩ := h
            exact ⟨k, t, h1, h2, .inl (by rcases h3 with h3 | h3 <;> omega)⟩
      · rintro σ X ⟨y10, y11, le, vs, es, b2, rfl, lc, hle, hds, hnd, hdr, hel, hb, hBx, nle, e1, e2, e3⟩
        exact ⟨_, _, le, vs, es, b2, rfl, lc, hle, hds, hnd, hdr, hel, hb, hBx, nle, e1, e2, e3⟩
    rintro σ X2 ⟨y10, y11, le, vs2, es2, b2, rfl, lc2, hle2, hds2, hnd2, hdr2, hel2, hb2, hB2, nle, e1, e2, e3⟩
    have nea := off nle
    have eok2 : ∀ e ∈ es2, EnOk rs mr [] e := fun e he => by
      have h := hdr2 e he
      cases e with
      | kept w => exact h.elim
      | sp p w =>
        obtain ⟨k, t, h1, h2, _⟩ := h
        obtain ⟨r, hr1, hr2⟩ := cx.so k (List.mem_of_getElem? h1)
        obtain ⟨phk, _, p2⟩ := cx.p
        obtain ⟨pl, _, _, _, hp⟩ := p2 r hr1
        rw [hr2] at hp
        exact ⟨k, r, h1, hr1, hr2, hp.mem_iff.mp (List.mem_of_getElem? h2)⟩
    -- the kept ones
    refine ⟨fun σ X => ∃ (y12 : Option V) (vs : List V) (es : List En) (ks : List (List Nat)) (b' : List V), σ = [some (.ref a), some (.ref gd), some rowv, some (.ref ph), some wv, some (.ref pt), some (.ref le), some (.ref lr), some (.ref lk), some (.ref lo), y10, y11, y12, none, none, none, none, none, none, none, none, none] ∧ Lc K H X a pt lr lk lo mr (opsOf roof) ∧ X le = some (.lst vs) ∧ DpAll K X vs (es.map En.d) ∧ es.Nodup ∧ ks.length ≤ 2 ∧ (∀ e ∈ es, EnOk rs mr ks e) ∧ es.length ≤ 11 ∧ X a = some (.lst b') ∧ BoxL (m + 40) b', ?_, ?_⟩
    · refine ⟨_, rfl, _, rfl, a, 3, _, b2, rfl, hb2, hB2, by omega, by decide, by decide, fun r0 b3 h0 h0' hB3 => ?_⟩
      obtain ⟨n0, rfl⟩ := Int.eq_ofNat_of_zero_le h0
      have bX3 : But a X2 (upd X2 a (.lst b3)) := But.upd (But.refl a X2)
      have ha3 : (upd X2 a (.lst b3)) a = some (.lst b3) := upd_same
      obtain ⟨X3, e3'⟩ : ∃ X3, X3 = upd X2 a (.lst b3) := ⟨_, rfl⟩
      rw [← e3'] at bX3 ha3 ⊢
      refine ⟨a, n0, _, b3, rfl, by omega, ha3, hB3, by omega, fun X4 ln ws b4 bt4 nln hln hwl hwn hws hb4 hB4 => ?_⟩
      have bX4 := bX3.trans bt4
      have lc4 := lc2.go hb2 nra nka noa bX4
      have hle4 := bX4 _ _ nea hle2
      have kT4 := KeepT.but hb2 bX4
      have nlnX2 : X2 ln = none := But.free bX3 ha3 nln
      have nlne : ln ≠ le := fun z => by
        rw [z, hle2] at nlnX2
        cases nlnX2
      have nlna : ln ≠ a := fun z => by
        rw [z, hb2] at nlnX2
        cases nlnX2
      refine ⟨ln, rfl, ⟨_, SqL.of hln⟩, for_list (K := K) (a := ln) (xs := nmV ws) (fun j σ Y => ∃ (y12 : Option V) (vs : List V) (es : List En) (b' : List V), σ = [some (.ref a), some (.ref gd), some rowv, some (.ref ph), some wv, some (.ref pt), some (.ref le), some (.ref lr), some (.ref lk), some (.ref lo), y10, y11, y12, none, none, none, none, none, none, none, none, none] ∧ Lc K H Y a pt lr lk lo mr (opsOf roof) ∧ Y le = some (.lst vs) ∧ DpAll K Y vs (es.map En.d) ∧ es.Nodup ∧ (∀ e ∈ es, EnOk rs mr (ws.take j) e) ∧ es.length ≤ 9 + j ∧ Y a = some (.lst b') ∧ BoxL (m + 9 + 1 + 10 * n0 + j) b' ∧ Y ln = some (.lst (nmV ws)))
        ⟨none, vs2, es2, b4, rfl, lc4, hle4, dpAll_imm kT4 hds2 (immAll_map En.imm es2), hnd2, eok2, hel2, hb4, hB4, hln⟩ (fun j σ Y _ ⟨_, _, _, _, _, _, _, _, _, _, _, _, _, h⟩ => SqL.of h) ?_ ?_⟩
      · rintro j x σ Y hx ⟨y12, vs, es, b5, rfl, lcY, hleY, hdsY, hndY, hokY, helY, hbY, hBY, hlnY⟩
        obtain ⟨wd, hwd, rfl⟩ : ∃ wd, ws[j]? = some wd ∧ x = V.str (SX.S wd) := by
          unfold nmV at hx
          rw [List.getElem?_map] at hx
          cases e : ws[j]? with
          | none => rw [e] at hx; cases hx
          | some u => rw [e] at hx; exact ⟨u, rfl, (Option.some.inj hx).symm⟩
        have hjw : j < ws.length := (List.getElem?_eq_some_iff.mp hwd).1
        have cY := cx.but ha lcY.bt
        obtain ⟨rq, rt, erv, hr1, hr2⟩ := row_at cY.row
        obtain ⟨phk, p1, p2⟩ := cY.p
        obtain ⟨r, hrm, hrn⟩ := cx.so mr.so (List.mem_cons_self ..)
        obtain ⟨pl, h1, h2, h3, h4⟩ := p2 r hrm
        rw [hrn] at h1 h3 h4
        subst erv
        refine ⟨_, rfl, _, rfl, _, rfl, rq, _, 1, .str (SX.S mr.so), rfl, rfl, hr1, atI_nat (j := 1) rfl, ph, .ref pl, rfl, by have h := DGet.k (k := Sum.inr (SX.S mr.so)) p1; rw [h1] at h; exact h, pl, _, rfl, .inl (SqL.of h3), rfl, flat_names _, _, rfl, ?_⟩
        show if (!inV (.str (SX.S wd)) (nmV (phs mr.so))) = true then _ else _
        rw [in_names]
        have takeM : ∀ w ∈ ws.take j, w ∈ ws.take (j + 1) := fun w hw => by
          rw [List.take_add_one]
          exact List.mem_append_left _ hw
        by_cases hin : wd ∈ phs mr.so
        · refine ifF (by rw [decide_eq_true hin]; rfl) ?_
          exact ⟨_, vs, es, b5, rfl, lcY, hleY, hdsY, hndY, fun e he => (hokY e he).mono takeM, by omega, hbY, hBY.mono (by omega), hlnY⟩
        · refine ifT (by rw [decide_eq_false hin]; rfl) ?_
          have lv := dpAll_len hdsY
          rw [List.length_map] at lv
          refine ⟨_, rfl, .inl ⟨rfl, _, SqL.of hleY⟩, ?_⟩
          refine ⟨_, rfl, _, rfl, le, _, rfl, .inl (SqL.of hleY), _, _, rfl, rfl, a, _, _, b5, rfl, hbY, hBY, by omega, by omega, by omega, fun r5 b6 h5 h5' hB6 => ?_⟩
          obtain ⟨kk, rfl⟩ := Int.eq_ofNat_of_zero_le h5
          have bY1 : But a Y (upd Y a (.lst b6)) := But.upd (But.refl a Y)
          have haY1 : (upd Y a (.lst b6)) a = some (.lst b6) := upd_same
          obtain ⟨Y1, eY1⟩ : ∃ Y1, Y1 = upd Y a (.lst b6) := ⟨_, rfl⟩
          rw [← eY1] at bY1 haY1 ⊢
          refine ⟨_, rfl, by show 2 ≤ sizeLine; decide, fun tq ntq => ?_⟩
          have k1 := same_upd (o := .tup [.str "kept", .str (SX.S wd)]) ntq
          have bY2 := bY1.trans (But.of (a := a) k1)
          have hle6 := bY2 _ _ nea hleY
          refine ⟨le, vs, _, .ref tq, rfl, rfl, hle6, small1000 (by omega), by omega, by omega, ?_⟩
          rw [Int.toNat_natCast]
          have kt := KeepT.but hbY bY2
          have dN : Dp K (upd Y1 tq (.tup [.str "kept", .str (SX.S wd)])) (.ref tq) (En.d (.kept wd)) := .tup (SqT.of upd_same) (.cons (.str _) (.cons (.str _) .nil))
          obtain ⟨Y2, eY2⟩ : ∃ Y2, Y2 = upd Y1 tq (.tup [.str "kept", .str (SX.S wd)]) := ⟨_, rfl⟩
          rw [← eY2] at k1 bY2 hle6 kt dN ⊢
          have kl : KeepT Y2 (upd Y2 le (.lst (vs.take kk ++ [.ref tq] ++ vs.drop kk))) := KeepT.at_ hle6 lst_no
          have lcY2 := lcY.go hbY nra nka noa bY2
          have fresh : En.kept wd ∉ es := fun hm => by
            have := (hokY _ hm).2
            obtain ⟨s1, hs1, hs2⟩ := List.getElem_of_mem this
            rw [List.length_take] at hs1
            rw [List.getElem_take] at hs2
            have hs3 : ws[s1]? = some wd := by rw [List.getElem?_eq_getElem (by omega), hs2]
            have := (List.getElem?_inj (by omega) hwn).mp (hs3.trans hwd.symm)
            omega
          refine ⟨_, vs.take kk ++ [.ref tq] ++ vs.drop kk, es.take kk ++ [.kept wd] ++ es.drop kk, b6, rfl, ⟨fun c o nc hc => ?_, kl.seqT lcY2.pt, ?_, ?_, ?_⟩, upd_same, ?_, ?_, fun e he => ?_, ?_, ?_, hB6.mono (by omega), ?_⟩
          · rw [upd_ne (ne_of_none hc nle)]
            exact lcY2.bt c o nc hc
          · rw [upd_ne e1.symm]
            exact lcY2.lr
          · rw [upd_ne e2.symm]
            exact lcY2.lk
          · rw [upd_ne e3.symm]
            exact lcY2.lo
          · rw [List.map_append, List.map_append, List.map_take, List.map_drop]
            have dA := dpAll_imm (kt.trans kl) hdsY (immAll_map En.imm es)
            exact dpAll_appI (dpAll_appI (dpAll_take kk dA) (.cons (dp_imm kl dN rfl) .nil)) (dpAll_drop kk dA)
          · rw [(ins_perm es (.kept wd) kk).nodup_iff, List.nodup_cons]
            exact ⟨fresh, hndY⟩
          · rcases List.mem_cons.mp ((ins_perm es (.kept wd) kk).mem_iff.mp he) with rfl | he
            · refine ⟨⟨hws wd (List.mem_of_getElem? hwd), fun r' hr' hn' hm' => hin ?_⟩, ?_⟩
              · obtain ⟨pl', _, _, _, hp'⟩ := p2 r' hr'
                rw [hn'] at hp'
                exact hp'.mem_iff.mpr hm'
              · rw [List.take_add_one, hwd]
                exact List.mem_append_right _ (by simp)
            · exact (hokY e he).mono takeM
          · rw [(ins_perm es (.kept wd) kk).length_eq, List.length_cons]
            omega
          · rw [upd_ne nea.symm]
            exact k1 _ _ haY1
          · rw [upd_ne nlne]
            exact bY2 _ _ nlna hlnY
      · rintro σ Y ⟨y12, vs, es, b5, rfl, lcY, hleY, hdsY, hndY, hokY, helY, hbY, hBY, hlnY⟩
        rw [nmV_len] at hokY helY hBY
        rw [List.take_length] at hokY
        exact ⟨_, vs, es, ws, b5, rfl, lcY, hleY, hdsY, hndY, by omega, hokY, by omega, hbY, hBY.mono (by omega)⟩
    rintro σ X5 ⟨y12, vs, es, ks, b5, rfl, lc5, hle5, hds5, hnd5, hk2, hok5, hel5, hb5, hB5⟩
    have small5 : ∀ e ∈ es, NmSmall (enW e) := fun e he => by
      have h := hok5 e he
      cases e with
      | sp p w =>
        obtain ⟨k, r, _, hr, _, hw⟩ := h
        exact nm_small ((cx.sok.ok r hr).all w hw)
      | kept w => exact nm_small h.1.1
    have lv5 := dpAll_len hds5
    rw [List.length_map] at lv5
    -- those that may be needed
    refine ⟨fun σ X => ∃ (lf : Addr) (us : List V) (fs : List En), σ = [some (.ref a), some (.ref gd), some rowv, some (.ref ph), some wv, some (.ref pt), some (.ref le), some (.ref lr), some (.ref lk), some (.ref lo), y10, y11, y12, some (.ref lf), none, none, none, none, none, none, none, none] ∧ Same X5 X ∧ X5 lf = none ∧ X lf = some (.lst us) ∧ DpAll K X us (fs.map En.d) ∧ (∀ e ∈ fs, e ∈ es ∧ FrOk rs mr e) ∧ (∀ e ∈ es, e ∉ fs → TgOk rs mr e) ∧ fs.length ≤ 11, ?_, ?_⟩
    · refine ⟨_, rfl, le, rfl, ⟨_, SqL.of hle5⟩, fun D nD => ?_⟩
      refine lc_list (K := K) (a := le) (xs := vs) (fun j Y => Same X5 Y ∧ ∃ (us : List V) (fs : List En), Y D = some (.lst us) ∧ DpAll K Y us (fs.map En.d) ∧ (∀ e ∈ fs, e ∈ es.take j ∧ FrOk rs mr e) ∧ (∀ e ∈ es.take j, e ∉ fs → TgOk rs mr e) ∧ fs.length ≤ j)
        ⟨same_upd nD, [], [], upd_same, .nil, (fun e h => nomatch h), (fun e h => nomatch h), Nat.le_refl _⟩ (fun j Y _ h => SqL.of (h.1 _ _ hle5)) ?_ ?_
      · rintro j x Y hx ⟨sY, us, fs, hD, hus, hfs, hns, hfl⟩
        obtain ⟨dd, hdd, hxd⟩ := dpAll_at hds5 hx
        rw [List.getElem?_map] at hdd
        obtain ⟨e, he, rfl⟩ : ∃ e, es[j]? = some e ∧ dd = e.d := by
          cases h : es[j]? with
          | none => rw [h] at hdd; cases hdd
          | some e => rw [h] at hdd; exact ⟨e, rfl, (Option.some.inj hdd).symm⟩
        have hjl : j < es.length := (List.getElem?_eq_some_iff.mp he).1
        have ok := hok5 e (List.mem_of_getElem? he)
        have lu := dpAll_len hus
        rw [List.length_map] at lu
        have tk : es.take (j + 1) = es.take j ++ [e] := by rw [List.take_add_one, he]; rfl
        -- it is kept, or left out
        have yes : FrOk rs mr e → ∀ Z, Same Y Z → Same X5 (upd Z D (.lst (us ++ [x]))) ∧ ∃ (us' : List V) (fs' : List En), (upd Z D (.lst (us ++ [x]))) D = some (.lst us') ∧ DpAll K (upd Z D (.lst (us ++ [x]))) us' (fs'.map En.d) ∧ (∀ e ∈ fs', e ∈ es.take (j + 1) ∧ FrOk rs mr e) ∧ (∀ e ∈ es.take (j + 1), e ∉ fs' → TgOk rs mr e) ∧ fs'.length ≤ j + 1 := fun hfr Z sZ => by
          have hDZ := sZ _ _ hD
          have kl : KeepT Z (upd Z D (.lst (us ++ [x]))) := KeepT.at_ hDZ lst_no
          refine ⟨Same.at_ (sY.trans sZ) nD, us ++ [x], fs ++ [e], upd_same, ?_, fun e' he' => ?_, fun e' he' hn' => ?_, by rw [List.length_append]; show fs.length + 1 ≤ j + 1; omega⟩
          · rw [List.map_append]
            exact dpAll_appI (dpAll_imm ((KeepT.of sZ).trans kl) hus (immAll_map En.imm fs)) (.cons (dp_imm kl (dp_same (sY.trans sZ) hxd) e.imm) .nil)
          · rw [tk]
            rcases List.mem_append.mp he' with h | h
            · exact ⟨List.mem_append_left _ (hfs e' h).1, (hfs e' h).2⟩
            · rw [List.mem_singleton.mp h]
              exact ⟨List.mem_append_right _ (by simp), hfr⟩
          · rw [tk] at he'
            rcases List.mem_append.mp he' with h | h
            · exact hns e' h fun z => hn' (List.mem_append_left _ z)
            · exact absurd (List.mem_append_right fs h) hn'
        refine ⟨rfl, ?_⟩
        cases e with
        | kept w =>
          obtain ⟨q0, rfl, hq0⟩ := en_at (dp_same sY hxd)
          have hq0 : SqT K Y q0 [.str "kept", .str (SX.S w)] := hq0
          refine ⟨_, rfl, q0, _, 0, .str "kept", rfl, rfl, hq0, atI_nat (j := 0) rfl, rfl, _, rfl, ifT (by decide +kernel) (iteT ?_)⟩
          exact ⟨_, rfl, us, hD, small1000 (by omega), yes ok.1 Y (Same.refl Y)⟩
        | sp p w =>
          obtain ⟨q0, rfl, hq0⟩ := en_at (dp_same sY hxd)
          have hq0 : SqT K Y q0 [.str "at", .int (p : Nat), .str (SX.S w)] := hq0
          refine ⟨_, rfl, q0, _, 0, .str "at", rfl, rfl, hq0, atI_nat (j := 0) rfl, rfl, _, rfl, ifF (by decide +kernel) ?_⟩
          obtain ⟨k, r, hk, hr, hrn, hw⟩ := ok
          have cY := (cx.but ha lc5.bt).but hb5 (But.of (a := a) sY)
          obtain ⟨kvs, of, ofk, q1, q2, q3, q4, q5⟩ := cY.g
          obtain ⟨vo, ho1, ho2⟩ := q5 r hr
          rw [hrn] at ho1
          obtain ⟨oq, td, tu, rfl, hoS, htd, htu⟩ : ∃ oq td tu, vo = .ref oq ∧ SqT K Y oq [.ref td, .ref tu] ∧ SqT K Y td (nmV r.dn) ∧ SqT K Y tu (nmV r.up) := by
            cases ho2 with
            | tup hS hA =>
              cases hA with
              | cons a1 hA =>
                cases hA with
                | cons a2 hA =>
                  cases hA
                  cases a1 with
                  | tup h1 h2 =>
                    cases a2 with
                    | tup h3 h4 =>
                      rw [names_of h2] at h1
                      rw [names_of h4] at h3
                      exact ⟨_, _, _, rfl, hS, h1, h3⟩
          refine ⟨_, rfl, q0, _, 2, .str (SX.S w), rfl, rfl, hq0, atI_nat (j := 2) rfl, ?_⟩
          refine ⟨_, rfl, gd, .ref of, rfl, by have h := DGet.k (k := Sum.inr "of") q1; rw [q3] at h; exact h, ?_⟩
          refine ⟨_, rfl, _, rfl, q0, _, 1, .int (p : Nat), rfl, rfl, hq0, atI_nat (j := 1) rfl, pt, _, _, _, rfl, rfl, Same.seqT sY lc5.pt, atI_nat (nmV_at hk), ?_⟩
          refine ⟨of, .ref oq, rfl, by have h := DGet.k (k := Sum.inr (SX.S k)) q4; rw [ho1] at h; exact h, ?_⟩
          refine ⟨_, rfl, q0, _, 1, .int (p : Nat), rfl, rfl, hq0, atI_nat (j := 1) rfl, rfl, .inr ⟨_, rfl, ?_⟩⟩
          have no : FrOk rs mr (.sp p w) → False → False := fun _ h => h
          by_cases hp0 : p = 0
          · subst hp0
            refine ⟨oq, _, 1, .ref tu, rfl, congrArg V.int (if_pos (by decide +kernel)), hoS, atI_nat (j := 1) rfl, ?_⟩
            refine ⟨tu, _, rfl, .inr htu, rfl, flat_names _, _, rfl, ?_⟩
            show if (!inV (.str (SX.S w)) (nmV r.up)) = true then _ else _
            rw [in_names]
            by_cases hin : w ∈ r.up
            · refine ifF (by rw [decide_eq_true hin]; rfl) ⟨sY, us, fs, hD, hus, fun e' he' => ⟨by rw [tk]; exact List.mem_append_left _ (hfs e' he').1, (hfs e' he').2⟩, fun e' he' hn' => ?_, by omega⟩
              rw [tk] at he'
              rcases List.mem_append.mp he' with h | h
              · exact hns e' h hn'
              · rw [List.mem_singleton.mp h]
                exact ⟨k, r, hk, hr, hrn, hin⟩
            · refine ifT (by rw [decide_eq_false hin]; rfl) ?_
              exact ⟨_, rfl, us, hD, small1000 (by omega), yes ⟨k, r, hk, hr, hrn, (List.mem_append.mp hw).elim id (fun z => absurd z hin)⟩ Y (Same.refl Y)⟩
          · refine ⟨oq, _, 0, .ref td, rfl, congrArg V.int (if_neg (by rw [decide_eq_false (fun z => hp0 (by have := V.int.inj z; omega))]; decide)), hoS, atI_nat (j := 0) rfl, ?_⟩
            refine ⟨td, _, rfl, .inr htd, rfl, flat_names _, _, rfl, ?_⟩
            show if (!inV (.str (SX.S w)) (nmV r.dn)) = true then _ else _
            rw [in_names]
            by_cases hin : w ∈ r.dn
            · refine ifF (by rw [decide_eq_true hin]; rfl) ⟨sY, us, fs, hD, hus, fun e' he' => ⟨by rw [tk]; exact List.mem_append_left _ (hfs e' he').1, (hfs e' he').2⟩, fun e' he' hn' => ?_, by omega⟩
              rw [tk] at he'
              rcases List.mem_append.mp he' with h | h
              · exact hns e' h hn'
              · rw [List.mem_singleton.mp h]
                refine ⟨k, r, hk, hr, hrn, ?_⟩
                rw [decide_eq_false hp0]
                exact hin
            · refine ifT (by rw [decide_eq_false hin]; rfl) ?_
              refine ⟨_, rfl, us, hD, small1000 (by omega), yes ⟨k, r, hk, hr, hrn, ?_⟩ Y (Same.refl Y)⟩
              rw [decide_eq_false hp0]
              exact (List.mem_append.mp hw).elim (fun z => absurd z hin) id
      · rintro Y ⟨sY, us, fs, hD, hus, hfs, hns, hfl⟩
        rw [lv5, List.take_length] at hfs hns
        exact ⟨D, us, fs, rfl, sY, nD, hD, hus, hfs, hns, by omega⟩
    rintro σ X6 ⟨lf, us, fs, rfl, s56, nlf5, hlf6, hus6, hfs, hns, hfl⟩
    have lc6 := lc5.go hb5 nra nka noa (But.of (a := a) s56)
    have hle6 := s56 _ _ hle5
    have hds6 := dpAll_same s56 hds5
    have hb6 := s56 _ _ hb5
    have nfa : lf ≠ a := fun z => by
      rw [z, hb5] at nlf5
      cases nlf5
    have nfr : lf ≠ lr := fun z => by
      rw [z, lc5.lr] at nlf5
      cases nlf5
    have ls6 : Ls K H X6 a le lo lf vs us es fs (opsOf roof) := ⟨lc6.bt, hle6, hds6, hlf6, hus6, lc6.lo⟩
    have luf := dpAll_len hus6
    rw [List.length_map] at luf
    refine ⟨_, rfl, le, rfl, ⟨_, SqL.of hle6⟩, for_list (K := K) (a := le) (xs := vs) (fun i σ Y => ∃ (y14 y15 y16 y17 y18 y19 y20 y21 : Option V) (lk : Addr) (kv rv b' : List V) (kn : List En) (ru : List RRow), σ = [some (.ref a), some (.ref gd), some rowv, some (.ref ph), some wv, some (.ref pt), some (.ref le), some (.ref lr), some (.ref lk), some (.ref lo), y10, y11, y12, some (.ref lf), y14, y15, y16, y17, y18, y19, y20, y21] ∧ Ls K H Y a le lo lf vs us es fs (opsOf roof) ∧ Y lr = some (.lst rv) ∧ DpAll K Y rv (ru.map RRow.d) ∧ Y lk = some (.lst kv) ∧ DpAll K Y kv (kn.map En.d) ∧ lk ≠ a ∧ lk ≠ lr ∧ Rst rs mr roof ks es fs i i ru kn ∧ Y a = some (.lst b') ∧ BoxL (m + 40 + 20 * i) b')
      ⟨none, none, none, none, none, none, none, none, lk, [], [], b5, [], [], rfl, ls6, lc6.lr, .nil, lc6.lk, .nil, nka, d4.symm, ⟨List.Sublist.slnil, (fun r h => nomatch h), (fun r h => nomatch h), Nat.le_refl _⟩, hb6, hB5⟩ (fun j σ Y _ ⟨_, _, _, _, _, _, _, _, _, _, _, _, _, _, _, h, _⟩ => SqL.of h.le) ?_ ?_⟩
    · rintro i x σ Y hx ⟨y14, y15, y16, y17, y18, y19, y20, y21, lk', kv, rv, b', kn, ru, rfl, ls, hlr, hru, hlk, hkn, nka', nkr', rst, hb, hB⟩
      obtain ⟨dd, hdd, hxd⟩ := dpAll_at ls.de hx
      rw [List.getElem?_map] at hdd
      obtain ⟨e, he, rfl⟩ : ∃ e, es[i]? = some e ∧ dd = e.d := by
        cases h : es[i]? with
        | none => rw [h] at hdd; cases hdd
        | some e => rw [h] at hdd; exact ⟨e, rfl, (Option.some.inj hdd).symm⟩
      have hil : i < es.length := (List.getElem?_eq_some_iff.mp he).1
      have hem := List.mem_of_getElem? he
      have ok := hok5 e hem
      have tk : es.take (i + 1) = es.take i ++ [e] := by rw [List.take_add_one, he]; rfl
      have lrv := dpAll_len hru
      rw [List.length_map] at lrv
      have lkv := dpAll_len hkn
      rw [List.length_map] at lkv
      have fss : ∀ e ∈ fs, NmSmall (enW e) := fun e h => small5 e (hfs e h).1
      -- a rule, or none
      refine ⟨fun σ Y => ∃ (y15 y16 y17 y18 y19 y20 y21 : Option V) (rv b' : List V) (ru : List RRow), σ = [some (.ref a), some (.ref gd), some rowv, some (.ref ph), some wv, some (.ref pt), some (.ref le), some (.ref lr), some (.ref lk'), some (.ref lo), y10, y11, y12, some (.ref lf), some x, y15, y16, y17, y18, y19, y20, y21] ∧ Ls K H Y a le lo lf vs us es fs (opsOf roof) ∧ Y lr = some (.lst rv) ∧ DpAll K Y rv (ru.map RRow.d) ∧ Y lk' = some (.lst kv) ∧ DpAll K Y kv (kn.map En.d) ∧ Rst rs mr roof ks es fs i (i + 1) ru kn ∧ Y a = some (.lst b') ∧ BoxL (m + 40 + 20 * (i + 1)) b', ?_, ?_⟩
      · have cY := cx.but ha ls.bt
        obtain ⟨wq, rfl, hwq⟩ := wild_at cY.wl
        -- what may be needed
        obtain ⟨sl, xs, cs, esl, hsl, dsl, hcs, hcl, nsa⟩ : ∃ (sl : Addr) (xs : List V) (cs : List En), (if wb = true then V.ref lf else V.ref lk') = .ref sl ∧ Y sl = some (.lst xs) ∧ DpAll K Y xs (cs.map En.d) ∧ (∀ e ∈ cs, e ∈ fs) ∧ cs.length ≤ 11 ∧ sl ≠ a := by
          have := rst.kl
          cases wb with
          | true => exact ⟨lf, us, fs, rfl, ls.lf, ls.df, fun e h => h, hfl, nfa⟩
          | false => exact ⟨lk', kv, kn, rfl, hlk, hkn, rst.kf, by omega, nka'⟩
        have lxs := dpAll_len dsl
        rw [List.length_map] at lxs
        have noRule : ∀ {Z : Hp} {b2 : List V}, But a Y Z → Z a = some (.lst b2) → BoxL (m + 40 + 20 * i + 1) b2 → ∃ (z15 z16 z17 z18 z19 z20 z21 : Option V) (rv b' : List V) (ru : List RRow), [some (.ref a), some (.ref gd), some rowv, some (.ref ph), some (.ref wq), some (.ref pt), some (.ref le), some (.ref lr), some (.ref lk'), some (.ref lo), y10, y11, y12, some (.ref lf), some x, y15, y16, y17, y18, y19, y20, y21] = [some (.ref a), some (.ref gd), some rowv, some (.ref ph), some (.ref wq), some (.ref pt), some (.ref le), some (.ref lr), some (.ref lk'), some (.ref lo), y10, y11, y12, some (.ref lf), some x, z15, z16, z17, z18, z19, z20, z21] ∧ Ls K H Z a le lo lf vs us es fs (opsOf roof) ∧ Z lr = some (.lst rv) ∧ DpAll K Z rv (ru.map RRow.d) ∧ Z lk' = some (.lst kv) ∧ DpAll K Z kv (kn.map En.d) ∧ Rst rs mr roof ks es fs i (i + 1) ru kn ∧ Z a = some (.lst b') ∧ BoxL (m + 40 + 20 * (i + 1)) b' := fun {Z b2} t h1 h2 =>
          have k := KeepT.but hb t
          ⟨y15, y16, y17, y18, y19, y20, y21, rv, b2, ru, rfl, ls.go hb nea nfa noa t, t _ _ nra hlr, dpAll_imm k hru (immAll_map RRow.imm ru), t _ _ nka' hlk, dpAll_imm k hkn (immAll_map En.imm kn), ⟨by rw [tk]; exact rst.sub.trans (List.sublist_append_left _ _), rst.ok, rst.kf, rst.kl⟩, h1, h2.mono (by omega)⟩
        refine ifs_or (c1 := isK e) (c2 := !decide (e ∈ fs)) (fun Q hQ => ?_) (fun Q hQ => ?_) (fun hc => ?_) (fun hc => ?_)
        · cases e with
          | kept w =>
            obtain ⟨q0, rfl, hq0⟩ := en_at hxd
            have hq0 : SqT K Y q0 [.str "kept", .str (SX.S w)] := hq0
            exact ⟨_, rfl, q0, _, 0, .str "kept", rfl, rfl, hq0, atI_nat (j := 0) rfl, rfl, _, rfl, hQ _ (by show decide (V.str (Str.ofString "kept") = V.str (Str.ofString "kept")) = true; decide +kernel)⟩
          | sp p w =>
            obtain ⟨q0, rfl, hq0⟩ := en_at hxd
            have hq0 : SqT K Y q0 [.str "at", .int (p : Nat), .str (SX.S w)] := hq0
            exact ⟨_, rfl, q0, _, 0, .str "at", rfl, rfl, hq0, atI_nat (j := 0) rfl, rfl, _, rfl, hQ _ (by show decide (V.str (Str.ofString "at") = V.str (Str.ofString "kept")) = false; decide +kernel)⟩
        · exact ⟨_, rfl, _, rfl, e.d, fs.map En.d, hxd, .lst (SqL.of ls.lf) ls.df, en_shape (small5 e hem), ens_shape fss, _, rfl, hQ _ (by rw [ens_any])⟩
        · have tg : TgOk rs mr e := by
            cases e with
            | kept w => exact ok.1
            | sp p w =>
              refine hns _ hem fun z => ?_
              rw [decide_eq_true z] at hc
              cases hc
          have wn0 := cx.w0
          have wn1 := cx.w1
          refine ⟨_, rfl, _, rfl, wq, _, 1, .int (wn : Nat), rfl, rfl, hwq, atI_nat (j := 1) rfl, a, _, _, b', rfl, hb, hB, by omega, by omega, by omega, fun r0 b1 h0 h0' hB1 => ?_⟩
          have bY1 : But a Y (upd Y a (.lst b1)) := But.upd (But.refl a Y)
          have hb1 : (upd Y a (.lst b1)) a = some (.lst b1) := upd_same
          obtain ⟨Y1, eY1⟩ : ∃ Y1, Y1 = upd Y a (.lst b1) := ⟨_, rfl⟩
          rw [← eY1] at bY1 hb1 ⊢
          refine ⟨_, _, rfl, rfl, _, rfl, ?_⟩
          by_cases hr0 : 0 < r0
          · refine ifT (decide_eq_true hr0) ?_
            have ls1 := ls.go hb nea nfa noa bY1
            obtain ⟨ol1, ol2⟩ := ops_len roof
            refine ⟨_, rfl, _, rfl, a, lo, _, b1, nmV (opsOf roof), rfl, hb1, hB1, by omega, SqL.of ls1.lo, noa, by rw [nmV_len]; exact ol1, by rw [nmV_len]; omega, fun i2 ov b2 hov hB2 => ?_⟩
            have bY2 : But a Y (upd Y1 a (.lst b2)) := bY1.trans (But.upd (But.refl a Y1))
            have hb2 : (upd Y1 a (.lst b2)) a = some (.lst b2) := upd_same
            obtain ⟨Y2, eY2⟩ : ∃ Y2, Y2 = upd Y1 a (.lst b2) := ⟨_, rfl⟩
            rw [← eY2] at bY2 hb2 ⊢
            obtain ⟨op, hop, rfl⟩ : ∃ op, op ∈ opsOf roof ∧ ov = V.str (SX.S op) := by
              unfold nmV at hov
              rw [List.getElem?_map] at hov
              cases eo : (opsOf roof)[i2]? with
              | none => rw [eo] at hov; cases hov
              | some u => rw [eo] at hov; exact ⟨u, List.mem_of_getElem? eo, (Option.some.inj hov).symm⟩
            refine ⟨_, rfl, wq, _, 0, .bl wb, rfl, rfl, (KeepT.but hb bY2).seqT hwq, atI_nat (j := 0) rfl, wb, rfl, ?_⟩
            refine if_some (ta := tVar 13) (tb := tVar 8) (u := .ref lf) (v := .ref lk') (fun Q h => ⟨_, rfl, h⟩) (fun Q h => ⟨_, rfl, h⟩) ?_
            rw [esl]
            refine ⟨by show 0 ≤ sizeLine; decide, fun lp nlp => ⟨_, _, _, rfl, ?_⟩⟩
            have s3 := same_upd (o := .lst []) nlp
            have bY3 : But a Y (upd Y2 lp (.lst [])) := bY2.trans (But.of s3)
            have hb3 := s3 _ _ hb2
            have hlp3 : (upd Y2 lp (.lst [])) lp = some (.lst []) := upd_same
            obtain ⟨Y3, eY3⟩ : ∃ Y3, Y3 = upd Y2 lp (.lst []) := ⟨_, rfl⟩
            rw [← eY3] at bY3 hb3 hlp3 ⊢
            have nlpY : Y lp = none := But.free bY2 hb2 nlp
            have npa : lp ≠ a := fun z => by
              rw [z, hb] at nlpY
              cases nlpY
            -- its operands
            refine ⟨fun σ Z => ∃ (y18 y19 y20 : Option V) (ov b4 : List V) (os : List Od), σ = [some (.ref a), some (.ref gd), some rowv, some (.ref ph), some (.ref wq), some (.ref pt), some (.ref le), some (.ref lr), some (.ref lk'), some (.ref lo), y10, y11, y12, some (.ref lf), some x, some (.str (SX.S op)), some (.ref sl), some (.ref lp), y18, y19, y20, y21] ∧ But a Y Z ∧ Z lp = some (.lst ov) ∧ DpAll K Z ov (os.map Od.d) ∧ os.length = arOf op ∧ (∀ o ∈ os, OdOk rs mr o ∧ ∀ w ∈ odName o, w ∈ ks) ∧ Z a = some (.lst b4) ∧ BoxL (m + 40 + 20 * i + 20) b4, ?_, ?_⟩
            · refine fun dp ndp => ⟨upd_same, AR, rfl, by decide, dp, rfl, .inl ⟨_, Rd.of upd_same⟩, _, rfl, _, DGet.k (k := Sum.inr (SX.S op)) upd_same, ((arOf op : Nat) : Int), by rw [ar_get hop], by omega, by have := ar_le op; omega, ?_⟩
              have s4 : Same Y3 (upd (upd Y3 dp (.dK [])) dp (.dK (mergeK [] AR))) := Same.at_ (same_upd ndp) ndp
              obtain ⟨Y4, eY4⟩ : ∃ Y4, Y4 = upd (upd Y3 dp (.dK [])) dp (.dK (mergeK [] AR)) := ⟨_, rfl⟩
              rw [← eY4] at s4 ⊢
              refine for_range (lo := 0) (n := Int.toNat ((arOf op : Nat) : Int)) (fun j σ Z => ∃ (y18 y19 y20 : Option V) (ov b4 : List V) (os : List Od), σ = [some (.ref a), some (.ref gd), some rowv, some (.ref ph), some (.ref wq), some (.ref pt), some (.ref le), some (.ref lr), some (.ref lk'), some (.ref lo), y10, y11, y12, some (.ref lf), some x, some (.str (SX.S op)), some (.ref sl), some (.ref lp), y18, y19, y20, y21] ∧ But a Y Z ∧ Z lp = some (.lst ov) ∧ DpAll K Z ov (os.map Od.d) ∧ os.length = j ∧ (∀ o ∈ os, OdOk rs mr o ∧ ∀ w ∈ odName o, w ∈ ks) ∧ Z a = some (.lst b4) ∧ BoxL (m + 40 + 20 * i + 2 + 6 * j) b4)
                ⟨_, _, _, [], b2, [], rfl, bY3.trans (But.of s4), s4 _ _ hlp3, .nil, rfl, (fun r h => nomatch h), s4 _ _ hb3, hB2⟩ ?_ ?_
              · rintro j σ Z hj ⟨z18, z19, z20, ov, b4, os, rfl, btZ, hlpZ, hos, hol, hook, hb4, hB4⟩
                have hj3 : j < 3 := by
                  have := ar_le op
                  rw [Int.toNat_natCast] at hj
                  omega
                have lov := dpAll_len hos
                rw [List.length_map] at lov
                refine ⟨_, rfl, a, _, _, b4, rfl, hb4, hB4, by omega, by decide, by decide, fun w0 b5 h0 h0' hB5 => ?_⟩
                obtain ⟨ww, rfl⟩ := Int.eq_ofNat_of_zero_le h0
                have bZ1 : But a Z (upd Z a (.lst b5)) := But.upd (But.refl a Z)
                have hb5 : (upd Z a (.lst b5)) a = some (.lst b5) := upd_same
                obtain ⟨Z1, eZ1⟩ : ∃ Z1, Z1 = upd Z a (.lst b5) := ⟨_, rfl⟩
                rw [← eZ1] at bZ1 hb5 ⊢
                refine ⟨by show 1 ≤ sizeLine; decide, fun t1 n1 => ?_⟩
                have sA := same_upd (o := .tup [.str "own"]) n1
                have hb6 := sA _ _ hb5
                refine ⟨_, rfl, a, _, b5, rfl, hb6, hB5, by omega, fun Z3 rn b7 bt3 hb7 hB7 hrn hrn' => ⟨by show 2 ≤ sizeLine; decide, fun t2 n2 => ⟨by show 2 ≤ sizeLine; decide, fun l3 n3 => ?_⟩⟩⟩
                obtain ⟨rm, rfl⟩ := Int.eq_ofNat_of_zero_le hrn
                have sB := same_upd (o := .tup [.str "number", .int (rm : Nat)]) n2
                have sC := same_upd (o := .lst [.ref t1, .ref t2]) n3
                have bZ4 := ((bZ1.trans (But.of sA)).trans bt3).trans (But.of (a := a) (sB.trans sC))
                have hb8 := (sB.trans sC) _ _ hb7
                have d1 : Dp K Z3 (.ref t1) Od.own.d := dp_imm (KeepT.but hb6 bt3) (.tup (SqT.of upd_same) (.cons (.str _) .nil)) rfl
                have d2 : Dp K (upd Z3 t2 (.tup [.str "number", .int (rm : Nat)])) (.ref t2) (Od.num rm).d := .tup (SqT.of upd_same) (.cons (.str _) (.cons (.int _) .nil))
                have d1 := dp_same (sB.trans sC) d1
                have d2 := dp_same sC d2
                have hl3 : (upd (upd Z3 t2 (.tup [.str "number", .int (rm : Nat)])) l3 (.lst [.ref t1, .ref t2])) l3 = some (.lst [.ref t1, .ref t2]) := upd_same
                obtain ⟨Z4, eZ4⟩ : ∃ Z4, Z4 = upd (upd Z3 t2 (.tup [.str "number", .int (rm : Nat)])) l3 (.lst [.ref t1, .ref t2]) := ⟨_, rfl⟩
                rw [← eZ4] at bZ4 hb8 d1 d2 hl3 ⊢
                obtain ⟨v1, o1, hat, dv1, ok1, nm1⟩ : ∃ v1 o1, atI [V.ref t1, V.ref t2] (((ww : Nat) : Int) % 2) = some v1 ∧ Dp K Z4 v1 (Od.d o1) ∧ OdOk rs mr o1 ∧ odName o1 = [] := by
                  rcases Nat.mod_two_eq_zero_or_one ww with h | h
                  · exact ⟨_, .own, by rw [show ((ww : Nat) : Int) % 2 = ((0 : Nat) : Int) by omega]; exact atI_nat (j := 0) rfl, d1, trivial, rfl⟩
                  · exact ⟨_, .num rm, by rw [show ((ww : Nat) : Int) % 2 = ((1 : Nat) : Int) by omega]; exact atI_nat (j := 1) rfl, d2, (by show rm < 1000000; omega), rfl⟩
                refine ⟨_, rfl, _, _, rfl, rfl, by show (0 : Int) < 2; decide, l3, _, _, v1, rfl, rfl, SqL.of hl3, hat, ?_⟩
                have btZ4 := btZ.trans bZ4
                have hlp4 := bZ4 _ _ npa hlpZ
                have hos4 := dpAll_imm (KeepT.but hb4 bZ4) hos (immAll_map Od.imm os)
                -- one more
                have fin : ∀ (U : Hp) (v : V) (o : Od) (bu : List V), But a Z4 U → U a = some (.lst bu) → BoxL (m + 40 + 20 * i + 2 + 6 * j + 6) bu → Dp K U v o.d → OdOk rs mr o → (∀ w ∈ odName o, w ∈ ks) → ∃ (l : Addr) (xs : List V) (y : V), V.ref lp = .ref l ∧ [v] = [y] ∧ U l = some (.lst xs) ∧ xs.length < sizeLine ∧ ∃ (y18 y19 y20 : Option V) (ov b4 : List V) (os : List Od), [some (.ref a), some (.ref gd), some rowv, some (.ref ph), some (.ref wq), some (.ref pt), some (.ref le), some (.ref lr), some (.ref lk'), some (.ref lo), y10, y11, y12, some (.ref lf), some x, some (.str (SX.S op)), some (.ref sl), some (.ref lp), some (.int (0 + ((j : Nat) : Int))), some (.int ((ww : Nat) : Int)), some v1, y21] = [some (.ref a), some (.ref gd), some rowv, some (.ref ph), some (.ref wq), some (.ref pt), some (.ref le), some (.ref lr), some (.ref lk'), some (.ref lo), y10, y11, y12, some (.ref lf), some x, some (.str (SX.S op)), some (.ref sl), some (.ref lp), y18, y19, y20, y21] ∧ But a Y (upd U l (.lst (xs ++ [y]))) ∧ (upd U l (.lst (xs ++ [y]))) lp = some (.lst ov) ∧ DpAll K (upd U l (.lst (xs ++ [y]))) ov (os.map Od.d) ∧ os.length = j + 1 ∧ (∀ o ∈ os, OdOk rs mr o ∧ ∀ w ∈ odName o, w ∈ ks) ∧ (upd U l (.lst (xs ++ [y]))) a = some (.lst b4) ∧ BoxL (m + 40 + 20 * i + 2 + 6 * (j + 1)) b4 := fun U v o bu bU hbu hBu dv hov hnv => by
                  have hlpU := bU _ _ npa hlp4
                  have kk : KeepT U (upd U lp (.lst (ov ++ [v]))) := KeepT.at_ hlpU lst_no
                  refine ⟨lp, ov, v, rfl, rfl, hlpU, small1000 (by omega), _, _, _, ov ++ [v], bu, os ++ [o], rfl, fun c o nc hc => ?_, upd_same, ?_, ?_, fun o' ho' => ?_, ?_, hBu.mono (by omega)⟩
                  · rw [upd_ne (ne_of_none hc nlpY)]
                    exact (btZ4.trans bU) c o nc hc
                  · rw [List.map_append]
                    exact dpAll_appI (dpAll_imm ((KeepT.but hb8 bU).trans kk) hos4 (immAll_map Od.imm os)) (.cons (dp_imm kk dv o.imm) .nil)
                  · rw [List.length_append]
                    show os.length + 1 = j + 1
                    omega
                  · rcases List.mem_append.mp ho' with h | h
                    · exact hook o' h
                    · rw [List.mem_singleton.mp h]
                      exact ⟨hov, hnv⟩
                  · rw [upd_ne npa.symm]
                    exact hbu
                refine ⟨_, rfl, .inl ⟨rfl, _, SqL.of hlp4⟩, ?_⟩
                refine ⟨_, rfl, _, _, rfl, rfl, _, rfl, ?_⟩
                have hn1 : ∀ w ∈ odName o1, w ∈ ks := by rw [nm1]; exact fun w h => nomatch h
                have hsl4 := btZ4 _ _ nsa hsl
                have dsl4 := dpAll_imm (KeepT.but hb btZ4) dsl (immAll_map En.imm cs)
                have css : ∀ e ∈ cs, NmSmall (enW e) := fun e h => fss e (hcs e h)
                by_cases hw4 : ((ww : Nat) : Int) < 4
                · refine ifT (decide_eq_true hw4) ⟨_, rfl, by show 0 ≤ sizeLine; decide, fun l5 n5 => ?_⟩
                  have s5 := same_upd (o := .lst []) n5
                  refine ⟨.list (cs.map En.d), .list [], .lst (SqL.of (s5 _ _ hsl4)) (dpAll_same s5 dsl4), .lst (SqL.of upd_same) .nil, ens_shape css, by decide +kernel, _, rfl, ?_⟩
                  have hb9 := s5 _ _ hb8
                  have bU5 : But a Z4 (upd Z4 l5 (.lst [])) := But.of s5
                  have hsl5 := s5 _ _ hsl4
                  have dsl5 := dpAll_same s5 dsl4
                  obtain ⟨Z5, eZ5⟩ : ∃ Z5, Z5 = upd Z4 l5 (.lst []) := ⟨_, rfl⟩
                  rw [← eZ5] at s5 hb9 bU5 hsl5 dsl5 ⊢
                  rw [ens_nil]
                  by_cases hcn : cs = []
                  · refine ifF (by rw [decide_eq_true hcn]; rfl) ⟨_, rfl, ?_⟩
                    exact fin Z5 v1 o1 b7 bU5 hb9 (hB7.mono (by omega)) (dp_same s5 dv1) ok1 hn1
                  · refine ifT (by rw [decide_eq_false hcn]; rfl) ?_
                    refine ⟨_, rfl, _, rfl, 1, rfl, _, rfl, _, _, rfl, rfl, _, rfl, sl, xs, rfl, SqL.of hsl5, fun l6 n6 => ?_⟩
                    have s6 := same_upd (o := .lst (cutV xs (some (-1 - ((ww : Nat) : Int))) none)) n6
                    have hcut : cutV xs (some (-1 - ((ww : Nat) : Int))) none = xs.drop (xs.length - (ww + 1)) := cutV_back xs ww
                    have clp : 0 < cs.length := List.length_pos_iff.mpr hcn
                    refine ⟨a, l6, _, b7, _, rfl, s6 _ _ hb9, hB7, by omega, SqL.of upd_same, fun z => ?_, ?_, ?_, fun i3 v3 b8 hv3 hB8 => ?_⟩
                    · rw [z, hb9] at n6
                      cases n6
                    · rw [show (-1 : Int) - ((ww : Nat) : Int) = -1 - ((ww : Nat) : Int) from rfl, hcut, List.length_drop]
                      omega
                    · rw [hcut, List.length_drop]
                      omega
                    rw [hcut, List.getElem?_drop] at hv3
                    obtain ⟨dd3, hdd3, hd3⟩ := dpAll_at dsl5 hv3
                    rw [List.getElem?_map] at hdd3
                    obtain ⟨e3', he3, rfl⟩ : ∃ e3', cs[xs.length - (ww + 1) + i3]? = some e3' ∧ dd3 = e3'.d := by
                      cases h : cs[xs.length - (ww + 1) + i3]? with
                      | none => rw [h] at hdd3; cases hdd3
                      | some e => rw [h] at hdd3; exact ⟨e, rfl, (Option.some.inj hdd3).symm⟩
                    have hfe := hcs e3' (List.mem_of_getElem? he3)
                    refine fin _ v3 (.en e3') b8 (bU5.trans ((But.of s6).trans (But.upd (But.refl a _)))) upd_same (hB8.mono (by omega)) (dp_imm ((KeepT.of s6).trans (KeepT.at_ (s6 _ _ hb9) lst_no)) hd3 e3'.imm) (hfs e3' hfe).2 fun w hw => ?_
                    have hk3 := hok5 e3' (hfs e3' hfe).1
                    cases e3' with
                    | sp p w' => cases hw
                    | kept w' =>
                      rw [List.mem_singleton.mp hw]
                      exact hk3.2
                · refine ifF (decide_eq_false hw4) ⟨_, rfl, ?_⟩
                  exact fin Z4 v1 o1 b7 (But.refl a Z4) hb8 (hB7.mono (by omega)) dv1 ok1 hn1
              · rintro σ Z ⟨z18, z19, z20, ov, b4, os, rfl, btZ, hlpZ, hos, hol, hook, hb4, hB4⟩
                rw [Int.toNat_natCast] at hol hB4
                have := ar_le op
                exact ⟨_, _, _, ov, b4, os, rfl, btZ, hlpZ, hos, hol, hook, hb4, hB4.mono (by omega)⟩
            · rintro σ Z ⟨z18, z19, z20, ov, b4, os, rfl, btZ, hlpZ, hos, hol, hook, hb4, hB4⟩
              have kZ := KeepT.but hb btZ
              have lsZ := ls.go hb nea nfa noa btZ
              have hlrZ := btZ _ _ nra hlr
              have cZ := cx.but ha lsZ.bt
              obtain ⟨rq, rt, erv, hr1, hr2⟩ := row_at cZ.row
              subst erv
              refine ⟨_, rfl, .inl ⟨rfl, _, SqL.of hlrZ⟩, ?_⟩
              refine ⟨_, rfl, rq, _, 0, .str (SX.S mr.nm), rfl, rfl, hr1, atI_nat (j := 0) rfl, _, rfl, _, rfl, _, rfl, lp, ov, rfl, .inl ⟨SqL.of hlpZ, fun l7 n7 => ?_⟩⟩
              refine ⟨by show 4 ≤ sizeLine; decide, fun l8 n8 => ?_⟩
              have s7 := same_upd (o := .tup ov) n7
              have s8 := same_upd (o := .tup [.str (SX.S mr.nm), x, .str (SX.S op), .ref l7]) n8
              have dR : Dp K (upd (upd Z l7 (.tup ov)) l8 (.tup [.str (SX.S mr.nm), x, .str (SX.S op), .ref l7])) (.ref l8) (RRow.d ⟨mr.nm, e, op, os⟩) :=
                .tup (SqT.of upd_same) (.cons (.str _) (.cons (dp_imm (kZ.trans (KeepT.of (s7.trans s8))) hxd e.imm) (.cons (.str _) (.cons (dp_same s8 (.tup (SqT.of upd_same) (dpAll_same s7 hos))) .nil))))
              have s78 := s7.trans s8
              obtain ⟨U, eU⟩ : ∃ U, U = upd (upd Z l7 (.tup ov)) l8 (.tup [.str (SX.S mr.nm), x, .str (SX.S op), .ref l7]) := ⟨_, rfl⟩
              rw [← eU] at dR s78 ⊢
              have hlrU := s78 _ _ hlrZ
              have sl7 := rst.sub.length_le
              rw [List.length_map, List.length_take] at sl7
              have kU : KeepT U (upd U lr (.lst (rv ++ [.ref l8]))) := KeepT.at_ hlrU lst_no
              have lsU := (lsZ.go hb4 nea nfa noa (But.of s78)).put (rv' := rv ++ [.ref l8]) hlrU e1 nfr d7.symm nlr
              refine ⟨lr, rv, .ref l8, rfl, rfl, hlrU, small1000 (by omega), _, _, _, _, _, _, _, rv ++ [.ref l8], b4, ru ++ [⟨mr.nm, e, op, os⟩], rfl, lsU, upd_same, ?_, ?_, ?_, ⟨?_, fun r hr => ?_, rst.kf, rst.kl⟩, ?_, hB4.mono (by omega)⟩
              · rw [List.map_append]
                exact dpAll_appI (dpAll_imm ((kZ.trans (KeepT.of s78)).trans kU) hru (immAll_map RRow.imm ru)) (.cons (dp_imm kU dR (RRow.imm _)) .nil)
              · rw [upd_ne nkr']
                exact s78 _ _ (btZ _ _ nka' hlk)
              · exact dpAll_imm ((kZ.trans (KeepT.of s78)).trans kU) hkn (immAll_map En.imm kn)
              · rw [List.map_append, tk]
                exact rst.sub.append (List.Sublist.refl _)
              · rcases List.mem_append.mp hr with h | h
                · exact rst.ok r h
                · rw [List.mem_singleton.mp h]
                  exact ⟨rfl, tg, hop, hol, hook⟩
              · rw [upd_ne nra.symm]
                exact s78 _ _ hb4
          · refine ifF (decide_eq_false hr0) ?_
            exact noRule bY1 hb1 hB1
        · exact noRule (But.refl a Y) hb (hB.mono (by omega))
      · rintro σ Z ⟨y15, y16, y17, y18, y19, y20, y21, rv, b2, ru, rfl, ls2, hlr2, hru2, hlk2, hkn2, rst2, hb2, hB2⟩
        refine ⟨_, rfl, _, rfl, by show 1 ≤ sizeLine; decide, fun l1 n1 => ⟨l1, rfl, ⟨_, SqL.of upd_same⟩, fun D nD => ?_⟩⟩
        have s1 := same_upd (o := .lst [x]) n1
        have h1 : (upd Z l1 (.lst [x])) l1 = some (.lst [x]) := upd_same
        obtain ⟨Z1, eZ1⟩ : ∃ Z1, Z1 = upd Z l1 (.lst [x]) := ⟨_, rfl⟩
        rw [← eZ1] at s1 h1 nD ⊢
        refine lc_list (K := K) (a := l1) (xs := [x]) (fun j U => Same Z1 U ∧ ∃ (zs : List V) (cs : List En), U D = some (.lst zs) ∧ DpAll K U zs (cs.map En.d) ∧ (∀ e ∈ cs, e ∈ fs) ∧ cs.length ≤ j) ⟨same_upd nD, [], [], upd_same, .nil, (fun r h => nomatch h), Nat.le_refl _⟩ (fun j U _ h => SqL.of (h.1 _ _ h1)) ?_ ?_
        · rintro j x' U hx' ⟨sU, zs, cs, hD, hzs, hcs, hcl⟩
          obtain ⟨rfl, rfl⟩ : j = 0 ∧ x' = x := by
            cases j with
            | zero => exact ⟨rfl, (Option.some.inj hx').symm⟩
            | succ j => cases hx'
          have sZU := s1.trans sU
          have lz := dpAll_len hzs
          rw [List.length_map] at lz
          have hxU : Dp K U x' e.d := dp_same sZU (dpAll_look ls2.de hx he)
          refine ⟨rfl, _, rfl, _, rfl, e.d, fs.map En.d, hxU, .lst (SqL.of (sZU _ _ ls2.lf)) (dpAll_same sZU ls2.df), en_shape (small5 e hem), ens_shape fss, _, rfl, ?_⟩
          rw [ens_any]
          by_cases hin : e ∈ fs
          · refine ifT (decide_eq_true hin) ⟨_, rfl, zs, hD, small1000 (by omega), Same.at_ sU nD, zs ++ [x'], cs ++ [e], upd_same, ?_, fun e' he' => ?_, by rw [List.length_append]; show cs.length + 1 ≤ 0 + 1; omega⟩
            · rw [List.map_append]
              have kk : KeepT U (upd U D (.lst (zs ++ [x']))) := KeepT.at_ hD lst_no
              exact dpAll_appI (dpAll_imm kk hzs (immAll_map En.imm cs)) (.cons (dp_imm kk hxU e.imm) .nil)
            · rcases List.mem_append.mp he' with h | h
              · exact hcs e' h
              · rw [List.mem_singleton.mp h]
                exact hin
          · exact ifF (decide_eq_false hin) ⟨sU, zs, cs, hD, hzs, hcs, by omega⟩
        · rintro U ⟨sU, zs, cs, hD, hzs, hcs, hcl⟩
          have lz := dpAll_len hzs
          rw [List.length_map] at lz
          have sZU := s1.trans sU
          refine ⟨lk', D, kv, zs, rfl, rfl, sZU _ _ hlk2, hD, ?_, fun lk2 nlk2 => ?_⟩
          · refine Nat.le_trans (show _ ≤ 100 from ?_) (by decide)
            have := rst.kl
            have hcl : cs.length ≤ 1 := hcl
            omega
          have sN := same_upd (o := .lst (kv ++ zs)) nlk2
          have sA := sZU.trans sN
          have bA : But a Z (upd U lk2 (.lst (kv ++ zs))) := But.of sA
          refine ⟨some x, y15, y16, y17, y18, y19, y20, y21, lk2, kv ++ zs, rv, b2, kn ++ cs, ru, rfl, ls2.go hb2 nea nfa noa bA, sA _ _ hlr2, dpAll_same sA hru2, upd_same, ?_, ?_, ?_, ⟨rst2.sub, rst2.ok, fun e' he' => (List.mem_append.mp he').elim (rst2.kf e') (hcs e'), ?_⟩, sA _ _ hb2, hB2⟩
          · rw [List.map_append]
            exact dpAll_appI (dpAll_same sA hkn2) (dpAll_same sN hzs)
          · exact fun z => by
              have := sZU _ _ hb2
              rw [← z, nlk2] at this
              cases this
          · exact fun z => by
              have := sZU _ _ hlr2
              rw [← z, nlk2] at this
              cases this
          · rw [List.length_append]
            have := rst2.kl
            have hcl : cs.length ≤ 1 := hcl
            omega
    · rintro σ Y ⟨y14, y15, y16, y17, y18, y19, y20, y21, lk', kv, rv, b', kn, ru, rfl, ls, hlr, hru, hlk, hkn, nka', nkr', rst, hb, hB⟩
      have lvv := dpAll_len hds6
      rw [List.length_map] at lvv
      have sl := rst.sub.length_le
      rw [List.length_map, List.length_take] at sl
      refine ⟨_, rfl, q Y lr rv ru ks b' ls.bt nlr hlr hru ⟨fun r h => (rst.ok r h).1, fun r h => (rst.ok r h).2.1, rst.sub.nodup (List.Nodup.sublist (List.take_sublist _ _) hnd5), fun r h => (rst.ok r h).2.2.1, fun r h => (rst.ok r h).2.2.2.1, fun r h o ho => ((rst.ok r h).2.2.2.2 o ho).1, hk2, fun r h w hw => ?_, fun r h o ho => ((rst.ok r h).2.2.2.2 o ho).2, by omega⟩ hb (hB.mono (by omega))⟩
      have hm : r.tg ∈ es := List.mem_of_mem_take (rst.sub.mem (List.mem_map_of_mem h))
      have hk := hok5 _ hm
      cases et : r.tg with
      | sp p w' =>
        rw [et] at hw
        cases hw
      | kept w' =>
        rw [et] at hw hk
        rw [List.mem_singleton.mp hw]
        exact hk.2
end
/-! ### dict(pairs) whose keys are tuples, with tuples in them: a dict that isn't followed -/
mutual
def keyD : PyData → NestedKey
  | .tuple ds => .tup (keyDs ds)
  | .list _ => .none
  | .dict _ => .none
  | .none => .none
  | .bool b => .num (if b = true then 1 else 0)
  | .int i => .num i
  | .str x => .text x
def keyDs : List PyData → List NestedKey
  | [] => []
  | d :: ds => keyD d :: keyDs ds
end
section
variable {X : Cx} {pins : List (Addr × Obj)} {σ : L2.St} {H : Hp} {s : Shared}
mutual
theorem nst (I : Inv X pins σ H s) : ∀ {v : V} {d : PyData} {u : Value}, Dp X.K H v d → imm d = true → RelV v u → NestedIs s.heap (keyD d) u
  | _, _, u, .non, _, r => by
    obtain rfl : u = Value.none := r
    exact .none
  | _, _, u, .bl b, _, r => by
    obtain rfl : u = Value.bool b := r
    exact .bool rfl
  | _, _, u, .int i, _, r => by
    obtain ⟨t, rfl⟩ : ∃ t, u = Value.int i t := r
    exact .int i t
  | _, _, u, .str x, _, r => by
    obtain ⟨t, rfl⟩ : ∃ t, u = Value.str x t := r
    exact .text x t
  | _, _, u, .lst h a, i, _ => nomatch (show (false : Bool) = true from i)
  | _, _, u, .tup (a := p) h a, i, r => by
    obtain rfl : u = Value.ref p := r
    obtain ⟨its, rv, ⟨o, ho, hc, n, hd⟩, _⟩ := I.tuple h
    exact .tup ho hc hd (nstAll I a i rv)
theorem nstAll (I : Inv X pins σ H s) : ∀ {vs : List V} {ds : List PyData} {us : List Value}, DpAll X.K H vs ds → immAll ds = true → Vals vs us → NestedAll s.heap (keyDs ds) us
  | _, _, _, .nil, _, .nil => .nil
  | _, _, _, .cons h a, i, .cons r rs => .cons (nst I h (Bool.and_eq_true_iff.mp i).1 r) (nstAll I a (Bool.and_eq_true_iff.mp i).2 rs)
end
theorem pairsN (I : Inv X pins σ H s) : ∀ {ps : List Addr} {ks : List (Addr × PyData × V)}, Paired (fun p k => SqT X.K H p [.ref k.1, k.2.2] ∧ Dp X.K H (.ref k.1) k.2.1 ∧ imm k.2.1 = true ∧ (keyD k.2.1).depth ≤ 8) ps ks →
    ∃ prs : List (NestedKey × Addr × Value), prs.length = ps.length ∧ (∀ x ∈ prs, (nestedKind X.prog X.w).is s.heap x.1 x.2.1) ∧ ∀ (j : Nat) (x : NestedKey × Addr × Value), prs[j]? = some x → ∃ b, ps[j]? = some b ∧ IsTup s.heap b #[.ref x.2.1, x.2.2]
  | _, _, .nil => ⟨[], rfl, (fun x h => nomatch h), fun j x e => by simp at e⟩
  | _, _, .cons (a := p) (b := k) ⟨h1, h2, h3, h4⟩ t => by
    obtain ⟨prs, hl, his, hp⟩ := pairsN I t
    obtain ⟨its, rv, ht, _⟩ := I.tuple h1
    obtain ⟨u, y, ei, ru, ry⟩ := vals2 rv
    subst ei
    obtain rfl : u = Value.ref k.1 := ru
    refine ⟨(keyD k.2.1, k.1, y) :: prs, by rw [List.length_cons, List.length_cons, hl], fun x hx => ?_, fun j x e => ?_⟩
    · rcases List.mem_cons.mp hx with rfl | hx
      · exact ⟨nst I h2 h3 rfl, h4⟩
      · exact his x hx
    · cases j with
      | zero =>
        obtain rfl := Option.some.inj e
        exact ⟨p, rfl, ht⟩
      | succ j =>
        obtain ⟨b, e1, e2⟩ := hp j x (by simpa using e)
        exact ⟨b, by simpa using e1, e2⟩
end
theorem call_dictN {X : Cx} (hu : X.A.units + 65 < cLine) (hcalm : X.calm = true) : CallR X (.type "dict") (fun xs H Q => ∃ (a : Addr) (ps : List Addr) (ks : List (Addr × PyData × V)), xs = [.ref a] ∧ SqL X.K H a (ps.map V.ref) ∧
    Paired (fun p k => SqT X.K H p [.ref k.1, k.2.2] ∧ Dp X.K H (.ref k.1) k.2.1 ∧ imm k.2.1 = true ∧ (keyD k.2.1).depth ≤ 8) ps ks ∧ ∀ p, H p = none → Q (.ref p) H) := by
  intro pins s σ H xs us Q I r q
  obtain ⟨a, ps, ks, ex, hq, hp, q⟩ := q
  subst ex
  obtain ⟨u, eu, rx⟩ := vals1 r
  subst eu
  obtain rfl : u = Value.ref a := rx
  obtain ⟨its, rv, pl, hz⟩ := I.list hq
  have ei := refs_at rv
  subst ei
  rw [List.length_map] at hz
  obtain ⟨prs, hl, his, hpr⟩ := pairsN I hp
  obtain ⟨o, n, ho, hc, hd, hdat⟩ := pl
  have P := PairArg.list (prog := X.prog) (w := X.w) a (ps.map Value.ref).toArray (fun j => ps.getD j 0) (prs.map fun x => (Value.ref x.2.1, x.2.2))
  have rel : ∀ (j : Nat) (k v : Value), (prs.map fun x => (Value.ref x.2.1, x.2.2))[j]? = some (k, v) → ∃ x, prs[j]? = some x ∧ k = .ref x.2.1 ∧ v = x.2.2 := fun j k v e => by
    rw [List.getElem?_map] at e
    cases e' : prs[j]? with
    | none => rw [e'] at e; cases e
    | some x =>
      rw [e'] at e
      cases e
      exact ⟨x, rfl, rfl, rfl⟩
  refine dict_keyed (knd := nestedKind X.prog X.w) (kvs := pairsH prs) nestedKind_stays P (I.ok.hd hcalm) ?_ ⟨⟨o, n, ho, hc, hd, hdat⟩, ?_, fun j k v e => ?_⟩ ⟨prs, rfl, ⟨?_, fun i key v e => ?_⟩, his⟩ (nestedKind_stays.all) ?_ fun h' tk hd' hk => ?_
  · show X.A.units + 1 + 1 + 8 < cLine
    omega
  · simp [hl]
  · obtain ⟨x, e1, rfl, rfl⟩ := rel j k v e
    obtain ⟨b, e2, e3⟩ := hpr j x e1
    refine ⟨?_, .inl ?_⟩
    · simp [e2]
    · simp only [List.getD, e2, Option.getD_some]
      exact e3
  · rw [List.length_map]
  · obtain ⟨x, e1, rfl, rfl⟩ := rel i key v e
    exact ⟨x.1, x.2.1, e1, rfl⟩
  · rw [List.length_map, hl]
    exact hz
  · exact ⟨.ref s.heap.objs.size, H, I.kept fun b u e => hk b u (by simp) e, rfl, q _ (I.hok.fresh (Nat.le_refl _))⟩
/-! ### strewn, handed a tuple -/
def spStrewnT (K : PySem.W.Frag) : Sp := fun vs H Q _ => ∃ (a sl : Addr) (m : Nat) (b xs : List V), vs = [.ref a, .ref sl] ∧ H a = some (.lst b) ∧ BoxL m b ∧ m + xs.length < 900000 ∧ SqT K H sl xs ∧ xs.length ≤ 100000 ∧
  ∀ (H' : Hp) (l : Addr) (ys b' : List V), But a H H' → H l = none → H' l = some (.lst ys) → ys.Perm xs → H' a = some (.lst b') → BoxL (m + xs.length) b' → Q (.ref l) H'
section
variable {P : Program} {w : World} {K : PySem.W.Frag} {mg : Str → Option Value} {base : Heap}
theorem ok_strewnT (T : Bt mg) (c_law_take : C8.Cal P w K mg base 1 "_law_take" spTake []) (D : Dd K mg "_law_strewn" s__law_strewn P__law_strewn) : C8.Cal P w K mg base 2 "_law_strewn" (spStrewnT K) [] := by
  refine D.cal sc__law_strewn (fun vs H Q E h => ?_) (fun f cdv A outer s H vs Q E hr h => ?_)
  · obtain ⟨a, sl, m, b, xs, rfl, _⟩ := h
    rfl
  · obtain ⟨a, sl, m, b, xs, rfl, ha, hB, hm, hS, h1, q⟩ := h
    refine ⟨_, (pss_cons (ps_set (i := 2) sc__law_strewn.nd rfl (Or.inl rfl) (pe_lst pa_nil))
        (pss_cons (ps_for PassesOwn.never rfl (pi_tup (pv 1)) (pg_name (i := 3) sc__law_strewn.nd rfl (Or.inl rfl))
          (pss_one (ps_expr (pe_bm PySem.F.plainAttrs_list PySem.F.slot_list_insert PySem.F.type_list_insert mt_insert (pv 2) (pa_cons (C8.pe_c c_law_take hr (by decide) (by rfl) (pa_cons (pv 0) (pa_cons (pe_op op_add (pe_callB call_len_seq (by rfl) T.len PySem.boot_len (pa_cons (pv 2) pa_nil)) pe_int) pa_nil))) (pa_cons (pv 3) pa_nil))))))
        (pss_one (ps_ret (pv 2))))), ?_⟩
    refine ⟨by show 0 ≤ sizeLine; decide, fun l nl => ?_⟩
    have nla : a ≠ l := ne_of_none ha nl
    have s1 := same_upd (o := .lst []) nl
    refine ⟨_, rfl, sl, rfl, ⟨_, Same.seqT s1 hS⟩, for_tup (K := K) (a := sl) (xs := xs) (fun i σ H3 => ∃ y ys b', σ = [some (.ref a), some (.ref sl), some (.ref l), y] ∧ But a H H3 ∧ H3 l = some (.lst ys) ∧ ys.Perm (xs.take i) ∧ H3 a = some (.lst b') ∧ BoxL (m + i) b' ∧ i ≤ xs.length)
      ⟨none, [], b, rfl, But.of s1, upd_same, .nil, s1 _ _ ha, hB, Nat.zero_le _⟩ (fun i σ H3 _ ⟨_, _, _, _, bt, _⟩ => (KeepT.but ha bt).seqT hS) ?_ ?_⟩
    · rintro i x σ H3 hx ⟨y, ys, b', rfl, bt, hl, hp, hb', hB', hi⟩
      have hi2 : i < xs.length := (List.getElem?_eq_some_iff.mp hx).1
      have ly : ys.length = i := by
        rw [hp.length_eq, List.length_take]
        omega
      refine ⟨_, rfl, .inl ⟨rfl, _, SqL.of hl⟩, _, rfl, _, rfl, l, ys, rfl, .inl (SqL.of hl), _, _, rfl, rfl, a, _, _, b', rfl, hb', hB', by omega, by omega, by omega, fun r b2 r0 r1 hB2 => ?_⟩
      have hl2 : (upd H3 a (.lst b2)) l = some (.lst ys) := by
        rw [upd_ne nla.symm]
        exact hl
      refine ⟨_, rfl, l, ys, r, x, rfl, rfl, hl2, by rw [ly]; exact Nat.lt_of_le_of_lt (Nat.le_of_lt hi2) (Nat.lt_of_le_of_lt h1 (by decide)), r0, by omega, ?_⟩
      have bt2 : But a H (upd (upd H3 a (.lst b2)) l (.lst (ys.take r.toNat ++ [x] ++ ys.drop r.toNat))) := fun c o nc hc => by
        rw [upd_ne (ne_of_none hc nl), upd_ne nc]
        exact bt _ _ nc hc
      refine ⟨_, _, b2, rfl, bt2, upd_same, ?_, by rw [upd_ne nla, upd_same], hB2, by omega⟩
      rw [List.take_add_one, hx]
      refine List.Perm.trans ?_ (List.Perm.append hp (List.Perm.refl [x]))
      rw [List.append_assoc]
      refine List.Perm.trans (List.Perm.append_left _ List.perm_append_comm) ?_
      rw [← List.append_assoc, List.take_append_drop]
    · rintro σ H3 ⟨y, ys, b', rfl, bt, hl, hp, hb', hB', hi⟩
      rw [List.take_length] at hp
      exact ⟨_, rfl, q _ l ys b' bt nl hl hp hb' hB'⟩
end
/-! ### dicts of rows -/
theorem merge_out (k : Key) : ∀ (kvs acc : List (Key × V)), k ∉ kvs.map (·.1) → valV (mergeK acc kvs) k = valV acc k
  | [], acc, _ => rfl
  | p :: kvs, acc, h => by
    show valV (mergeK (putK acc p.1 p.2) kvs) k = _
    rw [merge_out k kvs _ fun z => h (List.mem_cons_of_mem _ z), valV_put, if_neg fun z => h (by rw [z]; exact List.mem_cons_self ..)]
theorem merge_in : ∀ (kvs acc : List (Key × V)), (kvs.map (·.1)).Nodup → ∀ p ∈ kvs, valV (mergeK acc kvs) p.1 = some p.2
  | [], _, _, p, h => nomatch h
  | q :: kvs, acc, hn, p, h => by
    rw [List.map_cons, List.nodup_cons] at hn
    show valV (mergeK (putK acc q.1 q.2) kvs) p.1 = _
    rcases List.mem_cons.mp h with rfl | h
    · rw [merge_out p.1 kvs _ hn.1, valV_put, if_pos rfl]
    · exact merge_in kvs _ hn.2 p h
/-- a row of three: a name, and two more -/
structure T3 where
  k : List Nat
  d1 : PyData
  d2 : PyData
def T3.d (t : T3) : PyData := .tuple [strD t.k, t.d1, t.d2]
def T3.r (t : T3) : PyData := .tuple [t.d1, t.d2]
def kS (k : List Nat) : Key := Sum.inr (SX.S k)
theorem kS_inj {a b : List Nat} (h : kS a = kS b) : a = b := SX.S_inj (Sum.inr.inj h)
def Prs (K : PySem.W.Frag) (U : Hp) (ps : List Addr) (ts : List T3) : Prop := Paired (fun p t => ∃ v, SqT K U p [.str (SX.S t.k), v] ∧ Dp K U v t.r) ps ts
theorem Prs.kvs {K : PySem.W.Frag} {U : Hp} : ∀ {ps : List Addr} {ts : List T3}, Prs K U ps ts → ∃ kvs : List (Key × V), Paired (fun p kv => SqT K U p [kV kv.1, kv.2]) ps kvs ∧ kvs.map (·.1) = ts.map (fun t => kS t.k) ∧ ∀ t ∈ ts, ∃ v, (kS t.k, v) ∈ kvs ∧ Dp K U v t.r
  | _, _, .nil => ⟨[], .nil, rfl, fun t h => nomatch h⟩
  | _, _, .cons (b := t0) ⟨v, h1, h2⟩ r => by
    obtain ⟨kvs, q1, q2, q3⟩ := Prs.kvs r
    refine ⟨(kS t0.k, v) :: kvs, .cons h1 q1, by rw [List.map_cons, List.map_cons, q2], fun t ht => ?_⟩
    rcases List.mem_cons.mp ht with rfl | ht
    · exact ⟨v, List.mem_cons_self .., h2⟩
    · obtain ⟨v', h3, h4⟩ := q3 t ht
      exact ⟨v', List.mem_cons_of_mem _ h3, h4⟩
theorem paired_snoc {α β : Type} {R : α → β → Prop} : ∀ {xs : List α} {ys : List β} {x : α} {y : β}, Paired R xs ys → R x y → Paired R (xs ++ [x]) (ys ++ [y])
  | _, _, _, _, .nil, h => .cons h .nil
  | _, _, _, _, .cons a r, h => .cons a (paired_snoc r h)
theorem paired_mono {α β : Type} {R S : α → β → Prop} (f : ∀ a b, R a b → S a b) : ∀ {xs : List α} {ys : List β}, Paired R xs ys → Paired S xs ys
  | _, _, .nil => .nil
  | _, _, .cons a r => .cons (f _ _ a) (paired_mono f r)
theorem paired_len {α β : Type} {R : α → β → Prop} : ∀ {xs : List α} {ys : List β}, Paired R xs ys → xs.length = ys.length
  | _, _, .nil => rfl
  | _, _, .cons _ r => by rw [List.length_cons, List.length_cons, paired_len r]
theorem t3_at {K : PySem.W.Frag} {H : Hp} {v : V} {t : T3} (h : Dp K H v t.d) : ∃ q v1 v2, v = .ref q ∧ SqT K H q [.str (SX.S t.k), v1, v2] ∧ Dp K H v1 t.d1 ∧ Dp K H v2 t.d2 := by
  cases h with
  | tup hS hA =>
    cases hA with
    | cons a1 hA =>
      cases hA with
      | cons a2 hA =>
        cases hA with
        | cons a3 hA =>
          cases hA
          cases a1
          exact ⟨_, _, _, rfl, hS, a2, a3⟩
theorem prs_keep {K : PySem.W.Frag} {U U' : Hp} (k : KeepT U U') {ps : List Addr} {ts : List T3} (hi : ∀ t ∈ ts, imm t.r = true) (h : Prs K U ps ts) : Prs K U' ps ts := by
  unfold Prs at *
  induction h with
  | nil => exact .nil
  | cons a r ih =>
    obtain ⟨v, h1, h2⟩ := a
    exact .cons ⟨v, k.seqT h1, dp_imm k h2 (hi _ (List.mem_cons_self ..))⟩ (ih fun t ht => hi t (List.mem_cons_of_mem _ ht))
/-- [(row[0], row[1:]) for row in rows] -/
theorem lc_of {K : PySem.W.Frag} {L D : Addr} {vs : List V} {ts : List T3} {x0 x1 x2 x3 x4 x5 x6 x7 x8 x9 x10 x11 : Option V} {Y : Hp} {Qd : Hp → Prop} (hL : Y L = some (.lst vs)) (hv : DpAll K Y vs (ts.map T3.d)) (hi : ∀ t ∈ ts, imm t.r = true) (hl : ts.length ≤ 100) (nD : Y D = none)
    (hd : ∀ (U : Hp) (ps : List Addr), Same Y U → U D = some (.lst (ps.map V.ref)) → Prs K U ps ts → Qd U) :
    ∃ W : Nat → Nat → Hp → Prop, (∃ m, W 0 m (upd Y D (.lst []))) ∧ ∀ i m H, W i m H →
      ((Itl K L).stop i H ∧ Qd H) ∨ ((Itl K L).go i H ∧ ∃ Nx : Hp → Prop, (∀ H', Nx H' → ∃ m', m' < m ∧ W (i + 1) m' H') ∧ ∀ x H', (Itl K L).yld i H x H' → gName 10 x (wipe [x0, x1, x2, x3, x4, x5, x6, x7, x8, x9, x10, x11] [10]) H' fun σ2 H2 => wipe σ2 [10] = wipe [x0, x1, x2, x3, x4, x5, x6, x7, x8, x9, x10, x11] [10] ∧ tYes σ2 H2 fun b H3 =>
        if b = true then tTup (tCons (tOp (rIxT K) (tVar 10) (tC (V.int 0))) (tCons (tSl (rSlAny K) (tVar 10) (tPart (tC (V.int 1))) tNoPart) tNil)) σ2 H3 fun y H4 => ∃ acc, H4 D = some (.lst acc) ∧ acc.length < sizeLine ∧ Nx (upd H4 D (.lst (acc ++ [y]))) else Nx H3) := by
  have lv := dpAll_len hv
  rw [List.length_map] at lv
  refine lc_list (K := K) (a := L) (xs := vs) (fun j U => Same Y U ∧ ∃ ps : List Addr, U D = some (.lst (ps.map V.ref)) ∧ Prs K U ps (ts.take j)) ⟨same_upd nD, [], upd_same, .nil⟩ (fun j U _ h => SqL.of (h.1 _ _ hL)) ?_ ?_
  · rintro j x U hx ⟨sU, ps, hD, hp⟩
    obtain ⟨dd, hdd, hxd⟩ := dpAll_at hv hx
    rw [List.getElem?_map] at hdd
    obtain ⟨t, ht, rfl⟩ : ∃ t, ts[j]? = some t ∧ dd = t.d := by
      cases h : ts[j]? with
      | none => rw [h] at hdd; cases hdd
      | some e => rw [h] at hdd; exact ⟨e, rfl, (Option.some.inj hdd).symm⟩
    have hj : j < ts.length := (List.getElem?_eq_some_iff.mp ht).1
    have tk : ts.take (j + 1) = ts.take j ++ [t] := by rw [List.take_add_one, ht]; rfl
    have lp := paired_len hp
    rw [List.length_take] at lp
    obtain ⟨q, v1, v2, rfl, hq, h1, h2⟩ := t3_at (dp_same sU hxd)
    refine ⟨rfl, yesT ?_⟩
    refine ⟨_, rfl, q, _, 0, .str (SX.S t.k), rfl, rfl, hq, atI_nat (j := 0) rfl, _, rfl, 1, rfl, q, _, rfl, hq, fun U2 t2 s2 ht2 => ?_⟩
    have ht2 : SqT K U2 t2 [v1, v2] := ht2
    refine ⟨by show 2 ≤ sizeLine; decide, fun p3 n3 => ?_⟩
    have s3 := same_upd (o := .tup [.str (SX.S t.k), .ref t2]) n3
    have s23 := s2.trans s3
    have hD3 := s23 _ _ hD
    refine ⟨_, hD3, small1000 (by rw [List.length_map]; omega), ?_, ps ++ [p3], ?_, ?_⟩
    · exact Same.at_ (sU.trans s23) nD
    · rw [List.map_append]
      exact upd_same
    · rw [tk]
      have kk : KeepT (upd U2 p3 (.tup [.str (SX.S t.k), .ref t2])) (upd (upd U2 p3 (.tup [.str (SX.S t.k), .ref t2])) D (.lst (ps.map V.ref ++ [.ref p3]))) := KeepT.at_ hD3 lst_no
      have hit := hi t (List.mem_of_getElem? ht)
      have dv : Dp K U2 (.ref t2) t.r := .tup ht2 (.cons (dp_same s2 h1) (.cons (dp_same s2 h2) .nil))
      exact paired_snoc (prs_keep ((KeepT.of s23).trans kk) (fun t h => hi t (List.mem_of_mem_take h)) hp) ⟨.ref t2, kk.seqT (SqT.of upd_same), dp_imm ((KeepT.of s3).trans kk) dv hit⟩
  · rintro U ⟨sU, ps, hD, hp⟩
    rw [lv, List.take_length] at hp
    exact hd U ps sU hD hp
/-! ### a grammar on the heap, while it is drawn -/
theorem merge_keys : ∀ (kvs acc : List (Key × V)), ((acc ++ kvs).map (·.1)).Nodup → (mergeK acc kvs).map (·.1) = (acc ++ kvs).map (·.1)
  | [], acc, _ => by
    rw [List.append_nil]
    rfl
  | p :: kvs, acc, h => by
    show (mergeK (putK acc p.1 p.2) kvs).map (·.1) = _
    have e : putK acc p.1 p.2 = acc ++ [p] := by
      unfold putK
      rw [if_neg]
      intro z
      obtain ⟨x, hx, ex⟩ := List.any_eq_true.mp z
      rw [List.map_append, List.map_cons] at h
      exact (List.nodup_append.mp h).2.2 x.1 (List.mem_map_of_mem hx) p.1 (List.mem_cons_self ..) (of_decide_eq_true ex)
    rw [e, merge_keys kvs (acc ++ [p]) (by rw [List.append_assoc]; exact h), List.append_assoc]
    rfl
structure Gs (K : PySem.W.Frag) (H Y : Hp) (a gd ls lm lr of : Addr) (rs : List SRow) (ms : List MRow) (ru : List RRow) (roof : Nat) (kvs : List (Key × V)) : Prop where
  bt : But a H Y
  hgd : Y gd = some (.dK kvs)
  nH : H gd = none
  cap : valV kvs (Sum.inr "cap") = some (.int (roof : Nat))
  so : valV kvs (Sum.inr "sorts") = some (.ref ls)
  mak : valV kvs (Sum.inr "makings") = some (.ref lm)
  rl : valV kvs (Sum.inr "rules") = some (.ref lr)
  ofv : valV kvs (Sum.inr "of") = some (.ref of)
  hls : ∃ sv, Y ls = some (.lst sv) ∧ DpAll K Y sv (rs.map SRow.d)
  hlm : ∃ mv, Y lm = some (.lst mv) ∧ DpAll K Y mv (ms.map MRow.d)
  hlr : ∃ rv, Y lr = some (.lst rv) ∧ DpAll K Y rv (ru.map RRow.d)
  hof : ∃ ofk, Y of = some (.dK ofk) ∧ ofk.map (·.1) = rs.map (fun r => kS r.nm) ∧ ∀ r ∈ rs, ∃ v, valV ofk (kS r.nm) = some v ∧ Dp K Y v (.tuple [.tuple (r.dn.map strD), .tuple (r.up.map strD)])
  n1 : ls ≠ a
  n2 : lm ≠ a
  n3 : lr ≠ a
  n4 : of ≠ gd
theorem up_imm (r : SRow) : imm (.tuple [.tuple (r.dn.map strD), .tuple (r.up.map strD)]) = true := by
  show (immAll (r.dn.map strD) && (immAll (r.up.map strD) && true)) = true
  rw [immAll_map strD_imm, immAll_map strD_imm]
  rfl
theorem Gs.go {K : PySem.W.Frag} {H Y Z : Hp} {a gd ls lm lr of : Addr} {rs : List SRow} {ms : List MRow} {ru : List RRow} {roof : Nat} {kvs : List (Key × V)} {b : List V} (h : Gs K H Y a gd ls lm lr of rs ms ru roof kvs) (hb : Y a = some (.lst b)) (t : But a Y Z) : Gs K H Z a gd ls lm lr of rs ms ru roof kvs := by
  have k := KeepT.but hb t
  have nd : ∀ {d : Addr} {kv : List (Key × V)}, Y d = some (.dK kv) → d ≠ a := fun {d kv} h z => by
    rw [z, hb] at h
    cases h
  obtain ⟨sv, l1, l2⟩ := h.hls
  obtain ⟨mv, m1, m2⟩ := h.hlm
  obtain ⟨rv, r1, r2⟩ := h.hlr
  obtain ⟨ofk, o1, oks, o2⟩ := h.hof
  exact ⟨h.bt.trans t, t _ _ (nd h.hgd) h.hgd, h.nH, h.cap, h.so, h.mak, h.rl, h.ofv, ⟨sv, t _ _ h.n1 l1, dpAll_imm k l2 (immAll_map SRow.imm rs)⟩, ⟨mv, t _ _ h.n2 m1, dpAll_imm k m2 (immAll_map MRow.imm ms)⟩, ⟨rv, t _ _ h.n3 r1, dpAll_imm k r2 (immAll_map RRow.imm ru)⟩, ⟨ofk, t _ _ (nd o1) o1, oks, fun r hr => by
    obtain ⟨v, h1, h2⟩ := o2 r hr
    exact ⟨v, h1, dp_imm k h2 (up_imm r)⟩⟩, h.n1, h.n2, h.n3, h.n4⟩
/-- g[..] = .. -/
theorem Gs.set {K : PySem.W.Frag} {H Y : Hp} {a gd ls lm lr of lm' lr' : Addr} {rs : List SRow} {ms ms' : List MRow} {ru ru' : List RRow} {roof : Nat} {kvs kvs' : List (Key × V)} (h : Gs K H Y a gd ls lm lr of rs ms ru roof kvs)
    (hlm : ∃ mv, Y lm' = some (.lst mv) ∧ DpAll K Y mv (ms'.map MRow.d)) (n2 : lm' ≠ a) (hlr : ∃ rv, Y lr' = some (.lst rv) ∧ DpAll K Y rv (ru'.map RRow.d)) (n3 : lr' ≠ a)
    (cap : valV kvs' (Sum.inr "cap") = some (.int (roof : Nat))) (so : valV kvs' (Sum.inr "sorts") = some (.ref ls)) (mak : valV kvs' (Sum.inr "makings") = some (.ref lm')) (rl : valV kvs' (Sum.inr "rules") = some (.ref lr')) (ofv : valV kvs' (Sum.inr "of") = some (.ref of)) :
    Gs K H (upd Y gd (.dK kvs')) a gd ls lm' lr' of rs ms' ru' roof kvs' := by
  have k : KeepT Y (upd Y gd (.dK kvs')) := KeepT.at_ h.hgd dK_no
  have nl : ∀ {d : Addr} {xs : List V}, Y d = some (.lst xs) → d ≠ gd := fun {d xs} h' z => by
    rw [z, h.hgd] at h'
    cases h'
  obtain ⟨sv, l1, l2⟩ := h.hls
  obtain ⟨mv, m1, m2⟩ := hlm
  obtain ⟨rv, r1, r2⟩ := hlr
  obtain ⟨ofk, o1, oks, o2⟩ := h.hof
  refine ⟨fun c o nc hc => ?_, upd_same, h.nH, cap, so, mak, rl, ofv, ⟨sv, ?_, dpAll_imm k l2 (immAll_map SRow.imm rs)⟩, ⟨mv, ?_, dpAll_imm k m2 (immAll_map MRow.imm ms')⟩, ⟨rv, ?_, dpAll_imm k r2 (immAll_map RRow.imm ru')⟩, ⟨ofk, ?_, oks, fun r hr => ?_⟩, h.n1, n2, n3, h.n4⟩
  · rw [upd_ne (ne_of_none hc h.nH)]
    exact h.bt c o nc hc
  · rw [upd_ne (nl l1)]; exact l1
  · rw [upd_ne (nl m1)]; exact m1
  · rw [upd_ne (nl r1)]; exact r1
  · rw [upd_ne h.n4]; exact o1
  · obtain ⟨v, h1, h2⟩ := o2 r hr
    exact ⟨v, h1, dp_imm k h2 (up_imm r)⟩
/-- the phases -/
def Ph (Y : Hp) (a ph : Addr) (rs : List SRow) (phs : List Nat → List (List Nat)) : Prop := ∃ phk, Y ph = some (.dK phk) ∧ ∀ r ∈ rs, ∃ pl, valV phk (Sum.inr (SX.S r.nm)) = some (.ref pl) ∧ pl ≠ a ∧ Y pl = some (.lst (nmV (phs r.nm))) ∧ (phs r.nm).Perm (r.dn ++ r.up)
theorem Ph.go {Y Z : Hp} {a ph : Addr} {rs : List SRow} {phs : List Nat → List (List Nat)} {b : List V} (h : Ph Y a ph rs phs) (hb : Y a = some (.lst b)) (t : But a Y Z) : Ph Z a ph rs phs := by
  obtain ⟨phk, p1, p2⟩ := h
  refine ⟨phk, t _ _ (fun z => by rw [z, hb] at p1; cases p1) p1, fun r hr => ?_⟩
  obtain ⟨pl, h1, h2, h3, h4⟩ := p2 r hr
  exact ⟨pl, h1, h2, t _ _ h2 h3, h4⟩
theorem Ph.set {Y : Hp} {a ph gd : Addr} {rs : List SRow} {phs : List Nat → List (List Nat)} {kvs kvs' : List (Key × V)} (h : Ph Y a ph rs phs) (hg : Y gd = some (.dK kvs)) (n : ph ≠ gd) : Ph (upd Y gd (.dK kvs')) a ph rs phs := by
  obtain ⟨phk, p1, p2⟩ := h
  refine ⟨phk, by rw [upd_ne n]; exact p1, fun r hr => ?_⟩
  obtain ⟨pl, h1, h2, h3, h4⟩ := p2 r hr
  exact ⟨pl, h1, h2, by rw [upd_ne (fun z => by rw [z, hg] at h3; cases h3)]; exact h3, h4⟩
def sT (r : SRow) : T3 := ⟨r.nm, .tuple (r.dn.map strD), .tuple (r.up.map strD)⟩
def mT (r : MRow) : T3 := ⟨r.nm, strD r.so, .tuple (r.pt.map strD)⟩
theorem sT_d (rs : List SRow) : rs.map SRow.d = (rs.map sT).map T3.d := by
  rw [List.map_map]
  rfl
theorem mT_d (ms : List MRow) : ms.map MRow.d = (ms.map mT).map T3.d := by
  rw [List.map_map]
  rfl
/-- the rules of all makings -/
inductive RuAll (rs : List SRow) (roof : Nat) : List MRow → List RRow → Prop
  | nil : RuAll rs roof [] []
  | snoc {ms : List MRow} {ru pr : List RRow} {mr : MRow} {ks : List (List Nat)} : RuAll rs roof ms ru → RulesOk rs mr roof ks pr → RuAll rs roof (ms ++ [mr]) (ru ++ pr)
structure MOk (rs : List SRow) (mr : MRow) : Prop where
  nm : NmOk mr.nm
  so : ∀ k ∈ mr.places, ∃ r ∈ rs, r.nm = k
  p2 : mr.pt.length ≤ 2
structure GramOk (rs : List SRow) (ms : List MRow) (ru : List RRow) (roof : Nat) : Prop where
  so : SortsOk rs
  s1 : 1 ≤ rs.length
  nd : (ms.map MRow.nm).Nodup
  ok : ∀ m ∈ ms, MOk rs m
  m8 : ms.length ≤ 8
  m1 : rs.length ≤ ms.length
  ru : RuAll rs roof ms ru
  rf : roof ≤ 9
structure GramIn (K : PySem.W.Frag) (Y : Hp) (a gd : Addr) (rs : List SRow) (ms : List MRow) (ru : List RRow) (roof : Nat) : Prop where
  ex : ∃ ls lm lr of kvs, Gs K (fun _ => none) Y a gd ls lm lr of rs ms ru roof kvs ∧ ∃ by_ byk, valV kvs (Sum.inr "by") = some (.ref by_) ∧ by_ ≠ gd ∧ Y by_ = some (.dK byk) ∧ byk.map (·.1) = ms.map (fun m => kS m.nm) ∧ ∀ m ∈ ms, ∃ v, valV byk (kS m.nm) = some v ∧ Dp K Y v (.tuple [strD m.so, .tuple (m.pt.map strD)])
abbrev s__law_drawn : Stmt := top 64
abbrev N__law_drawn : List Str := ["_law_box", "_law_roof", "_law_wild", "_law_kinds", "_law_g", "_law_phases", "_law_k", "_law_name", "_law_kind", "_law_size", "_law_row", "_law_turn"]
abbrev P__law_drawn : List Str := ["_law_box", "_law_roof", "_law_wild"]
theorem sc__law_drawn : FnScope N__law_drawn P__law_drawn (defScope s__law_drawn) := ⟨rfl, rfl, rfl, by decide +kernel, rfl, by decide +kernel, by decide +kernel⟩
structure Dw (mg : Str → Option Value) : Prop where
  range : mg "range" = none
  len : mg "len" = none
  dict : mg "dict" = none
  tuple : mg "tuple" = none
  enumerate : mg "enumerate" = none
def spDrawn (K : PySem.W.Frag) : Sp := fun vs H Q _ => ∃ (a : Addr) (roof m : Nat) (wv : V) (wb : Bool) (wn : Nat) (b : List V), vs = [.ref a, .int roof, wv] ∧ Dp K H wv (.tuple [.bool wb, .int (wn : Nat)]) ∧ 0 < wn ∧ wn < 1000000 ∧ roof ≤ 9 ∧ H a = some (.lst b) ∧ BoxL m b ∧ m + 8000 < 900000 ∧
  ∀ (H' : Hp) (gd : Addr) (rs : List SRow) (ms : List MRow) (ru : List RRow) (b' : List V), But a H H' → H gd = none → GramIn K H' a gd rs ms ru roof → GramOk rs ms ru roof → H' a = some (.lst b') → BoxL (m + 8000) b' → Q (.ref gd) H'
theorem find_row {xs : List (SRow × Addr × List (List Nat))} (hn : (xs.map fun x => x.1.nm).Nodup) : ∀ x ∈ xs, xs.find? (fun y => decide (y.1.nm = x.1.nm)) = some x := by
  induction xs with
  | nil => exact fun x h => nomatch h
  | cons y ys ih =>
    intro x hx
    rw [List.map_cons, List.nodup_cons] at hn
    rw [List.find?_cons]
    rcases List.mem_cons.mp hx with rfl | hx
    · rw [decide_eq_true rfl]
    · rw [decide_eq_false fun z => hn.1 (by rw [z]; exact List.mem_map_of_mem hx)]
      exact ih hn.2 x hx
theorem paired_mem {α β : Type} {R : α → β → Prop} : ∀ {xs : List α} {ys : List β}, Paired R xs ys → ∀ y ∈ ys, ∃ x, R x y
  | _, _, .nil, y, h => nomatch h
  | _, _, .cons a r, y, h => by
    rcases List.mem_cons.mp h with rfl | h
    · exact ⟨_, a⟩
    · exact paired_mem r y h
theorem paired_map {α β γ : Type} {R : α → γ → Prop} {f : β → γ} : ∀ {xs : List α} {ys : List β}, Paired (fun x y => R x (f y)) xs ys → Paired R xs (ys.map f)
  | _, _, .nil => .nil
  | _, _, .cons a r => .cons a (paired_map r)
theorem names_dp {K : PySem.W.Frag} {H : Hp} {v : V} {ws : List (List Nat)} (h : Dp K H v (.tuple (ws.map strD))) : ∃ t, v = .ref t ∧ SqT K H t (nmV ws) := by
  cases h with
  | tup h1 h2 =>
    rw [names_of h2] at h1
    exact ⟨_, rfl, h1⟩
theorem rr_at {K : PySem.W.Frag} {H : Hp} {v : V} {r : RRow} (h : Dp K H v r.d) : ∃ q v2 v4, v = .ref q ∧ SqT K H q [.str (SX.S r.ma), v2, .str (SX.S r.op), v4] ∧ Dp K H v2 r.tg.d := by
  cases h with
  | tup hS hA =>
    cases hA with
    | cons a1 hA =>
      cases hA with
      | cons a2 hA =>
        cases hA with
        | cons a3 hA =>
          cases hA with
          | cons a4 hA =>
            cases hA
            cases a1
            cases a3
            exact ⟨_, _, _, rfl, hS, a2⟩
theorem m_imm (m : MRow) : imm (mT m).r = true := by
  show (true && (immAll (m.pt.map strD) && true)) = true
  rw [immAll_map strD_imm]
  rfl
theorem key_depth (w : List Nat) (e : En) : (keyD (.tuple [strD w, e.d])).depth ≤ 8 := by
  cases e with
  | sp p w' => exact (by decide : 2 ≤ 8)
  | kept w' => exact (by decide : 2 ≤ 8)
theorem Gs.any {K : PySem.W.Frag} {H Y : Hp} {a gd ls lm lr of : Addr} {rs : List SRow} {ms : List MRow} {ru : List RRow} {roof : Nat} {kvs : List (Key × V)} (h : Gs K H Y a gd ls lm lr of rs ms ru roof kvs) : Gs K (fun _ => none) Y a gd ls lm lr of rs ms ru roof kvs :=
  { h with bt := (fun c o _ hc => nomatch hc), nH := rfl }
section
variable {P : Program} {w : World} {K : PySem.W.Frag} {mg : Str → Option Value} {base : Heap}
theorem ok_drawn (T : Dw mg) (c_law_take : C8.Cal P w K mg base 1 "_law_take" spTake []) (c_law_named : C8.Cal P w K mg base 2 "_law_named" spNamed []) (c_law_strewn : C8.Cal P w K mg base 2 "_law_strewn" (spStrewnT K) []) (c_law_one_of : C8.Cal P w K mg base 2 "_law_one_of" (spOneOf K) []) (c_law_sort_rows : C8.Cal P w K mg base 3 "_law_sort_rows" (spSortRows K) []) (c_law_rules_for : C8.Cal P w K mg base 3 "_law_rules_for" (spRules K) [])
    (D : Dd K mg "_law_drawn" s__law_drawn P__law_drawn) : C8.Cal P w K mg base 4 "_law_drawn" (spDrawn K) [] := by
  refine D.cal sc__law_drawn (fun vs H Q E h => ?_) (fun f cdv A outer s H vs Q E hr h => ?_)
  · obtain ⟨a, roof, m, wv, wb, wn, b, rfl, _⟩ := h
    rfl
  · obtain ⟨a, roof, m, wv, wb, wn, b, rfl, hwv, w0, w1, hroof, ha, hB, hm, q⟩ := h
    refine ⟨_, (C8.pss_cut (ps_set (i := 3) sc__law_drawn.nd rfl (Or.inr rfl) (C8.pe_c c_law_sort_rows hr (by decide) (by rfl) (pa_cons (pv 0) (pa_cons (pe_op op_add pe_int (C8.pe_c c_law_take hr (by decide) (by rfl) (pa_cons (pv 0) (pa_cons pe_int pa_nil)))) pa_nil))))
        (C8.pss_cut (ps_set (i := 4) sc__law_drawn.nd rfl (Or.inl rfl) (pe_disp (pps_cons pe_str (pv 1) (pps_cons pe_str (pv 3) (pps_cons pe_str (pe_lst pa_nil) (pps_cons pe_str (pe_lst pa_nil) (pps_cons pe_str (pe_callTy (call_dictP rfl) (by rfl) T.dict (by decide +kernel) (pa_cons (pe_lc (own := [("_law_row", 10)]) (by exact rfl) sc__law_drawn.nd (pi_list (pv 3)) (blkOk_by (own := [("_law_row", 10)]) (N := N__law_drawn) (sc := defScope s__law_drawn) (by decide +kernel)) (fun _ _ _ _ _ => (pg_name (i := 10) sc__law_drawn.nd rfl (Or.inl rfl))) (fun _ _ _ _ _ => pts_nil) (fun _ _ _ _ _ => (pe_tup (pa_cons (pe_ix (r := rIxT K) ix_tup (pv 10) pe_int (fun _ _ => rfl)) (pa_cons (pe_slice (r := rSlAny K) sl_any (pv 10) (po_some pe_int) po_none) pa_nil))))) pa_nil)) pps_nil))))) (by rfl) (by rfl) (fun z => by cases z) (by decide)))
        (C8.pss_cut (ps_set (i := 5) sc__law_drawn.nd rfl (Or.inl rfl) (pe_callTy (call_dictP rfl) (by rfl) T.dict (by decide +kernel) (pa_cons (pe_lc (own := [("_law_row", 10)]) (by exact rfl) sc__law_drawn.nd (pi_list (pv 3)) (blkOk_by (own := [("_law_row", 10)]) (N := N__law_drawn) (sc := defScope s__law_drawn) (by decide +kernel)) (fun _ _ _ _ _ => (pg_name (i := 10) sc__law_drawn.nd rfl (Or.inl rfl))) (fun _ _ _ _ _ => pts_nil) (fun _ _ _ _ _ => (pe_tup (pa_cons (pe_ix (r := rIxT K) ix_tup (pv 10) pe_int (fun _ _ => rfl)) (pa_cons (C8.pe_c c_law_strewn hr (by decide) (by rfl) (pa_cons (pv 0) (pa_cons (pe_op (r := rCatAny K) op_catAny (pe_ix (r := rIxT K) ix_tup (pv 10) pe_int (fun _ _ => rfl)) (pe_ix (r := rIxT K) ix_tup (pv 10) pe_int (fun _ _ => rfl))) pa_nil))) pa_nil))))) pa_nil)))
        (C8.pss_cut (ps_for PassesOwn.never rfl (pi_enum (by rfl) T.enumerate (pa_cons (C8.pe_c c_law_named hr (by decide) (by rfl) (pa_cons (pv 0) (pa_cons (pe_op op_add (pe_callB call_len_seq (by rfl) T.len PySem.boot_len (pa_cons (pv 3) pa_nil)) (C8.pe_c c_law_take hr (by decide) (by rfl) (pa_cons (pv 0) (pa_cons (pe_op op_sub pe_int (pe_callB call_len_seq (by rfl) T.len PySem.boot_len (pa_cons (pv 3) pa_nil))) pa_nil)))) pa_nil))) pa_nil)) (pg_tup rfl (pgs_cons (pg_name (i := 6) sc__law_drawn.nd rfl (Or.inl rfl)) (pgs_cons (pg_name (i := 7) sc__law_drawn.nd rfl (Or.inl rfl)) pgs_nil)))
          (pss_cons (ps_par rfl sc__law_drawn.nd (i := 8) (j := 9) rfl rfl (by decide) rfl rfl (pa_cons (pe_ix (r := rIxT K) ix_tup (C8.pe_c c_law_one_of hr (by decide) (by rfl) (pa_cons (pv 0) (pa_cons (pv 3) pa_nil))) pe_int (fun _ _ => rfl)) (pa_cons (pe_ix ix_list (pe_lst (pa_cons pe_int (pa_cons pe_int (pa_cons pe_int (pa_cons pe_int pa_nil))))) (C8.pe_c c_law_take hr (by decide) (by rfl) (pa_cons (pv 0) (pa_cons pe_int pa_nil))) (fun _ _ => rfl)) pa_nil)) (by rfl))
        (C8.pss_cut (ps_if (PW.pt (pw_and (pt_cmpR op_lt (pv 6) (pe_callB call_len_seq (by rfl) T.len PySem.boot_len (pa_cons (pv 3) pa_nil)) (nomark _)) (pw_and1 (pt_cmpR op_gt (C8.pe_c c_law_take hr (by decide) (by rfl) (pa_cons (pv 0) (pa_cons pe_int pa_nil))) pe_int (nomark _)))))
          (pss_one (ps_par rfl sc__law_drawn.nd (i := 8) (j := 9) rfl rfl (by decide) rfl rfl (pa_cons (pe_ix (r := rIxT K) ix_tup (pe_ix ix_list (pv 3) (pv 6) (fun _ _ => rfl)) pe_int (fun _ _ => rfl)) (pa_cons pe_int pa_nil)) (by rfl)))
          pss_nil)
        (C8.pss_cut (ps_set (i := 10) sc__law_drawn.nd rfl (Or.inl rfl) (pe_tup (pa_cons (pv 7) (pa_cons (pv 8) (pa_cons (pe_callTy call_tuple_of (by rfl) T.tuple (by decide +kernel) (pa_cons (pe_lc (own := [("_law_turn", 11)]) (by exact rfl) sc__law_drawn.nd (pi_range1 rfl T.range (pa_cons (pv 9) pa_nil)) (blkOk_by (own := [("_law_turn", 11)]) (N := N__law_drawn) (sc := defScope s__law_drawn) (by decide +kernel)) (fun _ _ _ _ _ => (pg_name (i := 11) sc__law_drawn.nd rfl (Or.inl rfl))) (fun _ _ _ _ _ => pts_nil) (fun _ _ _ _ _ => (pe_ix (r := rIxT K) ix_tup (C8.pe_c c_law_one_of hr (by decide) (by rfl) (pa_cons (pv 0) (pa_cons (pv 3) pa_nil))) pe_int (fun _ _ => rfl)))) pa_nil)) pa_nil)))))
        (C8.pss_cut (ps_dput (hu_of hr) (pv 4) pe_str (pe_op op_cat (pe_dget (hu_of hr) (pv 4) pe_str (fun _ _ => rfl)) (pe_lst (pa_cons (pv 10) pa_nil))) (by rfl))
        (pss_one (ps_dput (hu_of hr) (pv 4) pe_str (pe_op op_cat (pe_dget (hu_of hr) (pv 4) pe_str (fun _ _ => rfl)) (C8.pe_c c_law_rules_for hr (by decide) (by rfl) (pa_cons (pv 0) (pa_cons (pv 4) (pa_cons (pv 10) (pa_cons (pv 5) (pa_cons (pv 2) pa_nil))))))) (by rfl))))))))
        (C8.pss_cut (ps_dput (hu_of hr) (pv 4) pe_str (pe_callTy (call_dictP rfl) (by rfl) T.dict (by decide +kernel) (pa_cons (pe_lc (own := [("_law_row", 10)]) (by exact rfl) sc__law_drawn.nd (pi_list (pe_dget (hu_of hr) (pv 4) pe_str (fun _ _ => rfl))) (blkOk_by (own := [("_law_row", 10)]) (N := N__law_drawn) (sc := defScope s__law_drawn) (by decide +kernel)) (fun _ _ _ _ _ => (pg_name (i := 10) sc__law_drawn.nd rfl (Or.inl rfl))) (fun _ _ _ _ _ => pts_nil) (fun _ _ _ _ _ => (pe_tup (pa_cons (pe_ix (r := rIxT K) ix_tup (pv 10) pe_int (fun _ _ => rfl)) (pa_cons (pe_slice (r := rSlAny K) sl_any (pv 10) (po_some pe_int) po_none) pa_nil))))) pa_nil)) (by rfl))
        (pss_cons (ps_dput (hu_of hr) (pv 4) pe_str (pe_callTy (call_dictN (hu65 hr) rfl) (by rfl) T.dict (by decide +kernel) (pa_cons (pe_lc (own := [("_law_row", 10)]) (by exact rfl) sc__law_drawn.nd (pi_list (pe_dget (hu_of hr) (pv 4) pe_str (fun _ _ => rfl))) (blkOk_by (own := [("_law_row", 10)]) (N := N__law_drawn) (sc := defScope s__law_drawn) (by decide +kernel)) (fun _ _ _ _ _ => (pg_name (i := 10) sc__law_drawn.nd rfl (Or.inl rfl))) (fun _ _ _ _ _ => pts_nil) (fun _ _ _ _ _ => (pe_tup (pa_cons (pe_slice (r := rSlAny K) sl_any (pv 10) po_none (po_some pe_int)) (pa_cons (pe_slice (r := rSlAny K) sl_any (pv 10) (po_some pe_int) po_none) pa_nil))))) pa_nil)) (by rfl))
        (pss_one (ps_ret (pv 4))))))))), ?_⟩
    -- the sorts
    refine ⟨fun σ X => ∃ (ls : Addr) (sv b1 : List V) (rs : List SRow), σ = [some (.ref a), some (.int (roof : Nat)), some wv, some (.ref ls), none, none, none, none, none, none, none, none] ∧ But a H X ∧ H ls = none ∧ X ls = some (.lst sv) ∧ DpAll K X sv (rs.map SRow.d) ∧ SortsOk rs ∧ 1 ≤ rs.length ∧ rs.length ≤ 4 ∧ X a = some (.lst b1) ∧ BoxL (m + 301) b1, ?_, ?_⟩
    · refine ⟨_, rfl, _, rfl, a, 4, _, b, rfl, ha, hB, by omega, by decide, by decide, fun r0 b1 h0 h0' hB1 => ?_⟩
      obtain ⟨n0, rfl⟩ := Int.eq_ofNat_of_zero_le h0
      have bt0 : But a H (upd H a (.lst b1)) := But.upd (But.refl a H)
      refine ⟨_, _, rfl, rfl, a, 1 + n0, m + 1, b1, rfl, by omega, by omega, upd_same, hB1, by omega, fun X ls sv rs b2 bt nls hls hsv hrl hrs hb2 hB2 => ?_⟩
      exact ⟨ls, sv, b2, rs, rfl, bt0.trans bt, But.free bt0 upd_same nls, hls, hsv, hrs, by omega, by omega, hb2, hB2.mono (by omega)⟩
    rintro σ X0 ⟨ls, sv, b1, rs, rfl, bt0, nls, hls0, hsv0, hrs, rs1, rs4, hb0, hB0⟩
    have off : ∀ {x : Addr}, H x = none → x ≠ a := fun {x} h z => by
      rw [z, ha] at h
      cases h
    have ndr : (rs.map fun r => r.nm).Nodup := hrs.nd
    have ndk : ((rs.map sT).map fun t => kS t.k).Nodup := by
      rw [show ((rs.map sT).map fun t => kS t.k) = (rs.map fun r => r.nm).map kS by rw [List.map_map, List.map_map]; rfl]
      exact List.pairwise_map.mpr (ndr.imp fun h z => h (kS_inj z))
    -- the grammar
    refine ⟨fun σ X => ∃ (gd lm lr of : Addr) (kvs : List (Key × V)), σ = [some (.ref a), some (.int (roof : Nat)), some wv, some (.ref ls), some (.ref gd), none, none, none, none, none, none, none] ∧ Gs K H X a gd ls lm lr of rs [] [] roof kvs ∧ kvs.length ≤ 5 ∧ X a = some (.lst b1), ?_, ?_⟩
    · refine fun gd ngd => ?_
      have g0 := same_upd (o := .dK []) ngd
      refine ⟨_, rfl, _, rfl, by show 0 ≤ sizeLine; decide, fun lm nlm => ⟨by show 0 ≤ sizeLine; decide, fun lr nlr => ?_⟩⟩
      have g1 := same_upd (o := .lst []) nlm
      have g2 := same_upd (o := .lst []) nlr
      have g02 := (g0.trans g1).trans g2
      refine ⟨_, rfl, ls, rfl, ⟨_, SqL.of (g02 _ _ hls0)⟩, fun D nD => ?_⟩
      refine lc_of (ts := rs.map sT) (g02 _ _ hls0) (by rw [← sT_d]; exact dpAll_same g02 hsv0) (fun t ht => ?_) (by rw [List.length_map]; omega) nD fun U ps sU hD hp => ?_
      · obtain ⟨r, _, rfl⟩ := List.mem_map.mp ht
        exact up_imm r
      obtain ⟨kvs, k1, k2, k3⟩ := hp.kvs
      refine ⟨D, ps, kvs, rfl, SqL.of hD, k1, fun of nof => ?_⟩
      have g3 := same_upd (o := .dK (mergeK [] kvs)) nof
      have hgd : (upd U of (.dK (mergeK [] kvs))) gd = some (.dK []) := (g1.trans (g2.trans (sU.trans g3))) _ _ upd_same
      refine ⟨hgd, [(Sum.inr "cap", .int (roof : Nat)), (Sum.inr "sorts", .ref ls), (Sum.inr "makings", .ref lm), (Sum.inr "rules", .ref lr), (Sum.inr "of", .ref of)], rfl, by show 5 ≤ 15; decide, ?_⟩
      have sA : Same X0 (upd U of (.dK (mergeK [] kvs))) := g02.trans (sU.trans g3)
      have hlm : (upd U of (.dK (mergeK [] kvs))) lm = some (.lst []) := (g2.trans (sU.trans g3)) _ _ upd_same
      have hlr : (upd U of (.dK (mergeK [] kvs))) lr = some (.lst []) := (sU.trans g3) _ _ upd_same
      have ngH : H gd = none := But.free bt0 hb0 ngd
      have bA := bt0.trans (But.of (a := a) sA)
      have n2 : lm ≠ a := fun z => by
        have := sA _ _ hb0
        rw [← z, hlm] at this
        rw [z, (g0 _ _ hb0)] at nlm
        cases nlm
      have n3 : lr ≠ a := fun z => by
        rw [z, ((g0.trans g1) _ _ hb0)] at nlr
        cases nlr
      have n4 : of ≠ gd := fun z => by
        rw [z, (g1.trans (g2.trans sU)) _ _ upd_same] at nof
        cases nof
      have kk : KeepT (upd U of (.dK (mergeK [] kvs))) (upd (upd U of (.dK (mergeK [] kvs))) gd (.dK (mergeK [] [(Sum.inr "cap", .int (roof : Nat)), (Sum.inr "sorts", .ref ls), (Sum.inr "makings", .ref lm), (Sum.inr "rules", .ref lr), (Sum.inr "of", .ref of)]))) := KeepT.at_ hgd dK_no
      have nl : ∀ {d : Addr} {xs : List V}, (upd U of (.dK (mergeK [] kvs))) d = some (.lst xs) → d ≠ gd := fun {d xs} h' z => by
        rw [z, hgd] at h'
        cases h'
      refine ⟨gd, lm, lr, of, _, rfl, ⟨fun c o nc hc => ?_, upd_same, ngH, rfl, rfl, rfl, rfl, rfl, ⟨sv, ?_, dpAll_imm kk (dpAll_same sA hsv0) (immAll_map SRow.imm rs)⟩, ⟨[], ?_, .nil⟩, ⟨[], ?_, .nil⟩, ⟨mergeK [] kvs, ?_, (merge_keys kvs [] (by show (kvs.map (·.1)).Nodup; rw [k2]; exact ndk)).trans (by show kvs.map (·.1) = _; rw [k2, List.map_map]; rfl), fun r hr => ?_⟩, off nls, n2, n3, n4⟩, length_mergeK _ [], ?_⟩
      · rw [upd_ne (ne_of_none hc ngH)]
        exact bA c o nc hc
      · rw [upd_ne (nl (sA _ _ hls0))]
        exact sA _ _ hls0
      · rw [upd_ne (nl hlm)]
        exact hlm
      · rw [upd_ne (nl hlr)]
        exact hlr
      · rw [upd_ne n4]
        exact upd_same
      · obtain ⟨v, h1, h2⟩ := k3 (sT r) (List.mem_map_of_mem hr)
        exact ⟨v, merge_in kvs [] (by rw [k2]; exact ndk) _ h1, dp_imm kk (dp_same g3 h2) (up_imm r)⟩
      · rw [upd_ne (nl (sA _ _ hb0)).symm.symm]
        exact sA _ _ hb0
    rintro σ X1 ⟨gd, lm, lr, of, kvs, rfl, gs1, kl1, hb1⟩
    obtain ⟨sv1, hls1, hsv1⟩ := gs1.hls
    -- the phases
    refine ⟨fun σ X => ∃ (ph : Addr) (phs : List Nat → List (List Nat)) (b2 : List V), σ = [some (.ref a), some (.int (roof : Nat)), some wv, some (.ref ls), some (.ref gd), some (.ref ph), none, none, none, none, none, none] ∧ Gs K H X a gd ls lm lr of rs [] [] roof kvs ∧ Ph X a ph rs phs ∧ ph ≠ gd ∧ X a = some (.lst b2) ∧ BoxL (m + 320) b2, ?_, ?_⟩
    · refine ⟨_, rfl, ls, rfl, ⟨_, SqL.of hls1⟩, fun D nD => ?_⟩
      refine lc_list (K := K) (a := ls) (xs := sv1) (fun j U => But a X1 U ∧ ∃ (ps : List Addr) (xs : List (SRow × Addr × List (List Nat))) (b' : List V), U D = some (.lst (ps.map V.ref)) ∧ U a = some (.lst b') ∧ BoxL (m + 301 + 4 * j) b' ∧ Paired (fun p x => SqT K U p [.str (SX.S x.1.nm), .ref x.2.1] ∧ x.2.1 ≠ a ∧ x.2.1 ≠ D ∧ U x.2.1 = some (.lst (nmV x.2.2)) ∧ x.2.2.Perm (x.1.dn ++ x.1.up)) ps xs ∧ xs.map (·.1) = rs.take j) ⟨But.of (same_upd nD), [], [], b1, upd_same, ?_, hB0, .nil, rfl⟩ (fun j U _ h => SqL.of (h.1 _ _ gs1.n1 hls1)) ?_ ?_
      · exact same_upd nD _ _ hb1
      · rintro j x U hx ⟨bU, ps, xs, b', hD, hb', hB', hp, hxs⟩
        obtain ⟨dd, hdd, hxd⟩ := dpAll_at hsv1 hx
        rw [List.getElem?_map] at hdd
        obtain ⟨r, hr, rfl⟩ : ∃ r, rs[j]? = some r ∧ dd = r.d := by
          cases h : rs[j]? with
          | none => rw [h] at hdd; cases hdd
          | some e => rw [h] at hdd; exact ⟨e, rfl, (Option.some.inj hdd).symm⟩
        have hj : j < rs.length := (List.getElem?_eq_some_iff.mp hr).1
        have rok := hrs.ok r (List.mem_of_getElem? hr)
        have rd2 := rok.d2
        have ru2 := rok.u2
        have kU := KeepT.but hb1 bU
        have tk : rs.take (j + 1) = rs.take j ++ [r] := by rw [List.take_add_one, hr]; rfl
        have lp := paired_len hp
        have lx : xs.length = j := by
          have := congrArg List.length hxs
          rw [List.length_map, List.length_take] at this
          omega
        obtain ⟨q, v1, v2, rfl, hq, h1, h2⟩ := t3_at (t := sT r) (dp_imm kU hxd r.imm)
        obtain ⟨td, rfl, htd⟩ := names_dp h1
        obtain ⟨tu, rfl, htu⟩ := names_dp h2
        refine ⟨rfl, yesT ?_⟩
        refine ⟨_, rfl, q, _, 0, .str (SX.S r.nm), rfl, rfl, hq, atI_nat (j := 0) rfl, _, rfl, _, rfl, q, _, 1, .ref td, rfl, rfl, hq, atI_nat (j := 1) rfl, _, rfl, q, _, 2, .ref tu, rfl, rfl, hq, atI_nat (j := 2) rfl, td, tu, nmV r.dn, nmV r.up, rfl, rfl, htd, htu, ?_, fun U1 tc s1 htc => ?_⟩
        · rw [nmV_len, nmV_len]
          exact Nat.le_trans (show _ ≤ 4 by omega) (by decide)
        have lc : (nmV r.dn ++ nmV r.up).length ≤ 4 := by
          rw [List.length_append, nmV_len, nmV_len]
          omega
        refine ⟨a, tc, _, b', _, rfl, s1 _ _ hb', hB', by omega, htc, by omega, fun U2 l ys b2 bt2 nl hl hpm hb2 hB2 => ?_⟩
        obtain ⟨ws, rfl, hws⟩ := perm_map hpm (r.dn ++ r.up) (by unfold nmV; rw [List.map_append])
        refine ⟨by show 2 ≤ sizeLine; decide, fun p3 n3 => ?_⟩
        have s3 := same_upd (o := .tup [.str (SX.S r.nm), .ref l]) n3
        have nDa : D ≠ a := fun z => by
          rw [z, hb1] at nD
          cases nD
        have nlU : U l = none := s1.free nl
        have nla : l ≠ a := fun z => by
          rw [z, hb'] at nlU
          cases nlU
        have nlD : l ≠ D := fun z => by
          rw [z, hD] at nlU
          cases nlU
        have b13 : But a U (upd U2 p3 (.tup [.str (SX.S r.nm), .ref l])) := ((But.of s1).trans bt2).trans (But.of s3)
        have hD3 := b13 _ _ nDa hD
        have hl3 := s3 _ _ hl
        have hb3 := s3 _ _ hb2
        have ht3 : SqT K (upd U2 p3 (.tup [.str (SX.S r.nm), .ref l])) p3 [.str (SX.S r.nm), .ref l] := SqT.of upd_same
        have k3 := KeepT.but hb' b13
        obtain ⟨U3, eU3⟩ : ∃ U3, U3 = upd U2 p3 (.tup [.str (SX.S r.nm), .ref l]) := ⟨_, rfl⟩
        rw [← eU3] at b13 hD3 hl3 hb3 ht3 k3 ⊢
        have kk : KeepT U3 (upd U3 D (.lst (ps.map V.ref ++ [.ref p3]))) := KeepT.at_ hD3 lst_no
        refine ⟨_, hD3, small1000 (by rw [List.length_map]; omega), fun c o nc hc => ?_, ps ++ [p3], xs ++ [(r, l, ws)], b2, ?_, ?_, hB2.mono (by omega), paired_snoc (paired_mono (fun p x h => ?_) hp) ⟨kk.seqT ht3, nla, nlD, ?_, hws⟩, ?_⟩
        · rw [upd_ne (ne_of_none hc nD)]
          exact (bU.trans b13) c o nc hc
        · rw [List.map_append]
          exact upd_same
        · rw [upd_ne nDa.symm]
          exact hb3
        · obtain ⟨q1, q2, q3, q4, q5⟩ := h
          exact ⟨(k3.trans kk).seqT q1, q2, q3, by rw [upd_ne q3]; exact b13 _ _ q2 q4, q5⟩
        · rw [upd_ne nlD]
          exact hl3
        · rw [List.map_append, hxs, tk]
          rfl
      · rintro U ⟨bU, ps, xs, b', hD, hb', hB', hp, hxs⟩
        have lsv := dpAll_len hsv1
        rw [List.length_map] at lsv
        rw [lsv, List.take_length] at hxs
        have ekn : (xs.map fun x => ((kS x.1.nm, V.ref x.2.1) : Key × V)).map (·.1) = (rs.map fun r => r.nm).map kS := by
          rw [← hxs, List.map_map, List.map_map, List.map_map]
          rfl
        have nxn : (xs.map fun x => x.1.nm).Nodup := by
          rw [show (xs.map fun x => x.1.nm) = (xs.map (·.1)).map (fun r => r.nm) by rw [List.map_map]; rfl, hxs]
          exact ndr
        refine ⟨D, ps, xs.map fun x => (kS x.1.nm, V.ref x.2.1), rfl, SqL.of hD, paired_map (paired_mono (fun p x h => h.1) hp), fun ph nph => ?_⟩
        have g3 := same_upd (o := .dK (mergeK [] (xs.map fun x => (kS x.1.nm, V.ref x.2.1)))) nph
        have bA := bU.trans (But.of (a := a) g3)
        obtain ⟨phs, hphs⟩ : ∃ phs : List Nat → List (List Nat), ∀ x ∈ xs, phs x.1.nm = x.2.2 := ⟨fun k => ((xs.find? fun y => decide (y.1.nm = k)).map fun x => x.2.2).getD [], fun x hx => by
          show ((xs.find? fun y => decide (y.1.nm = x.1.nm)).map fun x => x.2.2).getD [] = _
          rw [find_row nxn x hx]
          rfl⟩
        refine ⟨ph, phs, b', rfl, gs1.go hb1 bA, ⟨_, upd_same, fun r hr => ?_⟩, ?_, g3 _ _ hb', hB'.mono (by omega)⟩
        · rw [← hxs] at hr
          obtain ⟨x, hx, rfl⟩ := List.mem_map.mp hr
          obtain ⟨p, q1, q2, q3, q4, q5⟩ := paired_mem hp x hx
          refine ⟨x.2.1, ?_, q2, ?_, ?_⟩
          · exact merge_in _ [] (by rw [ekn]; exact List.pairwise_map.mpr (ndr.imp fun h z => h (kS_inj z))) (kS x.1.nm, V.ref x.2.1) (List.mem_map_of_mem hx)
          · rw [hphs x hx]
            exact g3 _ _ q4
          · rw [hphs x hx]
            exact q5
        · exact fun z => by
            have := (gs1.go hb1 bU).hgd
            rw [← z, nph] at this
            cases this
    rintro σ X2 ⟨ph, phs, b2, rfl, gs2, ph2, npg, hb2, hB2⟩
    -- the makings
    refine ⟨fun σ Y => ∃ (y6 y7 y8 y9 y10 y11 : Option V) (lm lr : Addr) (ms : List MRow) (ru : List RRow) (kvs : List (Key × V)) (b' : List V), σ = [some (.ref a), some (.int (roof : Nat)), some wv, some (.ref ls), some (.ref gd), some (.ref ph), y6, y7, y8, y9, y10, y11] ∧ Gs K H Y a gd ls lm lr of rs ms ru roof kvs ∧ kvs.length ≤ 30 ∧ (ms.map MRow.nm).Nodup ∧ (∀ m ∈ ms, MOk rs m) ∧ ms.length ≤ 8 ∧ rs.length ≤ ms.length ∧ RuAll rs roof ms ru ∧ ru.length ≤ 240 ∧ Y a = some (.lst b') ∧ BoxL (m + 7000) b', ?_, ?_⟩
    · obtain ⟨sv2, hls2, hsv2⟩ := gs2.hls
      have lsv := dpAll_len hsv2
      rw [List.length_map] at lsv
      refine ⟨_, rfl, _, rfl, ls, sv2, rfl, .inl (SqL.of hls2), _, rfl, _, rfl, ls, sv2, rfl, .inl (SqL.of hls2), _, _, rfl, rfl, a, _, _, b2, rfl, hb2, hB2, by omega, by omega, by omega, fun r3 b3 h3 h3' hB3 => ?_⟩
      obtain ⟨n3, rfl⟩ := Int.eq_ofNat_of_zero_le h3
      have bt3 : But a X2 (upd X2 a (.lst b3)) := But.upd (But.refl a X2)
      have hb3 : (upd X2 a (.lst b3)) a = some (.lst b3) := upd_same
      obtain ⟨X3, e3⟩ : ∃ X3, X3 = upd X2 a (.lst b3) := ⟨_, rfl⟩
      rw [← e3] at bt3 hb3 ⊢
      refine ⟨_, _, rfl, rfl, a, sv2.length + n3, _, b3, rfl, by omega, hb3, hB3, by omega, fun X4 ln ws b4 bt4 nln hln hwl hwn hws hb4 hB4 => ?_⟩
      have bX4 := bt3.trans bt4
      have gs4 := gs2.go hb2 bX4
      have ph4 := ph2.go hb2 bX4
      have nln2 : X2 ln = none := But.free bt3 hb3 nln
      have nla : ln ≠ a := fun z => by
        rw [z, hb2] at nln2
        cases nln2
      have nlg : ln ≠ gd := fun z => by
        rw [z, gs2.hgd] at nln2
        cases nln2
      have lw8 : ws.length ≤ 8 := by omega
      refine ⟨ln, nmV ws, rfl, SqL.of hln, ?_⟩
      refine for_it walk_enum (fun j σ Y => ∃ (y6 y7 y8 y9 y10 y11 : Option V) (lm lr : Addr) (ms : List MRow) (ru : List RRow) (kvs : List (Key × V)) (b' : List V), σ = [some (.ref a), some (.int (roof : Nat)), some wv, some (.ref ls), some (.ref gd), some (.ref ph), y6, y7, y8, y9, y10, y11] ∧ Gs K H Y a gd ls lm lr of rs ms ru roof kvs ∧ kvs.length ≤ 5 + 2 * j ∧ Ph Y a ph rs phs ∧ ms.map MRow.nm = ws.take j ∧ (∀ m ∈ ms, MOk rs m) ∧ RuAll rs roof ms ru ∧ ru.length ≤ 30 * j ∧ Y a = some (.lst b') ∧ BoxL (m + 401 + 705 * j) b' ∧ Y ln = some (.lst (nmV ws)))
        ⟨none, none, none, none, none, none, lm, lr, [], [], kvs, b4, rfl, gs4, by omega, ph4, rfl, (fun m h => nomatch h), .nil, Nat.le_refl _, hb4, hB4.mono (by omega), hln⟩ (fun i σ Y _ ⟨_, _, _, _, _, _, _, _, _, _, _, _, _, _, _, _, _, _, _, _, _, _, h⟩ => SqL.of h) ?_ ?_
      · rintro j v σ Y0 Y hj ⟨y6, y7, y8, y9, y10, y11, lm, lr, ms, ru, kvs, b5, rfl, gs0, kl0, ph0, hms, hmo, hru, hrul, hb0, hB5, hlnY0⟩ ⟨TT, xx, yy, rfl, nT, rfl, ex, ey⟩
        cases ex
        rw [nmV_len] at hj
        have sT := same_upd (o := .tup [.int ((j : Nat) : Int), yy]) nT
        obtain ⟨nm, hnm, rfl⟩ : ∃ nm, ws[j]? = some nm ∧ yy = V.str (SX.S nm) := by
          replace ey : (nmV ws)[j]? = some yy := ey
          unfold nmV at ey
          rw [List.getElem?_map] at ey
          cases e : ws[j]? with
          | none => rw [e] at ey; cases ey
          | some u => rw [e] at ey; exact ⟨u, rfl, (Option.some.inj ey).symm⟩
        have gsY := gs0.go hb0 (But.of sT)
        have phY := ph0.go hb0 (But.of sT)
        have hbY := sT _ _ hb0
        have hlnY := sT _ _ hlnY0
        have hTT : SqT K (upd Y0 TT (.tup [.int ((j : Nat) : Int), .str (SX.S nm)])) TT [.int ((j : Nat) : Int), .str (SX.S nm)] := SqT.of upd_same
        obtain ⟨Y, eY⟩ : ∃ Y, Y = upd Y0 TT (.tup [.int ((j : Nat) : Int), .str (SX.S nm)]) := ⟨_, rfl⟩
        rw [← eY] at gsY phY hbY hlnY hTT ⊢
        clear sT ph0 gs0 hlnY0 hb0
        refine ⟨TT, _, rfl, hTT, rfl, _, _, rfl, _, _, rfl, rfl, ?_⟩
        obtain ⟨sv, hls, hsv⟩ := gsY.hls
        have lsv := dpAll_len hsv
        rw [List.length_map] at lsv
        -- one of the sorts, by its name
        have kindOf : ∀ {Z : Hp} {i : Nat} {v : V}, But a Y Z → sv[i]? = some v → ∃ r q v1 v2, r ∈ rs ∧ v = .ref q ∧ SqT K Z q [.str (SX.S r.nm), v1, v2] := fun {Z i v} bt hv => by
          obtain ⟨dd, hdd, hxd⟩ := dpAll_at hsv hv
          rw [List.getElem?_map] at hdd
          cases h : rs[i]? with
          | none => rw [h] at hdd; cases hdd
          | some r =>
            rw [h] at hdd
            cases hdd
            obtain ⟨q, v1, v2, e, hq, _, _⟩ := t3_at (t := sT r) (dp_imm (KeepT.but hbY bt) hxd r.imm)
            exact ⟨r, q, v1, v2, List.mem_of_getElem? h, e, hq⟩
        refine ⟨_, rfl, _, rfl, a, ls, _, b5, sv, rfl, hbY, hB5, by omega, SqL.of hls, gsY.n1, by omega, by omega, fun i1 v1 b6 hv1 hB6 => ?_⟩
        have bt6 : But a Y (upd Y a (.lst b6)) := But.upd (But.refl a Y)
        have hb6 : (upd Y a (.lst b6)) a = some (.lst b6) := upd_same
        obtain ⟨Y6, e6⟩ : ∃ Y6, Y6 = upd Y a (.lst b6) := ⟨_, rfl⟩
        rw [← e6] at bt6 hb6 ⊢
        obtain ⟨r, q, u1, u2, hr, rfl, hq⟩ := kindOf bt6 hv1
        refine ⟨q, _, 0, .str (SX.S r.nm), rfl, rfl, hq, atI_nat (j := 0) rfl, by show 4 ≤ sizeLine; decide, fun l0 n0 => ?_⟩
        have s7 := same_upd (o := .lst [.int 0, .int 1, .int 2, .int 2]) n0
        have hl0 : (upd Y6 l0 (.lst [.int 0, .int 1, .int 2, .int 2])) l0 = some (.lst [.int 0, .int 1, .int 2, .int 2]) := upd_same
        have n0a : l0 ≠ a := fun z => by
          rw [z, hb6] at n0
          cases n0
        refine ⟨_, rfl, a, 4, _, b6, rfl, s7 _ _ hb6, hB6, by omega, by decide, by decide, fun t0 b7 h0 h0' hB7 => ?_⟩
        obtain ⟨tn, rfl⟩ := Int.eq_ofNat_of_zero_le h0
        have bt7 : But a Y (upd (upd Y6 l0 (.lst [.int 0, .int 1, .int 2, .int 2])) a (.lst b7)) := bt6.trans ((But.of s7).trans (But.upd (But.refl a _)))
        have hb7 : (upd (upd Y6 l0 (.lst [.int 0, .int 1, .int 2, .int 2])) a (.lst b7)) a = some (.lst b7) := upd_same
        have hl7 : (upd (upd Y6 l0 (.lst [.int 0, .int 1, .int 2, .int 2])) a (.lst b7)) l0 = some (.lst [.int 0, .int 1, .int 2, .int 2]) := by
          rw [upd_ne n0a]
          exact hl0
        obtain ⟨Y7, e7⟩ : ∃ Y7, Y7 = upd (upd Y6 l0 (.lst [.int 0, .int 1, .int 2, .int 2])) a (.lst b7) := ⟨_, rfl⟩
        rw [← e7] at bt7 hb7 hl7 ⊢
        obtain ⟨sz, hat, hsz⟩ : ∃ sz : Nat, atI [V.int 0, V.int 1, V.int 2, V.int 2] ((tn : Nat) : Int) = some (.int (sz : Nat)) ∧ sz ≤ 2 := by
          have : tn < 4 := by omega
          rcases tn with _ | _ | _ | _ | tn
          · exact ⟨0, atI_nat (j := 0) rfl, by decide⟩
          · exact ⟨1, atI_nat (j := 1) rfl, by decide⟩
          · exact ⟨2, atI_nat (j := 2) rfl, by decide⟩
          · exact ⟨2, atI_nat (j := 3) rfl, by decide⟩
          · omega
        refine ⟨l0, _, _, _, rfl, rfl, SqL.of hl7, hat, _, _, rfl, ?_⟩
        -- or the sort that needs one
        refine ⟨fun σ Z => ∃ (k : List Nat) (sz : Nat) (b8 : List V), σ = [some (.ref a), some (.int (roof : Nat)), some wv, some (.ref ls), some (.ref gd), some (.ref ph), some (.int ((j : Nat) : Int)), some (.str (SX.S nm)), some (.str (SX.S k)), some (.int (sz : Nat)), y10, y11] ∧ (∃ r ∈ rs, r.nm = k) ∧ sz ≤ 2 ∧ But a Y Z ∧ Z a = some (.lst b8) ∧ BoxL (m + 401 + 705 * j + 3) b8, ?_, ?_⟩
        · refine ⟨_, rfl, _, rfl, ls, sv, rfl, .inl (SqL.of (bt7 _ _ gsY.n1 hls)), _, _, rfl, rfl, _, rfl, ?_⟩
          by_cases hjl : ((j : Nat) : Int) < ((sv.length : Nat) : Int)
          · refine ifT (decide_eq_true hjl) ?_
            refine ⟨_, rfl, a, 24, _, b7, rfl, hb7, hB7, by omega, by decide, by decide, fun t1 b8 h1 h1' hB8 => ?_⟩
            have bt8 : But a Y (upd Y7 a (.lst b8)) := bt7.trans (But.upd (But.refl a _))
            refine ⟨_, _, rfl, rfl, _, rfl, ?_⟩
            by_cases ht1 : 0 < t1
            · refine ifT (decide_eq_true ht1) ?_
              have hjn : j < sv.length := by omega
              have hv2 : sv[j]? = some sv[j] := List.getElem?_eq_getElem hjn
              obtain ⟨r', q', w1', w2', hr', ev, hq'⟩ := kindOf bt8 hv2
              refine ⟨_, rfl, _, rfl, ls, sv, _, sv[j], rfl, rfl, SqL.of (bt8 _ _ gsY.n1 hls), atI_nat (j := j) hv2, ?_⟩
              rw [ev]
              exact ⟨q', _, 0, .str (SX.S r'.nm), rfl, rfl, hq', atI_nat (j := 0) rfl, _, _, rfl, r'.nm, 0, b8, rfl, ⟨r', hr', rfl⟩, by decide, bt8, upd_same, hB8⟩
            · exact ifF (decide_eq_false ht1) ⟨r.nm, sz, b8, rfl, ⟨r, hr, rfl⟩, hsz, bt8, upd_same, hB8⟩
          · exact ifF (decide_eq_false hjl) ⟨r.nm, sz, b7, rfl, ⟨r, hr, rfl⟩, hsz, bt7, hb7, hB7.mono (by omega)⟩
        clear hat hsz hl7 hb7 bt7 e7 Y7 hB7 hq bt6 hb6 e6 hB6
        rintro σ Y8 ⟨k, sz, b8, rfl, hk, hsz, bt8, hb8, hB8⟩
        -- the row
        refine ⟨fun σ Z => ∃ (mr : MRow) (rowv : V) (b9 : List V) (y11 : Option V), σ = [some (.ref a), some (.int (roof : Nat)), some wv, some (.ref ls), some (.ref gd), some (.ref ph), some (.int ((j : Nat) : Int)), some (.str (SX.S nm)), some (.str (SX.S k)), some (.int (sz : Nat)), some rowv, y11] ∧ mr.nm = nm ∧ MOk rs mr ∧ Dp K Z rowv mr.d ∧ But a Y Z ∧ Z a = some (.lst b9) ∧ BoxL (m + 401 + 705 * j + 5) b9, ?_, ?_⟩
        · refine ⟨_, rfl, _, rfl, _, rfl, ((sz : Nat) : Int), rfl, by omega, by omega, fun D nD => ?_⟩
          have nDa : D ≠ a := fun z => by
            rw [z, hb8] at nD
            cases nD
          refine lc_range (lo := 0) (n := Int.toNat ((sz : Nat) : Int)) (fun i U => But a Y8 U ∧ ∃ (pt : List (List Nat)) (b9 : List V), U D = some (.lst (nmV pt)) ∧ pt.length = i ∧ (∀ k ∈ pt, ∃ r ∈ rs, r.nm = k) ∧ U a = some (.lst b9) ∧ BoxL (m + 401 + 705 * j + 3 + i) b9) ⟨But.of (same_upd nD), [], b8, upd_same, rfl, (fun k h => nomatch h), same_upd nD _ _ hb8, hB8⟩ ?_ ?_
          · rintro i U hi ⟨bU, pt, b9, hD, hpl, hpt, hb9, hB9⟩
            have hi2 : i < 2 := by
              rw [Int.toNat_natCast] at hi
              omega
            have btU := bt8.trans bU
            refine ⟨rfl, yesT ?_⟩
            refine ⟨_, rfl, _, rfl, a, ls, _, b9, sv, rfl, hb9, hB9, by omega, SqL.of (btU _ _ gsY.n1 hls), gsY.n1, by omega, by omega, fun i2 v2 b10 hv2 hB10 => ?_⟩
            have btV : But a Y (upd U a (.lst b10)) := btU.trans (But.upd (But.refl a U))
            obtain ⟨r2, q2, w1', w2', hr2, rfl, hq2⟩ := kindOf btV hv2
            refine ⟨q2, _, 0, .str (SX.S r2.nm), rfl, rfl, hq2, atI_nat (j := 0) rfl, nmV pt, by rw [upd_ne nDa]; exact hD, small1000 (by rw [nmV_len]; omega), fun c o nc hc => ?_, pt ++ [r2.nm], b10, ?_, by rw [List.length_append]; show pt.length + 1 = i + 1; omega, fun k hk => ?_, ?_, hB10.mono (by omega)⟩
            · rw [upd_ne (ne_of_none hc nD), upd_ne nc]
              exact bU c o nc hc
            · unfold nmV
              rw [List.map_append]
              exact upd_same
            · rcases List.mem_append.mp hk with h | h
              · exact hpt k h
              · rw [List.mem_singleton.mp h]
                exact ⟨r2, hr2, rfl⟩
            · rw [upd_ne nDa.symm]
              exact upd_same
          · rintro U ⟨bU, pt, b9, hD, hpl, hpt, hb9, hB9⟩
            rw [Int.toNat_natCast] at hpl hB9
            refine ⟨D, nmV pt, rfl, .inl ⟨SqL.of hD, fun l1 n1 => ?_⟩⟩
            have s1 := same_upd (o := .tup (nmV pt)) n1
            refine ⟨by show 3 ≤ sizeLine; decide, fun l2 n2 => ?_⟩
            have s2 := same_upd (o := .tup [.str (SX.S nm), .str (SX.S k), .ref l1]) n2
            refine ⟨⟨nm, k, pt⟩, .ref l2, b9, _, rfl, rfl, ⟨hws nm (List.mem_of_getElem? hnm), fun k' hk' => ?_, by show pt.length ≤ 2; omega⟩, ?_, (bt8.trans bU).trans (But.of (s1.trans s2)), (s1.trans s2) _ _ hb9, hB9.mono (by omega)⟩
            · rcases List.mem_cons.mp hk' with rfl | h
              · exact hk
              · exact hpt k' h
            · exact .tup (SqT.of upd_same) (.cons (.str _) (.cons (.str _) (.cons (dp_same s2 (.tup (SqT.of upd_same) (nm_dp pt))) .nil)))
        clear hb8 hB8 bt8
        rintro σ Y9 ⟨mr, rowv, b9, z11, rfl, hmn, hmok, hrow, bt9, hb9, hB9⟩
        have gs9 := gsY.go hbY bt9
        have ph9 := phY.go hbY bt9
        obtain ⟨mv, hlm, hmv⟩ := gs9.hlm
        have lmv := dpAll_len hmv
        rw [List.length_map] at lmv
        have lms : ms.length = j := by
          have := congrArg List.length hms
          rw [List.length_map, List.length_take] at this
          omega
        -- one making more
        refine ⟨fun σ Z => ∃ (lm' : Addr) (kvs' : List (Key × V)) (b9 : List V), σ = [some (.ref a), some (.int (roof : Nat)), some wv, some (.ref ls), some (.ref gd), some (.ref ph), some (.int ((j : Nat) : Int)), some (.str (SX.S nm)), some (.str (SX.S k)), some (.int (sz : Nat)), some rowv, z11] ∧ Gs K H Z a gd ls lm' lr of rs (ms ++ [mr]) ru roof kvs' ∧ kvs'.length ≤ 5 + 2 * j + 1 ∧ Ph Z a ph rs phs ∧ Dp K Z rowv mr.d ∧ Z ln = some (.lst (nmV ws)) ∧ Z a = some (.lst b9) ∧ BoxL (m + 401 + 705 * j + 5) b9, ?_, ?_⟩
        · refine ⟨_, rfl, gd, .ref lm, rfl, by have h := DGet.k (k := Sum.inr "makings") gs9.hgd; rw [gs9.mak] at h; exact h, _, rfl, by show 1 ≤ sizeLine; decide, fun l1 n1 => ?_⟩
          have s1 := same_upd (o := .lst [rowv]) n1
          refine ⟨lm, l1, mv, [rowv], rfl, rfl, s1 _ _ hlm, upd_same, Nat.le_trans (show _ ≤ 100 from by show mv.length + 1 ≤ 100; omega) (by decide), fun l2 n2 => ?_⟩
          have s2 := same_upd (o := .lst (mv ++ [rowv])) n2
          have s12 := s1.trans s2
          have gsA := gs9.go hb9 (But.of s12)
          have phA := ph9.go hb9 (But.of s12)
          have n2a : l2 ≠ a := fun z => by
            rw [z, s1 _ _ hb9] at n2
            cases n2
          have hrowA := dp_same s12 hrow
          have hl2 : (upd (upd Y9 l1 (.lst [rowv])) l2 (.lst (mv ++ [rowv]))) l2 = some (.lst (mv ++ [rowv])) := upd_same
          have hdA := dpAll_appI (dpAll_same s12 hmv) (.cons hrowA .nil)
          have hlnA := s12 _ _ (bt9 _ _ nla hlnY)
          have hbA := s12 _ _ hb9
          obtain ⟨YA, eA⟩ : ∃ YA, YA = upd (upd Y9 l1 (.lst [rowv])) l2 (.lst (mv ++ [rowv])) := ⟨_, rfl⟩
          rw [← eA] at gsA phA hrowA hl2 hdA hlnA hbA ⊢
          refine ⟨_, rfl, gd, _, rfl, DPut.k (k := Sum.inr "makings") gsA.hgd (small1000 (by omega)), l2, _, b9, rfl, gsA.set (kvs' := putK kvs (Sum.inr "makings") (.ref l2)) (ms' := ms ++ [mr]) (ru' := ru) ⟨mv ++ [rowv], hl2, by rw [List.map_append]; exact hdA⟩ n2a gsA.hlr gsA.n3 ?_ ?_ ?_ ?_ ?_, ?_, phA.set gsA.hgd npg, dp_imm (KeepT.at_ gsA.hgd dK_no) hrowA mr.imm, ?_, ?_, hB9⟩
          · rw [valV_put, if_neg (by decide +kernel)]; exact gsA.cap
          · rw [valV_put, if_neg (by decide +kernel)]; exact gsA.so
          · rw [valV_put, if_pos rfl]
          · rw [valV_put, if_neg (by decide +kernel)]; exact gsA.rl
          · rw [valV_put, if_neg (by decide +kernel)]; exact gsA.ofv
          · have := length_putK kvs (Sum.inr "makings") (.ref l2)
            omega
          · rw [upd_ne nlg]; exact hlnA
          · rw [upd_ne (fun z => by rw [z, gsA.hgd] at hbA; cases hbA)]; exact hbA
        clear hrow ph9 hlm hmv lmv gs9 hb9 hB9
        rintro σ Z ⟨lm', kvs', b9, rfl, gsZ, klZ, phZ, hrow, hlnZ, hbZ, hBZ⟩
        obtain ⟨rv, hlrZ, hrvZ⟩ := gsZ.hlr
        have lrv := dpAll_len hrvZ
        rw [List.length_map] at lrv
        obtain ⟨ofk, of1, _, of2⟩ := gsZ.hof
        have cxt : Cxt K Z a gd ph rowv wv rs mr roof wb wn phs := ⟨⟨kvs', of, ofk, gsZ.hgd, gsZ.cap, gsZ.ofv, of1, of2⟩, phZ, hrow, dp_imm (KeepT.but ha gsZ.bt) hwv rfl, w0, w1, hrs, hmok.so, hmok.p2, hroof⟩
        refine ⟨_, rfl, gd, .ref lr, rfl, by have h := DGet.k (k := Sum.inr "rules") gsZ.hgd; rw [gsZ.rl] at h; exact h, ?_⟩
        refine ⟨_, rfl, _, rfl, _, rfl, _, rfl, _, rfl, a, gd, ph, rowv, wv, rs, mr, roof, wb, wn, phs, _, b9, rfl, cxt, hbZ, hBZ, by omega, fun V lv vs' ru' ks b10 btV nlv hlv hru' hok hb10 hB10 => ?_⟩
        have gsV := gsZ.go hbZ btV
        have phV := phZ.go hbZ btV
        have hlrV := btV _ _ gsZ.n3 hlrZ
        have lru := hok.le
        have lvs := dpAll_len hru'
        rw [List.length_map] at lvs
        refine ⟨lr, lv, rv, vs', rfl, rfl, hlrV, hlv, Nat.le_trans (show _ ≤ 1000 by omega) (by decide), fun l3 n3 => ?_⟩
        have s3 := same_upd (o := .lst (rv ++ vs')) n3
        have gsA := gsV.go hb10 (But.of s3)
        have phA := phV.go hb10 (But.of s3)
        have n3a : l3 ≠ a := fun z => by
          rw [z, hb10] at n3
          cases n3
        have hdA := dpAll_appI (dpAll_imm ((KeepT.but hbZ btV).trans (KeepT.of s3)) hrvZ (immAll_map RRow.imm ru)) (dpAll_same s3 hru')
        have hl3 : (upd V l3 (.lst (rv ++ vs'))) l3 = some (.lst (rv ++ vs')) := upd_same
        have hlnA := s3 _ _ (btV _ _ nla hlnZ)
        have hbA := s3 _ _ hb10
        obtain ⟨YA, eA⟩ : ∃ YA, YA = upd V l3 (.lst (rv ++ vs')) := ⟨_, rfl⟩
        rw [← eA] at gsA phA hdA hl3 hlnA hbA ⊢
        refine ⟨_, rfl, gd, _, rfl, DPut.k (k := Sum.inr "rules") gsA.hgd (small1000 (by omega)), _, _, _, _, _, _, lm', l3, ms ++ [mr], ru ++ ru', _, b10, rfl, gsA.set (kvs' := putK kvs' (Sum.inr "rules") (.ref l3)) (ms' := ms ++ [mr]) (ru' := ru ++ ru') gsA.hlm gsA.n2 ⟨rv ++ vs', hl3, by rw [List.map_append]; exact hdA⟩ n3a ?_ ?_ ?_ ?_ ?_, ?_, phA.set gsA.hgd npg, ?_, fun m' hm' => ?_, .snoc hru hok, ?_, ?_, hB10.mono (by omega), ?_⟩
        · rw [valV_put, if_neg (by decide +kernel)]; exact gsA.cap
        · rw [valV_put, if_neg (by decide +kernel)]; exact gsA.so
        · rw [valV_put, if_neg (by decide +kernel)]; exact gsA.mak
        · rw [valV_put, if_pos rfl]
        · rw [valV_put, if_neg (by decide +kernel)]; exact gsA.ofv
        · have := length_putK kvs' (Sum.inr "rules") (.ref l3)
          omega
        · rw [List.map_append, hms, List.take_add_one, hnm]
          show _ ++ [mr.nm] = _ ++ [nm]
          rw [hmn]
        · rcases List.mem_append.mp hm' with h | h
          · exact hmo m' h
          · rw [List.mem_singleton.mp h]
            exact hmok
        · rw [List.length_append]
          omega
        · rw [upd_ne (fun z => by rw [z, gsA.hgd] at hbA; cases hbA)]; exact hbA
        · rw [upd_ne nlg]; exact hlnA
      · rintro σ Y ⟨y6, y7, y8, y9, y10, y11, lm, lr, ms, ru, kvs, b5, rfl, gs0, kl0, ph0, hms, hmo, hru, hrul, hb0, hB5, hlnY0⟩
        rw [nmV_len] at hms kl0 hrul hB5
        rw [List.take_length] at hms
        have lms := congrArg List.length hms
        rw [List.length_map] at lms
        exact ⟨_, _, _, _, _, _, lm, lr, ms, ru, kvs, b5, rfl, gs0, by omega, by rw [hms]; exact hwn, hmo, by omega, by omega, hru, by omega, hb0, hB5.mono (by omega)⟩
    rintro σ X5 ⟨y6, y7, y8, y9, y10, y11, lm5, lr5, ms, ru, kvs5, b5, rfl, gs5, kl5, hmn, hmo, hm8, hm1, hru, hrul, hb5, hB5⟩
    have ndm : ((ms.map mT).map fun t => kS t.k).Nodup := by
      rw [show ((ms.map mT).map fun t => kS t.k) = (ms.map MRow.nm).map kS by rw [List.map_map, List.map_map]; rfl]
      exact List.pairwise_map.mpr (hmn.imp fun h z => h (kS_inj z))
    -- by their names
    refine ⟨fun σ Y => ∃ (kvs : List (Key × V)) (by_ : Addr) (byk : List (Key × V)), σ = [some (.ref a), some (.int (roof : Nat)), some wv, some (.ref ls), some (.ref gd), some (.ref ph), y6, y7, y8, y9, y10, y11] ∧ Gs K H Y a gd ls lm5 lr5 of rs ms ru roof kvs ∧ kvs.length ≤ 31 ∧ valV kvs (Sum.inr "by") = some (.ref by_) ∧ by_ ≠ gd ∧ Y by_ = some (.dK byk) ∧ byk.map (·.1) = ms.map (fun m => kS m.nm) ∧ (∀ m ∈ ms, ∃ v, valV byk (kS m.nm) = some v ∧ Dp K Y v (.tuple [strD m.so, .tuple (m.pt.map strD)])) ∧ Y a = some (.lst b5), ?_, ?_⟩
    · obtain ⟨mv, hlm, hmv⟩ := gs5.hlm
      refine ⟨_, rfl, gd, .ref lm5, rfl, by have h := DGet.k (k := Sum.inr "makings") gs5.hgd; rw [gs5.mak] at h; exact h, lm5, rfl, ⟨_, SqL.of hlm⟩, fun D nD => ?_⟩
      refine lc_of (ts := ms.map mT) hlm (by rw [← mT_d]; exact hmv) (fun t ht => ?_) (by rw [List.length_map]; omega) nD fun U ps sU hD hp => ?_
      · obtain ⟨r, _, rfl⟩ := List.mem_map.mp ht
        exact m_imm r
      obtain ⟨kvs, k1, k2, k3⟩ := hp.kvs
      refine ⟨D, ps, kvs, rfl, SqL.of hD, k1, fun by_ nby => ?_⟩
      have g3 := same_upd (o := .dK (mergeK [] kvs)) nby
      have sA := sU.trans g3
      have gsA := gs5.go hb5 (But.of sA)
      have hbA := sA _ _ hb5
      have hby : (upd U by_ (.dK (mergeK [] kvs))) by_ = some (.dK (mergeK [] kvs)) := upd_same
      have nbg : by_ ≠ gd := fun z => by
        rw [z, sU _ _ gs5.hgd] at nby
        cases nby
      have hbv : ∀ m ∈ ms, ∃ v, valV (mergeK [] kvs) (kS m.nm) = some v ∧ Dp K (upd U by_ (.dK (mergeK [] kvs))) v (.tuple [strD m.so, .tuple (m.pt.map strD)]) := fun m hm => by
        obtain ⟨v, h1, h2⟩ := k3 (mT m) (List.mem_map_of_mem hm)
        exact ⟨v, merge_in kvs [] (by rw [k2]; exact ndm) _ h1, dp_same g3 h2⟩
      obtain ⟨YA, eA⟩ : ∃ YA, YA = upd U by_ (.dK (mergeK [] kvs)) := ⟨_, rfl⟩
      rw [← eA] at gsA hbA hby hbv ⊢
      refine ⟨_, rfl, gd, _, rfl, DPut.k (k := Sum.inr "by") gsA.hgd (small1000 (by omega)), _, by_, mergeK [] kvs, rfl, gsA.set (kvs' := putK kvs5 (Sum.inr "by") (.ref by_)) (ms' := ms) (ru' := ru) gsA.hlm gsA.n2 gsA.hlr gsA.n3 ?_ ?_ ?_ ?_ ?_, ?_, ?_, nbg, ?_, (merge_keys kvs [] (by show (kvs.map (·.1)).Nodup; rw [k2]; exact ndm)).trans (by show kvs.map (·.1) = _; rw [k2, List.map_map]; rfl), fun m hm => ?_, ?_⟩
      · rw [valV_put, if_neg (by decide +kernel)]; exact gsA.cap
      · rw [valV_put, if_neg (by decide +kernel)]; exact gsA.so
      · rw [valV_put, if_neg (by decide +kernel)]; exact gsA.mak
      · rw [valV_put, if_neg (by decide +kernel)]; exact gsA.rl
      · rw [valV_put, if_neg (by decide +kernel)]; exact gsA.ofv
      · have := length_putK kvs5 (Sum.inr "by") (.ref by_)
        omega
      · rw [valV_put, if_pos rfl]
      · rw [upd_ne nbg]; exact hby
      · obtain ⟨v, h1, h2⟩ := hbv m hm
        exact ⟨v, h1, dp_imm (KeepT.at_ gsA.hgd dK_no) h2 (m_imm m)⟩
      · rw [upd_ne (fun z => by rw [z, gsA.hgd] at hbA; cases hbA)]; exact hbA
    rintro σ X6 ⟨kvs6, by_, byk, rfl, gs6, kl6, hbyv, nbg, hby, hbks, hbv, hb6⟩
    -- by their targets: not followed
    obtain ⟨rv, hlr, hrv⟩ := gs6.hlr
    have lrv := dpAll_len hrv
    rw [List.length_map] at lrv
    refine ⟨_, rfl, gd, .ref lr5, rfl, by have h := DGet.k (k := Sum.inr "rules") gs6.hgd; rw [gs6.rl] at h; exact h, lr5, rfl, ⟨_, SqL.of hlr⟩, fun D nD => ?_⟩
    refine lc_list (K := K) (a := lr5) (xs := rv) (fun j U => Same X6 U ∧ ∃ (ps : List Addr) (ks : List (Addr × PyData × V)), U D = some (.lst (ps.map V.ref)) ∧ Paired (fun p k => SqT K U p [.ref k.1, k.2.2] ∧ Dp K U (.ref k.1) k.2.1 ∧ imm k.2.1 = true ∧ (keyD k.2.1).depth ≤ 8) ps ks ∧ ps.length = j) ⟨same_upd nD, [], [], upd_same, .nil, rfl⟩ (fun j U _ h => SqL.of (h.1 _ _ hlr)) ?_ ?_
    · rintro j x U hx ⟨sU, ps, ks, hD, hp, hpl⟩
      obtain ⟨dd, hdd, hxd⟩ := dpAll_at hrv hx
      rw [List.getElem?_map] at hdd
      obtain ⟨r, hr, rfl⟩ : ∃ r, ru[j]? = some r ∧ dd = r.d := by
        cases h : ru[j]? with
        | none => rw [h] at hdd; cases hdd
        | some e => rw [h] at hdd; exact ⟨e, rfl, (Option.some.inj hdd).symm⟩
      have hj : j < ru.length := (List.getElem?_eq_some_iff.mp hr).1
      obtain ⟨q0, v2, v4, rfl, hq, h2⟩ := rr_at (dp_same sU hxd)
      refine ⟨rfl, yesT ?_⟩
      refine ⟨_, rfl, 2, rfl, q0, _, rfl, hq, fun U1 t1 s1 ht1 => ?_⟩
      have ht1 : SqT K U1 t1 [.str (SX.S r.ma), v2] := ht1
      refine ⟨_, rfl, 2, rfl, q0, _, rfl, Same.seqT s1 hq, fun U2 t2 s2 ht2 => ?_⟩
      refine ⟨by show 2 ≤ sizeLine; decide, fun p3 n3 => ?_⟩
      have s3 := same_upd (o := .tup [.ref t1, .ref t2]) n3
      have sA := s1.trans (s2.trans s3)
      have hD3 := sA _ _ hD
      have dk : Dp K U1 (.ref t1) (.tuple [strD r.ma, r.tg.d]) := .tup ht1 (.cons (.str _) (.cons (dp_same s1 h2) .nil))
      have ik : imm (.tuple [strD r.ma, r.tg.d]) = true := by
        show (true && (imm r.tg.d && true)) = true
        rw [r.tg.imm]
        rfl
      have kk : KeepT (upd U2 p3 (.tup [.ref t1, .ref t2])) (upd (upd U2 p3 (.tup [.ref t1, .ref t2])) D (.lst (ps.map V.ref ++ [.ref p3]))) := KeepT.at_ hD3 lst_no
      refine ⟨_, hD3, small1000 (by rw [List.length_map]; omega), Same.at_ (sU.trans sA) nD, ps ++ [p3], ks ++ [(t1, .tuple [strD r.ma, r.tg.d], .ref t2)], ?_, paired_snoc (paired_mono (fun p k h => ?_) hp) ⟨kk.seqT (SqT.of upd_same), dp_imm ((KeepT.of (s2.trans s3)).trans kk) dk ik, ik, key_depth _ _⟩, by rw [List.length_append]; show ps.length + 1 = j + 1; omega⟩
      · rw [List.map_append]
        exact upd_same
      · obtain ⟨q1, q2, q3, q4⟩ := h
        exact ⟨((KeepT.of sA).trans kk).seqT q1, dp_imm ((KeepT.of sA).trans kk) q2 q3, q3, q4⟩
    · rintro U ⟨sU, ps, ks, hD, hp, hpl⟩
      refine ⟨D, ps, ks, rfl, SqL.of hD, hp, fun pz npz => ?_⟩
      have gsU := gs6.go hb6 (But.of sU)
      have hbU := sU _ _ hb6
      have gsF := gsU.set (kvs' := putK kvs6 (Sum.inr "has") (.ref pz)) (ms' := ms) (ru' := ru) gsU.hlm gsU.n2 gsU.hlr gsU.n3 (by rw [valV_put, if_neg (by decide +kernel)]; exact gsU.cap) (by rw [valV_put, if_neg (by decide +kernel)]; exact gsU.so) (by rw [valV_put, if_neg (by decide +kernel)]; exact gsU.mak) (by rw [valV_put, if_neg (by decide +kernel)]; exact gsU.rl) (by rw [valV_put, if_neg (by decide +kernel)]; exact gsU.ofv)
      refine ⟨_, rfl, gd, _, rfl, DPut.k (k := Sum.inr "has") gsU.hgd (small1000 (by omega)), _, rfl, q _ gd rs ms ru b5 gsF.bt gsF.nH ⟨ls, lm5, lr5, of, _, gsF.any, by_, byk, ?_, nbg, ?_, hbks, fun m hm => ?_⟩ ⟨hrs, rs1, hmn, hmo, hm8, hm1, hru, hroof⟩ ?_ (hB5.mono (by omega))⟩
      · rw [valV_put, if_neg (by decide +kernel)]; exact hbyv
      · rw [upd_ne nbg]; exact sU _ _ hby
      · obtain ⟨v, h1, h2⟩ := hbv m hm
        exact ⟨v, h1, dp_imm ((KeepT.of sU).trans (KeepT.at_ gsU.hgd dK_no)) h2 (m_imm m)⟩
      · rw [upd_ne (fun z => by rw [z, gsU.hgd] at hbU; cases hbU)]; exact hbU
end
abbrev s__law_any : Stmt := top 65
abbrev N__law_any : List Str := ["_law_box", "_law_roof"]
abbrev P__law_any : List Str := ["_law_box"]
theorem sc__law_any : FnScope N__law_any P__law_any (defScope s__law_any) := ⟨rfl, rfl, rfl, by decide +kernel, rfl, by decide +kernel, by decide +kernel⟩
def spAny (K : PySem.W.Frag) : Sp := fun vs H Q _ => ∃ (a : Addr) (m : Nat) (b : List V), vs = [.ref a] ∧ H a = some (.lst b) ∧ BoxL m b ∧ m + 8010 < 900000 ∧
  ∀ (H' : Hp) (gd : Addr) (rs : List SRow) (ms : List MRow) (ru : List RRow) (roof : Nat) (b' : List V), But a H H' → H gd = none → GramIn K H' a gd rs ms ru roof → GramOk rs ms ru roof → H' a = some (.lst b') → BoxL (m + 8010) b' → Q (.ref gd) H'
section
variable {P : Program} {w : World} {K : PySem.W.Frag} {mg : Str → Option Value} {base : Heap}
theorem ok_any (c_law_take : C8.Cal P w K mg base 1 "_law_take" spTake []) (c_law_drawn : C8.Cal P w K mg base 4 "_law_drawn" (spDrawn K) [])
    (D : Dd K mg "_law_any" s__law_any P__law_any) : C8.Cal P w K mg base 5 "_law_any" (spAny K) [] := by
  refine D.cal sc__law_any (fun vs H Q E h => ?_) (fun f cdv A outer s H vs Q E hr h => ?_)
  · obtain ⟨a, m, b, rfl, _⟩ := h
    rfl
  · obtain ⟨a, m, b, rfl, ha, hB, hm, q⟩ := h
    refine ⟨_, (pss_cons (ps_set (i := 1) sc__law_any.nd rfl (Or.inl rfl) (pe_ix ix_list (pe_lst (pa_cons pe_int (pa_cons pe_int (pa_cons (pe_op op_add pe_int (C8.pe_c c_law_take hr (by decide) (by rfl) (pa_cons (pv 0) (pa_cons pe_int pa_nil)))) pa_nil)))) (C8.pe_c c_law_take hr (by decide) (by rfl) (pa_cons (pv 0) (pa_cons pe_int pa_nil))) (fun _ _ => rfl)))
        (pss_one (ps_ret (C8.pe_c c_law_drawn hr (by decide) (by rfl) (pa_cons (pv 0) (pa_cons (pv 1) (pa_cons (pe_tup (pa_cons (pe_cmpR op_eq (C8.pe_c c_law_take hr (by decide) (by rfl) (pa_cons (pv 0) (pa_cons pe_int pa_nil))) pe_int (nomark _)) (pa_cons (pe_ix ix_list (pe_lst (pa_cons pe_int (pa_cons pe_int (pa_cons pe_int pa_nil)))) (C8.pe_c c_law_take hr (by decide) (by rfl) (pa_cons (pv 0) (pa_cons pe_int pa_nil))) (fun _ _ => rfl)) pa_nil))) pa_nil))))))), ?_⟩
    refine ⟨_, rfl, a, 9, _, b, rfl, ha, hB, by omega, by decide, by decide, fun r1 b1 r10 r11 hB1 => ?_⟩
    refine ⟨_, _, rfl, rfl, by show 3 ≤ sizeLine; decide, fun l1 n1 => ?_⟩
    obtain ⟨n9, rfl⟩ := Int.eq_ofNat_of_zero_le r10
    have hb1 : (upd H a (.lst b1)) a = some (.lst b1) := upd_same
    have bt1 : But a H (upd H a (.lst b1)) := But.upd (But.refl a H)
    have s1 := same_upd (o := .lst [.int 0, .int 0, .int (1 + ((n9 : Nat) : Int))]) n1
    have n1a : l1 ≠ a := fun z => by
      rw [z, hb1] at n1
      cases n1
    refine ⟨_, rfl, a, 3, _, b1, rfl, s1 _ _ hb1, hB1, by omega, by decide, by decide, fun r2 b2 r20 r21 hB2 => ?_⟩
    obtain ⟨n2, rfl⟩ := Int.eq_ofNat_of_zero_le r20
    have bt2 : But a H (upd (upd (upd H a (.lst b1)) l1 (.lst [.int 0, .int 0, .int (1 + ((n9 : Nat) : Int))])) a (.lst b2)) := (bt1.trans (But.of s1)).trans (But.upd (But.refl a _))
    have hb2 : (upd (upd (upd H a (.lst b1)) l1 (.lst [.int 0, .int 0, .int (1 + ((n9 : Nat) : Int))])) a (.lst b2)) a = some (.lst b2) := upd_same
    have hl2 : (upd (upd (upd H a (.lst b1)) l1 (.lst [.int 0, .int 0, .int (1 + ((n9 : Nat) : Int))])) a (.lst b2)) l1 = some (.lst [.int 0, .int 0, .int (1 + ((n9 : Nat) : Int))]) := by
      rw [upd_ne n1a]
      exact upd_same
    obtain ⟨X2, e2⟩ : ∃ X2, X2 = upd (upd (upd H a (.lst b1)) l1 (.lst [.int 0, .int 0, .int (1 + ((n9 : Nat) : Int))])) a (.lst b2) := ⟨_, rfl⟩
    rw [← e2] at bt2 hb2 hl2 ⊢
    obtain ⟨roof, hat, hroof⟩ : ∃ roof : Nat, atI [V.int 0, V.int 0, V.int (1 + ((n9 : Nat) : Int))] ((n2 : Nat) : Int) = some (.int (roof : Nat)) ∧ roof ≤ 9 := by
      rcases n2 with _ | _ | _ | n2
      · exact ⟨0, atI_nat (j := 0) rfl, by decide⟩
      · exact ⟨0, atI_nat (j := 1) rfl, by decide⟩
      · exact ⟨1 + n9, atI_nat (j := 2) rfl, by omega⟩
      · omega
    refine ⟨l1, _, _, _, rfl, rfl, SqL.of hl2, hat, ?_⟩
    refine ⟨_, rfl, _, rfl, _, rfl, a, 3, _, b2, rfl, hb2, hB2, by omega, by decide, by decide, fun r3 b3 r30 r31 hB3 => ?_⟩
    refine ⟨rfl, by show 3 ≤ sizeLine; decide, fun l3 n3 => ?_⟩
    have hb3 : (upd X2 a (.lst b3)) a = some (.lst b3) := upd_same
    have s3 := same_upd (o := .lst [.int 1000, .int 1000, .int 12]) n3
    have n3a : l3 ≠ a := fun z => by
      rw [z, hb3] at n3
      cases n3
    refine ⟨_, rfl, a, 3, _, b3, rfl, s3 _ _ hb3, hB3, by omega, by decide, by decide, fun r4 b4 r40 r41 hB4 => ?_⟩
    obtain ⟨n4, rfl⟩ := Int.eq_ofNat_of_zero_le r40
    have bt4 : But a H (upd (upd (upd X2 a (.lst b3)) l3 (.lst [.int 1000, .int 1000, .int 12])) a (.lst b4)) := ((bt2.trans (But.upd (But.refl a _))).trans (But.of s3)).trans (But.upd (But.refl a _))
    have hb4 : (upd (upd (upd X2 a (.lst b3)) l3 (.lst [.int 1000, .int 1000, .int 12])) a (.lst b4)) a = some (.lst b4) := upd_same
    have hl4 : (upd (upd (upd X2 a (.lst b3)) l3 (.lst [.int 1000, .int 1000, .int 12])) a (.lst b4)) l3 = some (.lst [.int 1000, .int 1000, .int 12]) := by
      rw [upd_ne n3a]
      exact upd_same
    obtain ⟨X4, e4⟩ : ∃ X4, X4 = upd (upd (upd X2 a (.lst b3)) l3 (.lst [.int 1000, .int 1000, .int 12])) a (.lst b4) := ⟨_, rfl⟩
    rw [← e4] at bt4 hb4 hl4 ⊢
    obtain ⟨wn, hat4, w0, w1⟩ : ∃ wn : Nat, atI [V.int 1000, V.int 1000, V.int 12] ((n4 : Nat) : Int) = some (.int (wn : Nat)) ∧ 0 < wn ∧ wn < 1000000 := by
      rcases n4 with _ | _ | _ | n4
      · exact ⟨1000, atI_nat (j := 0) rfl, by decide, by decide⟩
      · exact ⟨1000, atI_nat (j := 1) rfl, by decide, by decide⟩
      · exact ⟨12, atI_nat (j := 2) rfl, by decide, by decide⟩
      · omega
    refine ⟨l3, _, _, _, rfl, rfl, SqL.of hl4, hat4, by show 2 ≤ sizeLine; decide, fun t5 n5 => ?_⟩
    have s5 := same_upd (o := .tup [.bl (decide (V.int r3 = V.int 0)), .int (wn : Nat)]) n5
    exact ⟨a, roof, _, _, _, wn, b4, rfl, .tup (SqT.of upd_same) (.cons (.bl _) (.cons (.int _) .nil)), w0, w1, hroof, s5 _ _ hb4, hB4, by omega, fun H' gd rs ms ru b' bt ng gi go hb' hB' => q H' gd rs ms ru roof b' ((bt4.trans (But.of s5)).trans bt) (But.free (bt4.trans (But.of s5)) (s5 _ _ hb4) ng) gi go hb' (hB'.mono (by omega))⟩
end
/-! ### dicts whose keys are tuples with tuples in them, followed -/
abbrev NE : Type := NestedKey × Addr × V
abbrev KN : List NE → List (NestedKey × Addr × Value) → Prop := Paired fun p q => p.1 = q.1 ∧ p.2.1 = q.2.1 ∧ RelV p.2.2 q.2.2
def dnRaw (P : Program) (w : World) (a : Addr) (kvs : List NE) (h : Heap) : Prop := kvs.length ≤ sizeLine ∧ (a == sysModules) = false ∧
  ∃ (xs : List (NestedKey × Addr × Value)) (o : Obj) (es : Array DictEntry) (ep : Nat), KN kvs xs ∧ h.get? a = some o ∧ o.ExactDict ∧ o.data = .dict es ep ∧ es.toList = xs.map (entryOfKey (nestedKind P w)) ∧ (xs.map (·.1)).Nodup
def dnO (P : Program) (w : World) (a : Addr) (kvs : List NE) : HO := .ext (dnRaw P w a kvs)
theorem dnO_ok {P : Program} {w : World} {H : Hp} {h : Heap} {a : Addr} {kvs : List NE} (x : dnRaw P w a kvs h) : ObjOk P w H h a (dnO P w a kvs) := by
  refine ⟨x, ?_, fun g1 g2 y k => ?_⟩
  · obtain ⟨_, _, xs, o, es, ep, _, e, _⟩ := x
    exact ⟨o, e⟩
  · obtain ⟨z1, z2, xs, o, es, ep, z3, e, z4⟩ := y
    exact ⟨z1, z2, xs, o, es, ep, z3, k _ e, z4⟩
/-- there, or locked -/
def DnA (P : Program) (w : World) (H : Hp) (a : Addr) (kvs : List NE) : Prop := H a = some (dnO P w a kvs) ∨ ∃ o, H a = some (.frz o (dnO P w a kvs))
/-- its keys stand -/
def KeysN (K : PySem.W.Frag) (H : Hp) (kvs : List NE) : Prop := ∀ p ∈ kvs, ∃ d, p.1 = keyD d ∧ Dp K H (.ref p.2.1) d ∧ imm d = true ∧ (keyD d).depth ≤ 8
theorem KeysN.keep {K : PySem.W.Frag} {H H' : Hp} {kvs : List NE} (h : KeysN K H kvs) (k : KeepT H H') : KeysN K H' kvs := fun p hp => by
  obtain ⟨d, h1, h2, h3, h4⟩ := h p hp
  exact ⟨d, h1, dp_imm k h2 h3, h3, h4⟩
theorem KeysN.nil {K : PySem.W.Frag} {H : Hp} : KeysN K H [] := fun p hp => nomatch hp
def valN : List NE → NestedKey → Option V
  | [], _ => none
  | p :: r, k => if p.1 = k then some p.2.2 else valN r k
theorem valN_app {xs ys : List NE} {k : NestedKey} : valN (xs ++ ys) k = match valN xs k with
    | some v => some v
    | none => valN ys k := by
  induction xs with
  | nil => rfl
  | cons p r ih =>
    show (if p.1 = k then some p.2.2 else valN (r ++ ys) k) = match (if p.1 = k then some p.2.2 else valN r k) with
      | some v => some v
      | none => valN ys k
    by_cases h : p.1 = k
    · rw [if_pos h, if_pos h]
    · rw [if_neg h, if_neg h, ih]
theorem KN.val {kvs : List NE} {xs : List (NestedKey × Addr × Value)} (r : KN kvs xs) (k : NestedKey) : (valN kvs k = none ∧ atKey xs k = none) ∨ ∃ v p, valN kvs k = some v ∧ atKey xs k = some p ∧ RelV v p.2 := by
  induction r with
  | nil => exact .inl ⟨rfl, rfl⟩
  | @cons p q ps qs h t ih =>
    by_cases e : p.1 = k
    · refine .inr ⟨p.2.2, q.2, if_pos e, ?_, h.2.2⟩
      show ((q :: qs).find? fun x => decide (x.1 = k)).map (·.2) = some q.2
      rw [List.find?_cons_of_pos (by rw [← h.1]; exact decide_eq_true e)]
      rfl
    · have e1 : valN (p :: ps) k = valN ps k := if_neg e
      have e2 : atKey (q :: qs) k = atKey qs k := by
        show ((q :: qs).find? fun x => decide (x.1 = k)).map (·.2) = _
        rw [List.find?_cons_of_neg (by rw [← h.1]; simpa using e)]
        rfl
      rw [e1, e2]
      exact ih
theorem KN.len {kvs : List NE} {xs : List (NestedKey × Addr × Value)} (r : KN kvs xs) : kvs.length = xs.length := Paired.length r
theorem KN.at_ {kvs : List NE} {xs : List (NestedKey × Addr × Value)} (r : KN kvs xs) : ∀ {i : Nat} {p : NE}, kvs[i]? = some p → ∃ q, xs[i]? = some q ∧ p.1 = q.1 ∧ p.2.1 = q.2.1 ∧ RelV p.2.2 q.2.2 := by
  induction r with
  | nil => intro i p e; simp at e
  | @cons p q ps qs h t ih =>
    intro i p' e
    cases i with
    | zero => cases e; exact ⟨q, rfl, h⟩
    | succ i =>
      obtain ⟨q', e1, e2⟩ := ih (i := i) (p := p') (by simpa using e)
      exact ⟨q', by simpa using e1, e2⟩
theorem KN.is {K : PySem.W.Frag} {X : Cx} {pins : List (Addr × Obj)} {σ : L2.St} {H : Hp} {s : Shared} (I : Inv X pins σ H s) {kvs : List NE} {xs : List (NestedKey × Addr × Value)} (r : KN kvs xs) (ks : KeysN X.K H kvs) : ∀ x ∈ xs, (nestedKind X.prog X.w).is s.heap x.1 x.2.1 := by
  induction r with
  | nil => intro x hx; exact nomatch hx
  | @cons p q ps qs h t ih =>
    intro x hx
    rcases List.mem_cons.mp hx with e | hx
    · subst e
      obtain ⟨d, h1, h2, h3, h4⟩ := ks p (List.mem_cons_self ..)
      rw [← h.1, ← h.2.1, h1]
      exact ⟨nst I h2 h3 rfl, h4⟩
    · exact ih (fun p' hp' => ks p' (List.mem_cons_of_mem _ hp')) x hx
section
variable {X : Cx} {pins : List (Addr × Obj)} {σ : L2.St} {H : Hp} {s : Shared} {a : Addr} {kvs : List NE}
theorem dn_raw (I : Inv X pins σ H s) (e : DnA X.prog X.w H a kvs) : dnRaw X.prog X.w a kvs s.heap := by
  rcases e with e | ⟨o, e⟩
  · exact (show ObjOk X.prog X.w H s.heap a (dnO X.prog X.w a kvs) from I.hok a _ e).1
  · have x : s.heap.get? a = some o ∧ ObjOk X.prog X.w H s.heap a (dnO X.prog X.w a kvs) := I.hok a _ e
    exact (show ObjOk X.prog X.w H s.heap a (dnO X.prog X.w a kvs) from x.2).1
theorem dn_of (I : Inv X pins σ H s) (e : DnA X.prog X.w H a kvs) (ks : KeysN X.K H kvs) : kvs.length ≤ sizeLine ∧ (a == sysModules) = false ∧ ∃ xs, KN kvs xs ∧ s.heap.DictOfH (nestedKind X.prog X.w) a xs := by
  obtain ⟨z1, z2, xs, o, es, ep, r, h1, h2, h3, h4, h5⟩ := dn_raw I e
  exact ⟨z1, z2, xs, r, o, es, ep, h1, h2, h3, h4, KN.is (K := X.K) I r ks, h5⟩
end
/-- a new empty one -/
def tDNewN (P : Program) (w : World) : TE := fun _ H Q => ∀ p, H p = none → Q (.ref p) (upd H p (dnO P w p []))
theorem pe_dnewN {X : Cx} {pos : Pos} : PE X (.Dict [] [] pos) (tDNewN X.prog X.w) := ⟨fun pins s σ H Q I h => by
  refine wpAny_Dict_empty ⟨.ref s.heap.objs.size, _, I.laid (a := s.heap.objs.size) (o := dnO X.prog X.w s.heap.objs.size []) (t' := s.toks) (fun _ _ q => Heap.get?_push_of_some _ q) (Nat.le_refl _) (dnO_ok ?_), rfl, h _ (I.hok.fresh (Nat.le_refl _))⟩
  exact ⟨Nat.zero_le _, beq_eq_false_iff_ne.mpr (Ne.symm (Nat.ne_of_lt I.big)), [], _, #[], 0, .nil, Heap.get?_push_size _ rfl, ⟨rfl, rfl, rfl⟩, rfl, rfl, List.nodup_nil⟩⟩
section
variable {X : Cx}
/-- a key: a tuple that stands -/
def KeyN (K : PySem.W.Frag) (H : Hp) (y : V) (b : Addr) (d : PyData) : Prop := y = .ref b ∧ Dp K H (.ref b) d ∧ imm d = true ∧ (keyD d).depth ≤ 8
def rInN (K : PySem.W.Frag) (P : Program) (w : World) : R2 := fun y x H Q => ∃ (a b : Addr) (kvs : List NE) (d : PyData), x = .ref a ∧ DnA P w H a kvs ∧ KeysN K H kvs ∧ KeyN K H y b d ∧ Q (.bl (valN kvs (keyD d)).isSome) H
theorem op_inN (hu : X.A.units + 9 < cLine) : OpR X (compareOp .In) (rInN X.K X.prog X.w) := by
  intro pins s σ H y x v u Q I ry rx h
  obtain ⟨a, b, kvs, d, rfl, hd, hk, ⟨rfl, h1, h2, h3⟩, q⟩ := h
  obtain rfl : v = Value.ref b := ry
  obtain rfl : u = Value.ref a := rx
  obtain ⟨_, z, xs, r, dd⟩ := dn_of I hd hk
  refine wpAny_in_heap (knd := nestedKind X.prog X.w) (k := keyD d) (by show X.A.in1.units + 8 < cLine; show X.A.units + 1 + 8 < cLine; omega) ⟨nst I h1 h2 rfl, h3⟩ z dd ⟨.bl _, H, I.tok _, ?_, q⟩
  rcases r.val (keyD d) with ⟨e1, e2⟩ | ⟨v, p, e1, e2, _⟩
  · rw [e1, e2]
    rfl
  · rw [e1, e2]
    rfl
def rIxN (K : PySem.W.Frag) (P : Program) (w : World) : R2 := fun x y H Q => ∃ (a b : Addr) (kvs : List NE) (d : PyData) (v : V), x = .ref a ∧ DnA P w H a kvs ∧ KeysN K H kvs ∧ KeyN K H y b d ∧ valN kvs (keyD d) = some v ∧ Q v H
theorem get_dn (hu : X.A.units + 9 < cLine) {pins : List (Addr × Obj)} {σ : L2.St} {H : Hp} {s : Shared} {a b : Addr} {kvs : List NE} {d : PyData} {v : V} {Q : VK} (I : Inv X pins σ H s) (hd : DnA X.prog X.w H a kvs) (hk : KeysN X.K H kvs) (h1 : Dp X.K H (.ref b) d) (h2 : imm d = true) (h3 : (keyD d).depth ≤ 8) (hv : valN kvs (keyD d) = some v) (q : Q v H) :
    wpAny (model X.prog X.w) X.A (getItem (.ref a) (.ref b)) (EP X pins σ Q) X.xe s := by
  obtain ⟨_, z, xs, r, dd⟩ := dn_of I hd hk
  rcases r.val (keyD d) with ⟨e1, _⟩ | ⟨v', p, e1, e2, rv⟩
  · rw [hv] at e1
    cases e1
  · rw [hv] at e1
    cases e1
    exact wpAny_getItem_heap (knd := nestedKind X.prog X.w) (k := keyD d) (by show X.A.units + 1 + 8 < cLine; omega) ⟨nst I h1 h2 rfl, h3⟩ dd e2 ⟨v, H, I.tok _, rv, q⟩
/-- d[k] = v for a key that isn't there yet -/
def rSetN (K : PySem.W.Frag) (P : Program) (w : World) : TSet := fun x y v H Q => ∃ (a b : Addr) (kvs : List NE) (d : PyData), x = .ref a ∧ H a = some (dnO P w a kvs) ∧ KeysN K H kvs ∧ KeyN K H y b d ∧ valN kvs (keyD d) = none ∧ kvs.length < 10000 ∧ Q (upd H a (dnO P w a (kvs ++ [(keyD d, b, v)])))
theorem set_dn (hu : X.A.units + 9 < cLine) : PSet X (rSetN X.K X.prog X.w) := by
  intro pins s σ H x y v xv yv u Q I rx ry rv h
  obtain ⟨a, b, kvs, d, rfl, hd, hk, ⟨rfl, h1, h2, h3⟩, hv, hl, q⟩ := h
  obtain rfl : xv = Value.ref a := rx
  obtain rfl : yv = Value.ref b := ry
  obtain ⟨z0, z, xs, r, dd⟩ := dn_of I (.inl hd) hk
  have hn : atKey xs (keyD d) = none := by
    rcases r.val (keyD d) with ⟨_, e2⟩ | ⟨v', p, e1, e2, _⟩
    · exact e2
    · rw [hv] at e1
      cases e1
  refine wpAny_setItem_heap (knd := nestedKind X.prog X.w) (k := keyD d) (hsz := by rw [← r.len]; exact z0) (by show X.A.units + 1 + 8 < cLine; omega) ⟨nst I h1 h2 rfl, h3⟩ dd fun h' hm hs => ?_
  rw [storedH_new hn] at hm
  obtain ⟨o, es, ep, g1, g2, g3, g4, _, g6⟩ := hm
  refine ⟨_, d_write I (by rw [hd]; trivial) hs ⟨o, g1⟩ (dnO_ok ⟨?_, z, _, o, es, ep, ?_, g1, g2, g3, g4, g6⟩), q⟩
  · rw [List.length_append]
    exact Nat.le_trans (show kvs.length + 1 ≤ 10000 from hl) (by decide)
  · have app : ∀ {ps : List NE} {qs : List (NestedKey × Addr × Value)}, KN ps qs → KN (ps ++ [(keyD d, b, v)]) (qs ++ [(keyD d, b, u)]) := by
      intro ps qs r
      induction r with
      | nil => exact .cons ⟨rfl, rfl, rv⟩ .nil
      | cons h t ih => exact .cons h ih
    exact app r
/-- the length -/
def rLenN (P : Program) (w : World) : List V → Hp → VK → Prop := fun xs H Q => ∃ (a : Addr) (kvs : List NE), xs = [.ref a] ∧ DnA P w H a kvs ∧ Q (.int ((kvs.length : Nat) : Int)) H
end
section
variable {X : Cx} {o i : Expr} {pos : Pos} {td ty : TE}
/-- d[k], there -/
def tDGetN (K : PySem.W.Frag) (P : Program) (w : World) (td ty : TE) : TE := fun σ H Q => td σ H fun x H1 => ty σ H1 fun y H2 => rIxN K P w x y H2 Q
theorem pe_dgetN (hu : X.A.units + 9 < cLine) (ho : PE X o td) (hi : PE X i ty) (hs : NoSl i) : PE X (.Subscript o i pos) (tDGetN X.K X.prog X.w td ty) := by
  refine ⟨fun pn s σ H Q I h => ?_⟩
  refine subD_of PySem.F.slot_dict_getitem.lookup hs (thn (ho.run pn s σ H _ I h) fun u s1 ⟨x, H1, J1, ex1, q1⟩ => thn (hi.run pn s1 σ H1 _ J1 q1) fun iv s2 ⟨y, H2, J2, ry, a, b, kvs, d, v, ex, hd, hk, ⟨ey, h1, h2, h3⟩, hv, q2⟩ => ?_)
  subst ex ey
  obtain rfl : u = Value.ref a := ex1
  obtain rfl : iv = Value.ref b := ry
  obtain ⟨_, _, xs, _, dd⟩ := dn_of J2 hd hk
  exact ⟨dd.typeIs, get_dn hu J2 hd hk h1 h2 h3 hv q2⟩
theorem call_len_dN : CallR X (.builtin "len") (fun xs H Q => ∃ (a : Addr) (kvs : List NE), xs = [.ref a] ∧ DnA X.prog X.w H a kvs ∧ KeysN X.K H kvs ∧ Q (.int ((kvs.length : Nat) : Int)) H) := by
  intro pn s σ H xs us Q I r h
  obtain ⟨a, kvs, rfl, hd, hk, q⟩ := h
  obtain ⟨u, rfl, ex1⟩ := vals1 r
  obtain rfl : u = .ref a := ex1
  obtain ⟨z, y, ys, rel, dd⟩ := dn_of I hd hk
  have hl := rel.len
  refine call_len_dictH y dd (by rw [← hl]; rw [sizeLine_eq] at z; omega) ?_
  rw [← hl]
  exact ⟨.int ((kvs.length : Nat) : Int), H, I.tok _, ⟨_, rfl⟩, q⟩
/-- d.get(k) -/
theorem mt_getN (hu : X.A.units + 9 < cLine) : MtR X "dict.get" (fun x xs H Q => ∃ (a b : Addr) (kvs : List NE) (d : PyData) (y : V), x = .ref a ∧ xs = [y] ∧ DnA X.prog X.w H a kvs ∧ KeysN X.K H kvs ∧ KeyN X.K H y b d ∧ Q ((valN kvs (keyD d)).getD .non) H) := by
  intro pn s σ H x xs v us Q I ex1 rxs h
  obtain ⟨a, b, kvs, d, y, rfl, rfl, hd, hk, ⟨rfl, h1, h2, h3⟩, q⟩ := h
  obtain rfl : v = Value.ref a := ex1
  obtain ⟨u, rfl, ry⟩ := vals1 rxs
  obtain rfl : u = Value.ref b := ry
  obtain ⟨_, z, ys, r, dd⟩ := dn_of I hd hk
  refine call_meetsIn PySem.F.slot_dict_get dd.typeIs PySem.F.entry_dict_get (PySem.F.args_dict_get_2 _ _) (meetsH_dict_get (nestedKind X.prog X.w) a b z) ⟨by show X.A.units + 1 + 8 < cLine; omega, keyD d, ys, ⟨nst I h1 h2 rfl, h3⟩, dd, ?_⟩
  rcases r.val (keyD d) with ⟨e1, e2⟩ | ⟨v', p, e1, e2, rv⟩
  · rw [e1] at q
    rw [e2]
    exact ⟨.non, H, I.tok _, rfl, q⟩
  · rw [e1] at q
    rw [e2]
    exact ⟨v', H, I.tok _, rv, q⟩
end
/-! going through it -/
section
variable {X : Cx} {pn : List (Addr × Obj)} {σ : L2.St} {H : Hp} {s : Shared} {d : Addr} {o : Obj}
theorem frzN {kvs : List NE} (I : Inv X pn σ H s) (h : H d = some (.frz o (dnO X.prog X.w d kvs))) :
    (d == sysModules) = false ∧ s.heap.get? d = some o ∧ o.ExactDict ∧ ∃ (es : Array DictEntry) (ep : Nat), o.data = .dict es ep ∧ es.size = kvs.length ∧
      ∀ (i : Nat) (p : NE), kvs[i]? = some p → ∃ (en : DictEntry), es[i]? = some en ∧ en.key = .ref p.2.1 ∧ RelV p.2.2 en.val := by
  have x : s.heap.get? d = some o ∧ ObjOk X.prog X.w H s.heap d (dnO X.prog X.w d kvs) := I.hok d _ h
  obtain ⟨hd, ok⟩ := x
  obtain ⟨_, hs, xs, o', es, ep, r, ho, hx, dat, he, _⟩ := (show ObjOk X.prog X.w H s.heap d (dnO X.prog X.w d kvs) from ok).1
  rw [hd] at ho
  cases ho
  refine ⟨hs, hd, hx, es, ep, dat, ?_, fun i p e => ?_⟩
  · rw [size_of_entries he, r.len]
  · obtain ⟨q, e1, _, e3, e4⟩ := r.at_ e
    have z := entry_at he i
    rw [e1] at z
    refine ⟨_, z, ?_, e4⟩
    rw [e3]
    rfl
end
/-- the keys of the locked dict, each its own tuple -/
def ItkN (P : Program) (w : World) (d : Addr) (o : Obj) (kvs : List NE) : It :=
  ⟨fun i H => H d = some (.frz o (dnO P w d kvs)) ∧ i < kvs.length, fun i H x H' => H' = H ∧ ∃ p, kvs[i]? = some p ∧ x = .ref p.2.1, fun i H => H d = some (.frz o (dnO P w d kvs)) ∧ kvs.length ≤ i⟩
/-- the pairs: new tuples -/
def ItiN (P : Program) (w : World) (d : Addr) (o : Obj) (kvs : List NE) : It :=
  ⟨fun i H => H d = some (.frz o (dnO P w d kvs)) ∧ i < kvs.length, fun i H x H' => ∃ T p, kvs[i]? = some p ∧ x = .ref T ∧ H T = none ∧ H' = upd H T (.tup [.ref p.2.1, p.2.2]), fun i H => H d = some (.frz o (dnO P w d kvs)) ∧ kvs.length ≤ i⟩
section
variable {P : Program} {w : World} {K : PySem.W.Frag} {tgt : Expr} {d : Addr} {o : Obj} {es : Array DictEntry} {ep : Nat}
theorem one_it {it b : Addr} (h : b ∈ [it]) : b = it := by simpa using h
theorem turn_keysN {kvs : List NE} (it : Addr) (od0 : o.data = .dict es ep) : Turn P w K tgt (ItkN P w d o kvs) [it] it (fun i h => h.IsKeyIter it d i kvs.length ep) := by
  refine ⟨by simp, fun i h st b hb => ?_, fun i h h' st k => st.at fun io e => k it (by simp) io e, ?_, ?_, fun A i s Q E st h => ?_⟩
  · obtain rfl := one_it hb
    obtain ⟨io, e, c, dd⟩ := st
    exact ⟨io, e, fun v z => by rw [dd] at z; cases z⟩
  · intro X hP hw hK hc i pn s σ H E I fp st hg
    subst hP hw hK
    obtain ⟨hd, hi⟩ := hg
    obtain ⟨c0, c1, c2, c3, c4, c5⟩ := fp it (by simp)
    obtain ⟨hs, atd, hx, es', ep', dat, siz, ens⟩ := frzN I hd
    obtain ⟨rfl, rfl⟩ := dict_ep od0 dat
    obtain ⟨p, hp⟩ : ∃ p, kvs[i]? = some p := ⟨kvs[i], List.getElem?_eq_getElem hi⟩
    obtain ⟨en, hen, ky, _⟩ := ens i p hp
    refine next_key_item st atd dat siz hen fun h' st2 sb => ?_
    have J1 : Inv X pn σ H { s with heap := h' } := I.turned (t' := s.toks) (fun b ob hb e => (sb.2 b hb).trans e) c0 c1 c3 c4 c5
    obtain ⟨io, e, c, dd⟩ := id st2
    refine ⟨en.key, rfl, go_of (s := { s with heap := h' }) e c dd (by decide) ⟨.ref p.2.1, H, J1, ky, ⟨rfl, p, hp, rfl⟩, st2, fun b hb => (fp b hb).1⟩⟩
  · intro X hP hw hK hc i pn s σ H E I fp st hg
    subst hP hw hK
    obtain ⟨hd, hi⟩ := hg
    obtain ⟨c0, c1, c2, c3, c4, c5⟩ := fp it (by simp)
    obtain ⟨hs, atd, hx, es', ep', dat, siz, ens⟩ := frzN I hd
    obtain ⟨rfl, rfl⟩ := dict_ep od0 dat
    exact next_key_end (I.ok.hd hc) st atd dat siz hi fun h' eb => ⟨rfl, I.turned (t' := s.toks) (fun b ob hb e => eb b ob hb e) c0 c1 c3 c4 c5⟩
  · refine wpAny_pyIter_slot st.typeIs PySem.F.slot_dict_keyiterator_iter (wpAny_call_entry PySem.F.slot_dict_keyiterator_iter st.typeIs PySem.F.entry_dict_keyiterator_iter ?_ (PySem.F.args_dict_keyiterator_iter_1 _))
    show wpAny _ _ (ret (.ref it)) _ _ s
    exact wpAny_pure ⟨_, rfl, "dict_keyiterator", _, st.typeIs, PySem.F.slot_dict_keyiterator_next.lookup, h⟩
theorem turn_itemsN {kvs : List NE} {els : List Expr} {kk : Nat} {tp : Pos} (it : Addr) (od0 : o.data = .dict es ep) :
    Turn P w K (.Tuple els kk tp) (ItiN P w d o kvs) [it] it (fun i h => ∃ ok ov, IsItemIter h it d i kvs.length ep ok ov) := by
  refine ⟨by simp, fun i h st b hb => ?_, fun i h h' st k => ?_, ?_, ?_, fun A i s Q E st h => ?_⟩
  · obtain rfl := one_it hb
    obtain ⟨ok, ov, e⟩ := st
    exact ⟨_, e, fun v z => nomatch z⟩
  · obtain ⟨ok, ov, e⟩ := st
    exact ⟨ok, ov, k it (by simp) _ e⟩
  · intro X hP hw hK hc i pn s σ H E I fp st hg
    subst hP hw hK
    obtain ⟨hd, hi⟩ := hg
    obtain ⟨hs, atd, hx, es', ep', dat, siz, ens⟩ := frzN I hd
    obtain ⟨rfl, rfl⟩ := dict_ep od0 dat
    obtain ⟨p, hp⟩ : ∃ p, kvs[i]? = some p := ⟨kvs[i], List.getElem?_eq_getElem hi⟩
    obtain ⟨en, hen, ky, vl⟩ := ens i p hp
    obtain ⟨ok, ov, he⟩ := st
    rw [← siz] at he
    have hi' : i < es'.size := by omega
    have een : es'[i] = en := by
      rw [Array.getElem?_eq_getElem hi'] at hen
      exact Option.some.inj hen
    have low : it < s.heap.objs.size := Heap.lt_size he
    refine DT.nextI he ⟨o, atd, hx, dat⟩ hi' fun h' ho hT hz hk => ?_
    rw [een] at ho hT
    refine ⟨_, rfl, wpAny_letOwnedTupleGo_items (s := { s with heap := h' }) ho fun h'' he' sb => ?_⟩
    have hT2 : h''.get? s.heap.objs.size = some { cls := .type "tuple", data := .seq #[en.key, en.val] } := (sb.2 _ (Nat.ne_of_gt low)).trans hT
    have new : ObjOk X.prog X.w (upd H s.heap.objs.size (.tup [.ref p.2.1, p.2.2])) h'' s.heap.objs.size (.tup [.ref p.2.1, p.2.2]) :=
      ⟨by show 2 ≤ sizeLine; decide, [en.key, en.val], .cons ky (.cons vl .nil), ⟨_, hT2, rfl, _, rfl⟩⟩
    have J1 : Inv X pn σ (upd H s.heap.objs.size (.tup [.ref p.2.1, p.2.2])) { s with heap := h'' } :=
      I.turnedNew (t' := s.toks) (ch := [it]) (fun b ob hb e => (sb.2 b (by simpa using hb)).trans (hk b ob (by simpa using hb) e)) fp (Nat.le_refl _) new
    refine ⟨.ref s.heap.objs.size, _, J1, rfl, ⟨_, p, hp, rfl, I.hok.fresh (Nat.le_refl _), rfl⟩, ⟨en.key, en.val, ?_⟩, fun b hb => ?_⟩
    · rw [← siz]
      exact he'
    · obtain rfl := one_it hb
      rw [upd_ne (Nat.ne_of_lt low)]
      exact (fp b (by simp)).1
  · intro X hP hw hK hc i pn s σ H E I fp st hg
    subst hP hw hK
    obtain ⟨hd, hi⟩ := hg
    obtain ⟨c0, c1, c2, c3, c4, c5⟩ := fp it (by simp)
    obtain ⟨hs, atd, hx, es', ep', dat, siz, ens⟩ := frzN I hd
    obtain ⟨rfl, rfl⟩ := dict_ep od0 dat
    obtain ⟨ok, ov, he⟩ := st
    rw [← siz] at he
    exact DT.endI (I.ok.hd hc) he ⟨o, atd, hx, dat⟩ (by omega) fun h' eb => ⟨rfl, I.turned (t' := s.toks) (fun b ob hb e => eb b ob hb e) c0 c1 c3 c4 c5⟩
  · obtain ⟨_, _, e⟩ := st
    exact PySem.W.kcp_self e h
end
def iKeysN (P : Program) (w : World) (td : TE) : TI := fun σ H R => td σ H fun x H1 => ∃ d o kvs, x = .ref d ∧ H1 d = some (.frz o (dnO P w d kvs)) ∧ R (ItkN P w d o kvs) H1
def iItemsN (P : Program) (w : World) (td : TE) : TI := fun σ H R => td σ H fun x H1 => ∃ d o kvs, x = .ref d ∧ H1 d = some (.frz o (dnO P w d kvs)) ∧ R (ItiN P w d o kvs) H1
section
variable {X : Cx} {tgt e : Expr} {td : TE} {ap cp : Pos}
theorem pi_keysN (he : PE X e td) : PI X tgt e (iKeysN X.prog X.w td) := by
  refine ⟨fun pn s σ H R I h => ?_⟩
  refine thn (he.run pn s σ H _ I h) fun u s1 ⟨x, H1, J1, ex1, d, o, kvs, ex, hd, q⟩ => ?_
  subst ex
  obtain rfl : u = Value.ref d := ex1
  obtain ⟨hs, atd, hx, es, ep, dat, siz, ens⟩ := frzN J1 hd
  refine iter_keys hs atd hx dat (pi_one (tk := s1.toks) J1 _ (turn_keysN _ dat) ⟨_, Heap.get?_push_size _ rfl, rfl, ?_⟩ q)
  rw [siz] <;> rfl
theorem pi_itemsN {els : List Expr} {kk : Nat} {tp : Pos} (he : PE X e td) (hbase : attributeBase e "items" X.env (eval e X.env) = eval e X.env := by rfl) (hline : (ap.endLine == cp.line) = true := by rfl) :
    PI X (.Tuple els kk tp) (.Call (.Attribute e "items" ap) [] [] cp) (iItemsN X.prog X.w td) := by
  refine ⟨fun pn s σ H R I h => ?_⟩
  refine wpAny_Call_method (T := "dict") (id := "dict.items") hbase rfl hline PySem.F.plainAttrs_dict PySem.F.slot_dict_items PySem.F.type_dict_items (thn (he.run pn s σ H _ I h) fun u s1 ⟨x, H1, J1, ex1, d, o, kvs, ex, hd, q⟩ => ?_)
  subst ex
  obtain rfl : u = Value.ref d := ex1
  obtain ⟨hs, atd, hx, es, ep, dat, siz, ens⟩ := frzN J1 hd
  have raw : DT.Raw s1.heap d es ep := ⟨o, atd, hx, dat⟩
  refine ⟨raw.typeIs, ?_, ?_⟩
  · intro b e
    cases e
    exact ⟨o, atd, hx.2.1⟩
  have J2 : Inv X pn σ H1 { s1 with heap := s1.heap.push { cls := .type "dict_items", data := .fields #[.ref d] } } := J1.kept (t' := s1.toks) fun b ob q => Heap.get?_push_of_some _ q
  have goes : wpAny (model X.prog X.w) X.A (pyIter (.ref s1.heap.objs.size)) (PIE X pn σ (.Tuple els kk tp) R) X.xe { s1 with heap := s1.heap.push { cls := .type "dict_items", data := .fields #[.ref d] } } := by
    refine DT.iterI (d := d) ⟨_, Heap.get?_push_size _ rfl, rfl, rfl⟩ (raw.push _) (pi_one (tk := s1.toks) J2 _ (turn_itemsN _ dat) ⟨.none, .none, ?_⟩ q)
    rw [← siz]
    exact Heap.get?_push_size _ rfl
  show wpAny _ _ (callWith cp (.builtin "dict.items") [.ref d] [] []) _ X.xe s1
  exact method_meetsIn PySem.F.slot_dict_items PySem.F.entry_dict_items rfl (PySem.evalArgs_none ⟨rfl, raw.typeIs, PySem.F.args_dict_items_1 _, _, DT.meetsItems (es := es) (ep := ep) hs, raw, goes⟩)
end
theorem walk_keysN {P : Program} {w : World} {d : Addr} {o : Obj} {kvs : List NE} : Walk (ItkN P w d o kvs) kvs.length (fun H => H d = some (.frz o (dnO P w d kvs))) (fun i H x H' => H' = H ∧ ∃ p, kvs[i]? = some p ∧ x = .ref p.2.1) :=
  ⟨fun i _ hi q => ⟨q, hi⟩, fun _ q => ⟨q, Nat.le_refl _⟩, fun i H v H' _ q y => y⟩
theorem walk_itemsN {P : Program} {w : World} {d : Addr} {o : Obj} {kvs : List NE} : Walk (ItiN P w d o kvs) kvs.length (fun H => H d = some (.frz o (dnO P w d kvs))) (fun i H x H' => ∃ T p, kvs[i]? = some p ∧ x = .ref T ∧ H T = none ∧ H' = upd H T (.tup [.ref p.2.1, p.2.2])) :=
  ⟨fun i _ hi q => ⟨q, hi⟩, fun _ q => ⟨q, Nat.le_refl _⟩, fun i H v H' _ q y => y⟩
/-! ### sets of texts: made of a list or a tuple, counted, sorted -/
def keyTx (e : Int × Value) : Str := match e.2 with
  | .str k _ => k
  | _ => Str.empty
def TxE (w : World) (e : Int × Value) : Prop := ∃ k tk, e.2 = Value.str k tk ∧ e.1 = hashStr w k
/-- the set at a has just these texts, and can be gone through -/
def SetTx (w : World) (h : Heap) (a : Addr) (ks : List Str) : Prop := ∃ o es ep t, h.get? a = some o ∧ o.ExactSet ∧ o.data = .set es ep t ∧ (∀ e ∈ es.toList, TxE w e) ∧ (es.toList.map keyTx).Perm ks ∧ ks.Nodup ∧
  es.size < scanBound ∧ t.fits es.size = true ∧ Ris t.place.toList ∧ (w.params.followText "set-order" = true ∨ t.led = true)
theorem SetTx.keep {w : World} {h h' : Heap} {a : Addr} {ks : List Str} (R : SetTx w h a ks) (k : ∀ o, h.get? a = some o → h'.get? a = some o) : SetTx w h' a ks := by
  obtain ⟨o, es, ep, t, e, r⟩ := R
  exact ⟨o, es, ep, t, k o e, r⟩
theorem SetTx.perm {w : World} {h : Heap} {a : Addr} {ks ks' : List Str} (R : SetTx w h a ks) (p : ks.Perm ks') : SetTx w h a ks' := by
  obtain ⟨o, es, ep, t, h1, h2, h3, h4, h5, h6, r⟩ := R
  exact ⟨o, es, ep, t, h1, h2, h3, h4, h5.trans p, p.nodup_iff.mp h6, r⟩
section
variable {P : Program} {w : World} {A : Around} {E : Value → Shared → Prop} {s : Shared} {a : Addr} {ks : List Str}
theorem tx_elems {l : List (Int × Value)} (g : ∀ e ∈ l, TxE w e) : ElemsOf (PySem.strKind P w) l := fun e he => by
  obtain ⟨k, tk, h1, h2⟩ := g e he
  refine ⟨⟨k, ?_, h2⟩, ?_⟩
  · rw [h1]
    exact strKind_is P w k tk
  · rw [h1]
    rfl
theorem tx_is {e : Int × Value} (g : TxE w e) (k : Str) : (PySem.strKind P w).is k e.2 = true ↔ keyTx e = k := by
  obtain ⟨k0, tk, h1, _⟩ := g
  unfold keyTx
  rw [h1]
  constructor
  · intro z
    obtain ⟨t, q⟩ := Value.isStrOf_shape (show Value.isStrOf k (.str k0 tk) = true from z)
    injection q
  · intro z
    have z : k0 = k := z
    rw [← z]
    exact strKind_is P w k0 tk
/-- the end of an addition: it is laid in, the table is made wider at times -/
theorem tx_laid {g : Bool → Sem Unit} (hg : ∀ (b : Bool) (s₁ : Shared) (Q' : Unit → Shared → Prop), Q' () s₁ → wpAny (model P w) A (g b) Q' E s₁)
    {o : Obj} {es0 : Array (Int × Value)} {ep : Nat} {t0 : SetTable} (ho : s.heap.get? a = some o) (hex : o.ExactSet) (hd : o.data = .set es0 ep t0)
    {es : Array (Int × Value)} {t : SetTable} (h1 : ∀ e ∈ es.toList, TxE w e) (h2 : (es.toList.map keyTx).Perm ks) (h3 : ks.Nodup) (h4 : es.size < scanBound) (h5 : t.fits es.size = true) (h6 : Ris t.place.toList) (h7 : w.params.followText "set-order" = true ∨ t.led = true)
    {was : Bool} {R : Option Bool → Shared → Prop} (hR : ∀ h', Heap.SameBut a s.heap h' → SetTx w h' a ks → R (some true) { s with heap := h' }) :
    wpAny (model P w) A (do
        storeSet a es t
        if (!was && t.tooFull) = true then do
            g (relayAll t es (SetTable.grown es.size)).2.2
            storeSet a (relayAll t es (SetTable.grown es.size)).1 (relayAll t es (SetTable.grown es.size)).2.1
            pure (some true)
          else pure (some true)) R E s := by
  refine wpAny_bind (wpAny_storeSet_of ho hd ?_ (fits_of_scanBound h4))
  have at1 := store_at (es' := es) (t' := t) ho hd
  have but1 := Heap.SameBut.update s.heap a (Obj.putSet es t)
  split
  · obtain ⟨Z, eZ⟩ : ∃ Z, Z = relayAll t es (SetTable.grown es.size) := ⟨_, rfl⟩
    have q1 := relayAll_perm t es (SetTable.grown es.size)
    have q2 := relayAll_fits t es (SetTable.grown es.size)
    have q3 := relayAll_ris t es (SetTable.grown es.size)
    have q4 := relayAll_led t es (SetTable.grown es.size)
    rw [← eZ] at q1 q2 q3 q4 ⊢
    have sz : Z.1.size = es.size := by
      rw [← Array.length_toList, q1.length_eq, Array.length_toList]
    refine wpAny_bind (hg _ _ _ ?_)
    refine wpAny_bind (wpAny_storeSet_of at1 rfl ?_ (fits_of_scanBound (by rw [sz]; exact h4)))
    have at2 := store_at (es' := Z.1) (t' := Z.2.1) at1 rfl
    exact wpAny_pure (hR _ (but1.trans (Heap.SameBut.update _ a _)) ⟨_, Z.1, _, Z.2.1, at2, hex, rfl, fun e he => h1 e (q1.mem_iff.mp he), (q1.map keyTx).trans h2, h3, by rw [sz]; exact h4, q2, q3, h7.imp id fun z => by rw [q4]; exact z⟩)
  · exact wpAny_pure (hR _ but1 ⟨_, es, _, t, at1, hex, rfl, h1, h2, h3, h4, h5, h6, h7⟩)
def putTx (ks : List Str) (k : Str) : List Str := if k ∈ ks then ks else k :: ks
theorem tx_add {k : Str} {tk : Tok} {Q : Bool → Shared → Prop} (R : SetTx w s.heap a ks) (room : ks.length + 1 < scanBound)
    (hQ : ∀ b h', Heap.SameBut a s.heap h' → SetTx w h' a (putTx ks k) → Q b { s with heap := h' }) :
    wpAny (model P w) A (setAddHashed a (.str k tk) ((PySem.strKind P w).hash k)) Q E s := by
  obtain ⟨o, es, ep, t, ho, hex, hd, g, pm, nd, hb, hf, hr, hl⟩ := R
  have hel : ElemsOf (PySem.strKind P w) es.toList := tx_elems g
  unfold setAddHashed setAddHashedIn
  refine wpAny_holding (wpAny_bind (wpAny_setState_of ho hd hf ?_))
  dsimp only
  rw [byScan_of (x := Value.str k tk) rfl hb hel]
  simp only [↓reduceIte]
  unfold setAddByScan
  refine wpAny_bind (wpAny_bind (wpAny_rule (wpAny_bind (wpAny_setScan_of (strKind_is P w k tk) ho hd hf hel ?_))))
  cases hfi : List.findIdx? (fun e => (PySem.strKind P w).is k e.2) es.toList with
  | some j =>
    dsimp only
    obtain ⟨hj, pj, _⟩ := List.findIdx?_eq_some_iff_getElem.mp hfi
    have mem : k ∈ ks := pm.mem_iff.mp (List.mem_map.mpr ⟨_, List.getElem_mem hj, (tx_is (g _ (List.getElem_mem hj)) k).mp pj⟩)
    refine wpAny_pure (wpAny_pure (hQ _ s.heap (Heap.SameBut.refl a s.heap) ?_))
    unfold putTx
    rw [if_pos mem]
    exact ⟨o, es, ep, t, ho, hex, hd, g, pm, nd, hb, hf, hr, hl⟩
  | none =>
    dsimp only
    have nk : k ∉ ks := fun z => by
      obtain ⟨e, he, q⟩ := List.mem_map.mp (pm.mem_iff.mpr z)
      have c := List.findIdx?_eq_none_iff.mp hfi e he
      rw [(tx_is (P := P) (g e he) k).mpr q] at c
      cases c
    have way : ∀ (b : Bool) {s₁ : Shared} {Q' : Unit → Shared → Prop}, Q' () s₁ → wpAny (model P w) A (match b with | true => rule "set.scan.the-table-gave-way" | false => pure ()) Q' E s₁ :=
      fun b s₁ Q' q => by cases b <;> first | exact wpAny_pure q | exact wpAny_rule q
    have p1 := layNew_perm t es ((PySem.strKind P w).hash k) (.str k tk)
    have p2 := layNew_fits t es ((PySem.strKind P w).hash k) (.str k tk)
    have p3 := layNew_ris t es ((PySem.strKind P w).hash k) (.str k tk) hr
    have p4 := layNew_led t es ((PySem.strKind P w).hash k) (.str k tk)
    generalize layNew t es ((PySem.strKind P w).hash k) (.str k tk) = Z at p1 p2 p3 p4 ⊢
    obtain ⟨es1, t1, was, gave⟩ := Z
    dsimp only at p1 p2 p3 p4 ⊢
    rw [Array.toList_push] at p1
    have pc : es1.toList.Perm (((PySem.strKind P w).hash k, Value.str k tk) :: es.toList) := p1.trans (List.perm_append_singleton _ _)
    have g1 : ∀ e ∈ es1.toList, TxE w e := fun e he => by
      rcases List.mem_cons.mp (pc.mem_iff.mp he) with z | z
      · rw [z]
        exact ⟨k, tk, rfl, rfl⟩
      · exact g e z
    have pk : (es1.toList.map keyTx).Perm (k :: ks) := (pc.map keyTx).trans (List.Perm.cons k pm)
    have lk : es.size = ks.length := by
      rw [← Array.length_toList, ← pm.length_eq, List.length_map]
    have sz : es1.size = ks.length + 1 := by
      rw [← Array.length_toList, pc.length_eq, List.length_cons, Array.length_toList, lk]
    have led : w.params.followText "set-order" = true ∨ t1.led = true := hl.imp id fun z => by rw [p4]; exact z
    have fin : ∀ h', Heap.SameBut a s.heap h' → SetTx w h' a (k :: ks) → ∀ b, Q b { s with heap := h' } := fun h' sb r b => hQ b h' sb (by
      unfold putTx
      rw [if_neg nk]
      exact r)
    have ndk : (k :: ks).Nodup := List.nodup_cons.mpr ⟨nk, nd⟩
    refine wpAny_bind (way _ ?_)
    split
    · refine wpAny_bind ?_
      rw [hashByValue_scannable 8 (x := Value.str k tk) rfl]
      refine wpAny_pure ?_
      refine tx_laid ?_ ho hex hd g1 pk ndk (by rw [sz]; exact room) ?_ ?_ ?_ ?_
      · intro b s₁ Q' q
        cases b <;> first | exact wpAny_pure q | exact wpAny_rule q
      · first | (split <;> first | exact p2 | exact SetTable.fits_plain_off p2) | exact p2
      · first | (split <;> exact p3) | exact p3
      · first | (split <;> exact led) | exact led
      · intro h' sb r
        dsimp only
        exact wpAny_pure (fin h' sb r _)
    · refine wpAny_bind (wpAny_pure ?_)
      simp only [↓reduceIte]
      refine tx_laid ?_ ho hex hd g1 pk ndk (by rw [sz]; exact room) p2 p3 led ?_
      · intro b s₁ Q' q
        cases b <;> first | exact wpAny_pure q | exact wpAny_rule q
      · intro h' sb r
        dsimp only
        exact wpAny_pure (fin h' sb r _)
end
/-! the texts of a list or a tuple, one behind the other -/
def gotTx (xs : List Str) : List Str := xs.foldl putTx []
theorem putTx_mem {ks : List Str} {k x : Str} : x ∈ putTx ks k ↔ x = k ∨ x ∈ ks := by
  unfold putTx
  by_cases h : k ∈ ks
  · rw [if_pos h]
    exact ⟨.inr, fun z => z.elim (fun e => e ▸ h) id⟩
  · rw [if_neg h]
    exact List.mem_cons
theorem putTx_nodup {ks : List Str} {k : Str} (h : ks.Nodup) : (putTx ks k).Nodup := by
  unfold putTx
  by_cases c : k ∈ ks
  · rw [if_pos c]
    exact h
  · rw [if_neg c]
    exact List.nodup_cons.mpr ⟨c, h⟩
theorem putTx_len {ks : List Str} {k : Str} : (putTx ks k).length ≤ ks.length + 1 := by
  unfold putTx
  split
  · omega
  · rw [List.length_cons]
    exact Nat.le_refl _
theorem gotTx_snoc (xs : List Str) (k : Str) : gotTx (xs ++ [k]) = putTx (gotTx xs) k := by
  unfold gotTx
  rw [List.foldl_append]
  rfl
theorem gotTx_all : ∀ (xs : List Str) (ks : List Str), ks.Nodup → (xs.foldl putTx ks).Nodup ∧ (∀ x, x ∈ xs.foldl putTx ks ↔ x ∈ xs ∨ x ∈ ks) ∧ (xs.foldl putTx ks).length ≤ ks.length + xs.length
  | [], ks, h => ⟨h, fun x => ⟨.inr, fun z => z.elim (fun y => nomatch y) id⟩, Nat.le_refl _⟩
  | k :: xs, ks, h => by
    obtain ⟨h1, h2, h3⟩ := gotTx_all xs (putTx ks k) (putTx_nodup h)
    refine ⟨h1, fun x => ?_, ?_⟩
    · show x ∈ xs.foldl putTx (putTx ks k) ↔ _
      rw [h2 x, putTx_mem, List.mem_cons]
      constructor
      · rintro (z | z | z)
        · exact .inl (.inr z)
        · exact .inl (.inl z)
        · exact .inr z
      · rintro ((z | z) | z)
        · exact .inr (.inl z)
        · exact .inl z
        · exact .inr (.inr z)
    · have := putTx_len (ks := ks) (k := k)
      show (xs.foldl putTx (putTx ks k)).length ≤ _
      rw [List.length_cons]
      omega
theorem gotTx_nodup (xs : List Str) : (gotTx xs).Nodup := (gotTx_all xs [] List.nodup_nil).1
theorem gotTx_mem {xs : List Str} {x : Str} : x ∈ gotTx xs ↔ x ∈ xs := by
  have := (gotTx_all xs [] List.nodup_nil).2.1 x
  exact ⟨fun z => (this.mp z).elim id fun y => (by cases y), fun z => this.mpr (.inl z)⟩
theorem gotTx_len (xs : List Str) : (gotTx xs).length ≤ xs.length := by
  have := (gotTx_all xs [] List.nodup_nil).2.2
  rw [List.length_nil, Nat.zero_add] at this
  exact this
theorem tx_fresh {w : World} {h : Heap} {a : Addr} (ho : h.get? a = some { cls := .type "set", dict := none, data := .set #[] 0 (.fresh 0 0 (!w.params.followText "set-order")) }) : SetTx w h a [] := by
  refine ⟨_, #[], 0, _, ho, ⟨rfl, rfl, rfl⟩, rfl, fun e he => ?_, .nil, List.nodup_nil, by show 0 < scanBound; unfold scanBound; omega, rfl, List.Pairwise.nil, ?_⟩
  · cases he
  · show _ ∨ (!w.params.followText "set-order") = true
    cases w.params.followText "set-order"
    · exact .inr rfl
    · exact .inl rfl
section
variable {P : Program} {w : World} {A : Around} {R : Result → Shared → Prop} {I : Addr} {fp wr : List Addr} {G : Array GenState → Array GenState → Prop} {n : Nat} {Pv : Nat → Value → Prop} {St : Nat → Shared → Prop}
theorem tx_loop (W : WalksS P w A.in1 I fp wr G n Pv St) (S : Addr) (hSf : S ∉ fp) (xs : List Str) (hn : xs.length = n) (few : n + 1 < scanBound) (hval : ∀ i v, Pv i v → ∃ x t, xs[i]? = some x ∧ v = .str x t) :
    ∀ (k i : Nat) (s : Shared), n - i = k → i ≤ n → St i s → SetTx w s.heap S (gotTx (xs.take i)) →
      (∀ s', Moved (S :: wr) G s s' → SetTx w s'.heap S (gotTx xs) → R (.ok (.ret .none)) s') → codeAny (model P w) A (.builtin "set.update.loop" ⟨[.ref S, .ref I], []⟩) R s := by
  have nw : S ∉ wr := fun h => hSf (W.sub _ h)
  have sub : ∀ b ∈ wr, b ∈ S :: wr := fun b hb => List.mem_cons_of_mem _ hb
  intro k
  induction k with
  | zero =>
    intro i s hk hi hst hS hR
    have ei : i = n := by omega
    subst ei
    refine codeAny_builtin PyProof.Rows.F.entry_set_update_loop ?_
    rw [Around.under_plainId PyProof.Rows.F.plain_set_update_loop _]
    show wpAny _ A.in1 (pyNext (.ref I) >>= _) _ _ s
    refine wpAny_bind (W.done s _ _ hst fun s' mv => ?_)
    rw [← hn, List.take_length] at hS
    exact wpAny_pure (hR s' (mv.mono sub) (hS.keep fun o e => mv.heap S o nw e))
  | succ k ih =>
    intro i s hk hi hst hS hR
    have lt : i < n := by omega
    refine codeAny_builtin PyProof.Rows.F.entry_set_update_loop ?_
    rw [Around.under_plainId PyProof.Rows.F.plain_set_update_loop _]
    show wpAny _ A.in1 (pyNext (.ref I) >>= _) _ _ s
    refine wpAny_bind (W.item i s _ _ lt hst fun v s' hP st2 mv => ?_)
    obtain ⟨x, t, hx, rfl⟩ := hval i v hP
    have hS1 : SetTx w s'.heap S (gotTx (xs.take i)) := hS.keep fun o e => mv.heap S o nw e
    show wpAny _ A.in1 (holding [Value.str x t] (setAdd S (.str x t)) >>= _) _ _ s'
    refine wpAny_bind (wpAny_holding ?_)
    unfold setAdd
    refine wpAny_holding (wpAny_bind ((PySem.strKind P w).pyHash (k := x) (strKind_is _ _ _ _) ?_))
    have ll := gotTx_len (xs.take i)
    rw [List.length_take] at ll
    refine tx_add (s := { s' with toks := s'.toks + 1 }) hS1 (by omega) fun b h' sb hS2 => ?_
    have nx : putTx (gotTx (xs.take i)) x = gotTx (xs.take (i + 1)) := by
      rw [List.take_add_one, hx]
      exact (gotTx_snoc _ _).symm
    rw [nx] at hS2
    refine wpAny_pure ⟨plainId_quiet PyProof.Rows.F.plain_set_update_loop _, ih (i + 1) _ (by omega) lt (W.frame _ s' _ _ st2 (Nat.le_succ _) fun c hc o e => ?_) hS2 fun s2 mv2 hS3 => ?_⟩
    · exact (sb.2 c fun z => hSf (z ▸ hc)).trans e
    · refine hR s2 (Moved.trans W.gtrans ((mv.mono sub).then_heap (Nat.le_succ _) fun c o hc e => ?_) mv2) hS3
      exact (sb.2 c fun z => hc (z ▸ List.mem_cons_self)).trans e
end
theorem strs_nth : ∀ {vs : List Value} {xs : List Str}, PyProof.Rows.StrsAre vs xs → ∀ {i : Nat} {v : Value}, vs[i]? = some v → ∃ x t, xs[i]? = some x ∧ v = .str x t
  | _, _, .nil, i, v, e => by simp at e
  | _, _, .cons x t r, 0, v, e => ⟨x, t, rfl, (Option.some.inj e).symm⟩
  | _, _, .cons x t r, i + 1, v, e => strs_nth r (i := i) (by simpa using e)
theorem strs_len : ∀ {vs : List Value} {xs : List Str}, PyProof.Rows.StrsAre vs xs → vs.length = xs.length
  | _, _, .nil => rfl
  | _, _, .cons x t r => by rw [List.length_cons, List.length_cons, strs_len r]
section
variable {P : Program} {w : World} {A : Around} {E : Value → Shared → Prop} {s : Shared}
set_option maxRecDepth 100000 in
set_option maxHeartbeats 3200000 in
theorem tx_of_list {l : Addr} {items : Array Value} {xs : List Str} {Q : Value → Shared → Prop} (hh : A.handled = none) (hl : s.heap.IsList l items) (hi : PyProof.Rows.StrsAre items.toList xs) (few : xs.length + 1 < scanBound)
    (h : ∀ (h' : Heap) (tk : Nat), SetTx w h' s.heap.objs.size (gotTx xs) → (∀ b o, s.heap.get? b = some o → h'.get? b = some o) → Q (.ref s.heap.objs.size) { s with heap := h', toks := tk }) : wpAny (model P w) A (call (.type "set") [.ref l]) Q E s := by
  have nx : xs.length = items.size := by
    rw [← strs_len hi, Array.length_toList]
  obtain ⟨c, tl, hmro⟩ := PySem.F.called_set.mro
  have w1 := PySem.F.called_set.made
  have w2 := PySem.F.called_set.sub
  refine wpAny_call (codeAny_of_tree ?_)
  show wpAny _ _ (callAny (.type "set") _) _ _ _
  refine wpAny_pure ⟨Code.quiet_builtin _ (by decide +kernel), codeAny_builtin PySem.F.entry_type_call ?_⟩
  rw [Around.under_plain (weight_type_call_type "set" [.ref l] []) rfl]
  have w3 := PySem.F.called_set.notType
  have w4 := PySem.F.called_set.canCreate
  have w5 := PySem.F.typeCall_set_1 (.ref l)
  repeat (any_goals (first | assumption | wp_step))

  refine codeAny_mono (code_set_led1 (.ref l) (E := E) (Q₁ := fun obj s₁ => obj = .ref s.heap.objs.size ∧ s₁ = { s with heap := s.heap.push { cls := .type "set", dict := none, data := .set #[] 0 (.fresh 0 0 (!w.params.followText "set-order")) } }) ⟨rfl, rfl⟩) fun r s₁ hr => ?_
  cases r with
  | error e => exact hr
  | ok fl =>
    cases fl with
    | ret obj =>
      obtain ⟨rfl, rfl⟩ := hr
      have at0 : (s.heap.push { cls := .type "set", dict := none, data := .set #[] 0 (.fresh 0 0 (!w.params.followText "set-order")) }).get? s.heap.objs.size = some { cls := .type "set", dict := none, data := .set #[] 0 (.fresh 0 0 (!w.params.followText "set-order")) } := Heap.get?_push_size _ rfl
      have ty0 : Shared.TypeIs { s with heap := s.heap.push { cls := .type "set", dict := none, data := .set #[] 0 (.fresh 0 0 (!w.params.followText "set-order")) } } (.ref s.heap.objs.size) "set" := ⟨_, at0, rfl⟩
      have w6 := PySem.F.called_set.init.lookup
      have w7 := PySem.F.called_set.init.bind (.ref s.heap.objs.size)
      repeat (any_goals (first | assumption | wp_step))

      refine codeAny_mono (codeAny_call_builtin (R := wants (fun r s₂ => r = .none ∧ ∃ h' tk, s₂ = { s with heap := h', toks := tk } ∧ SetTx w h' s.heap.objs.size (gotTx xs) ∧ (∀ b o, s.heap.get? b = some o → h'.get? b = some o)) E) PySem.F.called_set.init.plain PySem.F.entry_set_init (check_set_init_1 ty0 ?_)) fun r₂ s₂ hr₂ => ?_
      · obtain ⟨ol, hol, hcl, nl, hdl⟩ := hl
        obtain ⟨ocls, odict, odata, oslots⟩ := ol
        simp only at hcl hdl
        subst hcl; subst hdl
        have hol' : (s.heap.push { cls := .type "set", dict := none, data := .set #[] 0 (.fresh 0 0 (!w.params.followText "set-order")) }).get? l = some { cls := .type "list", dict := odict, data := .seq items nl, slots := oslots } := Heap.get?_push_of_some _ hol
        have w8 := PySem.F.sub_list_set
        have w9 := PySem.F.sub_list_frozenset
        have w10 : (Value.type "list" == Value.type "dict") = false := by decide
        have hl1 : (s.heap.push { cls := .type "set", dict := none, data := .set #[] 0 (.fresh 0 0 (!w.params.followText "set-order")) }).IsList l items := ⟨_, hol', rfl, nl, rfl⟩
        unfold Builtin.«set.__init__» noKeywords Builtin.Frozenset.updateFrom
        generalize hPI : pyIter = PI
        wp_walk
        subst hPI

        refine wpAny_pyIter_list hl1 ?_
        refine wpAny_bind (wpAny_runValue ?_)
        have low : l < s.heap.objs.size := Heap.lt_size hol
        have h3 : A.in1.in1.in1.handled = none := by simp [hh]
        have sz : (s.heap.push { cls := .type "set", dict := none, data := .set #[] 0 (.fresh 0 0 (!w.params.followText "set-order")) }).objs.size = s.heap.objs.size + 1 := Heap.size_push ..
        refine tx_loop (w := w) ((Walks.list h3 _ l (by rw [sz]; exact Nat.ne_of_lt (Nat.lt_succ_of_lt low)) items).toS) s.heap.objs.size (fun hm => ?_) xs nx (by rw [← nx]; exact few) (fun i v hv => strs_nth hi (by rw [Array.getElem?_toList]; exact hv)) (items.size - 0) 0 _ (by omega) (Nat.zero_le _)
          ⟨⟨_, Heap.get?_push_size _ rfl, rfl, rfl⟩, (hl1.push _)⟩ (tx_fresh ?_) ?_
        · simp only [List.mem_cons, List.not_mem_nil, or_false, sz] at hm
          rcases hm with z | z
          · exact absurd z (Nat.ne_of_lt (Nat.lt_succ_self _))
          · exact absurd z (Nat.ne_of_gt low)
        · exact Heap.get?_push_of_some _ at0
        · intro s' mv hS'
          obtain ⟨h', g2, d', tk', os'⟩ := s'
          have eg : g2 = s.gens := mv.gens
          have ed : d' = s.drawn := mv.drawn
          have eo : os' = s.os := mv.os
          subst eg; subst ed; subst eo
          show wpAny _ _ _ _ _ _
          refine wpAny_pure ?_
          show wpAny _ _ (ret Value.none) _ _ _
          refine wpAny_pure ⟨rfl, h', tk', rfl, hS', fun b o e => mv.heap b o (fun hm => ?_) (Heap.get?_push_of_some _ (Heap.get?_push_of_some _ e))⟩
          have lb : b < s.heap.objs.size := Heap.lt_size e
          simp only [List.mem_cons, List.not_mem_nil, or_false, sz] at hm
          rcases hm with z | z
          · exact absurd z (Nat.ne_of_lt lb)
          · exact absurd z (Nat.ne_of_lt (Nat.lt_succ_of_lt lb))
      · cases r₂ with
        | error e => exact hr₂
        | ok fl₂ =>
          cases fl₂ with
          | ret r =>
            obtain ⟨rfl, h', tk, rfl, hS', hk'⟩ := hr₂
            repeat (any_goals (first | assumption | wp_step))
            exact h _ _ hS' hk'
          | _ => exact hr₂.elim
    | _ => exact hr.elim
end
section
variable {P : Program} {w : World} {A : Around} {E : Value → Shared → Prop} {s : Shared}
set_option maxRecDepth 100000 in
set_option maxHeartbeats 3200000 in
theorem tx_of_tuple {l : Addr} {items : Array Value} {xs : List Str} {Q : Value → Shared → Prop} (hh : A.handled = none) (hl : s.heap.IsTuple l items) (hi : PyProof.Rows.StrsAre items.toList xs) (few : xs.length + 1 < scanBound)
    (h : ∀ (h' : Heap) (tk : Nat), SetTx w h' s.heap.objs.size (gotTx xs) → (∀ b o, s.heap.get? b = some o → h'.get? b = some o) → Q (.ref s.heap.objs.size) { s with heap := h', toks := tk }) : wpAny (model P w) A (call (.type "set") [.ref l]) Q E s := by
  have nx : xs.length = items.size := by
    rw [← strs_len hi, Array.length_toList]
  obtain ⟨c, tl, hmro⟩ := PySem.F.called_set.mro
  have w1 := PySem.F.called_set.made
  have w2 := PySem.F.called_set.sub
  refine wpAny_call (codeAny_of_tree ?_)
  show wpAny _ _ (callAny (.type "set") _) _ _ _
  refine wpAny_pure ⟨Code.quiet_builtin _ (by decide +kernel), codeAny_builtin PySem.F.entry_type_call ?_⟩
  rw [Around.under_plain (weight_type_call_type "set" [.ref l] []) rfl]
  have w3 := PySem.F.called_set.notType
  have w4 := PySem.F.called_set.canCreate
  have w5 := PySem.F.typeCall_set_1 (.ref l)
  repeat (any_goals (first | assumption | wp_step))

  refine codeAny_mono (code_set_led1 (.ref l) (E := E) (Q₁ := fun obj s₁ => obj = .ref s.heap.objs.size ∧ s₁ = { s with heap := s.heap.push { cls := .type "set", dict := none, data := .set #[] 0 (.fresh 0 0 (!w.params.followText "set-order")) } }) ⟨rfl, rfl⟩) fun r s₁ hr => ?_
  cases r with
  | error e => exact hr
  | ok fl =>
    cases fl with
    | ret obj =>
      obtain ⟨rfl, rfl⟩ := hr
      have at0 : (s.heap.push { cls := .type "set", dict := none, data := .set #[] 0 (.fresh 0 0 (!w.params.followText "set-order")) }).get? s.heap.objs.size = some { cls := .type "set", dict := none, data := .set #[] 0 (.fresh 0 0 (!w.params.followText "set-order")) } := Heap.get?_push_size _ rfl
      have ty0 : Shared.TypeIs { s with heap := s.heap.push { cls := .type "set", dict := none, data := .set #[] 0 (.fresh 0 0 (!w.params.followText "set-order")) } } (.ref s.heap.objs.size) "set" := ⟨_, at0, rfl⟩
      have w6 := PySem.F.called_set.init.lookup
      have w7 := PySem.F.called_set.init.bind (.ref s.heap.objs.size)
      repeat (any_goals (first | assumption | wp_step))

      refine codeAny_mono (codeAny_call_builtin (R := wants (fun r s₂ => r = .none ∧ ∃ h' tk, s₂ = { s with heap := h', toks := tk } ∧ SetTx w h' s.heap.objs.size (gotTx xs) ∧ (∀ b o, s.heap.get? b = some o → h'.get? b = some o)) E) PySem.F.called_set.init.plain PySem.F.entry_set_init (check_set_init_1 ty0 ?_)) fun r₂ s₂ hr₂ => ?_
      · obtain ⟨ol, hol, hcl, nl, hdl⟩ := hl
        obtain ⟨ocls, odict, odata, oslots⟩ := ol
        simp only at hcl hdl
        subst hcl; subst hdl
        have hol' : (s.heap.push { cls := .type "set", dict := none, data := .set #[] 0 (.fresh 0 0 (!w.params.followText "set-order")) }).get? l = some { cls := .type "tuple", dict := odict, data := .seq items nl, slots := oslots } := Heap.get?_push_of_some _ hol
        have w8 := PySem.F.sub_tuple_set
        have w9 := PySem.F.sub_tuple_frozenset
        have w10 : (Value.type "tuple" == Value.type "dict") = false := by decide
        have hl1 : (s.heap.push { cls := .type "set", dict := none, data := .set #[] 0 (.fresh 0 0 (!w.params.followText "set-order")) }).IsTuple l items := ⟨_, hol', rfl, nl, rfl⟩
        unfold Builtin.«set.__init__» noKeywords Builtin.Frozenset.updateFrom
        generalize hPI : pyIter = PI
        wp_walk
        subst hPI

        refine wpAny_pyIter_tuple hl1 ?_
        refine wpAny_bind (wpAny_runValue ?_)
        have low : l < s.heap.objs.size := Heap.lt_size hol
        have h3 : A.in1.in1.in1.handled = none := by simp [hh]
        have sz : (s.heap.push { cls := .type "set", dict := none, data := .set #[] 0 (.fresh 0 0 (!w.params.followText "set-order")) }).objs.size = s.heap.objs.size + 1 := Heap.size_push ..
        refine tx_loop (w := w) ((Walks.tuple h3 _ l (by rw [sz]; exact Nat.ne_of_lt (Nat.lt_succ_of_lt low)) items).toS) s.heap.objs.size (fun hm => ?_) xs nx (by rw [← nx]; exact few) (fun i v hv => strs_nth hi (by rw [Array.getElem?_toList]; exact hv)) (items.size - 0) 0 _ (by omega) (Nat.zero_le _)
          ⟨⟨_, Heap.get?_push_size _ rfl, rfl, rfl⟩, (hl1.push _)⟩ (tx_fresh ?_) ?_
        · simp only [List.mem_cons, List.not_mem_nil, or_false, sz] at hm
          rcases hm with z | z
          · exact absurd z (Nat.ne_of_lt (Nat.lt_succ_self _))
          · exact absurd z (Nat.ne_of_gt low)
        · exact Heap.get?_push_of_some _ at0
        · intro s' mv hS'
          obtain ⟨h', g2, d', tk', os'⟩ := s'
          have eg : g2 = s.gens := mv.gens
          have ed : d' = s.drawn := mv.drawn
          have eo : os' = s.os := mv.os
          subst eg; subst ed; subst eo
          show wpAny _ _ _ _ _ _
          refine wpAny_pure ?_
          show wpAny _ _ (ret Value.none) _ _ _
          refine wpAny_pure ⟨rfl, h', tk', rfl, hS', fun b o e => mv.heap b o (fun hm => ?_) (Heap.get?_push_of_some _ (Heap.get?_push_of_some _ e))⟩
          have lb : b < s.heap.objs.size := Heap.lt_size e
          simp only [List.mem_cons, List.not_mem_nil, or_false, sz] at hm
          rcases hm with z | z
          · exact absurd z (Nat.ne_of_lt lb)
          · exact absurd z (Nat.ne_of_lt (Nat.lt_succ_of_lt lb))
      · cases r₂ with
        | error e => exact hr₂
        | ok fl₂ =>
          cases fl₂ with
          | ret r =>
            obtain ⟨rfl, h', tk, rfl, hS', hk'⟩ := hr₂
            repeat (any_goals (first | assumption | wp_step))
            exact h _ _ hS' hk'
          | _ => exact hr₂.elim
    | _ => exact hr.elim
end
/-! over the layer -/
def setTxO (w : World) (a : Addr) (ks : List Str) : HO := .ext fun h => SetTx w h a ks
theorem setTxO_ok {P : Program} {w : World} {H : Hp} {h : Heap} {a : Addr} {ks : List Str} (R : SetTx w h a ks) : ObjOk P w H h a (setTxO w a ks) := by
  refine ⟨R, ?_, fun h1 h2 y k => y.keep k⟩
  obtain ⟨o, _, _, _, e, _⟩ := R
  exact ⟨o, e⟩
theorem setTx_at {X : Cx} {pins : List (Addr × Obj)} {σ : L2.St} {H : Hp} {s : Shared} {a : Addr} {ks : List Str} (I : Inv X pins σ H s) (h : H a = some (setTxO X.w a ks)) : SetTx X.w s.heap a ks :=
  (show ObjOk X.prog X.w H s.heap a (setTxO X.w a ks) from I.hok a _ h).1
theorem list_of_strs {vs : List Value} (h : ∀ v ∈ vs, ∃ x t, v = Value.str x t) : ∃ xs, PyProof.Rows.StrsAre vs xs := by
  induction vs with
  | nil => exact ⟨[], .nil⟩
  | cons v vs ih =>
    obtain ⟨x, t, rfl⟩ := h v List.mem_cons_self
    obtain ⟨xs, hx⟩ := ih fun u hu => h u (List.mem_cons_of_mem _ hu)
    exact ⟨x :: xs, .cons x t hx⟩
def txOf (v : Value) : Str := match v with
  | .str k _ => k
  | _ => Str.empty
theorem strs_txOf : ∀ {vs : List Value} {xs : List Str}, PyProof.Rows.StrsAre vs xs → vs.map txOf = xs
  | _, _, .nil => rfl
  | _, _, .cons x t r => by
    rw [List.map_cons, strs_txOf r]
    rfl
section
variable {X : Cx}
def rSetTx (K : PySem.W.Frag) (w : World) : List V → Hp → VK → Prop := fun xs H Q => ∃ (l : Addr) (zs : List Str), xs = [.ref l] ∧ (SqL K H l (zs.map V.str) ∨ SqT K H l (zs.map V.str)) ∧ zs.length ≤ 1000 ∧ ∀ p, H p = none → Q (.ref p) (upd H p (setTxO w p (gotTx zs)))
theorem cr_setTx (hc : X.calm = true) : CallR X (.type "set") (rSetTx X.K X.w) := by
  intro pins s σ H xs us Q I r h
  obtain ⟨l, zs, rfl, hs, hz, q⟩ := h
  rw [Vals.ref1 r]
  have few : zs.length + 1 < scanBound := by
    unfold scanBound
    omega
  have fin : ∀ (h' : Heap) (tk : Nat), SetTx X.w h' s.heap.objs.size (gotTx zs) → (∀ b o, s.heap.get? b = some o → h'.get? b = some o) → EP X pins σ Q (.ref s.heap.objs.size) { s with heap := h', toks := tk } := fun h' tk R k =>
    ⟨.ref s.heap.objs.size, _, I.laid (a := s.heap.objs.size) (o := setTxO X.w s.heap.objs.size (gotTx zs)) (t' := tk) k (Nat.le_refl _) (setTxO_ok R), rfl, q _ (I.hok.fresh (Nat.le_refl _))⟩
  rcases hs with hs | hs
  · obtain ⟨its, rv, hl, _⟩ := I.list hs
    exact tx_of_list (items := its.toArray) (I.ok.hd hc) hl.isList (by simpa using rv.strs) few fin
  · obtain ⟨its, rv, ⟨o, e, c, n, d⟩, _⟩ := I.tuple hs
    exact tx_of_tuple (items := its.toArray) (I.ok.hd hc) ⟨o, e, c, n, d⟩ (by simpa using rv.strs) few fin
theorem cr_lenTx : CallR X (.builtin "len") (fun xs H Q => ∃ (a : Addr) (ks : List Str), xs = [.ref a] ∧ H a = some (setTxO X.w a ks) ∧ Q (.int ((ks.length : Nat) : Int)) H) := by
  intro pins s σ H xs us Q I r h
  obtain ⟨a, ks, rfl, ha, q⟩ := h
  rw [Vals.ref1 r]
  obtain ⟨o, es, ep, t, ho, hex, hd, g, pm, nd, hb, hf, hr, hl⟩ := setTx_at I ha
  have lk : es.size = ks.length := by
    rw [← Array.length_toList, ← pm.length_eq, List.length_map]
  refine call_len_set ho hex hd hf ?_ ?_
  · rw [lk] at hb ⊢
    unfold scanBound at hb
    omega
  · rw [lk]
    exact ⟨.int ((ks.length : Nat) : Int), H, I.tok _, ⟨_, rfl⟩, q⟩
def rSortTx (w : World) : List V → Hp → VK → Prop := fun vs H Q => ∃ (a : Addr) (ks : List Str), vs = [V.ref a] ∧ H a = some (setTxO w a ks) ∧ ks.length < 64 ∧
  ∀ (ys : List Str) (p : Addr), ys.Perm ks → sortedS ys = true → H p = none → Q (.ref p) (upd H p (.lst (ys.map V.str)))
theorem cr_sortTx (hc : X.calm = true) : CallR X (.builtin "sorted") (rSortTx X.w) := by
  intro pins s σ H vs us Q I r h
  obtain ⟨a, ks, rfl, ha, h64, q⟩ := h
  rw [Vals.ref1 r]
  obtain ⟨o, es, ep, t, ho, hex, hd, g, pm, nd, hb, hf, hr, hl⟩ := setTx_at I ha
  have lk : es.size = ks.length := by
    rw [← Array.length_toList, ← pm.length_eq, List.length_map]
  refine Calls.call_function_entry kind_sorted plain_sorted entry_sorted (args_sorted1 _) ?_
  unfold Builtin.«sorted»
  refine wpAny_bind (m := checkCount "sorted" 1 1 _) (wpAny_pure ?_)
  refine wpAny_bind (collect_set (A := X.A.in1) (I.ok.hd hc) ⟨o, ho, hex.1, hd⟩ hf hb hr hl fun s1 vs k1 hz g1 o1 pv => ?_)
  have lv : vs.length = ks.length := by
    rw [pv.length_eq, List.length_map, Array.length_toList]
    exact lk
  obtain ⟨xs, hxs⟩ := list_of_strs (vs := vs) fun v hv => by
    obtain ⟨e, he, z⟩ := List.mem_map.mp (pv.mem_iff.mp hv)
    obtain ⟨k, tk, h1, _⟩ := g e he
    exact ⟨k, tk, by rw [← z]; exact h1⟩
  have px : xs.Perm ks := by
    rw [← strs_txOf hxs]
    have z := pv.map txOf
    rw [List.map_map] at z
    exact z.trans pm
  refine wpAny_bind (wpAny_newList ?_ (by rw [lv, sizeLine_eq]; omega))
  have at1 : (s1.heap.push (seqObj "list" vs.toArray 0)).get? s1.heap.objs.size = some (seqObj "list" vs.toArray 0) := Heap.get?_push_size _ rfl
  refine wpAny_bind (wpAny_holding (wpAny_call_entry slot_list_sort ⟨_, at1, rfl⟩ entry_list_sort (list_sort_treeK strKind_oneLt at1 hxs.keysOf (fun v₁ v₂ rest e => keyKind_strs (by rw [← e]; exact hxs)) (by rw [lv]; exact h64) fun st' hp hs => ?_) (args_list_sort _)))
  obtain ⟨ys, b1, b2, b3⟩ := sorted_out_str hxs hp hs
  refine ⟨_, rfl, ?_⟩
  obtain ⟨c, at2⟩ := sortedHeap_at (vs := vs) (out := (arrOf st').map (·.2)) at1
  have old : ∀ b u, s.heap.get? b = some u → (sortedHeap (s1.heap.push (seqObj "list" vs.toArray 0)) s1.heap.objs.size vs ((arrOf st').map (·.2))).get? b = some u := fun b u e => by
    have z := k1 b u e
    have low := Heap.lt_size z
    rw [sortedHeap_old (Nat.ne_of_lt low) (by rw [Heap.size_push]; exact Nat.lt_succ_of_lt low)]
    exact Heap.get?_push_of_some _ z
  have ly : (ys.map V.str).length ≤ sizeLine := by
    rw [List.length_map, b2.length_eq, px.length_eq, sizeLine_eq]
    omega
  have hn : H s1.heap.objs.size = none := I.hok.fresh hz
  refine wpAny_pure ⟨_, rfl, ?_⟩
  have J : Inv X pins σ (upd H s1.heap.objs.size (.lst (ys.map V.str))) { s with heap := sortedHeap (s1.heap.push (seqObj "list" vs.toArray 0)) s1.heap.objs.size vs ((arrOf st').map (·.2)), gens := s1.gens, drawn := s1.drawn, toks := s1.toks } :=
    I.call (ch := []) (Un.laid old hz hn) (I.hok.laid old hz ⟨ly, ((arrOf st').map (·.2)).toList, c, vals_of_strs b1, at2⟩) (by rw [g1]; exact I.bare) (fun _ z => nomatch z)
  have e : ({ s1 with heap := sortedHeap (s1.heap.push (seqObj "list" vs.toArray 0)) s1.heap.objs.size vs ((arrOf st').map (·.2)) } : Shared) = { s with heap := sortedHeap (s1.heap.push (seqObj "list" vs.toArray 0)) s1.heap.objs.size vs ((arrOf st').map (·.2)), gens := s1.gens, drawn := s1.drawn, toks := s1.toks } := by
    cases s1
    cases s
    cases o1
    rfl
  show EP X pins σ Q (.ref s1.heap.objs.size) _
  rw [e]
  exact ⟨.ref _, _, J, rfl, q ys _ (b2.trans px) b3 hn⟩
end
/-! ### numbers -/
abbrev s_is_number : Stmt := top 6
abbrev N_is_number : List Str := ["thing"]
abbrev P_is_number : List Str := ["thing"]
theorem sc_is_number : FnScope N_is_number P_is_number (defScope s_is_number) := ⟨rfl, rfl, rfl, by decide +kernel, rfl, by decide +kernel, by decide +kernel⟩
def numB : PyData → Bool
  | .int i => decide (0 ≤ i)
  | _ => false
structure Nu (mg : Str → Option Value) : Prop where
  isinstance : mg "isinstance" = none
  int : mg "int" = none
  bool : mg "bool" = none
  tuple : mg "tuple" = none
  len : mg "len" = none
/-- the type of data -/
def tyD : PyData → String
  | .none => "NoneType"
  | .bool _ => "bool"
  | .int _ => "int"
  | .str _ => "str"
  | .list _ => "list"
  | .tuple _ => "tuple"
  | .dict _ => "dict"
theorem dp_tyD {K : PySem.W.Frag} {H : Hp} {v : V} {d : PyData} (h : Dp K H v d) : TyX K H v (.type (tyD d)) := by
  cases h with
  | non => exact .base .non
  | bl b => exact .base (.bl b)
  | int i => exact .base (.int i)
  | str z => exact .base (.str z)
  | lst h a => exact tyL h
  | tup h a => exact tyT h
def isT : PyData → Bool
  | .tuple _ => true
  | _ => false
def isI : PyData → Bool
  | .int _ => true
  | .bool _ => true
  | _ => false
def isB : PyData → Bool
  | .bool _ => true
  | _ => false
theorem kit_tup {K : PySem.W.Frag} {H : Hp} {v : V} {d : PyData} (h : Dp K H v d) : kitB (tyD d) "tuple" = some (isT d) := by
  cases h with
  | non => exact (show kitB "NoneType" "tuple" = some false by decide +kernel)
  | bl _ => exact (show kitB "bool" "tuple" = some false by decide +kernel)
  | int _ => exact (show kitB "int" "tuple" = some false by decide +kernel)
  | str _ => exact (show kitB "str" "tuple" = some false by decide +kernel)
  | lst _ _ => exact (show kitB "list" "tuple" = some false by decide +kernel)
  | tup _ _ => exact (show kitB "tuple" "tuple" = some true by decide +kernel)
theorem kit_intD {K : PySem.W.Frag} {H : Hp} {v : V} {d : PyData} (h : Dp K H v d) : kitB (tyD d) "int" = some (isI d) := by
  cases h with
  | non => exact (show kitB "NoneType" "int" = some false by decide +kernel)
  | bl _ => exact (show kitB "bool" "int" = some true by decide +kernel)
  | int _ => exact (show kitB "int" "int" = some true by decide +kernel)
  | str _ => exact (show kitB "str" "int" = some false by decide +kernel)
  | lst _ _ => exact (show kitB "list" "int" = some false by decide +kernel)
  | tup _ _ => exact (show kitB "tuple" "int" = some false by decide +kernel)
theorem kit_boolD {K : PySem.W.Frag} {H : Hp} {v : V} {d : PyData} (h : Dp K H v d) : kitB (tyD d) "bool" = some (isB d) := by
  cases h with
  | non => exact (show kitB "NoneType" "bool" = some false by decide +kernel)
  | bl _ => exact (show kitB "bool" "bool" = some true by decide +kernel)
  | int _ => exact (show kitB "int" "bool" = some false by decide +kernel)
  | str _ => exact (show kitB "str" "bool" = some false by decide +kernel)
  | lst _ _ => exact (show kitB "list" "bool" = some false by decide +kernel)
  | tup _ _ => exact (show kitB "tuple" "bool" = some false by decide +kernel)
def spIsNum (K : PySem.W.Frag) : Sp := fun vs H Q _ => ∃ (v : V) (d : PyData), vs = [v] ∧ Dp K H v d ∧ Q (.bl (numB d)) H
section
variable {P : Program} {w : World} {K : PySem.W.Frag} {mg : Str → Option Value} {base : Heap}
theorem ok_is_number (T : Nu mg) (D : Dd K mg "is_number" s_is_number P_is_number) : C8.Cal P w K mg base 1 "is_number" (spIsNum K) [] := by
  refine D.cal sc_is_number (fun vs H Q E h => ?_) (fun f cdv A outer s H vs Q E hr h => ?_)
  · obtain ⟨v, d, rfl, _⟩ := h
    rfl
  · obtain ⟨v, d, rfl, hd, q⟩ := h
    refine ⟨_, (pss_one (ps_ret (pe_and (pe_callB call_isi (by rfl) T.isinstance (by decide +kernel) (pa_cons (pv 0) (pa_cons (pe_bltn (v := .ty "int") rfl T.int (by decide +kernel) rfl) pa_nil))) (pe_and (pe_not (pe_callB call_isi (by rfl) T.isinstance (by decide +kernel) (pa_cons (pv 0) (pa_cons (pe_bltn (v := .ty "bool") rfl T.bool (by decide +kernel) rfl) pa_nil)))) (pe_one (pe_cmpR op_ge (pv 0) pe_int (nomark _))))))), ?_⟩
    refine ⟨_, rfl, v, .ty "int", .type (tyD d), .type "int", _, rfl, .ty "int", dp_tyD hd, kit_ty (kit_intD hd), _, rfl, ?_⟩
    cases hd with
    | int i =>
      refine iteT ?_
      refine ⟨_, rfl, .int i, .ty "bool", .type "int", .type "bool", false, rfl, .ty "bool", .base (.int i), kit_ty (by decide +kernel), _, rfl, _, rfl, iteT ?_⟩
      exact ⟨_, rfl, _, _, rfl, rfl, q⟩
    | bl b =>
      refine iteT ?_
      exact ⟨_, rfl, .bl b, .ty "bool", .type "bool", .type "bool", true, rfl, .ty "bool", .base (.bl b), kit_ty (by decide +kernel), _, rfl, _, rfl, iteF q⟩
    | non => exact iteF q
    | str z => exact iteF q
    | lst h a => exact iteF q
    | tup h a => exact iteF q
end
/-! ### what the words of a grammar's check answer, where all is well -/
abbrev s_is_worth : Stmt := top 7
abbrev N_is_worth : List Str := ["thing"]
abbrev P_is_worth : List Str := ["thing"]
theorem sc_is_worth : FnScope N_is_worth P_is_worth (defScope s_is_worth) := ⟨rfl, rfl, rfl, by decide +kernel, rfl, by decide +kernel, by decide +kernel⟩
abbrev s_is_name : Stmt := top 8
abbrev N_is_name : List Str := ["thing", "sign"]
abbrev P_is_name : List Str := ["thing"]
theorem sc_is_name : FnScope N_is_name P_is_name (defScope s_is_name) := ⟨rfl, rfl, rfl, by decide +kernel, rfl, by decide +kernel, by decide +kernel⟩
abbrev s_is_tuple_of : Stmt := top 9
abbrev N_is_tuple_of : List Str := ["thing", "many"]
abbrev P_is_tuple_of : List Str := ["thing", "many"]
theorem sc_is_tuple_of : FnScope N_is_tuple_of P_is_tuple_of (defScope s_is_tuple_of) := ⟨rfl, rfl, rfl, by decide +kernel, rfl, by decide +kernel, by decide +kernel⟩
abbrev s_is_op : Stmt := top 17
abbrev N_is_op : List Str := ["thing"]
abbrev P_is_op : List Str := ["thing"]
theorem sc_is_op : FnScope N_is_op P_is_op (defScope s_is_op) := ⟨rfl, rfl, rfl, by decide +kernel, rfl, by decide +kernel, by decide +kernel⟩
abbrev s_parts_of : Stmt := top 18
abbrev N_parts_of : List Str := ["op"]
abbrev P_parts_of : List Str := ["op"]
theorem sc_parts_of : FnScope N_parts_of P_parts_of (defScope s_parts_of) := ⟨rfl, rfl, rfl, by decide +kernel, rfl, by decide +kernel, by decide +kernel⟩
abbrev s_op_let : Stmt := top 19
abbrev N_op_let : List Str := ["op", "cap"]
abbrev P_op_let : List Str := ["op", "cap"]
theorem sc_op_let : FnScope N_op_let P_op_let (defScope s_op_let) := ⟨rfl, rfl, rfl, by decide +kernel, rfl, by decide +kernel, by decide +kernel⟩
abbrev s_rows_of : Stmt := top 25
abbrev N_rows_of : List Str := ["part", "rows"]
abbrev P_rows_of : List Str := ["part", "rows"]
theorem sc_rows_of : FnScope N_rows_of P_rows_of (defScope s_rows_of) := ⟨rfl, rfl, rfl, by decide +kernel, rfl, by decide +kernel, by decide +kernel⟩
abbrev s_cap_in : Stmt := top 26
abbrev N_cap_in : List Str := ["cap"]
abbrev P_cap_in : List Str := ["cap"]
theorem sc_cap_in : FnScope N_cap_in P_cap_in (defScope s_cap_in) := ⟨rfl, rfl, rfl, by decide +kernel, rfl, by decide +kernel, by decide +kernel⟩
def LETS : Str := "abcdefghijklmnopqrstuvwxyz"
theorem lets_has (c : Nat) : decide (c ∈ LETS.cps.toList) = isLet c := by
  have e : LETS.cps.toList = [97, 98, 99, 100, 101, 102, 103, 104, 105, 106, 107, 108, 109, 110, 111, 112, 113, 114, 115, 116, 117, 118, 119, 120, 121, 122] := by decide +kernel
  rw [e]
  unfold isLet
  rw [Bool.eq_iff_iff]
  simp only [List.mem_cons, List.not_mem_nil, or_false, decide_eq_true_eq, Bool.and_eq_true]
  omega
inductive Op where
  | copy | plus | less | times | over | rest | least | most | same | under | pick
  deriving DecidableEq
def Op.w : Op → Str
  | .copy => "copy"
  | .plus => "plus"
  | .less => "less"
  | .times => "times"
  | .over => "over"
  | .rest => "rest"
  | .least => "least"
  | .most => "most"
  | .same => "same"
  | .under => "under"
  | .pick => "pick"
def Op.n : Op → Nat
  | .copy => 1
  | .pick => 3
  | _ => 2
def fineb : Op → Bool
  | .copy => true
  | .plus => true
  | .least => true
  | .most => true
  | _ => false
theorem in_let (o : Op) : inV (.str o.w) [.str "copy", .str "plus", .str "least", .str "most"] = fineb o := by cases o <;> decide +kernel
structure DdK (K : PySem.W.Frag) (mg : Str → Option Value) (x : Str) (st : Stmt) (kws : List (Str × V)) : Prop where
  ex : ∃ (f : Addr) (fd : FuncData), FunD K x x (defArgs st) (defBody st) (defScope st) [] kws f fd ∧ mg x = some (.ref f)
/-- the table of ops, in the written part -/
structure PartsAt (K : PySem.W.Frag) (w : World) (PD : Addr) : Prop where
  kd : ∃ es n, KDict K w PD es n
  ops : ∀ o : Op, KDct K w PD o.w (.int o.n) ∧ ∃ u, PySem.W.nsIn K PD o.w = some (some u)
structure Gb (mg : Str → Option Value) : Prop where
  isinstance : mg "isinstance" = none
  int : mg "int" = none
  bool : mg "bool" = none
  str : mg "str" = none
  tuple : mg "tuple" = none
  list : mg "list" = none
  len : mg "len" = none
  all : mg "all" = none
  set : mg "set" = none
  sorted : mg "sorted" = none
  enumerate : mg "enumerate" = none
structure Gg (mg : Str → Option Value) (PD LA : Addr) : Prop where
  bound : ∃ u, mg "BOUND" = some u ∧ RelV (.int 1000000) u
  signs : ∃ u, mg "SIGNS" = some u ∧ RelV (.int 6) u
  letters : ∃ u, mg "LETTERS" = some u ∧ RelV (.str LETS) u
  cap : ∃ u, mg "CAP" = some u ∧ RelV (.int 9) u
  sorts : ∃ u, mg "SORTS" = some u ∧ RelV (.int 4) u
  makings : ∃ u, mg "MAKINGS" = some u ∧ RelV (.int 8) u
  each : ∃ u, mg "EACH" = some u ∧ RelV (.int 2) u
  parts : mg "PARTS" = some (.ref PD)
  let_ : mg "LET" = some (.ref LA)
def worthB : PyData → Bool
  | .int i => decide (0 ≤ i) && decide (i < 1000000)
  | _ => false
def tupN (n : Nat) : PyData → Bool
  | .tuple ds => decide (ds.length = n)
  | _ => false
def spWorth (K : PySem.W.Frag) : Sp := fun vs H Q _ => ∃ (v : V) (d : PyData), vs = [v] ∧ Dp K H v d ∧ Q (.bl (worthB d)) H
def spNameT : Sp := fun vs H Q _ => ∃ w : List Nat, vs = [.str (SX.S w)] ∧ NmOk w ∧ ∀ H', Same H H' → Q (.bl true) H'
def spTupOf (K : PySem.W.Frag) : Sp := fun vs H Q _ => ∃ (v : V) (d : PyData) (n : Nat), vs = [v, .int n] ∧ Dp K H v d ∧ Q (.bl (tupN n d)) H
def spOpT : Sp := fun vs H Q _ => ∃ o : Op, vs = [.str o.w] ∧ Q (.bl true) H
def spPartsT : Sp := fun vs H Q _ => ∃ o : Op, vs = [.str o.w] ∧ Q (.int (o.n : Nat)) H
def spLetT : Sp := fun vs H Q _ => ∃ (o : Op) (c : Nat), vs = [.str o.w, .int c] ∧ (c = 0 ∨ fineb o = true) ∧ Q (.bl true) H
def spRows : Sp := fun vs H Q _ => ∃ (z : Str) (l : Addr) (xs : List V), vs = [.str z, .ref l] ∧ H l = some (.lst xs) ∧ Q (.ref l) H
def spCap : Sp := fun vs H Q _ => ∃ c : Nat, vs = [.int c] ∧ c ≤ 9 ∧ Q (.int c) H
section
variable {P : Program} {w : World} {K : PySem.W.Frag} {mg : Str → Option Value} {base : Heap} {PD LA : Addr}
theorem ok_is_worth (T : Gb mg) (G : Gg mg PD LA) (cis_number : C8.Cal P w K mg base 1 "is_number" (spIsNum K) []) (D : Dd K mg "is_worth" s_is_worth P_is_worth) : C8.Cal P w K mg base 2 "is_worth" (spWorth K) [] := by
  refine D.cal sc_is_worth (fun vs H Q E h => ?_) (fun f cdv A outer s H vs Q E hr h => ?_)
  · obtain ⟨v, d, rfl, _⟩ := h
    rfl
  · obtain ⟨v, d, rfl, hd, q⟩ := h
    refine ⟨_, (pss_one (ps_ret (pe_and (C8.pe_c cis_number hr (by decide) (by rfl) (pa_cons (pv 0) pa_nil)) (pe_one (pe_cmpR op_lt (pv 0) (C8.pe_gc (v := .int 1000000) rfl G.bound) (nomark _)))))), ?_⟩
    refine ⟨_, rfl, v, d, rfl, hd, _, rfl, ?_⟩
    cases hd with
    | int i =>
      by_cases h0 : 0 ≤ i
      · refine ifT (decide_eq_true h0) ?_
        refine ⟨_, rfl, _, _, rfl, rfl, ?_⟩
        have e : worthB (.int i) = decide (i < 1000000) := by
          show (decide (0 ≤ i) && decide (i < 1000000)) = _
          rw [decide_eq_true h0]
          rfl
        rw [e] at q
        exact q
      · refine ifF (decide_eq_false h0) ?_
        have e : worthB (.int i) = false := by
          show (decide (0 ≤ i) && decide (i < 1000000)) = false
          rw [decide_eq_false h0]
          rfl
        rw [e] at q
        exact q
    | bl b => exact iteF q
    | non => exact iteF q
    | str z => exact iteF q
    | lst h a => exact iteF q
    | tup h a => exact iteF q
theorem ok_is_nameT (T : Gb mg) (G : Gg mg PD LA) (D : Dd K mg "is_name" s_is_name P_is_name) : C8.Cal P w K mg base 1 "is_name" spNameT [] := by
  refine D.cal sc_is_name (fun vs H Q E h => ?_) (fun f cdv A outer s H vs Q E hr h => ?_)
  · obtain ⟨w, rfl, _⟩ := h
    rfl
  · obtain ⟨w, rfl, ⟨⟨h2, h3, hlet⟩, h1⟩, q⟩ := h
    have hl2 : (SX.S w).length ≤ sizeLine := by
      rw [SX.S_len]
      exact Nat.le_trans h3 (by decide)
    refine ⟨_, (pss_cons (ps_if (PW.pt (pw_or (pt_not (pt_val (pe_callB call_isi (by rfl) T.isinstance (by decide +kernel) (pa_cons (pv 0) (pa_cons (pe_bltn (v := .ty "str") rfl T.str (by decide +kernel) rfl) pa_nil))))) (pw_or (pt_cmpR op_eq (pv 0) pe_str (nomark _)) (pw_or1 (pt_not (pt_chain op_le op_le pe_int (pe_callB call_len_str (by rfl) T.len PySem.boot_len (pa_cons (pv 0) pa_nil)) (C8.pe_gc (v := .int 6) rfl G.signs)))))))
          (pss_one (ps_ret pe_bl))
          pss_nil)
        (pss_one (ps_ret (pe_callB (cr_all rfl) (by rfl) T.all (by decide +kernel) (pa_cons (pe_lc (own := [("sign", 1)]) (by exact rfl) sc_is_name.nd (pi_str (pv 0)) (blkOk_by (own := [("sign", 1)]) (N := N_is_name) (sc := defScope s_is_name) (by decide +kernel)) (fun _ _ _ _ _ => (pg_name (i := 1) sc_is_name.nd rfl (Or.inl rfl))) (fun _ _ _ _ _ => pts_nil) (fun _ _ _ _ _ => (pe_cmpR op_in_sign (pv 1) (C8.pe_gc (v := .str LETS) rfl G.letters) (by with_unfolding_all rfl)))) pa_nil))))), ?_⟩
    refine ⟨_, rfl, .str (SX.S w), .ty "str", .type "str", .type "str", true, rfl, .ty "str", .base (.str _), kit_ty (by decide +kernel), _, rfl, iteF ?_⟩
    refine ⟨_, rfl, rfl, _, rfl, ?_⟩
    rw [s_own]
    refine ifF (decide_eq_false (fun z => h1 (SX.S_inj (V.str.inj z)))) ?_
    refine ⟨_, rfl, _, rfl, hl2, _, _, rfl, rfl, _, rfl, ifT (decide_eq_true (by rw [SX.S_len]; omega)) ?_⟩
    refine ⟨_, _, rfl, rfl, _, rfl, ?_⟩
    rw [decide_eq_true (show ((SX.S w).length : Int) ≤ 6 by rw [SX.S_len]; omega)]
    refine iteF ?_
    refine ⟨_, rfl, _, rfl, fun D nD => ?_⟩
    refine lc_it walk_str (fun j H' => Same H H' ∧ H' D = some (.lst (((w.take j).map isLet).map V.bl))) ⟨same_upd nD, upd_same⟩ (fun _ _ _ _ => trivial) ?_ ?_
    · rintro j v H3 H4 hj ⟨sm, hD⟩ ⟨rfl, c, hc, rfl⟩
      have hc : w[j]? = some c := by
        have : w.toArray[j]? = some c := hc
        rw [List.getElem?_toArray] at this
        exact this
      refine ⟨rfl, yesT ?_⟩
      refine ⟨_, rfl, c, LETS, rfl, rfl, ?_⟩
      rw [lets_has]
      refine ⟨_, hD, by rw [List.length_map, List.length_map, List.length_take]; exact small1000 (by omega), Same.at_ sm nD, ?_⟩
      rw [upd_same, List.take_add_one, hc]
      simp
    · rintro H3 ⟨sm, hD⟩
      have e0 : (SX.S w).cps.size = w.length := List.size_toArray
      rw [e0, List.take_length] at hD
      refine ⟨D, _, rfl, SqL.of hD, ?_⟩
      have e : (w.map isLet).all id = true := by
        rw [List.all_map]
        exact List.all_eq_true.mpr hlet
      rw [e]
      exact q _ sm
theorem ok_is_tuple_of (T : Gb mg) (D : Dd K mg "is_tuple_of" s_is_tuple_of P_is_tuple_of) : C8.Cal P w K mg base 1 "is_tuple_of" (spTupOf K) [] := by
  refine D.cal sc_is_tuple_of (fun vs H Q E h => ?_) (fun f cdv A outer s H vs Q E hr h => ?_)
  · obtain ⟨v, d, n, rfl, _⟩ := h
    rfl
  · obtain ⟨v, d, n, rfl, hd, q⟩ := h
    refine ⟨_, (pss_one (ps_ret (pe_and (pe_callB call_isi (by rfl) T.isinstance (by decide +kernel) (pa_cons (pv 0) (pa_cons (pe_bltn (v := .ty "tuple") rfl T.tuple (by decide +kernel) rfl) pa_nil))) (pe_one (pe_cmpR op_eq (pe_callB call_len_seq (by rfl) T.len PySem.boot_len (pa_cons (pv 0) pa_nil)) (pv 1) (nomark _)))))), ?_⟩
    refine ⟨_, rfl, v, .ty "tuple", .type (tyD d), .type "tuple", _, rfl, .ty "tuple", dp_tyD hd, kit_ty (kit_tup hd), _, rfl, ?_⟩
    cases hd with
    | tup h a =>
      refine iteT ?_
      refine ⟨_, rfl, _, _, rfl, .inr h, _, rfl, rfl, ?_⟩
      rw [dpAll_len a]
      rename_i ds
      have e : tupN n (.tuple ds) = decide (V.int ((ds.length : Nat) : Int) = V.int (n : Int)) := by
        show decide (ds.length = n) = _
        rw [Bool.eq_iff_iff, decide_eq_true_eq, decide_eq_true_eq]
        exact ⟨fun z => by rw [z], fun z => Int.ofNat.inj (V.int.inj z)⟩
      rw [e] at q
      exact q
    | bl b => exact iteF q
    | non => exact iteF q
    | str z => exact iteF q
    | int z => exact iteF q
    | lst h a => exact iteF q
theorem ok_is_op (T : Gb mg) (G : Gg mg PD LA) (A : PartsAt K w PD) (D : Dd K mg "is_op" s_is_op P_is_op) : C8.Cal P w K mg base 1 "is_op" spOpT [] := by
  obtain ⟨es, n, kd⟩ := A.kd
  refine D.cal sc_is_op (fun vs H Q E h => ?_) (fun f cdv A' outer s H vs Q E hr h => ?_)
  · obtain ⟨o, rfl, _⟩ := h
    rfl
  · obtain ⟨o, rfl, q⟩ := h
    refine ⟨_, (pss_one (ps_ret (pe_and (pe_callB call_isi (by rfl) T.isinstance (by decide +kernel) (pa_cons (pv 0) (pa_cons (pe_bltn (v := .ty "str") rfl T.str (by decide +kernel) rfl) pa_nil))) (pe_one (pe_cmpR (op_in_kd kd) (pv 0) (pe_glob (v := .ref PD) rfl G.parts rfl) (by with_unfolding_all rfl)))))), ?_⟩
    refine ⟨_, rfl, .str o.w, .ty "str", .type "str", .type "str", true, rfl, .ty "str", .base (.str o.w), kit_ty (by decide +kernel), true, rfl, iteT ?_⟩
    obtain ⟨u, hu⟩ := (A.ops o).2
    exact ⟨_, rfl, o.w, some u, rfl, rfl, hu, q⟩
theorem ok_parts_of (G : Gg mg PD LA) (A : PartsAt K w PD) (cis_op : C8.Cal P w K mg base 1 "is_op" spOpT []) (D : Dd K mg "parts_of" s_parts_of P_parts_of) : C8.Cal P w K mg base 2 "parts_of" spPartsT [] := by
  refine D.cal sc_parts_of (fun vs H Q E h => ?_) (fun f cdv A' outer s H vs Q E hr h => ?_)
  · obtain ⟨o, rfl, _⟩ := h
    rfl
  · obtain ⟨o, rfl, q⟩ := h
    refine ⟨_, (pss_cons (ps_if (pt_not (pt_val (C8.pe_c cis_op hr (by decide) (by rfl) (pa_cons (pv 0) pa_nil))))
          (pss_one ps_never)
          pss_nil)
        (pss_one (ps_ret (pe_ix ix_kdict (pe_glob (v := .ref PD) rfl G.parts rfl) (pv 0) (fun _ _ => rfl))))), ?_⟩
    refine ⟨_, rfl, o, rfl, _, rfl, iteF ?_⟩
    exact ⟨_, rfl, PD, _, _, rfl, rfl, (A.ops o).1, q⟩
theorem ok_op_letT (G : Gg mg PD LA) (hL : ∀ H, SqT K H LA [.str "copy", .str "plus", .str "least", .str "most"]) (cis_op : C8.Cal P w K mg base 1 "is_op" spOpT []) (D : DdK K mg "op_let" s_op_let [("cap", .int 0)]) : KCal P w K mg base 2 "op_let" spLetT 1 ["cap"] (fun vs zs => vs ++ zs) := by
  obtain ⟨f, fd, F, g⟩ := D.ex
  have ok : FnOk P w K mg base CX0 2 f fd P_op_let spLetT := by
    refine F.ok sc_op_let (fun vs H Q E h => ?_) (fun cdv A outer s H vs Q E hr h => ?_)
    · obtain ⟨o, c, rfl, _⟩ := h
      rfl
    · obtain ⟨o, c, rfl, hc, q⟩ := h
      refine ⟨_, (pss_cons (ps_if (pt_cmpR op_eq (pv 1) pe_int (nomark _))
            (pss_one (ps_ret (C8.pe_c cis_op hr (by decide) (by rfl) (pa_cons (pv 0) pa_nil))))
            pss_nil)
          (pss_one (ps_ret (pe_cmpR op_in_seq (pv 0) (pe_glob (v := .ref LA) rfl G.let_ rfl) (by with_unfolding_all rfl))))), ?_⟩
      by_cases e : c = 0
      · subst e
        refine ⟨_, rfl, rfl, _, rfl, ifT rfl ?_⟩
        exact ⟨_, rfl, o, rfl, q⟩
      · refine ⟨_, rfl, rfl, _, rfl, ifF (by rw [decide_eq_false]; intro z; have := V.int.inj z; omega) ?_⟩
        refine ⟨_, rfl, LA, _, rfl, .inr (hL H), rfl, rfl, ?_⟩
        show Q (.bl (inV (.str o.w) [.str "copy", .str "plus", .str "least", .str "most"])) H
        rw [in_let, hc.resolve_left e]
        exact q
  have hk1 := kbindsN (ps := P_op_let) F 1 ["cap"] (fun us ws => us ++ ws) (fun h2 h3 => Vals.append h2 h3) (fun kV doc pm an cdv ct us ws hl hw => match us, ws, hl, hw with
    | [_], [_], _, _ => rfl)
  exact ⟨f, fd, _, _, ok, g, F.kp, hk1⟩
theorem ok_rows_of (T : Gb mg) (D : Dd K mg "rows_of" s_rows_of P_rows_of) : C8.Cal P w K mg base 1 "rows_of" spRows [] := by
  refine D.cal sc_rows_of (fun vs H Q E h => ?_) (fun f cdv A outer s H vs Q E hr h => ?_)
  · obtain ⟨z, l, xs, rfl, _⟩ := h
    rfl
  · obtain ⟨z, l, xs, rfl, hl, q⟩ := h
    refine ⟨_, (pss_cons (ps_if (pt_not (pt_val (pe_callB call_isi (by rfl) T.isinstance (by decide +kernel) (pa_cons (pv 1) (pa_cons (pe_bltn (v := .ty "list") rfl T.list (by decide +kernel) rfl) pa_nil)))))
          (pss_one ps_never)
          pss_nil)
        (pss_one (ps_ret (pv 1)))), ?_⟩
    refine ⟨_, rfl, .ref l, .ty "list", .type "list", .type "list", true, rfl, .ty "list", tyL (SqL.of hl), kit_ty (by decide +kernel), _, rfl, iteF ?_⟩
    exact ⟨_, rfl, q⟩
theorem ok_cap_in (T : Gb mg) (G : Gg mg PD LA) (cis_number : C8.Cal P w K mg base 1 "is_number" (spIsNum K) []) (D : Dd K mg "cap_in" s_cap_in P_cap_in) : C8.Cal P w K mg base 2 "cap_in" spCap [] := by
  refine D.cal sc_cap_in (fun vs H Q E h => ?_) (fun f cdv A outer s H vs Q E hr h => ?_)
  · obtain ⟨c, rfl, _⟩ := h
    rfl
  · obtain ⟨c, rfl, hc, q⟩ := h
    refine ⟨_, (pss_cons (ps_if (PW.pt (pw_or (pt_not (pt_val (C8.pe_c cis_number hr (by decide) (by rfl) (pa_cons (pv 0) pa_nil)))) (pw_or1 (pt_cmpR op_gt (pv 0) (C8.pe_gc (v := .int 9) rfl G.cap) (nomark _)))))
          (pss_one ps_never)
          pss_nil)
        (pss_one (ps_ret (pv 0)))), ?_⟩
    refine ⟨_, rfl, _, .int c, rfl, .int _, _, rfl, ?_⟩
    refine ifF (by show (!decide ((0 : Int) ≤ (c : Int))) = false; rw [decide_eq_true (by omega)]; rfl) ?_
    refine ⟨_, rfl, _, _, rfl, rfl, _, rfl, ?_⟩
    refine ifF (decide_eq_false (show ¬ (9 : Int) < (c : Int) by omega)) ?_
    exact ⟨_, rfl, q⟩
end
abbrev s_are_names : Stmt := top 27
abbrev N_are_names : List Str := ["thing", "part"]
abbrev P_are_names : List Str := ["thing"]
theorem sc_are_names : FnScope N_are_names P_are_names (defScope s_are_names) := ⟨rfl, rfl, rfl, by decide +kernel, rfl, by decide +kernel, by decide +kernel⟩
abbrev s_sort_stands : Stmt := top 28
abbrev N_sort_stands : List Str := ["row", "sorts", "sort", "downs", "ups"]
abbrev P_sort_stands : List Str := ["row", "sorts"]
theorem sc_sort_stands : FnScope N_sort_stands P_sort_stands (defScope s_sort_stands) := ⟨rfl, rfl, rfl, by decide +kernel, rfl, by decide +kernel, by decide +kernel⟩
abbrev s_sorts_in : Stmt := top 29
abbrev N_sorts_in : List Str := ["rows", "sorts", "number", "row"]
abbrev P_sorts_in : List Str := ["rows"]
theorem sc_sorts_in : FnScope N_sorts_in P_sorts_in (defScope s_sorts_in) := ⟨rfl, rfl, rfl, by decide +kernel, rfl, by decide +kernel, by decide +kernel⟩
theorem sqT_s {K : PySem.W.Frag} {H H' : Hp} {a : Addr} {xs : List V} (s : Same H H') (h : SqT K H a xs) : SqT K H' a xs := KeepT.seqT (KeepT.of s) h
/-- a table of rows -/
def Tab (K : PySem.W.Frag) (H : Hp) (kvs : List (Key × V)) (ts : List T3) : Prop := Paired (fun kv t => kv.1 = kS t.k ∧ Dp K H kv.2 t.r) kvs ts
theorem Tab.len {K : PySem.W.Frag} {H : Hp} {kvs : List (Key × V)} {ts : List T3} (h : Tab K H kvs ts) : kvs.length = ts.length := paired_len h
theorem Tab.none {K : PySem.W.Frag} {H : Hp} {k : List Nat} : ∀ {kvs : List (Key × V)} {ts : List T3}, Tab K H kvs ts → k ∉ ts.map T3.k → valV kvs (kS k) = none
  | _, _, .nil, _ => rfl
  | _, _, .cons a r, h => by
    rw [List.map_cons, List.mem_cons] at h
    rw [valV_neg (fun z => h (.inl (kS_inj (z.symm.trans a.1))))]
    exact Tab.none r fun z => h (.inr z)
theorem Tab.val {K : PySem.W.Frag} {H : Hp} {t : T3} : ∀ {kvs : List (Key × V)} {ts : List T3}, Tab K H kvs ts → (ts.map T3.k).Nodup → t ∈ ts → ∃ v, valV kvs (kS t.k) = some v ∧ Dp K H v t.r
  | _, _, .nil, _, h => nomatch h
  | _, _, .cons (a := kv) (b := t0) a r, hn, h => by
    rw [List.map_cons, List.nodup_cons] at hn
    rcases List.mem_cons.mp h with rfl | h
    · exact ⟨_, valV_pos a.1, a.2⟩
    · rw [valV_neg (fun z => hn.1 (by rw [← kS_inj (z.symm.trans a.1)]; exact List.mem_map_of_mem h))]
      exact Tab.val r hn.2 h
theorem Tab.any {K : PySem.W.Frag} {H : Hp} {k : List Nat} : ∀ {kvs : List (Key × V)} {ts : List T3}, Tab K H kvs ts → k ∉ ts.map T3.k → (kvs.any fun kv => decide (kv.1 = kS k)) = false
  | _, _, .nil, _ => rfl
  | _, _, .cons a r, h => by
    rw [List.map_cons, List.mem_cons] at h
    rw [List.any_cons, decide_eq_false (fun z => h (.inl (kS_inj (z.symm.trans a.1))))]
    exact Tab.any r fun z => h (.inr z)
theorem Tab.put {K : PySem.W.Frag} {H : Hp} {t : T3} {kvs : List (Key × V)} {ts : List T3} {v : V} (h : Tab K H kvs ts) (hn : t.k ∉ ts.map T3.k) (hv : Dp K H v t.r) : Tab K H (putK kvs (kS t.k) v) (ts ++ [t]) := by
  unfold putK
  rw [h.any hn]
  exact paired_snoc h ⟨rfl, hv⟩
theorem Tab.keep {K : PySem.W.Frag} {H H' : Hp} (k : KeepT H H') {kvs : List (Key × V)} {ts : List T3} (h : Tab K H kvs ts) (hi : ∀ t ∈ ts, imm t.r = true) : Tab K H' kvs ts := by
  unfold Tab at *
  induction h with
  | nil => exact .nil
  | cons a r ih => exact .cons ⟨a.1, dp_imm k a.2 (hi _ (List.mem_cons_self ..))⟩ (ih fun t ht => hi t (List.mem_cons_of_mem _ ht))
theorem sT_imm (r : SRow) : imm (sT r).r = true := up_imm r
theorem mT_imm (r : MRow) : imm (mT r).r = true := by
  show (true && (immAll (r.pt.map strD) && true)) = true
  rw [immAll_map strD_imm]
  rfl
/-- a row of a sort on the heap -/
theorem s_at {K : PySem.W.Frag} {H : Hp} {v : V} {r : SRow} (h : Dp K H v r.d) : ∃ q t1 t2, v = .ref q ∧ SqT K H q [.str (SX.S r.nm), .ref t1, .ref t2] ∧ SqT K H t1 (nmV r.dn) ∧ SqT K H t2 (nmV r.up) := by
  obtain ⟨q, v1, v2, e, hq, h1, h2⟩ := t3_at (t := sT r) h
  cases h1 with
  | tup a1 b1 =>
    cases h2 with
    | tup a2 b2 =>
      rw [names_of b1] at a1
      rw [names_of b2] at a2
      exact ⟨q, _, _, e, hq, a1, a2⟩
theorem gotTx_nd {xs : List Str} (h : xs.Nodup) : (gotTx xs).length = xs.length := ((List.perm_ext_iff_of_nodup (gotTx_nodup xs) h).mpr fun a => gotTx_mem).length_eq
theorem nodup_S {ws : List (List Nat)} (h : ws.Nodup) : (ws.map SX.S).Nodup := by
  induction ws with
  | nil => exact List.nodup_nil
  | cons u us ih =>
    rw [List.nodup_cons] at h
    rw [List.map_cons, List.nodup_cons]
    refine ⟨fun z => ?_, ih h.2⟩
    obtain ⟨x, hx, e⟩ := List.mem_map.mp z
    exact h.1 (SX.S_inj e ▸ hx)
/-- a row's name isn't told before -/
theorem new_name {α : Type} {f : α → List Nat} {rs : List α} {r : α} {j : Nat} (hn : (rs.map f).Nodup) (h : rs[j]? = some r) : f r ∉ (rs.take j).map f := by
  intro z
  obtain ⟨r', hr', e⟩ := List.mem_map.mp z
  have hsp : rs = rs.take j ++ r :: rs.drop (j + 1) := by
    obtain ⟨hj, e1⟩ := List.getElem?_eq_some_iff.mp h
    rw [← e1, ← List.drop_eq_getElem_cons hj, List.take_append_drop]
  rw [hsp, List.map_append, List.map_cons] at hn
  have hd := (List.nodup_append.mp hn).2.2
  exact hd (f r') (List.mem_map_of_mem hr') (f r) (List.mem_cons_self ..) e
theorem row_of {α : Type} {K : PySem.W.Frag} {H : Hp} {f : α → PyData} {sv : List V} {rs : List α} {j : Nat} {x : V} (h : DpAll K H sv (rs.map f)) (hx : sv[j]? = some x) : ∃ r, rs[j]? = some r ∧ Dp K H x (f r) := by
  obtain ⟨dd, hdd, hxd⟩ := dpAll_at h hx
  rw [List.getElem?_map] at hdd
  cases e : rs[j]? with
  | none => rw [e] at hdd; cases hdd
  | some r =>
    rw [e] at hdd
    cases hdd
    exact ⟨r, rfl, hxd⟩
def spAreN (K : PySem.W.Frag) : Sp := fun vs H Q _ => ∃ (q : Addr) (ws : List (List Nat)), vs = [.ref q] ∧ SqT K H q (nmV ws) ∧ ws.length ≤ 2 ∧ (∀ w ∈ ws, NmOk w) ∧ ∀ H', Same H H' → Q (.bl true) H'
def spSortSt (K : PySem.W.Frag) : Sp := fun vs H Q _ => ∃ (rv : V) (sd : Addr) (r : SRow) (kvs : List (Key × V)), vs = [rv, .ref sd] ∧ Dp K H rv r.d ∧ SOk r ∧ H sd = some (.dK kvs) ∧ kvs.length < 4 ∧ valV kvs (kS r.nm) = none ∧ ∀ H', Same H H' → Q (.bl true) H'
def spSortsIn (K : PySem.W.Frag) : Sp := fun vs H Q _ => ∃ (l : Addr) (sv : List V) (rs : List SRow), vs = [.ref l] ∧ H l = some (.lst sv) ∧ DpAll K H sv (rs.map SRow.d) ∧ SortsOk rs ∧
  ∀ (H' : Hp) (d : Addr) (kvs : List (Key × V)), Same H H' → H d = none → H' d = some (.dK kvs) → Tab K H' kvs (rs.map sT) → Q (.ref d) H'
section
variable {P : Program} {w : World} {K : PySem.W.Frag} {mg : Str → Option Value} {base : Heap} {PD LA : Addr}
theorem ok_are_names (T : Gb mg) (G : Gg mg PD LA) (cis_name : C8.Cal P w K mg base 1 "is_name" spNameT []) (D : Dd K mg "are_names" s_are_names P_are_names) : C8.Cal P w K mg base 2 "are_names" (spAreN K) [] := by
  refine D.cal sc_are_names (fun vs H Q E h => ?_) (fun f cdv A outer s H vs Q E hr h => ?_)
  · obtain ⟨q, ws, rfl, _⟩ := h
    rfl
  · obtain ⟨t, ws, rfl, ht, h2, hok, q⟩ := h
    refine ⟨_, (pss_cons (ps_if (PW.pt (pw_or (pt_not (pt_val (pe_callB call_isi (by rfl) T.isinstance (by decide +kernel) (pa_cons (pv 0) (pa_cons (pe_bltn (v := .ty "tuple") rfl T.tuple (by decide +kernel) rfl) pa_nil))))) (pw_or1 (pt_cmpR op_gt (pe_callB call_len_seq (by rfl) T.len PySem.boot_len (pa_cons (pv 0) pa_nil)) (C8.pe_gc (v := .int 2) rfl G.each) (nomark _)))))
          (pss_one (ps_ret pe_bl))
          pss_nil)
        (pss_one (ps_ret (pe_callB (cr_all rfl) (by rfl) T.all (by decide +kernel) (pa_cons (pe_lc (own := [("part", 1)]) (by exact rfl) sc_are_names.nd (pi_tup (pv 0)) (blkOk_by (own := [("part", 1)]) (N := N_are_names) (sc := defScope s_are_names) (by decide +kernel)) (fun _ _ _ _ _ => (pg_name (i := 1) sc_are_names.nd rfl (Or.inl rfl))) (fun _ _ _ _ _ => pts_nil) (fun _ _ _ _ _ => (C8.pe_c cis_name hr (by decide) (by rfl) (pa_cons (pv 1) pa_nil)))) pa_nil))))), ?_⟩
    refine ⟨_, rfl, .ref t, .ty "tuple", .type "tuple", .type "tuple", true, rfl, .ty "tuple", tyT ht, kit_ty (by decide +kernel), _, rfl, iteF ?_⟩
    refine ⟨_, rfl, t, _, rfl, .inr ht, _, _, rfl, rfl, _, rfl, ?_⟩
    refine ifF (decide_eq_false (show ¬ (2 : Int) < ((nmV ws).length : Int) by rw [nmV_len]; omega)) ?_
    refine ⟨_, rfl, t, rfl, ⟨_, ht⟩, fun D nD => ?_⟩
    refine lc_it (walk_tup (K := K) (a := t) (xs := nmV ws)) (fun j H' => Same H H' ∧ H' D = some (.lst ((List.replicate j true).map V.bl))) ⟨same_upd nD, upd_same⟩ (fun j H3 _ hh => sqT_s hh.1 ht) ?_ ?_
    · rintro j v H3 H4 hj ⟨sm, hD⟩ ⟨rfl, hv⟩
      obtain ⟨u, hu, rfl⟩ : ∃ u, ws[j]? = some u ∧ v = V.str (SX.S u) := by
        replace hv : (nmV ws)[j]? = some v := hv
        unfold nmV at hv
        rw [List.getElem?_map] at hv
        cases e : ws[j]? with
        | none => rw [e] at hv; cases hv
        | some u => rw [e] at hv; exact ⟨u, rfl, (Option.some.inj hv).symm⟩
      refine ⟨rfl, yesT ?_⟩
      refine ⟨_, rfl, u, rfl, hok u (List.mem_of_getElem? hu), fun H5 s5 => ?_⟩
      rw [nmV_len] at hj
      refine ⟨_, s5 _ _ hD, by rw [List.length_map, List.length_replicate]; exact small1000 (by omega), Same.at_ (sm.trans s5) nD, ?_⟩
      rw [upd_same, List.replicate_succ', List.map_append]
      rfl
    · rintro H3 ⟨sm, hD⟩
      refine ⟨D, _, rfl, SqL.of hD, ?_⟩
      rw [show (List.replicate (nmV ws).length true).all id = true by simp]
      exact q _ sm
theorem ok_sort_stands (T : Gb mg) (G : Gg mg PD LA) (cis_name : C8.Cal P w K mg base 1 "is_name" spNameT []) (cis_tuple_of : C8.Cal P w K mg base 1 "is_tuple_of" (spTupOf K) []) (care_names : C8.Cal P w K mg base 2 "are_names" (spAreN K) []) (D : Dd K mg "sort_stands" s_sort_stands P_sort_stands) : C8.Cal P w K mg base 3 "sort_stands" (spSortSt K) [] := by
  refine D.cal sc_sort_stands (fun vs H Q E h => ?_) (fun f cdv A outer s H vs Q E hr h => ?_)
  · obtain ⟨rv, sd, r, kvs, rfl, _⟩ := h
    rfl
  · obtain ⟨rv, sd, r, kvs, rfl, hrow, sok, hsd, hl, hno, q⟩ := h
    obtain ⟨q0, t1, t2, rfl, hq, ht1, ht2⟩ := s_at hrow
    refine ⟨_, (pss_cons (ps_if (PW.pt (pw_or (pt_not (pt_val (C8.pe_c cis_tuple_of hr (by decide) (by rfl) (pa_cons (pv 0) (pa_cons pe_int pa_nil))))) (pw_or1 (pt_cmpR op_eq (pe_callB call_lenD (by rfl) T.len PySem.boot_len (pa_cons (pv 1) pa_nil)) (C8.pe_gc (v := .int 4) rfl G.sorts) (nomark _)))))
          (pss_one (ps_ret pe_bl))
          pss_nil)
        (pss_cons (ps_asg (pv 0) (pg_tup rfl (pgs_cons (pg_name (i := 2) sc_sort_stands.nd rfl (Or.inl rfl)) (pgs_cons (pg_name (i := 3) sc_sort_stands.nd rfl (Or.inl rfl)) (pgs_cons (pg_name (i := 4) sc_sort_stands.nd rfl (Or.inl rfl)) pgs_nil)))))
        (pss_cons (ps_if (PW.pt (pw_or (pt_not (pt_val (C8.pe_c cis_name hr (by decide) (by rfl) (pa_cons (pv 2) pa_nil)))) (pw_or (pt_cmp (pc_din (hu_of hr) (pv 2) (pv 1)) (by with_unfolding_all rfl)) (pw_or (pt_not (pt_val (C8.pe_c care_names hr (by decide) (by rfl) (pa_cons (pv 3) pa_nil)))) (pw_or1 (pt_not (pt_val (C8.pe_c care_names hr (by decide) (by rfl) (pa_cons (pv 4) pa_nil)))))))))
          (pss_one (ps_ret pe_bl))
          pss_nil)
        (pss_one (ps_ret (pe_cmpR op_eq (pe_callB cr_lenTx (by rfl) T.len PySem.boot_len (pa_cons (pe_callTy (cr_setTx rfl) (by rfl) T.set (by decide +kernel) (pa_cons (pe_op (r := rCatAny K) op_catAny (pv 3) (pv 4)) pa_nil)) pa_nil)) (pe_callB call_len_seq (by rfl) T.len PySem.boot_len (pa_cons (pe_op (r := rCatAny K) op_catAny (pv 3) (pv 4)) pa_nil)) (nomark _))))))), ?_⟩
    refine ⟨_, rfl, .ref q0, r.d, 3, rfl, hrow, _, rfl, ifF rfl ?_⟩
    refine ⟨_, rfl, sd, kvs, rfl, hsd, rfl, _, rfl, ifF (decide_eq_false (fun z => by have := V.int.inj z; omega)) ?_⟩
    refine ⟨_, rfl, q0, _, rfl, hq, rfl, _, _, rfl, _, _, rfl, _, _, rfl, rfl, ?_⟩
    refine ⟨_, rfl, r.nm, rfl, sok.nm, fun H1 s1 => ⟨_, rfl, ifF rfl ?_⟩⟩
    refine ⟨_, rfl, _, rfl, sd, none, rfl, by have h := DGet.k (k := kS r.nm) (s1 _ _ hsd); rw [hno] at h; exact h, _, rfl, ifF rfl ?_⟩
    refine ⟨_, rfl, t1, r.dn, rfl, sqT_s s1 ht1, sok.d2, fun w hw => sok.all w (List.mem_append_left _ hw), fun H2 s2 => ⟨_, rfl, ifF rfl ?_⟩⟩
    have s12 := s1.trans s2
    refine ⟨_, rfl, t2, r.up, rfl, sqT_s s12 ht2, sok.u2, fun w hw => sok.all w (List.mem_append_right _ hw), fun H3 s3 => ⟨_, rfl, ifF rfl ?_⟩⟩
    have s13 := s12.trans s3
    have hd2 := sok.d2
    have hu2 := sok.u2
    refine ⟨_, rfl, _, rfl, t1, t2, nmV r.dn, nmV r.up, rfl, rfl, sqT_s s13 ht1, sqT_s s13 ht2, by rw [nmV_len, nmV_len]; exact Nat.le_trans (show _ ≤ 4 by omega) (by decide), fun H4 p4 s4 h4 => ?_⟩
    have e4 : nmV r.dn ++ nmV r.up = ((r.dn ++ r.up).map SX.S).map V.str := by
      unfold nmV
      rw [List.map_map, List.map_append]
      rfl
    rw [e4] at h4
    refine ⟨p4, _, rfl, .inr h4, by rw [List.length_map, List.length_append]; omega, fun p5 n5 => ?_⟩
    refine ⟨p5, _, rfl, upd_same, ?_⟩
    have s5 := s13.trans (s4.trans (same_upd (o := setTxO w p5 (gotTx ((r.dn ++ r.up).map SX.S))) n5))
    refine ⟨_, rfl, _, rfl, t1, t2, nmV r.dn, nmV r.up, rfl, rfl, sqT_s s5 ht1, sqT_s s5 ht2, by rw [nmV_len, nmV_len]; exact Nat.le_trans (show _ ≤ 4 by omega) (by decide), fun H6 p6 s6 h6 => ?_⟩
    refine ⟨p6, _, rfl, .inr h6, rfl, ?_⟩
    have e6 : decide (V.int (((gotTx ((r.dn ++ r.up).map SX.S)).length : Nat) : Int) = V.int (((nmV r.dn ++ nmV r.up).length : Nat) : Int)) = true := by
      exact decide_eq_true (congrArg (fun n : Nat => V.int (n : Int)) (by rw [gotTx_nd (nodup_S sok.nd), e4, List.length_map (f := V.str)]))
    rw [e6]
    exact q _ (s5.trans s6)
theorem ok_sorts_in (T : Gb mg) (crows_of : C8.Cal P w K mg base 1 "rows_of" spRows []) (csort_stands : C8.Cal P w K mg base 3 "sort_stands" (spSortSt K) []) (D : Dd K mg "sorts_in" s_sorts_in P_sorts_in) : C8.Cal P w K mg base 4 "sorts_in" (spSortsIn K) [] := by
  refine D.cal sc_sorts_in (fun vs H Q E h => ?_) (fun f cdv A outer s H vs Q E hr h => ?_)
  · obtain ⟨l, sv, rs, rfl, _⟩ := h
    rfl
  · obtain ⟨l, sv, rs, rfl, hl, hsv, sok, q⟩ := h
    refine ⟨_, (pss_cons (ps_set (i := 1) sc_sorts_in.nd rfl (Or.inl rfl) pe_dnewK)
        (pss_cons (ps_for PassesOwn.never rfl (pi_enum (by rfl) T.enumerate (pa_cons (C8.pe_c crows_of hr (by decide) (by rfl) (pa_cons pe_str (pa_cons (pv 0) pa_nil))) pa_nil)) (pg_tup rfl (pgs_cons (pg_name (i := 2) sc_sorts_in.nd rfl (Or.inl rfl)) (pgs_cons (pg_name (i := 3) sc_sorts_in.nd rfl (Or.inl rfl)) pgs_nil)))
          (pss_cons (ps_if (pt_not (pt_val (C8.pe_c csort_stands hr (by decide) (by rfl) (pa_cons (pv 3) (pa_cons (pv 1) pa_nil)))))
          (pss_one ps_never)
          pss_nil)
        (pss_one (ps_dput (hu_of hr) (pv 1) (pe_ix (r := rIxT K) ix_tup (pv 3) pe_int (fun _ _ => rfl)) (pe_slice (r := rSlAny K) sl_any (pv 3) (po_some pe_int) po_none) (by rfl)))))
        (pss_one (ps_ret (pv 1))))), ?_⟩
    refine fun d nd => ?_
    have s1 := same_upd (o := .dK []) nd
    have lsv := dpAll_len hsv
    rw [List.length_map] at lsv
    have h4 := sok.le
    refine ⟨_, rfl, "sorts", l, sv, rfl, s1 _ _ hl, l, sv, rfl, SqL.of (s1 _ _ hl), ?_⟩
    refine for_it walk_enum (fun j σ Y => ∃ (y2 y3 : Option V) (kvs : List (Key × V)), σ = [some (.ref l), some (.ref d), y2, y3] ∧ Same H Y ∧ Y d = some (.dK kvs) ∧ Tab K Y kvs ((rs.take j).map sT))
      ⟨none, none, [], rfl, s1, upd_same, .nil⟩ (fun i σ Y _ ⟨_, _, _, _, h, _⟩ => SqL.of (h _ _ hl)) ?_ ?_
    · rintro j v σ Y0 Y hj ⟨y2, y3, kvs, rfl, s2, hd, htab⟩ ⟨TT, xx, yy, rfl, nT, rfl, ex, ey⟩
      cases ex
      obtain ⟨r, hr1, hrow⟩ := row_of (dpAll_same s2 hsv) ey
      have sN := same_upd (o := .tup [.int ((j : Nat) : Int), yy]) nT
      have hjr : j < rs.length := (List.getElem?_eq_some_iff.mp hr1).1
      have hno := new_name (f := SRow.nm) sok.nd hr1
      have hno' : r.nm ∉ ((rs.take j).map sT).map T3.k := by
        rw [List.map_map]
        exact hno
      have lk := htab.len
      rw [List.length_map, List.length_take] at lk
      refine ⟨TT, _, rfl, SqT.of upd_same, rfl, _, _, rfl, _, _, rfl, rfl, ?_⟩
      refine ⟨_, rfl, _, rfl, yy, d, r, kvs, rfl, dp_same sN hrow, sok.ok r (List.mem_of_getElem? hr1), sN _ _ hd, by omega, htab.none hno', fun Y2 sY => ⟨_, rfl, iteF ?_⟩⟩
      have sA := sN.trans sY
      obtain ⟨q0, v1, v2, rfl, hq, hd1, hd2⟩ := t3_at (t := sT r) (dp_same sA hrow)
      refine ⟨_, rfl, _, rfl, q0, _, rfl, hq, fun Y3 p3 sp3 hp3 => ?_⟩
      have sB := sA.trans sp3
      refine ⟨_, rfl, _, rfl, q0, _, 0, .str (SX.S r.nm), rfl, rfl, sqT_s sp3 hq, atI_nat (j := 0) rfl, ?_⟩
      have hv3 : Dp K Y3 (.ref p3) (sT r).r := .tup hp3 (.cons (dp_same sp3 hd1) (.cons (dp_same sp3 hd2) .nil))
      have hd3 := sB _ _ hd
      have hpt := (htab.keep (KeepT.of sB) (fun t ht => by obtain ⟨r', _, e⟩ := List.mem_map.mp ht; rw [← e]; exact sT_imm r')).put (t := sT r) hno' hv3
      refine ⟨d, _, rfl, DPut.k (k := kS r.nm) hd3 (small1000 (by omega)), _, _, _, rfl, ?_, upd_same, ?_⟩
      · exact Same.at_ (s2.trans sB) nd
      · rw [List.take_add_one, hr1, List.map_append]
        exact hpt.keep (KeepT.at_ hd3 dK_no) (fun t ht => by
          rcases List.mem_append.mp ht with ht | ht
          · obtain ⟨r', _, e⟩ := List.mem_map.mp ht
            rw [← e]
            exact sT_imm r'
          · rw [List.mem_singleton.mp ht]
            exact sT_imm r)
    · rintro σ Y ⟨y2, y3, kvs, rfl, s2, hd, htab⟩
      rw [lsv, List.take_length] at htab
      exact ⟨_, rfl, q _ d kvs s2 nd hd htab⟩
end
abbrev s_making_stands : Stmt := top 30
abbrev N_making_stands : List Str := ["row", "makings", "sorts", "making", "sort", "parts", "each"]
abbrev P_making_stands : List Str := ["row", "makings", "sorts"]
theorem sc_making_stands : FnScope N_making_stands P_making_stands (defScope s_making_stands) := ⟨rfl, rfl, rfl, by decide +kernel, rfl, by decide +kernel, by decide +kernel⟩
abbrev s_makings_in : Stmt := top 31
abbrev N_makings_in : List Str := ["rows", "sorts", "makings", "number", "row"]
abbrev P_makings_in : List Str := ["rows", "sorts"]
theorem sc_makings_in : FnScope N_makings_in P_makings_in (defScope s_makings_in) := ⟨rfl, rfl, rfl, by decide +kernel, rfl, by decide +kernel, by decide +kernel⟩
def spMakSt (K : PySem.W.Frag) : Sp := fun vs H Q _ => ∃ (rv : V) (md sd : Addr) (mr : MRow) (kvs skv : List (Key × V)), vs = [rv, .ref md, .ref sd] ∧ Dp K H rv mr.d ∧ NmOk mr.nm ∧ (∀ k ∈ mr.places, NmOk k) ∧ mr.pt.length ≤ 2 ∧ H md = some (.dK kvs) ∧ kvs.length < 8 ∧ valV kvs (kS mr.nm) = none ∧ H sd = some (.dK skv) ∧ (∀ k ∈ mr.places, (valV skv (kS k)).isSome = true) ∧ ∀ H', Same H H' → Q (.bl true) H'
def spMaksIn (K : PySem.W.Frag) : Sp := fun vs H Q _ => ∃ (l sd : Addr) (mv : List V) (rs : List SRow) (ms : List MRow) (skv : List (Key × V)), vs = [.ref l, .ref sd] ∧ H l = some (.lst mv) ∧ DpAll K H mv (ms.map MRow.d) ∧ SortsOk rs ∧ (ms.map MRow.nm).Nodup ∧ (∀ m ∈ ms, MOk rs m) ∧ ms.length ≤ 8 ∧ H sd = some (.dK skv) ∧ Tab K H skv (rs.map sT) ∧
  ∀ (H' : Hp) (d : Addr) (kvs : List (Key × V)), Same H H' → H d = none → H' d = some (.dK kvs) → Tab K H' kvs (ms.map mT) → Q (.ref d) H'
theorem places_ok {rs : List SRow} {mr : MRow} (so : SortsOk rs) (m : MOk rs mr) : ∀ k ∈ mr.places, NmOk k := fun k hk => by
  obtain ⟨r, hr, rfl⟩ := m.so k hk
  exact (so.ok r hr).nm
theorem sT_k (rs : List SRow) : (rs.map sT).map T3.k = rs.map SRow.nm := by
  rw [List.map_map]
  rfl
theorem mT_k (rs : List MRow) : (rs.map mT).map T3.k = rs.map MRow.nm := by
  rw [List.map_map]
  rfl
section
variable {P : Program} {w : World} {K : PySem.W.Frag} {mg : Str → Option Value} {base : Heap} {PD LA : Addr}
theorem ok_making_stands (T : Gb mg) (G : Gg mg PD LA) (cis_name : C8.Cal P w K mg base 1 "is_name" spNameT []) (cis_tuple_of : C8.Cal P w K mg base 1 "is_tuple_of" (spTupOf K) []) (care_names : C8.Cal P w K mg base 2 "are_names" (spAreN K) []) (D : Dd K mg "making_stands" s_making_stands P_making_stands) : C8.Cal P w K mg base 3 "making_stands" (spMakSt K) [] := by
  refine D.cal sc_making_stands (fun vs H Q E h => ?_) (fun f cdv A outer s H vs Q E hr h => ?_)
  · obtain ⟨rv, md, sd, mr, kvs, skv, rfl, _⟩ := h
    rfl
  · obtain ⟨rv, md, sd, mr, kvs, skv, rfl, hrow, hnm, hpl, hp2, hmd, hl, hno, hsd, hin, q⟩ := h
    obtain ⟨q0, t, rfl, hq, ht⟩ := row_at hrow
    refine ⟨_, (pss_cons (ps_if (PW.pt (pw_or (pt_not (pt_val (C8.pe_c cis_tuple_of hr (by decide) (by rfl) (pa_cons (pv 0) (pa_cons pe_int pa_nil))))) (pw_or1 (pt_cmpR op_eq (pe_callB call_lenD (by rfl) T.len PySem.boot_len (pa_cons (pv 1) pa_nil)) (C8.pe_gc (v := .int 8) rfl G.makings) (nomark _)))))
          (pss_one (ps_ret pe_bl))
          pss_nil)
        (pss_cons (ps_asg (pv 0) (pg_tup rfl (pgs_cons (pg_name (i := 3) sc_making_stands.nd rfl (Or.inl rfl)) (pgs_cons (pg_name (i := 4) sc_making_stands.nd rfl (Or.inl rfl)) (pgs_cons (pg_name (i := 5) sc_making_stands.nd rfl (Or.inl rfl)) pgs_nil)))))
        (pss_cons (ps_if (PW.pt (pw_or (pt_not (pt_val (C8.pe_c cis_name hr (by decide) (by rfl) (pa_cons (pv 3) pa_nil)))) (pw_or (pt_cmp (pc_din (hu_of hr) (pv 3) (pv 1)) (by with_unfolding_all rfl)) (pw_or1 (pt_not (pt_val (C8.pe_c care_names hr (by decide) (by rfl) (pa_cons (pv 5) pa_nil))))))))
          (pss_one (ps_ret pe_bl))
          pss_nil)
        (pss_one (ps_ret (pe_and (C8.pe_c cis_name hr (by decide) (by rfl) (pa_cons (pv 4) pa_nil)) (pe_one (pe_callB (cr_all rfl) (by rfl) T.all (by decide +kernel) (pa_cons (pe_lc (own := [("each", 6)]) (by exact rfl) sc_making_stands.nd (pi_tup (pe_tup (pa_cons (pv 4) (StX.pa_star (pv 5) pa_nil)))) (blkOk_by (own := [("each", 6)]) (N := N_making_stands) (sc := defScope s_making_stands) (by decide +kernel)) (fun _ _ _ _ _ => (pg_name (i := 6) sc_making_stands.nd rfl (Or.inl rfl))) (fun _ _ _ _ _ => pts_nil) (fun _ _ _ _ _ => (pe_cmp (pc_din (hu_of hr) (pv 6) (pv 2)) (by with_unfolding_all rfl)))) pa_nil))))))))), ?_⟩
    refine ⟨_, rfl, .ref q0, mr.d, 3, rfl, hrow, _, rfl, ifF rfl ?_⟩
    refine ⟨_, rfl, md, kvs, rfl, hmd, rfl, _, rfl, ifF (decide_eq_false (fun z => by have := V.int.inj z; omega)) ?_⟩
    refine ⟨_, rfl, q0, _, rfl, hq, rfl, _, _, rfl, _, _, rfl, _, _, rfl, rfl, ?_⟩
    refine ⟨_, rfl, mr.nm, rfl, hnm, fun H1 s1 => ⟨_, rfl, ifF rfl ?_⟩⟩
    refine ⟨_, rfl, _, rfl, md, none, rfl, by have h := DGet.k (k := kS mr.nm) (s1 _ _ hmd); rw [hno] at h; exact h, _, rfl, ifF rfl ?_⟩
    refine ⟨_, rfl, t, mr.pt, rfl, sqT_s s1 ht, hp2, fun w hw => hpl w (List.mem_cons_of_mem _ hw), fun H2 s2 => ⟨_, rfl, ifF rfl ?_⟩⟩
    have s12 := s1.trans s2
    refine ⟨_, rfl, mr.so, rfl, hpl _ (List.mem_cons_self ..), fun H3 s3 => ⟨_, rfl, iteT ?_⟩⟩
    have s13 := s12.trans s3
    refine ⟨_, rfl, _, rfl, t, nmV mr.pt, rfl, .inl (sqT_s s13 ht), ?_⟩
    have e4 : V.str (SX.S mr.so) :: (nmV mr.pt ++ []) = nmV mr.places := by
      rw [List.append_nil]
      rfl
    have lpl : mr.places.length ≤ 3 := by
      show mr.pt.length + 1 ≤ 3
      omega
    refine ⟨?_, fun p4 n4 => ?_⟩
    · show (V.str (SX.S mr.so) :: (nmV mr.pt ++ [])).length ≤ _
      rw [e4, nmV_len]
      exact Nat.le_trans lpl (by decide)
    have s4 := s13.trans (same_upd (o := .tup (V.str (SX.S mr.so) :: (nmV mr.pt ++ []))) n4)
    have h4 : SqT K (upd H3 p4 (.tup (V.str (SX.S mr.so) :: (nmV mr.pt ++ [])))) p4 (V.str (SX.S mr.so) :: (nmV mr.pt ++ [])) := SqT.of upd_same
    show (∃ p, V.ref p4 = V.ref p ∧ _)
    refine ⟨p4, rfl, ⟨_, h4⟩, fun D nD => ?_⟩
    refine lc_it (walk_tup (K := K) (a := p4) (xs := V.str (SX.S mr.so) :: (nmV mr.pt ++ []))) (fun j H' => Same (upd H3 p4 (.tup (V.str (SX.S mr.so) :: (nmV mr.pt ++ [])))) H' ∧ H' D = some (.lst ((List.replicate j true).map V.bl))) ⟨same_upd nD, upd_same⟩ (fun j H5 _ hh => sqT_s hh.1 h4) ?_ ?_
    · rintro j v H5 H6 hj ⟨sm, hD⟩ ⟨rfl, hv⟩
      obtain ⟨u, hu, rfl⟩ : ∃ u, mr.places[j]? = some u ∧ v = V.str (SX.S u) := by
        replace hv : (V.str (SX.S mr.so) :: (nmV mr.pt ++ []))[j]? = some v := hv
        rw [e4] at hv
        unfold nmV at hv
        rw [List.getElem?_map] at hv
        cases e : mr.places[j]? with
        | none => rw [e] at hv; cases hv
        | some u => rw [e] at hv; exact ⟨u, rfl, (Option.some.inj hv).symm⟩
      refine ⟨rfl, yesT ?_⟩
      have s6 := s4.trans sm
      refine ⟨_, rfl, _, rfl, sd, _, rfl, DGet.k (k := kS u) (s6 _ _ hsd), ?_⟩
      rw [hin u (List.mem_of_getElem? hu)]
      rw [e4, nmV_len] at hj
      refine ⟨_, hD, by rw [List.length_map, List.length_replicate]; exact small1000 (by omega), Same.at_ sm nD, ?_⟩
      rw [upd_same, List.replicate_succ', List.map_append]
      rfl
    · rintro H5 ⟨sm, hD⟩
      refine ⟨D, _, rfl, SqL.of hD, ?_⟩
      rw [show (List.replicate (V.str (SX.S mr.so) :: (nmV mr.pt ++ [])).length true).all id = true by simp]
      exact q _ (s4.trans sm)
theorem ok_makings_in (T : Gb mg) (crows_of : C8.Cal P w K mg base 1 "rows_of" spRows []) (cmaking_stands : C8.Cal P w K mg base 3 "making_stands" (spMakSt K) []) (D : Dd K mg "makings_in" s_makings_in P_makings_in) : C8.Cal P w K mg base 4 "makings_in" (spMaksIn K) [] := by
  refine D.cal sc_makings_in (fun vs H Q E h => ?_) (fun f cdv A outer s H vs Q E hr h => ?_)
  · obtain ⟨l, sd, mv, rs, ms, skv, rfl, _⟩ := h
    rfl
  · obtain ⟨l, sd, sv, rs0, rs, skv, rfl, hl, hsv, sok, hnd, hok, h8, hsd, hstab, q⟩ := h
    refine ⟨_, (pss_cons (ps_set (i := 2) sc_makings_in.nd rfl (Or.inl rfl) pe_dnewK)
        (pss_cons (ps_for PassesOwn.never rfl (pi_enum (by rfl) T.enumerate (pa_cons (C8.pe_c crows_of hr (by decide) (by rfl) (pa_cons pe_str (pa_cons (pv 0) pa_nil))) pa_nil)) (pg_tup rfl (pgs_cons (pg_name (i := 3) sc_makings_in.nd rfl (Or.inl rfl)) (pgs_cons (pg_name (i := 4) sc_makings_in.nd rfl (Or.inl rfl)) pgs_nil)))
          (pss_cons (ps_if (pt_not (pt_val (C8.pe_c cmaking_stands hr (by decide) (by rfl) (pa_cons (pv 4) (pa_cons (pv 2) (pa_cons (pv 1) pa_nil))))))
          (pss_one ps_never)
          pss_nil)
        (pss_one (ps_dput (hu_of hr) (pv 2) (pe_ix (r := rIxT K) ix_tup (pv 4) pe_int (fun _ _ => rfl)) (pe_slice (r := rSlAny K) sl_any (pv 4) (po_some pe_int) po_none) (by rfl)))))
        (pss_one (ps_ret (pv 2))))), ?_⟩
    refine fun d nd => ?_
    have s1 := same_upd (o := .dK []) nd
    have lsv := dpAll_len hsv
    rw [List.length_map] at lsv
    refine ⟨_, rfl, "makings", l, sv, rfl, s1 _ _ hl, l, sv, rfl, SqL.of (s1 _ _ hl), ?_⟩
    refine for_it walk_enum (fun j σ Y => ∃ (y2 y3 : Option V) (kvs : List (Key × V)), σ = [some (.ref l), some (.ref sd), some (.ref d), y2, y3] ∧ Same H Y ∧ Y d = some (.dK kvs) ∧ Tab K Y kvs ((rs.take j).map mT))
      ⟨none, none, [], rfl, s1, upd_same, .nil⟩ (fun i σ Y _ ⟨_, _, _, _, h, _⟩ => SqL.of (h _ _ hl)) ?_ ?_
    · rintro j v σ Y0 Y hj ⟨y2, y3, kvs, rfl, s2, hd, htab⟩ ⟨TT, xx, yy, rfl, nT, rfl, ex, ey⟩
      cases ex
      obtain ⟨r, hr1, hrow⟩ := row_of (dpAll_same s2 hsv) ey
      have sN := same_upd (o := .tup [.int ((j : Nat) : Int), yy]) nT
      have hjr : j < rs.length := (List.getElem?_eq_some_iff.mp hr1).1
      have hno' : r.nm ∉ ((rs.take j).map mT).map T3.k := by
        rw [mT_k]
        exact new_name (f := MRow.nm) hnd hr1
      have mok := hok r (List.mem_of_getElem? hr1)
      have lk := htab.len
      rw [List.length_map, List.length_take] at lk
      refine ⟨TT, _, rfl, SqT.of upd_same, rfl, _, _, rfl, _, _, rfl, rfl, ?_⟩
      refine ⟨_, rfl, _, rfl, _, rfl, yy, d, sd, r, kvs, skv, rfl, dp_same sN hrow, mok.nm, places_ok sok mok, mok.p2, sN _ _ hd, by omega, htab.none hno', sN _ _ (s2 _ _ hsd), fun k hk => ?_, fun Y2 sY => ⟨_, rfl, iteF ?_⟩⟩
      · obtain ⟨r', hr', rfl⟩ := mok.so k hk
        obtain ⟨v', e', _⟩ := hstab.val (t := sT r') (by rw [sT_k]; exact sok.nd) (List.mem_map_of_mem hr')
        rw [show kS r'.nm = kS (sT r').k from rfl, e']
        rfl
      have sA := sN.trans sY
      obtain ⟨q0, v1, v2, rfl, hq, hd1, hd2⟩ := t3_at (t := mT r) (dp_same sA hrow)
      refine ⟨_, rfl, _, rfl, q0, _, rfl, hq, fun Y3 p3 sp3 hp3 => ?_⟩
      have sB := sA.trans sp3
      refine ⟨_, rfl, _, rfl, q0, _, 0, .str (SX.S r.nm), rfl, rfl, sqT_s sp3 hq, atI_nat (j := 0) rfl, ?_⟩
      have hv3 : Dp K Y3 (.ref p3) (mT r).r := .tup hp3 (.cons (dp_same sp3 hd1) (.cons (dp_same sp3 hd2) .nil))
      have hd3 := sB _ _ hd
      have hpt := (htab.keep (KeepT.of sB) (fun t ht => by obtain ⟨r', _, e⟩ := List.mem_map.mp ht; rw [← e]; exact mT_imm r')).put (t := mT r) hno' hv3
      refine ⟨d, _, rfl, DPut.k (k := kS r.nm) hd3 (small1000 (by omega)), _, _, _, rfl, ?_, upd_same, ?_⟩
      · exact Same.at_ (s2.trans sB) nd
      · rw [List.take_add_one, hr1, List.map_append]
        exact hpt.keep (KeepT.at_ hd3 dK_no) (fun t ht => by
          rcases List.mem_append.mp ht with ht | ht
          · obtain ⟨r', _, e⟩ := List.mem_map.mp ht
            rw [← e]
            exact mT_imm r'
          · rw [List.mem_singleton.mp ht]
            exact mT_imm r)
    · rintro σ Y ⟨y2, y3, kvs, rfl, s2, hd, htab⟩
      rw [lsv, List.take_length] at htab
      exact ⟨_, rfl, q _ d kvs s2 nd hd htab⟩
end
abbrev s_worths_at : Stmt := top 32
abbrev N_worths_at : List Str := ["place", "form", "sorts", "places"]
abbrev P_worths_at : List Str := ["place", "form", "sorts"]
theorem sc_worths_at : FnScope N_worths_at P_worths_at (defScope s_worths_at) := ⟨rfl, rfl, rfl, by decide +kernel, rfl, by decide +kernel, by decide +kernel⟩
abbrev s_is_at : Stmt := top 33
abbrev N_is_at : List Str := ["thing"]
abbrev P_is_at : List Str := ["thing"]
theorem sc_is_at : FnScope N_is_at P_is_at (defScope s_is_at) := ⟨rfl, rfl, rfl, by decide +kernel, rfl, by decide +kernel, by decide +kernel⟩
abbrev s_is_kept : Stmt := top 34
abbrev N_is_kept : List Str := ["thing", "form", "sorts", "downs", "ups"]
abbrev P_is_kept : List Str := ["thing", "form", "sorts"]
theorem sc_is_kept : FnScope N_is_kept P_is_kept (defScope s_is_kept) := ⟨rfl, rfl, rfl, by decide +kernel, rfl, by decide +kernel, by decide +kernel⟩
abbrev s_is_target : Stmt := top 35
abbrev N_is_target : List Str := ["thing", "form", "sorts", "downs", "ups"]
abbrev P_is_target : List Str := ["thing", "form", "sorts"]
theorem sc_is_target : FnScope N_is_target P_is_target (defScope s_is_target) := ⟨rfl, rfl, rfl, by decide +kernel, rfl, by decide +kernel, by decide +kernel⟩
abbrev s_is_operand : Stmt := top 36
abbrev N_is_operand : List Str := ["thing", "form", "sorts", "downs", "ups"]
abbrev P_is_operand : List Str := ["thing", "form", "sorts"]
theorem sc_is_operand : FnScope N_is_operand P_is_operand (defScope s_is_operand) := ⟨rfl, rfl, rfl, by decide +kernel, rfl, by decide +kernel, by decide +kernel⟩
/-- a making's form and the sorts' table, on the heap -/
structure Fm (K : PySem.W.Frag) (H : Hp) (fv : V) (sd : Addr) (rs : List SRow) (mr : MRow) : Prop where
  f : Dp K H fv (mT mr).r
  t : ∃ skv, H sd = some (.dK skv) ∧ Tab K H skv (rs.map sT)
  so : SortsOk rs
  mo : MOk rs mr
theorem Fm.same {K : PySem.W.Frag} {H H' : Hp} {fv : V} {sd : Addr} {rs : List SRow} {mr : MRow} (s : Same H H') (h : Fm K H fv sd rs mr) : Fm K H' fv sd rs mr := by
  obtain ⟨skv, h1, h2⟩ := h.t
  exact ⟨dp_same s h.f, ⟨skv, s _ _ h1, h2.keep (KeepT.of s) (fun t ht => by obtain ⟨r', _, e⟩ := List.mem_map.mp ht; rw [← e]; exact sT_imm r')⟩, h.so, h.mo⟩
theorem Fm.at_ {K : PySem.W.Frag} {H : Hp} {fv : V} {sd : Addr} {rs : List SRow} {mr : MRow} (h : Fm K H fv sd rs mr) : ∃ q t, fv = .ref q ∧ SqT K H q [.str (SX.S mr.so), .ref t] ∧ SqT K H t (nmV mr.pt) := by
  cases h.f with
  | tup hS hA =>
    cases hA with
    | cons a1 hA =>
      cases hA with
      | cons a2 hA =>
        cases hA
        cases a1
        cases a2 with
        | tup hS2 hA2 =>
          rw [names_of hA2] at hS2
          exact ⟨_, _, rfl, hS, hS2⟩
theorem Fm.get {K : PySem.W.Frag} {H : Hp} {fv : V} {sd : Addr} {rs : List SRow} {mr : MRow} (h : Fm K H fv sd rs mr) {r : SRow} (hr : r ∈ rs) : ∃ (p t1 t2 : Addr), DGet H sd (.str (SX.S r.nm)) (some (.ref p)) ∧ SqT K H p [.ref t1, .ref t2] ∧ SqT K H t1 (nmV r.dn) ∧ SqT K H t2 (nmV r.up) := by
  obtain ⟨skv, h1, h2⟩ := h.t
  obtain ⟨v, e, hd⟩ := h2.val (t := sT r) (by rw [sT_k]; exact h.so.nd) (List.mem_map_of_mem hr)
  have hg := DGet.k (k := kS r.nm) h1
  rw [show kS r.nm = kS (sT r).k from rfl, e] at hg
  cases hd with
  | tup hS hA =>
    cases hA with
    | cons a1 hA =>
      cases hA with
      | cons a2 hA =>
        cases hA
        cases a1 with
        | tup b1 c1 =>
          cases a2 with
          | tup b2 c2 =>
            rw [names_of c1] at b1
            rw [names_of c2] at b2
            exact ⟨_, _, _, hg, hS, b1, b2⟩
theorem sp_at {K : PySem.W.Frag} {H : Hp} {v : V} {p : Nat} {w : List Nat} (h : Dp K H v (En.d (.sp p w))) : ∃ q, v = .ref q ∧ SqT K H q [.str "at", .int (p : Nat), .str (SX.S w)] := by
  cases h with
  | tup hS hA =>
    cases hA with
    | cons a1 hA =>
      cases hA with
      | cons a2 hA =>
        cases hA with
        | cons a3 hA =>
          cases hA
          cases a1
          cases a2
          cases a3
          exact ⟨_, rfl, hS⟩
theorem kp_at {K : PySem.W.Frag} {H : Hp} {v : V} {w : List Nat} (h : Dp K H v (En.d (.kept w))) : ∃ q, v = .ref q ∧ SqT K H q [.str "kept", .str (SX.S w)] := by
  cases h with
  | tup hS hA =>
    cases hA with
    | cons a1 hA =>
      cases hA with
      | cons a2 hA =>
        cases hA
        cases a1
        cases a2
        exact ⟨_, rfl, hS⟩
theorem num_at {K : PySem.W.Frag} {H : Hp} {v : V} {n : Nat} (h : Dp K H v (Od.d (.num n))) : ∃ q, v = .ref q ∧ SqT K H q [.str "number", .int (n : Nat)] := by
  cases h with
  | tup hS hA =>
    cases hA with
    | cons a1 hA =>
      cases hA with
      | cons a2 hA =>
        cases hA
        cases a1
        cases a2
        exact ⟨_, rfl, hS⟩
theorem let_sm {c : Nat} (h : isLet c = true) : c < 128 := by
  unfold isLet at h
  simp only [Bool.and_eq_true, decide_eq_true_eq] at h
  omega
theorem own_sh : SeqAt.shaped (Od.d .own) = true := by decide +kernel
theorem kept_sh {w : List Nat} (h : NmOk w) : SeqAt.shaped (En.d (.kept w)) = true := by
  obtain ⟨h1, h2⟩ := en_lay (e := .kept w) (fun c hc => let_sm (h.1.2.2 c hc))
  unfold SeqAt.shaped
  rw [h1, h2]
  rfl
theorem kept_own (w : List Nat) : PyData.eqv (En.d (.kept w)) (Od.d .own) = false := by
  show ((Str.ofString "kept" == Str.ofString "own") && PyData.eqvAll [strD w] []) = false
  rw [show (Str.ofString "kept" == Str.ofString "own") = false by decide +kernel]
  rfl
def isAtO : Od → Bool
  | .en (.sp _ _) => true
  | _ => false
def spWorthsAt (K : PySem.W.Frag) : Sp := fun vs H Q _ => ∃ (p : Nat) (fv : V) (sd : Addr) (rs : List SRow) (mr : MRow) (r : SRow), vs = [.int p, fv, .ref sd] ∧ Fm K H fv sd rs mr ∧ r ∈ rs ∧ mr.places[p]? = some r.nm ∧
  ∀ (H' : Hp) (q t1 t2 : Addr), Same H H' → SqT K H' q [.ref t1, .ref t2] → SqT K H' t1 (nmV r.dn) → SqT K H' t2 (nmV r.up) → Q (.ref q) H'
def spIsAt (K : PySem.W.Frag) : Sp := fun vs H Q _ => ∃ (v : V) (o : Od), vs = [v] ∧ Dp K H v o.d ∧ Q (.bl (isAtO o)) H
def spIsKept (K : PySem.W.Frag) : Sp := fun vs H Q _ => ∃ (v fv : V) (sd : Addr) (rs : List SRow) (mr : MRow) (w : List Nat), vs = [v, fv, .ref sd] ∧ Dp K H v (En.d (.kept w)) ∧ Fm K H fv sd rs mr ∧ KeptOk rs mr w ∧ ∀ H', Same H H' → Q (.bl true) H'
def spIsTg (K : PySem.W.Frag) : Sp := fun vs H Q _ => ∃ (v fv : V) (sd : Addr) (rs : List SRow) (mr : MRow) (e : En), vs = [v, fv, .ref sd] ∧ Dp K H v e.d ∧ Fm K H fv sd rs mr ∧ TgOk rs mr e ∧ ∀ H', Same H H' → Q (.bl true) H'
def spIsOd (K : PySem.W.Frag) : Sp := fun vs H Q _ => ∃ (v fv : V) (sd : Addr) (rs : List SRow) (mr : MRow) (o : Od), vs = [v, fv, .ref sd] ∧ Dp K H v o.d ∧ Fm K H fv sd rs mr ∧ OdOk rs mr o ∧ ∀ H', Same H H' → Q (.bl true) H'
section
variable {P : Program} {w : World} {K : PySem.W.Frag} {mg : Str → Option Value} {base : Heap} {PD LA : Addr}
theorem ok_worths_at (T : Gb mg) (cis_number : C8.Cal P w K mg base 1 "is_number" (spIsNum K) []) (D : Dd K mg "worths_at" s_worths_at P_worths_at) : C8.Cal P w K mg base 2 "worths_at" (spWorthsAt K) [] := by
  refine D.cal sc_worths_at (fun vs H Q E h => ?_) (fun f cdv A outer s H vs Q E hr h => ?_)
  · obtain ⟨p, fv, sd, rs, mr, r, rfl, _⟩ := h
    rfl
  · obtain ⟨p, fv, sd, rs, mr, r, rfl, fm, hr1, hp, q⟩ := h
    obtain ⟨fq, t, rfl, hf, ht⟩ := fm.at_
    refine ⟨_, (pss_cons (ps_set (i := 3) sc_worths_at.nd rfl (Or.inl rfl) (pe_tup (pa_cons (pe_ix ix_tup (pv 1) pe_int (fun _ _ => rfl)) (StX.pa_star (pe_ix ix_tup (pv 1) pe_int (fun _ _ => rfl)) pa_nil))))
        (pss_cons (ps_if (PW.pt (pw_or (pt_not (pt_val (C8.pe_c cis_number hr (by decide) (by rfl) (pa_cons (pv 0) pa_nil)))) (pw_or1 (pt_cmpR op_ge (pv 0) (pe_callB call_len_seq (by rfl) T.len PySem.boot_len (pa_cons (pv 3) pa_nil)) (nomark _)))))
          (pss_one (ps_ret (pe_tup (pa_cons (pe_tup pa_nil) (pa_cons (pe_tup pa_nil) pa_nil)))))
          pss_nil)
        (pss_one (ps_ret (pe_dget (hu_of hr) (pv 2) (pe_ix ix_tup (pv 3) (pv 0) (fun _ _ => rfl)) (fun _ _ => rfl)))))), ?_⟩
    refine ⟨_, rfl, fq, _, 0, .str (SX.S mr.so), rfl, rfl, hf, atI_nat (j := 0) rfl, ?_⟩
    refine ⟨_, rfl, fq, _, 1, .ref t, rfl, rfl, hf, atI_nat (j := 1) rfl, t, nmV mr.pt, rfl, .inl ht, ?_⟩
    have e4 : V.str (SX.S mr.so) :: (nmV mr.pt ++ []) = nmV mr.places := by
      rw [List.append_nil]
      rfl
    have h2 := fm.mo.p2
    have lpl : mr.places.length ≤ 3 := by
      show mr.pt.length + 1 ≤ 3
      omega
    refine ⟨?_, fun p4 n4 => ?_⟩
    · show (V.str (SX.S mr.so) :: (nmV mr.pt ++ [])).length ≤ _
      rw [e4, nmV_len]
      exact Nat.le_trans lpl (by decide)
    have s4 := same_upd (o := .tup (V.str (SX.S mr.so) :: (nmV mr.pt ++ []))) n4
    have h4 : SqT K (upd H p4 (.tup (V.str (SX.S mr.so) :: (nmV mr.pt ++ [])))) p4 (nmV mr.places) := by
      rw [← e4]
      exact SqT.of upd_same
    have hpl : p < mr.places.length := (List.getElem?_eq_some_iff.mp hp).1
    refine ⟨_, rfl, _, .int p, rfl, .int _, _, rfl, ?_⟩
    refine ifF (by show (!decide ((0 : Int) ≤ (p : Int))) = false; rw [decide_eq_true (by omega)]; rfl) ?_
    refine ⟨_, rfl, _, rfl, p4, _, rfl, .inr h4, _, _, rfl, rfl, _, rfl, ?_⟩
    refine ifF (decide_eq_false (show ¬ ((nmV mr.places).length : Int) ≤ (p : Int) by rw [nmV_len]; omega)) ?_
    obtain ⟨pq, t1, t2, hg, hpq, h1, h2⟩ := (fm.same s4).get hr1
    exact ⟨_, rfl, _, rfl, _, rfl, p4, _, p, .str (SX.S r.nm), rfl, rfl, h4, atI_nat (nmV_at hp), sd, .ref pq, rfl, hg, q _ pq t1 t2 s4 hpq h1 h2⟩
theorem ok_is_at (cis_tuple_of : C8.Cal P w K mg base 1 "is_tuple_of" (spTupOf K) []) (D : Dd K mg "is_at" s_is_at P_is_at) : C8.Cal P w K mg base 2 "is_at" (spIsAt K) [] := by
  refine D.cal sc_is_at (fun vs H Q E h => ?_) (fun f cdv A outer s H vs Q E hr h => ?_)
  · obtain ⟨v, o, rfl, _⟩ := h
    rfl
  · obtain ⟨v, o, rfl, hd, q⟩ := h
    refine ⟨_, (pss_one (ps_ret (pe_and (C8.pe_c cis_tuple_of hr (by decide) (by rfl) (pa_cons (pv 0) (pa_cons pe_int pa_nil))) (pe_one (pe_cmpR op_eq (pe_ix ix_tup (pv 0) pe_int (fun _ _ => rfl)) pe_str (nomark _)))))), ?_⟩
    refine ⟨_, rfl, v, o.d, 3, rfl, hd, _, rfl, ?_⟩
    cases o with
    | own => exact iteF q
    | num n => exact iteF q
    | en e =>
      cases e with
      | kept w => exact iteF q
      | sp p w =>
        obtain ⟨q0, rfl, hq⟩ := sp_at hd
        refine iteT ?_
        exact ⟨_, rfl, q0, _, 0, .str "at", rfl, rfl, hq, atI_nat (j := 0) rfl, rfl, q⟩
theorem ok_is_kept (cis_tuple_of : C8.Cal P w K mg base 1 "is_tuple_of" (spTupOf K) []) (cis_name : C8.Cal P w K mg base 1 "is_name" spNameT []) (D : Dd K mg "is_kept" s_is_kept P_is_kept) : C8.Cal P w K mg base 2 "is_kept" (spIsKept K) [] := by
  refine D.cal sc_is_kept (fun vs H Q E h => ?_) (fun f cdv A outer s H vs Q E hr h => ?_)
  · obtain ⟨v, fv, sd, rs, mr, w, rfl, _⟩ := h
    rfl
  · obtain ⟨v, fv, sd, rs, mr, w, rfl, hd, fm, hk, q⟩ := h
    obtain ⟨fq, t, rfl, hf, ht⟩ := fm.at_
    obtain ⟨q0, rfl, hq⟩ := kp_at hd
    obtain ⟨r, hr1, hrn⟩ := fm.mo.so mr.so (List.mem_cons_self ..)
    obtain ⟨p, t1, t2, hg, hp, h1, h2⟩ := fm.get hr1
    rw [hrn] at hg
    refine ⟨_, (pss_cons (ps_if (PW.pt (pw_or (pt_not (pt_val (C8.pe_c cis_tuple_of hr (by decide) (by rfl) (pa_cons (pv 0) (pa_cons pe_int pa_nil))))) (pw_or1 (pt_cmpR op_ne (pe_ix ix_tup (pv 0) pe_int (fun _ _ => rfl)) pe_str (nomark _)))))
          (pss_one (ps_ret pe_bl))
          pss_nil)
        (pss_cons (ps_asg (pe_dget (hu_of hr) (pv 2) (pe_ix ix_tup (pv 1) pe_int (fun _ _ => rfl)) (fun _ _ => rfl)) (pg_tup rfl (pgs_cons (pg_name (i := 3) sc_is_kept.nd rfl (Or.inl rfl)) (pgs_cons (pg_name (i := 4) sc_is_kept.nd rfl (Or.inl rfl)) pgs_nil))))
        (pss_one (ps_ret (pe_and (C8.pe_c cis_name hr (by decide) (by rfl) (pa_cons (pe_ix ix_tup (pv 0) pe_int (fun _ _ => rfl)) pa_nil)) (pe_one (pe_cmpR op_notIn_seq (pe_ix ix_tup (pv 0) pe_int (fun _ _ => rfl)) (pe_op (r := rCatAny K) op_catAny (pv 3) (pv 4)) (by with_unfolding_all rfl)))))))), ?_⟩
    refine ⟨_, rfl, .ref q0, _, 2, rfl, hd, _, rfl, ifF rfl ?_⟩
    refine ⟨_, rfl, q0, _, 0, .str "kept", rfl, rfl, hq, atI_nat (j := 0) rfl, rfl, _, rfl, ifF rfl ?_⟩
    refine ⟨_, rfl, _, rfl, fq, _, 0, .str (SX.S mr.so), rfl, rfl, hf, atI_nat (j := 0) rfl, sd, .ref p, rfl, hg, ?_⟩
    refine ⟨p, _, rfl, hp, rfl, _, _, rfl, _, _, rfl, rfl, ?_⟩
    refine ⟨_, rfl, q0, _, 1, .str (SX.S w), rfl, rfl, hq, atI_nat (j := 1) rfl, w, rfl, hk.1, fun H1 s1 => ⟨_, rfl, iteT ?_⟩⟩
    have sok := fm.so.ok r hr1
    have hd2 := sok.d2
    have hu2 := sok.u2
    refine ⟨_, rfl, q0, _, 1, .str (SX.S w), rfl, rfl, sqT_s s1 hq, atI_nat (j := 1) rfl, ?_⟩
    refine ⟨_, rfl, _, rfl, t1, t2, nmV r.dn, nmV r.up, rfl, rfl, sqT_s s1 h1, sqT_s s1 h2, by rw [nmV_len, nmV_len]; exact Nat.le_trans (show _ ≤ 4 by omega) (by decide), fun H4 p4 s4 h4 => ?_⟩
    have e4 : nmV r.dn ++ nmV r.up = nmV (r.dn ++ r.up) := by
      unfold nmV
      rw [List.map_append]
    rw [e4] at h4
    refine ⟨p4, _, rfl, .inr h4, rfl, flat_names _, ?_⟩
    show Q (.bl (!inV (.str (SX.S w)) (nmV (r.dn ++ r.up)))) H4
    rw [in_names, decide_eq_false (hk.2 r hr1 hrn)]
    exact q _ (s1.trans s4)
theorem ok_is_target (cis_at : C8.Cal P w K mg base 2 "is_at" (spIsAt K) []) (cis_kept : C8.Cal P w K mg base 2 "is_kept" (spIsKept K) []) (cworths_at : C8.Cal P w K mg base 2 "worths_at" (spWorthsAt K) []) (D : Dd K mg "is_target" s_is_target P_is_target) : C8.Cal P w K mg base 3 "is_target" (spIsTg K) [] := by
  refine D.cal sc_is_target (fun vs H Q E h => ?_) (fun f cdv A outer s H vs Q E hr h => ?_)
  · obtain ⟨v, fv, sd, rs, mr, e, rfl, _⟩ := h
    rfl
  · obtain ⟨v, fv, sd, rs, mr, e, rfl, hd, fm, hk, q⟩ := h
    refine ⟨_, (pss_cons (ps_if (pt_not (pt_val (C8.pe_c cis_at hr (by decide) (by rfl) (pa_cons (pv 0) pa_nil))))
          (pss_one (ps_ret (C8.pe_c cis_kept hr (by decide) (by rfl) (pa_cons (pv 0) (pa_cons (pv 1) (pa_cons (pv 2) pa_nil))))))
          pss_nil)
        (pss_cons (ps_asg (C8.pe_c cworths_at hr (by decide) (by rfl) (pa_cons (pe_ix ix_tup (pv 0) pe_int (fun _ _ => rfl)) (pa_cons (pv 1) (pa_cons (pv 2) pa_nil)))) (pg_tup rfl (pgs_cons (pg_name (i := 3) sc_is_target.nd rfl (Or.inl rfl)) (pgs_cons (pg_name (i := 4) sc_is_target.nd rfl (Or.inl rfl)) pgs_nil))))
        (pss_one (ps_ret (pe_cmpR op_in_seq (pe_ix ix_tup (pv 0) pe_int (fun _ _ => rfl)) (pe_ifExp (pt_cmpR op_eq (pe_ix ix_tup (pv 0) pe_int (fun _ _ => rfl)) pe_int (nomark _)) (pv 4) (pv 3)) (by with_unfolding_all rfl)))))), ?_⟩
    refine ⟨_, rfl, v, .en e, rfl, hd, _, rfl, ?_⟩
    cases e with
    | kept w =>
      refine iteT ?_
      exact ⟨_, rfl, _, rfl, _, rfl, v, fv, sd, rs, mr, w, rfl, hd, fm, hk, q⟩
    | sp p w =>
      refine iteF ?_
      obtain ⟨q0, rfl, hq⟩ := sp_at hd
      obtain ⟨k, r, hpk, hr1, rfl, hw⟩ := hk
      refine ⟨_, rfl, q0, _, 1, .int (p : Nat), rfl, rfl, hq, atI_nat (j := 1) rfl, _, rfl, _, rfl, p, fv, sd, rs, mr, r, rfl, fm, hr1, hpk, fun H1 q1 t1 t2 s1 hq1 ht1 ht2 => ?_⟩
      refine ⟨q1, _, rfl, hq1, rfl, _, _, rfl, _, _, rfl, rfl, ?_⟩
      refine ⟨_, rfl, q0, _, 2, .str (SX.S w), rfl, rfl, sqT_s s1 hq, atI_nat (j := 2) rfl, ?_⟩
      refine ⟨_, rfl, q0, _, 1, .int (p : Nat), rfl, rfl, sqT_s s1 hq, atI_nat (j := 1) rfl, rfl, _, rfl, ?_⟩
      by_cases hp : p = 0
      · subst hp
        refine ifT rfl ?_
        refine ⟨_, rfl, t2, _, rfl, .inr ht2, rfl, flat_names _, ?_⟩
        show Q (.bl (inV (.str (SX.S w)) (nmV r.up))) H1
        rw [in_names, decide_eq_true (show w ∈ r.up from hw)]
        exact q _ s1
      · refine ifF (decide_eq_false (fun z => hp (by have := V.int.inj z; omega))) ?_
        refine ⟨_, rfl, t1, _, rfl, .inr ht1, rfl, flat_names _, ?_⟩
        show Q (.bl (inV (.str (SX.S w)) (nmV r.dn))) H1
        rw [decide_eq_false hp] at hw
        rw [in_names, decide_eq_true (show w ∈ r.dn from hw)]
        exact q _ s1
theorem ok_is_operand (cis_at : C8.Cal P w K mg base 2 "is_at" (spIsAt K) []) (cis_kept : C8.Cal P w K mg base 2 "is_kept" (spIsKept K) []) (cworths_at : C8.Cal P w K mg base 2 "worths_at" (spWorthsAt K) []) (cis_tuple_of : C8.Cal P w K mg base 1 "is_tuple_of" (spTupOf K) []) (cis_worth : C8.Cal P w K mg base 2 "is_worth" (spWorth K) []) (D : Dd K mg "is_operand" s_is_operand P_is_operand) : C8.Cal P w K mg base 3 "is_operand" (spIsOd K) [] := by
  refine D.cal sc_is_operand (fun vs H Q E h => ?_) (fun f cdv A outer s H vs Q E hr h => ?_)
  · obtain ⟨v, fv, sd, rs, mr, o, rfl, _⟩ := h
    rfl
  · obtain ⟨v, fv, sd, rs, mr, o, rfl, hd, fm, hk, q⟩ := h
    refine ⟨_, (pss_cons (ps_if (pt_val (C8.pe_c cis_at hr (by decide) (by rfl) (pa_cons (pv 0) pa_nil)))
          (pss_cons (ps_asg (C8.pe_c cworths_at hr (by decide) (by rfl) (pa_cons (pe_ix ix_tup (pv 0) pe_int (fun _ _ => rfl)) (pa_cons (pv 1) (pa_cons (pv 2) pa_nil)))) (pg_tup rfl (pgs_cons (pg_name (i := 3) sc_is_operand.nd rfl (Or.inl rfl)) (pgs_cons (pg_name (i := 4) sc_is_operand.nd rfl (Or.inl rfl)) pgs_nil))))
        (pss_one (ps_ret (pe_cmpR op_in_seq (pe_ix ix_tup (pv 0) pe_int (fun _ _ => rfl)) (pe_ifExp (pt_cmpR op_eq (pe_ix ix_tup (pv 0) pe_int (fun _ _ => rfl)) pe_int (nomark _)) (pv 3) (pv 4)) (by with_unfolding_all rfl)))))
          pss_nil)
        (pss_cons (ps_if (PW.pt (pw_and (pt_val (C8.pe_c cis_tuple_of hr (by decide) (by rfl) (pa_cons (pv 0) (pa_cons pe_int pa_nil)))) (pw_and1 (pt_cmpR op_eq (pe_ix ix_tup (pv 0) pe_int (fun _ _ => rfl)) pe_str (nomark _)))))
          (pss_one (ps_ret (C8.pe_c cis_worth hr (by decide) (by rfl) (pa_cons (pe_ix ix_tup (pv 0) pe_int (fun _ _ => rfl)) pa_nil))))
          pss_nil)
        (pss_one (ps_ret (pe_or (pe_cmpR (op_eqD hr.units) (pv 0) (pe_tup (pa_cons pe_str pa_nil)) (nomark _)) (pe_one (C8.pe_c cis_kept hr (by decide) (by rfl) (pa_cons (pv 0) (pa_cons (pv 1) (pa_cons (pv 2) pa_nil)))))))))), ?_⟩
    refine ⟨_, rfl, v, o, rfl, hd, _, rfl, ?_⟩
    cases o with
    | own =>
      refine iteF ?_
      refine ⟨_, rfl, v, _, 2, rfl, hd, _, rfl, ifF rfl ?_⟩
      refine ⟨_, rfl, by show 1 ≤ sizeLine; decide, fun p n => ?_⟩
      have s1 := same_upd (o := .tup [.str "own"]) n
      refine ⟨Od.d .own, Od.d .own, dp_same s1 hd, .tup (SqT.of upd_same) (.cons (.str _) .nil), own_sh, own_sh, _, rfl, ?_⟩
      rw [SeqAt.eqv_refl _ (SeqAt.canLay_of_shaped own_sh)]
      exact iteT (q _ s1)
    | num n =>
      refine iteF ?_
      obtain ⟨q0, rfl, hq⟩ := num_at hd
      refine ⟨_, rfl, .ref q0, _, 2, rfl, hd, _, rfl, ifT rfl ?_⟩
      refine ⟨_, rfl, q0, _, 0, .str "number", rfl, rfl, hq, atI_nat (j := 0) rfl, rfl, _, rfl, ifT rfl ?_⟩
      refine ⟨_, rfl, q0, _, 1, .int (n : Nat), rfl, rfl, hq, atI_nat (j := 1) rfl, _, .int (n : Nat), rfl, .int _, ?_⟩
      have e : worthB (.int (n : Nat)) = true := by
        show (decide ((0 : Int) ≤ (n : Int)) && decide ((n : Int) < 1000000)) = true
        have hk : n < 1000000 := hk
        rw [decide_eq_true (by omega), decide_eq_true (by omega)]
        rfl
      rw [e]
      exact q _ (Same.refl H)
    | en e =>
      cases e with
      | kept w =>
        refine iteF ?_
        obtain ⟨q0, rfl, hq⟩ := kp_at hd
        refine ⟨_, rfl, .ref q0, _, 2, rfl, hd, _, rfl, ifT rfl ?_⟩
        refine ⟨_, rfl, q0, _, 0, .str "kept", rfl, rfl, hq, atI_nat (j := 0) rfl, rfl, _, rfl, ifF rfl ?_⟩
        refine ⟨_, rfl, by show 1 ≤ sizeLine; decide, fun p n => ?_⟩
        have s1 := same_upd (o := .tup [.str "own"]) n
        refine ⟨En.d (.kept w), Od.d .own, dp_same s1 hd, .tup (SqT.of upd_same) (.cons (.str _) .nil), kept_sh hk.1, own_sh, _, rfl, ?_⟩
        rw [show PyData.eqv (En.d (.kept w)) (Od.d .own) = false from kept_own w]
        refine iteF ?_
        exact ⟨_, rfl, _, rfl, _, rfl, .ref q0, fv, sd, rs, mr, w, rfl, dp_same s1 hd, fm.same s1, hk, fun H' s' => q _ (s1.trans s')⟩
      | sp p w =>
        refine iteT ?_
        obtain ⟨q0, rfl, hq⟩ := sp_at hd
        obtain ⟨k, r, hpk, hr1, rfl, hw⟩ := hk
        refine ⟨_, rfl, q0, _, 1, .int (p : Nat), rfl, rfl, hq, atI_nat (j := 1) rfl, _, rfl, _, rfl, p, fv, sd, rs, mr, r, rfl, fm, hr1, hpk, fun H1 q1 t1 t2 s1 hq1 ht1 ht2 => ?_⟩
        refine ⟨q1, _, rfl, hq1, rfl, _, _, rfl, _, _, rfl, rfl, ?_⟩
        refine ⟨_, rfl, q0, _, 2, .str (SX.S w), rfl, rfl, sqT_s s1 hq, atI_nat (j := 2) rfl, ?_⟩
        refine ⟨_, rfl, q0, _, 1, .int (p : Nat), rfl, rfl, sqT_s s1 hq, atI_nat (j := 1) rfl, rfl, _, rfl, ?_⟩
        by_cases hp : p = 0
        · subst hp
          refine ifT rfl ?_
          refine ⟨_, rfl, t1, _, rfl, .inr ht1, rfl, flat_names _, ?_⟩
          show Q (.bl (inV (.str (SX.S w)) (nmV r.dn))) H1
          rw [in_names, decide_eq_true (show w ∈ r.dn from hw)]
          exact q _ s1
        · refine ifF (decide_eq_false (fun z => hp (by have := V.int.inj z; omega))) ?_
          refine ⟨_, rfl, t2, _, rfl, .inr ht2, rfl, flat_names _, ?_⟩
          show Q (.bl (inV (.str (SX.S w)) (nmV r.up))) H1
          rw [decide_eq_false hp] at hw
          rw [in_names, decide_eq_true (show w ∈ r.up from hw)]
          exact q _ s1
end
/-! ### a list is made longer by a tuple -/
open PySem PyProof in
theorem ext_tup (l : Addr) (items : Array Value) (n : Nat) (b : Addr) (items2 : Array Value) (n2 : Nat) (dd : Option Addr) (sl : Array (Option Value)) (hs0 : ¬(!items.isEmpty && Builtin.List.listTooLong (items.size + items2.size)) = true) (hs1 : items.size ≤ sizeLine) (hs2 : items.size + items2.size ≤ sizeLine + 1) :
    Meets (Builtin.«list.extend» ⟨[.ref l, .ref b], []⟩) (fun _ R s => s.heap.get? l = some { cls := .type "list", dict := none, data := .seq items n, slots := #[] } ∧ s.heap.get? b = some { cls := .type "tuple", dict := dd, data := .seq items2 n2, slots := sl } ∧ R (.ok (.ret Value.none)) { s with heap := s.heap.update l (Obj.mapSeq fun x => x ++ items2), toks := s.toks }) :=
  .of_wp fun prog w A R s h => by
    obtain ⟨hp, g, d, tk, os⟩ := s; obtain ⟨hl, hb, h⟩ := h; have f1 := AutoSeq1.idx_int; have f2 := AutoSeq1.sub_tuple_tuple; have f3 := AutoSeq1.sub_list_list; have f4 := AutoSeq1.sub_tuple_list; have f5 := AutoSeq1.sub_list_tuple;
    have hz' : (items ++ items2).size ≤ sizeLine + 1 := by rw [Array.size_append]; exact hs2
    wp_walk using (wpAny_updateSeq hl rfl (hz := hs1) (_hz' := hz')), wpAny_loadPart' hl, wpAny_loadPart' hb; exact ⟨_, rfl, h⟩
section
variable {X : Cx}
def rExtendT (K : PySem.W.Frag) : V → List V → Hp → VK → Prop := fun x vs H Q => ∃ l b xs zs, x = .ref l ∧ vs = [.ref b] ∧ H l = some (.lst xs) ∧ SqT K H b zs ∧ xs.length + zs.length ≤ sizeLine ∧ Q .non (upd H l (.lst (xs ++ zs)))
theorem mt_extendT : MtM X "list.extend" (rExtendT X.K) := by
  intro pins s σ H x vs v us Q I rx rv h
  obtain ⟨l, b, xs, zs, rfl, rfl, hH, hB, hz, q⟩ := h
  cases rx
  obtain ⟨u, rfl, ru⟩ := rv.one
  cases ru
  obtain ⟨z, its, n, r, hl, e⟩ := I.lstM hH
  obtain ⟨its2, ⟨c2, d2, dt2, sl2⟩, n2, r2, e2, rfl, rfl⟩ := sqT_at I.hok I.kIn hB
  have l2 := r2.length
  have hsz : its.toArray.size + its2.toArray.size ≤ sizeLine := by rw [List.size_toArray, List.size_toArray]; omega
  have hlong : ¬ (!its.toArray.isEmpty && Builtin.List.listTooLong (its.toArray.size + its2.toArray.size)) = true := by
    rw [notLongL hsz, Bool.and_false]
    exact Bool.false_ne_true
  refine call_meets PySem.F.slot_list_extend ⟨_, e, rfl⟩ PySem.F.entry_list_extend (PySem.F.args_list_extend_2 _ _)
    (ext_tup l its.toArray n b its2.toArray n2 d2 sl2 hlong (by rw [List.size_toArray]; omega) (by omega)) ⟨e, e2, ?_⟩
  refine ⟨.non, _, I.lset (its' := its ++ its2) hH e (by simp) (r.append r2) ?_, rfl, q⟩
  rw [List.length_append]
  omega
end
abbrev s_kept_by : Stmt := top 37
abbrev N_kept_by : List Str := ["making", "rules", "terms", "whose", "target", "term"]
abbrev P_kept_by : List Str := ["making", "rules"]
theorem sc_kept_by : FnScope N_kept_by P_kept_by (defScope s_kept_by) := ⟨rfl, rfl, rfl, by decide +kernel, rfl, by decide +kernel, by decide +kernel⟩
theorem hu9 {n : Nat} (h : n + 65 < cLine) : n + 9 < cLine := by omega
/-! ### the table of rules -/
def RRow.kd (r : RRow) : PyData := .tuple [strD r.ma, r.tg.d]
def RRow.vd (r : RRow) : PyData := .tuple [strD r.op, .tuple (r.os.map Od.d)]
theorem RRow.kd_imm (r : RRow) : Thr.imm r.kd = true := by
  show (true && (Thr.imm r.tg.d && true)) = true
  rw [r.tg.imm]
  rfl
theorem RRow.vd_imm (r : RRow) : Thr.imm r.vd = true := by
  show (true && (immAll (r.os.map Od.d) && true)) = true
  rw [immAll_map Od.imm]
  rfl
theorem en_key {e e' : En} (h : keyD e.d = keyD e'.d) : e = e' := by
  cases e with
  | sp p w =>
    cases e' with
    | sp p' w' =>
      have h1 : NestedKey.tup [.text "at", .num (p : Int), .text (SX.S w)] = NestedKey.tup [.text "at", .num (p' : Int), .text (SX.S w')] := h
      simp only [NestedKey.tup.injEq, List.cons.injEq, NestedKey.num.injEq, NestedKey.text.injEq, and_true, true_and] at h1
      rw [SX.S_inj h1.2, Int.ofNat.inj h1.1]
    | kept w' =>
      have h1 : NestedKey.tup [.text "at", .num (p : Int), .text (SX.S w)] = NestedKey.tup [.text "kept", .text (SX.S w')] := h
      simp at h1
  | kept w =>
    cases e' with
    | sp p' w' =>
      have h1 : NestedKey.tup [.text "kept", .text (SX.S w)] = NestedKey.tup [.text "at", .num (p' : Int), .text (SX.S w')] := h
      simp at h1
    | kept w' =>
      have h1 : NestedKey.tup [.text "kept", .text (SX.S w)] = NestedKey.tup [.text "kept", .text (SX.S w')] := h
      simp only [NestedKey.tup.injEq, List.cons.injEq, NestedKey.text.injEq, and_true, true_and] at h1
      rw [SX.S_inj h1]
theorem kd_inj {ma ma' : List Nat} {e e' : En} (h : keyD (.tuple [strD ma, e.d]) = keyD (.tuple [strD ma', e'.d])) : ma = ma' ∧ e = e' := by
  have h1 : NestedKey.tup [.text (SX.S ma), keyD e.d] = NestedKey.tup [.text (SX.S ma'), keyD e'.d] := h
  simp only [NestedKey.tup.injEq, List.cons.injEq, NestedKey.text.injEq, and_true] at h1
  exact ⟨SX.S_inj h1.1, en_key h1.2⟩
def RPr (K : PySem.W.Frag) (H : Hp) (kvs : List NE) (ru : List RRow) : Prop := Paired (fun p r => p.1 = keyD r.kd ∧ Dp K H (.ref p.2.1) r.kd ∧ Dp K H p.2.2 r.vd) kvs ru
theorem RPr.keys {K : PySem.W.Frag} {H : Hp} : ∀ {kvs : List NE} {ru : List RRow}, RPr K H kvs ru → KeysN K H kvs
  | _, _, .nil => KeysN.nil
  | _, _, .cons (b := r) a h => fun p hp => by
    rcases List.mem_cons.mp hp with rfl | hp
    · exact ⟨r.kd, a.1, a.2.1, r.kd_imm, key_depth _ _⟩
    · exact RPr.keys h p hp
theorem RPr.keep {K : PySem.W.Frag} {H H' : Hp} (k : KeepT H H') {kvs : List NE} {ru : List RRow} (h : RPr K H kvs ru) : RPr K H' kvs ru :=
  paired_mono (fun _ r a => ⟨a.1, dp_imm k a.2.1 r.kd_imm, dp_imm k a.2.2 r.vd_imm⟩) h
theorem RPr.none {K : PySem.W.Frag} {H : Hp} {ma : List Nat} {e : En} : ∀ {kvs : List NE} {ru : List RRow}, RPr K H kvs ru → (∀ r ∈ ru, r.ma = ma → r.tg ≠ e) → valN kvs (keyD (.tuple [strD ma, e.d])) = Option.none
  | _, _, .nil, _ => rfl
  | _, _, .cons (a := p) (b := r) a h, hn => by
    show (if p.1 = _ then some p.2.2 else valN _ _) = Option.none
    rw [if_neg, RPr.none h fun r' hr' => hn r' (List.mem_cons_of_mem _ hr')]
    intro z
    obtain ⟨z1, z2⟩ := kd_inj (a.1.symm.trans z)
    exact hn r (List.mem_cons_self ..) z1 z2
/-- rules of one making have unlike targets -/
def RuNd (ru : List RRow) : Prop := ru.Pairwise fun r r' => r.ma = r'.ma → r.tg ≠ r'.tg
theorem RPr.val {K : PySem.W.Frag} {H : Hp} {r : RRow} : ∀ {kvs : List NE} {ru : List RRow}, RPr K H kvs ru → RuNd ru → r ∈ ru → ∃ v, valN kvs (keyD r.kd) = some v ∧ Dp K H v r.vd
  | _, _, .nil, _, h => nomatch h
  | _, _, .cons (a := p) (b := r0) a h, hn, hm => by
    unfold RuNd at hn
    rw [List.pairwise_cons] at hn
    rcases List.mem_cons.mp hm with rfl | hm
    · exact ⟨p.2.2, if_pos a.1, a.2.2⟩
    · obtain ⟨v, e, hd⟩ := RPr.val h hn.2 hm
      refine ⟨v, ?_, hd⟩
      show (if p.1 = _ then some p.2.2 else valN _ _) = some v
      rw [if_neg, e]
      intro z
      obtain ⟨z1, z2⟩ := kd_inj (a.1.symm.trans z)
      exact hn.1 r hm z1 z2
theorem RPr.at_ {K : PySem.W.Frag} {H : Hp} {p : NE} : ∀ {kvs : List NE} {ru : List RRow} {i : Nat}, RPr K H kvs ru → kvs[i]? = some p → ∃ r, ru[i]? = some r ∧ Dp K H (.ref p.2.1) r.kd
  | _, _, _, .nil, h => by cases h
  | _, _, 0, .cons (b := r) a _, h => by
    cases h
    exact ⟨r, rfl, a.2.1⟩
  | _, _, i + 1, .cons _ rr, h => by
    obtain ⟨r, e, hd⟩ := RPr.at_ (i := i) rr h
    exact ⟨r, e, hd⟩
/-- what a rule names -/
def rOds (r : RRow) : List Od := .en r.tg :: r.os
def odsOf (m : List Nat) (ru : List RRow) : List Od := (ru.filter fun r => decide (r.ma = m)).flatMap rOds
def keptNames (m : List Nat) (ru : List RRow) : List (List Nat) := (odsOf m ru).flatMap odName
theorem odsOf_snoc (m : List Nat) (ru : List RRow) (r : RRow) : odsOf m (ru ++ [r]) = odsOf m ru ++ (if r.ma = m then rOds r else []) := by
  unfold odsOf
  rw [List.filter_append, List.flatMap_append]
  by_cases h : r.ma = m
  · rw [if_pos h]
    simp [h]
  · rw [if_neg h]
    simp [h]
theorem kd_at {K : PySem.W.Frag} {H : Hp} {b : Addr} {r : RRow} (h : Dp K H (.ref b) r.kd) : ∃ v, SqT K H b [.str (SX.S r.ma), v] ∧ Dp K H v r.tg.d := by
  cases h with
  | tup hS hA =>
    cases hA with
    | cons a1 hA =>
      cases hA with
      | cons a2 hA =>
        cases hA
        cases a1
        exact ⟨_, hS, a2⟩
theorem vd_at {K : PySem.W.Frag} {H : Hp} {v : V} {r : RRow} (h : Dp K H v r.vd) : ∃ q t us, v = .ref q ∧ SqT K H q [.str (SX.S r.op), .ref t] ∧ SqT K H t us ∧ DpAll K H us (r.os.map Od.d) := by
  cases h with
  | tup hS hA =>
    cases hA with
    | cons a1 hA =>
      cases hA with
      | cons a2 hA =>
        cases hA
        cases a1
        cases a2 with
        | tup hS2 hA2 => exact ⟨_, _, _, rfl, hS, hS2, hA2⟩
theorem KeepT.ext {P : Program} {w : World} {H Y : Hp} {rd : Addr} {kvs : List NE} (hrd : H rd = some (dnO P w rd kvs)) (b : But rd H Y) : KeepT H Y := fun c o ht hc => b c o (fun z => by
  rw [z, hrd] at hc
  have hc := Option.some.inj hc
  subst hc
  rcases ht with ⟨_, e⟩ | ⟨_, _, e⟩
  · cases e
  · cases e) hc
theorem ods_len {m : List Nat} {ru : List RRow} (h : ∀ r ∈ ru, r.os.length ≤ 3) : ∀ j, (odsOf m (ru.take j)).length ≤ 4 * j := fun j => by
  induction j with
  | zero => exact Nat.le_refl _
  | succ j ih =>
    rw [List.take_add_one]
    cases e : ru[j]? with
    | none =>
      rw [Option.toList_none, List.append_nil]
      omega
    | some r =>
      have := h r (List.mem_of_getElem? e)
      rw [Option.toList_some, odsOf_snoc, List.length_append]
      split
      · show _ + (r.os.length + 1) ≤ _
        omega
      · show _ + 0 ≤ _
        omega
theorem names_len : ∀ os : List Od, (os.flatMap odName).length ≤ os.length
  | [] => Nat.le_refl _
  | o :: os => by
    rw [List.flatMap_cons, List.length_append, List.length_cons]
    have := names_len os
    have h1 : (odName o).length ≤ 1 := by
      cases o with
      | own => exact Nat.zero_le _
      | num n => exact Nat.zero_le _
      | en e =>
        cases e with
        | sp p w => exact Nat.zero_le _
        | kept w => exact Nat.le_refl _
    omega
def spKeptBy (K : PySem.W.Frag) (P : Program) (w : World) : Sp := fun vs H Q _ => ∃ (m : List Nat) (rd : Addr) (kvs : List NE) (ru : List RRow), vs = [.str (SX.S m), .ref rd] ∧ H rd = some (dnO P w rd kvs) ∧ RPr K H kvs ru ∧ RuNd ru ∧ ru.length ≤ 240 ∧ (∀ r ∈ ru, r.os.length ≤ 3) ∧ (gotTx ((keptNames m ru).map SX.S)).length < 64 ∧
  ∀ (H' : Hp) (l : Addr) (ys : List Str), Same H H' → H l = none → H' l = some (.lst (ys.map V.str)) → ys.Perm (gotTx ((keptNames m ru).map SX.S)) → sortedS ys = true → Q (.ref l) H'
section
variable {P : Program} {w : World} {K : PySem.W.Frag} {mg : Str → Option Value} {base : Heap} {PD LA : Addr}
theorem ok_kept_by (T : Gb mg) (D : Dd K mg "kept_by" s_kept_by P_kept_by) : C8.Cal P w K mg base 1 "kept_by" (spKeptBy K P w) [] := by
  refine D.cal sc_kept_by (fun vs H Q E h => ?_) (fun f cdv A outer s H vs Q E hr h => ?_)
  · obtain ⟨m, rd, kvs, ru, rfl, _⟩ := h
    rfl
  · obtain ⟨m, rd, kvs, ru, rfl, hrd, hpr, hnd, hle, hos, hfew, q⟩ := h
    refine ⟨_, (pss_cons (ps_set (i := 2) sc_kept_by.nd rfl (Or.inl rfl) (pe_lst pa_nil))
        (pss_cons (ps_lock (ps_for PassesOwn.never rfl (pi_keysN (pv 1)) (pg_tup rfl (pgs_cons (pg_name (i := 3) sc_kept_by.nd rfl (Or.inl rfl)) (pgs_cons (pg_name (i := 4) sc_kept_by.nd rfl (Or.inl rfl)) pgs_nil)))
          (pss_one (ps_if (pt_cmpR op_eq (pv 3) (pv 0) (nomark _))
          (pss_cons (ps_expr (pe_bm PySem.F.plainAttrs_list PySem.F.slot_list_append PySem.F.type_list_append mt_append (pv 2) (pa_cons (pv 4) pa_nil)))
        (pss_one (ps_expr (pe_bm PySem.F.plainAttrs_list PySem.F.slot_list_extend PySem.F.type_list_extend mt_extendT (pv 2) (pa_cons (pe_ix (r := rIxT K) ix_tup (pe_dgetN (hu9 (hu65 hr)) (pv 1) (pe_tup (pa_cons (pv 3) (pa_cons (pv 4) pa_nil))) (fun _ _ => rfl)) pe_int (fun _ _ => rfl)) pa_nil)))))
          pss_nil))))
        (pss_one (ps_ret (pe_callB (cr_sortTx rfl) (by rfl) T.sorted (by decide +kernel) (pa_cons (pe_callTy (cr_setTx rfl) (by rfl) T.set (by decide +kernel) (pa_cons (pe_lc (own := [("term", 5)]) (by exact rfl) sc_kept_by.nd (pi_list (pv 2)) (blkOk_by (own := [("term", 5)]) (N := N_kept_by) (sc := defScope s_kept_by) (by decide +kernel)) (fun _ _ _ _ _ => (pg_name (i := 5) sc_kept_by.nd rfl (Or.inl rfl))) (fun _ _ _ _ _ => (pts_one (pt_cmpR op_eq (pe_ix (r := rIxT K) ix_tup (pv 5) pe_int (fun _ _ => rfl)) pe_str (nomark _)))) (fun _ _ _ _ _ => (pe_ix (r := rIxT K) ix_tup (pv 5) pe_int (fun _ _ => rfl)))) pa_nil)) pa_nil)))))), ?_⟩
    refine ⟨by show 0 ≤ sizeLine; decide, fun l nl => ?_⟩
    have s1 := same_upd (o := .lst []) nl
    have nlr : l ≠ rd := fun z => by
      rw [z, hrd] at nl
      cases nl
    have lk : kvs.length = ru.length := paired_len hpr
    have olen : ∀ j, (odsOf m (ru.take j)).length ≤ 4 * j := ods_len hos
    refine ⟨rd, dnO P w rd kvs, s1 _ _ hrd, trivial, fun od => ?_⟩
    refine ⟨_, rfl, rd, od, kvs, rfl, upd_same, ?_⟩
    refine for_it walk_keysN (fun j σ Y => ∃ (y3 y4 y5 : Option V) (tv : List V), σ = [some (.str (SX.S m)), some (.ref rd), some (.ref l), y3, y4, y5] ∧ Y rd = some (.frz od (dnO P w rd kvs)) ∧ But rd H Y ∧ Y l = some (.lst tv) ∧ DpAll K H tv ((odsOf m (ru.take j)).map Od.d))
      ⟨none, none, none, [], rfl, upd_same, fun b o nb hb => by rw [upd_ne nb]; exact s1 _ _ hb, by rw [upd_ne nlr]; exact upd_same, .nil⟩ (fun j σ Y _ ⟨_, _, _, _, _, h, _⟩ => h) ?_ ?_
    · rintro j v σ Y0 Y hj ⟨y3, y4, y5, tv, rfl, hfz, bt, hl, hd⟩ ⟨rfl, p, hp, rfl⟩
      obtain ⟨r, hr1, hk⟩ := hpr.at_ hp
      have kH := KeepT.ext hrd bt
      obtain ⟨tgv, hS, htg⟩ := kd_at hk
      have tk : ru.take (j + 1) = ru.take j ++ [r] := by rw [List.take_add_one, hr1]; rfl
      have ltv := dpAll_len hd
      rw [List.length_map] at ltv
      have ol := olen j
      have hjr : j < ru.length := (List.getElem?_eq_some_iff.mp hr1).1
      refine ⟨p.2.1, _, rfl, kH.seqT hS, rfl, _, _, rfl, _, _, rfl, rfl, ?_⟩
      refine ⟨_, rfl, _, rfl, rfl, _, rfl, ?_⟩
      by_cases hm : r.ma = m
      · refine ifT (decide_eq_true (by rw [hm])) ?_
        obtain ⟨vv, hv, hvd⟩ := hpr.val hnd (List.mem_of_getElem? hr1)
        obtain ⟨q0, t, us, rfl, hq0, ht, hus⟩ := vd_at hvd
        have lus := dpAll_len hus
        rw [List.length_map] at lus
        have h3 := hos r (List.mem_of_getElem? hr1)
        refine ⟨_, rfl, .inl ⟨rfl, _, SqL.of hl⟩, ?_⟩
        refine ⟨_, rfl, l, tv, tgv, rfl, rfl, hl, small1000 (by omega), ?_⟩
        refine ⟨_, rfl, .inl ⟨rfl, _, SqL.of upd_same⟩, ?_⟩
        have btA : But rd H (upd Y l (.lst (tv ++ [tgv]))) := fun b o nb hb => by
          rw [upd_ne (ne_of_none hb nl)]
          exact bt b o nb hb
        refine ⟨_, rfl, _, rfl, _, rfl, by show 2 ≤ sizeLine; decide, fun b nb => ?_⟩
        have btB : But rd H (upd (upd Y l (.lst (tv ++ [tgv]))) b (.tup [.str (SX.S r.ma), tgv])) := fun c o nc hc => by
          rw [upd_ne (ne_of_none (btA c o nc hc) nb)]
          exact btA c o nc hc
        have nbl : l ≠ b := fun z => by
          rw [← z, upd_same] at nb
          cases nb
        have nbr : rd ≠ b := fun z => by
          rw [← z, upd_ne (Ne.symm nlr), hfz] at nb
          cases nb
        have kB := KeepT.ext hrd btB
        refine ⟨rd, b, kvs, r.kd, .ref q0, rfl, .inr ⟨od, by rw [upd_ne nbr, upd_ne (Ne.symm nlr)]; exact hfz⟩, hpr.keys.keep kB, ⟨rfl, .tup (SqT.of upd_same) (.cons (.str _) (.cons (dp_imm kB htg r.tg.imm) .nil)), r.kd_imm, key_depth _ _⟩, hv, ?_⟩
        refine ⟨q0, _, 1, .ref t, rfl, rfl, kB.seqT hq0, atI_nat (j := 1) rfl, ?_⟩
        refine ⟨l, t, tv ++ [tgv], us, rfl, rfl, by rw [upd_ne nbl]; exact upd_same, kB.seqT ht, by rw [List.length_append, List.length_singleton]; exact Nat.le_of_lt (small1000 (by omega)), ?_⟩
        refine ⟨_, _, _, _, rfl, ?_, ?_, upd_same, ?_⟩
        · rw [upd_ne (Ne.symm nlr), upd_ne nbr, upd_ne (Ne.symm nlr)]
          exact hfz
        · intro c o nc hc
          rw [upd_ne (ne_of_none hc nl)]
          exact btB c o nc hc
        · rw [tk, odsOf_snoc, if_pos hm, List.map_append, List.append_assoc]
          exact dpAll_appI hd (.cons htg hus)
      · refine ifF (decide_eq_false (fun z => hm (SX.S_inj (V.str.inj z)))) ?_
        refine ⟨_, _, _, tv, rfl, hfz, bt, hl, ?_⟩
        rw [tk, odsOf_snoc, if_neg hm, List.append_nil]
        exact hd
    · rintro σ Y ⟨y3, y4, y5, tv, rfl, hfz, bt, hl, hd⟩
      refine ⟨hfz, ?_⟩
      rw [lk, List.take_length] at hd
      have sZ : Same H (upd Y rd (dnO P w rd kvs)) := fun b o hb => by
        by_cases z : b = rd
        · rw [z, upd_same, ← hrd, ← z]
          exact hb
        · rw [upd_ne z]
          exact bt b o z hb
      have hlZ : (upd Y rd (dnO P w rd kvs)) l = some (.lst tv) := by
        rw [upd_ne nlr]
        exact hl
      obtain ⟨Z, eZ⟩ : ∃ Z, Z = upd Y rd (dnO P w rd kvs) := ⟨_, rfl⟩
      rw [← eZ] at sZ hlZ ⊢
      clear eZ hl bt hfz
      have ltv := dpAll_len hd
      rw [List.length_map] at ltv
      have ol := olen ru.length
      rw [List.take_length] at ol
      refine ⟨_, rfl, l, rfl, ⟨_, SqL.of hlZ⟩, fun D nD => ?_⟩
      refine lc_list (K := K) (a := l) (xs := tv) (fun j U => Same Z U ∧ U D = some (.lst (((((odsOf m ru).take j).flatMap odName).map SX.S).map V.str))) ⟨same_upd nD, upd_same⟩ (fun j U _ h => SqL.of (h.1 _ _ hlZ)) ?_ ?_
      · rintro j x U hx ⟨sU, hD⟩
        obtain ⟨o, ho, hxd⟩ := row_of hd hx
        have hxU := dp_same (sZ.trans sU) hxd
        have tk : (odsOf m ru).take (j + 1) = (odsOf m ru).take j ++ [o] := by rw [List.take_add_one, ho]; rfl
        have hj : j < (odsOf m ru).length := (List.getElem?_eq_some_iff.mp ho).1
        have small : ((((odsOf m ru).take j).flatMap odName).map SX.S).length ≤ 4 * 240 := by
          rw [List.length_map]
          refine Nat.le_trans (names_len _) ?_
          rw [List.length_take]
          omega
        refine ⟨rfl, ?_⟩
        rw [tk, List.flatMap_append, List.map_append, List.map_append]
        cases o with
        | own =>
          cases hxU with
          | tup hS hA =>
            cases hA with
            | cons a1 hA =>
              cases hA
              cases a1
              refine ⟨_, rfl, _, _, 0, .str "own", rfl, rfl, hS, atI_nat (j := 0) rfl, rfl, _, rfl, ifF (by decide +kernel) ⟨sU, ?_⟩⟩
              rw [show (List.flatMap odName [Od.own]) = [] from rfl, List.map_nil, List.map_nil, List.append_nil]
              exact hD
        | num n =>
          obtain ⟨q0, rfl, hq⟩ := num_at hxU
          refine ⟨_, rfl, q0, _, 0, .str "number", rfl, rfl, hq, atI_nat (j := 0) rfl, rfl, _, rfl, ifF (by decide +kernel) ⟨sU, ?_⟩⟩
          rw [show (List.flatMap odName [Od.num n]) = [] from rfl, List.map_nil, List.map_nil, List.append_nil]
          exact hD
        | en e =>
          cases e with
          | sp p w =>
            obtain ⟨q0, rfl, hq⟩ := sp_at hxU
            refine ⟨_, rfl, q0, _, 0, .str "at", rfl, rfl, hq, atI_nat (j := 0) rfl, rfl, _, rfl, ifF (by decide +kernel) ⟨sU, ?_⟩⟩
            rw [show (List.flatMap odName [Od.en (.sp p w)]) = [] from rfl, List.map_nil, List.map_nil, List.append_nil]
            exact hD
          | kept w =>
            obtain ⟨q0, rfl, hq⟩ := kp_at hxU
            refine ⟨_, rfl, q0, _, 0, .str "kept", rfl, rfl, hq, atI_nat (j := 0) rfl, rfl, _, rfl, ifT rfl ?_⟩
            refine ⟨_, rfl, q0, _, 1, .str (SX.S w), rfl, rfl, hq, atI_nat (j := 1) rfl, ?_⟩
            refine ⟨_, hD, small1000 (by rw [List.length_map]; omega), Same.at_ sU nD, ?_⟩
            rw [upd_same]
            rfl
      · rintro U ⟨sU, hD⟩
        rw [ltv, List.take_length] at hD
        have few : (keptNames m ru).length ≤ 1000 := by
          refine Nat.le_trans (names_len _) ?_
          omega
        refine ⟨D, (keptNames m ru).map SX.S, rfl, .inl (SqL.of hD), by rw [List.length_map]; exact few, fun p np => ?_⟩
        refine ⟨p, _, rfl, upd_same, hfew, fun ys p2 hys hso np2 => ?_⟩
        have sA := sZ.trans (sU.trans (same_upd (o := setTxO w p (gotTx ((keptNames m ru).map SX.S))) np))
        exact q _ p2 ys (sA.trans (same_upd np2)) (sA.free np2) upd_same hys hso
end
abbrev s_rule_is_so : Stmt := top 38
abbrev N_rule_is_so : List Str := ["row", "makings", "sorts", "cap", "making", "target", "op", "operands", "form", "operand"]
abbrev P_rule_is_so : List Str := ["row", "makings", "sorts", "cap"]
theorem sc_rule_is_so : FnScope N_rule_is_so P_rule_is_so (defScope s_rule_is_so) := ⟨rfl, rfl, rfl, by decide +kernel, rfl, by decide +kernel, by decide +kernel⟩
abbrev s_rules_in : Stmt := top 39
abbrev N_rules_in : List Str := ["rows", "makings", "sorts", "cap", "rules", "number", "row"]
abbrev P_rules_in : List Str := ["rows", "makings", "sorts", "cap"]
theorem sc_rules_in : FnScope N_rules_in P_rules_in (defScope s_rules_in) := ⟨rfl, rfl, rfl, by decide +kernel, rfl, by decide +kernel, by decide +kernel⟩
/-- the two tables -/
structure Tbs (K : PySem.W.Frag) (H : Hp) (md sd : Addr) (rs : List SRow) (ms : List MRow) : Prop where
  m : ∃ kvs, H md = some (.dK kvs) ∧ Tab K H kvs (ms.map mT)
  s : ∃ skv, H sd = some (.dK skv) ∧ Tab K H skv (rs.map sT)
  so : SortsOk rs
  nd : (ms.map MRow.nm).Nodup
  ok : ∀ m ∈ ms, MOk rs m
theorem Tbs.same {K : PySem.W.Frag} {H H' : Hp} {md sd : Addr} {rs : List SRow} {ms : List MRow} (s : Same H H') (h : Tbs K H md sd rs ms) : Tbs K H' md sd rs ms := by
  obtain ⟨skv, h1, h2⟩ := h.s
  obtain ⟨kvs, h3, h4⟩ := h.m
  exact ⟨⟨kvs, s _ _ h3, h4.keep (KeepT.of s) (fun t ht => by obtain ⟨r', _, e⟩ := List.mem_map.mp ht; rw [← e]; exact mT_imm r')⟩, ⟨skv, s _ _ h1, h2.keep (KeepT.of s) (fun t ht => by obtain ⟨r', _, e⟩ := List.mem_map.mp ht; rw [← e]; exact sT_imm r')⟩, h.so, h.nd, h.ok⟩
theorem Tbs.get {K : PySem.W.Frag} {H : Hp} {md sd : Addr} {rs : List SRow} {ms : List MRow} (h : Tbs K H md sd rs ms) {mr : MRow} (hm : mr ∈ ms) : ∃ v, DGet H md (.str (SX.S mr.nm)) (some v) ∧ Fm K H v sd rs mr := by
  obtain ⟨kvs, h3, h4⟩ := h.m
  obtain ⟨v, e, hd⟩ := h4.val (t := mT mr) (by rw [mT_k]; exact h.nd) (List.mem_map_of_mem hm)
  have hg := DGet.k (k := kS mr.nm) h3
  rw [show kS mr.nm = kS (mT mr).k from rfl, e] at hg
  exact ⟨v, hg, hd, h.s, h.so, h.ok mr hm⟩
structure RuleOk (rs : List SRow) (ms : List MRow) (roof : Nat) (r : RRow) : Prop where
  ex : ∃ mr ∈ ms, r.ma = mr.nm ∧ TgOk rs mr r.tg ∧ ∀ o ∈ r.os, OdOk rs mr o
  op : r.op ∈ opsOf roof
  ar : r.os.length = arOf r.op
theorem op_of {op : List Nat} {roof : Nat} (h : op ∈ opsOf roof) : ∃ o : Op, SX.S op = o.w ∧ arOf op = o.n ∧ (roof = 0 ∨ fineb o = true) := by
  have h4 : op ∈ OPS4 → ∃ o : Op, SX.S op = o.w ∧ arOf op = o.n ∧ fineb o = true := fun h => by
    unfold OPS4 at h
    simp only [List.mem_cons, List.not_mem_nil, or_false] at h
    rcases h with rfl | rfl | rfl | rfl
    · exact ⟨.copy, sl_S _, by decide +kernel, rfl⟩
    · exact ⟨.plus, sl_S _, by decide +kernel, rfl⟩
    · exact ⟨.least, sl_S _, by decide +kernel, rfl⟩
    · exact ⟨.most, sl_S _, by decide +kernel, rfl⟩
  unfold opsOf at h
  by_cases hr : roof = 0
  · rw [if_pos hr] at h
    rcases List.mem_append.mp h with h | h
    · obtain ⟨o, h1, h2, _⟩ := h4 h
      exact ⟨o, h1, h2, .inl hr⟩
    · unfold OPS8 at h
      simp only [List.mem_cons, List.not_mem_nil, or_false] at h
      rcases h with rfl | rfl | rfl | rfl | rfl | rfl | rfl | rfl
      · exact ⟨.plus, sl_S _, by decide +kernel, .inl hr⟩
      · exact ⟨.less, sl_S _, by decide +kernel, .inl hr⟩
      · exact ⟨.times, sl_S _, by decide +kernel, .inl hr⟩
      · exact ⟨.over, sl_S _, by decide +kernel, .inl hr⟩
      · exact ⟨.rest, sl_S _, by decide +kernel, .inl hr⟩
      · exact ⟨.same, sl_S _, by decide +kernel, .inl hr⟩
      · exact ⟨.under, sl_S _, by decide +kernel, .inl hr⟩
      · exact ⟨.pick, sl_S _, by decide +kernel, .inl hr⟩
  · rw [if_neg hr] at h
    obtain ⟨o, h1, h2, h3⟩ := h4 h
    exact ⟨o, h1, h2, .inr h3⟩
theorem op_n3 (o : Op) : o.n ≤ 3 := by cases o <;> decide
theorem rr4 {K : PySem.W.Frag} {H : Hp} {v : V} {r : RRow} (h : Dp K H v r.d) : ∃ q v2 t us, v = .ref q ∧ SqT K H q [.str (SX.S r.ma), v2, .str (SX.S r.op), .ref t] ∧ Dp K H v2 r.tg.d ∧ SqT K H t us ∧ DpAll K H us (r.os.map Od.d) := by
  cases h with
  | tup hS hA =>
    cases hA with
    | cons a1 hA =>
      cases hA with
      | cons a2 hA =>
        cases hA with
        | cons a3 hA =>
          cases hA with
          | cons a4 hA =>
            cases hA
            cases a1
            cases a3
            cases a4 with
            | tup hS2 hA2 => exact ⟨_, _, _, _, rfl, hS, a2, hS2, hA2⟩
theorem nodup_leA {α : Type} [DecidableEq α] : ∀ {us f : List α}, us.Nodup → (∀ u ∈ us, u ∈ f) → us.length ≤ f.length
  | [], _, _, _ => Nat.zero_le _
  | u :: us, f, h, s => by
    rw [List.nodup_cons] at h
    have h1 := nodup_leA (f := f.erase u) h.2 (fun x hx => (List.mem_erase_of_ne (fun (z : x = u) => h.1 (z ▸ hx))).mpr (s x (List.mem_cons_of_mem _ hx)))
    have hu := s u (List.mem_cons_self ..)
    rw [List.length_erase_of_mem hu] at h1
    have : 0 < f.length := List.length_pos_of_mem hu
    rw [List.length_cons]
    omega
def KeptFew (ru : List RRow) : Prop := ∀ r ∈ ru, ∃ ks : List (List Nat), ks.length ≤ 2 ∧ ∀ w ∈ keptNames r.ma ru, w ∈ ks
theorem kept_take {m : List Nat} {ru : List RRow} {j : Nat} {w : List Nat} (h : w ∈ keptNames m (ru.take j)) : w ∈ keptNames m ru := by
  unfold keptNames odsOf at h ⊢
  obtain ⟨o, ho, hw⟩ := List.mem_flatMap.mp h
  obtain ⟨r, hr, ho⟩ := List.mem_flatMap.mp ho
  obtain ⟨hr, e⟩ := List.mem_filter.mp hr
  exact List.mem_flatMap.mpr ⟨o, List.mem_flatMap.mpr ⟨r, List.mem_filter.mpr ⟨List.mem_of_mem_take hr, e⟩, ho⟩, hw⟩
theorem kept_few {ru : List RRow} {r : RRow} (h : KeptFew ru) (hr : r ∈ ru) (j : Nat) : (gotTx ((keptNames r.ma (ru.take j)).map SX.S)).length ≤ 2 := by
  obtain ⟨ks, h2, hk⟩ := h r hr
  refine Nat.le_trans (nodup_leA (f := ks.map SX.S) (gotTx_nodup _) fun u hu => ?_) (by rw [List.length_map]; exact h2)
  obtain ⟨w, hw, rfl⟩ := List.mem_map.mp (gotTx_mem.mp hu)
  exact List.mem_map_of_mem (hk w (kept_take hw))
def spRuleSo (K : PySem.W.Frag) : Sp := fun vs H Q _ => ∃ (rv : V) (md sd : Addr) (roof : Nat) (rs : List SRow) (ms : List MRow) (r : RRow), vs = [rv, .ref md, .ref sd, .int roof] ∧ Dp K H rv r.d ∧ Tbs K H md sd rs ms ∧ RuleOk rs ms roof r ∧ ∀ H', Same H H' → Q (.bl true) H'
def spRulesIn (K : PySem.W.Frag) (P : Program) (w : World) : Sp := fun vs H Q _ => ∃ (l md sd : Addr) (roof : Nat) (rv : List V) (rs : List SRow) (ms : List MRow) (ru : List RRow), vs = [.ref l, .ref md, .ref sd, .int roof] ∧ H l = some (.lst rv) ∧ DpAll K H rv (ru.map RRow.d) ∧ Tbs K H md sd rs ms ∧ (∀ r ∈ ru, RuleOk rs ms roof r) ∧ RuNd ru ∧ ru.length ≤ 240 ∧ KeptFew ru ∧
  ∀ (H' : Hp) (d : Addr) (kvs : List NE), Same H H' → H d = none → H' d = some (dnO P w d kvs) → RPr K H' kvs ru → Q (.ref d) H'
section
variable {P : Program} {w : World} {K : PySem.W.Frag} {mg : Str → Option Value} {base : Heap} {PD LA : Addr}
theorem ok_rule_is_so (T : Gb mg) (cis_tuple_of : C8.Cal P w K mg base 1 "is_tuple_of" (spTupOf K) []) (cis_name : C8.Cal P w K mg base 1 "is_name" spNameT []) (cis_target : C8.Cal P w K mg base 3 "is_target" (spIsTg K) []) (cis_op : C8.Cal P w K mg base 1 "is_op" spOpT []) (cop_let_1_cap : KCal P w K mg base 2 "op_let" spLetT 1 ["cap"] (fun vs zs => vs ++ zs))
    (cparts_of : C8.Cal P w K mg base 2 "parts_of" spPartsT []) (cis_operand : C8.Cal P w K mg base 3 "is_operand" (spIsOd K) []) (D : Dd K mg "rule_is_so" s_rule_is_so P_rule_is_so) : C8.Cal P w K mg base 4 "rule_is_so" (spRuleSo K) [] := by
  refine D.cal sc_rule_is_so (fun vs H Q E h => ?_) (fun f cdv A outer s H vs Q E hr h => ?_)
  · obtain ⟨rv, md, sd, roof, rs, ms, r, rfl, _⟩ := h
    rfl
  · obtain ⟨rv, md, sd, roof, rs, ms, r, rfl, hrow, tb, rok, q⟩ := h
    obtain ⟨q0, v2, t, us, rfl, hq, htg, ht, hus⟩ := rr4 hrow
    obtain ⟨mr, hmr, hma, htok, hook⟩ := rok.ex
    obtain ⟨o, ho, hon, hfi⟩ := op_of rok.op
    have h3 := op_n3 o
    have har := rok.ar
    have mok := tb.ok mr hmr
    refine ⟨_, (pss_cons (ps_if (pt_not (pt_val (C8.pe_c cis_tuple_of hr (by decide) (by rfl) (pa_cons (pv 0) (pa_cons pe_int pa_nil)))))
          (pss_one (ps_ret pe_bl))
          pss_nil)
        (pss_cons (ps_asg (pv 0) (pg_tup rfl (pgs_cons (pg_name (i := 4) sc_rule_is_so.nd rfl (Or.inl rfl)) (pgs_cons (pg_name (i := 5) sc_rule_is_so.nd rfl (Or.inl rfl)) (pgs_cons (pg_name (i := 6) sc_rule_is_so.nd rfl (Or.inl rfl)) (pgs_cons (pg_name (i := 7) sc_rule_is_so.nd rfl (Or.inl rfl)) pgs_nil))))))
        (pss_cons (ps_if (PW.pt (pw_or (pt_not (pt_val (C8.pe_c cis_name hr (by decide) (by rfl) (pa_cons (pv 4) pa_nil)))) (pw_or1 (pt_cmp (pc_dnotin (hu_of hr) (pv 4) (pv 1)) (by with_unfolding_all rfl)))))
          (pss_one (ps_ret pe_bl))
          pss_nil)
        (pss_cons (ps_set (i := 8) sc_rule_is_so.nd rfl (Or.inr rfl) (pe_dget (hu_of hr) (pv 1) (pv 4) (fun _ _ => rfl)))
        (pss_cons (ps_if (PW.pt (pw_or (pt_not (pt_val (C8.pe_c cis_target hr (by decide) (by rfl) (pa_cons (pv 5) (pa_cons (pv 8) (pa_cons (pv 2) pa_nil)))))) (pw_or (pt_not (pt_val (C8.pe_c cis_op hr (by decide) (by rfl) (pa_cons (pv 6) pa_nil)))) (pw_or1 (pt_not (pt_val (pe_kw cop_let_1_cap hr (by decide) (by rfl) (pa_cons (pv 6) pa_nil) (pk_cons (pv 3) pk_nil))))))))
          (pss_one (ps_ret pe_bl))
          pss_nil)
        (pss_cons (ps_if (pt_not (pt_val (C8.pe_c cis_tuple_of hr (by decide) (by rfl) (pa_cons (pv 7) (pa_cons (C8.pe_c cparts_of hr (by decide) (by rfl) (pa_cons (pv 6) pa_nil)) pa_nil)))))
          (pss_one (ps_ret pe_bl))
          pss_nil)
        (pss_one (ps_ret (pe_callB (cr_all rfl) (by rfl) T.all (by decide +kernel) (pa_cons (pe_lc (own := [("operand", 9)]) (by exact rfl) sc_rule_is_so.nd (pi_tup (pv 7)) (blkOk_by (own := [("operand", 9)]) (N := N_rule_is_so) (sc := defScope s_rule_is_so) (by decide +kernel)) (fun _ _ _ _ _ => (pg_name (i := 9) sc_rule_is_so.nd rfl (Or.inl rfl))) (fun _ _ _ _ _ => pts_nil) (fun _ _ _ _ _ => (C8.pe_c cis_operand hr (by decide) (by rfl) (pa_cons (pv 9) (pa_cons (pv 8) (pa_cons (pv 2) pa_nil)))))) pa_nil)))))))))), ?_⟩
    refine ⟨_, rfl, .ref q0, r.d, 4, rfl, hrow, _, rfl, iteF ?_⟩
    refine ⟨_, rfl, q0, _, rfl, hq, rfl, _, _, rfl, _, _, rfl, _, _, rfl, _, _, rfl, rfl, ?_⟩
    refine ⟨_, rfl, r.ma, rfl, by rw [hma]; exact mok.nm, fun H1 s1 => ⟨_, rfl, ifF rfl ?_⟩⟩
    obtain ⟨fv, hg, fm⟩ := (tb.same s1).get hmr
    rw [← hma] at hg
    refine ⟨_, rfl, _, rfl, md, _, rfl, hg, _, rfl, ifF rfl ?_⟩
    refine ⟨_, rfl, _, rfl, md, fv, rfl, hg, ?_⟩
    refine ⟨_, rfl, _, rfl, _, rfl, v2, fv, sd, rs, mr, r.tg, rfl, dp_same s1 htg, fm, htok, fun H2 s2 => ⟨_, rfl, ifF rfl ?_⟩⟩
    rw [ho]
    refine ⟨_, rfl, o, rfl, _, rfl, ifF rfl ?_⟩
    refine ⟨_, rfl, _, rfl, rfl, rfl, o, roof, rfl, hfi, _, rfl, ifF rfl ?_⟩
    have s12 := s1.trans s2
    have lus := dpAll_len hus
    rw [List.length_map] at lus
    refine ⟨_, rfl, _, rfl, o, rfl, .ref t, .tuple (r.os.map Od.d), o.n, rfl, .tup (sqT_s s12 ht) (dpAll_same s12 hus), _, rfl, ?_⟩
    refine ifF (by show (!decide ((r.os.map Od.d).length = o.n)) = false; rw [List.length_map, decide_eq_true (by omega)]; rfl) ?_
    refine ⟨_, rfl, t, rfl, ⟨_, sqT_s s12 ht⟩, fun D nD => ?_⟩
    refine lc_it (walk_tup (K := K) (a := t) (xs := us)) (fun j H' => Same H2 H' ∧ H' D = some (.lst ((List.replicate j true).map V.bl))) ⟨same_upd nD, upd_same⟩ (fun j H5 _ hh => sqT_s (s12.trans hh.1) ht) ?_ ?_
    · rintro j v H5 H6 hj ⟨sm, hD⟩ ⟨rfl, hv⟩
      obtain ⟨o', ho', hvd⟩ := row_of hus hv
      refine ⟨rfl, yesT ?_⟩
      refine ⟨_, rfl, _, rfl, _, rfl, v, fv, sd, rs, mr, o', rfl, dp_same (s12.trans sm) hvd, (fm.same s2).same sm, hook o' (List.mem_of_getElem? ho'), fun H7 s7 => ?_⟩
      refine ⟨_, s7 _ _ hD, by rw [List.length_map, List.length_replicate]; exact small1000 (by omega), Same.at_ (sm.trans s7) nD, ?_⟩
      rw [upd_same, List.replicate_succ', List.map_append]
      rfl
    · rintro H5 ⟨sm, hD⟩
      refine ⟨D, _, rfl, SqL.of hD, ?_⟩
      rw [show (List.replicate us.length true).all id = true by simp]
      exact q _ (s12.trans sm)
theorem ok_rules_in (T : Gb mg) (G : Gg mg PD LA) (crows_of : C8.Cal P w K mg base 1 "rows_of" spRows []) (crule_is_so : C8.Cal P w K mg base 4 "rule_is_so" (spRuleSo K) []) (ckept_by : C8.Cal P w K mg base 1 "kept_by" (spKeptBy K P w) []) (D : Dd K mg "rules_in" s_rules_in P_rules_in) : C8.Cal P w K mg base 5 "rules_in" (spRulesIn K P w) [] := by
  refine D.cal sc_rules_in (fun vs H Q E h => ?_) (fun f cdv A outer s H vs Q E hr h => ?_)
  · obtain ⟨l, md, sd, roof, rv, rs, ms, ru, rfl, _⟩ := h
    rfl
  · obtain ⟨l, md, sd, roof, rv, rs, ms, ru, rfl, hl, hrv, tb, hok, hnd, hle, hfew, q⟩ := h
    refine ⟨_, (pss_cons (ps_set (i := 4) sc_rules_in.nd rfl (Or.inl rfl) pe_dnewN)
        (pss_cons (ps_for PassesOwn.never rfl (pi_enum (by rfl) T.enumerate (pa_cons (C8.pe_c crows_of hr (by decide) (by rfl) (pa_cons pe_str (pa_cons (pv 0) pa_nil))) pa_nil)) (pg_tup rfl (pgs_cons (pg_name (i := 5) sc_rules_in.nd rfl (Or.inl rfl)) (pgs_cons (pg_name (i := 6) sc_rules_in.nd rfl (Or.inl rfl)) pgs_nil)))
          (pss_cons (ps_if (PW.pt (pw_or (pt_not (pt_val (C8.pe_c crule_is_so hr (by decide) (by rfl) (pa_cons (pv 6) (pa_cons (pv 1) (pa_cons (pv 2) (pa_cons (pv 3) pa_nil))))))) (pw_or1 (pt_cmpR (op_inN (hu9 (hu65 hr))) (pe_slice (r := rSlAny K) sl_any (pv 6) po_none (po_some pe_int)) (pv 4) (by with_unfolding_all rfl)))))
          (pss_one ps_never)
          pss_nil)
        (pss_cons (ps_asg (pe_slice (r := rSlAny K) sl_any (pv 6) (po_some pe_int) po_none) (pg_sub (pv 4) (pe_slice (r := rSlAny K) sl_any (pv 6) po_none (po_some pe_int)) (set_dn (hu9 (hu65 hr)))))
        (pss_one (ps_if (pt_cmpR op_gt (pe_callB call_len_seq (by rfl) T.len PySem.boot_len (pa_cons (C8.pe_c ckept_by hr (by decide) (by rfl) (pa_cons (pe_ix ix_tup (pv 6) pe_int (fun _ _ => rfl)) (pa_cons (pv 4) pa_nil))) pa_nil)) (C8.pe_gc (v := .int 2) rfl G.each) (nomark _))
          (pss_one ps_never)
          pss_nil)))))
        (pss_one (ps_ret (pv 4))))), ?_⟩
    refine fun d nd => ?_
    have s1 := same_upd (o := dnO P w d []) nd
    have lrv := dpAll_len hrv
    rw [List.length_map] at lrv
    refine ⟨_, rfl, "rules", l, rv, rfl, s1 _ _ hl, l, rv, rfl, SqL.of (s1 _ _ hl), ?_⟩
    refine for_it walk_enum (fun j σ Y => ∃ (y5 y6 : Option V) (kvs : List NE), σ = [some (.ref l), some (.ref md), some (.ref sd), some (.int roof), some (.ref d), y5, y6] ∧ Same H Y ∧ Y d = some (dnO P w d kvs) ∧ RPr K Y kvs (ru.take j))
      ⟨none, none, [], rfl, s1, upd_same, .nil⟩ (fun i σ Y _ ⟨_, _, _, _, h, _⟩ => SqL.of (h _ _ hl)) ?_ ?_
    · rintro j v σ Y0 Y hj ⟨y5, y6, kvs, rfl, s2, hd, hpr⟩ ⟨TT, xx, yy, rfl, nT, rfl, ex, ey⟩
      cases ex
      obtain ⟨r, hr1, hrow⟩ := row_of (dpAll_same s2 hrv) ey
      have sN := same_upd (o := .tup [.int ((j : Nat) : Int), yy]) nT
      have hjr : j < ru.length := (List.getElem?_eq_some_iff.mp hr1).1
      have hrm := List.mem_of_getElem? hr1
      have rok := hok r hrm
      have lk := paired_len hpr
      rw [List.length_take] at lk
      have tk : ru.take (j + 1) = ru.take j ++ [r] := by rw [List.take_add_one, hr1]; rfl
      refine ⟨TT, _, rfl, SqT.of upd_same, rfl, _, _, rfl, _, _, rfl, rfl, ?_⟩
      refine ⟨_, rfl, _, rfl, _, rfl, _, rfl, yy, md, sd, roof, rs, ms, r, rfl, dp_same sN hrow, tb.same (s2.trans sN), rok, fun Y1 sY1 => ⟨_, rfl, ifF rfl ?_⟩⟩
      have sA := sN.trans sY1
      obtain ⟨q0, v2, t, us, rfl, hq, htg, ht, hus⟩ := rr4 (dp_same sA hrow)
      refine ⟨_, rfl, _, rfl, q0, _, rfl, hq, fun Y2 p2 sY2 hp2 => ?_⟩
      have sB := sA.trans sY2
      have hp2 : SqT K Y2 p2 [.str (SX.S r.ma), v2] := hp2
      have hn : valN kvs (keyD r.kd) = none := hpr.none fun r' hr' e1 e2 => by
        rw [← List.take_append_drop j ru, List.drop_eq_getElem_cons hjr] at hnd
        have e3 : ru[j] = r := (List.getElem?_eq_some_iff.mp hr1).2
        exact ((List.pairwise_append.mp hnd).2.2 r' hr' ru[j] (List.mem_cons_self ..)) (by rw [e3]; exact e1) (by rw [e3]; exact e2)
      have key : ∀ {Z : Hp} {b : Addr}, KeepT Y1 Z → SqT K Z b [.str (SX.S r.ma), v2] → KeyN K Z (.ref b) b r.kd := fun {Z b} k h => ⟨rfl, .tup h (.cons (.str _) (.cons (dp_imm k htg r.tg.imm) .nil)), r.kd_imm, key_depth _ _⟩
      refine ⟨_, rfl, d, p2, kvs, r.kd, rfl, .inl (sB _ _ hd), (hpr.keep (KeepT.of sB)).keys, key (KeepT.of sY2) hp2, _, rfl, ?_⟩
      rw [hn]
      refine ifF rfl ?_
      refine ⟨_, rfl, _, rfl, q0, _, rfl, sqT_s sY2 hq, fun Y3 p3 sY3 hp3 => ?_⟩
      have hp3 : SqT K Y3 p3 [.str (SX.S r.op), .ref t] := hp3
      have sC := sB.trans sY3
      refine ⟨_, rfl, _, rfl, _, rfl, q0, _, rfl, sqT_s (sY2.trans sY3) hq, fun Y4 p4 sY4 hp4 => ?_⟩
      have hp4 : SqT K Y4 p4 [.str (SX.S r.ma), v2] := hp4
      have sD := sC.trans sY4
      have s14 := sY2.trans (sY3.trans sY4)
      have hd4 := sD _ _ hd
      refine ⟨d, p4, kvs, r.kd, rfl, hd4, (hpr.keep (KeepT.of sD)).keys, key (KeepT.of s14) hp4, hn, by omega, ?_⟩
      have bt5 : But d Y4 (upd Y4 d (dnO P w d (kvs ++ [(keyD r.kd, p4, .ref p3)]))) := But.upd (But.refl d Y4)
      have k5 := KeepT.ext hd4 bt5
      have hpr5 : RPr K (upd Y4 d (dnO P w d (kvs ++ [(keyD r.kd, p4, .ref p3)]))) (kvs ++ [(keyD r.kd, p4, .ref p3)]) (ru.take (j + 1)) := by
        rw [tk]
        refine paired_snoc (hpr.keep ((KeepT.of sD).trans k5)) ⟨rfl, dp_imm k5 (key (KeepT.of s14) hp4).2.1 r.kd_imm, ?_⟩
        refine dp_imm k5 (.tup (sqT_s sY4 hp3) (.cons (.str _) (.cons (.tup (sqT_s s14 ht) (dpAll_same s14 hus)) .nil))) r.vd_imm
      have sE : Same H (upd Y4 d (dnO P w d (kvs ++ [(keyD r.kd, p4, .ref p3)]))) := Same.at_ (s2.trans sD) nd
      have hq5 := k5.seqT (sqT_s s14 hq)
      have hd5 : (upd Y4 d (dnO P w d (kvs ++ [(keyD r.kd, p4, .ref p3)]))) d = some (dnO P w d (kvs ++ [(keyD r.kd, p4, .ref p3)])) := upd_same
      refine ⟨_, rfl, q0, _, 0, .str (SX.S r.ma), rfl, rfl, hq5, atI_nat (j := 0) rfl, _, rfl, r.ma, d, _, ru.take (j + 1), rfl, hd5, hpr5, hnd.sublist (List.take_sublist _ _), by rw [List.length_take]; omega, fun r' hr' => ?_, Nat.lt_of_le_of_lt (kept_few hfew hrm (j + 1)) (by decide), fun Y6 l6 ys s6 n6 hl6 hys _ => ?_⟩
      · have h' := hok r' (List.mem_of_mem_take hr')
        obtain ⟨o', _, h2, _⟩ := op_of h'.op
        rw [h'.ar, h2]
        exact op_n3 o'
      refine ⟨l6, _, rfl, .inl (SqL.of hl6), _, _, rfl, rfl, _, rfl, ?_⟩
      have l2 : ys.length ≤ 2 := by
        rw [hys.length_eq]
        exact kept_few hfew hrm (j + 1)
      refine ifF (decide_eq_false (show ¬ (2 : Int) < ((ys.map V.str).length : Int) by rw [List.length_map]; omega)) ?_
      exact ⟨_, _, _, rfl, sE.trans s6, s6 _ _ hd5, hpr5.keep (KeepT.of s6)⟩
    · rintro σ Y ⟨y5, y6, kvs, rfl, s2, hd, hpr⟩
      rw [lrv, List.take_length] at hpr
      exact ⟨_, rfl, q _ d kvs s2 nd hd hpr⟩
end
/-! ### sorted(rows): rows whose first unlike items can be compared -/
section
open PySem.SeqAt
open PySem.AutoSeq1 (wpAny_loadPart')
open PySem.MeetsSeq PySem.MeetsSeq2 PySem.MeetsSeq3
/-- two tuples whose first items are unlike texts -/
theorem tup_lt_head (l b : Addr) (is js : List Value) (n n2 : Nat) (dd dd2 : Option Addr) (sl sl2 : Array (Option Value)) (x y : Str) (t u : Tok) (hne : (x == y) = false) :
    Meets (Builtin.«tuple.__lt__» ⟨[.ref l, .ref b], []⟩)
      (fun _ R s => s.heap.get? l = some { cls := .type "tuple", dict := dd, data := .seq (List.toArray (.str x t :: is)) n, slots := sl } ∧ s.heap.get? b = some { cls := .type "tuple", dict := dd2, data := .seq (List.toArray (.str y u :: js)) n2, slots := sl2 } ∧
        R (.ok (.ret (.bool (decide (x.cps.toList < y.cps.toList))))) s) :=
  .of_wp fun prog w A R s h => by
    obtain ⟨hp, g, d, tk, os⟩ := s; obtain ⟨hl, hb, h⟩ := h
    have f2 := PySem.AutoSeq1.sub_tuple_tuple
    wp_walk using wpAny_loadPart' hl, wpAny_loadPart' hb, wpAny_forIn_list _ (fun rest b s' => b.1 = none ∧ s' = ⟨hp, g, d, tk, os⟩ ∧ rest = (Value.str x t, Value.str y u) :: is.zip js) _
    case turn =>
      rintro ⟨p, q⟩ rest b s' ⟨hb', rfl, hz⟩
      injection hz with h1 h2
      injection h1 with h3 h4
      subst h3 h4 h2
      have he := SeqAt.EqAt.str_str (A := A.in1) (s := ⟨hp, g, d, tk, os⟩) x t y u
      rw [hne] at he
      refine wpAny_bind (he prog w _ _ ?_)
      have hri := DT.rcLt_str A.in1 ⟨hp, g, d, tk, os⟩ x t y u prog w
      wp_walk using hri
      exact ⟨_, rfl, by simpa using h⟩
    case fin =>
      rintro ⟨b1, b2⟩ s' ⟨hb', rfl, hz⟩
      cases hz
    case h =>
      exact ⟨rfl, rfl, by simp⟩
end
/-- x < y can be told: alike data, or tuples whose first items are unlike texts -/
inductive LtS : PyData → PyData → Prop
  | al {x y : PyData} : PySem.W.alike x y = true → x ≠ .none → LtS x y
  | hd {a b : Str} {xs ys : List PyData} : (a == b) = false → LtS (.tuple (.str a :: xs)) (.tuple (.str b :: ys))
/-- the first unlike items can be compared (the very first are texts) -/
inductive FO : Nat → List PyData → List PyData → Prop
  | nil {i : Nat} {ys : List PyData} : FO i [] ys
  | nil2 {i : Nat} {xs : List PyData} : FO i xs []
  | eq {i : Nat} {x y : PyData} {xs ys : List PyData} : PyData.eqv x y = true → FO (i + 1) xs ys → FO i (x :: xs) (y :: ys)
  | s0 {a b : Str} {xs ys : List PyData} : PyData.eqv (.str a) (.str b) = false → FO 0 (.str a :: xs) (.str b :: ys)
  | lt {i : Nat} {x y : PyData} {xs ys : List PyData} : PyData.eqv x y = false → LtS x y → FO (i + 1) (x :: xs) (y :: ys)
section
variable {prog : Program} {w : World} {A : Around} {s : Shared}
theorem ltS_tells {x y : PyData} {p q : Value} {as bs : List Addr} (h : LtS x y) (ra : Reads s.heap p x as) (rb : Reads s.heap q y bs) (hu : A.units + 62 < cLine) (hx : x.depth ≤ 60) : ∃ b, ∀ (Q : Value → Shared → Prop) (E : Value → Shared → Prop), Q (.bool b) s → wpAny (model prog w) A (compareOp .Lt p q) Q E s := by
  cases h with
  | al ha hn =>
    refine ⟨_, fun Q E hq => PySem.W.rcLt_alike x y A s p q as bs ra rb ha hn ?_ prog w E Q hq⟩
    have : min x.depth y.depth ≤ x.depth := Nat.min_le_left _ _
    omega
  | @hd a b xs ys hne =>
    cases ra with
    | @tuple l o vs n _ _ h1 h2 h3 h4 =>
      cases rb with
      | @tuple l' o' vs' n' _ _ k1 k2 k3 k4 =>
        obtain ⟨vs⟩ := vs
        obtain ⟨vs'⟩ := vs'
        cases h4 with
        | @cons v1 vs1 _ _ _ _ r1 r2 =>
          cases k4 with
          | @cons v2 vs2 _ _ _ _ q1 q2 =>
            cases r1 with
            | str _ t =>
              cases q1 with
              | str _ u =>
                obtain ⟨c, dd, dt, sl⟩ := o
                obtain ⟨c', dd', dt', sl'⟩ := o'
                simp only at h2 h3 k2 k3
                subst h2 h3 k2 k3
                refine ⟨decide (a.cps.toList < b.cps.toList), fun Q E hq => ?_⟩
                exact richCompare_meets_room (op := .Lt) ⟨_, h1, rfl⟩ ⟨_, k1, rfl⟩ PySem.F.slot_tuple_lt PySem.F.entry_tuple_lt (PySem.F.args_tuple_lt_2 _ _) (tup_lt_head l l' vs1 vs2 n n' dd dd' sl sl' a b t u hne)
                  ⟨h1, k1, ⟨(fun z => nomatch z), hq⟩⟩ (by omega)
theorem fo_tells {fin : Bool} (hu : A.units + 62 < cLine) : ∀ {i : Nat} {xs ys : List PyData} {vs ws : List Value} {as bs : List Addr}, FO i xs ys → ReadsAll s.heap vs xs as → ReadsAll s.heap ws ys bs → PyData.plainAll xs = true → PyData.plainAll ys = true → (∀ x ∈ xs, x.depth ≤ 60) →
    ∃ b, PySem.W.KatLex prog w A true fin (fun r s' => s' = s ∧ r = b) (vs.zip ws) i s := by
  intro i xs ys vs ws as bs h
  induction h generalizing vs ws as bs with
  | nil =>
    intro ra _ _ _ _
    cases ra
    exact ⟨fin, PySem.W.kat_nil ⟨rfl, rfl⟩⟩
  | nil2 =>
    intro _ rb _ _ _
    cases rb
    rw [List.zip_nil_right]
    exact ⟨fin, PySem.W.kat_nil ⟨rfl, rfl⟩⟩
  | eq he _ ih =>
    intro ra rb pa pb hd
    rw [PyData.plainAll, Bool.and_eq_true] at pa pb
    cases ra with
    | cons r1 r2 =>
      cases rb with
      | cons q1 q2 =>
        obtain ⟨b, hb⟩ := ih r2 q2 pa.2 pb.2 fun x hx => hd x (List.mem_cons_of_mem _ hx)
        refine ⟨b, PySem.W.kat_cons (PySem.SeqAt.eqAt_plain _ _ A s _ _ _ _ r1 q1 pa.1 pb.1 ?_ prog w _ _ ?_)⟩
        · have := hd _ (List.mem_cons_self ..)
          exact Nat.lt_of_le_of_lt (Nat.add_le_add_left (Nat.le_trans (Nat.min_le_left _ _) (Nat.le_trans this (by decide : 60 ≤ 62))) _) hu
        · rw [he]
          exact PySem.W.kat_yes hb
  | @s0 sa sb _ _ he =>
    intro ra rb pa pb hd
    rw [PyData.plainAll, Bool.and_eq_true] at pa pb
    cases ra with
    | cons r1 r2 =>
      cases rb with
      | cons q1 q2 =>
        refine ⟨decide (sa.cps.toList < sb.cps.toList), PySem.W.kat_cons (PySem.SeqAt.eqAt_plain _ _ A s _ _ _ _ r1 q1 pa.1 pb.1 ?_ prog w _ _ ?_)⟩
        · have := hd _ (List.mem_cons_self ..)
          exact Nat.lt_of_le_of_lt (Nat.add_le_add_left (Nat.le_trans (Nat.min_le_left _ _) (Nat.le_trans this (by decide : 60 ≤ 62))) _) hu
        · rw [he]
          cases r1
          cases q1
          exact PySem.W.kat_no (PyProof.Rows.oneLt_str ⟨rfl, rfl⟩)
  | lt he hl =>
    intro ra rb pa pb hd
    rw [PyData.plainAll, Bool.and_eq_true] at pa pb
    cases ra with
    | cons r1 r2 =>
      cases rb with
      | cons q1 q2 =>
        obtain ⟨b, hb⟩ := ltS_tells (prog := prog) (w := w) hl r1 q1 hu (hd _ (List.mem_cons_self ..))
        refine ⟨b, PySem.W.kat_cons (PySem.SeqAt.eqAt_plain _ _ A s _ _ _ _ r1 q1 pa.1 pb.1 ?_ prog w _ _ ?_)⟩
        · have := hd _ (List.mem_cons_self ..)
          exact Nat.lt_of_le_of_lt (Nat.add_le_add_left (Nat.le_trans (Nat.min_le_left _ _) (Nat.le_trans this (by decide : 60 ≤ 62))) _) hu
        · rw [he]
          refine PySem.W.kat_no ?_
          rename_i i' _ _ _ _ _ _ _ _ _ _ _ _
          have e0 : (true && (i' + 1 == 0)) = false := rfl
          rw [e0]
          exact PySem.W.kat_one _ _ (hb _ _ ⟨rfl, rfl⟩)
end
/-- rows that can be sorted -/
structure RowsOk (ds : List PyData) : Prop where
  tup : ∀ d ∈ ds, ∃ k xs, d = .tuple (.str k :: xs) ∧ PyData.plainAll (.str k :: xs) = true ∧ ∀ x ∈ (PyData.str k :: xs), x.depth ≤ 60
  cmp : ∀ xs ys, .tuple xs ∈ ds → .tuple ys ∈ ds → FO 0 xs ys
section
variable {prog : Program} {w : World} {A : Around} {s : Shared}
theorem reads_mem {h : Heap} : ∀ {vs : List Value} {ds : List PyData} {as : List Addr}, ReadsAll h vs ds as → ∀ v ∈ vs, ∃ d ∈ ds, ∃ bs, Reads h v d bs
  | _, _, _, .nil, v, hv => nomatch hv
  | _, _, _, .cons (d := d) r rs, v, hv => by
    rcases List.mem_cons.mp hv with rfl | hv
    · exact ⟨d, List.mem_cons_self .., _, r⟩
    · obtain ⟨d', hd, bs, r'⟩ := reads_mem rs v hv
      exact ⟨d', List.mem_cons_of_mem _ hd, bs, r'⟩
theorem rows_tot {vs : List Value} {ds : List PyData} {as : List Addr} (hu : A.units + 62 < cLine) (ra : ReadsAll s.heap vs ds as) (h : RowsOk ds) : Srt.Tot prog w A s (PyProof.Rows.tuples' true) (fun p => p.1 ∈ vs) := by
  intro p q hm hm'
  obtain ⟨d, hd, b1, r1⟩ := reads_mem ra _ hm
  obtain ⟨d', hd', b2, r2⟩ := reads_mem ra _ hm'
  obtain ⟨k, xs, rfl, p1, e1⟩ := h.tup d hd
  obtain ⟨k', ys, rfl, p2, e2⟩ := h.tup d' hd'
  generalize p.1 = pv at r1
  generalize q.1 = qv at r2
  cases r1 with
  | @tuple l o us n _ _ h1 h2 h3 h4 =>
    cases r2 with
    | @tuple l' o' us' n' _ _ k1 k2 k3 k4 =>
      obtain ⟨b, hb⟩ := fo_tells (prog := prog) (w := w) (fin := decide (us.size < us'.size)) hu (h.cmp _ _ hd hd') h4 k4 p1 p2 e1
      exact ⟨b, PySem.W.kat_lt h1 h3 k1 k3 hb⟩
theorem rows_firsts {h : Heap} : ∀ {vs : List Value} {ds : List PyData} {as : List Addr}, ReadsAll h vs ds as → (∀ d ∈ ds, ∃ k xs, d = PyData.tuple (.str k :: xs)) → ∃ fs : List Value, PySem.W.KatTups h vs fs ∧ fs.length = vs.length ∧ ∀ f ∈ fs, ∃ x t, f = Value.str x t
  | _, _, _, .nil, _ => ⟨[], PySem.W.KatTups.nil, rfl, fun _ hm => nomatch hm⟩
  | _, _, _, .cons (d := d) r rs, ht => by
    obtain ⟨fs, h1, h2, h3⟩ := rows_firsts rs fun d hd => ht d (List.mem_cons_of_mem _ hd)
    obtain ⟨k, xs, rfl⟩ := ht d (List.mem_cons_self ..)
    cases r with
    | @tuple l o us n _ _ g1 g2 g3 g4 =>
      obtain ⟨us⟩ := us
      cases g4 with
      | @cons v1 vs1 _ _ _ _ r1 r2 =>
        cases r1 with
        | str _ t =>
          refine ⟨.str k t :: fs, PySem.W.KatTups.cons g1 g2 g3 (by simp) h1, by rw [List.length_cons, List.length_cons, h2], fun f hm => ?_⟩
          rcases List.mem_cons.mp hm with rfl | hm
          · exact ⟨k, t, rfl⟩
          · exact h3 f hm
end
section
variable {X : Cx}
/-- sorted(rows): the same rows in some order -/
def rSortRows (K : PySem.W.Frag) : List V → Hp → VK → Prop := fun xs H Q => ∃ (a : Addr) (vs : List V) (ds : List PyData), xs = [.ref a] ∧ SqL K H a vs ∧ DpAll K H vs ds ∧ RowsOk ds ∧ ∀ (ys : List V) (p : Addr), ys.Perm vs → H p = none → Q (.ref p) (upd H p (.lst ys))
theorem refs_dp {K : PySem.W.Frag} {H : Hp} : ∀ {vs : List V} {ds : List PyData}, DpAll K H vs ds → (∀ d ∈ ds, ∃ xs, d = PyData.tuple xs) → ∀ v ∈ vs, ∃ t, v = V.ref t
  | _, _, .nil, _, v, hv => nomatch hv
  | _, _, .cons (d := d) r rs, ht, v, hv => by
    rcases List.mem_cons.mp hv with rfl | hv
    · obtain ⟨xs, rfl⟩ := ht d (List.mem_cons_self ..)
      cases r with
      | tup _ _ => exact ⟨_, rfl⟩
    · exact refs_dp rs (fun d hd => ht d (List.mem_cons_of_mem _ hd)) v hv
theorem cr_sortRows (hu : X.A.units + 65 < cLine) : CallR X (.builtin "sorted") (rSortRows X.K) := by
  intro pins s σ H vs us Q I r h
  obtain ⟨a, xs, ds, rfl, hs, hx, hok, q⟩ := h
  obtain ⟨its, rv, hl, hz⟩ := I.list hs
  obtain ⟨u, rfl, ru⟩ := vals1 r
  obtain rfl : u = Value.ref a := ru
  obtain ⟨as, ra⟩ := Dp.readsAll I ds xs its hx rv
  obtain ⟨e1, e2⟩ := refs_back rv (refs_dp hx fun d hd => by obtain ⟨k, ys, e, _⟩ := hok.tup d hd; exact ⟨_, e⟩)
  refine Srt.sorted_any hl.isList (by rw [← rv.length]; exact hz) (fun h2 h₁ a' ha k => ?_) fun out ho => ?_
  · intro h' keep
    have kk : ∀ b o, s.heap.get? b = some o → h'.get? b = some o := fun b o e => keep b o (k b o e).1 (k b o e).2
    have ra' : ReadsAll h' its ds as := ReadsAll.keeps kk ra
    obtain ⟨fs, g1, g2, g3⟩ := rows_firsts ra' fun d hd => by obtain ⟨k, ys, e, _⟩ := hok.tup d hd; exact ⟨k, ys, e⟩
    refine ⟨PyProof.Rows.tuples' true, fun Q E hq => ?_, rows_tot (s := { s with heap := h' }) (by show X.A.units + 1 + 1 + 62 < cLine; omega) ra' hok⟩
    refine PySem.W.kat_kind (T := .type "str") g1 (by omega) (fun f hm => ?_) (by rfl) ?_
    · obtain ⟨x, t, rfl⟩ := g3 f hm
      exact PySem.W.Looks.now
    · have e : (Value.type "str" != Value.type "tuple") = true := by first | decide +kernel | rfl | decide
      rw [e]
      exact hq
  · have h3 : ∀ u ∈ out, ∃ a, u = Value.ref a := fun u hu => e2 u (ho.mem_iff.mp hu)
    obtain ⟨n, hn⟩ := PyProof.Rows.sortedAll_at s.heap its out.toArray
    refine ⟨.ref (s.heap.objs.size + 1), upd H (s.heap.objs.size + 1) (.lst (out.map backV)), I.laid (t' := s.toks) (fun b o e => PyProof.Rows.sortedAll_old e) (Nat.le_succ _) ⟨?_, out, n, vals_back h3, hn⟩, rfl, q _ _ ?_ (I.hok.fresh (Nat.le_succ _))⟩
    · rw [List.length_map, ho.length_eq, ← rv.length]; exact hz
    · rw [e1]; exact ho.map backV
end
/-! ### sorted(rows), told exactly -/
mutual
theorem eqv_toks : ∀ x y : PyData, PyData.eqv x y = true → PySem.W.keyToks x = PySem.W.keyToks y
  | .none, y, h => by cases y <;> first | rfl | (simp only [PyData.eqv] at h; cases h)
  | .bool a, y, h => by
    cases y with
    | bool b =>
      simp only [PyData.eqv] at h
      rw [beq_iff_eq] at h
      rw [h]
    | int j =>
      simp only [PyData.eqv] at h
      rw [beq_iff_eq] at h
      simp only [PySem.W.keyToks]
      rw [h]
    | _ => simp only [PyData.eqv] at h; cases h
  | .int i, y, h => by
    cases y with
    | bool b =>
      simp only [PyData.eqv] at h
      rw [beq_iff_eq] at h
      simp only [PySem.W.keyToks]
      rw [h]
    | int j =>
      simp only [PyData.eqv] at h
      rw [beq_iff_eq] at h
      rw [h]
    | _ => simp only [PyData.eqv] at h; cases h
  | .str a, y, h => by
    cases y with
    | str b =>
      simp only [PyData.eqv] at h
      rw [beq_iff_eq] at h
      rw [h]
    | _ => simp only [PyData.eqv] at h; cases h
  | .list xs, y, h => by
    cases y with
    | list ys =>
      simp only [PyData.eqv] at h
      simp only [PySem.W.keyToks]
      exact eqvAll_toks xs ys h
    | _ => simp only [PyData.eqv] at h; cases h
  | .tuple xs, y, h => by
    cases y with
    | tuple ys =>
      simp only [PyData.eqv] at h
      simp only [PySem.W.keyToks]
      exact eqvAll_toks xs ys h
    | _ => simp only [PyData.eqv] at h; cases h
  | .dict _, y, h => by cases y <;> (simp only [PyData.eqv] at h; cases h)
theorem eqvAll_toks : ∀ xs ys : List PyData, PyData.eqvAll xs ys = true → PySem.W.keyToksAll xs = PySem.W.keyToksAll ys
  | [], [], _ => rfl
  | [], _ :: _, h => by simp only [PyData.eqvAll] at h; cases h
  | _ :: _, [], h => by simp only [PyData.eqvAll] at h; cases h
  | x :: xs, y :: ys, h => by
    simp only [PyData.eqvAll, Bool.and_eq_true] at h
    rw [PySem.W.toks_all_cons, PySem.W.toks_all_cons, eqv_toks x y h.1, eqvAll_toks xs ys h.2]
end
abbrev lxt (xs ys : List PyData) : Bool := PyProof.Rows.lexLt PyProof.Rows.itemOrd (PySem.W.keyToksAll xs) (PySem.W.keyToksAll ys)
theorem lxt_eq {x y : PyData} {xs ys : List PyData} (h : PyData.eqv x y = true) : lxt (x :: xs) (y :: ys) = lxt xs ys := by
  unfold lxt
  rw [PySem.W.toks_all_cons, PySem.W.toks_all_cons, eqv_toks x y h, PyProof.Rows.lex_self, PySem.W.lex_pre]
theorem lxt_hd {a b : Str} {r t : List PyData} {xs ys : List PyData} (h : (a == b) = false) : lxt (.tuple (.str a :: r) :: xs) (.tuple (.str b :: t) :: ys) = decide (a.cps.toList < b.cps.toList) := by
  have e : (Sum.inr a.cps.toList : Int ⊕ List Nat) ≠ .inr b.cps.toList := fun z => by
    injection z with z
    rw [PySem.W.str_of_cps z] at h
    simp at h
  have k : ∀ (c : Str) (q : List PyData), PySem.W.keyToks (.tuple (.str c :: q)) = Sum.inl 1 :: Sum.inr c.cps.toList :: PySem.W.keyToksAll q := fun c q => by
    simp only [PySem.W.keyToks]
    rw [PySem.W.toks_all_cons]
    simp only [PySem.W.keyToks]
    rfl
  unfold lxt
  rw [PySem.W.toks_all_cons, PySem.W.toks_all_cons, PyProof.Rows.lex_self, k, k]
  show PyProof.Rows.lexLt PyProof.Rows.itemOrd (Sum.inl 1 :: (Sum.inr a.cps.toList :: (PySem.W.keyToksAll r ++ PySem.W.keyToksAll xs))) (Sum.inl 1 :: (Sum.inr b.cps.toList :: (PySem.W.keyToksAll t ++ PySem.W.keyToksAll ys))) = _
  rw [PyProof.Rows.lex_self, PySem.W.lex_atom e, ← PySem.W.dataLt_str]
  simp only [PySem.W.dataLt, PySem.W.keyToks]
section
variable {prog : Program} {w : World} {A : Around} {s : Shared}
theorem ltS_tellsX {x y : PyData} {p q : Value} {as bs : List Addr} (h : LtS x y) (hne0 : PyData.eqv x y = false) (ra : Reads s.heap p x as) (rb : Reads s.heap q y bs) (hu : A.units + 62 < cLine) (hx : x.depth ≤ 60) (xs ys : List PyData) : ∀ (Q : Value → Shared → Prop) (E : Value → Shared → Prop), Q (.bool (lxt (x :: xs) (y :: ys))) s → wpAny (model prog w) A (compareOp .Lt p q) Q E s := by
  cases h with
  | al ha hn =>
    have e : lxt (x :: xs) (y :: ys) = PySem.W.dataLt x y := PySem.W.dataLt_all_no ha hne0
    rw [e]
    refine fun Q E hq => PySem.W.rcLt_alike x y A s p q as bs ra rb ha hn ?_ prog w E Q hq
    have : min x.depth y.depth ≤ x.depth := Nat.min_le_left _ _
    omega
  | @hd a b xs' ys' hne =>
    rw [lxt_hd hne]
    cases ra with
    | @tuple l o vs n _ _ h1 h2 h3 h4 =>
      cases rb with
      | @tuple l' o' vs' n' _ _ k1 k2 k3 k4 =>
        obtain ⟨vs⟩ := vs
        obtain ⟨vs'⟩ := vs'
        cases h4 with
        | @cons v1 vs1 _ _ _ _ r1 r2 =>
          cases k4 with
          | @cons v2 vs2 _ _ _ _ q1 q2 =>
            cases r1 with
            | str _ t =>
              cases q1 with
              | str _ u =>
                obtain ⟨c, dd, dt, sl⟩ := o
                obtain ⟨c', dd', dt', sl'⟩ := o'
                simp only at h2 h3 k2 k3
                subst h2 h3 k2 k3
                intro Q E hq
                exact richCompare_meets_room (op := .Lt) ⟨_, h1, rfl⟩ ⟨_, k1, rfl⟩ PySem.F.slot_tuple_lt PySem.F.entry_tuple_lt (PySem.F.args_tuple_lt_2 _ _) (tup_lt_head l l' vs1 vs2 n n' dd dd' sl sl' a b t u hne)
                  ⟨h1, k1, ⟨(fun z => nomatch z), hq⟩⟩ (by omega)
theorem fo_tellsX {fin : Bool} (hu : A.units + 62 < cLine) : ∀ {i : Nat} {xs ys : List PyData} {vs ws : List Value} {as bs : List Addr}, FO i xs ys → fin = decide (xs.length < ys.length) → ReadsAll s.heap vs xs as → ReadsAll s.heap ws ys bs → PyData.plainAll xs = true → PyData.plainAll ys = true → (∀ x ∈ xs, x.depth ≤ 60) →
    PySem.W.KatLex prog w A true fin (fun r s' => s' = s ∧ r = lxt xs ys) (vs.zip ws) i s := by
  intro i xs ys vs ws as bs h
  induction h generalizing vs ws as bs with
  | @nil _ ys =>
    intro hf ra _ _ _ _
    cases ra
    refine PySem.W.kat_nil ⟨rfl, ?_⟩
    rw [hf]
    cases ys with
    | nil => rfl
    | cons y ys =>
      unfold lxt
      rw [PySem.W.toks_all_cons, show PySem.W.keyToksAll [] = [Sum.inl 0] from by simp only [PySem.W.keyToksAll], PyProof.Rows.lex_diff (by decide)]
      show decide (0 < ys.length + 1) = _
      rw [decide_eq_true (Nat.succ_pos _)]
      decide +kernel
  | @nil2 _ xs =>
    intro hf _ rb _ _ _
    cases rb
    rw [List.zip_nil_right]
    refine PySem.W.kat_nil ⟨rfl, ?_⟩
    rw [hf]
    cases xs with
    | nil => rfl
    | cons x xs =>
      unfold lxt
      rw [PySem.W.toks_all_cons, show PySem.W.keyToksAll [] = [Sum.inl 0] from by simp only [PySem.W.keyToksAll], PyProof.Rows.lex_diff (by decide)]
      show decide (xs.length + 1 < 0) = _
      rw [decide_eq_false (Nat.not_lt_zero _)]
      decide +kernel
  | eq he _ ih =>
    intro hf ra rb pa pb hd
    rw [PyData.plainAll, Bool.and_eq_true] at pa pb
    cases ra with
    | cons r1 r2 =>
      cases rb with
      | cons q1 q2 =>
        have hb := ih (by rw [hf]; simp) r2 q2 pa.2 pb.2 fun x hx => hd x (List.mem_cons_of_mem _ hx)
        rw [lxt_eq he]
        refine PySem.W.kat_cons (PySem.SeqAt.eqAt_plain _ _ A s _ _ _ _ r1 q1 pa.1 pb.1 ?_ prog w _ _ ?_)
        · have := hd _ (List.mem_cons_self ..)
          exact Nat.lt_of_le_of_lt (Nat.add_le_add_left (Nat.le_trans (Nat.min_le_left _ _) (Nat.le_trans this (by decide : 60 ≤ 62))) _) hu
        · rw [he]
          exact PySem.W.kat_yes hb
  | @s0 sa sb xs' ys' he =>
    intro hf ra rb pa pb hd
    rw [PyData.plainAll, Bool.and_eq_true] at pa pb
    have e : lxt (.str sa :: xs') (.str sb :: ys') = decide (sa.cps.toList < sb.cps.toList) := by
      rw [← PySem.W.dataLt_str]
      exact PySem.W.dataLt_all_no rfl he
    rw [e]
    cases ra with
    | cons r1 r2 =>
      cases rb with
      | cons q1 q2 =>
        refine PySem.W.kat_cons (PySem.SeqAt.eqAt_plain _ _ A s _ _ _ _ r1 q1 pa.1 pb.1 ?_ prog w _ _ ?_)
        · have := hd _ (List.mem_cons_self ..)
          exact Nat.lt_of_le_of_lt (Nat.add_le_add_left (Nat.le_trans (Nat.min_le_left _ _) (Nat.le_trans this (by decide : 60 ≤ 62))) _) hu
        · rw [he]
          cases r1
          cases q1
          exact PySem.W.kat_no (PyProof.Rows.oneLt_str ⟨rfl, rfl⟩)
  | lt he hl =>
    intro hf ra rb pa pb hd
    rw [PyData.plainAll, Bool.and_eq_true] at pa pb
    cases ra with
    | cons r1 r2 =>
      cases rb with
      | cons q1 q2 =>
        have hb := ltS_tellsX (prog := prog) (w := w) hl he r1 q1 hu (hd _ (List.mem_cons_self ..))
        refine PySem.W.kat_cons (PySem.SeqAt.eqAt_plain _ _ A s _ _ _ _ r1 q1 pa.1 pb.1 ?_ prog w _ _ ?_)
        · have := hd _ (List.mem_cons_self ..)
          exact Nat.lt_of_le_of_lt (Nat.add_le_add_left (Nat.le_trans (Nat.min_le_left _ _) (Nat.le_trans this (by decide : 60 ≤ 62))) _) hu
        · rw [he]
          refine PySem.W.kat_no ?_
          rename_i i' _ _ _ _ _ _ _ _ _ _ _ _
          have e0 : (true && (i' + 1 == 0)) = false := rfl
          rw [e0]
          exact PySem.W.kat_one _ _ (hb _ _ _ _ ⟨rfl, rfl⟩)
end

/-- rows whose order is told by their signs -/
def rowLt : PyData → PyData → Bool
  | .tuple xs, .tuple ys => lxt xs ys
  | _, _ => false
def ltKey (x y : List (Int ⊕ List Nat)) : Bool := PyProof.Rows.lexLt PyProof.Rows.itemOrd x y
theorem ltKey_tr {x y z : List (Int ⊕ List Nat)} (h1 : ltKey y x = false) (h2 : ltKey z y = false) : ltKey z x = false := by
  cases e : ltKey z x with
  | false => rfl
  | true =>
    rcases PyProof.Rows.lex_negTrans (O := PyProof.Rows.itemOrd) z y x e with h | h
    · rw [show ltKey z y = true from h] at h2
      cases h2
    · rw [show ltKey y x = true from h] at h1
      cases h1
theorem ltKey_asym {x y : List (Int ⊕ List Nat)} (h : ltKey x y = true) : ltKey y x = false := by
  cases e : ltKey y x with
  | false => rfl
  | true =>
    have := PyProof.Rows.lex_trans (O := PyProof.Rows.itemOrd) x y x h e
    rw [PyProof.Rows.lex_irrefl (O := PyProof.Rows.itemOrd)] at this
    cases this
/-- two lists in order of the same rows are one -/
theorem keys_one : ∀ {l l' : List PyData}, (∀ x ∈ l, ∀ y ∈ l, PySem.W.keyToks x = PySem.W.keyToks y → x = y) → (l.Pairwise fun a b => ltKey (PySem.W.keyToks b) (PySem.W.keyToks a) = false) → (l'.Pairwise fun a b => ltKey (PySem.W.keyToks b) (PySem.W.keyToks a) = false) → l.Perm l' → l = l'
  | [], l', _, _, _, p => (List.Perm.nil_eq p)
  | x :: r, [], _, _, _, p => absurd p.symm (List.not_perm_nil_cons x r)
  | x :: r, y :: r', inj, h, h', p => by
    have h1 := List.pairwise_cons.mp h
    have h2 := List.pairwise_cons.mp h'
    have exy : x = y := by
      have m1 : x ∈ y :: r' := p.subset (List.mem_cons_self ..)
      have m2 : y ∈ x :: r := p.symm.subset (List.mem_cons_self ..)
      refine inj x List.mem_cons_self y m2 ?_
      rcases List.mem_cons.mp m1 with e | m1
      · rw [e]
      · rcases List.mem_cons.mp m2 with e | m2
        · rw [e]
        · exact PyProof.Rows.lex_total (O := PyProof.Rows.itemOrd) _ _ (h2.1 x m1) (h1.1 y m2)
    subst exy
    rw [keys_one (fun a ha b hb => inj a (List.mem_cons_of_mem _ ha) b (List.mem_cons_of_mem _ hb)) h1.2 h2.2 ((List.perm_cons x).mp p)]
/-- in order -/
def rowsIn (ds es : List PyData) : Prop := es.Perm ds ∧ es.Pairwise fun a b => ltKey (PySem.W.keyToks b) (PySem.W.keyToks a) = false
open Classical in
noncomputable def srtR (ds : List PyData) : List PyData := if h : ∃ es, rowsIn ds es then h.choose else []
theorem srtR_of {ds es : List PyData} (inj : ∀ x ∈ ds, ∀ y ∈ ds, PySem.W.keyToks x = PySem.W.keyToks y → x = y) (h : rowsIn ds es) : es = srtR ds := by
  have hx : ∃ es, rowsIn ds es := ⟨es, h⟩
  unfold srtR
  rw [dif_pos hx]
  exact keys_one (fun x hx' y hy => inj x (h.1.mem_iff.mp hx') y (h.1.mem_iff.mp hy)) h.2 hx.choose_spec.2 (h.1.trans hx.choose_spec.1.symm)
structure RowsX (ds : List PyData) : Prop where
  ok : RowsOk ds
  inj : ∀ x ∈ ds, ∀ y ∈ ds, PySem.W.keyToks x = PySem.W.keyToks y → x = y
/-- sorted(rows) -/
def rSortX (K : PySem.W.Frag) : List V → Hp → VK → Prop := fun xs H Q => ∃ (a : Addr) (vs : List V) (ds : List PyData), xs = [.ref a] ∧ SqL K H a vs ∧ DpAll K H vs ds ∧ RowsX ds ∧ ∀ (ys : List V) (p : Addr), (srtR ds).Perm ds → DpAll K H ys (srtR ds) → H p = none → Q (.ref p) (upd H p (.lst ys))
section
open Classical
/-- what a value stands for, among these -/
noncomputable def dataOf (h : Heap) (ds : List PyData) (v : Value) : PyData := if e : ∃ d, d ∈ ds ∧ ∃ as, Reads h v d as then e.choose else .none
theorem dataOf_is {h : Heap} {ds : List PyData} {v : Value} {d : PyData} {as : List Addr} (hd : d ∈ ds) (r : Reads h v d as) : dataOf h ds v = d := by
  have e : ∃ d, d ∈ ds ∧ ∃ as, Reads h v d as := ⟨d, hd, as, r⟩
  unfold dataOf
  rw [dif_pos e]
  obtain ⟨_, as', r'⟩ := e.choose_spec
  exact (Reads.unique r' _ _ r).1
end
theorem readsAll_len {h : Heap} : ∀ {vs : List Value} {ds : List PyData} {as : List Addr}, ReadsAll h vs ds as → vs.length = ds.length
  | _, _, _, .nil => rfl
  | _, _, _, .cons _ rs => congrArg (· + 1) (readsAll_len rs)
theorem its_data {h : Heap} {Ds : List PyData} : ∀ {vs : List Value} {ds : List PyData} {as : List Addr}, ReadsAll h vs ds as → (∀ d ∈ ds, d ∈ Ds) → vs.map (dataOf h Ds) = ds
  | _, _, _, .nil, _ => rfl
  | _, _, _, .cons (d := d) r rs, hm => by
    rw [List.map_cons, dataOf_is (hm d List.mem_cons_self) r, its_data rs fun x hx => hm x (List.mem_cons_of_mem _ hx)]
section
variable {X : Cx}
theorem its_dp {K : PySem.W.Frag} {h : Heap} {H : Hp} {Ds : List PyData} : ∀ {xs : List V} {ds : List PyData} {vs : List Value} {as : List Addr}, DpAll K H xs ds → Vals xs vs → ReadsAll h vs ds as → (∀ d ∈ ds, d ∈ Ds) → (∀ x ∈ xs, ∃ t, x = V.ref t) → ∀ v ∈ vs, Dp K H (backV v) (dataOf h Ds v)
  | _, _, _, _, .nil, r, _, _, _, v, hv => by
    cases r
    cases hv
  | _, _, _, _, .cons hd a, r, ra, hm, hx, v, hv => by
    cases r with
    | cons r1 rr =>
      cases ra with
      | cons q1 qq =>
        rcases List.mem_cons.mp hv with rfl | hv
        · rw [dataOf_is (hm _ List.mem_cons_self) q1]
          obtain ⟨t, rfl⟩ := hx _ List.mem_cons_self
          obtain rfl : v = Value.ref t := r1
          exact hd
        · exact its_dp a rr qq (fun x hx' => hm x (List.mem_cons_of_mem _ hx')) (fun x hx' => hx x (List.mem_cons_of_mem _ hx')) v hv
theorem cr_sortX (hu : X.A.units + 65 < cLine) : CallR X (.builtin "sorted") (rSortX X.K) := by
  intro pins s σ H xs us Q I r h
  obtain ⟨a, xs, ds, rfl, hs, hx, hok, q⟩ := h
  obtain ⟨its, rv, hl, hz⟩ := I.list hs
  obtain ⟨u, rfl, ru⟩ := vals1 r
  obtain rfl : u = Value.ref a := ru
  obtain ⟨as, ra⟩ := Dp.readsAll I ds xs its hx rv
  have hrefs := refs_dp hx fun d hd => by obtain ⟨k, ys, e, _⟩ := hok.ok.tup d hd; exact ⟨_, e⟩
  obtain ⟨e1, e2⟩ := refs_back rv hrefs
  have O : SrtO.Swo fun (v u : Value) => ltKey (PySem.W.keyToks (dataOf s.heap ds v)) (PySem.W.keyToks (dataOf s.heap ds u)) := ⟨fun x y h => ltKey_asym h, fun x y z h1 h2 => ltKey_tr h1 h2⟩
  refine SrtO.sorted_ord O hl.isList (by rw [← rv.length]; exact hz) (fun h2 h₁ a' ha k => ?_) fun out ho hb => ?_
  · intro h' keep
    have kk : ∀ b o, s.heap.get? b = some o → h'.get? b = some o := fun b o e => keep b o (k b o e).1 (k b o e).2
    have ra' : ReadsAll h' its ds as := ReadsAll.keeps kk ra
    obtain ⟨fs, g1, g2, g3⟩ := rows_firsts ra' fun d hd => by obtain ⟨k, ys, e, _⟩ := hok.ok.tup d hd; exact ⟨k, ys, e⟩
    refine ⟨PyProof.Rows.tuples' true, fun Q E hq => ?_, fun p q hm hm' => ?_⟩
    · refine PySem.W.kat_kind (T := .type "str") g1 (by omega) (fun f hm => ?_) (by rfl) ?_
      · obtain ⟨x, t, rfl⟩ := g3 f hm
        exact PySem.W.Looks.now
      · have e : (Value.type "str" != Value.type "tuple") = true := by first | decide +kernel | rfl | decide
        rw [e]
        exact hq
    · obtain ⟨d, hd, b1, r1⟩ := reads_mem ra _ hm
      obtain ⟨d', hd', b2, r2⟩ := reads_mem ra _ hm'
      have r1' := PyProof.Rows.Reads.keeps kk r1
      have r2' := PyProof.Rows.Reads.keeps kk r2
      have ek : PySem.W.keyToks (dataOf s.heap ds p.1) = PySem.W.keyToks d := by rw [dataOf_is hd r1]
      have ek' : PySem.W.keyToks (dataOf s.heap ds q.1) = PySem.W.keyToks d' := by rw [dataOf_is hd' r2]
      show wpAny _ _ _ (fun r s' => s' = _ ∧ r = ltKey (PySem.W.keyToks (dataOf s.heap ds p.1)) (PySem.W.keyToks (dataOf s.heap ds q.1))) _ _
      rw [ek, ek']
      obtain ⟨k, xs, rfl, p1, e1⟩ := hok.ok.tup d hd
      obtain ⟨k', ys, rfl, p2, e2⟩ := hok.ok.tup d' hd'
      generalize p.1 = pv at r1'
      generalize q.1 = qv at r2'
      cases r1' with
      | @tuple l o us n _ _ h1 h2 h3 h4 =>
        cases r2' with
        | @tuple l' o' us' n' _ _ k1 k2 k3 k4 =>
          have hln : us.size = (PyData.str k :: xs).length := by
            have := readsAll_len h4
            simpa using this
          have hln' : us'.size = (PyData.str k' :: ys).length := by
            have := readsAll_len k4
            simpa using this
          have e0 : ∀ zs : List PyData, PySem.W.keyToks (.tuple zs) = PySem.W.keyToksAll zs := fun zs => by simp only [PySem.W.keyToks]
          rw [e0, e0]
          exact PySem.W.kat_lt h1 h3 k1 k3 (fo_tellsX (by show X.A.units + 1 + 1 + 62 < cLine; omega) (hok.ok.cmp _ _ hd hd') (by rw [hln, hln']) h4 k4 p1 p2 e1)
  · have hp := hb.perm
    have h3 : ∀ u ∈ out, ∃ a, u = Value.ref a := fun u hu => e2 u (hp.mem_iff.mp hu)
    obtain ⟨n, hn⟩ := PyProof.Rows.sortedAll_at s.heap its out.toArray
    have ed := its_data (Ds := ds) ra fun d hd => hd
    have hin : rowsIn ds (out.map (dataOf s.heap ds)) := by
      refine ⟨?_, ?_⟩
      · have := hp.map (dataOf s.heap ds)
        rw [ed] at this
        exact this
      · rw [List.pairwise_map]
        exact ho
    refine ⟨.ref (s.heap.objs.size + 1), upd H (s.heap.objs.size + 1) (.lst (out.map backV)), I.laid (t' := s.toks) (fun b o e => PyProof.Rows.sortedAll_old e) (Nat.le_succ _) ⟨?_, out, n, vals_back h3, hn⟩, rfl, q _ _ ?_ ?_ (I.hok.fresh (Nat.le_succ _))⟩
    · rw [List.length_map, hp.length_eq, ← rv.length]; exact hz
    · rw [← srtR_of hok.inj hin]
      exact hin.1
    · rw [← srtR_of hok.inj hin]
      have all := its_dp hx rv ra (fun d hd => hd) hrefs
      have go : ∀ l : List Value, (∀ v ∈ l, v ∈ its) → DpAll X.K H (l.map backV) (l.map (dataOf s.heap ds)) := by
        intro l
        induction l with
        | nil => exact fun _ => .nil
        | cons v l ih => exact fun hl => .cons (all v (hl v List.mem_cons_self)) (ih fun x hx => hl x (List.mem_cons_of_mem _ hx))
      exact go out fun v hv => hp.mem_iff.mp hv
end
/-! ### a grammar's rows can be sorted -/
theorem fo_self : ∀ (xs : List PyData) (i : Nat), PyData.plainAll xs = true → FO i xs xs
  | [], _, _ => .nil
  | x :: xs, i, h => by
    rw [PyData.plainAll, Bool.and_eq_true] at h
    exact .eq (PySem.SeqAt.eqv_refl_plain x h.1) (fo_self xs (i + 1) h.2)
theorem plain_names : ∀ ws : List (List Nat), PyData.plainAll (ws.map strD) = true
  | [] => rfl
  | _ :: ws => plain_names ws
theorem depth_names : ∀ ws : List (List Nat), PyData.depthAll (ws.map strD) = 0
  | [] => rfl
  | w :: ws => by
    show max 0 (PyData.depthAll (ws.map strD)) = 0
    rw [depth_names ws]
    rfl
theorem en_plain (e : En) : e.d.plain = true := by cases e <;> rfl
theorem od_plain (o : Od) : o.d.plain = true := by
  cases o with
  | en e => exact en_plain e
  | own => rfl
  | num n => rfl
theorem ods_plain : ∀ os : List Od, PyData.plainAll (os.map Od.d) = true
  | [] => rfl
  | o :: os => by
    show (o.d.plain && PyData.plainAll (os.map Od.d)) = true
    rw [od_plain o, ods_plain os]
    rfl
theorem en_depth (e : En) : e.d.depth ≤ 1 := by cases e <;> exact Nat.le_refl _
theorem od_depth (o : Od) : o.d.depth ≤ 1 := by
  cases o with
  | en e => exact en_depth e
  | own => exact Nat.le_refl _
  | num n => exact Nat.le_refl _
theorem ods_depth : ∀ os : List Od, PyData.depthAll (os.map Od.d) ≤ 1
  | [] => Nat.zero_le _
  | o :: os => by
    show max o.d.depth (PyData.depthAll (os.map Od.d)) ≤ 1
    exact Nat.max_le.mpr ⟨od_depth o, ods_depth os⟩
theorem str_ne {a b : List Nat} (h : a ≠ b) : PyData.eqv (strD a) (strD b) = false := by
  show (SX.S a == SX.S b) = false
  rw [beq_eq_false_iff_ne]
  exact fun z => h (SX.S_inj z)
theorem str_eq (a : List Nat) : PyData.eqv (strD a) (strD a) = true := by
  show (SX.S a == SX.S a) = true
  exact beq_self_eq_true _
theorem by_name {α : Type} {f : α → List Nat} : ∀ {rs : List α}, (rs.map f).Nodup → ∀ r ∈ rs, ∀ r' ∈ rs, f r = f r' → r = r'
  | [], _, r, h, _, _, _ => nomatch h
  | x :: xs, hn, r, h, r', h', e => by
    rw [List.map_cons, List.nodup_cons] at hn
    rcases List.mem_cons.mp h with rfl | g
    · rcases List.mem_cons.mp h' with rfl | g'
      · rfl
      · exact absurd (e ▸ List.mem_map_of_mem g') hn.1
    · rcases List.mem_cons.mp h' with rfl | g'
      · exact absurd (e ▸ List.mem_map_of_mem g) hn.1
      · exact by_name hn.2 r g r' g' e
theorem rows_sorts {rs : List SRow} (h : SortsOk rs) : RowsOk (rs.map SRow.d) := by
  have pl : ∀ r : SRow, PyData.plainAll [strD r.nm, .tuple (r.dn.map strD), .tuple (r.up.map strD)] = true := fun r => by
    show (true && (PyData.plainAll (r.dn.map strD) && (PyData.plainAll (r.up.map strD) && true))) = true
    rw [plain_names, plain_names]
    rfl
  refine ⟨fun d hd => ?_, fun xs ys hx hy => ?_⟩
  · obtain ⟨r, _, rfl⟩ := List.mem_map.mp hd
    refine ⟨SX.S r.nm, _, rfl, pl r, fun x hx => ?_⟩
    simp only [List.mem_cons, List.not_mem_nil, or_false] at hx
    rcases hx with rfl | rfl | rfl
    · exact Nat.zero_le _
    · show PyData.depthAll (r.dn.map strD) + 1 ≤ 60
      rw [depth_names]
      decide
    · show PyData.depthAll (r.up.map strD) + 1 ≤ 60
      rw [depth_names]
      decide
  · obtain ⟨r, hr, e⟩ := List.mem_map.mp hx
    obtain ⟨r', hr', e'⟩ := List.mem_map.mp hy
    cases e
    cases e'
    by_cases hn : r.nm = r'.nm
    · rw [by_name h.nd r hr r' hr' hn]
      exact fo_self _ 0 (pl r')
    · exact .s0 (str_ne hn)
theorem rows_maks {ms : List MRow} (h : (ms.map MRow.nm).Nodup) : RowsOk (ms.map MRow.d) := by
  have pl : ∀ r : MRow, PyData.plainAll [strD r.nm, strD r.so, .tuple (r.pt.map strD)] = true := fun r => by
    show (true && (true && (PyData.plainAll (r.pt.map strD) && true))) = true
    rw [plain_names]
    rfl
  refine ⟨fun d hd => ?_, fun xs ys hx hy => ?_⟩
  · obtain ⟨r, _, rfl⟩ := List.mem_map.mp hd
    refine ⟨SX.S r.nm, _, rfl, pl r, fun x hx => ?_⟩
    simp only [List.mem_cons, List.not_mem_nil, or_false] at hx
    rcases hx with rfl | rfl | rfl
    · exact Nat.zero_le _
    · exact Nat.zero_le _
    · show PyData.depthAll (r.pt.map strD) + 1 ≤ 60
      rw [depth_names]
      decide
  · obtain ⟨r, hr, e⟩ := List.mem_map.mp hx
    obtain ⟨r', hr', e'⟩ := List.mem_map.mp hy
    cases e
    cases e'
    by_cases hn : r.nm = r'.nm
    · rw [by_name h r hr r' hr' hn]
      exact fo_self _ 0 (pl r')
    · exact .s0 (str_ne hn)
theorem rund_same : ∀ {ru : List RRow}, RuNd ru → ∀ r ∈ ru, ∀ r' ∈ ru, r.ma = r'.ma → r.tg = r'.tg → r = r'
  | [], _, r, h, _, _, _, _ => nomatch h
  | x :: xs, hn, r, h, r', h', e, e2 => by
    unfold RuNd at hn
    rw [List.pairwise_cons] at hn
    rcases List.mem_cons.mp h with rfl | g
    · rcases List.mem_cons.mp h' with rfl | g'
      · rfl
      · exact absurd e2 (hn.1 r' g' e)
    · rcases List.mem_cons.mp h' with rfl | g'
      · exact absurd e2.symm (hn.1 r g e.symm)
      · exact rund_same hn.2 r g r' g' e e2
theorem en_lt {e e' : En} : LtS e.d e'.d := by
  cases e with
  | sp p w =>
    cases e' with
    | sp p' w' => exact .al rfl (fun z => nomatch z)
    | kept w' => exact .hd (by decide +kernel)
  | kept w =>
    cases e' with
    | sp p' w' => exact .hd (by decide +kernel)
    | kept w' => exact .al rfl (fun z => nomatch z)
theorem rows_rules {ru : List RRow} (h : RuNd ru) : RowsOk (ru.map RRow.d) := by
  have pl : ∀ r : RRow, PyData.plainAll [strD r.ma, r.tg.d, strD r.op, .tuple (r.os.map Od.d)] = true := fun r => by
    show (true && (r.tg.d.plain && (true && (PyData.plainAll (r.os.map Od.d) && true)))) = true
    rw [en_plain, ods_plain]
    rfl
  refine ⟨fun d hd => ?_, fun xs ys hx hy => ?_⟩
  · obtain ⟨r, _, rfl⟩ := List.mem_map.mp hd
    refine ⟨SX.S r.ma, _, rfl, pl r, fun x hx => ?_⟩
    simp only [List.mem_cons, List.not_mem_nil, or_false] at hx
    rcases hx with rfl | rfl | rfl | rfl
    · exact Nat.zero_le _
    · exact Nat.le_trans (en_depth _) (by decide)
    · exact Nat.zero_le _
    · show PyData.depthAll (r.os.map Od.d) + 1 ≤ 60
      have := ods_depth r.os
      omega
  · obtain ⟨r, hr, e⟩ := List.mem_map.mp hx
    obtain ⟨r', hr', e'⟩ := List.mem_map.mp hy
    cases e
    cases e'
    by_cases hn : r.ma = r'.ma
    · by_cases ht : r.tg = r'.tg
      · rw [rund_same h r hr r' hr' hn ht]
        exact fo_self _ 0 (pl r')
      · refine .eq (by rw [hn]; exact str_eq _) (.lt ?_ en_lt)
        rw [en_eqv]
        exact decide_eq_false ht
    · exact .s0 (str_ne hn)
/-! ### a grammar is made -/
abbrev s_GI : Stmt := inClass (top 47) 0
abbrev N_GI : List Str := ["self", "sorts", "makings", "rules", "cap", "making"]
abbrev P_GI : List Str := ["self", "sorts", "makings", "rules", "cap"]
theorem sc_GI : FnScope N_GI P_GI (defScope s_GI) := ⟨rfl, rfl, rfl, by decide +kernel, rfl, by decide +kernel, by decide +kernel⟩
theorem ins_no {C dx : Addr} {fs : List (Str × V)} : ¬ TupO (.ins C dx fs) := fun h => by
  rcases h with ⟨_, e⟩ | ⟨_, _, e⟩ <;> cases e
abbrev g1 (a : V) : List (Str × V) := [("top", a)]
abbrev g2 (a b : V) : List (Str × V) := [("top", a), ("sort_table", b)]
abbrev g3 (a b c : V) : List (Str × V) := [("top", a), ("sort_table", b), ("making_table", c)]
abbrev g4 (a b c d : V) : List (Str × V) := [("top", a), ("sort_table", b), ("making_table", c), ("rule_table", d)]
abbrev g5 (a b c d e : V) : List (Str × V) := [("top", a), ("sort_table", b), ("making_table", c), ("rule_table", d), ("kept_table", e)]
abbrev g6 (a b c d e f : V) : List (Str × V) := [("top", a), ("sort_table", b), ("making_table", c), ("rule_table", d), ("kept_table", e), ("risen", f)]
theorem pf1 (a : V) : putF "top" a [] = g1 a := by with_unfolding_all rfl
theorem pf2 (a b : V) : putF "sort_table" b (g1 a) = g2 a b := by with_unfolding_all rfl
theorem pf3 (a b c : V) : putF "making_table" c (g2 a b) = g3 a b c := by with_unfolding_all rfl
theorem pf4 (a b c d : V) : putF "rule_table" d (g3 a b c) = g4 a b c d := by with_unfolding_all rfl
theorem pf5 (a b c d e : V) : putF "kept_table" e (g4 a b c d) = g5 a b c d e := by with_unfolding_all rfl
theorem pf6 (a b c d e f : V) : putF "risen" f (g5 a b c d e) = g6 a b c d e f := by with_unfolding_all rfl
theorem lk2 (a b : V) : (g2 a b).lookup (("sort_table" : String) : Str) = some b := by with_unfolding_all rfl
theorem lk3 (a b c : V) : (g3 a b c).lookup (("making_table" : String) : Str) = some c := by with_unfolding_all rfl
theorem lk3b (a b c : V) : (g3 a b c).lookup (("sort_table" : String) : Str) = some b := by with_unfolding_all rfl
theorem lk4 (a b c d : V) : (g4 a b c d).lookup (("making_table" : String) : Str) = some c := by with_unfolding_all rfl
theorem lk4b (a b c d : V) : (g4 a b c d).lookup (("rule_table" : String) : Str) = some d := by with_unfolding_all rfl
/-- {k: v for .. in ..} over any walk -/
theorem dc_it {J : It} {n : Nat} {G : Hp → Prop} {Yd : Nat → Hp → V → Hp → Prop} (Wk : Walk J n G Yd) {g : TG} {tt : TT} {tk tv : TE} {vs : List Nat} {σ : L2.St} {H1 : Hp} {D : Addr} {Qd : Hp → Prop} (Pv : Nat → Hp → Prop) (h0 : Pv 0 (upd H1 D (.dK []))) (hl : ∀ i H, i ≤ n → Pv i H → G H)
    (hs : ∀ i x H H', i < n → Pv i H → Yd i H x H' → g x (wipe σ vs) H' fun σ2 H2 => wipe σ2 vs = wipe σ vs ∧ tt σ2 H2 fun b H3 =>
      if b = true then tk σ2 H3 fun y H4 => tv σ2 H4 fun z H5 => ∃ kvs k, y = kV k ∧ H5 D = some (.dK kvs) ∧ kvs.length < sizeLine ∧ Pv (i + 1) (upd H5 D (.dK (putK kvs k z))) else Pv (i + 1) H3) (hd : ∀ H, Pv n H → Qd H) :
    ∃ W : Nat → Nat → Hp → Prop, (∃ m, W 0 m (upd H1 D (.dK []))) ∧ ∀ i m H, W i m H →
      (J.stop i H ∧ Qd H) ∨ (J.go i H ∧ ∃ Nx : Hp → Prop, (∀ H', Nx H' → ∃ m', m' < m ∧ W (i + 1) m' H') ∧ ∀ x H', J.yld i H x H' → g x (wipe σ vs) H' fun σ2 H2 => wipe σ2 vs = wipe σ vs ∧ tt σ2 H2 fun b H3 =>
        if b = true then tk σ2 H3 fun y H4 => tv σ2 H4 fun z H5 => ∃ kvs k, y = kV k ∧ H5 D = some (.dK kvs) ∧ kvs.length < sizeLine ∧ Nx (upd H5 D (.dK (putK kvs k z))) else Nx H3) := by
  refine ⟨fun i m H => m = n - i ∧ i ≤ n ∧ Pv i H, ⟨n, by simp, Nat.zero_le _, h0⟩, ?_⟩
  rintro i m H ⟨rfl, hi, p⟩
  have q := hl i H hi p
  by_cases hlt : i < n
  · exact .inr ⟨Wk.goes i H hlt q, Pv (i + 1), fun H' p' => ⟨n - (i + 1), by omega, rfl, hlt, p'⟩, fun x H' y => hs i x H H' hlt p (Wk.yields i H x H' hlt q y)⟩
  · have e : i = n := by omega
    subst e
    exact .inl ⟨Wk.stops H q, hd H p⟩
theorem pe_fldK {X : Cx} {K' : PySem.W.Frag} {e : Expr} {f : Str} {pos : Pos} {ta : TE} (hK : X.K = K') (he : PE X e ta) (hb : attributeBase e f X.env (eval e X.env) = eval e X.env) : PE X (.Attribute e f pos) (tFld K' ta f) := by
  subst hK
  exact pe_fld he hb
theorem tab_at {K : PySem.W.Frag} {H : Hp} {k : Key} {v : V} : ∀ {kvs : List (Key × V)} {ms : List MRow} {i : Nat}, Tab K H kvs (ms.map mT) → kvs[i]? = some (k, v) → ∃ m, ms[i]? = some m ∧ k = kS m.nm
  | [], _, _, _, h => by cases h
  | _ :: _, [], _, t, _ => by cases t
  | p :: kvs, m :: ms, 0, t, h => by
    cases t with
    | cons a _ =>
      cases h
      exact ⟨m, rfl, a.1⟩
  | p :: kvs, m :: ms, i + 1, t, h => by
    cases t with
    | cons _ r =>
      obtain ⟨m', e, hk⟩ := tab_at (i := i) r h
      exact ⟨m', e, hk⟩
/-- what the rows of a grammar keep to -/
structure GFit (rs : List SRow) (ms : List MRow) (ru : List RRow) (roof : Nat) : Prop where
  so : SortsOk rs
  nd : (ms.map MRow.nm).Nodup
  ok : ∀ m ∈ ms, MOk rs m
  m8 : ms.length ≤ 8
  ra : ∀ r ∈ ru, RuleOk rs ms roof r
  rn : RuNd ru
  rl : ru.length ≤ 240
  kf : KeptFew ru
  ko : ∀ m ∈ ms, (gotTx ((keptNames m.nm ru).map SX.S)).length ≤ 2
  rf : roof ≤ 9
/-- the class, in the written part -/
structure GCls (K : PySem.W.Frag) (C : Addr) : Prop where
  c : Cls K C
  top : NoAttr K C "top"
  sort : NoAttr K C "sort_table"
  making : NoAttr K C "making_table"
  rule : NoAttr K C "rule_table"
  kept : NoAttr K C "kept_table"
  risen : NoAttr K C "risen"
/-- what is kept of each making -/
def KTab (Z H : Hp) (kd : Addr) (ms : List MRow) (ru : List RRow) : Prop := ∃ kk, H kd = some (.dK kk) ∧ ∀ m ∈ ms, ∃ l ys, valV kk (kS m.nm) = some (.ref l) ∧ Z l = none ∧ H l = some (.lst (ys.map V.str)) ∧ ys.Perm (gotTx ((keptNames m.nm ru).map SX.S)) ∧ sortedS ys = true
/-- a grammar on the heap -/
structure GrOk (K : PySem.W.Frag) (P : Program) (w : World) (C : Addr) (Z H : Hp) (x : Addr) (rs : List SRow) (ms : List MRow) (ru : List RRow) (roof : Nat) : Prop where
  ex : ∃ dx sd md rd kd rt, H x = some (.ins C dx [("top", .int roof), ("sort_table", .ref sd), ("making_table", .ref md), ("rule_table", .ref rd), ("kept_table", .ref kd), ("risen", .ref rt)]) ∧
    (∃ skv, H sd = some (.dK skv) ∧ Tab K H skv (rs.map sT)) ∧ (∃ kvs, H md = some (.dK kvs) ∧ Tab K H kvs (ms.map mT)) ∧ (∃ nvs, H rd = some (dnO P w rd nvs) ∧ RPr K H nvs ru) ∧ KTab Z H kd ms ru
theorem GrOk.less {K : PySem.W.Frag} {P : Program} {w : World} {C : Addr} {Z Z' H : Hp} {x : Addr} {rs : List SRow} {ms : List MRow} {ru : List RRow} {roof : Nat} (h : GrOk K P w C Z' H x rs ms ru roof) (s : Same Z Z') : GrOk K P w C Z H x rs ms ru roof := by
  obtain ⟨dx, sd, md, rd, kd, rt, hx, h1, h2, h3, kk, hk, h4⟩ := h.ex
  exact ⟨dx, sd, md, rd, kd, rt, hx, h1, h2, h3, kk, hk, fun m hm => by
    obtain ⟨l, ys, q1, q2, q3⟩ := h4 m hm
    exact ⟨l, ys, q1, s.free q2, q3⟩⟩
theorem sT_imms (rs : List SRow) : ∀ t ∈ rs.map sT, imm t.r = true := fun t ht => by
  obtain ⟨r', _, e⟩ := List.mem_map.mp ht
  rw [← e]
  exact sT_imm r'
theorem mT_imms (ms : List MRow) : ∀ t ∈ ms.map mT, imm t.r = true := fun t ht => by
  obtain ⟨r', _, e⟩ := List.mem_map.mp ht
  rw [← e]
  exact mT_imm r'
theorem GrOk.but {K : PySem.W.Frag} {P : Program} {w : World} {C : Addr} {Z H H' : Hp} {x a : Addr} {b : List V} {rs : List SRow} {ms : List MRow} {ru : List RRow} {roof : Nat} (h : GrOk K P w C Z H x rs ms ru roof) (hZ : Z a ≠ none) (ha : H a = some (.lst b)) (s : But a H H') : GrOk K P w C Z H' x rs ms ru roof := by
  obtain ⟨dx, sd, md, rd, kd, rt, hx, ⟨skv, hs, ts⟩, ⟨mkv, hm, tm⟩, ⟨nvs, hn, tn⟩, kk, hk, h4⟩ := h.ex
  have k := KeepT.but ha s
  have nd : ∀ {c : Addr} {o : HO}, H c = some o → (∀ xs, o ≠ .lst xs) → H' c = some o := fun {c o} e n => s c o (fun z => by
    rw [z, ha] at e
    exact n _ (Option.some.inj e).symm) e
  exact ⟨dx, sd, md, rd, kd, rt, nd hx (fun _ z => nomatch z), ⟨skv, nd hs (fun _ z => nomatch z), ts.keep k (sT_imms rs)⟩, ⟨mkv, nd hm (fun _ z => nomatch z), tm.keep k (mT_imms ms)⟩, ⟨nvs, nd hn (fun _ z => nomatch z), tn.keep k⟩, kk, nd hk (fun _ z => nomatch z), fun m hm' => by
    obtain ⟨l, ys, q1, q2, q3, q4⟩ := h4 m hm'
    exact ⟨l, ys, q1, q2, s _ _ (fun z => hZ (by rw [← z]; exact q2)) q3, q4⟩⟩
theorem GrOk.same {K : PySem.W.Frag} {P : Program} {w : World} {C : Addr} {Z H H' : Hp} {x : Addr} {rs : List SRow} {ms : List MRow} {ru : List RRow} {roof : Nat} (h : GrOk K P w C Z H x rs ms ru roof) (s : Same H H') : GrOk K P w C Z H' x rs ms ru roof := by
  obtain ⟨dx, sd, md, rd, kd, rt, hx, ⟨skv, hs, ts⟩, ⟨mkv, hm, tm⟩, ⟨nvs, hn, tn⟩, kk, hk, h4⟩ := h.ex
  have k := KeepT.of s
  exact ⟨dx, sd, md, rd, kd, rt, s _ _ hx, ⟨skv, s _ _ hs, ts.keep k (sT_imms rs)⟩, ⟨mkv, s _ _ hm, tm.keep k (mT_imms ms)⟩, ⟨nvs, s _ _ hn, tn.keep k⟩, kk, s _ _ hk, fun m hm' => by
    obtain ⟨l, ys, q1, q2, q3, q4⟩ := h4 m hm'
    exact ⟨l, ys, q1, q2, s _ _ q3, q4⟩⟩
/-! rows whose signs tell them -/
theorem toks_str {a b : Str} {xs ys : List PyData} (h : PySem.W.keyToks (.tuple (.str a :: xs)) = PySem.W.keyToks (.tuple (.str b :: ys))) : a = b ∧ PySem.W.keyToksAll xs = PySem.W.keyToksAll ys := by
  simp only [PySem.W.keyToks, PySem.W.toks_all_cons, List.cons_append, List.nil_append, List.cons.injEq, true_and, Sum.inr.injEq] at h
  exact ⟨PySem.W.str_of_cps h.1, h.2⟩
theorem rowsx_sorts {rs : List SRow} (h : SortsOk rs) : RowsX (rs.map SRow.d) := ⟨rows_sorts h, fun x hx y hy e => by
  obtain ⟨r, hr, rfl⟩ := List.mem_map.mp hx
  obtain ⟨r', hr', rfl⟩ := List.mem_map.mp hy
  have := SX.S_inj (toks_str e).1
  rw [by_name h.nd r hr r' hr' this]⟩
theorem rowsx_maks {ms : List MRow} (h : (ms.map MRow.nm).Nodup) : RowsX (ms.map MRow.d) := ⟨rows_maks h, fun x hx y hy e => by
  obtain ⟨r, hr, rfl⟩ := List.mem_map.mp hx
  obtain ⟨r', hr', rfl⟩ := List.mem_map.mp hy
  have := SX.S_inj (toks_str e).1
  rw [by_name h r hr r' hr' this]⟩
theorem en_toks {e e' : En} {xs ys : List PyData} (h : PySem.W.keyToksAll (e.d :: xs) = PySem.W.keyToksAll (e'.d :: ys)) : e = e' := by
  have at_ : ∀ (p : Nat) (w : List Nat), PySem.W.keyToks (En.d (.sp p w)) = [Sum.inl 1, Sum.inr (("at" : String) : Str).cps.toList, Sum.inl 1, Sum.inl ((p : Nat) : Int), Sum.inl 1, Sum.inr w, Sum.inl 0] := fun p w => by
    show PySem.W.keyToks (.tuple [.str "at", .int ((p : Nat) : Int), .str (SX.S w)]) = _
    simp only [PySem.W.keyToks, PySem.W.keyToksAll, List.cons_append, List.nil_append]
  have kp_ : ∀ (w : List Nat), PySem.W.keyToks (En.d (.kept w)) = [Sum.inl 1, Sum.inr (("kept" : String) : Str).cps.toList, Sum.inl 1, Sum.inr w, Sum.inl 0] := fun w => by
    show PySem.W.keyToks (.tuple [.str "kept", .str (SX.S w)]) = _
    simp only [PySem.W.keyToks, PySem.W.keyToksAll, List.cons_append, List.nil_append]
  have ne : (("at" : String) : Str).cps.toList ≠ (("kept" : String) : Str).cps.toList := by decide +kernel
  rw [PySem.W.toks_all_cons, PySem.W.toks_all_cons] at h
  cases e with
  | sp p w =>
    cases e' with
    | sp p' w' =>
      rw [at_, at_] at h
      simp only [List.cons_append, List.nil_append, List.cons.injEq, true_and, Sum.inl.injEq, Sum.inr.injEq] at h
      obtain ⟨h1, h2, _⟩ := h
      have : p = p' := by omega
      rw [this, h2]
    | kept w' =>
      rw [at_, kp_] at h
      simp only [List.cons_append, List.nil_append, List.cons.injEq, true_and, Sum.inr.injEq] at h
      exact absurd h.1 ne
  | kept w =>
    cases e' with
    | sp p' w' =>
      rw [at_, kp_] at h
      simp only [List.cons_append, List.nil_append, List.cons.injEq, true_and, Sum.inr.injEq] at h
      exact absurd h.1.symm ne
    | kept w' =>
      rw [kp_, kp_] at h
      simp only [List.cons_append, List.nil_append, List.cons.injEq, true_and, Sum.inr.injEq] at h
      rw [h.1]
theorem rowsx_rules {ru : List RRow} (h : RuNd ru) : RowsX (ru.map RRow.d) := ⟨rows_rules h, fun x hx y hy e => by
  obtain ⟨r, hr, rfl⟩ := List.mem_map.mp hx
  obtain ⟨r', hr', rfl⟩ := List.mem_map.mp hy
  obtain ⟨e1, e2⟩ := toks_str e
  rw [rund_same h r hr r' hr' (SX.S_inj e1) (en_toks e2)]⟩
theorem immAll_mem : ∀ {ds : List PyData}, immAll ds = true → ∀ d ∈ ds, imm d = true
  | [], _, d, hd => nomatch hd
  | x :: xs, h, d, hd => by
    have h : (imm x && immAll xs) = true := h
    rw [Bool.and_eq_true] at h
    rcases List.mem_cons.mp hd with rfl | hd
    · exact h.1
    · exact immAll_mem h.2 d hd
theorem immAll_of : ∀ {ds : List PyData}, (∀ d ∈ ds, imm d = true) → immAll ds = true
  | [], _ => rfl
  | x :: xs, h => by
    show (imm x && immAll xs) = true
    rw [h x List.mem_cons_self, immAll_of fun d hd => h d (List.mem_cons_of_mem _ hd)]
    rfl
theorem immAll_perm {ds es : List PyData} (p : es.Perm ds) (h : immAll ds = true) : immAll es = true := immAll_of fun d hd => immAll_mem h d (p.mem_iff.mp hd)
/-- all rows, in order -/
def Risen (K : PySem.W.Frag) (C : Addr) (Z H : Hp) (x : Addr) (rs : List SRow) (ms : List MRow) (ru : List RRow) (roof : Nat) : Prop := ∃ (dx rt p1 p2 p3 : Addr) (fs : List (Str × V)) (y1 y2 y3 : List V), H x = some (.ins C dx fs) ∧ fs.lookup (("risen" : String) : Str) = some (.ref rt) ∧ SqT K H rt [.int roof, .ref p1, .ref p2, .ref p3] ∧
  (H p1 = some (.lst y1) ∧ Z p1 = none ∧ DpAll K H y1 (srtR (rs.map SRow.d))) ∧ (H p2 = some (.lst y2) ∧ Z p2 = none ∧ DpAll K H y2 (srtR (ms.map MRow.d))) ∧ (H p3 = some (.lst y3) ∧ Z p3 = none ∧ DpAll K H y3 (srtR (ru.map RRow.d)))
theorem Risen.less {K : PySem.W.Frag} {C : Addr} {Z Z' H : Hp} {x : Addr} {rs : List SRow} {ms : List MRow} {ru : List RRow} {roof : Nat} (h : Risen K C Z' H x rs ms ru roof) (s : Same Z Z') : Risen K C Z H x rs ms ru roof := by
  obtain ⟨dx, rt, p1, p2, p3, fs, y1, y2, y3, h1, h2, h3, ⟨a1, b1, c1⟩, ⟨a2, b2, c2⟩, a3, b3, c3⟩ := h
  exact ⟨dx, rt, p1, p2, p3, fs, y1, y2, y3, h1, h2, h3, ⟨a1, s.free b1, c1⟩, ⟨a2, s.free b2, c2⟩, a3, s.free b3, c3⟩
theorem Risen.same {K : PySem.W.Frag} {C : Addr} {Z H H' : Hp} {x : Addr} {rs : List SRow} {ms : List MRow} {ru : List RRow} {roof : Nat} (h : Risen K C Z H x rs ms ru roof) (s : Same H H') : Risen K C Z H' x rs ms ru roof := by
  obtain ⟨dx, rt, p1, p2, p3, fs, y1, y2, y3, h1, h2, h3, ⟨a1, b1, c1⟩, ⟨a2, b2, c2⟩, a3, b3, c3⟩ := h
  exact ⟨dx, rt, p1, p2, p3, fs, y1, y2, y3, s _ _ h1, h2, Same.seqT s h3, ⟨s _ _ a1, b1, dpAll_same s c1⟩, ⟨s _ _ a2, b2, dpAll_same s c2⟩, s _ _ a3, b3, dpAll_same s c3⟩
theorem Risen.but {K : PySem.W.Frag} {C : Addr} {Z H H' : Hp} {x a : Addr} {b : List V} {rs : List SRow} {ms : List MRow} {ru : List RRow} {roof : Nat} (h : Risen K C Z H x rs ms ru roof) (i1 : immAll (srtR (rs.map SRow.d)) = true) (i2 : immAll (srtR (ms.map MRow.d)) = true) (i3 : immAll (srtR (ru.map RRow.d)) = true) (hZ : Z a ≠ none) (ha : H a = some (.lst b)) (s : But a H H') : Risen K C Z H' x rs ms ru roof := by
  obtain ⟨dx, rt, p1, p2, p3, fs, y1, y2, y3, h1, h2, h3, ⟨a1, b1, c1⟩, ⟨a2, b2, c2⟩, a3, b3, c3⟩ := h
  have k := KeepT.but ha s
  have ne : ∀ {p : Addr}, Z p = none → p ≠ a := fun e z => hZ (by rw [← z]; exact e)
  exact ⟨dx, rt, p1, p2, p3, fs, y1, y2, y3, s _ _ (fun z => by rw [z, ha] at h1; cases h1) h1, h2, KeepT.seqT k h3, ⟨s _ _ (ne b1) a1, b1, dpAll_imm k c1 i1⟩, ⟨s _ _ (ne b2) a2, b2, dpAll_imm k c2 i2⟩, s _ _ (ne b3) a3, b3, dpAll_imm k c3 i3⟩
def spGI (K : PySem.W.Frag) (P : Program) (w : World) (C : Addr) : Sp := fun vs H Q _ => ∃ (x dx ls lm lr : Addr) (roof : Nat) (sv mv rv : List V) (rs : List SRow) (ms : List MRow) (ru : List RRow), vs = [.ref x, .ref ls, .ref lm, .ref lr, .int roof] ∧ H x = some (.ins C dx []) ∧ H ls = some (.lst sv) ∧ H lm = some (.lst mv) ∧ H lr = some (.lst rv) ∧
  DpAll K H sv (rs.map SRow.d) ∧ DpAll K H mv (ms.map MRow.d) ∧ DpAll K H rv (ru.map RRow.d) ∧ GFit rs ms ru roof ∧ ∀ H', But x H H' → GrOk K P w C H H' x rs ms ru roof → Risen K C H H' x rs ms ru roof → Q .non H'
section
variable {P : Program} {w : World} {K : PySem.W.Frag} {mg : Str → Option Value} {base : Heap} {C : Addr}
theorem ok_GI {f : Addr} {fd : FuncData} (T : Gb mg) (gc : GCls K C) (ccap_in : C8.Cal P w K mg base 2 "cap_in" spCap []) (csorts_in : C8.Cal P w K mg base 4 "sorts_in" (spSortsIn K) []) (cmakings_in : C8.Cal P w K mg base 4 "makings_in" (spMaksIn K) []) (crules_in : C8.Cal P w K mg base 5 "rules_in" (spRulesIn K P w) []) (ckept_by : C8.Cal P w K mg base 1 "kept_by" (spKeptBy K P w) [])
    (F : FunD K "__init__" "Grammar.__init__" (defArgs s_GI) (defBody s_GI) (defScope s_GI) [] [("cap", .int 0)] f fd) : FnOk P w K mg base CX0 6 f fd P_GI (spGI K P w C) := by
  refine F.ok sc_GI (fun vs H Q E h => ?_) (fun cdv A outer s H vs Q E hr h => ?_)
  · obtain ⟨x, dx, ls, lm, lr, roof, sv, mv, rv, rs, ms, ru, rfl, _⟩ := h
    rfl
  · obtain ⟨x, dx, ls, lm, lr, roof, sv, mv, rv, rs, ms, ru, rfl, hx, hls, hlm, hlr, hsv, hmv, hrv, gf, q⟩ := h
    refine ⟨_, pss_cons (ps_fld (pv 0) (C8.pe_c ccap_in hr (by decide) (by rfl) (pa_cons (pv 4) pa_nil)) (by rfl))
      (pss_cons (ps_fld (pv 0) (C8.pe_c csorts_in hr (by decide) (by rfl) (pa_cons (pv 1) pa_nil)) (by rfl))
      (pss_cons (ps_fld (pv 0) (C8.pe_c cmakings_in hr (by decide) (by rfl) (pa_cons (pv 2) (pa_cons (pe_fld (pv 0) (by rfl)) pa_nil))) (by rfl))
      (pss_cons (ps_fld (pv 0) (C8.pe_c crules_in hr (by decide) (by rfl) (pa_cons (pv 3) (pa_cons (pe_fld (pv 0) (by rfl)) (pa_cons (pe_fld (pv 0) (by rfl)) (pa_cons (pv 4) pa_nil))))) (by rfl))
      (pss_cons (ps_fld (pv 0) (pe_lock (pe_dc (own := [("making", 5)]) rfl sc_GI.nd (pi_keys (pe_fld (pv 0) (by rfl))) (blkOk_by (own := [("making", 5)]) (N := N_GI) (sc := defScope s_GI) (by decide +kernel)) (fun _ _ _ _ _ => pg_name (i := 5) sc_GI.nd rfl (Or.inl rfl)) (fun _ _ _ _ _ => pts_nil) (fun _ _ _ _ _ => pv 5) (fun _ _ _ _ _ => C8.pe_c ckept_by hr (by decide) (by rfl) (pa_cons (pv 5) (pa_cons (pe_fldK (K' := K) (by rfl) (pv 0) (by rfl)) pa_nil))))) (by rfl))
      (pss_one (ps_fld (pv 0) (pe_tup (pa_cons (pv 4) (pa_cons (pe_callB (cr_sortX (hu65 hr)) (by rfl) T.sorted (by decide +kernel) (pa_cons (pv 1) pa_nil)) (pa_cons (pe_callB (cr_sortX (hu65 hr)) (by rfl) T.sorted (by decide +kernel) (pa_cons (pv 2) pa_nil)) (pa_cons (pe_callB (cr_sortX (hu65 hr)) (by rfl) T.sorted (by decide +kernel) (pa_cons (pv 3) pa_nil)) pa_nil))))) (by rfl))))))), ?_⟩
    have nls : ls ≠ x := fun z => by
      rw [z, hx] at hls
      cases hls
    have nlm : lm ≠ x := fun z => by
      rw [z, hx] at hlm
      cases hlm
    have nlr : lr ≠ x := fun z => by
      rw [z, hx] at hlr
      cases hlr
    have si : ∀ t ∈ rs.map sT, imm t.r = true := fun t ht => by
      obtain ⟨r', _, e⟩ := List.mem_map.mp ht
      rw [← e]
      exact sT_imm r'
    have mi : ∀ t ∈ ms.map mT, imm t.r = true := fun t ht => by
      obtain ⟨r', _, e⟩ := List.mem_map.mp ht
      rw [← e]
      exact mT_imm r'
    -- the cap
    refine ⟨_, rfl, roof, rfl, gf.rf, _, rfl, x, C, dx, [], rfl, hx, gc.c, gc.top, by decide, ?_⟩
    obtain ⟨H1, e1⟩ : ∃ H1, H1 = upd H x (.ins C dx (putF "top" (.int roof) [])) := ⟨_, rfl⟩
    rw [← e1]
    have hx1 : H1 x = some (.ins C dx (g1 (.int roof))) := by rw [e1, upd_same, pf1]
    have b1 : But x H H1 := e1 ▸ But.upd (But.refl x H)
    have k1 : KeepT H H1 := e1 ▸ KeepT.at_ hx ins_no
    -- the sorts
    refine ⟨_, rfl, ls, sv, rs, rfl, b1 _ _ nls hls, dpAll_imm k1 hsv (immAll_map SRow.imm rs), gf.so, fun H2 sd skv s2 nsd hsd htab => ?_⟩
    refine ⟨_, rfl, x, C, dx, _, rfl, s2 _ _ hx1, gc.c, gc.sort, by show 1 < 1000; decide, ?_⟩
    obtain ⟨H3, e3⟩ : ∃ H3, H3 = upd H2 x (.ins C dx (putF "sort_table" (.ref sd) (g1 (.int roof)))) := ⟨_, rfl⟩
    rw [← e3]
    have hx3 : H3 x = some (.ins C dx (g2 (.int roof) (.ref sd))) := by rw [e3, upd_same, pf2]
    have b23 : But x H2 H3 := e3 ▸ But.upd (But.refl x H2)
    have k23 : KeepT H2 H3 := e3 ▸ KeepT.at_ (s2 _ _ hx1) ins_no
    have b3 : But x H H3 := (b1.trans (But.of s2)).trans b23
    have k3 : KeepT H H3 := (k1.trans (KeepT.of s2)).trans k23
    have nsx : sd ≠ x := fun z => by
      rw [z, hx1] at nsd
      cases nsd
    have hsd3 := b23 _ _ nsx hsd
    have htab3 := htab.keep k23 si
    -- the makings
    refine ⟨_, rfl, _, rfl, x, C, dx, _, .ref sd, rfl, hx3, gc.c, gc.sort, lk2 _ _, lm, sd, mv, rs, ms, skv, rfl, b3 _ _ nlm hlm, dpAll_imm k3 hmv (immAll_map MRow.imm ms), gf.so, gf.nd, gf.ok, gf.m8, hsd3, htab3, fun H4 md kvs s4 nmd hmd hmtab => ?_⟩
    refine ⟨_, rfl, x, C, dx, _, rfl, s4 _ _ hx3, gc.c, gc.making, by show 2 < 1000; decide, ?_⟩
    obtain ⟨H5, e5⟩ : ∃ H5, H5 = upd H4 x (.ins C dx (putF "making_table" (.ref md) (g2 (.int roof) (.ref sd)))) := ⟨_, rfl⟩
    rw [← e5]
    have hx5 : H5 x = some (.ins C dx (g3 (.int roof) (.ref sd) (.ref md))) := by rw [e5, upd_same, pf3]
    have b45 : But x H4 H5 := e5 ▸ But.upd (But.refl x H4)
    have k45 : KeepT H4 H5 := e5 ▸ KeepT.at_ (s4 _ _ hx3) ins_no
    have b5 : But x H H5 := (b3.trans (But.of s4)).trans b45
    have k5 : KeepT H H5 := (k3.trans (KeepT.of s4)).trans k45
    have nmx : md ≠ x := fun z => by
      rw [z, hx3] at nmd
      cases nmd
    have hmd5 := b45 _ _ nmx hmd
    have hmtab5 := hmtab.keep k45 mi
    have hsd5 := b45 _ _ nsx (s4 _ _ hsd3)
    have htab5 := htab3.keep ((KeepT.of s4).trans k45) si
    -- the rules
    refine ⟨_, rfl, _, rfl, x, C, dx, _, .ref md, rfl, hx5, gc.c, gc.making, lk3 _ _ _, _, rfl, x, C, dx, _, .ref sd, rfl, hx5, gc.c, gc.sort, lk3b _ _ _, _, rfl, lr, md, sd, roof, rv, rs, ms, ru, rfl, b5 _ _ nlr hlr, dpAll_imm k5 hrv (immAll_map RRow.imm ru), ⟨⟨kvs, hmd5, hmtab5⟩, ⟨skv, hsd5, htab5⟩, gf.so, gf.nd, gf.ok⟩, gf.ra, gf.rn, gf.rl, gf.kf, fun H6 rd nvs s6 nrd hrd hpr => ?_⟩
    refine ⟨_, rfl, x, C, dx, _, rfl, s6 _ _ hx5, gc.c, gc.rule, by show 3 < 1000; decide, ?_⟩
    obtain ⟨H7, e7⟩ : ∃ H7, H7 = upd H6 x (.ins C dx (putF "rule_table" (.ref rd) (g3 (.int roof) (.ref sd) (.ref md)))) := ⟨_, rfl⟩
    rw [← e7]
    have hx7 : H7 x = some (.ins C dx (g4 (.int roof) (.ref sd) (.ref md) (.ref rd))) := by rw [e7, upd_same, pf4]
    have b67 : But x H6 H7 := e7 ▸ But.upd (But.refl x H6)
    have k67 : KeepT H6 H7 := e7 ▸ KeepT.at_ (s6 _ _ hx5) ins_no
    have b7 : But x H H7 := (b5.trans (But.of s6)).trans b67
    have k7 : KeepT H H7 := (k5.trans (KeepT.of s6)).trans k67
    have nrx : rd ≠ x := fun z => by
      rw [z, hx5] at nrd
      cases nrd
    have nrm : rd ≠ md := fun z => by
      rw [z, hmd5] at nrd
      cases nrd
    have hrd7 := b67 _ _ nrx hrd
    have hpr7 := hpr.keep k67
    have hmd7 := b67 _ _ nmx (s6 _ _ hmd5)
    have hmtab7 := hmtab5.keep ((KeepT.of s6).trans k67) mi
    have hsd7 := b67 _ _ nsx (s6 _ _ hsd5)
    have htab7 := htab5.keep ((KeepT.of s6).trans k67) si
    -- what is kept
    refine ⟨md, .dK kvs, hmd7, trivial, fun od => ?_⟩
    have nxm : x ≠ md := Ne.symm nmx
    have k8 : KeepT H7 (upd H7 md (.frz od (.dK kvs))) := KeepT.at_ hmd7 dK_no
    have hx8 : (upd H7 md (.frz od (.dK kvs))) x = some (.ins C dx (g4 (.int roof) (.ref sd) (.ref md) (.ref rd))) := by rw [upd_ne nxm]; exact hx7
    have hrd8 : (upd H7 md (.frz od (.dK kvs))) rd = some (dnO P w rd nvs) := by rw [upd_ne nrm]; exact hrd7
    have hfz8 : (upd H7 md (.frz od (.dK kvs))) md = some (.frz od (.dK kvs)) := upd_same
    refine ⟨_, rfl, x, C, dx, _, .ref md, rfl, hx8, gc.c, gc.making, lk4 _ _ _ _, md, od, rfl, .inl ⟨kvs, hfz8, fun D nD => ?_⟩⟩
    have lk : kvs.length = ms.length := by
      have := hmtab7.len
      rw [List.length_map] at this
      exact this
    have h8 := gf.m8
    refine dc_it walk_keys (fun i Y => Same (upd H7 md (.frz od (.dK kvs))) Y ∧ ∃ kk, Y D = some (.dK kk) ∧ kk.length ≤ i ∧ ∀ m ∈ ms.take i, ∃ l ys, valV kk (kS m.nm) = some (.ref l) ∧ H l = none ∧ l ≠ D ∧ Y l = some (.lst (ys.map V.str)) ∧ ys.Perm (gotTx ((keptNames m.nm ru).map SX.S)) ∧ sortedS ys = true)
      ⟨same_upd nD, [], upd_same, Nat.le_refl _, fun m hm => nomatch hm⟩ (fun i Y _ h => h.1 _ _ hfz8) ?_ ?_
    · rintro i v Y0 Y hi ⟨sY, kk, hD, hkl, hall⟩ ⟨rfl, k, v', hk, rfl⟩
      obtain ⟨m, hm, rfl⟩ : ∃ m, ms[i]? = some m ∧ k = kS m.nm := tab_at hmtab7 hk
      have hmm := List.mem_of_getElem? hm
      have few := gf.ko m hmm
      refine ⟨rfl, yesT ?_⟩
      refine ⟨_, rfl, _, rfl, _, rfl, x, C, dx, _, .ref rd, rfl, sY _ _ hx8, gc.c, gc.rule, lk4b _ _ _ _, m.nm, rd, nvs, ru, rfl, sY _ _ hrd8, (hpr7.keep k8).keep (KeepT.of sY), gf.rn, gf.rl, fun r' hr' => ?_, by omega, fun Y2 l ys s2' n2 hl2 hys hso => ?_⟩
      · have h' := gf.ra r' hr'
        obtain ⟨o', _, h2, _⟩ := op_of h'.op
        rw [h'.ar, h2]
        exact op_n3 o'
      have hD2 := s2' _ _ hD
      have nlD : l ≠ D := fun z => by
        rw [z, hD] at n2
        cases n2
      have nlH : H l = none := by
        cases hz : H l with
        | none => rfl
        | some o =>
          have nlx : l ≠ x := fun z => by
            rw [z, sY _ _ hx8] at n2
            cases n2
          have h7 := b7 _ _ nlx hz
          by_cases hlm7 : l = md
          · rw [hlm7, sY _ _ hfz8] at n2
            cases n2
          · have h8 : (upd H7 md (.frz od (.dK kvs))) l = some o := by
              rw [upd_ne hlm7]
              exact h7
            rw [sY _ _ h8] at n2
            cases n2
      refine ⟨kk, kS m.nm, rfl, hD2, small1000 (by omega), Same.at_ (sY.trans s2') nD, _, upd_same, ?_, fun m' hm' => ?_⟩
      · have := length_putK kk (kS m.nm) (.ref l)
        omega
      · rw [List.take_add_one, hm] at hm'
        rw [valV_put]
        rcases List.mem_append.mp hm' with hm' | hm'
        · obtain ⟨l', ys', h1, h0, h2, h3, h4, h5⟩ := hall m' hm'
          have nn : m'.nm ≠ m.nm := fun z => new_name (f := MRow.nm) gf.nd hm (z ▸ List.mem_map_of_mem hm')
          refine ⟨l', ys', ?_, h0, h2, by rw [upd_ne h2]; exact s2' _ _ h3, h4, h5⟩
          rw [if_neg (fun z => nn (kS_inj z))]
          exact h1
        · have : m' = m := by simpa using hm'
          subst this
          exact ⟨l, ys, if_pos rfl, nlH, nlD, by rw [upd_ne nlD]; exact hl2, hys, hso⟩
    · rintro Y ⟨sY, kk, hD, hkl, hall⟩
      rw [lk, List.take_length] at hall
      refine ⟨sY _ _ hfz8, ?_⟩
      have sZ : Same H7 (upd Y md (.dK kvs)) := fun b o hb => by
        by_cases z : b = md
        · rw [z, hmd7] at hb
          rw [z, upd_same]
          exact hb
        · rw [upd_ne z]
          exact sY b o (by rw [upd_ne z]; exact hb)
      have nDm : D ≠ md := fun z => by
        rw [z, hfz8] at nD
        cases nD
      have ktZ : KTab H (upd Y md (.dK kvs)) D ms ru := ⟨kk, by rw [upd_ne nDm]; exact hD, fun m hm => by
        obtain ⟨l, ys, h1, h0, h2, h3, h4, h5⟩ := hall m hm
        refine ⟨l, ys, h1, h0, ?_, h4, h5⟩
        rw [upd_ne (fun z => by rw [z, sY _ _ hfz8] at h3; cases h3)]
        exact h3⟩
      obtain ⟨Z, eZ⟩ : ∃ Z, Z = upd Y md (.dK kvs) := ⟨_, rfl⟩
      rw [← eZ] at sZ ktZ ⊢
      refine ⟨_, rfl, x, C, dx, _, rfl, sZ _ _ hx7, gc.c, gc.kept, by show 4 < 1000; decide, ?_⟩
      obtain ⟨H9, e9⟩ : ∃ H9, H9 = upd Z x (.ins C dx (putF "kept_table" (.ref D) (g4 (.int roof) (.ref sd) (.ref md) (.ref rd)))) := ⟨_, rfl⟩
      rw [← e9]
      have hx9 : H9 x = some (.ins C dx (g5 (.int roof) (.ref sd) (.ref md) (.ref rd) (.ref D))) := by rw [e9, upd_same, pf5]
      have b9' : But x Z H9 := e9 ▸ But.upd (But.refl x Z)
      have k9' : KeepT Z H9 := e9 ▸ KeepT.at_ (sZ _ _ hx7) ins_no
      have b9 : But x H H9 := (b7.trans (But.of sZ)).trans b9'
      have k9 : KeepT H H9 := (k7.trans (KeepT.of sZ)).trans k9'
      -- the rows, risen
      refine ⟨_, rfl, _, rfl, ls, sv, _, rfl, SqL.of (b9 _ _ nls hls), dpAll_imm k9 hsv (immAll_map SRow.imm rs), rowsx_sorts gf.so, fun ys1 p1 pm1 hy1 n1 => ?_⟩
      have sA := same_upd (o := .lst ys1) n1
      refine ⟨_, rfl, lm, mv, _, rfl, SqL.of (sA _ _ (b9 _ _ nlm hlm)), dpAll_same sA (dpAll_imm k9 hmv (immAll_map MRow.imm ms)), rowsx_maks gf.nd, fun ys2 p2 pm2 hy2 n2 => ?_⟩
      have sB := sA.trans (same_upd (o := .lst ys2) n2)
      refine ⟨_, rfl, lr, rv, _, rfl, SqL.of (sB _ _ (b9 _ _ nlr hlr)), dpAll_same sB (dpAll_imm k9 hrv (immAll_map RRow.imm ru)), rowsx_rules gf.rn, fun ys3 p3 pm3 hy3 n3 => ?_⟩
      have sC := sB.trans (same_upd (o := .lst ys3) n3)
      refine ⟨by show 4 ≤ sizeLine; decide, fun rt nrt => ?_⟩
      have sD := sC.trans (same_upd (o := .tup [.int roof, .ref p1, .ref p2, .ref p3]) nrt)
      refine ⟨_, rfl, x, C, dx, _, rfl, sD _ _ hx9, gc.c, gc.risen, by show 5 < 1000; decide, ?_⟩
      have bZW := (b9'.trans (But.of sD)).trans (But.upd (o := .ins C dx (putF "risen" (.ref rt) (g5 (.int roof) (.ref sd) (.ref md) (.ref rd) (.ref D)))) (But.refl x _))
      have kZW := (k9'.trans (KeepT.of sD)).trans (KeepT.at_ (o := .ins C dx (putF "risen" (.ref rt) (g5 (.int roof) (.ref sd) (.ref md) (.ref rd) (.ref D)))) (sD _ _ hx9) ins_no)
      have nDx : D ≠ x := fun z => by
        rw [z, hx8] at nD
        cases nD
      obtain ⟨kk', hkk, hkt⟩ := ktZ
      refine q _ ((b7.trans (But.of sZ)).trans bZW) ⟨dx, sd, md, rd, D, rt, by rw [upd_same, pf6], ⟨skv, bZW _ _ nsx (sZ _ _ hsd7), htab7.keep ((KeepT.of sZ).trans kZW) si⟩, ⟨kvs, bZW _ _ nmx (sZ _ _ hmd7), hmtab7.keep ((KeepT.of sZ).trans kZW) mi⟩, ⟨nvs, bZW _ _ nrx (sZ _ _ hrd7), hpr7.keep ((KeepT.of sZ).trans kZW)⟩, ⟨kk', bZW _ _ nDx hkk, fun m hm => ?_⟩⟩ ?_
      · obtain ⟨l, ys, h1, h0, h3, h4, h5⟩ := hkt m hm
        exact ⟨l, ys, h1, h0, bZW _ _ (fun z => by rw [z, sZ _ _ hx7] at h3; cases h3) h3, h4, h5⟩
      · have fr : ∀ {c : Addr}, H9 c = none → H c = none := fun {c} h => by
          cases e : H c with
          | none => rfl
          | some o =>
            by_cases z : c = x
            · rw [z, hx9] at h
              cases h
            · have := b9 c o z e
              rw [h] at this
              cases this
        have hF : ∀ {c : Addr} {o : HO}, c ≠ x → (upd (upd (upd (upd H9 p1 (.lst ys1)) p2 (.lst ys2)) p3 (.lst ys3)) rt (.tup [.int roof, .ref p1, .ref p2, .ref p3])) c = some o → (upd (upd (upd (upd (upd H9 p1 (.lst ys1)) p2 (.lst ys2)) p3 (.lst ys3)) rt (.tup [.int roof, .ref p1, .ref p2, .ref p3])) x (.ins C dx (putF "risen" (.ref rt) (g5 (.int roof) (.ref sd) (.ref md) (.ref rd) (.ref D))))) c = some o := fun {c o} n h => by
          rw [upd_ne n]
          exact h
        have nx1 : p1 ≠ x := fun z => by
          rw [z, hx9] at n1
          cases n1
        have nx2 : p2 ≠ x := fun z => by
          rw [z, sA _ _ hx9] at n2
          cases n2
        have nx3 : p3 ≠ x := fun z => by
          rw [z, sB _ _ hx9] at n3
          cases n3
        have nxr : rt ≠ x := fun z => by
          rw [z, sC _ _ hx9] at nrt
          cases nrt
        have kF : KeepT (upd (upd (upd (upd H9 p1 (.lst ys1)) p2 (.lst ys2)) p3 (.lst ys3)) rt (.tup [.int roof, .ref p1, .ref p2, .ref p3])) (upd (upd (upd (upd (upd H9 p1 (.lst ys1)) p2 (.lst ys2)) p3 (.lst ys3)) rt (.tup [.int roof, .ref p1, .ref p2, .ref p3])) x (.ins C dx (putF "risen" (.ref rt) (g5 (.int roof) (.ref sd) (.ref md) (.ref rd) (.ref D))))) := KeepT.at_ (sD _ _ hx9) ins_no
        have sBD := (same_upd (o := .lst ys2) n2).trans ((same_upd (o := .lst ys3) n3).trans (same_upd (o := .tup [.int roof, .ref p1, .ref p2, .ref p3]) nrt))
        have sCD := (same_upd (o := .lst ys3) n3).trans (same_upd (o := .tup [.int roof, .ref p1, .ref p2, .ref p3]) nrt)
        have sDD := same_upd (o := .tup [.int roof, .ref p1, .ref p2, .ref p3]) nrt
        refine ⟨dx, rt, p1, p2, p3, _, ys1, ys2, ys3, by rw [upd_same], ?_, (KeepT.seqT kF (SqT.of upd_same)), ⟨hF nx1 (sBD _ _ upd_same), fr n1, ?_⟩, ⟨hF nx2 (sCD _ _ upd_same), fr (Same.free sA n2), ?_⟩, ⟨hF nx3 (sDD _ _ upd_same), fr (Same.free sB n3), ?_⟩⟩
        · rw [pf6]
          with_unfolding_all rfl
        · exact dpAll_imm (fun c o t h => kF c o t (sD _ _ h)) hy1 (immAll_perm pm1 (immAll_map SRow.imm rs))
        · exact dpAll_imm (fun c o t h => kF c o t (sBD _ _ h)) hy2 (immAll_perm pm2 (immAll_map MRow.imm ms))
        · exact dpAll_imm (fun c o t h => kF c o t (sCD _ _ h)) hy3 (immAll_perm pm3 (immAll_map RRow.imm ru))
end
/-! ### what is drawn is a grammar -/
theorem kept_in {m w : List Nat} {ru : List RRow} (h : w ∈ keptNames m ru) : ∃ r ∈ ru, r.ma = m ∧ ∃ o ∈ rOds r, w ∈ odName o := by
  unfold keptNames odsOf at h
  obtain ⟨o, ho, hw⟩ := List.mem_flatMap.mp h
  obtain ⟨r, hr, ho⟩ := List.mem_flatMap.mp ho
  obtain ⟨hr, e⟩ := List.mem_filter.mp hr
  exact ⟨r, hr, of_decide_eq_true e, o, ho, hw⟩
structure RuFit (rs : List SRow) (ms : List MRow) (ru : List RRow) (roof : Nat) : Prop where
  ra : ∀ r ∈ ru, RuleOk rs ms roof r
  rn : RuNd ru
  rl : ru.length ≤ 30 * ms.length
  ks : ∀ m ∈ ms, ∃ ks : List (List Nat), ks.length ≤ 2 ∧ ∀ r ∈ ru, r.ma = m.nm → ∀ o ∈ rOds r, ∀ w ∈ odName o, w ∈ ks
theorem ru_fit {rs : List SRow} {roof : Nat} : ∀ {ms : List MRow} {ru : List RRow}, RuAll rs roof ms ru → (ms.map MRow.nm).Nodup → RuFit rs ms ru roof := by
  intro ms ru h
  induction h with
  | nil =>
    intro _
    refine ⟨?_, List.Pairwise.nil, Nat.le_refl _, ?_⟩
    · intro r h
      cases h
    · intro m h
      cases h
  | @snoc ms ru pr mr ks h hok ih =>
    intro hn
    rw [List.map_append] at hn
    obtain ⟨n1, _, n3⟩ := List.nodup_append.mp hn
    have F := ih n1
    have old : ∀ m ∈ ms, m.nm ≠ mr.nm := fun m hm => n3 _ (List.mem_map_of_mem hm) _ (List.mem_map_of_mem (List.mem_singleton.mpr rfl))
    have rold : ∀ r ∈ ru, r.ma ≠ mr.nm := fun r hr => by
      obtain ⟨m, hm, e, _⟩ := (F.ra r hr).ex
      rw [e]
      exact old m hm
    refine ⟨fun r hr => ?_, ?_, ?_, fun m hm => ?_⟩
    · rcases List.mem_append.mp hr with hr | hr
      · obtain ⟨⟨m, hm, e⟩, h2, h3⟩ := F.ra r hr
        exact ⟨⟨m, List.mem_append_left _ hm, e⟩, h2, h3⟩
      · exact ⟨⟨mr, List.mem_append_right _ (List.mem_singleton.mpr rfl), hok.ma r hr, hok.tg r hr, hok.os r hr⟩, hok.op r hr, hok.ar r hr⟩
    · refine List.pairwise_append.mpr ⟨F.rn, ?_, fun r hr r' hr' e => absurd (e.trans (hok.ma r' hr')) (rold r hr)⟩
      have hp : pr.Pairwise fun r r' => r.tg ≠ r'.tg := List.pairwise_map.mp hok.nd
      exact hp.imp (fun {a b} h (_ : a.ma = b.ma) => h)
    · rw [List.length_append, List.length_append, List.length_singleton]
      have := F.rl
      have := hok.le
      omega
    · rcases List.mem_append.mp hm with hm | hm
      · obtain ⟨k0, h2, hk⟩ := F.ks m hm
        refine ⟨k0, h2, fun r hr e => ?_⟩
        rcases List.mem_append.mp hr with hr | hr
        · exact hk r hr e
        · exact absurd (e.symm.trans (hok.ma r hr)) (old m hm)
      · obtain rfl := List.mem_singleton.mp hm
        refine ⟨ks, hok.k2, fun r hr e o ho w hw => ?_⟩
        rcases List.mem_append.mp hr with hr | hr
        · exact absurd e (rold r hr)
        · rcases List.mem_cons.mp ho with rfl | ho
          · exact hok.kt r hr w hw
          · exact hok.ko r hr o ho w hw
theorem gfit {rs : List SRow} {ms : List MRow} {ru : List RRow} {roof : Nat} (g : GramOk rs ms ru roof) : GFit rs ms ru roof := by
  have F := ru_fit g.ru g.nd
  have m8 := g.m8
  have rl := F.rl
  have few : ∀ m ∈ ms, ∃ ks : List (List Nat), ks.length ≤ 2 ∧ ∀ w ∈ keptNames m.nm ru, w ∈ ks := fun m hm => by
    obtain ⟨ks, h2, hk⟩ := F.ks m hm
    refine ⟨ks, h2, fun w hw => ?_⟩
    obtain ⟨r, hr, e, o, ho, hw⟩ := kept_in hw
    exact hk r hr e o ho w hw
  refine ⟨g.so, g.nd, g.ok, g.m8, F.ra, F.rn, by omega, fun r hr => ?_, fun m hm => ?_, g.rf⟩
  · obtain ⟨m, hm, e, _⟩ := (F.ra r hr).ex
    rw [e]
    exact few m hm
  · obtain ⟨ks, h2, hk⟩ := few m hm
    refine Nat.le_trans (nodup_leA (f := ks.map SX.S) (gotTx_nodup _) fun u hu => ?_) (by rw [List.length_map]; exact h2)
    obtain ⟨w, hw, rfl⟩ := List.mem_map.mp (gotTx_mem.mp hu)
    exact List.mem_map_of_mem (hk w hw)
abbrev s__law_made : Stmt := top 67
abbrev N__law_made : List Str := ["_law_g"]
abbrev P__law_made : List Str := ["_law_g"]
theorem sc__law_made : FnScope N__law_made P__law_made (defScope s__law_made) := ⟨rfl, rfl, rfl, by decide +kernel, rfl, by decide +kernel, by decide +kernel⟩
/-- the class and how it makes -/
structure GMk (P : Program) (w : World) (K : PySem.W.Frag) (mg : Str → Option Value) (base : Heap) (C : Addr) : Prop where
  ex : ∃ (f : Addr) (fd : FuncData), FnOk P w K mg base CX0 6 f fd P_GI (spGI K P w C) ∧ Mk K C f ∧ mg "Grammar" = some (.ref C) ∧ KBn K fd P_GI 4 ["cap"] (fun us ws => us ++ ws) (fun vs zs => vs ++ zs)
theorem gmk_of {P : Program} {w : World} {K : PySem.W.Frag} {mg : Str → Option Value} {base : Heap} {C f : Addr} {fd : FuncData} (F : FunD K "__init__" "Grammar.__init__" (defArgs s_GI) (defBody s_GI) (defScope s_GI) [] [("cap", .int 0)] f fd) (ok : FnOk P w K mg base CX0 6 f fd P_GI (spGI K P w C)) (M : Mk K C f) (hm : mg "Grammar" = some (.ref C)) : GMk P w K mg base C := by
  refine ⟨f, fd, ok, M, hm, ?_⟩
  exact kbindsN (ps := P_GI) F 4 ["cap"] (fun us ws => us ++ ws) (fun h2 h3 => Vals.append h2 h3) (fun kV doc pm an cdv ct us ws hl hw => match us, ws, hl, hw with
    | [_, _, _, _], [_], _, _ => rfl)
/-- a grammar's rows, in a law's dict -/
structure GD (K : PySem.W.Frag) (Y : Hp) (gd : Addr) (rs : List SRow) (ms : List MRow) (ru : List RRow) (roof : Nat) : Prop where
  ex : ∃ (ls lm lr : Addr) (kvs : List (Key × V)) (sv mv rv : List V), Y gd = some (.dK kvs) ∧ valV kvs (Sum.inr "cap") = some (.int (roof : Nat)) ∧ valV kvs (Sum.inr "sorts") = some (.ref ls) ∧ valV kvs (Sum.inr "makings") = some (.ref lm) ∧ valV kvs (Sum.inr "rules") = some (.ref lr) ∧
    Y ls = some (.lst sv) ∧ DpAll K Y sv (rs.map SRow.d) ∧ Y lm = some (.lst mv) ∧ DpAll K Y mv (ms.map MRow.d) ∧ Y lr = some (.lst rv) ∧ DpAll K Y rv (ru.map RRow.d)
theorem GD.same {K : PySem.W.Frag} {Y Z : Hp} {gd : Addr} {rs : List SRow} {ms : List MRow} {ru : List RRow} {roof : Nat} (h : GD K Y gd rs ms ru roof) (s : Same Y Z) : GD K Z gd rs ms ru roof := by
  obtain ⟨ls, lm, lr, kvs, sv, mv, rv, h1, c1, c2, c3, c4, a1, a2, a3, a4, a5, a6⟩ := h.ex
  exact ⟨ls, lm, lr, kvs, sv, mv, rv, s _ _ h1, c1, c2, c3, c4, s _ _ a1, dpAll_same s a2, s _ _ a3, dpAll_same s a4, s _ _ a5, dpAll_same s a6⟩
theorem GramIn.gd {K : PySem.W.Frag} {Y : Hp} {a gd : Addr} {rs : List SRow} {ms : List MRow} {ru : List RRow} {roof : Nat} (h : GramIn K Y a gd rs ms ru roof) : GD K Y gd rs ms ru roof := by
  obtain ⟨ls, lm, lr, of, gkv, gs, _⟩ := h.ex
  obtain ⟨sv, hls, hsv⟩ := gs.hls
  obtain ⟨mv, hlm, hmv⟩ := gs.hlm
  obtain ⟨rv, hlr, hrv⟩ := gs.hlr
  exact ⟨ls, lm, lr, gkv, sv, mv, rv, gs.hgd, gs.cap, gs.so, gs.mak, gs.rl, hls, hsv, hlm, hmv, hlr, hrv⟩
def spMade (K : PySem.W.Frag) (P : Program) (w : World) (C : Addr) : Sp := fun vs H Q _ => ∃ (gd : Addr) (rs : List SRow) (ms : List MRow) (ru : List RRow) (roof : Nat), vs = [.ref gd] ∧ GD K H gd rs ms ru roof ∧ GFit rs ms ru roof ∧
  ∀ (H' : Hp) (x : Addr), Same H H' → H x = none → GrOk K P w C H H' x rs ms ru roof → Risen K C H H' x rs ms ru roof → Q (.ref x) H'
section
variable {P : Program} {w : World} {K : PySem.W.Frag} {mg : Str → Option Value} {base : Heap} {C : Addr}
theorem ok_made (T : Gb mg) (GK : GMk P w K mg base C) (D : Dd K mg "_law_made" s__law_made P__law_made) : C8.Cal P w K mg base 8 "_law_made" (spMade K P w C) [] := by
  obtain ⟨fG, fdG, FG, GM, gmg, gkb⟩ := GK.ex
  refine D.cal sc__law_made (fun vs H Q E h => ?_) (fun f cdv A outer s H vs Q E hr h => ?_)
  · obtain ⟨gd, rs, ms, ru, roof, rfl, _⟩ := h
    rfl
  · obtain ⟨gd, rs, ms, ru, roof, rfl, gi, gf, q⟩ := h
    obtain ⟨ls, lm, lr, gkv, sv, mv, rv, hgd, hcap, hso, hmak, hrl, hls, hsv, hlm, hmv, hlr, hrv⟩ := gi.ex
    have get : ∀ {Y : Hp} {k : Str} {v : V}, Same H Y → valV gkv (Sum.inr k) = some v → DGet Y gd (.str k) (some v) := fun {Y k v} sY e => by
      have h := DGet.k (k := Sum.inr k) (sY _ _ hgd)
      rw [e] at h
      exact h
    refine ⟨_, (pss_one (ps_ret (pe_makeK GM FG (hr.mono (by decide)) (by rfl) gmg gkb pass0 (pa_cons (pe_callTy call_list_of (by rfl) T.list (by decide +kernel) (pa_cons (pe_dget (hu_of hr) (pv 0) pe_str (fun _ _ => rfl)) pa_nil)) (pa_cons (pe_callTy call_list_of (by rfl) T.list (by decide +kernel) (pa_cons (pe_dget (hu_of hr) (pv 0) pe_str (fun _ _ => rfl)) pa_nil)) (pa_cons (pe_callTy call_list_of (by rfl) T.list (by decide +kernel) (pa_cons (pe_dget (hu_of hr) (pv 0) pe_str (fun _ _ => rfl)) pa_nil)) pa_nil))) (pk_cons (pe_dget (hu_of hr) (pv 0) pe_str (fun _ _ => rfl)) pk_nil)))), ?_⟩
    refine ⟨_, rfl, gd, .ref ls, rfl, get (Same.refl H) hso, ?_⟩
    refine ⟨ls, sv, rfl, .inl (SqL.of hls), fun p1 n1 => ?_⟩
    have s1 := same_upd (o := .lst sv) n1
    refine ⟨_, rfl, gd, .ref lm, rfl, get s1 hmak, ?_⟩
    refine ⟨lm, mv, rfl, .inl (SqL.of (s1 _ _ hlm)), fun p2 n2 => ?_⟩
    have s2 := s1.trans (same_upd (o := .lst mv) n2)
    refine ⟨_, rfl, gd, .ref lr, rfl, get s2 hrl, ?_⟩
    refine ⟨lr, rv, rfl, .inl (SqL.of (s2 _ _ hlr)), fun p3 n3 => ?_⟩
    have s3 := s2.trans (same_upd (o := .lst rv) n3)
    refine ⟨_, rfl, gd, .int roof, rfl, get s3 hcap, ?_⟩
    refine ⟨rfl, rfl, fun x dx nx ndx ndd => ?_⟩
    have nx2 : (upd (upd (upd (upd H p1 (.lst sv)) p2 (.lst mv)) p3 (.lst rv)) dx (.own x)) x = none := by
      rw [upd_ne (Ne.symm ndd)]
      exact nx
    have s5 := (same_upd (o := .own x) ndx).trans (same_upd (o := .ins C dx []) nx2)
    have sU := s3.trans s5
    have h1 := s5 _ _ (same_upd (o := .lst rv) n3 _ _ (same_upd (o := .lst mv) n2 _ _ (upd_same (H := H) (a := p1) (o := .lst sv))))
    have h2 := s5 _ _ (same_upd (o := .lst rv) n3 _ _ (upd_same (H := upd H p1 (.lst sv)) (a := p2) (o := .lst mv)))
    have h3 := s5 _ _ (upd_same (H := upd (upd H p1 (.lst sv)) p2 (.lst mv)) (a := p3) (o := .lst rv))
    have hx0 := s3.free nx
    refine ⟨x, dx, p1, p2, p3, roof, sv, mv, rv, rs, ms, ru, rfl, upd_same, h1, h2, h3, dpAll_same sU hsv, dpAll_same sU hmv, dpAll_same sU hrv, gf, fun H' bt gr ri => ⟨rfl, q _ x (fun b o hb => bt b o (ne_of_none hb hx0) (sU b o hb)) hx0 (gr.less sU) (ri.less sU)⟩⟩
end
/-! ### the methods of a grammar that tell its rows -/
theorem paired_get {α β : Type} {R : α → β → Prop} : ∀ {xs : List α} {ys : List β}, Paired R xs ys → ∀ {i : Nat} {x : α}, xs[i]? = some x → ∃ y, ys[i]? = some y ∧ R x y
  | _, _, .nil, i, x, h => by cases h
  | _, _, .cons a r, 0, x, h => by
    cases h
    exact ⟨_, rfl, a⟩
  | _, _, .cons a r, i + 1, x, h => paired_get r (i := i) h
abbrev s_Gs : Stmt := (inClass (top 47) 1)
abbrev N_Gs : List Str := ["self", "sort", "downs", "ups"]
theorem sc_Gs : FnScope N_Gs ["self"] (defScope s_Gs) := ⟨rfl, rfl, rfl, by decide +kernel, rfl, by decide +kernel, by decide +kernel⟩
abbrev s_Gm : Stmt := (inClass (top 47) 2)
abbrev N_Gm : List Str := ["self", "making", "sort", "parts"]
theorem sc_Gm : FnScope N_Gm ["self"] (defScope s_Gm) := ⟨rfl, rfl, rfl, by decide +kernel, rfl, by decide +kernel, by decide +kernel⟩
abbrev s_Gr : Stmt := (inClass (top 47) 3)
abbrev N_Gr : List Str := ["self", "making", "target", "op", "operands"]
theorem sc_Gr : FnScope N_Gr ["self"] (defScope s_Gr) := ⟨rfl, rfl, rfl, by decide +kernel, rfl, by decide +kernel, by decide +kernel⟩
def spRowsOf (K : PySem.W.Frag) (P : Program) (w : World) (C : Addr) (f : List SRow → List MRow → List RRow → List PyData) : Sp := fun vs H Q _ => ∃ (Z : Hp) (x : Addr) (rs : List SRow) (ms : List MRow) (ru : List RRow) (roof : Nat), vs = [.ref x] ∧ GrOk K P w C Z H x rs ms ru roof ∧ rs.length ≤ 4 ∧ ms.length ≤ 8 ∧ ru.length ≤ 240 ∧
  ∀ (H' : Hp) (l : Addr) (es : List V), Same H H' → H l = none → H' l = some (.lst es) → DpAll K H' es (f rs ms ru) → Q (.ref l) H'
section
variable {K : PySem.W.Frag} {H H' : Hp}
mutual
theorem dp_sq (k : ∀ a xs, SqT K H a xs → SqT K H' a xs) : ∀ {v : V} {d : PyData}, Dp K H v d → imm d = true → Dp K H' v d
  | _, _, .non, _ => .non
  | _, _, .bl b, _ => .bl b
  | _, _, .int i, _ => .int i
  | _, _, .str x, _ => .str x
  | _, _, .lst h a, i => nomatch (show (false : Bool) = true from i)
  | _, _, .tup h a, i => .tup (k _ _ h) (dpAll_sq k a i)
theorem dpAll_sq (k : ∀ a xs, SqT K H a xs → SqT K H' a xs) : ∀ {vs : List V} {ds : List PyData}, DpAll K H vs ds → immAll ds = true → DpAll K H' vs ds
  | _, _, .nil, _ => .nil
  | _, _, .cons h a, i => .cons (dp_sq k h (Bool.and_eq_true_iff.mp i).1) (dpAll_sq k a (Bool.and_eq_true_iff.mp i).2)
end
theorem unlock_sq {d : Addr} {od : Obj} {u o : HO} (hd : H d = some (.frz od u)) (hu : ∀ xs, u ≠ .tup xs) : ∀ a xs, SqT K H a xs → SqT K (upd H d o) a xs := by
  intro a xs h
  have ne : ∀ {o'}, H a = some o' → o' ≠ .frz od u → a ≠ d := fun e n z => by
    rw [z, hd] at e
    exact n (Option.some.inj e).symm
  rcases h with (h | ⟨o', h⟩) | h
  · exact .inl (.inl (by rw [upd_ne (ne h (fun z => by cases z))]; exact h))
  · exact .inl (.inr ⟨o', by rw [upd_ne (ne h (fun z => by cases z; exact hu _ rfl))]; exact h⟩)
  · exact .inr h
end
theorem dn_no {P : Program} {w : World} {a : Addr} {kvs : List NE} : ¬ TupO (dnO P w a kvs) := by
  rintro (⟨ys, z⟩ | ⟨o, v, z⟩)
  · have z' : HO.ext _ = HO.tup ys := z
    cases z'
  · have z' : HO.ext _ = HO.frz o v := z
    cases z'
theorem unlock_same {H Y : Hp} {d : Addr} {u : HO} {od : Obj} (hd : H d = some u) (s : Same (upd H d (.frz od u)) Y) : Same H (upd Y d u) := fun b o hb => by
  by_cases z : b = d
  · rw [z, hd] at hb
    rw [z, upd_same]
    exact hb
  · rw [upd_ne z]
    exact s b o (by rw [upd_ne z]; exact hb)
theorem dp_lock {K : PySem.W.Frag} {H : Hp} {d : Addr} {u : HO} {od : Obj} (hd : H d = some u) (nu : ¬ TupO u) {v : V} {t : PyData} (h : Dp K H v t) (i : imm t = true) : Dp K (upd H d (.frz od u)) v t := dp_imm (KeepT.at_ hd nu) h i
theorem two_of {K : PySem.W.Frag} {H : Hp} {v : V} {d1 d2 : PyData} (h : Dp K H v (.tuple [d1, d2])) : ∃ q v1 v2, v = .ref q ∧ SqT K H q [v1, v2] ∧ Dp K H v1 d1 ∧ Dp K H v2 d2 := by
  cases h with
  | tup hq hA =>
    cases hA with
    | cons a1 hA =>
      cases hA with
      | cons a2 hA =>
        cases hA
        exact ⟨_, _, _, rfl, hq, a1, a2⟩
section
variable {P : Program} {w : World} {K : PySem.W.Frag} {mg : Str → Option Value} {base : Heap} {C : Addr}
theorem ok_Gs {f : Addr} {fd : FuncData} (gc : GCls K C) (F : L2.Fun K "sorts" "Grammar.sorts" s_Gs f fd) : FnOk P w K mg base CX0 1 f fd ["self"] (spRowsOf K P w C fun rs _ _ => rs.map SRow.d) := by
  refine F.ok sc_Gs (fun vs H Q E h => ?_) (fun cdv A outer s H vs Q E hr h => ?_)
  · obtain ⟨Z, x, rs, ms, ru, roof, rfl, _⟩ := h
    rfl
  · obtain ⟨Z, x, rs, ms, ru, roof, rfl, go, l1, l2, l3, q⟩ := h
    refine ⟨_, pss_one (ps_ret (pe_lock (pe_lc (g := gTup K 2 (gCons (gName 1) (gCons (gTup K 2 (gCons (gName 2) (gCons (gName 3) gNil))) gNil))) (own := [("sort", 1), ("downs", 2), ("ups", 3)]) (by exact rfl) sc_Gs.nd (pi_items (pe_fld (pv 0) (by rfl))) (blkOk_by (own := [("sort", 1), ("downs", 2), ("ups", 3)]) (N := N_Gs) (sc := defScope s_Gs) (by decide +kernel)) (fun _ _ _ _ _ => pg_tup (n := 2) rfl (pgs_cons (pg_name (i := 1) sc_Gs.nd rfl (Or.inl rfl) (Or.inr rfl)) (pgs_cons (pg_tup (n := 2) rfl (pgs_cons (pg_name (i := 2) sc_Gs.nd rfl (Or.inl rfl) (Or.inr rfl)) (pgs_cons (pg_name (i := 3) sc_Gs.nd rfl (Or.inl rfl) (Or.inr rfl)) pgs_nil))) pgs_nil))) (fun _ _ _ _ _ => pts_nil) (fun _ _ _ _ _ => pe_tup (pa_cons (pv 1) (pa_cons (pv 2) (pa_cons (pv 3) pa_nil))))))), ?_⟩
    obtain ⟨dx, sd, md, rd, kd, rt, hx, ⟨skv, hsd, htab⟩, _⟩ := go.ex
    refine ⟨sd, .dK skv, hsd, trivial, fun od => ?_⟩
    have nxs : x ≠ sd := fun z => by
      rw [z, hsd] at hx
      cases hx
    have hx8 : (upd H sd (.frz od (.dK skv))) x = _ := (upd_ne nxs).trans hx
    have hfz : (upd H sd (.frz od (.dK skv))) sd = some (.frz od (.dK skv)) := upd_same
    refine ⟨_, rfl, x, C, dx, _, .ref sd, rfl, hx8, gc.c, gc.sort, by with_unfolding_all rfl, sd, od, skv, rfl, hfz, fun D nD => ?_⟩
    have lk : skv.length = rs.length := by
      have := htab.len
      rw [List.length_map] at this
      exact this
    refine lc_it walk_items (fun i Y => Same (upd H sd (.frz od (.dK skv))) Y ∧ ∃ us, Y D = some (.lst us) ∧ us.length = i ∧ DpAll K Y us ((rs.take i).map SRow.d))
      ⟨same_upd nD, [], upd_same, rfl, .nil⟩ (fun i Y _ h => h.1 _ _ hfz) ?_ ?_
    · rintro i v Y0 Y hi ⟨sY, us, hD, hul, hus⟩ ⟨T, xx, yy, rfl, nT, rfl, ex, ey⟩
      have ex : (skv[i]?.map fun kv => kV kv.1) = some xx := ex
      have ey : (skv[i]?.map Prod.snd) = some yy := ey
      cases hk : skv[i]? with
      | none => rw [hk] at ex; cases ex
      | some kv =>
        rw [hk] at ex ey
        cases ex
        cases ey
        obtain ⟨t, ht, ek, hv⟩ := paired_get htab hk
        rw [List.getElem?_map] at ht
        obtain ⟨r, hr', rfl⟩ : ∃ r, rs[i]? = some r ∧ t = sT r := by
          cases e : rs[i]? with
          | none => rw [e] at ht; cases ht
          | some r => rw [e] at ht; exact ⟨r, rfl, (Option.some.inj ht).symm⟩
        have sT' := same_upd (o := .tup [kV kv.1, kv.2]) nT
        have hv1 := dp_same (sY.trans sT') (dp_lock (od := od) hsd dK_no hv (sT_imm r))
        have hv1 : Dp K (upd Y0 T (.tup [kV kv.1, kv.2])) kv.2 (.tuple [.tuple (r.dn.map strD), .tuple (r.up.map strD)]) := hv1
        have hT : SqT K (upd Y0 T (.tup [kV kv.1, kv.2])) T [kV kv.1, kv.2] := SqT.of upd_same
        obtain ⟨kk, vv⟩ := kv
        have ek : kk = kS r.nm := ek
        subst ek
        have hv1 : Dp K (upd Y0 T (.tup [kV (kS r.nm), vv])) vv (.tuple [.tuple (r.dn.map strD), .tuple (r.up.map strD)]) := hv1
        have hD1 := sT' _ _ hD
        have hus1 := dpAll_same sT' hus
        have hT : SqT K (upd Y0 T (.tup [kV (kS r.nm), vv])) T [.str (SX.S r.nm), vv] := hT
        have sY1 := sY.trans sT'
        have nD1 := nD
        generalize upd Y0 T (.tup [kV (kS r.nm), vv]) = Y1 at hv1 hT hD1 hus1 sY1 ⊢
        obtain ⟨q1, v1, v2, rfl, hq, a1, a2⟩ := two_of hv1
        refine ⟨T, _, rfl, hT, rfl, _, _, rfl, _, _, rfl, ⟨q1, _, rfl, hq, rfl, _, _, rfl, _, _, rfl, rfl, rfl, ?_⟩⟩
        refine ⟨rfl, yesT ?_⟩
        refine ⟨_, rfl, _, rfl, _, rfl, by show 3 ≤ sizeLine; decide, fun p np => ?_⟩
        have sp := same_upd (o := .tup [.str (SX.S r.nm), v1, v2]) np
        have hp : SqT K (upd Y1 p (.tup [.str (SX.S r.nm), v1, v2])) p [.str (SX.S r.nm), v1, v2] := SqT.of upd_same
        generalize upd Y1 p (.tup [.str (SX.S r.nm), v1, v2]) = Y2 at sp hp ⊢
        refine ⟨us, sp _ _ hD1, small1000 (by omega), Same.at_ (sY1.trans sp) nD1, _, upd_same, by rw [List.length_append, hul]; rfl, ?_⟩
        have kk : KeepT Y2 (upd Y2 D (.lst (us ++ [.ref p]))) := KeepT.at_ (sp _ _ hD1) lst_no
        rw [List.take_add_one, hr', List.map_append]
        exact dpAll_appI (dpAll_imm kk (dpAll_same sp hus1) (immAll_map SRow.imm _)) (.cons (dp_imm kk (.tup hp (.cons (.str _) (.cons (dp_same sp a1) (.cons (dp_same sp a2) .nil)))) r.imm) .nil)
    · rintro Y ⟨sY, us, hD, hul, hus⟩
      rw [lk, List.take_length] at hus
      refine ⟨sY _ _ hfz, ?_⟩
      have nDs : D ≠ sd := fun z => by
        rw [z, hfz] at nD
        cases nD
      have sZ := unlock_same hsd sY
      refine q _ D us sZ ?_ (by rw [upd_ne nDs]; exact hD) (dpAll_sq (unlock_sq (sY _ _ hfz) (fun _ z => by cases z)) hus (immAll_map SRow.imm rs))
      cases e : H D with
      | none => rfl
      | some o => rw [upd_ne nDs, e] at nD; cases nD
theorem ok_Gm {f : Addr} {fd : FuncData} (gc : GCls K C) (F : L2.Fun K "makings" "Grammar.makings" s_Gm f fd) : FnOk P w K mg base CX0 1 f fd ["self"] (spRowsOf K P w C fun _ ms _ => ms.map MRow.d) := by
  refine F.ok sc_Gm (fun vs H Q E h => ?_) (fun cdv A outer s H vs Q E hr h => ?_)
  · obtain ⟨Z, x, rs, ms, ru, roof, rfl, _⟩ := h
    rfl
  · obtain ⟨Z, x, rs, ms, ru, roof, rfl, go, l1, l2, l3, q⟩ := h
    refine ⟨_, pss_one (ps_ret (pe_lock (pe_lc (g := gTup K 2 (gCons (gName 1) (gCons (gTup K 2 (gCons (gName 2) (gCons (gName 3) gNil))) gNil))) (own := [("making", 1), ("sort", 2), ("parts", 3)]) (by exact rfl) sc_Gm.nd (pi_items (pe_fld (pv 0) (by rfl))) (blkOk_by (own := [("making", 1), ("sort", 2), ("parts", 3)]) (N := N_Gm) (sc := defScope s_Gm) (by decide +kernel)) (fun _ _ _ _ _ => pg_tup (n := 2) rfl (pgs_cons (pg_name (i := 1) sc_Gm.nd rfl (Or.inl rfl) (Or.inr rfl)) (pgs_cons (pg_tup (n := 2) rfl (pgs_cons (pg_name (i := 2) sc_Gm.nd rfl (Or.inl rfl) (Or.inr rfl)) (pgs_cons (pg_name (i := 3) sc_Gm.nd rfl (Or.inl rfl) (Or.inr rfl)) pgs_nil))) pgs_nil))) (fun _ _ _ _ _ => pts_nil) (fun _ _ _ _ _ => pe_tup (pa_cons (pv 1) (pa_cons (pv 2) (pa_cons (pv 3) pa_nil))))))), ?_⟩
    obtain ⟨dx, _, sd, rd, kd, rt, hx, _, ⟨skv, hsd, htab⟩, _⟩ := go.ex
    refine ⟨sd, .dK skv, hsd, trivial, fun od => ?_⟩
    have nxs : x ≠ sd := fun z => by
      rw [z, hsd] at hx
      cases hx
    have hx8 : (upd H sd (.frz od (.dK skv))) x = _ := (upd_ne nxs).trans hx
    have hfz : (upd H sd (.frz od (.dK skv))) sd = some (.frz od (.dK skv)) := upd_same
    refine ⟨_, rfl, x, C, dx, _, .ref sd, rfl, hx8, gc.c, gc.making, by with_unfolding_all rfl, sd, od, skv, rfl, hfz, fun D nD => ?_⟩
    have lk : skv.length = ms.length := by
      have := htab.len
      rw [List.length_map] at this
      exact this
    refine lc_it walk_items (fun i Y => Same (upd H sd (.frz od (.dK skv))) Y ∧ ∃ us, Y D = some (.lst us) ∧ us.length = i ∧ DpAll K Y us ((ms.take i).map MRow.d))
      ⟨same_upd nD, [], upd_same, rfl, .nil⟩ (fun i Y _ h => h.1 _ _ hfz) ?_ ?_
    · rintro i v Y0 Y hi ⟨sY, us, hD, hul, hus⟩ ⟨T, xx, yy, rfl, nT, rfl, ex, ey⟩
      have ex : (skv[i]?.map fun kv => kV kv.1) = some xx := ex
      have ey : (skv[i]?.map Prod.snd) = some yy := ey
      cases hk : skv[i]? with
      | none => rw [hk] at ex; cases ex
      | some kv =>
        rw [hk] at ex ey
        cases ex
        cases ey
        obtain ⟨t, ht, ek, hv⟩ := paired_get htab hk
        rw [List.getElem?_map] at ht
        obtain ⟨r, hr', rfl⟩ : ∃ r, ms[i]? = some r ∧ t = mT r := by
          cases e : ms[i]? with
          | none => rw [e] at ht; cases ht
          | some r => rw [e] at ht; exact ⟨r, rfl, (Option.some.inj ht).symm⟩
        have sT' := same_upd (o := .tup [kV kv.1, kv.2]) nT
        have hv1 := dp_same (sY.trans sT') (dp_lock (od := od) hsd dK_no hv (mT_imm r))
        have hv1 : Dp K (upd Y0 T (.tup [kV kv.1, kv.2])) kv.2 (.tuple [strD r.so, .tuple (r.pt.map strD)]) := hv1
        have hT : SqT K (upd Y0 T (.tup [kV kv.1, kv.2])) T [kV kv.1, kv.2] := SqT.of upd_same
        obtain ⟨kk, vv⟩ := kv
        have ek : kk = kS r.nm := ek
        subst ek
        have hv1 : Dp K (upd Y0 T (.tup [kV (kS r.nm), vv])) vv (.tuple [strD r.so, .tuple (r.pt.map strD)]) := hv1
        have hD1 := sT' _ _ hD
        have hus1 := dpAll_same sT' hus
        have hT : SqT K (upd Y0 T (.tup [kV (kS r.nm), vv])) T [.str (SX.S r.nm), vv] := hT
        have sY1 := sY.trans sT'
        have nD1 := nD
        generalize upd Y0 T (.tup [kV (kS r.nm), vv]) = Y1 at hv1 hT hD1 hus1 sY1 ⊢
        obtain ⟨q1, v1, v2, rfl, hq, a1, a2⟩ := two_of hv1
        refine ⟨T, _, rfl, hT, rfl, _, _, rfl, _, _, rfl, ⟨q1, _, rfl, hq, rfl, _, _, rfl, _, _, rfl, rfl, rfl, ?_⟩⟩
        refine ⟨rfl, yesT ?_⟩
        refine ⟨_, rfl, _, rfl, _, rfl, by show 3 ≤ sizeLine; decide, fun p np => ?_⟩
        have sp := same_upd (o := .tup [.str (SX.S r.nm), v1, v2]) np
        have hp : SqT K (upd Y1 p (.tup [.str (SX.S r.nm), v1, v2])) p [.str (SX.S r.nm), v1, v2] := SqT.of upd_same
        generalize upd Y1 p (.tup [.str (SX.S r.nm), v1, v2]) = Y2 at sp hp ⊢
        refine ⟨us, sp _ _ hD1, small1000 (by omega), Same.at_ (sY1.trans sp) nD1, _, upd_same, by rw [List.length_append, hul]; rfl, ?_⟩
        have kk : KeepT Y2 (upd Y2 D (.lst (us ++ [.ref p]))) := KeepT.at_ (sp _ _ hD1) lst_no
        rw [List.take_add_one, hr', List.map_append]
        exact dpAll_appI (dpAll_imm kk (dpAll_same sp hus1) (immAll_map MRow.imm _)) (.cons (dp_imm kk (.tup hp (.cons (.str _) (.cons (dp_same sp a1) (.cons (dp_same sp a2) .nil)))) r.imm) .nil)
    · rintro Y ⟨sY, us, hD, hul, hus⟩
      rw [lk, List.take_length] at hus
      refine ⟨sY _ _ hfz, ?_⟩
      have nDs : D ≠ sd := fun z => by
        rw [z, hfz] at nD
        cases nD
      have sZ := unlock_same hsd sY
      refine q _ D us sZ ?_ (by rw [upd_ne nDs]; exact hD) (dpAll_sq (unlock_sq (sY _ _ hfz) (fun _ z => by cases z)) hus (immAll_map MRow.imm ms))
      cases e : H D with
      | none => rfl
      | some o => rw [upd_ne nDs, e] at nD; cases nD
theorem ok_Gr {f : Addr} {fd : FuncData} (gc : GCls K C) (F : L2.Fun K "rules" "Grammar.rules" s_Gr f fd) : FnOk P w K mg base CX0 1 f fd ["self"] (spRowsOf K P w C fun _ _ ru => ru.map RRow.d) := by
  refine F.ok sc_Gr (fun vs H Q E h => ?_) (fun cdv A outer s H vs Q E hr h => ?_)
  · obtain ⟨Z, x, rs, ms, ru, roof, rfl, _⟩ := h
    rfl
  · obtain ⟨Z, x, rs, ms, ru, roof, rfl, go, l1, l2, l3, q⟩ := h
    refine ⟨_, pss_one (ps_ret (pe_lock (pe_lc (g := gTup K 2 (gCons (gTup K 2 (gCons (gName 1) (gCons (gName 2) gNil))) (gCons (gTup K 2 (gCons (gName 3) (gCons (gName 4) gNil))) gNil))) (own := [("making", 1), ("target", 2), ("op", 3), ("operands", 4)]) (by exact rfl) sc_Gr.nd (pi_itemsN (pe_fld (pv 0) (by rfl))) (blkOk_by (own := [("making", 1), ("target", 2), ("op", 3), ("operands", 4)]) (N := N_Gr) (sc := defScope s_Gr) (by decide +kernel)) (fun _ _ _ _ _ => pg_tup (n := 2) rfl (pgs_cons (pg_tup (n := 2) rfl (pgs_cons (pg_name (i := 1) sc_Gr.nd rfl (Or.inl rfl) (Or.inr rfl)) (pgs_cons (pg_name (i := 2) sc_Gr.nd rfl (Or.inl rfl) (Or.inr rfl)) pgs_nil))) (pgs_cons (pg_tup (n := 2) rfl (pgs_cons (pg_name (i := 3) sc_Gr.nd rfl (Or.inl rfl) (Or.inr rfl)) (pgs_cons (pg_name (i := 4) sc_Gr.nd rfl (Or.inl rfl) (Or.inr rfl)) pgs_nil))) pgs_nil))) (fun _ _ _ _ _ => pts_nil) (fun _ _ _ _ _ => pe_tup (pa_cons (pv 1) (pa_cons (pv 2) (pa_cons (pv 3) (pa_cons (pv 4) pa_nil)))))))), ?_⟩
    obtain ⟨dx, _, _, sd, kd, rt, hx, _, _, ⟨skv, hsd, htab⟩, _⟩ := go.ex
    refine ⟨sd, dnO P w sd skv, hsd, trivial, fun od => ?_⟩
    have nxs : x ≠ sd := fun z => by
      rw [z, hsd] at hx
      cases hx
    have hx8 : (upd H sd (.frz od (dnO P w sd skv))) x = _ := (upd_ne nxs).trans hx
    have hfz : (upd H sd (.frz od (dnO P w sd skv))) sd = some (.frz od (dnO P w sd skv)) := upd_same
    refine ⟨_, rfl, x, C, dx, _, .ref sd, rfl, hx8, gc.c, gc.rule, by with_unfolding_all rfl, sd, od, skv, rfl, hfz, fun D nD => ?_⟩
    have lk : skv.length = ru.length := paired_len htab
    refine lc_it walk_itemsN (fun i Y => Same (upd H sd (.frz od (dnO P w sd skv))) Y ∧ ∃ us, Y D = some (.lst us) ∧ us.length = i ∧ DpAll K Y us ((ru.take i).map RRow.d))
      ⟨same_upd nD, [], upd_same, rfl, .nil⟩ (fun i Y _ h => h.1 _ _ hfz) ?_ ?_
    · rintro i v Y0 Y hi ⟨sY, us, hD, hul, hus⟩ ⟨T, ⟨k0, ka, vv⟩, hk, rfl, nT, rfl⟩
      obtain ⟨r, hr', ek, hkd, hv⟩ := paired_get htab hk
      have hkd : Dp K H (.ref ka) r.kd := hkd
      have hv : Dp K H vv r.vd := hv
      have hi2 : i < ru.length := (List.getElem?_eq_some_iff.mp hr').1
      have sT' := same_upd (o := .tup [.ref ka, vv]) nT
      have hv1 : Dp K _ vv (.tuple [strD r.op, .tuple (r.os.map Od.d)]) := dp_same (sY.trans sT') (dp_lock (od := od) hsd dn_no hv r.vd_imm)
      have hk1 : Dp K _ (.ref ka) (.tuple [strD r.ma, r.tg.d]) := dp_same (sY.trans sT') (dp_lock (od := od) hsd dn_no hkd r.kd_imm)
      have hT : SqT K (upd Y0 T (.tup [.ref ka, vv])) T [.ref ka, vv] := SqT.of upd_same
      have hD1 := sT' _ _ hD
      have hus1 := dpAll_same sT' hus
      have sY1 := sY.trans sT'
      have nD1 := nD
      show gTup K 2 _ (.ref T) _ (upd Y0 T (.tup [.ref ka, vv])) _
      generalize upd Y0 T (.tup [.ref ka, vv]) = Y1 at hv1 hk1 hT hD1 hus1 sY1 ⊢
      obtain ⟨q0, w1, w2, e0, hq0, b1, b2⟩ := two_of hk1
      obtain rfl : ka = q0 := V.ref.inj e0
      obtain ⟨q1, v1, v2, rfl, hq, a1, a2⟩ := two_of hv1
      refine ⟨T, _, rfl, hT, rfl, _, _, rfl, ⟨ka, _, rfl, hq0, rfl, _, _, rfl, _, _, rfl, rfl, _, _, rfl, ⟨q1, _, rfl, hq, rfl, _, _, rfl, _, _, rfl, rfl, rfl, ?_⟩⟩⟩
      refine ⟨rfl, yesT ?_⟩
      refine ⟨_, rfl, _, rfl, _, rfl, _, rfl, by show 4 ≤ sizeLine; decide, fun p np => ?_⟩
      have sp := same_upd (o := .tup [w1, w2, v1, v2]) np
      have hp : SqT K (upd Y1 p (.tup [w1, w2, v1, v2])) p [w1, w2, v1, v2] := SqT.of upd_same
      generalize upd Y1 p (.tup [w1, w2, v1, v2]) = Y2 at sp hp ⊢
      refine ⟨us, sp _ _ hD1, small1000 (by omega), Same.at_ (sY1.trans sp) nD1, _, upd_same, by rw [List.length_append, hul]; rfl, ?_⟩
      have kk : KeepT Y2 (upd Y2 D (.lst (us ++ [.ref p]))) := KeepT.at_ (sp _ _ hD1) lst_no
      rw [List.take_add_one, hr', List.map_append]
      exact dpAll_appI (dpAll_imm kk (dpAll_same sp hus1) (immAll_map RRow.imm _)) (.cons (dp_imm kk (.tup hp (.cons (dp_same sp b1) (.cons (dp_same sp b2) (.cons (dp_same sp a1) (.cons (dp_same sp a2) .nil))))) r.imm) .nil)
    · rintro Y ⟨sY, us, hD, hul, hus⟩
      rw [lk, List.take_length] at hus
      refine ⟨sY _ _ hfz, ?_⟩
      have nDs : D ≠ sd := fun z => by
        rw [z, hfz] at nD
        cases nD
      have sZ := unlock_same hsd sY
      refine q _ D us sZ ?_ (by rw [upd_ne nDs]; exact hD) (dpAll_sq (unlock_sq (sY _ _ hfz) (fun _ z => by cases z)) hus (immAll_map RRow.imm ru))
      cases e : H D with
      | none => rfl
      | some o => rw [upd_ne nDs, e] at nD; cases nD
end
theorem three {K : PySem.W.Frag} {H : Hp} {v : V} {d : PyData} (hd : Dp K H v d) (h : tupN 3 d = true) : ∃ q v0 v1 v2 d0 d1 d2, v = .ref q ∧ d = .tuple [d0, d1, d2] ∧ SqT K H q [v0, v1, v2] ∧ Dp K H v0 d0 ∧ Dp K H v1 d1 ∧ Dp K H v2 d2 := by
  cases hd with
  | tup hS hA =>
    rename_i q xs ds
    have hl : ds.length = 3 := of_decide_eq_true h
    match ds, hl with
    | [d0, d1, d2], _ =>
      cases hA with
      | cons a0 hA =>
        cases hA with
        | cons a1 hA =>
          cases hA with
          | cons a2 hA =>
            cases hA
            exact ⟨q, _, _, _, d0, d1, d2, rfl, rfl, hS, a0, a1, a2⟩
  | _ => cases h
theorem own_at {K : PySem.W.Frag} {H : Hp} {v : V} (h : Dp K H v (Od.d .own)) : ∃ q, v = .ref q ∧ SqT K H q [.str "own"] := by
  cases h with
  | tup hS hA =>
    cases hA with
    | cons a1 hA =>
      cases hA
      cases a1
      exact ⟨_, rfl, hS⟩
/-! ### the rows' texts -/
abbrev s_term_text : Stmt := top 41
abbrev N_term_text : List Str := ["term"]
abbrev P_term_text : List Str := ["term"]
theorem sc_term_text : FnScope N_term_text P_term_text (defScope s_term_text) := ⟨rfl, rfl, rfl, by decide +kernel, rfl, by decide +kernel, by decide +kernel⟩
abbrev s_sort_text : Stmt := top 42
abbrev N_sort_text : List Str := ["row", "sort", "downs", "ups"]
abbrev P_sort_text : List Str := ["row"]
theorem sc_sort_text : FnScope N_sort_text P_sort_text (defScope s_sort_text) := ⟨rfl, rfl, rfl, by decide +kernel, rfl, by decide +kernel, by decide +kernel⟩
abbrev s_making_text : Stmt := top 43
abbrev N_making_text : List Str := ["row", "making", "sort", "parts"]
abbrev P_making_text : List Str := ["row"]
theorem sc_making_text : FnScope N_making_text P_making_text (defScope s_making_text) := ⟨rfl, rfl, rfl, by decide +kernel, rfl, by decide +kernel, by decide +kernel⟩
abbrev s_rule_text : Stmt := top 44
abbrev N_rule_text : List Str := ["row", "making", "target", "op", "operands", "words", "operand"]
abbrev P_rule_text : List Str := ["row"]
theorem sc_rule_text : FnScope N_rule_text P_rule_text (defScope s_rule_text) := ⟨rfl, rfl, rfl, by decide +kernel, rfl, by decide +kernel, by decide +kernel⟩
structure Tx22 (mg : Str → Option Value) : Prop where
  str : mg "str" = none
theorem call_strB {X : Cx} : CallR X (.type "str") (fun xs H Q => (∃ a, xs = [.str a] ∧ Q (.str a) H) ∨ ∃ i, xs = [.int i] ∧ i.natAbs.log2 < 1920 ∧ Q (.str (toString i)) H) := by
  intro pins s σ H xs us Q I r h
  rcases h with h | h
  · exact SkE.call_str_str pins s σ H xs us Q I r h
  · exact call_str_int pins s σ H xs us Q I r h
theorem num_log {n : Nat} (h : n < 1000000) : (((n : Nat) : Int)).natAbs.log2 < 1920 := by
  rw [Int.natAbs_natCast]
  by_cases z : n = 0
  · rw [z]
    decide
  · have : n.log2 < 20 := (Nat.log2_lt z).mpr (by
      have : (2 : Nat) ^ 20 = 1048576 := by decide
      omega)
    omega
def termS : Od → Str
  | .en (.sp p w) => Str.empty ++ toString ((p : Nat) : Int) ++ "." ++ SX.S w
  | .en (.kept w) => SX.S w
  | .own => "own"
  | .num n => toString ((n : Nat) : Int)
/-- it is short -/
def TermOk : Od → Prop
  | .en (.sp p w) => p ≤ 9 ∧ w.length ≤ 100
  | .en (.kept w) => w.length ≤ 100
  | .own => True
  | .num n => n < 1000000
def spTermT (K : PySem.W.Frag) : Sp := fun vs H Q _ => ∃ (v : V) (o : Od), vs = [v] ∧ Dp K H v o.d ∧ TermOk o ∧ Q (.str (termS o)) H
def sortS (r : SRow) : Str := Txt.join " " (([("sort" : Str), SX.S r.nm] : List Str) ++ r.dn.map SX.S ++ [("/" : Str)] ++ r.up.map SX.S)
def makS (m : MRow) : Str := Txt.join " " (([("make" : Str), SX.S m.nm, SX.S m.so] : List Str) ++ m.pt.map SX.S)
def ruleS (r : RRow) : Str := Txt.join " " (([("rule" : Str), SX.S r.ma, termS (.en r.tg), SX.S r.op] : List Str) ++ r.os.map termS)
theorem term_len : ∀ {o : Od}, TermOk o → (termS o).length ≤ 200
  | .own, _ => by decide +kernel
  | .num n, h => by
    have h : n < 1000000 := h
    show (Str.ofString (toString ((n : Nat) : Int))).length ≤ 200
    rw [SX.num_S, SX.S_len]
    have := TL.numL_len (n := n) (k := 6) (by decide) (by omega)
    omega
  | .en (.kept w), h => by
    show (SX.S w).length ≤ 200
    have h : w.length ≤ 100 := h
    rw [SX.S_len]
    omega
  | .en (.sp p w), h => by
    have h1 : p ≤ 9 := h.1
    have h2 : w.length ≤ 100 := h.2
    show (Str.empty ++ Str.ofString (toString ((p : Nat) : Int)) ++ Str.ofString "." ++ SX.S w).length ≤ 200
    rw [Str.length_append, Str.length_append, Str.length_append, SX.num_S]
    have ep : (SX.S (TL.numL p)).length = (TL.numL p).length := SX.S_len _
    have ew : (SX.S w).length = w.length := SX.S_len _
    have := TL.numL_len (n := p) (k := 6) (by decide) (by omega)
    have e1 : (Str.ofString ".").length = 1 := by decide +kernel
    have e0 : Str.empty.length = 0 := rfl
    omega
theorem nm_len {w : List Nat} (h : NmOk w) : (SX.S w).length ≤ 100 := by
  obtain ⟨⟨h2, h3, hlet⟩, h1⟩ := h
  rw [SX.S_len]
  exact Nat.le_trans h3 (by decide)
theorem sum_len : ∀ {ys : List Str}, (∀ y ∈ ys, y.length ≤ 200) → (ys.map (·.length)).sum ≤ 200 * ys.length
  | [], _ => Nat.le_refl _
  | y :: ys, h => by
    have h1 := h y (List.mem_cons_self ..)
    have h2 := sum_len fun z hz => h z (List.mem_cons_of_mem _ hz)
    rw [List.map_cons, List.sum_cons, List.length_cons]
    omega
theorem mk_at {K : PySem.W.Frag} {H : Hp} {v : V} {m : MRow} (h : Dp K H v m.d) : ∃ q t, v = .ref q ∧ SqT K H q [.str (SX.S m.nm), .str (SX.S m.so), .ref t] ∧ SqT K H t (nmV m.pt) := by
  obtain ⟨q, v0, v1, v2, d0, d1, d2, rfl, ed, hS, g0, g1, g2⟩ := three h rfl
  injection ed with ed
  simp only [List.cons.injEq, and_true] at ed
  obtain ⟨rfl, rfl, rfl⟩ := ed
  cases g0
  cases g1
  obtain ⟨t, rfl, ht⟩ := names_dp g2
  exact ⟨q, t, rfl, hS, ht⟩
def spMakT (K : PySem.W.Frag) : Sp := fun vs H Q _ => ∃ (v : V) (m : MRow), vs = [v] ∧ Dp K H v m.d ∧ NmOk m.nm ∧ (∀ k ∈ m.places, NmOk k) ∧ m.pt.length ≤ 2 ∧ ∀ H', Same H H' → Q (.str (makS m)) H'
def spRuleT (K : PySem.W.Frag) : Sp := fun vs H Q _ => ∃ (v : V) (r : RRow), vs = [v] ∧ Dp K H v r.d ∧ NmOk r.ma ∧ TermOk (.en r.tg) ∧ (∀ o ∈ r.os, TermOk o) ∧ r.os.length ≤ 3 ∧ (SX.S r.op).length ≤ 100 ∧ ∀ H', Same H H' → Q (.str (ruleS r)) H'
def spSortT (K : PySem.W.Frag) : Sp := fun vs H Q _ => ∃ (v : V) (r : SRow), vs = [v] ∧ Dp K H v r.d ∧ SOk r ∧ ∀ H', Same H H' → Q (.str (sortS r)) H'
section
variable {P : Program} {w : World} {K : PySem.W.Frag} {mg : Str → Option Value} {base : Heap}
theorem ok_term_text (T : Tx22 mg) (D : Dd K mg "term_text" s_term_text P_term_text) : C8.Cal P w K mg base 1 "term_text" (spTermT K) [] := by
  refine D.cal sc_term_text (fun vs H Q E h => ?_) (fun f cdv A outer s H vs Q E hr h => ?_)
  · obtain ⟨v, o, rfl, _⟩ := h
    rfl
  · obtain ⟨v, o, rfl, hv, ho, q⟩ := h
    refine ⟨_, (pss_cons (ps_if (pt_cmpR op_eq (pe_ix ix_tup (pv 0) pe_int (fun _ _ => rfl)) pe_str (nomark _))
          (pss_one (ps_ret (pe_joined (.cons (pe_fmt (pe_ix ix_tup (pv 0) pe_int (fun _ _ => rfl))) (.cons pe_str (.cons (pe_fmt (pe_ix ix_tup (pv 0) pe_int (fun _ _ => rfl))) .nil))))))
          pss_nil)
        (pss_cons (ps_if (pt_cmpR op_eq (pe_ix ix_tup (pv 0) pe_int (fun _ _ => rfl)) pe_str (nomark _))
          (pss_one (ps_ret pe_str))
          pss_nil)
        (pss_one (ps_ret (pe_callTy call_strB (by rfl) T.str (by decide +kernel) (pa_cons (pe_ix ix_tup (pv 0) pe_int (fun _ _ => rfl)) pa_nil)))))), ?_⟩
    cases o with
    | own =>
      obtain ⟨q0, rfl, hq⟩ := own_at hv
      refine ⟨_, rfl, q0, _, 0, .str "own", rfl, rfl, hq, atI_nat (j := 0) rfl, rfl, _, rfl, ifF (by decide +kernel) ?_⟩
      exact ⟨_, rfl, q0, _, 0, .str "own", rfl, rfl, hq, atI_nat (j := 0) rfl, rfl, _, rfl, ifT (by decide +kernel) q⟩
    | num n =>
      obtain ⟨q0, rfl, hq⟩ := num_at hv
      refine ⟨_, rfl, q0, _, 0, .str "number", rfl, rfl, hq, atI_nat (j := 0) rfl, rfl, _, rfl, ifF (by decide +kernel) ?_⟩
      refine ⟨_, rfl, q0, _, 0, .str "number", rfl, rfl, hq, atI_nat (j := 0) rfl, rfl, _, rfl, ifF (by decide +kernel) ?_⟩
      refine ⟨_, rfl, q0, _, 1, .int (n : Nat), rfl, rfl, hq, atI_nat (j := 1) rfl, .inr ⟨_, rfl, ?_, q⟩⟩
      exact num_log ho
    | en e =>
      cases e with
      | kept w' =>
        obtain ⟨q0, rfl, hq⟩ := kp_at hv
        refine ⟨_, rfl, q0, _, 0, .str "kept", rfl, rfl, hq, atI_nat (j := 0) rfl, rfl, _, rfl, ifF (by decide +kernel) ?_⟩
        refine ⟨_, rfl, q0, _, 0, .str "kept", rfl, rfl, hq, atI_nat (j := 0) rfl, rfl, _, rfl, ifF (by decide +kernel) ?_⟩
        exact ⟨_, rfl, q0, _, 1, .str (SX.S w'), rfl, rfl, hq, atI_nat (j := 1) rfl, .inl ⟨_, rfl, q⟩⟩
      | sp p w' =>
        obtain ⟨q0, rfl, hq⟩ := sp_at hv
        refine ⟨_, rfl, q0, _, 0, .str "at", rfl, rfl, hq, atI_nat (j := 0) rfl, rfl, _, rfl, ifT (by decide +kernel) ?_⟩
        have hl : (Str.ofString (toString ((p : Nat) : Int))).length ≤ 1 := by
          have hp := ho.1
          have h10 : p = 0 ∨ p = 1 ∨ p = 2 ∨ p = 3 ∨ p = 4 ∨ p = 5 ∨ p = 6 ∨ p = 7 ∨ p = 8 ∨ p = 9 := by omega
          rcases h10 with rfl | rfl | rfl | rfl | rfl | rfl | rfl | rfl | rfl | rfl <;> decide +kernel
        refine ⟨_, rfl, q0, _, 1, .int (p : Nat), rfl, rfl, hq, atI_nat (j := 1) rfl, .inr ⟨_, rfl, num_log (by have := ho.1; omega), _, rfl, ?_, _, rfl, ?_, _, rfl, q0, _, 2, .str (SX.S w'), rfl, rfl, hq, atI_nat (j := 2) rfl, .inl ⟨_, rfl, ?_, _, rfl, ?_, q⟩⟩⟩
        have hw : (SX.S w').length ≤ 100 := by
          have e : (SX.S w').length = w'.length := by simp [Str.length, SX.S]
          rw [e]
          exact ho.2
        have e0 : Str.empty.length = 0 := rfl
        have e1 : ("." : Str).length = 1 := by decide +kernel
        · refine Nat.le_trans (show _ ≤ 200 from ?_) (by decide)
          rw [Str.length_append]
          omega
        · refine Nat.le_trans (show _ ≤ 200 from ?_) (by decide)
          rw [Str.length_append, Str.length_append]
          have e1 : (Str.ofString ".").length = 1 := by decide +kernel
          have e0 : Str.empty.length = 0 := rfl
          omega
        · have e : (SX.S w').length = w'.length := by simp [Str.length, SX.S]
          rw [e]
          exact Nat.le_trans ho.2 (by decide)
        · refine Nat.le_trans (show _ ≤ 200 from ?_) (by decide)
          rw [Str.length_append, Str.length_append, Str.length_append]
          have e1 : (Str.ofString ".").length = 1 := by decide +kernel
          have e0 : Str.empty.length = 0 := rfl
          have e : (SX.S w').length = w'.length := by simp [Str.length, SX.S]
          have := ho.2
          omega
theorem ok_sort_text (D : Dd K mg "sort_text" s_sort_text P_sort_text) : C8.Cal P w K mg base 1 "sort_text" (spSortT K) [] := by
  refine D.cal sc_sort_text (fun vs H Q E h => ?_) (fun f cdv A outer s H vs Q E hr h => ?_)
  · obtain ⟨v, r, rfl, _⟩ := h
    rfl
  · obtain ⟨v, r, rfl, hv, ok, q⟩ := h
    refine ⟨_, (pss_cons (ps_asg (pv 0) (pg_tup rfl (pgs_cons (pg_name (i := 1) sc_sort_text.nd rfl (Or.inl rfl)) (pgs_cons (pg_name (i := 2) sc_sort_text.nd rfl (Or.inl rfl)) (pgs_cons (pg_name (i := 3) sc_sort_text.nd rfl (Or.inl rfl)) pgs_nil)))))
        (pss_one (ps_ret (pe_bm PySem.F.plainAttrs_str PySem.F.slot_str_join PySem.F.type_str_join mt_join pe_str (pa_cons (pe_lst (pa_cons pe_str (pa_cons (pv 1) (StX.pa_star (pv 2) (pa_cons pe_str (StX.pa_star (pv 3) pa_nil)))))) pa_nil))))), ?_⟩
    obtain ⟨q0, t1, t2, rfl, hq, h1, h2⟩ := s_at hv
    refine ⟨_, rfl, q0, _, rfl, hq, rfl, _, _, rfl, _, _, rfl, _, _, rfl, rfl, ?_⟩
    have e : [V.str "sort", .str (SX.S r.nm)] ++ (nmV r.dn ++ (V.str "/" :: (nmV r.up ++ []))) = ((([("sort" : Str), SX.S r.nm] : List Str) ++ r.dn.map SX.S ++ [("/" : Str)] ++ r.up.map SX.S)).map V.str := by
      unfold nmV
      simp [Function.comp_def]
    have hd2 := ok.d2
    have hu2 := ok.u2
    refine ⟨rfl, _, rfl, _, rfl, t1, nmV r.dn, rfl, .inl h1, _, rfl, t2, nmV r.up, rfl, .inl h2, ?_, fun p np => ?_⟩
    · refine Nat.le_trans (show _ ≤ 10 from ?_) (by decide)
      have := congrArg List.length e
      simp [nmV_len] at this ⊢
      omega
    · refine ⟨" ", p, _, rfl, rfl, .inl (e ▸ SqL.of upd_same), ?_, q _ (same_upd np)⟩
      have hs := sum_len (ys := ([("sort" : Str), SX.S r.nm] : List Str) ++ r.dn.map SX.S ++ [("/" : Str)] ++ r.up.map SX.S) fun y hy => by
        simp only [List.mem_append, List.mem_cons, List.not_mem_nil, or_false, List.mem_map] at hy
        rcases hy with ((hy | ⟨w, hw, rfl⟩) | hy) | ⟨w, hw, rfl⟩
        · rcases hy with rfl | rfl
          · decide +kernel
          · exact Nat.le_trans (nm_len ok.nm) (by decide)
        · exact Nat.le_trans (nm_len (ok.all w (List.mem_append_left _ hw))) (by decide)
        · rw [hy]
          decide +kernel
        · exact Nat.le_trans (nm_len (ok.all w (List.mem_append_right _ hw))) (by decide)
      have hl : (([("sort" : Str), SX.S r.nm] : List Str) ++ r.dn.map SX.S ++ [("/" : Str)] ++ r.up.map SX.S).length ≤ 7 := by
        simp
        omega
      have e1 : (" " : Str).length = 1 := by decide +kernel
      have e2 : (Str.ofString " ").length = 1 := e1
      rw [e2]
      omega
theorem ok_making_text (D : Dd K mg "making_text" s_making_text P_making_text) : C8.Cal P w K mg base 1 "making_text" (spMakT K) [] := by
  refine D.cal sc_making_text (fun vs H Q E h => ?_) (fun f cdv A outer s H vs Q E hr h => ?_)
  · obtain ⟨v, m, rfl, _⟩ := h
    rfl
  · obtain ⟨v, m, rfl, hv, hn, hp, hl2, q⟩ := h
    refine ⟨_, (pss_cons (ps_asg (pv 0) (pg_tup rfl (pgs_cons (pg_name (i := 1) sc_making_text.nd rfl (Or.inl rfl)) (pgs_cons (pg_name (i := 2) sc_making_text.nd rfl (Or.inl rfl)) (pgs_cons (pg_name (i := 3) sc_making_text.nd rfl (Or.inl rfl)) pgs_nil)))))
        (pss_one (ps_ret (pe_bm PySem.F.plainAttrs_str PySem.F.slot_str_join PySem.F.type_str_join mt_join pe_str (pa_cons (pe_lst (pa_cons pe_str (pa_cons (pv 1) (pa_cons (pv 2) (StX.pa_star (pv 3) pa_nil))))) pa_nil))))), ?_⟩
    obtain ⟨q0, t2, rfl, hq, h2⟩ := mk_at hv
    refine ⟨_, rfl, q0, _, rfl, hq, rfl, _, _, rfl, _, _, rfl, _, _, rfl, rfl, ?_⟩
    have e : [V.str "make", .str (SX.S m.nm), .str (SX.S m.so)] ++ (nmV m.pt ++ []) = ((([("make" : Str), SX.S m.nm, SX.S m.so] : List Str) ++ m.pt.map SX.S)).map V.str := by
      unfold nmV
      simp [Function.comp_def]
    refine ⟨rfl, _, rfl, _, rfl, _, rfl, t2, nmV m.pt, rfl, .inl h2, ?_, fun p np => ?_⟩
    · refine Nat.le_trans (show _ ≤ 10 from ?_) (by decide)
      have := congrArg List.length e
      simp [nmV_len] at this ⊢
      omega
    · refine ⟨" ", p, _, rfl, rfl, .inl (e ▸ SqL.of upd_same), ?_, q _ (same_upd np)⟩
      have hs := sum_len (ys := ([("make" : Str), SX.S m.nm, SX.S m.so] : List Str) ++ m.pt.map SX.S) fun y hy => by
        simp only [List.mem_append, List.mem_cons, List.not_mem_nil, or_false, List.mem_map] at hy
        rcases hy with (rfl | rfl | rfl) | ⟨w, hw, rfl⟩
        · decide +kernel
        · exact Nat.le_trans (nm_len hn) (by decide)
        · exact Nat.le_trans (nm_len (hp _ (List.mem_cons_self ..))) (by decide)
        · exact Nat.le_trans (nm_len (hp w (List.mem_cons_of_mem _ hw))) (by decide)
      have hl : (([("make" : Str), SX.S m.nm, SX.S m.so] : List Str) ++ m.pt.map SX.S).length ≤ 7 := by
        simp
        omega
      have e2 : (Str.ofString " ").length = 1 := by decide +kernel
      rw [e2]
      omega
theorem ok_rule_text (cterm_text : C8.Cal P w K mg base 1 "term_text" (spTermT K) []) (D : Dd K mg "rule_text" s_rule_text P_rule_text) : C8.Cal P w K mg base 2 "rule_text" (spRuleT K) [] := by
  refine D.cal sc_rule_text (fun vs H Q E h => ?_) (fun f cdv A outer s H vs Q E hr h => ?_)
  · obtain ⟨v, r, rfl, _⟩ := h
    rfl
  · obtain ⟨v, r, rfl, hv, hn, ht, hos, hl3, hop, q⟩ := h
    refine ⟨_, (pss_cons (ps_asg (pv 0) (pg_tup rfl (pgs_cons (pg_name (i := 1) sc_rule_text.nd rfl (Or.inl rfl)) (pgs_cons (pg_name (i := 2) sc_rule_text.nd rfl (Or.inl rfl)) (pgs_cons (pg_name (i := 3) sc_rule_text.nd rfl (Or.inl rfl)) (pgs_cons (pg_name (i := 4) sc_rule_text.nd rfl (Or.inl rfl)) pgs_nil))))))
        (pss_cons (ps_setLc (i := 5) (own := [("operand", 6)]) (by exact rfl) sc_rule_text.nd rfl rfl (sw_true rfl rfl rfl (by decide +kernel)) (pi_tup (pv 4)) (blkOk_by (own := [("operand", 6)]) (N := N_rule_text) (sc := defScope s_rule_text) (by decide +kernel)) (fun _ _ _ _ _ => (pg_name (i := 6) sc_rule_text.nd rfl (Or.inl rfl))) (fun _ _ _ _ _ => pts_nil) (fun _ _ _ _ _ => (C8.pe_c cterm_text hr (by decide) (by rfl) (pa_cons (pv 6) pa_nil))))
        (pss_one (ps_ret (pe_bm PySem.F.plainAttrs_str PySem.F.slot_str_join PySem.F.type_str_join mt_join pe_str (pa_cons (pe_lst (pa_cons pe_str (pa_cons (pv 1) (pa_cons (C8.pe_c cterm_text hr (by decide) (by rfl) (pa_cons (pv 2) pa_nil)) (pa_cons (pv 3) (StX.pa_star (pv 5) pa_nil)))))) pa_nil)))))), ?_⟩
    obtain ⟨q0, v2, ot, us, rfl, hq, h2, hot, hus⟩ := rr4 hv
    refine ⟨_, rfl, q0, _, rfl, hq, rfl, _, _, rfl, _, _, rfl, _, _, rfl, _, _, rfl, rfl, ?_⟩
    have lus := dpAll_len hus
    rw [List.length_map] at lus
    refine ⟨_, rfl, ot, rfl, ⟨_, hot⟩, fun D nD => ?_⟩
    refine lc_it (walk_tup (xs := us)) (fun i Y => Same H Y ∧ Y D = some (.lst (((r.os.take i).map termS).map V.str))) ⟨same_upd nD, upd_same⟩ (fun i Y _ h => Same.seqT h.1 hot) ?_ ?_
    · rintro i e Y0 Y hi ⟨sY, hD⟩ ⟨rfl, he⟩
      obtain ⟨o, ho, hod⟩ := row_of hus he
      have tk : r.os.take (i + 1) = r.os.take i ++ [o] := by rw [List.take_add_one, ho]; rfl
      have hi3 : i < r.os.length := (List.getElem?_eq_some_iff.mp ho).1
      refine ⟨rfl, yesT ⟨_, rfl, e, o, rfl, dp_same sY hod, hos o (List.mem_of_getElem? ho), _, hD, small1000 (by simp; omega), Same.at_ sY nD, ?_⟩⟩
      rw [upd_same, tk, List.map_append, List.map_append]
      rfl
    · rintro Y ⟨sY, hD⟩
      rw [lus, List.take_length] at hD
      have e : [V.str "rule", .str (SX.S r.ma), .str (termS (.en r.tg)), .str (SX.S r.op)] ++ ((r.os.map termS).map V.str ++ []) = ((([("rule" : Str), SX.S r.ma, termS (.en r.tg), SX.S r.op] : List Str) ++ r.os.map termS)).map V.str := by
        simp
      refine ⟨rfl, _, rfl, _, rfl, v2, .en r.tg, rfl, dp_same sY h2, ht, _, rfl, _, rfl, D, _, rfl, .inr (SqL.of hD), ?_, fun p np => ?_⟩
      · refine Nat.le_trans (show _ ≤ 10 from ?_) (by decide)
        simp
        omega
      · refine ⟨" ", p, _, rfl, rfl, .inl (e ▸ SqL.of upd_same), ?_, q _ (sY.trans (same_upd np))⟩
        have hs := sum_len (ys := ([("rule" : Str), SX.S r.ma, termS (.en r.tg), SX.S r.op] : List Str) ++ r.os.map termS) fun y hy => by
          simp only [List.mem_append, List.mem_cons, List.not_mem_nil, or_false, List.mem_map] at hy
          rcases hy with (rfl | rfl | rfl | rfl) | ⟨o, ho, rfl⟩
          · decide +kernel
          · exact Nat.le_trans (nm_len hn) (by decide)
          · exact term_len ht
          · exact Nat.le_trans hop (by decide)
          · exact term_len (hos o ho)
        have hl : (([("rule" : Str), SX.S r.ma, termS (.en r.tg), SX.S r.op] : List Str) ++ r.os.map termS).length ≤ 7 := by
          simp
          omega
        have e2 : (Str.ofString " ").length = 1 := by decide +kernel
        rw [e2]
        omega
end
/-! ### the text's rows of a grammar -/
abbrev s_text_rows : Stmt := top 45
abbrev N_text_rows : List Str := ["grammar", "rows", "row"]
abbrev P_text_rows : List Str := ["grammar"]
theorem sc_text_rows : FnScope N_text_rows P_text_rows (defScope s_text_rows) := ⟨rfl, rfl, rfl, by decide +kernel, rfl, by decide +kernel, by decide +kernel⟩
abbrev s_GC : Stmt := (inClass (top 47) 4)
abbrev N_GC : List Str := ["self"]
theorem sc_GC : FnScope N_GC N_GC (defScope s_GC) := ⟨rfl, rfl, rfl, by decide +kernel, rfl, by decide +kernel, by decide +kernel⟩
def spCapG (K : PySem.W.Frag) (P : Program) (w : World) (G : Addr) : Sp := fun vs H Q _ => ∃ (Z : Hp) (x : Addr) (rs : List SRow) (ms : List MRow) (ru : List RRow) (roof : Nat), vs = [.ref x] ∧ GrOk K P w G Z H x rs ms ru roof ∧ Q (.int (roof : Nat)) H
def capS (roof : Nat) : Str := Str.empty ++ "cap " ++ toString ((roof : Nat) : Int)
def rowsS (rs : List SRow) (ms : List MRow) (ru : List RRow) (roof : Nat) : List Str := (if 0 < roof then [capS roof] else []) ++ rs.map sortS ++ ms.map makS ++ ru.map ruleS
def spTextRows (K : PySem.W.Frag) (P : Program) (w : World) (G : Addr) : Sp := fun vs H Q _ => ∃ (Z : Hp) (x : Addr) (rs : List SRow) (ms : List MRow) (ru : List RRow) (roof : Nat), vs = [.ref x] ∧ GrOk K P w G Z H x rs ms ru roof ∧ GFit rs ms ru roof ∧
  ∀ (H' : Hp) (l : Addr), Same H H' → H l = none → H' l = some (.lst ((rowsS rs ms ru roof).map V.str)) → Q (.ref l) H'
theorem op_short {op : List Nat} {roof : Nat} (h : op ∈ opsOf roof) : op.length ≤ 100 := by
  have all : ∀ o ∈ OPS4 ++ OPS8, o.length ≤ 100 := by decide +kernel
  refine all op ?_
  unfold opsOf at h
  by_cases hr : roof = 0
  · rw [if_pos hr] at h
    exact h
  · rw [if_neg hr] at h
    exact List.mem_append_left _ h
theorem nm_l {w : List Nat} (h : NmOk w) : w.length ≤ 100 := by
  have := nm_len h
  rwa [SX.S_len] at this
theorem at_ok {rs : List SRow} {m : MRow} {p : Nat} {w : List Nat} {b : Bool} (so : SortsOk rs) (h2 : m.pt.length ≤ 2) (h : AtOf rs m p w b) : p ≤ 9 ∧ w.length ≤ 100 := by
  obtain ⟨k, r, e1, e2, _, e4⟩ := h
  have hl := (List.getElem?_eq_some_iff.mp e1).1
  have hp : m.places.length = m.pt.length + 1 := rfl
  refine ⟨by omega, nm_l ((so.ok r e2).all w ?_)⟩
  cases b with
  | true => exact List.mem_append_right _ e4
  | false => exact List.mem_append_left _ e4
theorem tg_ok {rs : List SRow} {m : MRow} {e : En} (so : SortsOk rs) (h2 : m.pt.length ≤ 2) (h : TgOk rs m e) : TermOk (.en e) := by
  cases e with
  | sp p w => exact at_ok so h2 h
  | kept w => exact nm_l (show KeptOk rs m w from h).1
theorem od_ok {rs : List SRow} {m : MRow} {o : Od} (so : SortsOk rs) (h2 : m.pt.length ≤ 2) (h : OdOk rs m o) : TermOk o := by
  cases o with
  | own => trivial
  | num n => exact h
  | en e =>
    cases e with
    | sp p w => exact at_ok so h2 h
    | kept w => exact nm_l (show KeptOk rs m w from h).1
section
variable {P : Program} {w : World} {K : PySem.W.Frag} {mg : Str → Option Value} {base : Heap} {G : Addr}
theorem ok_cap_of {f : Addr} {fd : FuncData} (gc : GCls K G) (F : L2.Fun K "cap" "Grammar.cap" s_GC f fd) : FnOk P w K mg base CX0 1 f fd N_GC (spCapG K P w G) := by
  refine F.ok sc_GC (fun vs H Q E h => ?_) (fun cdv A outer s H vs Q E hr h => ?_)
  · obtain ⟨Z, x, rs, ms, ru, roof, rfl, _⟩ := h
    rfl
  · obtain ⟨Z, x, rs, ms, ru, roof, rfl, go, q⟩ := h
    obtain ⟨dx, sd, md, rd, kd, rt, hx, _⟩ := go.ex
    refine ⟨_, pss_one (ps_ret (pe_fld (pv 0) (by rfl))), ?_⟩
    exact ⟨_, rfl, x, G, dx, _, .int (roof : Nat), rfl, hx, gc.c, gc.top, by with_unfolding_all rfl, q⟩
theorem ok_text_rows (MC : C8.Met P w K mg base 1 G "cap" (spCapG K P w G) []) (M1 : C8.Met P w K mg base 1 G "sorts" (spRowsOf K P w G fun rs _ _ => rs.map SRow.d) []) (M2 : C8.Met P w K mg base 1 G "makings" (spRowsOf K P w G fun _ ms _ => ms.map MRow.d) []) (M3 : C8.Met P w K mg base 1 G "rules" (spRowsOf K P w G fun _ _ ru => ru.map RRow.d) [])
    (csort_text : C8.Cal P w K mg base 1 "sort_text" (spSortT K) []) (cmaking_text : C8.Cal P w K mg base 1 "making_text" (spMakT K) []) (crule_text : C8.Cal P w K mg base 2 "rule_text" (spRuleT K) []) (D : Dd K mg "text_rows" s_text_rows P_text_rows) : C8.Cal P w K mg base 3 "text_rows" (spTextRows K P w G) [] := by
  refine D.cal sc_text_rows (fun vs H Q E h => ?_) (fun f cdv A outer s H vs Q E hr h => ?_)
  · obtain ⟨Z, x, rs, ms, ru, roof, rfl, _⟩ := h
    rfl
  · obtain ⟨Z, x, rs, ms, ru, roof, rfl, go, gf, q⟩ := h
    refine ⟨_, (C8.pss_cut (ps_set (i := 1) sc_text_rows.nd rfl (Or.inl rfl) (pe_ifExp (pt_cmpR op_gt (C8.pe_mt0 MC hr (by decide) (pv 0)) pe_int (nomark _)) (pe_lst (pa_cons (pe_joined (.cons pe_str (.cons (pe_fmt (C8.pe_mt0 MC hr (by decide) (pv 0))) .nil))) pa_nil)) (pe_lst pa_nil)))
        (pss_cons (ps_expr (pe_bm PySem.F.plainAttrs_list PySem.F.slot_list_extend PySem.F.type_list_extend mt_extend (pv 1) (pa_cons (pe_lc (own := [("row", 2)]) (by exact rfl) sc_text_rows.nd (pi_list (C8.pe_mt0 M1 hr (by decide) (pv 0))) (blkOk_by (own := [("row", 2)]) (N := N_text_rows) (sc := defScope s_text_rows) (by decide +kernel)) (fun _ _ _ _ _ => (pg_name (i := 2) sc_text_rows.nd rfl (Or.inl rfl))) (fun _ _ _ _ _ => pts_nil) (fun _ _ _ _ _ => (C8.pe_c csort_text hr (by decide) (by rfl) (pa_cons (pv 2) pa_nil)))) pa_nil)))
        (pss_cons (ps_expr (pe_bm PySem.F.plainAttrs_list PySem.F.slot_list_extend PySem.F.type_list_extend mt_extend (pv 1) (pa_cons (pe_lc (own := [("row", 2)]) (by exact rfl) sc_text_rows.nd (pi_list (C8.pe_mt0 M2 hr (by decide) (pv 0))) (blkOk_by (own := [("row", 2)]) (N := N_text_rows) (sc := defScope s_text_rows) (by decide +kernel)) (fun _ _ _ _ _ => (pg_name (i := 2) sc_text_rows.nd rfl (Or.inl rfl))) (fun _ _ _ _ _ => pts_nil) (fun _ _ _ _ _ => (C8.pe_c cmaking_text hr (by decide) (by rfl) (pa_cons (pv 2) pa_nil)))) pa_nil)))
        (pss_cons (ps_expr (pe_bm PySem.F.plainAttrs_list PySem.F.slot_list_extend PySem.F.type_list_extend mt_extend (pv 1) (pa_cons (pe_lc (own := [("row", 2)]) (by exact rfl) sc_text_rows.nd (pi_list (C8.pe_mt0 M3 hr (by decide) (pv 0))) (blkOk_by (own := [("row", 2)]) (N := N_text_rows) (sc := defScope s_text_rows) (by decide +kernel)) (fun _ _ _ _ _ => (pg_name (i := 2) sc_text_rows.nd rfl (Or.inl rfl))) (fun _ _ _ _ _ => pts_nil) (fun _ _ _ _ _ => (C8.pe_c crule_text hr (by decide) (by rfl) (pa_cons (pv 2) pa_nil)))) pa_nil)))
        (pss_one (ps_ret (pv 1))))))), ?_⟩
    obtain ⟨dx, sd, md, rd, kd, rt, hx, _⟩ := go.ex
    have h4 := gf.so.le
    have h8 := gf.m8
    have h240 := gf.rl
    have hr9 := gf.rf
    have hcl : (if 0 < roof then [capS roof] else []).length ≤ 1 := by
      split
      · exact Nat.le_refl 1
      · exact Nat.zero_le 1
    refine ⟨fun σ' U => ∃ l, σ' = [some (.ref x), some (.ref l), none] ∧ Same H U ∧ H l = none ∧ U l = some (.lst ((if 0 < roof then [capS roof] else []).map V.str)), ?_, ?_⟩
    · refine ⟨_, rfl, x, dx, _, rfl, hx, by with_unfolding_all rfl, Z, x, rs, ms, ru, roof, rfl, go, _, _, rfl, rfl, _, rfl, ?_⟩
      by_cases h0 : 0 < roof
      · refine ifT (decide_eq_true (by omega)) ?_
        have hl : (Str.ofString (toString ((roof : Nat) : Int))).length ≤ 6 := by
          rw [SX.num_S, SX.S_len]
          exact TL.numL_len (by decide) (by omega)
        have e1 : (Str.ofString "cap ").length = 4 := by decide +kernel
        have e0 : Str.empty.length = 0 := rfl
        refine ⟨_, rfl, ?_, _, rfl, x, dx, _, rfl, hx, by with_unfolding_all rfl, Z, x, rs, ms, ru, roof, rfl, go, .inr ⟨_, rfl, num_log (by omega), _, rfl, ?_, by show 1 ≤ sizeLine; decide, fun p np => ⟨p, rfl, same_upd np, np, ?_⟩⟩⟩
        · refine Nat.le_trans (show _ ≤ 200 from ?_) (by decide)
          rw [Str.length_append]
          omega
        · refine Nat.le_trans (show _ ≤ 200 from ?_) (by decide)
          rw [Str.length_append, Str.length_append]
          omega
        · rw [upd_same, if_pos h0]
          rfl
      · refine ifF (decide_eq_false (by omega)) ⟨by show 0 ≤ sizeLine; decide, fun p np => ⟨p, rfl, same_upd np, np, ?_⟩⟩
        rw [upd_same, if_neg h0]
        rfl
    rintro σ' U ⟨l, rfl, sU, nlH, hl⟩
    refine ⟨_, rfl, .inl ⟨rfl, _, SqL.of hl⟩, _, rfl, x, dx, _, rfl, sU _ _ hx, by with_unfolding_all rfl, Z, x, rs, ms, ru, roof, rfl, go.same sU, gf.so.le, gf.m8, gf.rl, fun H2 ls es s2 nls hls hes => ⟨ls, rfl, ⟨_, SqL.of hls⟩, fun D nD => ?_⟩⟩
    have les := dpAll_len hes
    rw [List.length_map] at les
    refine lc_it (walk_list (xs := es)) (fun i Y => Same H2 Y ∧ Y D = some (.lst (((rs.take i).map sortS).map V.str))) ⟨same_upd nD, upd_same⟩ (fun i Y _ h => SqL.of (h.1 _ _ hls)) ?_ ?_
    · rintro i e Y0 Y hi ⟨sY, hD⟩ ⟨rfl, he⟩
      obtain ⟨o, ho, hod⟩ := row_of hes he
      have hom := List.mem_of_getElem? ho
      have tk : rs.take (i + 1) = rs.take i ++ [o] := by rw [List.take_add_one, ho]; rfl
      have hi3 : i < rs.length := (List.getElem?_eq_some_iff.mp ho).1
      have ok := gf.so.ok o hom
      refine ⟨rfl, yesT ⟨_, rfl, e, o, rfl, dp_same sY hod, ok, fun H3 s3 => ⟨_, s3 _ _ hD, small1000 (by simp; omega), Same.at_ (sY.trans s3) nD, ?_⟩⟩⟩
      rw [upd_same, tk, List.map_append, List.map_append]
      rfl
    rintro Y ⟨sY, hD⟩
    rw [les, List.take_length] at hD
    have nlD : l ≠ D := fun z => by
      rw [← z, s2 _ _ hl] at nD
      cases nD
    have sUY := sU.trans (s2.trans sY)
    have hlY := (s2.trans sY) _ _ hl
    refine ⟨l, D, _, _, rfl, rfl, hlY, hD, ?_, ?_⟩
    · refine Nat.le_trans (show _ ≤ 600 from ?_) (by decide)
      simp only [List.length_map, List.length_append] at *
      omega
    have hl2 : (upd Y l (.lst (((if 0 < roof then [capS roof] else [])).map V.str ++ (rs.map sortS).map V.str))) l = some (.lst (((if 0 < roof then [capS roof] else []) ++ rs.map sortS).map V.str)) := by
      rw [upd_same]
      simp only [List.map_append]
    have sU2 := Same.at_ (o := .lst (((if 0 < roof then [capS roof] else [])).map V.str ++ (rs.map sortS).map V.str)) sUY nlH
    generalize upd Y l (.lst (((if 0 < roof then [capS roof] else [])).map V.str ++ (rs.map sortS).map V.str)) = U1 at hl2 sU2 ⊢
    clear hl sU hD hlY sUY nlD sY nD hes les hls nls s2
    have hl := hl2
    have sU := sU2
    clear hl2 sU2
    refine ⟨_, rfl, .inl ⟨rfl, _, SqL.of hl⟩, _, rfl, x, dx, _, rfl, sU _ _ hx, by with_unfolding_all rfl, Z, x, rs, ms, ru, roof, rfl, go.same sU, gf.so.le, gf.m8, gf.rl, fun H2 ls es s2 nls hls hes => ⟨ls, rfl, ⟨_, SqL.of hls⟩, fun D nD => ?_⟩⟩
    have les := dpAll_len hes
    rw [List.length_map] at les
    refine lc_it (walk_list (xs := es)) (fun i Y => Same H2 Y ∧ Y D = some (.lst (((ms.take i).map makS).map V.str))) ⟨same_upd nD, upd_same⟩ (fun i Y _ h => SqL.of (h.1 _ _ hls)) ?_ ?_
    · rintro i e Y0 Y hi ⟨sY, hD⟩ ⟨rfl, he⟩
      obtain ⟨o, ho, hod⟩ := row_of hes he
      have hom := List.mem_of_getElem? ho
      have tk : ms.take (i + 1) = ms.take i ++ [o] := by rw [List.take_add_one, ho]; rfl
      have hi3 : i < ms.length := (List.getElem?_eq_some_iff.mp ho).1
      have ok := gf.ok o hom
      have okp : ∀ k ∈ o.places, NmOk k := fun k hk => by
        obtain ⟨r', hr', e'⟩ := ok.so k hk
        rw [← e']
        exact (gf.so.ok r' hr').nm
      refine ⟨rfl, yesT ⟨_, rfl, e, o, rfl, dp_same sY hod, ok.nm, okp, ok.p2, fun H3 s3 => ⟨_, s3 _ _ hD, small1000 (by simp; omega), Same.at_ (sY.trans s3) nD, ?_⟩⟩⟩
      rw [upd_same, tk, List.map_append, List.map_append]
      rfl
    rintro Y ⟨sY, hD⟩
    rw [les, List.take_length] at hD
    have nlD : l ≠ D := fun z => by
      rw [← z, s2 _ _ hl] at nD
      cases nD
    have sUY := sU.trans (s2.trans sY)
    have hlY := (s2.trans sY) _ _ hl
    refine ⟨l, D, _, _, rfl, rfl, hlY, hD, ?_, ?_⟩
    · refine Nat.le_trans (show _ ≤ 600 from ?_) (by decide)
      simp only [List.length_map, List.length_append] at *
      omega
    have hl2 : (upd Y l (.lst (((if 0 < roof then [capS roof] else []) ++ rs.map sortS).map V.str ++ (ms.map makS).map V.str))) l = some (.lst (((if 0 < roof then [capS roof] else []) ++ rs.map sortS ++ ms.map makS).map V.str)) := by
      rw [upd_same]
      simp only [List.map_append]
    have sU2 := Same.at_ (o := .lst (((if 0 < roof then [capS roof] else []) ++ rs.map sortS).map V.str ++ (ms.map makS).map V.str)) sUY nlH
    generalize upd Y l (.lst (((if 0 < roof then [capS roof] else []) ++ rs.map sortS).map V.str ++ (ms.map makS).map V.str)) = U2 at hl2 sU2 ⊢
    clear hl sU hD hlY sUY nlD sY nD hes les hls nls s2
    have hl := hl2
    have sU := sU2
    clear hl2 sU2
    refine ⟨_, rfl, .inl ⟨rfl, _, SqL.of hl⟩, _, rfl, x, dx, _, rfl, sU _ _ hx, by with_unfolding_all rfl, Z, x, rs, ms, ru, roof, rfl, go.same sU, gf.so.le, gf.m8, gf.rl, fun H2 ls es s2 nls hls hes => ⟨ls, rfl, ⟨_, SqL.of hls⟩, fun D nD => ?_⟩⟩
    have les := dpAll_len hes
    rw [List.length_map] at les
    refine lc_it (walk_list (xs := es)) (fun i Y => Same H2 Y ∧ Y D = some (.lst (((ru.take i).map ruleS).map V.str))) ⟨same_upd nD, upd_same⟩ (fun i Y _ h => SqL.of (h.1 _ _ hls)) ?_ ?_
    · rintro i e Y0 Y hi ⟨sY, hD⟩ ⟨rfl, he⟩
      obtain ⟨o, ho, hod⟩ := row_of hes he
      have hom := List.mem_of_getElem? ho
      have tk : ru.take (i + 1) = ru.take i ++ [o] := by rw [List.take_add_one, ho]; rfl
      have hi3 : i < ru.length := (List.getElem?_eq_some_iff.mp ho).1
      obtain ⟨m', hm', e5, ht, hos⟩ := (gf.ra o hom).ex
      have okm := gf.ok m' hm'
      have hol : o.os.length ≤ 3 := by
        have h' := gf.ra o hom
        obtain ⟨o', _, h2, _⟩ := op_of h'.op
        rw [h'.ar, h2]
        exact op_n3 o'
      have hop : (SX.S o.op).length ≤ 100 := by
        rw [SX.S_len]
        exact op_short (gf.ra o hom).op
      refine ⟨rfl, yesT ⟨_, rfl, e, o, rfl, dp_same sY hod, (by rw [e5]; exact okm.nm), tg_ok gf.so okm.p2 ht, fun o1 h1 => od_ok gf.so okm.p2 (hos o1 h1), hol, hop, fun H3 s3 => ⟨_, s3 _ _ hD, small1000 (by simp; omega), Same.at_ (sY.trans s3) nD, ?_⟩⟩⟩
      rw [upd_same, tk, List.map_append, List.map_append]
      rfl
    rintro Y ⟨sY, hD⟩
    rw [les, List.take_length] at hD
    have nlD : l ≠ D := fun z => by
      rw [← z, s2 _ _ hl] at nD
      cases nD
    have sUY := sU.trans (s2.trans sY)
    have hlY := (s2.trans sY) _ _ hl
    refine ⟨l, D, _, _, rfl, rfl, hlY, hD, ?_, ?_⟩
    · refine Nat.le_trans (show _ ≤ 600 from ?_) (by decide)
      simp only [List.length_map, List.length_append] at *
      omega
    have hl2 : (upd Y l (.lst (((if 0 < roof then [capS roof] else []) ++ rs.map sortS ++ ms.map makS).map V.str ++ (ru.map ruleS).map V.str))) l = some (.lst (((if 0 < roof then [capS roof] else []) ++ rs.map sortS ++ ms.map makS ++ ru.map ruleS).map V.str)) := by
      rw [upd_same]
      simp only [List.map_append]
    have sU2 := Same.at_ (o := .lst (((if 0 < roof then [capS roof] else []) ++ rs.map sortS ++ ms.map makS).map V.str ++ (ru.map ruleS).map V.str)) sUY nlH
    generalize upd Y l (.lst (((if 0 < roof then [capS roof] else []) ++ rs.map sortS ++ ms.map makS).map V.str ++ (ru.map ruleS).map V.str)) = U3 at hl2 sU2 ⊢
    clear hl sU hD hlY sUY nlD sY nD hes les hls nls s2
    have hl := hl2
    have sU := sU2
    clear hl2 sU2
    refine ⟨_, rfl, q _ l sU nlH ?_⟩
    rw [hl]
    rfl
end
/-! ### str(e), e of a class with its own __str__ -/
theorem call_strOwn {X : Cx} {n : Nat} {CX : CXT} {C f : Addr} {fd : FuncData} {ps : List Str} {sp : Sp} {E : XK} (F : FnOk X.prog X.w X.K X.mg X.base CX n f fd ps sp)
    (hs : PySem.W.findIn X.K (.ref C) "__str__" = some (some (.ref f))) (hf : PySem.W.isFn X.K (.ref f) = true) (hb : Binds X.K fd ps []) (hx : Passes CX X E) (hr : Room (n + 2) X.A) :
    CallR X (.type "str") (fun xs H Q => ∃ (a dx : Addr) (fs : List (Str × V)), xs = [.ref a] ∧ H a = some (.ins C dx fs) ∧ sp [.ref a] H (fun v H' => ∃ z, v = .str z ∧ Q v H') E) := by
  intro pins s σ H xs us Q I r h
  obtain ⟨a, dx, fs, rfl, ha, hsp⟩ := h
  obtain ⟨u, rfl, rx⟩ := vals1 r
  obtain rfl : u = Value.ref a := rx
  obtain ⟨mA, J, _⟩ := ins_get I.hok ha
  obtain ⟨od, J, _⟩ := J.look
  have hr2 : Room n X.A.in1.in1 := hr.in1.in1
  refine PySem.W.kso_call hr2.units0 I.kIn J hs hf ?_
  have e0 : Env0 X.prog X.w X.K X.mg X.base X.A.in1.in1 X.stack s H := by
    have e := I.env0
    exact ⟨e.frames, e.mod, e.bs, e.bsz, e.funs, e.frf, e.hok, e.bare⟩
  have hl := F.len _ _ _ _ hsp
  have r2 : Vals [V.ref a] [Value.ref a] := .cons rfl .nil
  refine wpAny_call (codeAny_mono (F.run X.A.in1.in1 X.stack s H ⟨[.ref a], []⟩ [.ref a] [.ref a] _ E hr2 e0 (by
    have := hb s [.ref a] I.kIn (by simpa using hl)
    simpa using this) r2 hsp) fun r s' hq => ?_)
  cases r with
  | error e => exact hx pins σ H s e s' I hq
  | ok fl =>
    cases fl with
    | ret w =>
      obtain ⟨y, H', I', rz, z, ez, q⟩ := I.after hq
      subst ez
      obtain ⟨t, rfl⟩ : ∃ t, w = Value.str z t := rz
      exact ⟨.str z, H', I', ⟨t, rfl⟩, q⟩
    | next => exact False.elim hq
    | brk => exact False.elim hq
    | cont => exact False.elim hq
/-! ### str(grammar) -/
theorem join_le (sep : Str) : ∀ ts : List Str, (Str.join sep ts).length ≤ (ts.map (·.length)).sum + ts.length * sep.length
  | [] => Nat.zero_le _
  | [x] => by
    show x.length ≤ _
    simp
  | x :: z :: r => by
    have ih := join_le sep (z :: r)
    show (x ++ sep ++ Str.join sep (z :: r)).length ≤ _
    rw [Str.length_append, Str.length_append, List.map_cons, List.sum_cons, List.length_cons (a := x), Nat.add_mul, Nat.one_mul]
    omega
theorem words_le {ys : List Str} (h : ∀ y ∈ ys, y.length ≤ 200) (hl : ys.length ≤ 7) : (Txt.join " " ys).length ≤ 2000 := by
  have h1 := join_le (Str.ofString " ") ys
  have h2 := sum_len h
  have e : (Str.ofString " ").length = 1 := by decide +kernel
  rw [e] at h1
  show (Txt.join (Str.ofString " ") ys).length ≤ 2000
  rw [TL.join_eq]
  omega
abbrev s_GStr : Stmt := (inClass (top 47) 11)
theorem sc_GStr : FnScope N_GC N_GC (defScope s_GStr) := ⟨rfl, rfl, rfl, by decide +kernel, rfl, by decide +kernel, by decide +kernel⟩
def gramS (rs : List SRow) (ms : List MRow) (ru : List RRow) (roof : Nat) : Str := Txt.join "\n" (rowsS rs ms ru roof)
def spGStr (K : PySem.W.Frag) (P : Program) (w : World) (G : Addr) : Sp := fun vs H Q _ => ∃ (Z : Hp) (x : Addr) (rs : List SRow) (ms : List MRow) (ru : List RRow) (roof : Nat), vs = [.ref x] ∧ GrOk K P w G Z H x rs ms ru roof ∧ GFit rs ms ru roof ∧ ∀ H', Same H H' → Q (.str (gramS rs ms ru roof)) H'
theorem rows_le {rs : List SRow} {ms : List MRow} {ru : List RRow} {roof : Nat} (gf : GFit rs ms ru roof) : (∀ y ∈ rowsS rs ms ru roof, y.length ≤ 2000) ∧ (rowsS rs ms ru roof).length ≤ 300 := by
  have h4 := gf.so.le
  have h8 := gf.m8
  have h240 := gf.rl
  have hr9 := gf.rf
  have nl : ∀ {w : List Nat}, NmOk w → (SX.S w).length ≤ 200 := fun h => Nat.le_trans (nm_len h) (by decide)
  refine ⟨fun y hy => ?_, ?_⟩
  · unfold rowsS at hy
    simp only [List.mem_append, List.mem_map] at hy
    rcases hy with ((hy | ⟨r, hr, rfl⟩) | ⟨m, hm, rfl⟩) | ⟨r, hr, rfl⟩
    · split at hy
      · obtain rfl := List.mem_singleton.mp hy
        show (Str.empty ++ Str.ofString "cap " ++ Str.ofString (toString ((roof : Nat) : Int))).length ≤ 2000
        rw [Str.length_append, Str.length_append, SX.num_S]
        have ep : (SX.S (TL.numL roof)).length = (TL.numL roof).length := SX.S_len _
        have := TL.numL_len (n := roof) (k := 6) (by decide) (by omega)
        have e1 : (Str.ofString "cap ").length = 4 := by decide +kernel
        have e0 : Str.empty.length = 0 := rfl
        omega
      · cases hy
    · have ok := gf.so.ok r hr
      have hd2 := ok.d2
      have hu2 := ok.u2
      refine words_le (fun y hy => ?_) (by simp; omega)
      simp only [List.mem_append, List.mem_cons, List.not_mem_nil, or_false, List.mem_map] at hy
      rcases hy with ((hy | ⟨w, hw, rfl⟩) | hy) | ⟨w, hw, rfl⟩
      · rcases hy with rfl | rfl
        · decide +kernel
        · exact nl ok.nm
      · exact nl (ok.all w (List.mem_append_left _ hw))
      · rw [hy]
        decide +kernel
      · exact nl (ok.all w (List.mem_append_right _ hw))
    · have ok := gf.ok m hm
      have hp2 := ok.p2
      have okp : ∀ k ∈ m.places, NmOk k := fun k hk => by
        obtain ⟨r', hr', e'⟩ := ok.so k hk
        rw [← e']
        exact (gf.so.ok r' hr').nm
      refine words_le (fun y hy => ?_) (by simp; omega)
      simp only [List.mem_append, List.mem_cons, List.not_mem_nil, or_false, List.mem_map] at hy
      rcases hy with (rfl | rfl | rfl) | ⟨w, hw, rfl⟩
      · decide +kernel
      · exact nl ok.nm
      · exact nl (okp _ (List.mem_cons_self ..))
      · exact nl (okp w (List.mem_cons_of_mem _ hw))
    · obtain ⟨m', hm', e5, ht, hos⟩ := (gf.ra r hr).ex
      have okm := gf.ok m' hm'
      have hol : r.os.length ≤ 3 := by
        have h' := gf.ra r hr
        obtain ⟨o', _, h2, _⟩ := op_of h'.op
        rw [h'.ar, h2]
        exact op_n3 o'
      refine words_le (fun y hy => ?_) (by simp; omega)
      simp only [List.mem_append, List.mem_cons, List.not_mem_nil, or_false, List.mem_map] at hy
      rcases hy with (rfl | rfl | rfl | rfl) | ⟨o, ho, rfl⟩
      · decide +kernel
      · exact nl (by rw [e5]; exact okm.nm)
      · exact term_len (tg_ok gf.so okm.p2 ht)
      · rw [SX.S_len]
        exact Nat.le_trans (op_short (gf.ra r hr).op) (by decide)
      · exact term_len (od_ok gf.so okm.p2 (hos o ho))
  · unfold rowsS
    have hcl : (if 0 < roof then [capS roof] else []).length ≤ 1 := by
      split
      · exact Nat.le_refl 1
      · exact Nat.zero_le 1
    simp only [List.length_append, List.length_map]
    omega
theorem sum_len2 : ∀ {ys : List Str}, (∀ y ∈ ys, y.length ≤ 2000) → (ys.map (·.length)).sum ≤ 2000 * ys.length
  | [], _ => Nat.le_refl _
  | y :: ys, h => by
    have h1 := h y (List.mem_cons_self ..)
    have h2 := sum_len2 fun z hz => h z (List.mem_cons_of_mem _ hz)
    rw [List.map_cons, List.sum_cons, List.length_cons]
    omega
section
variable {P : Program} {w : World} {K : PySem.W.Frag} {mg : Str → Option Value} {base : Heap} {G : Addr}
theorem ok_gstr {f : Addr} {fd : FuncData} (ctext_rows : C8.Cal P w K mg base 3 "text_rows" (spTextRows K P w G) []) (F : L2.Fun K "__str__" "Grammar.__str__" s_GStr f fd) : FnOk P w K mg base CX0 4 f fd N_GC (spGStr K P w G) := by
  refine F.ok sc_GStr (fun vs H Q E h => ?_) (fun cdv A outer s H vs Q E hr h => ?_)
  · obtain ⟨Z, x, rs, ms, ru, roof, rfl, _⟩ := h
    rfl
  · obtain ⟨Z, x, rs, ms, ru, roof, rfl, go, gf, q⟩ := h
    refine ⟨_, pss_one (ps_ret (pe_bm PySem.F.plainAttrs_str PySem.F.slot_str_join PySem.F.type_str_join mt_join pe_str (pa_cons (C8.pe_c ctext_rows hr (by decide) (by rfl) (pa_cons (pv 0) pa_nil)) pa_nil))), ?_⟩
    refine ⟨rfl, _, rfl, Z, x, rs, ms, ru, roof, rfl, go, gf, fun H' l s' nl hl => ?_⟩
    obtain ⟨h1, h2⟩ := rows_le gf
    refine ⟨_, l, _, rfl, rfl, .inl (SqL.of hl), ?_, q H' s'⟩
    have h3 := sum_len2 h1
    have e : (Str.ofString "\n").length = 1 := by decide +kernel
    rw [e]
    omega
end
/-! ### d.get(k), a method's call -/
def tGetN (P : Program) (w : World) (r : V → List V → Hp → VK → Prop) (to : TE) (t : TA) : TE := fun σ H Q => to σ H fun x H1 => (∃ a kvs, x = .ref a ∧ DnA P w H1 a kvs) ∧ t σ H1 fun xs H2 => r x xs H2 Q
theorem pe_getN {X : Cx} {o e : Expr} {es : List Expr} {to : TE} {t : TA} {apos cpos : Pos} {r : V → List V → Hp → VK → Prop} (hm : MtR X "dict.get" r) (ho : PE X o to) (ha : PA X (e :: es) t)
    (hbase : attributeBase o "get" X.env (eval o X.env) = eval o X.env := by rfl)
    (hfew : ((backTo cpos (starEach (e :: es) X.env)).all (fun x => !x.1) && (backToKw cpos (keywordEach [] X.env)).all (fun x => x.1.isSome)
      && decide ((e :: es).length + ([] : List Keyword).length + (if ([] : List Keyword).isEmpty then 0 else 1) < 30)) = true := by rfl)
    (hline : (apos.endLine == cpos.line) = true := by rfl) (hs : starEach (e :: es) X.env = (false, eval e X.env) :: starEach es X.env := by rfl) (hplain : (backTo cpos (starEach es X.env)).any (·.1) = false := by rfl) :
    PE X (.Call (.Attribute o "get" apos) (e :: es) [] cpos) (tGetN X.prog X.w r to t) := by
  refine ⟨fun pins s σ H Q I h => ?_⟩
  refine wpAny_Call_method_late hbase hfew hline rfl (thn (ho.run pins s σ H _ I h) fun v s1 ⟨x, H1, I1, r1, ⟨a, kvs, ex, hd⟩, q1⟩ => ?_)
  have ra := r1
  subst ex
  obtain rfl : v = Value.ref a := ra
  obtain ⟨z1, z2, xs, o', es', ep, _, h1, h2, h3, h4, h5⟩ := dn_raw I1 hd
  have raw : DT.Raw s1.heap a es' ep := ⟨o', h1, h2, h3⟩
  refine ⟨"dict", "dict.get", PySem.F.plainAttrs_dict, PySem.F.slot_dict_get, PySem.F.type_dict_get, raw.typeIs, fun b eb => ?_, ?_⟩
  · cases eb
    exact ⟨o', h1, h2.2.1⟩
  have hA := ha.run cpos pins s1 σ H1 _ I1 q1
  rw [hs] at hA ⊢
  refine Calls.callWith_builtin (by show (false || (backTo cpos (starEach es X.env)).any (·.1)) = false; rw [hplain] <;> rfl) (Calls.evalArgs_plain ?_)
  exact thn hA fun us s2 ⟨vs, H2, I2, r2, q2⟩ => hm pins s2 σ H2 _ vs _ us Q I2 r1 r2 q2
/-! ### dicts keyed by tuples, more: stored over, get with a default, setdefault, not in -/
def putNE (k : NestedKey) (v : V) (p : NE) : NE := if p.1 = k then (p.1, p.2.1, v) else p
/-- stored: at its place, or at the end -/
def stN (kvs : List NE) (k : NestedKey) (b : Addr) (v : V) : List NE := if (valN kvs k).isSome = true then kvs.map (putNE k v) else kvs ++ [(k, b, v)]
theorem KN.snoc {kvs : List NE} {xs : List (NestedKey × Addr × Value)} (r : KN kvs xs) {k : NestedKey} {b : Addr} {v : V} {u : Value} (rv : RelV v u) : KN (kvs ++ [(k, b, v)]) (xs ++ [(k, b, u)]) := by
  induction r with
  | nil => exact .cons ⟨rfl, rfl, rv⟩ .nil
  | cons h t ih => exact .cons h ih
theorem KN.put {kvs : List NE} {xs : List (NestedKey × Addr × Value)} (r : KN kvs xs) {k : NestedKey} {v : V} {u : Value} (rv : RelV v u) : KN (kvs.map (putNE k v)) (xs.map (putAt k u)) := by
  induction r with
  | nil => exact .nil
  | @cons p q ps qs h t ih =>
    refine .cons ?_ ih
    obtain ⟨h1, h2, h3⟩ := h
    unfold putNE putAt
    by_cases e : p.1 = k
    · rw [if_pos e, if_pos (by rw [← h1]; exact e)]
      exact ⟨h1, h2, rv⟩
    · rw [if_neg e, if_neg (by rw [← h1]; exact e)]
      exact ⟨h1, h2, h3⟩
theorem KN.st {kvs : List NE} {xs : List (NestedKey × Addr × Value)} (r : KN kvs xs) {k : NestedKey} {b : Addr} {v : V} {u : Value} (rv : RelV v u) : KN (stN kvs k b v) (storedH xs k b u) := by
  unfold stN
  rcases r.val k with ⟨e1, e2⟩ | ⟨v', p, e1, e2, _⟩
  · rw [e1, storedH_new e2]
    exact r.snoc rv
  · rw [e1, storedH_old e2]
    exact r.put rv
theorem stN_len (kvs : List NE) (k : NestedKey) (b : Addr) (v : V) : (stN kvs k b v).length ≤ kvs.length + 1 := by
  unfold stN
  split
  · rw [List.length_map]
    omega
  · rw [List.length_append]
    exact Nat.le_refl _
theorem valN_put {k j : NestedKey} {v : V} : ∀ {kvs : List NE}, valN (kvs.map (putNE k v)) j = if j = k then (valN kvs k).map fun _ => v else valN kvs j
  | [] => by
    show none = if j = k then none else none
    split <;> rfl
  | p :: r => by
    show (if (putNE k v p).1 = j then some (putNE k v p).2.2 else valN (r.map (putNE k v)) j) = _
    rw [valN_put (kvs := r)]
    unfold putNE
    by_cases e : p.1 = k
    · rw [if_pos e]
      by_cases ej : p.1 = j
      · have ejk : j = k := ej.symm.trans e
        rw [if_pos ej, if_pos ejk]
        show some v = (if p.1 = k then some p.2.2 else _).map _
        rw [if_pos e]
        rfl
      · have ejk : ¬ j = k := fun z => ej (by rw [e, z])
        rw [if_neg ej, if_neg ejk, if_neg ejk]
        exact (if_neg ej).symm
    · rw [if_neg e]
      by_cases ej : p.1 = j
      · have ejk : ¬ j = k := fun z => e (by rw [ej, z])
        rw [if_pos ej, if_neg ejk]
        exact (if_pos ej).symm
      · rw [if_neg ej]
        by_cases ejk : j = k
        · rw [if_pos ejk, if_pos ejk]
          show _ = (if p.1 = k then some p.2.2 else _).map _
          rw [if_neg e]
        · rw [if_neg ejk, if_neg ejk]
          exact (if_neg ej).symm
theorem valN_st {kvs : List NE} {k j : NestedKey} {b : Addr} {v : V} : valN (stN kvs k b v) j = if j = k then some v else valN kvs j := by
  unfold stN
  cases e : valN kvs k with
  | some u =>
    show valN (if true = true then _ else _) j = _
    rw [if_pos rfl, valN_put, e]
    rfl
  | none =>
    show valN (if false = true then _ else kvs ++ [(k, b, v)]) j = _
    rw [if_neg (by decide), valN_app]
    by_cases ej : j = k
    · rw [if_pos ej, ej, e]
      show (if k = k then some v else none) = some v
      rw [if_pos rfl]
    · rw [if_neg ej]
      cases e2 : valN kvs j with
      | some u => rfl
      | none =>
        show (if k = j then some v else none) = none
        rw [if_neg (fun z => ej z.symm)]
theorem stN_keys {kvs : List NE} {k : NestedKey} {b : Addr} {v : V} : ∀ p ∈ stN kvs k b v, (∃ q ∈ kvs, p.1 = q.1 ∧ p.2.1 = q.2.1 ∧ (p.2.2 = q.2.2 ∨ (p.1 = k ∧ p.2.2 = v))) ∨ p = (k, b, v) := by
  intro p hp
  unfold stN at hp
  split at hp
  · obtain ⟨q, hq, rfl⟩ := List.mem_map.mp hp
    refine .inl ⟨q, hq, ?_⟩
    unfold putNE
    split
    · rename_i e
      exact ⟨rfl, rfl, .inr ⟨e, rfl⟩⟩
    · exact ⟨rfl, rfl, .inl rfl⟩
  · rcases List.mem_append.mp hp with hp | hp
    · exact .inl ⟨p, hp, rfl, rfl, .inl rfl⟩
    · exact .inr (List.mem_singleton.mp hp)
theorem KeysN.st {K : PySem.W.Frag} {H : Hp} {kvs : List NE} (h : KeysN K H kvs) {b : Addr} {d : PyData} {v : V} (hk : KeyN K H (.ref b) b d) : KeysN K H (stN kvs (keyD d) b v) := fun p hp => by
  rcases stN_keys p hp with ⟨q, hq, e1, e2, _⟩ | rfl
  · obtain ⟨d', h1, h2, h3, h4⟩ := h q hq
    rw [e1, e2]
    exact ⟨d', h1, h2, h3, h4⟩
  · exact ⟨d, rfl, hk.2.1, hk.2.2.1, hk.2.2.2⟩
section
variable {X : Cx}
theorem dn_write {pins : List (Addr × Obj)} {σ : L2.St} {H : Hp} {s : Shared} {a b : Addr} {kvs : List NE} {k : NestedKey} {v : V} {u : Value} {h' : Heap} {tk : Tok} (I : Inv X pins σ H s) (hd : H a = some (dnO X.prog X.w a kvs)) (hl : kvs.length < 10000) (z : (a == sysModules) = false) {xs : List (NestedKey × Addr × Value)} (r : KN kvs xs) (rv : RelV v u)
    (hm : h'.DictOfH (nestedKind X.prog X.w) a (storedH xs k b u)) (hs : Heap.SameBut a s.heap h') : Inv X pins σ (upd H a (dnO X.prog X.w a (stN kvs k b v))) { s with heap := h', toks := tk } := by
  obtain ⟨o, es, ep, g1, g2, g3, g4, _, g6⟩ := hm
  refine d_write I (by rw [hd]; trivial) hs ⟨o, g1⟩ (dnO_ok ⟨?_, z, _, o, es, ep, r.st rv, g1, g2, g3, g4, g6⟩)
  exact Nat.le_trans (stN_len ..) (Nat.le_trans (show kvs.length + 1 ≤ 10000 from hl) (by decide))
/-- d[k] = v -/
def rSetN2 (K : PySem.W.Frag) (P : Program) (w : World) : TSet := fun x y v H Q => ∃ (a b : Addr) (kvs : List NE) (d : PyData), x = .ref a ∧ H a = some (dnO P w a kvs) ∧ KeysN K H kvs ∧ KeyN K H y b d ∧ kvs.length < 10000 ∧ Q (upd H a (dnO P w a (stN kvs (keyD d) b v)))
theorem set_dn2 (hu : X.A.units + 9 < cLine) : PSet X (rSetN2 X.K X.prog X.w) := by
  intro pins s σ H x y v xv yv u Q I rx ry rv h
  obtain ⟨a, b, kvs, d, rfl, hd, hk, ⟨rfl, h1, h2, h3⟩, hl, q⟩ := h
  obtain rfl : xv = Value.ref a := rx
  obtain rfl : yv = Value.ref b := ry
  obtain ⟨z0, z, xs, r, dd⟩ := dn_of I (.inl hd) hk
  refine wpAny_setItem_heap (knd := nestedKind X.prog X.w) (k := keyD d) (hsz := by rw [← r.len]; exact z0) (by show X.A.units + 1 + 8 < cLine; omega) ⟨nst I h1 h2 rfl, h3⟩ dd fun h' hm hs => ?_
  exact ⟨_, dn_write I hd hl z r rv hm hs, q⟩
/-- not in -/
def rNotInN (K : PySem.W.Frag) (P : Program) (w : World) : R2 := fun y x H Q => ∃ (a b : Addr) (kvs : List NE) (d : PyData), x = .ref a ∧ DnA P w H a kvs ∧ KeysN K H kvs ∧ KeyN K H y b d ∧ Q (.bl (!(valN kvs (keyD d)).isSome)) H
theorem op_notInN (hu : X.A.units + 9 < cLine) : OpR X (compareOp .NotIn) (rNotInN X.K X.prog X.w) := by
  intro pins s σ H y x v u Q I ry rx h
  obtain ⟨a, b, kvs, d, rfl, hd, hk, ⟨rfl, h1, h2, h3⟩, q⟩ := h
  obtain rfl : v = Value.ref b := ry
  obtain rfl : u = Value.ref a := rx
  obtain ⟨_, z, xs, r, dd⟩ := dn_of I hd hk
  refine PyProof.Rows.wpAny_notIn_heap (knd := nestedKind X.prog X.w) (k := keyD d) (by show X.A.in1.units + 8 < cLine; show X.A.units + 1 + 8 < cLine; omega) ⟨nst I h1 h2 rfl, h3⟩ z dd ⟨.bl _, H, I.tok _, ?_, q⟩
  rcases r.val (keyD d) with ⟨e1, e2⟩ | ⟨v, p, e1, e2, _⟩
  · rw [e1, e2]
    rfl
  · rw [e1, e2]
    rfl
/-- d.get(k, z) -/
theorem mt_getN2 (hu : X.A.units + 9 < cLine) : MtR X "dict.get" (fun x xs H Q => ∃ (a b : Addr) (kvs : List NE) (d : PyData) (y z : V), x = .ref a ∧ xs = [y, z] ∧ DnA X.prog X.w H a kvs ∧ KeysN X.K H kvs ∧ KeyN X.K H y b d ∧ Q ((valN kvs (keyD d)).getD z) H) := by
  intro pn s σ H x xs v us Q I ex1 rxs h
  obtain ⟨a, b, kvs, d, y, z, rfl, rfl, hd, hk, ⟨rfl, h1, h2, h3⟩, q⟩ := h
  obtain rfl : v = Value.ref a := ex1
  obtain ⟨u, u2, rfl, ry, rz⟩ := vals2 rxs
  obtain rfl : u = Value.ref b := ry
  obtain ⟨_, z', ys, r, dd⟩ := dn_of I hd hk
  refine call_meetsIn PySem.F.slot_dict_get dd.typeIs PySem.F.entry_dict_get (PySem.F.args_dict_get_3 _ _ _) (meetsH_dict_get_default (nestedKind X.prog X.w) a b z' u2) ⟨by show X.A.units + 1 + 8 < cLine; omega, keyD d, ys, ⟨nst I h1 h2 rfl, h3⟩, dd, ?_⟩
  rcases r.val (keyD d) with ⟨e1, e2⟩ | ⟨v', p, e1, e2, rv⟩
  · rw [e1] at q
    rw [e2]
    exact ⟨z, H, I.tok _, rz, q⟩
  · rw [e1] at q
    rw [e2]
    exact ⟨v', H, I.tok _, rv, q⟩
/-- d.setdefault(k, z) -/
def rSetdN (K : PySem.W.Frag) (P : Program) (w : World) : V → List V → Hp → VK → Prop := fun x xs H Q => ∃ (a b : Addr) (kvs : List NE) (d : PyData) (y z : V), x = .ref a ∧ xs = [y, z] ∧ H a = some (dnO P w a kvs) ∧ KeysN K H kvs ∧ KeyN K H y b d ∧ kvs.length < 10000 ∧
    (∀ v, valN kvs (keyD d) = some v → Q v H) ∧ (valN kvs (keyD d) = none → Q z (upd H a (dnO P w a (stN kvs (keyD d) b z))))
theorem mt_setdN (hu : X.A.units + 9 < cLine) : MtR X "dict.setdefault" (rSetdN X.K X.prog X.w) := by
  intro pn s σ H x xs v us Q I ex1 rxs h
  obtain ⟨a, b, kvs, d, y, z, rfl, rfl, hd, hk, ⟨rfl, h1, h2, h3⟩, hl, q1, q2⟩ := h
  obtain rfl : v = Value.ref a := ex1
  obtain ⟨u, u2, rfl, ry, rz⟩ := vals2 rxs
  obtain rfl : u = Value.ref b := ry
  obtain ⟨z0, z', ys, r, dd⟩ := dn_of I (.inl hd) hk
  refine call_setdefault_heap (knd := nestedKind X.prog X.w) (k := keyD d) (by show X.A.units + 1 + 8 < cLine; omega) ⟨nst I h1 h2 rfl, h3⟩ z' dd (fun p hp => ?_) (fun hn h' hm hs => ?_) (by rw [← r.len]; exact z0)
  · rcases r.val (keyD d) with ⟨e1, e2⟩ | ⟨v', p', e1, e2, rv⟩
    · rw [e2] at hp
      cases hp
    · rw [e2] at hp
      cases hp
      exact ⟨v', H, I.tok _, rv, q1 v' e1⟩
  · rcases r.val (keyD d) with ⟨e1, e2⟩ | ⟨v', p', e1, e2, rv⟩
    · exact ⟨z, _, dn_write I hd hl z' r rz hm hs, rz, q2 e1⟩
    · rw [e2] at hn
      cases hn
end
/-! d.m(e, ..) of such a dict, by the method's name -/
def tDmN (P : Program) (w : World) (r : V → List V → Hp → VK → Prop) (to : TE) (t : TA) : TE := fun σ H Q => to σ H fun x H1 => (∃ a kvs, x = .ref a ∧ DnA P w H1 a kvs) ∧ t σ H1 fun xs H2 => r x xs H2 Q
theorem pe_setdN {X : Cx} {o e : Expr} {es : List Expr} {to : TE} {t : TA} {apos cpos : Pos} {r : V → List V → Hp → VK → Prop} (hm : MtR X "dict.setdefault" r) (ho : PE X o to) (ha : PA X (e :: es) t)
    (hbase : attributeBase o "setdefault" X.env (eval o X.env) = eval o X.env := by rfl)
    (hfew : ((backTo cpos (starEach (e :: es) X.env)).all (fun x => !x.1) && (backToKw cpos (keywordEach [] X.env)).all (fun x => x.1.isSome)
      && decide ((e :: es).length + ([] : List Keyword).length + (if ([] : List Keyword).isEmpty then 0 else 1) < 30)) = true := by rfl)
    (hline : (apos.endLine == cpos.line) = true := by rfl) (hs : starEach (e :: es) X.env = (false, eval e X.env) :: starEach es X.env := by rfl) (hplain : (backTo cpos (starEach es X.env)).any (·.1) = false := by rfl) :
    PE X (.Call (.Attribute o "setdefault" apos) (e :: es) [] cpos) (tDmN X.prog X.w r to t) := by
  refine ⟨fun pins s σ H Q I h => ?_⟩
  refine wpAny_Call_method_late hbase hfew hline rfl (thn (ho.run pins s σ H _ I h) fun v s1 ⟨x, H1, I1, r1, ⟨a, kvs, ex, hd⟩, q1⟩ => ?_)
  have ra := r1
  subst ex
  obtain rfl : v = Value.ref a := ra
  obtain ⟨z1, z2, xs, o', es', ep, _, h1, h2, h3, h4, h5⟩ := dn_raw I1 hd
  have raw : DT.Raw s1.heap a es' ep := ⟨o', h1, h2, h3⟩
  refine ⟨"dict", "dict.setdefault", PySem.F.plainAttrs_dict, PySem.F.slot_dict_setdefault, PySem.F.type_dict_setdefault, raw.typeIs, fun b eb => ?_, ?_⟩
  · cases eb
    exact ⟨o', h1, h2.2.1⟩
  have hA := ha.run cpos pins s1 σ H1 _ I1 q1
  rw [hs] at hA ⊢
  refine Calls.callWith_builtin (by show (false || (backTo cpos (starEach es X.env)).any (·.1)) = false; rw [hplain] <;> rfl) (Calls.evalArgs_plain ?_)
  exact thn hA fun us s2 ⟨vs, H2, I2, r2, q2⟩ => hm pins s2 σ H2 _ vs _ us Q I2 r1 r2 q2
/-! ### a dict comprehension, its keys of any kind: O is the new dict's word, S how a pair is stored -/
def tDcG (O : Addr → HO) (S : Hp → Addr → V → V → HO → Prop) (wi : TI) (g : TG) (tt : TT) (tk tv : TE) (vs : List Nat) : TE := fun σ H Q => wi σ H fun J H1 => ∀ D, H1 D = none → ∃ W : Nat → Nat → Hp → Prop, (∃ m, W 0 m (upd H1 D (O D))) ∧ ∀ i m H, W i m H →
  (J.stop i H ∧ Q (.ref D) H) ∨ (J.go i H ∧ ∃ Nx : Hp → Prop, (∀ H', Nx H' → ∃ m', m' < m ∧ W (i + 1) m' H') ∧ ∀ x H', J.yld i H x H' → g x (wipe σ vs) H' fun σ2 H2 => wipe σ2 vs = wipe σ vs ∧ tt σ2 H2 fun b H3 =>
    if b = true then tk σ2 H3 fun y H4 => tv σ2 H4 fun z H5 => ∃ o, S H5 D y z o ∧ Nx (upd H5 D o) else Nx H3)
/-- the empty one -/
def NewOk (X : Cx) (O : Addr → HO) : Prop := ∀ (pins : List (Addr × Obj)) (σ : L2.St) (H : Hp) (s : Shared), Inv X pins σ H s → Inv X pins σ (upd H s.heap.objs.size (O s.heap.objs.size)) { s with heap := s.heap.push { cls := .type "dict", data := .dict #[] } }
/-- a pair more, in any block of the same def -/
def StoreOk (X : Cx) (S : Hp → Addr → V → V → HO → Prop) : Prop := ∀ (Y : Cx), Y.prog = X.prog → Y.w = X.w → Y.K = X.K → Y.A = X.A → ∀ (pins : List (Addr × Obj)) (σ : L2.St) (H : Hp) (s : Shared) (E : Value → Shared → Prop) (Q : Unit → Shared → Prop) (D : Addr) (y z : V) (o : HO) (u r : Value), Inv Y pins σ H s → S H D y z o → RelV y u → RelV z r →
  (∀ s', Inv Y pins σ (upd H D o) s' → Q () s') → wpAny (model X.prog X.w) X.A (dictSet D u r) Q E s
section
variable {X : Cx}
theorem dcG_core {pins : List (Addr × Obj)} {s : Shared} {σ : L2.St} {H : Hp} {Q : VK} {use : Option (Value → Sem Unit)} {Qf : Value → Shared → Prop} {O : Addr → HO} {S : Hp → Addr → V → V → HO → Prop} (hO : NewOk X O) (hS : StoreOk X S) {kx vx tg iter : Expr} {ifs : List Expr} {scope : Scope} {own : List (Str × Nat)} {pos pos' : Pos} {wi : TI} {g : TG} {tt : TT} {tk tv : TE} (hc : X.calm = true) (hN : X.N.Nodup) (I : Inv X pins σ H s) (hi : PI X tg iter wi) (ok : BlkOk X.N X.env.scope scope own)
    (hg : ∀ (s : Shared) (H : Hp) (C : Addr) (cl : List (Str × Addr)) (fp : List Addr), PG (X.blk s H scope (compEnvC scope cl C X.env) fp) tg g) (ht : ∀ (s : Shared) (H : Hp) (C : Addr) (cl : List (Str × Addr)) (fp : List Addr), PTs (X.blk s H scope (compEnvC scope cl C X.env) fp) ifs tt)
    (hk : ∀ (s : Shared) (H : Hp) (C : Addr) (cl : List (Str × Addr)) (fp : List Addr), PE (X.blk s H scope (compEnvC scope cl C X.env) fp) kx tk)
    (he : ∀ (s : Shared) (H : Hp) (C : Addr) (cl : List (Str × Addr)) (fp : List Addr), PE (X.blk s H scope (compEnvC scope cl C X.env) fp) vx tv) (hs : ∀ x, foldedSetIterable iter X.env x = pure x)
    (h : tDcG O S wi g tt tk tv (own.map (·.2)) σ H Q)
    (hRR : ∀ D C s' m H', Inv X pins σ H' s' → Q (.ref D) H' → s'.heap.Ns C m → FpOk X pins H' C → compPost (model X.prog X.w) X.A X.xe use Qf (.ref D) C (.ok .next) s') :
    wpAny (model X.prog X.w) X.A (comprehension (.DictComp kx vx [⟨tg, iter, ifs, 0⟩] scope pos) scope X.env pos' newDict false (eval iter X.env) use) Qf X.xe s := by
  have free : ∀ y ∈ scope.names, y.2 = .free → ∃ c, X.env.cells.lookup y.1 = some c := fun y hy e => (ok.free y hy e).elim (fun k => I.ok.has _ (.inl k)) fun k => I.ok.has _ (.inr k)
  refine wpAny_comprehension_free (use := use) rfl hs (closure_ok free) ok.kind (fun y hy e => by rw [ok.uniq y hy, e]) (thn (hi.run pins s σ H _ I h) fun _ s1 hx => thn hx fun _ s2 h2 => ?_)
  obtain ⟨it, fp, tn, J, H2, e, I2, T, st2, f2, q⟩ := h2
  subst e
  refine wpAny_newObj_type (newEnv_comp ?_)
  have I3 := hO pins σ H2 s2 I2
  have lt2 : ∀ b ∈ fp, b < s2.heap.objs.size := fun b hb => by
    obtain ⟨o, e, _⟩ := T.obj _ _ st2 b hb
    exact Heap.lt_size e
  have nD : H2 s2.heap.objs.size = none := I2.hok.fresh (Nat.le_refl _)
  generalize hD : s2.heap.objs.size = D at nD I3 lt2
  obtain ⟨W, ⟨m0, w0⟩, turn⟩ := q D nD
  generalize hs3 : ({ s2 with heap := s2.heap.push { cls := .type "dict", data := .dict #[] } } : Shared) = s3 at I3
  have h3 : s3.heap = s2.heap.push { cls := .type "dict", data := .dict #[] } := by rw [← hs3]
  have sz3 : s3.heap.objs.size = D + 1 := by rw [h3, Heap.size_push, hD]
  have keep2 : ∀ (b : Addr) (o : Obj), s2.heap.get? b = some o → s3.heap.get? b = some o := fun b o e => by
    rw [h3]
    exact Heap.get?_push_of_some _ e
  have f3 : ∀ b ∈ fp, FpOk X pins (upd H2 D (O D)) b ∧ b < s3.heap.objs.size := fun b hb => ⟨⟨by rw [upd_ne (Nat.ne_of_lt (lt2 b hb))]; exact (f2 b hb).1, (f2 b hb).2⟩, by rw [sz3]; exact Nat.lt_succ_of_lt (lt2 b hb)⟩
  have st3 : tn 0 s3.heap := T.keep _ _ _ st2 fun b _ o e => keep2 b o e
  have I4 := block_start I3 ok hN f3
  have pg := hg s3 (upd H2 D (O D)) s3.heap.objs.size (cellsFrom (s3.heap.objs.size + 1) scope.names (cloFrom X.env.cells scope.names [])) fp
  have pt := ht s3 (upd H2 D (O D)) s3.heap.objs.size (cellsFrom (s3.heap.objs.size + 1) scope.names (cloFrom X.env.cells scope.names [])) fp
  have pk := hk s3 (upd H2 D (O D)) s3.heap.objs.size (cellsFrom (s3.heap.objs.size + 1) scope.names (cloFrom X.env.cells scope.names [])) fp
  have pe := he s3 (upd H2 D (O D)) s3.heap.objs.size (cellsFrom (s3.heap.objs.size + 1) scope.names (cloFrom X.env.cells scope.names [])) fp
  show codeAny _ _ (.compStart (.DictComp kx vx [⟨tg, iter, ifs, 0⟩] scope pos) 0 (.ref it) (.ref D) (compEnvC scope (cellsFrom (s3.heap.objs.size + 1) scope.names (cloFrom X.env.cells scope.names [])) s3.heap.objs.size X.env)) (compPost (model X.prog X.w) X.A X.xe use Qf (.ref D) s3.heap.objs.size) { s3 with heap := pushCells (s3.heap.push { cls := .type "dict", data := .dict #[] }) scope.names }
  have cL : (compEnvC scope (cellsFrom (s3.heap.objs.size + 1) scope.names (cloFrom X.env.cells scope.names [])) s3.heap.objs.size X.env).locals = s3.heap.objs.size := rfl
  have nfp : ∀ b ∈ fp, (upd H2 D (O D)) b = none := fun b hb => (f3 b hb).1.1
  generalize compEnvC scope (cellsFrom (s3.heap.objs.size + 1) scope.names (cloFrom X.env.cells scope.names [])) s3.heap.objs.size X.env = ce at I4 pg pt pk pe cL ⊢
  generalize upd H2 D (O D) = H3 at I3 I4 pg pt pk pe w0 nfp f3
  generalize hs4 : ({ s3 with heap := pushCells (s3.heap.push { cls := .type "dict", data := .dict #[] }) scope.names } : Shared) = s4 at I4 ⊢
  have st4 : tn 0 s4.heap := T.keep _ _ _ st3 fun b _ o e => by
    rw [← hs4]
    exact pushCells_keeps _ _ _ _ (Heap.get?_push_of_some _ e)
  have stat : ∀ {σ' : L2.St} {H' : Hp} {s' : Shared}, Inv (X.blk s3 H3 scope ce fp) [] σ' H' s' → (∀ b ∈ fp, H' b = none) → ∀ b ∈ fp, FpOk (X.blk s3 H3 scope ce fp) [] H' b := fun {σ' H' s'} I' hn b hb =>
    ⟨hn b hb, (I'.ok.exf b hb).1, I'.ok.exfs b hb, .inl hb, fun x c e => (I'.ok.exf b hb).2 x c e, fun p hp => absurd (show p ∈ ([] : List (Addr × Obj)) ++ [] from hp) (by simp)⟩
  refine (fun loop => codeAny_compStart_dict loop (T.self X.A 0 _ _ _ st4 loop)) (compLoop_anyD (fun n s' => ∃ i H', Inv (X.blk s3 H3 scope ce fp) [] (wipe σ (own.map (·.2))) H' s' ∧ tn i s'.heap ∧ (∀ b ∈ fp, H' b = none) ∧ W i n H') ?_ m0 ⟨0, H3, I4, st4, nfp, w0⟩)
  rintro n s5 ⟨i, H5, I5, st5, n5, w5⟩
  rcases turn i n H5 w5 with ⟨stop, qq⟩ | ⟨go, Nx, hNx, step⟩
  · refine thnF (T.done (X.blk s3 H3 scope ce fp) rfl rfl rfl hc i [] s5 _ H5 (fun _ _ => False) I5 (stat I5 n5) st5 stop) fun r s6 ⟨hr, I6⟩ => ?_
    subst hr
    have I7 : Inv X pins σ H5 s6 := I3.call' (ch := fp) I6.os I6.base I6.hok I6.bare fun b hb => ⟨(f3 b hb).1.2.2.2.1, (f3 b hb).1.2.1, (f3 b hb).1.2.2.2.2.1, (f3 b hb).1.2.2.2.2.2⟩
    have nC : H5 s3.heap.objs.size = none := by
      have z : H5 ce.locals = none := I6.free
      rw [cL] at z
      exact z
    obtain ⟨m, hn, _⟩ := I6.loc
    have hn : s6.heap.Ns ce.locals m := hn
    rw [cL] at hn
    exact hRR D s3.heap.objs.size s6 m H5 I7 qq hn (I3.fpOk (Nat.le_refl _) nC)
  · refine thnF (T.item (X.blk s3 H3 scope ce fp) rfl rfl rfl hc i [] s5 _ H5 (fun _ _ => False) I5 (stat I5 n5) st5 go) fun r s6 ⟨u, hr, h6⟩ => ?_
    subst hr
    refine thnF h6 fun _ s7 ⟨x, H7, I7, r7, y7, st7, n7⟩ => ?_
    refine thnF (pg.run _ s7 _ H7 x u _ (I7.pinned (stat I7 n7) (T.obj _ _ st7)) r7 (step x H7 y7)) fun _ s8 ⟨σ8, H8, I8, hw8, q8⟩ => ?_
    refine thnF (pt.run _ s8 σ8 H8 _ I8 q8) fun b s9 ⟨H9, I9, q9⟩ => ?_
    have fin : ∀ {s' : Shared} {H' : Hp}, Inv (X.blk s3 H3 scope ce fp) ([] ++ pinsAt fp s7.heap) σ8 H' s' → Nx H' → ∃ m, m < n ∧ ∃ i H', Inv (X.blk s3 H3 scope ce fp) [] (wipe σ (own.map (·.2))) H' s' ∧ tn i s'.heap ∧ (∀ b ∈ fp, H' b = none) ∧ W i m H' := fun {s' H'} I' nx => by
      obtain ⟨m', hm, w'⟩ := hNx H' nx
      have pin' : ∀ b ∈ fp, ∀ o, s7.heap.get? b = some o → s'.heap.get? b = some o ∧ H' b = none := fun b hb o e =>
        let z := I'.pin (b, o) (List.mem_append_right _ (List.mem_append_right _ (mem_pinsAt hb e)))
        ⟨z.1, z.2.1⟩
      have hl : (wipe σ (own.map (·.2))).length = σ8.length := by rw [← hw8, wipe_length]
      refine ⟨m', hm, i + 1, H', (I'.unpinned (pins := [])).weak hl (fun j v e => ?_), T.keep _ _ _ st7 fun b hb o e => (pin' b hb o e).1, fun b hb => ?_, w'⟩
      · rw [← hw8] at e
        exact (wipe_some e).1
      · obtain ⟨o, e, _⟩ := T.obj _ _ st7 b hb
        exact (pin' b hb o e).2
    cases b with
    | false =>
      simp only [Bool.false_eq_true, if_false] at q9 ⊢
      exact fin I9 q9
    | true =>
      simp only [if_true] at q9 ⊢
      refine thnF (pk.run _ s9 σ8 H9 _ I9 q9) fun z s10 ⟨yk, H10, I10, r10, q10⟩ => ?_
      refine thnF (pe.run _ s10 σ8 H10 _ I10 q10) fun z2 s11 ⟨yv, H11, I11, r11, o, hst, nx⟩ => ?_
      exact hS (X.blk s3 H3 scope ce fp) rfl rfl rfl rfl _ _ _ _ _ _ _ _ _ _ _ _ I11 hst r10 r11 fun s12 I12 => fin I12 nx
theorem pe_dcG {O : Addr → HO} {S : Hp → Addr → V → V → HO → Prop} (hO : NewOk X O) (hS : StoreOk X S) {kx vx tg iter : Expr} {ifs : List Expr} {scope : Scope} {own : List (Str × Nat)} {pos : Pos} {wi : TI} {g : TG} {tt : TT} {tk tv : TE} (hc : X.calm = true) (hN : X.N.Nodup) (hi : PI X tg iter wi) (ok : BlkOk X.N X.env.scope scope own)
    (hg : ∀ (s : Shared) (H : Hp) (C : Addr) (cl : List (Str × Addr)) (fp : List Addr), PG (X.blk s H scope (compEnvC scope cl C X.env) fp) tg g) (ht : ∀ (s : Shared) (H : Hp) (C : Addr) (cl : List (Str × Addr)) (fp : List Addr), PTs (X.blk s H scope (compEnvC scope cl C X.env) fp) ifs tt)
    (hk : ∀ (s : Shared) (H : Hp) (C : Addr) (cl : List (Str × Addr)) (fp : List Addr), PE (X.blk s H scope (compEnvC scope cl C X.env) fp) kx tk)
    (he : ∀ (s : Shared) (H : Hp) (C : Addr) (cl : List (Str × Addr)) (fp : List Addr), PE (X.blk s H scope (compEnvC scope cl C X.env) fp) vx tv) (hs : ∀ x, foldedSetIterable iter X.env x = pure x := by intro _; rfl) :
    PE X (.DictComp kx vx [⟨tg, iter, ifs, 0⟩] scope pos) (tDcG O S wi g tt tk tv (own.map (·.2))) := by
  refine ⟨fun pins s σ H Q I h => ?_⟩
  rw [arm_eval_DictComp]
  refine dcG_core hO hS hc hN I hi ok hg ht hk he hs h fun D C s' m H' I' q hn f => ⟨m, hn, fun h'' sb => ?_⟩
  obtain ⟨g0, g1, g2, g3, g4, g5⟩ := f
  exact ⟨.ref D, H', I'.turned (t' := s'.toks) (fun b o hb e => (sb.2 b hb).trans e) g0 g1 g3 g4 g5, rfl, q⟩
theorem swd_true {kx vx : Expr} {gs : List Comprehension} {scope : Scope} {pos py : Pos} {y : Str} {l : Nat} {env : Env} (hk : env.scope.kind = .function) (hy : env.scope.names.lookup y = some .local) (hl : (py.line == pos.line) = true)
    (ha : (scope.names.any fun (n, k) => n == y && (k == .local || k == .cell)) = false) : swapsWith (.DictComp kx vx gs scope pos) (some (.Name y py)) l env = pure true := by
  have ky : env.kindOf y = some .local := hy
  have hb : env.blockKind = .function := by unfold Env.blockKind; rw [hk]; rfl
  unfold swapsWith
  simp only [hb, ky, ha, Expr.pos, hl]
  rfl
/-- what a name is given -/
theorem set_used {pins : List (Addr × Obj)} {σ : L2.St} {D : Ends} {i : Nat} {y : Str} {py : Pos} {L C : Addr} {s' : Shared} {m : Str → Option Value} {H' : Hp} (hN : X.N.Nodup) (hy : X.N[i]? = some y) (hyl : X.env.scope.names.lookup y = some .local) (I' : Inv X pins σ H' s') (q : gName i (.ref L) σ H' D.nx) (hn : s'.heap.Ns C m) (f : FpOk X pins H' C) :
    compPost (model X.prog X.w) X.A X.xe (some (assign (.Name y py) X.env)) (fun _ s' => SP X pins D .next s') (.ref L) C (.ok .next) s' := by
  show wpAny _ _ (assign (.Name y py) X.env (.ref L)) _ _ _
  refine wpAny_assign_Name (store_ok2 (v := V.ref L) I' hN hy (.inl hyl) rfl (fun s2 I2 ⟨a, sb, ha⟩ => ?_) (.inr hyl))
  obtain ⟨f0, f1, f2, f3, f4, f5⟩ := f
  have haC : C ≠ a := by
    rcases ha with z | z
    · rw [z]
      exact f1
    · exact fun e => f4 y a z e.symm
  exact ⟨m, hn.sameBut sb haC, fun h3 sb3 => ⟨_, H', I2.turned (t' := s2.toks) (fun b o hb e => (sb3.2 b hb).trans e) f0 f1 f3 f4 f5, q⟩⟩
theorem ps_setDcG {i : Nat} {y : Str} {py spos : Pos} {O : Addr → HO} {S : Hp → Addr → V → V → HO → Prop} (hO : NewOk X O) (hS : StoreOk X S) {kx vx tg iter : Expr} {ifs : List Expr} {scope : Scope} {own : List (Str × Nat)} {pos : Pos} {wi : TI} {g : TG} {tt : TT} {tk tv : TE} (hc : X.calm = true) (hN : X.N.Nodup) (hy : X.N[i]? = some y) (hyl : X.env.scope.names.lookup y = some .local) (hsw : swapsWith (.DictComp kx vx [⟨tg, iter, ifs, 0⟩] scope pos) (some (.Name y py)) spos.line X.env = pure true) (hi : PI X tg iter wi) (ok : BlkOk X.N X.env.scope scope own)
    (hg : ∀ (s : Shared) (H : Hp) (C : Addr) (cl : List (Str × Addr)) (fp : List Addr), PG (X.blk s H scope (compEnvC scope cl C X.env) fp) tg g) (ht : ∀ (s : Shared) (H : Hp) (C : Addr) (cl : List (Str × Addr)) (fp : List Addr), PTs (X.blk s H scope (compEnvC scope cl C X.env) fp) ifs tt)
    (hk : ∀ (s : Shared) (H : Hp) (C : Addr) (cl : List (Str × Addr)) (fp : List Addr), PE (X.blk s H scope (compEnvC scope cl C X.env) fp) kx tk)
    (he : ∀ (s : Shared) (H : Hp) (C : Addr) (cl : List (Str × Addr)) (fp : List Addr), PE (X.blk s H scope (compEnvC scope cl C X.env) fp) vx tv) (hs : ∀ x, foldedSetIterable iter X.env x = pure x := by intro _; rfl) :
    PS X (.Assign [.Name y py] (.DictComp kx vx [⟨tg, iter, ifs, 0⟩] scope pos) spos) (tAsg (tDcG O S wi g tt tk tv (own.map (·.2))) (gName i)) := by
  refine ⟨fun pins s σ H D I h => ?_⟩
  rw [exec_Assign_Name_used _ _ _ _ hsw]
  refine wpAny_bind (wpAny_standAt (wpAny_bind ?_))
  show wpAny _ X.A (do let _ ← comprehension (.DictComp kx vx [⟨tg, iter, ifs, 0⟩] scope pos) scope X.env (firstIterPos [⟨tg, iter, ifs, 0⟩] pos) newDict false (eval iter X.env) (some (assign (.Name y py) X.env))) _ _ s
  have h : tDcG O S wi g tt tk tv (own.map (·.2)) σ H (fun x H1 => gName i x σ H1 D.nx) := h
  exact wpAny_bind (thn (dcG_core (Qf := fun _ s' => SP X pins D .next s') hO hS hc hN I hi ok hg ht hk he hs h fun L C s' m H' I' q hn f => set_used hN hy hyl I' q hn f) fun _ s' hq => wpAny_pure (wpAny_pure hq))
end
/-! ### .. its keys tuples in tuples, the dict followed -/
def SN (K : PySem.W.Frag) (P : Program) (w : World) : Hp → Addr → V → V → HO → Prop := fun H D y z o => ∃ (kvs : List NE) (b : Addr) (d : PyData), H D = some (dnO P w D kvs) ∧ KeysN K H kvs ∧ KeyN K H y b d ∧ kvs.length < 10000 ∧ o = dnO P w D (stN kvs (keyD d) b z)
/-- its keys texts or numbers -/
def SKt : Hp → Addr → V → V → HO → Prop := fun H D y z o => ∃ (kvs : List (Key × V)) (k : Key), y = kV k ∧ H D = some (.dK kvs) ∧ kvs.length < sizeLine ∧ o = .dK (putK kvs k z)
theorem newOk_dk {X : Cx} : NewOk X fun _ => .dK [] := fun pins σ H s I => I.laid (t' := s.toks) (fun b o e => Heap.get?_push_of_some _ e) (Nat.le_refl _) (dk_empty s.heap I.big)
theorem storeOk_dk {X : Cx} : StoreOk X SKt := fun Y hp hw hK hA pins σ H s E Q D y z o u r I hs ru rr q => by
  obtain ⟨kvs, k, rfl, hd, hl, rfl⟩ := hs
  rw [← hp, ← hw, ← hA]
  exact d_dictSet I hd hl ru rr q
section
variable {X : Cx}
theorem newOk_dn : NewOk X fun p => dnO X.prog X.w p [] := fun pins σ H s I => by
  refine I.laid (a := s.heap.objs.size) (o := dnO X.prog X.w s.heap.objs.size []) (t' := s.toks) (fun _ _ q => Heap.get?_push_of_some _ q) (Nat.le_refl _) (dnO_ok ?_)
  exact ⟨Nat.zero_le _, beq_eq_false_iff_ne.mpr (Ne.symm (Nat.ne_of_lt I.big)), [], _, #[], 0, .nil, Heap.get?_push_size _ rfl, ⟨rfl, rfl, rfl⟩, rfl, rfl, List.nodup_nil⟩
theorem storeOk_dn (hu : X.A.units + 9 < cLine) : StoreOk X (SN X.K X.prog X.w) := fun Y hp hw hK hA pins σ H s E Q D y z o u r I hs ru rr q => by
  rw [← hp, ← hw, ← hK] at hs
  obtain ⟨kvs, b, d, hd, hk, ⟨rfl, h1, h2, h3⟩, hl, rfl⟩ := hs
  obtain rfl : u = Value.ref b := ru
  obtain ⟨z0, zz, xs, rx, dd⟩ := dn_of I (.inl hd) hk
  rw [← hp, ← hw, ← hA]
  refine wpAny_dictSet_heap (knd := nestedKind Y.prog Y.w) (k := keyD d) (hsz := by rw [← rx.len]; exact z0) (by rw [hA]; show X.A.units + 8 < cLine; omega) ⟨nst I h1 h2 rfl, h3⟩ dd fun h' hm hsb => ?_
  exact q _ (dn_write I hd hl zz rx rr hm hsb)
end
/-- {key: value for .. in ..}, the keys tuples in tuples -/
abbrev tDcN (K : PySem.W.Frag) (P : Program) (w : World) (wi : TI) (g : TG) (tt : TT) (tk tv : TE) (vs : List Nat) : TE := tDcG (fun p => dnO P w p []) (SN K P w) wi g tt tk tv vs
/-- turn by turn -/
theorem dcG_it {O : Addr → HO} {S : Hp → Addr → V → V → HO → Prop} {J : It} {n : Nat} {Iv : Hp → Prop} {Y : Nat → Hp → V → Hp → Prop} (wk : Walk J n Iv Y) {g : TG} {tt : TT} {tk tv : TE} {vs : List Nat} {σ : L2.St} {H1 : Hp} {D : Addr} {Qd : Hp → Prop} (Pv : Nat → Hp → Prop) (h0 : Pv 0 (upd H1 D (O D))) (hl : ∀ i H, i ≤ n → Pv i H → Iv H)
    (hs : ∀ i x H H', i < n → Pv i H → Y i H x H' → g x (wipe σ vs) H' fun σ2 H2 => wipe σ2 vs = wipe σ vs ∧ tt σ2 H2 fun b H3 =>
      if b = true then tk σ2 H3 fun y H4 => tv σ2 H4 fun z H5 => ∃ o, S H5 D y z o ∧ Pv (i + 1) (upd H5 D o) else Pv (i + 1) H3) (hd : ∀ H, Pv n H → Qd H) :
    ∃ W : Nat → Nat → Hp → Prop, (∃ m, W 0 m (upd H1 D (O D))) ∧ ∀ i m H, W i m H →
      (J.stop i H ∧ Qd H) ∨ (J.go i H ∧ ∃ Nx : Hp → Prop, (∀ H', Nx H' → ∃ m', m' < m ∧ W (i + 1) m' H') ∧ ∀ x H', J.yld i H x H' → g x (wipe σ vs) H' fun σ2 H2 => wipe σ2 vs = wipe σ vs ∧ tt σ2 H2 fun b H3 =>
        if b = true then tk σ2 H3 fun y H4 => tv σ2 H4 fun z H5 => ∃ o, S H5 D y z o ∧ Nx (upd H5 D o) else Nx H3) := by
  refine ⟨fun i m H => m = n - i ∧ i ≤ n ∧ Pv i H, ⟨n, by simp, Nat.zero_le _, h0⟩, ?_⟩
  rintro i m H ⟨rfl, hi, p⟩
  have q := hl i H hi p
  by_cases hlt : i < n
  · refine .inr ⟨wk.goes i H hlt q, Pv (i + 1), fun H' p' => ⟨n - (i + 1), by omega, rfl, hlt, p'⟩, fun x H' y => hs i x H H' hlt p (wk.yields i H x H' hlt q y)⟩
  · have e : i = n := by omega
    subst e
    exact .inl ⟨wk.stops H q, hd H p⟩
theorem allTrue (n : Nat) : (List.replicate n true).all id = true := by
  rw [List.all_eq_true]
  intro x hx
  rw [List.eq_of_mem_replicate hx]
  rfl
abbrev s__law_same : Stmt := top 66
abbrev N__law_same : List Str := ["_law_found", "_law_due", "_law_one", "_law_other"]
abbrev P__law_same : List Str := ["_law_found", "_law_due"]
theorem sc__law_same : FnScope N__law_same P__law_same (defScope s__law_same) := ⟨rfl, rfl, rfl, by decide +kernel, rfl, by decide +kernel, by decide +kernel⟩
structure Sa (mg : Str → Option Value) : Prop where
  isinstance : mg "isinstance" = none
  list : mg "list" = none
  tuple : mg "tuple" = none
  bool : mg "bool" = none
  str : mg "str" = none
  int : mg "int" = none
  len : mg "len" = none
  zip : mg "zip" = none
  all : mg "all" = none
  range : mg "range" = none
theorem walk_zipT {K : PySem.W.Frag} {a b : Addr} {xs ys : List V} {n : Nat} (hn : n = min xs.length ys.length) : Walk (RZ.ItzT K a b) n (fun H => SqT K H a xs ∧ SqT K H b ys) (YPair (fun i => xs[i]?) (fun i => ys[i]?)) := by
  subst hn
  refine ⟨fun i _ hi q => ?_, fun _ q => ⟨xs, ys, q.1, q.2, by omega⟩, fun i H v H' _ q y => ?_⟩
  · have h1 : i < xs.length := by omega
    have h2 : i < ys.length := by omega
    exact ⟨xs, ys, xs[i], ys[i], q.1, q.2, by simp [h1], by simp [h2]⟩
  · obtain ⟨T, x, z, h1, h2, h3, h4, h5⟩ := y
    exact ⟨T, x, z, h1, h2, h3, h4 xs q.1, h5 ys q.2⟩
def spSame (K : PySem.W.Frag) (n : Nat) : Sp := fun vs H Q _ => ∃ (x y : V) (d : PyData), vs = [x, y] ∧ Dp K H x d ∧ Dp K H y d ∧ Sm n d ∧ ∀ H', Same H H' → Q (.bl true) H'
section
variable {P : Program} {w : World} {K : PySem.W.Frag} {mg : Str → Option Value} {base : Heap}
theorem same_non (T : Sa mg) (f : Addr) (cdv : Value) (A : Around) (outer : List Env) (s : Shared) (H : Hp) (Q : VK) (E : XK) (q : ∀ H', Same H H' → Q (.bl true) H') :
    ∃ t, PSs (cxOf CX0 P w K mg base N__law_same "_law_same" (defScope s__law_same) f cdv A outer s H E).nox (defBody s__law_same) t ∧ t { nx := fun _ H' => Q .non H', rt := Q } (start N__law_same [.non, .non]) H := by
  refine ⟨_, (pss_cons (ps_if (pt_val (pe_callB call_isiT (by rfl) T.isinstance (by decide +kernel) (pa_cons (pv 1) (pa_cons (pe_tup (pa_cons (pe_bltn (v := .ty "list") rfl T.list (by decide +kernel) rfl) (pa_cons (pe_bltn (v := .ty "tuple") rfl T.tuple (by decide +kernel) rfl) pa_nil))) pa_nil))))
      (pss_cons ps_never (pss_one ps_never)) pss_nil)
    (pss_cons (ps_if (PW.pt (pw_or (pt_cmpR op_isN (pv 1) pe_non (nomark _)) (pw_or1 (pt_cmpR op_isN (pv 0) pe_non (nomark _)))))
      (pss_one (ps_ret (pe_and (pe_cmpR op_isN (pv 1) pe_non (nomark _)) (pe_one (pe_cmpR op_isN (pv 0) pe_non (nomark _))))))
      pss_nil) (pss_cons ps_never (pss_one ps_never)))), ?_⟩
  refine ⟨_, rfl, by show 2 ≤ sizeLine; decide, fun tp nt => ?_⟩
  refine ⟨.non, tp, _, .type "NoneType", [.type "list", .type "tuple"], false, rfl, upd_same, .cons (.ty "list") (.cons (.ty "tuple") .nil), .base .non, kitLT (by decide +kernel) (fun _ => by decide +kernel), _, rfl, iteF ?_⟩
  refine ⟨_, rfl, rfl, _, rfl, ifT (decide_eq_true rfl) (iteT ?_)⟩
  refine ⟨_, rfl, rfl, _, rfl, ifT (decide_eq_true rfl) ?_⟩
  refine ⟨_, rfl, rfl, ?_⟩
  rw [decide_eq_true rfl]
  exact q _ (same_upd nt)
theorem same_atom (T : Sa mg) (f : Addr) (cdv : Value) (A : Around) (outer : List Env) (s : Shared) (H : Hp) (Q : VK) (E : XK) {x : V} {t : String} (ty : ∀ H', TyX K H' x (.type t)) (nx : x ≠ .non) (k1 : kitB t "list" = some false) (k2 : kitB t "tuple" = some false)
    (kk : (kitB t "bool" = some true) ∨ (kitB t "bool" = some false ∧ kitB t "str" = some true) ∨ (kitB t "bool" = some false ∧ kitB t "str" = some false ∧ kitB t "int" = some true)) (sc : scal x x = true) (q : ∀ H', Same H H' → Q (.bl true) H') :
    ∃ t, PSs (cxOf CX0 P w K mg base N__law_same "_law_same" (defScope s__law_same) f cdv A outer s H E).nox (defBody s__law_same) t ∧ t { nx := fun _ H' => Q .non H', rt := Q } (start N__law_same [x, x]) H := by
  refine ⟨_, (pss_cons (ps_if (pt_val (pe_callB call_isiT (by rfl) T.isinstance (by decide +kernel) (pa_cons (pv 1) (pa_cons (pe_tup (pa_cons (pe_bltn (v := .ty "list") rfl T.list (by decide +kernel) rfl) (pa_cons (pe_bltn (v := .ty "tuple") rfl T.tuple (by decide +kernel) rfl) pa_nil))) pa_nil))))
      (pss_cons ps_never (pss_one ps_never)) pss_nil)
    (pss_cons (ps_if (PW.pt (pw_or (pt_cmpR op_isN (pv 1) pe_non (nomark _)) (pw_or1 (pt_cmpR op_isN (pv 0) pe_non (nomark _)))))
      (pss_one ps_never) pss_nil)
    (pss_cons (ps_if (PW.pt (pw_or (pt_val (pe_callB call_isi (by rfl) T.isinstance (by decide +kernel) (pa_cons (pv 1) (pa_cons (pe_bltn (v := .ty "bool") rfl T.bool (by decide +kernel) rfl) pa_nil)))) (pw_or1 (pt_val (pe_callB call_isi (by rfl) T.isinstance (by decide +kernel) (pa_cons (pv 1) (pa_cons (pe_bltn (v := .ty "str") rfl T.str (by decide +kernel) rfl) pa_nil)))))))
      (pss_one (ps_ret (pe_and (pe_cmpR op_eq (pe_callB call_isi (by rfl) T.isinstance (by decide +kernel) (pa_cons (pv 0) (pa_cons (pe_bltn (v := .ty "bool") rfl T.bool (by decide +kernel) rfl) pa_nil))) (pe_callB call_isi (by rfl) T.isinstance (by decide +kernel) (pa_cons (pv 1) (pa_cons (pe_bltn (v := .ty "bool") rfl T.bool (by decide +kernel) rfl) pa_nil))) (nomark _)) (pe_one (pe_cmpR op_eq (pv 0) (pv 1) (nomark _))))))
      pss_nil)
    (pss_one (ps_ret (pe_and (pe_callB call_isi (by rfl) T.isinstance (by decide +kernel) (pa_cons (pv 0) (pa_cons (pe_bltn (v := .ty "int") rfl T.int (by decide +kernel) rfl) pa_nil))) (pe_and (pe_not (pe_callB call_isi (by rfl) T.isinstance (by decide +kernel) (pa_cons (pv 0) (pa_cons (pe_bltn (v := .ty "bool") rfl T.bool (by decide +kernel) rfl) pa_nil)))) (pe_one (pe_cmpR op_eq (pv 0) (pv 1) (nomark _)))))))))), ?_⟩
  refine ⟨_, rfl, by show 2 ≤ sizeLine; decide, fun tp nt => ?_⟩
  refine ⟨x, tp, _, .type t, [.type "list", .type "tuple"], false, rfl, upd_same, .cons (.ty "list") (.cons (.ty "tuple") .nil), ty _, kitLT k1 (fun _ => k2), _, rfl, iteF ?_⟩
  refine ⟨_, rfl, rfl, _, rfl, ifF (decide_eq_false nx) ?_⟩
  refine ⟨_, rfl, rfl, _, rfl, ifF (decide_eq_false nx) ?_⟩
  rcases kk with kb | ⟨kb, ks⟩ | ⟨kb, ks, ki⟩
  · refine ⟨_, rfl, x, .ty "bool", .type t, .type "bool", true, rfl, .ty "bool", ty _, kit_ty kb, _, rfl, iteT (iteT ?_)⟩
    refine ⟨_, rfl, x, .ty "bool", .type t, .type "bool", true, rfl, .ty "bool", ty _, kit_ty kb, ?_⟩
    refine ⟨_, rfl, x, .ty "bool", .type t, .type "bool", true, rfl, .ty "bool", ty _, kit_ty kb, ?_⟩
    refine ⟨rfl, _, rfl, ifT (decide_eq_true rfl) ?_⟩
    refine ⟨_, rfl, _, rfl, sc, ?_⟩
    rw [decide_eq_true rfl]
    exact q _ (same_upd nt)
  · refine ⟨_, rfl, x, .ty "bool", .type t, .type "bool", false, rfl, .ty "bool", ty _, kit_ty kb, _, rfl, iteF ?_⟩
    refine ⟨_, rfl, x, .ty "str", .type t, .type "str", true, rfl, .ty "str", ty _, kit_ty ks, _, rfl, iteT ?_⟩
    refine ⟨_, rfl, x, .ty "bool", .type t, .type "bool", false, rfl, .ty "bool", ty _, kit_ty kb, ?_⟩
    refine ⟨_, rfl, x, .ty "bool", .type t, .type "bool", false, rfl, .ty "bool", ty _, kit_ty kb, ?_⟩
    refine ⟨rfl, _, rfl, ifT (decide_eq_true rfl) ?_⟩
    refine ⟨_, rfl, _, rfl, sc, ?_⟩
    rw [decide_eq_true rfl]
    exact q _ (same_upd nt)
  · refine ⟨_, rfl, x, .ty "bool", .type t, .type "bool", false, rfl, .ty "bool", ty _, kit_ty kb, _, rfl, iteF ?_⟩
    refine ⟨_, rfl, x, .ty "str", .type t, .type "str", false, rfl, .ty "str", ty _, kit_ty ks, _, rfl, iteF ?_⟩
    refine ⟨_, rfl, x, .ty "int", .type t, .type "int", true, rfl, .ty "int", ty _, kit_ty ki, _, rfl, iteT ?_⟩
    refine ⟨_, rfl, x, .ty "bool", .type t, .type "bool", false, rfl, .ty "bool", ty _, kit_ty kb, _, rfl, _, rfl, iteT ?_⟩
    refine ⟨_, rfl, _, rfl, sc, ?_⟩
    rw [decide_eq_true rfl]
    exact q _ (same_upd nt)
theorem ok_same (T : Sa mg) (D : Dd K mg "_law_same" s__law_same P__law_same) : ∀ n, C8.Cal P w K mg base (n + 1) "_law_same" (spSame K n) [] := by
  intro n
  induction n with
  | zero =>
    refine D.cal sc__law_same (fun vs H Q E h => ?_) (fun f cdv A outer s H vs Q E hr h => ?_)
    · obtain ⟨x, y, d, rfl, _⟩ := h
      rfl
    · obtain ⟨x, y, d, rfl, hx, hy, hs, q⟩ := h
      cases hs with
      | non => cases hx; cases hy; exact same_non T f cdv A outer s H Q E q
      | bl _ b => cases hx; cases hy; exact same_atom T f cdv A outer s H Q E (fun _ => .base (.bl b)) (fun z => nomatch z) (by decide +kernel) (by decide +kernel) (.inl (by decide +kernel)) rfl q
      | int _ i => cases hx; cases hy; exact same_atom T f cdv A outer s H Q E (fun _ => .base (.int i)) (fun z => nomatch z) (by decide +kernel) (by decide +kernel) (.inr (.inr ⟨by decide +kernel, by decide +kernel, by decide +kernel⟩)) rfl q
      | str _ z => cases hx; cases hy; exact same_atom T f cdv A outer s H Q E (fun _ => .base (.str z)) (fun z => nomatch z) (by decide +kernel) (by decide +kernel) (.inr (.inl ⟨by decide +kernel, by decide +kernel⟩)) rfl q
  | succ n c_law_same =>
    refine D.cal sc__law_same (fun vs H Q E h => ?_) (fun f cdv A outer s H vs Q E hr h => ?_)
    · obtain ⟨x, y, d, rfl, _⟩ := h
      rfl
    · obtain ⟨x, y, d, rfl, hx, hy, hs, q⟩ := h
      cases hs with
      | non => cases hx; cases hy; exact same_non T f cdv A outer s H Q E q
      | bl _ b => cases hx; cases hy; exact same_atom T f cdv A outer s H Q E (fun _ => .base (.bl b)) (fun z => nomatch z) (by decide +kernel) (by decide +kernel) (.inl (by decide +kernel)) rfl q
      | int _ i => cases hx; cases hy; exact same_atom T f cdv A outer s H Q E (fun _ => .base (.int i)) (fun z => nomatch z) (by decide +kernel) (by decide +kernel) (.inr (.inr ⟨by decide +kernel, by decide +kernel, by decide +kernel⟩)) rfl q
      | str _ z => cases hx; cases hy; exact same_atom T f cdv A outer s H Q E (fun _ => .base (.str z)) (fun z => nomatch z) (by decide +kernel) (by decide +kernel) (.inr (.inl ⟨by decide +kernel, by decide +kernel⟩)) rfl q
      | lst _ hlen hall =>
        rename_i ds
        cases hx with
        | lst hS hd =>
          rename_i a xs
          cases hy with
          | lst hS2 hd2 =>
            rename_i b ys
            refine ⟨_, (pss_cons (ps_if (pt_val (pe_callB call_isiT (by rfl) T.isinstance (by decide +kernel) (pa_cons (pv 1) (pa_cons (pe_tup (pa_cons (pe_bltn (v := .ty "list") rfl T.list (by decide +kernel) rfl) (pa_cons (pe_bltn (v := .ty "tuple") rfl T.tuple (by decide +kernel) rfl) pa_nil))) pa_nil))))
      (pss_cons (ps_if (PW.pt (pw_or (pt_cmpR op_ne (pe_callB call_isi (by rfl) T.isinstance (by decide +kernel) (pa_cons (pv 0) (pa_cons (pe_bltn (v := .ty "list") rfl T.list (by decide +kernel) rfl) pa_nil))) (pe_callB call_isi (by rfl) T.isinstance (by decide +kernel) (pa_cons (pv 1) (pa_cons (pe_bltn (v := .ty "list") rfl T.list (by decide +kernel) rfl) pa_nil))) (nomark _)) (pw_or1 (pt_cmpR op_ne (pe_callB call_isi (by rfl) T.isinstance (by decide +kernel) (pa_cons (pv 0) (pa_cons (pe_bltn (v := .ty "tuple") rfl T.tuple (by decide +kernel) rfl) pa_nil))) (pe_callB call_isi (by rfl) T.isinstance (by decide +kernel) (pa_cons (pv 1) (pa_cons (pe_bltn (v := .ty "tuple") rfl T.tuple (by decide +kernel) rfl) pa_nil))) (nomark _)))))
      (pss_one ps_never)
      pss_nil)
    (pss_one (ps_ret (pe_and (pe_cmpR op_eq (pe_callB call_len_seq (by rfl) T.len PySem.boot_len (pa_cons (pv 0) pa_nil)) (pe_callB call_len_seq (by rfl) T.len PySem.boot_len (pa_cons (pv 1) pa_nil)) (nomark _)) (pe_one (pe_callB (cr_all rfl) (by rfl) T.all (by decide +kernel) (pa_cons (pe_lc (g := gTup K 2 (gCons (gName 2) (gCons (gName 3) gNil))) (own := [("_law_one", 2), ("_law_other", 3)]) (by exact rfl) sc__law_same.nd (RZ.pi_zipA (by rfl) T.zip (pa_cons (pv 0) (pa_cons (pv 1) pa_nil))) (blkOk_by (own := [("_law_one", 2), ("_law_other", 3)]) (N := N__law_same) (sc := defScope s__law_same) (by decide +kernel)) (fun _ _ _ _ _ => (pg_tup (n := 2) rfl (pgs_cons (pg_name (i := 2) sc__law_same.nd rfl (Or.inl rfl) (Or.inr rfl)) (pgs_cons (pg_name (i := 3) sc__law_same.nd rfl (Or.inl rfl) (Or.inr rfl)) pgs_nil)))) (fun _ _ _ _ _ => pts_nil) (fun _ _ _ _ _ => (C8.pe_c c_law_same hr (by omega) (by rfl) (pa_cons (pv 2) (pa_cons (pv 3) pa_nil))))) pa_nil)))))))
      pss_nil)
    (pss_cons ps_never (pss_cons ps_never (pss_one ps_never)))), ?_⟩
            have lx := dpAll_len hd
            have ly := dpAll_len hd2
            refine ⟨_, rfl, by show 2 ≤ sizeLine; decide, fun tp nt => ?_⟩
            have s1 := same_upd (o := .tup [.ty "list", .ty "tuple"]) nt
            have h1 := Same.seqL s1 hS
            have h2 := Same.seqL s1 hS2
            refine ⟨.ref b, tp, _, .type "list", [.type "list", .type "tuple"], true, rfl, upd_same, .cons (.ty "list") (.cons (.ty "tuple") .nil), tyL h2, kitLT (by decide +kernel) (fun e => nomatch e), _, rfl, iteT ?_⟩
            refine ⟨_, rfl, .ref a, .ty "list", .type "list", .type "list", true, rfl, .ty "list", tyL h1, kit_ty (by decide +kernel), ?_⟩
            refine ⟨_, rfl, .ref b, .ty "list", .type "list", .type "list", true, rfl, .ty "list", tyL h2, kit_ty (by decide +kernel), rfl, _, rfl, iteF ?_⟩
            refine ⟨_, rfl, .ref a, .ty "tuple", .type "list", .type "tuple", false, rfl, .ty "tuple", tyL h1, kit_ty (by decide +kernel), ?_⟩
            refine ⟨_, rfl, .ref b, .ty "tuple", .type "list", .type "tuple", false, rfl, .ty "tuple", tyL h2, kit_ty (by decide +kernel), rfl, _, rfl, iteF ?_⟩
            refine ⟨_, rfl, a, xs, rfl, .inl h1, ?_⟩
            refine ⟨_, rfl, b, ys, rfl, .inl h2, rfl, _, rfl, ifT (by rw [lx, ly]; exact decide_eq_true rfl) ?_⟩
            refine ⟨_, rfl, _, rfl, a, b, xs, ys, rfl, .inl ⟨h1, h2, fun D nD => ?_⟩⟩
            refine lc_it (walk_zip (K := K) (a := a) (b := b) (xs := xs) (ys := ys) rfl) (fun j H' => Same H H' ∧ H' D = some (.lst ((List.replicate j true).map V.bl)))
              ⟨Same.trans s1 (same_upd nD), upd_same⟩ (fun j H' _ h => ⟨Same.seqL h.1 hS, Same.seqL h.1 hS2⟩) ?_ ?_
            · rintro j v H3 H4 hj ⟨sm, hD⟩ ⟨U, x, y, rfl, nU, rfl, ex, ey⟩
              obtain ⟨d1, e1, g1⟩ := dpAll_at hd ex
              obtain ⟨d2, e2, g2⟩ := dpAll_at hd2 ey
              rw [e1] at e2
              cases e2
              have sU : Same H3 (upd H3 U (.tup [x, y])) := same_upd nU
              have s5 := sm.trans sU
              refine ⟨U, _, rfl, SqT.of upd_same, rfl, _, _, rfl, _, _, rfl, rfl, ?_⟩
              refine ⟨rfl, yesT ?_⟩
              refine ⟨_, rfl, _, rfl, x, y, d1, rfl, dp_same s5 g1, dp_same s5 g2, hall d1 (List.mem_of_getElem? e1), fun H6 s6 => ?_⟩
              refine ⟨_, s6 _ _ (sU _ _ hD), by rw [List.length_map, List.length_replicate]; exact small1000 (by omega), Same.at_ (s5.trans s6) (s1.free nD), ?_⟩
              rw [upd_same, List.replicate_succ', List.map_append]
              rfl
            · rintro H6 ⟨s6, hD⟩
              refine ⟨D, _, rfl, SqL.of hD, ?_⟩
              rw [allTrue]
              exact q H6 s6
      | tup _ hlen hall =>
        rename_i ds
        cases hx with
        | tup hS hd =>
          rename_i a xs
          cases hy with
          | tup hS2 hd2 =>
            rename_i b ys
            refine ⟨_, (pss_cons (ps_if (pt_val (pe_callB call_isiT (by rfl) T.isinstance (by decide +kernel) (pa_cons (pv 1) (pa_cons (pe_tup (pa_cons (pe_bltn (v := .ty "list") rfl T.list (by decide +kernel) rfl) (pa_cons (pe_bltn (v := .ty "tuple") rfl T.tuple (by decide +kernel) rfl) pa_nil))) pa_nil))))
      (pss_cons (ps_if (PW.pt (pw_or (pt_cmpR op_ne (pe_callB call_isi (by rfl) T.isinstance (by decide +kernel) (pa_cons (pv 0) (pa_cons (pe_bltn (v := .ty "list") rfl T.list (by decide +kernel) rfl) pa_nil))) (pe_callB call_isi (by rfl) T.isinstance (by decide +kernel) (pa_cons (pv 1) (pa_cons (pe_bltn (v := .ty "list") rfl T.list (by decide +kernel) rfl) pa_nil))) (nomark _)) (pw_or1 (pt_cmpR op_ne (pe_callB call_isi (by rfl) T.isinstance (by decide +kernel) (pa_cons (pv 0) (pa_cons (pe_bltn (v := .ty "tuple") rfl T.tuple (by decide +kernel) rfl) pa_nil))) (pe_callB call_isi (by rfl) T.isinstance (by decide +kernel) (pa_cons (pv 1) (pa_cons (pe_bltn (v := .ty "tuple") rfl T.tuple (by decide +kernel) rfl) pa_nil))) (nomark _)))))
      (pss_one ps_never)
      pss_nil)
    (pss_one (ps_ret (pe_and (pe_cmpR op_eq (pe_callB call_len_seq (by rfl) T.len PySem.boot_len (pa_cons (pv 0) pa_nil)) (pe_callB call_len_seq (by rfl) T.len PySem.boot_len (pa_cons (pv 1) pa_nil)) (nomark _)) (pe_one (pe_callB (cr_all rfl) (by rfl) T.all (by decide +kernel) (pa_cons (pe_lc (g := gTup K 2 (gCons (gName 2) (gCons (gName 3) gNil))) (own := [("_law_one", 2), ("_law_other", 3)]) (by exact rfl) sc__law_same.nd (RZ.pi_zipA (by rfl) T.zip (pa_cons (pv 0) (pa_cons (pv 1) pa_nil))) (blkOk_by (own := [("_law_one", 2), ("_law_other", 3)]) (N := N__law_same) (sc := defScope s__law_same) (by decide +kernel)) (fun _ _ _ _ _ => (pg_tup (n := 2) rfl (pgs_cons (pg_name (i := 2) sc__law_same.nd rfl (Or.inl rfl) (Or.inr rfl)) (pgs_cons (pg_name (i := 3) sc__law_same.nd rfl (Or.inl rfl) (Or.inr rfl)) pgs_nil)))) (fun _ _ _ _ _ => pts_nil) (fun _ _ _ _ _ => (C8.pe_c c_law_same hr (by omega) (by rfl) (pa_cons (pv 2) (pa_cons (pv 3) pa_nil))))) pa_nil)))))))
      pss_nil)
    (pss_cons ps_never (pss_cons ps_never (pss_one ps_never)))), ?_⟩
            have lx := dpAll_len hd
            have ly := dpAll_len hd2
            refine ⟨_, rfl, by show 2 ≤ sizeLine; decide, fun tp nt => ?_⟩
            have s1 := same_upd (o := .tup [.ty "list", .ty "tuple"]) nt
            have h1 := Same.seqT s1 hS
            have h2 := Same.seqT s1 hS2
            refine ⟨.ref b, tp, _, .type "tuple", [.type "list", .type "tuple"], true, rfl, upd_same, .cons (.ty "list") (.cons (.ty "tuple") .nil), tyT h2, kitLT2, _, rfl, iteT ?_⟩
            refine ⟨_, rfl, .ref a, .ty "list", .type "tuple", .type "list", false, rfl, .ty "list", tyT h1, kit_ty (by decide +kernel), ?_⟩
            refine ⟨_, rfl, .ref b, .ty "list", .type "tuple", .type "list", false, rfl, .ty "list", tyT h2, kit_ty (by decide +kernel), rfl, _, rfl, iteF ?_⟩
            refine ⟨_, rfl, .ref a, .ty "tuple", .type "tuple", .type "tuple", true, rfl, .ty "tuple", tyT h1, kit_ty (by decide +kernel), ?_⟩
            refine ⟨_, rfl, .ref b, .ty "tuple", .type "tuple", .type "tuple", true, rfl, .ty "tuple", tyT h2, kit_ty (by decide +kernel), rfl, _, rfl, iteF ?_⟩
            refine ⟨_, rfl, a, xs, rfl, .inr h1, ?_⟩
            refine ⟨_, rfl, b, ys, rfl, .inr h2, rfl, _, rfl, ifT (by rw [lx, ly]; exact decide_eq_true rfl) ?_⟩
            refine ⟨_, rfl, _, rfl, a, b, xs, ys, rfl, .inr ⟨h1, h2, fun D nD => ?_⟩⟩
            refine lc_it (walk_zipT (K := K) (a := a) (b := b) (xs := xs) (ys := ys) rfl) (fun j H' => Same H H' ∧ H' D = some (.lst ((List.replicate j true).map V.bl)))
              ⟨Same.trans s1 (same_upd nD), upd_same⟩ (fun j H' _ h => ⟨Same.seqT h.1 hS, Same.seqT h.1 hS2⟩) ?_ ?_
            · rintro j v H3 H4 hj ⟨sm, hD⟩ ⟨U, x, y, rfl, nU, rfl, ex, ey⟩
              obtain ⟨d1, e1, g1⟩ := dpAll_at hd ex
              obtain ⟨d2, e2, g2⟩ := dpAll_at hd2 ey
              rw [e1] at e2
              cases e2
              have sU : Same H3 (upd H3 U (.tup [x, y])) := same_upd nU
              have s5 := sm.trans sU
              refine ⟨U, _, rfl, SqT.of upd_same, rfl, _, _, rfl, _, _, rfl, rfl, ?_⟩
              refine ⟨rfl, yesT ?_⟩
              refine ⟨_, rfl, _, rfl, x, y, d1, rfl, dp_same s5 g1, dp_same s5 g2, hall d1 (List.mem_of_getElem? e1), fun H6 s6 => ?_⟩
              refine ⟨_, s6 _ _ (sU _ _ hD), by rw [List.length_map, List.length_replicate]; exact small1000 (by omega), Same.at_ (s5.trans s6) (s1.free nD), ?_⟩
              rw [upd_same, List.replicate_succ', List.map_append]
              rfl
            · rintro H6 ⟨s6, hD⟩
              refine ⟨D, _, rfl, SqL.of hD, ?_⟩
              rw [allTrue]
              exact q H6 s6
end
/-! ### texts of data, how long at most -/
theorem textFrom_le : ∀ (ts : List Str) (k : Nat) (acc : Str), (textFrom k acc ts).length ≤ acc.length + piled ts
  | [], k, acc => by
    rw [piled_nil]
    exact Nat.le_refl _
  | t :: r, k, acc => by
    have ih := textFrom_le r (k + 1) (acc ++ (if k > 0 then ", " else "" : String) ++ t)
    have e2 : ((", " : String) : Str).length = 2 := rfl
    have e0 : (("" : String) : Str).length = 0 := rfl
    have e : (acc ++ (if k > 0 then ", " else "" : String) ++ t).length ≤ acc.length + 2 + t.length := by
      rw [strLen_append, strLen_append]
      by_cases h : k > 0
      · rw [if_pos h, e2]
        exact Nat.le_refl _
      · rw [if_neg h, e0]
        omega
    rw [piled_cons]
    exact Nat.le_trans ih (by omega)
theorem listText_le (ts : List Str) : (listText ts).length ≤ piled ts + 2 := by
  unfold listText
  rw [strLen_append]
  have h := textFrom_le ts 0 "["
  have e1 : (("[" : String) : Str).length = 1 := rfl
  have e2 : (("]" : String) : Str).length = 1 := rfl
  rw [e1] at h
  rw [e2]
  omega
theorem tupleText_le (ts : List Str) : (tupleText ts).length ≤ piled ts + 3 := by
  unfold tupleText
  rw [strLen_append, strLen_append]
  have e1 : (("(" : String) : Str).length = 1 := rfl
  have e2 : ((if ts.length == 1 then ",)" else ")" : String) : Str).length ≤ 2 := by
    by_cases h : (ts.length == 1) = true
    · rw [if_pos h]
      decide
    · rw [if_neg h]
      decide
  rw [e1]
  cases ts with
  | nil =>
    have e3 : (Str.join ", " []).length = 0 := rfl
    rw [e3]
    omega
  | cons t r =>
    have := join_length_add (t :: r) (by simp)
    omega
def Nm (z : Str) : Prop := ∃ w, z = SX.S w ∧ NmOk w
theorem let_small {c : Nat} (h : isLet c = true) : c < 128 := by
  unfold isLet at h
  simp only [Bool.and_eq_true, decide_eq_true_eq] at h
  omega
/-! ### data that keep off the box: how deep, how wide, how long their text is -/
mutual
def wt : PyData → Nat
  | .none => 1
  | .bool _ => 1
  | .int _ => 1
  | .str _ => 1
  | .list ds => wtAll ds + 1
  | .tuple ds => wtAll ds + 1
  | .dict _ => 1
def wtAll : List PyData → Nat
  | [] => 0
  | d :: ds => wt d + wtAll ds
end
mutual
def okD : PyData → Bool
  | .none => true
  | .bool _ => true
  | .int i => decide (i.natAbs < 10 ^ 21)
  | .str z => decide ((reprText z).length ≤ 62)
  | .list ds => okAll ds
  | .tuple ds => okAll ds
  | .dict _ => false
def okAll : List PyData → Bool
  | [] => true
  | d :: ds => okD d && okAll ds
end
theorem wt_pos : ∀ d : PyData, 1 ≤ wt d
  | .none => Nat.le_refl _
  | .bool _ => Nat.le_refl _
  | .int _ => Nat.le_refl _
  | .str _ => Nat.le_refl _
  | .list ds => by show 1 ≤ wtAll ds + 1; omega
  | .tuple ds => by show 1 ≤ wtAll ds + 1; omega
  | .dict _ => Nat.le_refl _
theorem wtAll_len : ∀ ds : List PyData, ds.length ≤ wtAll ds
  | [] => Nat.le_refl _
  | d :: ds => by
    have := wt_pos d
    have := wtAll_len ds
    show ds.length + 1 ≤ wt d + wtAll ds
    omega
theorem okD_int {i : Int} (h : i.natAbs < 10 ^ 21) : PyData.showable (.int i) = true ∧ (PyData.shown (.int i)).length ≤ 22 := by
  refine ⟨?_, ?_⟩
  · show decide (i.natAbs.log2 < 1920) = true
    refine decide_eq_true ?_
    by_cases z : i.natAbs = 0
    · rw [z]
      decide
    · have : i.natAbs.log2 < 70 := (Nat.log2_lt z).mpr (by
        have : (10 : Nat) ^ 21 < 2 ^ 70 := by decide
        omega)
      omega
  · show (Str.ofString (toString i)).length ≤ 22
    rw [PySem.ofString_length]
    cases i with
    | ofNat n =>
      show (Nat.repr n).length ≤ 22
      exact Nat.le_trans ((Nat.length_repr_le_iff (by decide)).mpr (show n < 10 ^ 21 from h)) (by decide)
    | negSucc n =>
      show (("-" : String) ++ Nat.repr (n + 1)).length ≤ 22
      rw [String.length_append]
      have : (Nat.repr (n + 1)).length ≤ 21 := (Nat.length_repr_le_iff (by decide)).mpr (show n + 1 < 10 ^ 21 from h)
      have e : ("-" : String).length = 1 := rfl
      omega
mutual
theorem okD_shown : ∀ {d : PyData}, okD d = true → d.showable = true ∧ d.hasDict = false ∧ d.shown.length + 2 ≤ 68 * wt d
  | .none, _ => ⟨rfl, rfl, by decide⟩
  | .bool b, _ => ⟨rfl, rfl, by cases b <;> decide⟩
  | .int i, h => by
    obtain ⟨h1, h2⟩ := okD_int (of_decide_eq_true h)
    refine ⟨h1, rfl, ?_⟩
    show _ ≤ 68 * 1
    omega
  | .str z, h => by
    have h : (reprText z).length ≤ 62 := of_decide_eq_true h
    refine ⟨rfl, rfl, ?_⟩
    show (reprText z).length + 2 ≤ 68 * 1
    omega
  | .list ds, h => by
    obtain ⟨h1, h2, h3⟩ := okAll_shown (ds := ds) h
    refine ⟨h1, h2, ?_⟩
    have := listText_le (PyData.shownAll ds)
    show (listText (PyData.shownAll ds)).length + 2 ≤ 68 * (wtAll ds + 1)
    omega
  | .tuple ds, h => by
    obtain ⟨h1, h2, h3⟩ := okAll_shown (ds := ds) h
    refine ⟨h1, h2, ?_⟩
    have := tupleText_le (PyData.shownAll ds)
    show (tupleText (PyData.shownAll ds)).length + 2 ≤ 68 * (wtAll ds + 1)
    omega
  | .dict _, h => nomatch h
theorem okAll_shown : ∀ {ds : List PyData}, okAll ds = true → PyData.showableAll ds = true ∧ PyData.hasDictAll ds = false ∧ piled (PyData.shownAll ds) ≤ 68 * wtAll ds
  | [], _ => ⟨rfl, rfl, Nat.zero_le _⟩
  | d :: ds, h => by
    have h : (okD d && okAll ds) = true := h
    rw [Bool.and_eq_true] at h
    obtain ⟨f1, f2, f3⟩ := okD_shown h.1
    obtain ⟨g1, g2, g3⟩ := okAll_shown h.2
    refine ⟨?_, ?_, ?_⟩
    · show (PyData.showable d && PyData.showableAll ds) = true
      rw [f1, g1]
      rfl
    · show (PyData.hasDict d || PyData.hasDictAll ds) = false
      rw [f2, g2]
      rfl
    · show piled (PyData.shown d :: PyData.shownAll ds) ≤ 68 * (wt d + wtAll ds)
      rw [piled_cons]
      omega
end
mutual
theorem okD_sm : ∀ {d : PyData} {n : Nat}, okD d = true → d.depth ≤ n → wt d ≤ 500 → Sm n d
  | .none, n, _, _, _ => .non n
  | .bool b, n, _, _, _ => .bl n b
  | .int i, n, _, _, _ => .int n i
  | .str z, n, _, _, _ => .str n z
  | .list ds, 0, _, h, _ => absurd h (by show ¬ PyData.depthAll ds + 1 ≤ 0; omega)
  | .list ds, n + 1, h1, h2, h3 => by
    have h2 : PyData.depthAll ds + 1 ≤ n + 1 := h2
    have h3 : wtAll ds + 1 ≤ 500 := h3
    have := wtAll_len ds
    exact .lst n (by omega) (okAll_sm (ds := ds) h1 (by omega) (by omega))
  | .tuple ds, 0, _, h, _ => absurd h (by show ¬ PyData.depthAll ds + 1 ≤ 0; omega)
  | .tuple ds, n + 1, h1, h2, h3 => by
    have h2 : PyData.depthAll ds + 1 ≤ n + 1 := h2
    have h3 : wtAll ds + 1 ≤ 500 := h3
    have := wtAll_len ds
    exact .tup n (by omega) (okAll_sm (ds := ds) h1 (by omega) (by omega))
  | .dict _, n, h, _, _ => nomatch h
theorem okAll_sm : ∀ {ds : List PyData} {n : Nat}, okAll ds = true → PyData.depthAll ds ≤ n → wtAll ds ≤ 500 → ∀ d ∈ ds, Sm n d
  | [], _, _, _, _ => fun d hd => nomatch hd
  | d :: ds, n, h1, h2, h3 => by
    have h1 : (okD d && okAll ds) = true := h1
    rw [Bool.and_eq_true] at h1
    have h2 : max (PyData.depth d) (PyData.depthAll ds) ≤ n := h2
    have h3 : wt d + wtAll ds ≤ 500 := h3
    have a1 := okD_sm (d := d) (n := n) h1.1 (by omega) (by omega)
    have a2 := okAll_sm (ds := ds) (n := n) h1.2 (by omega) (by omega)
    intro x hx
    rcases List.mem_cons.mp hx with e | hx
    · rw [e]
      exact a1
    · exact a2 x hx
end
structure TB (n k : Nat) (d : PyData) : Prop where
  ok : okD d = true
  dp : d.depth ≤ n
  wt : wt d ≤ k
structure TBs (n k : Nat) (ds : List PyData) : Prop where
  ok : okAll ds = true
  dp : PyData.depthAll ds ≤ n
  wt : wtAll ds ≤ k
theorem TB.mono {n m k j : Nat} {d : PyData} (h : TB n k d) (hn : n ≤ m) (hk : k ≤ j) : TB m j d := ⟨h.ok, Nat.le_trans h.dp hn, Nat.le_trans h.wt hk⟩
theorem TBs.mono {n m k j : Nat} {ds : List PyData} (h : TBs n k ds) (hn : n ≤ m) (hk : k ≤ j) : TBs m j ds := ⟨h.ok, Nat.le_trans h.dp hn, Nat.le_trans h.wt hk⟩
theorem TBs.nil {n : Nat} : TBs n 0 [] := ⟨rfl, Nat.zero_le _, Nat.le_refl _⟩
theorem TBs.cons {n k j : Nat} {d : PyData} {ds : List PyData} (h : TB n k d) (a : TBs n j ds) : TBs n (k + j) (d :: ds) := by
  refine ⟨?_, ?_, ?_⟩
  · show (okD d && okAll ds) = true
    rw [h.ok, a.ok]
    rfl
  · show max d.depth (PyData.depthAll ds) ≤ n
    have := h.dp
    have := a.dp
    omega
  · show Thr.wt d + wtAll ds ≤ k + j
    have := h.wt
    have := a.wt
    omega
theorem TBs.len {n k : Nat} {ds : List PyData} (h : TBs n k ds) : ds.length ≤ k := Nat.le_trans (wtAll_len ds) h.wt
theorem TBs.tup {n k : Nat} {ds : List PyData} (h : TBs n k ds) : TB (n + 1) (k + 1) (.tuple ds) := ⟨h.ok, Nat.succ_le_succ h.dp, Nat.succ_le_succ h.wt⟩
theorem TBs.lst {n k : Nat} {ds : List PyData} (h : TBs n k ds) : TB (n + 1) (k + 1) (.list ds) := ⟨h.ok, Nat.succ_le_succ h.dp, Nat.succ_le_succ h.wt⟩
theorem TB.sm {n k : Nat} {d : PyData} (h : TB n k d) (hk : k ≤ 500) : Sm n d := okD_sm h.ok h.dp (Nat.le_trans h.wt hk)
theorem TBs.mem {n k : Nat} : ∀ {ds : List PyData}, TBs n k ds → ∀ d ∈ ds, TB n k d
  | [], _, d, hd => nomatch hd
  | e :: ds, h, d, hd => by
    have h1 : (okD e && okAll ds) = true := h.ok
    rw [Bool.and_eq_true] at h1
    have h2 : max e.depth (PyData.depthAll ds) ≤ n := h.dp
    have h3 : Thr.wt e + wtAll ds ≤ k := h.wt
    rcases List.mem_cons.mp hd with rfl | hd
    · exact ⟨h1.1, by omega, by omega⟩
    · exact TBs.mem (k := k) ⟨h1.2, by omega, by omega⟩ d hd
theorem TBs.app {n k j : Nat} : ∀ {ds es : List PyData}, TBs n k ds → TBs n j es → TBs n (k + j) (ds ++ es)
  | [], es, h, a => a.mono (Nat.le_refl _) (Nat.le_add_left _ _)
  | d :: ds, es, h, a => by
    have h1 : (okD d && okAll ds) = true := h.ok
    rw [Bool.and_eq_true] at h1
    have h2 : max d.depth (PyData.depthAll ds) ≤ n := h.dp
    have h3 : Thr.wt d + wtAll ds ≤ k := h.wt
    have r : TBs n (wtAll ds + j) (ds ++ es) := TBs.app (k := wtAll ds) ⟨h1.2, by omega, Nat.le_refl _⟩ a
    have d0 : TB n (Thr.wt d) d := ⟨h1.1, by omega, Nat.le_refl _⟩
    exact (TBs.cons d0 r).mono (Nat.le_refl _) (by omega)
/-! ### off the box -/
section
variable {K : PySem.W.Frag} {a : Addr} {H H' : Hp}
theorem del_but (b : But a H H') : Same (del H a) (del H' a) := fun c o e => by
  by_cases z : c = a
  · rw [z, del_same] at e
    cases e
  · rw [del_ne z] at e ⊢
    exact b c o z e
theorem del_sub : Same (del H a) H := fun c o e => by
  by_cases z : c = a
  · rw [z, del_same] at e
    cases e
  · rw [del_ne z] at e
    exact e
theorem del_new {p : Addr} {o : HO} (ha : H a ≠ none) (hp : H p = none) : del (upd H p o) a p = some o := by
  have n : p ≠ a := fun z => ha (by rw [← z]; exact hp)
  rw [del_ne n, upd_same]
theorem del_keep {b : List V} (ha : H a = some (.lst b)) : KeepT H (del H a) := fun c o t h => by
  rw [del_ne (fun z => by
    rw [z, ha] at h
    cases h
    exact lst_no t)]
  exact h
theorem del_nw {o : HO} (ha : H a = some o) : Same (Nw H H') (del H' a) := fun c x e => by
  obtain ⟨h1, h2⟩ := Nw.get e
  rw [del_ne (fun z => by rw [z, ha] at h1; cases h1)]
  exact h2
end
def Bx (a : Addr) (m : Nat) (H : Hp) : Prop := ∃ b, H a = some (.lst b) ∧ BoxL m b
theorem Bx.ne {a : Addr} {m : Nat} {H : Hp} (h : Bx a m H) : H a ≠ none := by
  obtain ⟨b, h, _⟩ := h
  rw [h]
  simp
theorem Bx.same {a : Addr} {m : Nat} {H H' : Hp} (h : Bx a m H) (s : Same H H') : Bx a m H' := by
  obtain ⟨b, h, hb⟩ := h
  exact ⟨b, s _ _ h, hb⟩
theorem Bx.mono {a : Addr} {m n : Nat} {H : Hp} (h : Bx a m H) (l : m ≤ n) : Bx a n H := by
  obtain ⟨b, h, hb⟩ := h
  exact ⟨b, h, hb.mono l⟩
/-! ### what is made of such data, draws between -/
def tEv (K : PySem.W.Frag) (a : Addr) (c n k : Nat) (pre : L2.St → Hp → Prop) : TE := fun σ H Q => ∃ m, Bx a m H ∧ m + c < 900000 ∧ pre σ H ∧ ∀ H' v d, But a H H' → Bx a (m + c) H' → Dp K (del H' a) v d → TB n k d → Q v H'
def tEvs (K : PySem.W.Frag) (a : Addr) (c n k L : Nat) (pre : L2.St → Hp → Prop) : TA := fun σ H Q => ∃ m, Bx a m H ∧ m + c < 900000 ∧ pre σ H ∧ ∀ H' vs ds, But a H H' → Bx a (m + c) H' → DpAll K (del H' a) vs ds → TBs n k ds → vs.length = L → Q vs H'
def tEvm (K : PySem.W.Frag) (a : Addr) (c n k L : Nat) (pre : L2.St → Hp → Prop) : TA := fun σ H Q => ∃ m, Bx a m H ∧ m + c < 900000 ∧ pre σ H ∧ ∀ H' vs ds, But a H H' → Bx a (m + c) H' → DpAll K (del H' a) vs ds → (∀ d ∈ ds, TB n k d) → vs.length = L → Q vs H'
def Stb (a : Addr) (pre : L2.St → Hp → Prop) : Prop := ∀ σ H H' m, But a H H' → Bx a m H → pre σ H → pre σ H'
section
variable {X : Cx} {a : Addr} {c c' n k k' L : Nat} {pre : L2.St → Hp → Prop} {e : Expr} {es : List Expr} {pos : Pos}
theorem ev_of {t : TE} (he : PE X e t) (h : ∀ σ H Q, tEv X.K a c n k pre σ H Q → t σ H Q) : PE X e (tEv X.K a c n k pre) := ⟨fun pins s σ H Q I q => he.run pins s σ H Q I (h σ H Q q)⟩
theorem ev_val {t : TE} {v : V} {d : PyData} (he : PE X e t) (hd : ∀ H, Dp X.K H v d) (hb : TB n k d) (h : ∀ σ H (Q : VK), Q v H → t σ H Q) : PE X e (tEv X.K a 0 n k pre) :=
  ev_of he fun σ H Q ⟨m, hB, hm, _, q⟩ => h σ H Q (q H v d (But.refl a H) hB (hd _) hb)
theorem ev_var {i : Nat} {x : Str} {p : Pos} (he : PE X (.Name x p) (tVar i)) (hp : ∀ σ H, pre σ H → ∃ v d, σ[i]? = some (some v) ∧ Dp X.K (del H a) v d ∧ TB n k d) : PE X (.Name x p) (tEv X.K a 0 n k pre) :=
  ev_of he fun σ H Q ⟨m, hB, hm, hpre, q⟩ => by
    obtain ⟨v, d, h1, h2, h3⟩ := hp σ H hpre
    exact ⟨v, h1, q H v d (But.refl a H) hB h2 h3⟩
theorem ev_nil : PA X [] (tEvs X.K a 0 n 0 0 pre) := ⟨fun pos pins s σ H Q I ⟨m, hB, hm, _, q⟩ => pa_nil.run pos pins s σ H Q I (q H [] [] (But.refl a H) hB .nil .nil rfl)⟩
theorem ev_cons (hst : Stb a pre) (he : PE X e (tEv X.K a c n k pre)) (ha : PA X es (tEvs X.K a c' n k' L pre)) (hs : starEach (e :: es) X.env = (false, eval e X.env) :: starEach es X.env := by rfl) : PA X (e :: es) (tEvs X.K a (c + c') n (k + k') (L + 1) pre) := by
  refine ⟨fun pos pins s σ H Q I ⟨m, hB, hm, hpre, q⟩ => (pa_cons he ha hs).run pos pins s σ H Q I ?_⟩
  refine ⟨m, hB, by omega, hpre, fun H1 v d b1 hB1 hd ht => ⟨m + c, hB1, by omega, hst σ H H1 m b1 hB hpre, fun H2 vs ds b2 hB2 hds hts hL => ?_⟩⟩
  refine q H2 (v :: vs) (d :: ds) (b1.trans b2) (by rw [← Nat.add_assoc]; exact hB2) (.cons (dp_same (del_but b2) hd) hds) (.cons ht hts) (by rw [List.length_cons, hL])
theorem ev_tup {x1} (h : PA X es (tEvs X.K a c n k L pre)) (hk : k ≤ 1000) : PE X (.Tuple es x1 pos) (tEv X.K a c (n + 1) (k + 1) pre) := by
  refine ev_of (pe_tup h) fun σ H Q ⟨m, hB, hm, hpre, q⟩ => ⟨m, hB, hm, hpre, fun H1 vs ds b1 hB1 hds hts _ => ⟨?_, fun p np => ?_⟩⟩
  · rw [dpAll_len hds]
    exact Nat.le_trans hts.len (Nat.le_trans hk (by decide))
  · have s1 := same_upd (o := .tup vs) np
    exact q _ (.ref p) (.tuple ds) (b1.trans (But.of s1)) (hB1.same s1) (.tup (SqT.of (del_new hB1.ne np)) (dpAll_same (del_but (But.of s1)) hds)) hts.tup
theorem ev_lst (h : PA X es (tEvs X.K a c n k L pre)) (hk : k ≤ 1000) : PE X (.List es pos) (tEv X.K a c (n + 1) (k + 1) pre) := by
  refine ev_of (pe_lst h) fun σ H Q ⟨m, hB, hm, hpre, q⟩ => ⟨m, hB, hm, hpre, fun H1 vs ds b1 hB1 hds hts _ => ⟨?_, fun p np => ?_⟩⟩
  · rw [dpAll_len hds]
    exact Nat.le_trans hts.len (Nat.le_trans hk (by decide))
  · have s1 := same_upd (o := .lst vs) np
    exact q _ (.ref p) (.list ds) (b1.trans (But.of s1)) (hB1.same s1) (.lst (SqL.of (del_new hB1.ne np)) (dpAll_same (del_but (But.of s1)) hds)) hts.lst
theorem ev_up {c2 n2 k2 : Nat} (he : PE X e (tEv X.K a c n k pre)) (hc : c ≤ c2) (hn : n ≤ n2) (hk : k ≤ k2) : PE X e (tEv X.K a c2 n2 k2 pre) :=
  ev_of he fun σ H Q ⟨m, hB, hm, hpre, q⟩ => ⟨m, hB, by omega, hpre, fun H1 v d b1 hB1 hd ht => q H1 v d b1 (hB1.mono (by omega)) hd (ht.mono hn hk)⟩
theorem evm_nil : PA X [] (tEvm X.K a 0 n k 0 pre) := ⟨fun pos pins s σ H Q I ⟨m, hB, hm, _, q⟩ => pa_nil.run pos pins s σ H Q I (q H [] [] (But.refl a H) hB .nil (fun _ h => nomatch h) rfl)⟩
theorem evm_cons (hst : Stb a pre) (he : PE X e (tEv X.K a c n k pre)) (ha : PA X es (tEvm X.K a c' n k L pre)) (hs : starEach (e :: es) X.env = (false, eval e X.env) :: starEach es X.env := by rfl) : PA X (e :: es) (tEvm X.K a (c + c') n k (L + 1) pre) := by
  refine ⟨fun pos pins s σ H Q I ⟨m, hB, hm, hpre, q⟩ => (pa_cons he ha hs).run pos pins s σ H Q I ?_⟩
  refine ⟨m, hB, by omega, hpre, fun H1 v d b1 hB1 hd ht => ⟨m + c, hB1, by omega, hst σ H H1 m b1 hB hpre, fun H2 vs ds b2 hB2 hds hts hL => ?_⟩⟩
  refine q H2 (v :: vs) (d :: ds) (b1.trans b2) (by rw [← Nat.add_assoc]; exact hB2) (.cons (dp_same (del_but b2) hd) hds) (fun x hx => ?_) (by rw [List.length_cons, hL])
  rcases List.mem_cons.mp hx with rfl | hx
  · exact ht
  · exact hts x hx
end
/-! ### how long the texts of names, numbers, rows are -/
theorem nm_text {z : Str} (h : Nm z) : (reprText z).length ≤ 62 := by
  obtain ⟨w, rfl, hw⟩ := h
  have := StrLaws.reprText_len (SX.S w) (fun c hc => Nat.lt_trans (let_small (hw.1.2.2 c hc)) (by decide))
  have hl := SX.S_len w
  have := hw.1.2.1
  omega
theorem tb_str {n : Nat} {z : Str} (h : Nm z) : TB n 1 (.str z) := ⟨decide_eq_true (nm_text h), Nat.zero_le _, Nat.le_refl _⟩
theorem tb_int {n : Nat} {i : Int} (h0 : 0 ≤ i) (h1 : i < 1000000) : TB n 1 (.int i) := ⟨decide_eq_true (by
  have : (1000000 : Nat) < 10 ^ 21 := by decide
  omega), Nat.zero_le _, Nat.le_refl _⟩
theorem tb_nm {n : Nat} {w : List Nat} (h : NmOk w) : TB n 1 (strD w) := tb_str ⟨w, rfl, h⟩
theorem tbs_nms {n : Nat} : ∀ {ws : List (List Nat)}, (∀ w ∈ ws, NmOk w) → TBs n ws.length (ws.map strD)
  | [], _ => TBs.nil
  | w :: ws, h => (TBs.cons (tb_nm (h w (List.mem_cons_self ..))) (tbs_nms fun v hv => h v (List.mem_cons_of_mem _ hv))).mono (Nat.le_refl _) (by rw [List.length_cons]; omega)
theorem tbs_all {n k : Nat} : ∀ {ds : List PyData}, (∀ d ∈ ds, TB n k d) → TBs n (ds.length * k) ds
  | [], _ => by
    rw [List.length_nil, Nat.zero_mul]
    exact TBs.nil
  | d :: ds, h => by
    have h1 := TBs.cons (h d (List.mem_cons_self ..)) (tbs_all fun v hv => h v (List.mem_cons_of_mem _ hv))
    rw [List.length_cons, Nat.succ_mul, Nat.add_comm]
    exact h1
theorem srow_tb {r : SRow} (h : SOk r) : TB 2 8 r.d := by
  have a1 := tbs_nms (n := 0) (ws := r.dn) fun w hw => h.all w (List.mem_append_left _ hw)
  have a2 := tbs_nms (n := 0) (ws := r.up) fun w hw => h.all w (List.mem_append_right _ hw)
  have d2 := h.d2
  have u2 := h.u2
  exact (TBs.tup (TBs.cons (tb_nm h.nm) (TBs.cons a1.tup (TBs.cons a2.tup TBs.nil)))).mono (by omega) (by omega)
theorem mrow_tb {rs : List SRow} {m : MRow} (so : SortsOk rs) (h : MOk rs m) : TB 2 6 m.d := by
  have nk : ∀ k ∈ m.places, NmOk k := fun k hk => by
    obtain ⟨r, hr, e⟩ := h.so k hk
    rw [← e]
    exact (so.ok r hr).nm
  have a1 := tbs_nms (n := 0) (ws := m.pt) fun w hw => nk w (List.mem_cons_of_mem _ hw)
  have p2 := h.p2
  exact (TBs.tup (TBs.cons (tb_nm h.nm) (TBs.cons (tb_nm (nk m.so (List.mem_cons_self ..))) (TBs.cons a1.tup TBs.nil)))).mono (by omega) (by omega)
theorem at_tb {rs : List SRow} {m : MRow} {p : Nat} {w : List Nat} {b : Bool} (so : SortsOk rs) (hm : MOk rs m) (h : AtOf rs m p w b) : TB 1 4 (En.d (.sp p w)) := by
  obtain ⟨k, r, h1, h2, h3, h4⟩ := h
  have hp : p < m.places.length := (List.getElem?_eq_some_iff.mp h1).1
  have hp : p < m.pt.length + 1 := hp
  have p2 := hm.p2
  have hw : NmOk w := (so.ok r h2).all w (by
    cases b with
    | true => exact List.mem_append_right _ h4
    | false => exact List.mem_append_left _ h4)
  exact (TBs.tup (TBs.cons (n := 0) (k := 1) (d := .str "at") ⟨by decide +kernel, Nat.zero_le _, Nat.le_refl _⟩ (TBs.cons (tb_int (i := (p : Nat)) (by omega) (by omega)) (TBs.cons (tb_nm hw) TBs.nil)))).mono (by omega) (by omega)
theorem kept_tb {w : List Nat} (h : NmOk w) : TB 1 4 (En.d (.kept w)) :=
  (TBs.tup (TBs.cons (n := 0) (k := 1) (d := .str "kept") ⟨by decide +kernel, Nat.zero_le _, Nat.le_refl _⟩ (TBs.cons (tb_nm h) TBs.nil))).mono (by omega) (by omega)
theorem tg_tb {rs : List SRow} {m : MRow} {e : En} (so : SortsOk rs) (hm : MOk rs m) (h : TgOk rs m e) : TB 1 4 e.d := by
  cases e with
  | sp p w => exact at_tb so hm h
  | kept w => exact kept_tb h.1
theorem od_tb {rs : List SRow} {m : MRow} {o : Od} (so : SortsOk rs) (hm : MOk rs m) (h : OdOk rs m o) : TB 1 4 o.d := by
  cases o with
  | en e =>
    cases e with
    | sp p w => exact at_tb so hm h
    | kept w => exact kept_tb h.1
  | own => exact ⟨by decide +kernel, by decide, by decide⟩
  | num n =>
    have h : n < 1000000 := h
    exact (TBs.tup (TBs.cons (n := 0) (k := 1) (d := .str "number") ⟨by decide +kernel, Nat.zero_le _, Nat.le_refl _⟩ (TBs.cons (tb_int (i := (n : Nat)) (by omega) (by omega)) TBs.nil))).mono (by omega) (by omega)
theorem rrow_tb {rs : List SRow} {ms : List MRow} {roof : Nat} {r : RRow} (so : SortsOk rs) (hm : ∀ m ∈ ms, MOk rs m) (h : RuleOk rs ms roof r) : TB 3 20 r.d := by
  obtain ⟨mr, hmr, e, ht, ho⟩ := h.ex
  obtain ⟨o, eo, ea, _⟩ := op_of h.op
  have n3 := op_n3 o
  have lo : r.os.length ≤ 3 := by rw [h.ar, ea]; exact n3
  have a1 : TBs 1 ((r.os.map Od.d).length * 4) (r.os.map Od.d) := tbs_all fun d hd => by
    obtain ⟨x, hx, rfl⟩ := List.mem_map.mp hd
    exact od_tb so (hm mr hmr) (ho x hx)
  rw [List.length_map] at a1
  have top : TB 2 1 (strD r.op) := by
    refine ⟨?_, Nat.zero_le _, Nat.le_refl _⟩
    show decide ((reprText (SX.S r.op)).length ≤ 62) = true
    rw [eo]
    cases o <;> decide +kernel
  have tma : TB 2 1 (strD r.ma) := by
    rw [e]
    exact tb_nm (hm mr hmr).nm
  exact (TBs.tup (TBs.cons tma (TBs.cons ((tg_tb so (hm mr hmr) ht).mono (by omega) (Nat.le_refl _)) (TBs.cons top (TBs.cons a1.tup TBs.nil))))).mono (by omega) (by omega)
/-- all rows of a grammar -/
def gramD (rs : List SRow) (ms : List MRow) (ru : List RRow) : PyData := .list [.list (rs.map SRow.d), .list (ms.map MRow.d), .list (ru.map RRow.d)]
theorem gram_tb {rs : List SRow} {ms : List MRow} {ru : List RRow} {roof : Nat} (g : GFit rs ms ru roof) : TB 5 4900 (gramD rs ms ru) := by
  have a1 : TBs 3 _ (rs.map SRow.d) := tbs_all (k := 8) fun d hd => by
    obtain ⟨x, hx, rfl⟩ := List.mem_map.mp hd
    exact (srow_tb (g.so.ok x hx)).mono (by omega) (Nat.le_refl _)
  have a2 : TBs 3 _ (ms.map MRow.d) := tbs_all (k := 6) fun d hd => by
    obtain ⟨x, hx, rfl⟩ := List.mem_map.mp hd
    exact (mrow_tb g.so (g.ok x hx)).mono (by omega) (Nat.le_refl _)
  have a3 : TBs 3 _ (ru.map RRow.d) := tbs_all (k := 20) fun d hd => by
    obtain ⟨x, hx, rfl⟩ := List.mem_map.mp hd
    exact rrow_tb g.so g.ok (g.ra x hx)
  rw [List.length_map] at a1 a2 a3
  have l1 := g.so.le
  have l2 := g.m8
  have l3 := g.rl
  exact (TBs.lst (TBs.cons a1.lst (TBs.cons a2.lst (TBs.cons a3.lst TBs.nil)))).mono (by omega) (by omega)
theorem tb_show {n k : Nat} {d : PyData} (h : TB n k d) (hn : n ≤ 100) (hk : k ≤ 200000) : d.showable = true ∧ d.hasDict = false ∧ d.depth ≤ 100 ∧ d.shown.length ≤ sizeLine := by
  obtain ⟨w1, w2, w3⟩ := okD_shown h.ok
  refine ⟨w1, w2, Nat.le_trans h.dp hn, ?_⟩
  have := h.wt
  exact Nat.le_trans (show _ ≤ 68 * 200000 from by omega) (by decide)
/-! ### rows can be compared -/
theorem lay_cons {d : PyData} {ds : List PyData} (h : d.canLay0 = true) (a : PyData.canLayAll0 ds = true) : PyData.canLayAll0 (d :: ds) = true := by
  show (PyData.canLay0 d && PyData.canLayAll0 ds) = true
  rw [h, a]
  rfl
theorem lay_each : ∀ {ds : List PyData}, (∀ d ∈ ds, PyData.canLay0 d = true) → PyData.canLayAll0 ds = true
  | [], _ => rfl
  | d :: ds, h => lay_cons (h d List.mem_cons_self) (lay_each fun x hx => h x (List.mem_cons_of_mem _ hx))
theorem depth_each {n : Nat} : ∀ {ds : List PyData}, (∀ d ∈ ds, PyData.depth d ≤ n) → PyData.depthAll ds ≤ n
  | [], _ => Nat.zero_le _
  | d :: ds, h => by
    show max (PyData.depth d) (PyData.depthAll ds) ≤ n
    have h1 := h d List.mem_cons_self
    have h2 := depth_each (ds := ds) fun x hx => h x (List.mem_cons_of_mem _ hx)
    omega
theorem nm_lay {w : List Nat} (h : NmOk w) : PyData.canLay0 (strD w) = true := str_ok (nm_small h)
theorem nms_lay {ws : List (List Nat)} (h : ∀ w ∈ ws, NmOk w) : PyData.canLay0 (.tuple (ws.map strD)) = true := lay_each fun d hd => by
  obtain ⟨w, hw, rfl⟩ := List.mem_map.mp hd
  exact nm_lay (h w hw)
theorem srow_lay {r : SRow} (h : SOk r) : PyData.canLay0 r.d = true := lay_cons (nm_lay h.nm) (lay_cons (nms_lay fun w hw => h.all w (List.mem_append_left _ hw)) (lay_cons (nms_lay fun w hw => h.all w (List.mem_append_right _ hw)) rfl))
theorem mrow_lay {rs : List SRow} {m : MRow} (so : SortsOk rs) (h : MOk rs m) : PyData.canLay0 m.d = true := by
  have nk : ∀ k ∈ m.places, NmOk k := fun k hk => by
    obtain ⟨r', hr', e'⟩ := h.so k hk
    rw [← e']
    exact (so.ok r' hr').nm
  exact lay_cons (nm_lay h.nm) (lay_cons (nm_lay (nk m.so (List.mem_cons_self ..))) (lay_cons (nms_lay fun w hw => nk w (List.mem_cons_of_mem _ hw)) rfl))
theorem at_lay {rs : List SRow} {m : MRow} {p : Nat} {w : List Nat} {b : Bool} (so : SortsOk rs) (h : AtOf rs m p w b) : PyData.canLay0 (En.d (.sp p w)) = true := by
  refine (en_lay (e := .sp p w) ?_).1
  obtain ⟨k, r, h1, h2, h3, h4⟩ := h
  refine nm_small ((so.ok r h2).all w ?_)
  cases b with
  | true => exact List.mem_append_right _ h4
  | false => exact List.mem_append_left _ h4
theorem tg_lay {rs : List SRow} {m : MRow} {e : En} (so : SortsOk rs) (h : TgOk rs m e) : PyData.canLay0 e.d = true := by
  cases e with
  | sp p w => exact at_lay so h
  | kept w => exact (en_lay (e := .kept w) (nm_small h.1)).1
theorem od_lay {rs : List SRow} {m : MRow} {o : Od} (so : SortsOk rs) (h : OdOk rs m o) : PyData.canLay0 o.d = true := by
  cases o with
  | en e =>
    cases e with
    | sp p w => exact at_lay so h
    | kept w => exact (en_lay (e := .kept w) (nm_small h.1)).1
  | own => decide +kernel
  | num n =>
    refine lay_cons ?_ (lay_cons rfl rfl)
    decide +kernel
theorem rrow_lay {rs : List SRow} {ms : List MRow} {roof : Nat} {r : RRow} (so : SortsOk rs) (hm : ∀ m ∈ ms, MOk rs m) (h : RuleOk rs ms roof r) : PyData.canLay0 r.d = true := by
  obtain ⟨mr, hmr, e, ht, ho⟩ := h.ex
  obtain ⟨o, eo, ea, _⟩ := op_of h.op
  have top : PyData.canLay0 (strD r.op) = true := by
    show PyData.strOk (SX.S r.op) = true
    rw [eo]
    cases o <;> decide +kernel
  have tma : PyData.canLay0 (strD r.ma) = true := by
    rw [e]
    exact nm_lay (hm mr hmr).nm
  exact lay_cons tma (lay_cons (tg_lay so ht) (lay_cons top (lay_cons (lay_each fun d hd => by
    obtain ⟨x, hx, rfl⟩ := List.mem_map.mp hd
    exact od_lay so (ho x hx)) rfl)))
theorem srtR_mem {ds : List PyData} {d : PyData} (h : d ∈ srtR ds) : d ∈ ds := by
  unfold srtR at h
  by_cases hx : ∃ es, rowsIn ds es
  · rw [dif_pos hx] at h
    exact hx.choose_spec.1.mem_iff.mp h
  · rw [dif_neg hx] at h
    cases h
theorem risen_shape {rs : List SRow} {ms : List MRow} {ru : List RRow} {roof : Nat} (g : GFit rs ms ru roof) : SeqAt.shaped (.tuple [.int (roof : Nat), .list (srtR (rs.map SRow.d)), .list (srtR (ms.map MRow.d)), .list (srtR (ru.map RRow.d))]) = true := by
  have hs : ∀ d ∈ srtR (rs.map SRow.d), PyData.canLay0 d = true ∧ PyData.depth d ≤ 20 := fun d hd => by
    obtain ⟨r, hr, rfl⟩ := List.mem_map.mp (srtR_mem hd)
    exact ⟨srow_lay (g.so.ok r hr), Nat.le_trans (srow_tb (g.so.ok r hr)).dp (by decide)⟩
  have hm : ∀ d ∈ srtR (ms.map MRow.d), PyData.canLay0 d = true ∧ PyData.depth d ≤ 20 := fun d hd => by
    obtain ⟨r, hr, rfl⟩ := List.mem_map.mp (srtR_mem hd)
    exact ⟨mrow_lay g.so (g.ok r hr), Nat.le_trans (mrow_tb g.so (g.ok r hr)).dp (by decide)⟩
  have hr : ∀ d ∈ srtR (ru.map RRow.d), PyData.canLay0 d = true ∧ PyData.depth d ≤ 20 := fun d hd => by
    obtain ⟨r, hr, rfl⟩ := List.mem_map.mp (srtR_mem hd)
    exact ⟨rrow_lay g.so g.ok (g.ra r hr), Nat.le_trans (rrow_tb g.so g.ok (g.ra r hr)).dp (by decide)⟩
  have l1 : PyData.canLay0 (.list (srtR (rs.map SRow.d))) = true := lay_each fun d hd => (hs d hd).1
  have l2 : PyData.canLay0 (.list (srtR (ms.map MRow.d))) = true := lay_each fun d hd => (hm d hd).1
  have l3 : PyData.canLay0 (.list (srtR (ru.map RRow.d))) = true := lay_each fun d hd => (hr d hd).1
  have d1 := depth_each fun d hd => (hs d hd).2
  have d2 := depth_each fun d hd => (hm d hd).2
  have d3 := depth_each fun d hd => (hr d hd).2
  unfold SeqAt.shaped
  rw [show PyData.canLay0 (.tuple [.int (roof : Nat), .list (srtR (rs.map SRow.d)), .list (srtR (ms.map MRow.d)), .list (srtR (ru.map RRow.d))]) = true from lay_cons rfl (lay_cons l1 (lay_cons l2 (lay_cons l3 rfl))), decide_eq_true (show PyData.depth (.tuple [.int (roof : Nat), .list (srtR (rs.map SRow.d)), .list (srtR (ms.map MRow.d)), .list (srtR (ru.map RRow.d))]) ≤ 64 from by
    show max 0 (max (PyData.depthAll (srtR (rs.map SRow.d)) + 1) (max (PyData.depthAll (srtR (ms.map MRow.d)) + 1) (max (PyData.depthAll (srtR (ru.map RRow.d)) + 1) 0))) + 1 ≤ 64
    omega)]
  rfl
/-! ### == and != by an own __eq__, told exactly -/
def spEqX (R : Addr → Addr → Hp → Bool → Prop) : Sp := fun vs H Q _ => ∃ (a b : Addr) (c : Bool), vs = [.ref a, .ref b] ∧ R a b H c ∧ ∀ H', Same H H' → Q (.bl c) H'
def rEqX (C : Addr) (R : Addr → Addr → Hp → Bool → Prop) (neg : Bool) : R2 := fun x y H Q => ∃ (a b dx dy : Addr) (fs gs : List (Str × V)) (c : Bool), x = .ref a ∧ y = .ref b ∧ H a = some (.ins C dx fs) ∧ H b = some (.ins C dy gs) ∧ R a b H c ∧ ∀ H', Same H H' → Q (.bl (if neg then !c else c)) H'
section
variable {X : Cx} {n : Nat} {CX : CXT} {C f : Addr} {fd : FuncData} {ps : List Str} {R : Addr → Addr → Hp → Bool → Prop} {E : XK}
/-- the call of the own __eq__, at any place below -/
theorem call_eqX (F : FnOk X.prog X.w X.K X.mg X.base CX n f fd ps (spEqX R)) (hb : Binds X.K fd ps []) (hx : Passes CX X E) {A : Around} {pins : List (Addr × Obj)} {σ : L2.St} {H : Hp} {s : Shared} (sb : L2.Sub X n A) (I : Inv X pins σ H s) {a b : Addr} {c : Bool} (r : R a b H c) {Q : Value → Shared → Prop}
    (q : ∀ H' s', Inv X pins σ H' s' → Same H H' → Q (.bool c) s') : wpAny (model X.prog X.w) A (call (.ref f) [.ref a, .ref b]) Q X.xe s := by
  have hsp : spEqX R [.ref a, .ref b] H (fun v H' => v = .bl c ∧ Same H H') E := ⟨a, b, c, rfl, r, fun H' e => ⟨rfl, e⟩⟩
  have e0 : Env0 X.prog X.w X.K X.mg X.base A X.stack s H := by
    have e := I.env0
    exact ⟨by rw [sb.fr]; exact e.frames, e.mod, e.bs, e.bsz, e.funs, e.frf, e.hok, e.bare⟩
  have hl := F.len _ _ _ _ hsp
  have r2 : Vals [V.ref a, V.ref b] [Value.ref a, Value.ref b] := .cons rfl (.cons rfl .nil)
  refine wpAny_call (codeAny_mono (F.run A X.stack s H ⟨[.ref a, .ref b], []⟩ [.ref a, .ref b] [.ref a, .ref b] _ E sb.room e0 (by
    have := hb s [.ref a, .ref b] I.kIn (by simpa using hl)
    simpa using this) r2 hsp) fun r s' hq => ?_)
  cases r with
  | error e => exact hx pins σ H s e s' I hq
  | ok fl =>
    cases fl with
    | ret w =>
      obtain ⟨z, H', I', rz, ez, ex⟩ := I.after hq
      subst ez
      cases rz
      exact q H' s' I' ex
    | next => exact False.elim hq
    | brk => exact False.elim hq
    | cont => exact False.elim hq
theorem op_eqX (F : FnOk X.prog X.w X.K X.mg X.base CX n f fd ps (spEqX R)) (hs : PySem.W.findIn X.K (.ref C) "__eq__" = some (some (.ref f))) (hf : PySem.W.isFn X.K (.ref f) = true) (hb : Binds X.K fd ps []) (hx : Passes CX X E) (hr : Room n X.A) : OpR X (compareOp .Eq) (rEqX C R false) := by
  intro pins s σ H x y v u Q I rx ry h
  obtain ⟨a, b, dx, dy, fs, gs, c, rfl, rfl, ha, hb', hR, q⟩ := h
  cases rx
  cases ry
  obtain ⟨mA, J, _⟩ := ins_get I.hok ha
  obtain ⟨mB, J', _⟩ := ins_get I.hok hb'
  obtain ⟨od, J, _⟩ := J.look
  obtain ⟨od', J', _⟩ := J'.look
  obtain ⟨m, hF⟩ := I.fr
  show wpAny (model X.prog X.w) X.A (richCompare .Eq (.ref a) (.ref b)) (EP X pins σ Q) X.xe s
  refine PySem.W.cmp_K (op := .Eq) (tb := .ref C) hr.units0 hF I.ok.mod.kin J J'.type (by simp [PySem.W.notFirst]) hs hf ?_
  exact call_eqX F hb hx ⟨hr, rfl⟩ I hR fun H' s' I' e => ⟨.bl c, H', I', rfl, q H' e⟩
end
section
variable {M : Model} {prog : Program} {w : World} {A : Around} {E : Value → Shared → Prop} {s : Shared} {K : PySem.W.Frag} {x y C f : Addr} {ox : Obj} {od : Option Obj}
theorem ifBound_objNe {args : List Value} {Q : Option Value → Shared → Prop} (X : K.In s.heap) (I : PySem.W.InstAt s.heap x ox C od) (hs : PySem.W.findIn K (.ref C) "__ne__" = some (some (.builtin "object.__ne__")))
    (h : wpAny M A (call (.builtin "object.__ne__") (.ref x :: args)) (fun v => Q (some v)) E s) : wpAny M A (callSpecialIfBound? (.ref x) "__ne__" args) Q E s := by
  simp only [callSpecialIfBound?, bindSpecialIfBound?]
  refine wpAny_holding (wpAny_bind (wpAny_bind (wpAny_bind (I.type.here ((PySem.W.looks_findIn X hs).here ?_)))))
  refine wpAny_bind (wpAny_askSetting (wpAny_ite ?_))
  have fin : wpAny M A (call (.builtin "object.__ne__") ([.ref x] ++ args) >>= fun v => pure (some v)) Q E s := wpAny_bind (wpAny_mono h (fun v s' h' => wpAny_pure h') fun _ _ h' => h')
  split
  · exact wpAny_bind (wpAny_of_eq (F.cmp_object.ne.bind _) (wpAny_pure (by exact fin)))
  · exact wpAny_tryCatch (wpAny_bind (wpAny_of_eq (F.cmp_object.ne.bind _) (wpAny_pure (by exact fin))))
/-- object.__ne__: not what the own __eq__ tells -/
theorem entry_ne {Q : Fin → Shared → Prop} (hu : A.units < cLine) (X : K.In s.heap) (I : PySem.W.InstAt s.heap x ox C od) (hs : PySem.W.findIn K (.ref C) "__eq__" = some (some (.ref f))) (hf : PySem.W.isFn K (.ref f) = true)
    (h : wpAny M A (call (.ref f) [.ref x, .ref y]) (fun v s' => ∃ b, v = .bool b ∧ Q (.done (.ret (.bool (!b)))) s') E s) : wpAny M A (Builtin.«object.__ne__» ⟨[.ref x, .ref y], []⟩) Q E s := by
  unfold Builtin.«object.__ne__»
  repeat (first
    | with_reducible refine wpAny_cRoomFor hu ?_
    | (refine wpAny_bind (m := callSpecialIfBound? (.ref x) (Str.ofString "__eq__") [.ref y])
        (PySem.W.ifBound_K X I hs hf (wpAny_mono h (fun r s' hr => by
          obtain ⟨b, rfl, hq⟩ := hr
          repeat (first | exact hq | exact wpAny_pure hq | exact wpAny_truthy_bool hq | (refine wpAny_bind (m := truthy (.bool _)) (wpAny_truthy_bool ?_)) | wp_step)) fun _ _ e => e)))
    | wp_step)
theorem call_objNe {Q : Value → Shared → Prop} (hu : A.in1.units < cLine) (X : K.In s.heap) (I : PySem.W.InstAt s.heap x ox C od) (hm : PySem.W.mroIn K C (.type "object") = some true) (hs : PySem.W.findIn K (.ref C) "__eq__" = some (some (.ref f))) (hf : PySem.W.isFn K (.ref f) = true)
    (h : wpAny (model prog w) A.in1 (call (.ref f) [.ref x, .ref y]) (fun v s' => ∃ b, v = .bool b ∧ Q (.bool (!b)) s') E s) : wpAny (model prog w) A (call (.builtin "object.__ne__") [.ref x, .ref y]) Q E s :=
  wpAny_call (codeAny_call_builtin F.cmp_object.ne.plain F.cmpEntry_ne (PySem.W.check_slot F.cmpKind_ne F.cmpSplit_ne (I.type.andThen (PySem.W.looks_mroIn X hm)) (F.cmpArgs_ne _ _) (entry_ne hu X I hs hf h)))
end
section
variable {X : Cx} {n : Nat} {CX : CXT} {C f : Addr} {fd : FuncData} {ps : List Str} {R : Addr → Addr → Hp → Bool → Prop} {E : XK}
theorem op_neX (F : FnOk X.prog X.w X.K X.mg X.base CX n f fd ps (spEqX R)) (hs : PySem.W.findIn X.K (.ref C) "__eq__" = some (some (.ref f))) (hf : PySem.W.isFn X.K (.ref f) = true) (hn : PySem.W.findIn X.K (.ref C) "__ne__" = some (some (.builtin "object.__ne__"))) (hm : PySem.W.mroIn X.K C (.type "object") = some true) (hb : Binds X.K fd ps []) (hx : Passes CX X E) (hr : Room (n + 1) X.A) : OpR X (compareOp .NotEq) (rEqX C R true) := by
  intro pins s σ H x y v u Q I rx ry h
  obtain ⟨a, b, dx, dy, fs, gs, c, rfl, rfl, ha, hb', hR, q⟩ := h
  cases rx
  cases ry
  obtain ⟨mA, J, _⟩ := ins_get I.hok ha
  obtain ⟨mB, J', _⟩ := ins_get I.hok hb'
  obtain ⟨od, J, _⟩ := J.look
  obtain ⟨od', J', _⟩ := J'.look
  have hX := I.kIn
  have one : wpAny (model X.prog X.w) X.A (tryCompare (.ref a) "__ne__" (.ref b)) (fun r s' => ∃ v, r = some v ∧ EP X pins σ Q v s') X.xe s := by
    unfold tryCompare
    refine wpAny_bind (ifBound_objNe hX J hn (call_objNe hr.in1.units0 hX J hm hs hf (call_eqX F hb hx ⟨hr.in1, rfl⟩ I hR fun H' s' I' e => ⟨c, rfl, wpAny_pure ⟨_, rfl, .bl (!c), H', I', rfl, q H' e⟩⟩)))
  show wpAny (model X.prog X.w) X.A (richCompare .NotEq (.ref a) (.ref b)) (EP X pins σ Q) X.xe s
  unfold richCompare
  simp only [oneThing_ref]
  refine wpAny_holding (wpAny_bind (wpAny_cRoomFor (hr.mono (Nat.le_succ n)).units0 ?_))
  refine wpAny_bind (J.type.here (wpAny_bind (J'.type.here ?_)))
  rw [show (Value.ref C != Value.ref C) = false from by simp]
  simp only [Bool.false_eq_true, if_false]
  refine wpAny_bind (wpAny_pure ?_)
  simp only [Bool.false_eq_true, if_false]
  refine wpAny_bind (wpAny_mono one (fun r s' z => ?_) fun _ _ e => e)
  obtain ⟨v, rfl, hq⟩ := z
  exact wpAny_pure hq
end
/-! ### grammar == grammar, told exactly -/
def N_GE : List Str := ["self", "other"]
abbrev s_GEq : Stmt := (inClass (top 47) 10)
theorem sc_GEq : FnScope N_GE N_GE (defScope s_GEq) := ⟨rfl, rfl, rfl, by decide +kernel, rfl, by decide +kernel, by decide +kernel⟩
noncomputable def RsD (rs : List SRow) (ms : List MRow) (ru : List RRow) (roof : Nat) : PyData := .tuple [.int (roof : Nat), .list (srtR (rs.map SRow.d)), .list (srtR (ms.map MRow.d)), .list (srtR (ru.map RRow.d))]
def EqG (K : PySem.W.Frag) (C : Addr) (x y : Addr) (H : Hp) (c : Bool) : Prop := ∃ (Z Z' : Hp) (rs : List SRow) (ms : List MRow) (ru : List RRow) (roof : Nat) (rs' : List SRow) (ms' : List MRow) (ru' : List RRow) (roof' : Nat), Risen K C Z H x rs ms ru roof ∧ Risen K C Z' H y rs' ms' ru' roof' ∧ SeqAt.shaped (RsD rs ms ru roof) = true ∧ SeqAt.shaped (RsD rs' ms' ru' roof') = true ∧ c = PyData.eqv (RsD rs ms ru roof) (RsD rs' ms' ru' roof')
theorem Risen.dp {K : PySem.W.Frag} {C : Addr} {Z H : Hp} {x : Addr} {rs : List SRow} {ms : List MRow} {ru : List RRow} {roof : Nat} (h : Risen K C Z H x rs ms ru roof) : ∃ dx rt fs, H x = some (.ins C dx fs) ∧ fs.lookup (("risen" : String) : Str) = some (.ref rt) ∧ Dp K H (.ref rt) (RsD rs ms ru roof) := by
  obtain ⟨dx, rt, p1, p2, p3, fs, y1, y2, y3, a1, a2, a3, ⟨a4, _, a5⟩, ⟨a6, _, a7⟩, a8, _, a9⟩ := h
  exact ⟨dx, rt, fs, a1, a2, .tup a3 (.cons (.int _) (.cons (.lst (SqL.of a4) a5) (.cons (.lst (SqL.of a6) a7) (.cons (.lst (SqL.of a8) a9) .nil))))⟩
section
variable {P : Program} {w : World} {K : PySem.W.Frag} {mg : Str → Option Value} {base : Heap} {G : Addr}
theorem ok_geqx {f : Addr} {fd : FuncData} (hI : mg "isinstance" = none) (hG : mg "Grammar" = some (.ref G)) (ic : C8.InsC K G) (gc : GCls K G) (F : L2.Fun K "__eq__" "Grammar.__eq__" s_GEq f fd) : FnOk P w K mg base CX0 1 f fd N_GE (spEqX (EqG K G)) := by
  refine F.ok sc_GEq (fun vs H Q E h => ?_) (fun cdv A outer s H vs Q E hr h => ?_)
  · obtain ⟨a, b, c, rfl, _⟩ := h
    rfl
  · obtain ⟨a, b, c, rfl, ⟨Z, Z', rs, ms, ru, roof, rs', ms', ru', roof', h1, h2, sh1, sh2, rfl⟩, q⟩ := h
    refine ⟨_, (pss_one (ps_ret (pe_and (pe_callB (C8.call_isC ic) (by rfl) hI (by decide +kernel) (pa_cons (pv 1) (pa_cons (pe_glob (v := .ref G) (by rfl) hG rfl) pa_nil))) (pe_one (pe_cmpR (op_eqD hr.units) (pe_fld (pv 0) (by rfl)) (pe_fld (pv 1) (by rfl)) (nomark _)))))), ?_⟩
    obtain ⟨dx, rt, fs, a1, a2, d1⟩ := h1.dp
    obtain ⟨dy, rt', fs', b1, b2, d2⟩ := h2.dp
    refine ⟨_, rfl, b, dy, fs', rfl, b1, true, rfl, ?_⟩
    exact iteT ⟨_, rfl, a, G, dx, fs, _, rfl, a1, gc.c, gc.risen, a2, _, rfl, b, G, dy, fs', _, rfl, b1, gc.c, gc.risen, b2, _, _, d1, d2, sh1, sh2, q H (Same.refl H)⟩
end
/-! ### told_by_name -/
abbrev s_told_by_name : Stmt := top 49
abbrev N_told_by_name : List Str := ["grammar", "sorts", "makings", "rules", "sort", "downs", "ups", "making", "parts", "target", "op", "operands"]
abbrev P_told_by_name : List Str := ["grammar"]
theorem sc_told_by_name : FnScope N_told_by_name P_told_by_name (defScope s_told_by_name) := ⟨rfl, rfl, rfl, by decide +kernel, rfl, by decide +kernel, by decide +kernel⟩
def spTold (K : PySem.W.Frag) (P : Program) (w : World) (G : Addr) : Sp := fun vs H Q _ => ∃ (Z : Hp) (x : Addr) (rs : List SRow) (ms : List MRow) (ru : List RRow) (roof : Nat), vs = [.ref x] ∧ GrOk K P w G Z H x rs ms ru roof ∧ GFit rs ms ru roof ∧
  ∀ (H' : Hp) (p sd md rd : Addr) (skv mkv : List (Key × V)) (nvs : List NE), Same H H' → H sd = none → H md = none → H rd = none → SqT K H' p [.ref sd, .ref md, .ref rd] → H' sd = some (.dK skv) → Tab K H' skv (rs.map sT) → H' md = some (.dK mkv) → Tab K H' mkv (ms.map mT) → H' rd = some (dnO P w rd nvs) → RPr K H' nvs ru → Q (.ref p) H'
theorem kd_deep (r : RRow) : (keyD r.kd).depth ≤ 8 := by
  show (keyD (.tuple [strD r.ma, r.tg.d])).depth ≤ 8
  cases r.tg <;> exact Nat.le_of_ble_eq_true rfl
theorem row4 {K : PySem.W.Frag} {H : Hp} {v : V} {r : RRow} (h : Dp K H v r.d) : ∃ q vt vo, v = .ref q ∧ SqT K H q [.str (SX.S r.ma), vt, .str (SX.S r.op), vo] ∧ Dp K H vt r.tg.d ∧ Dp K H vo (.tuple (r.os.map Od.d)) := by
  have h : Dp K H v (.tuple [strD r.ma, r.tg.d, strD r.op, .tuple (r.os.map Od.d)]) := h
  cases h with
  | tup hS hA =>
    cases hA with
    | cons a1 hA =>
      cases hA with
      | cons a2 hA =>
        cases hA with
        | cons a3 hA =>
          cases hA with
          | cons a4 hA =>
            cases hA
            cases a1
            cases a3
            exact ⟨_, _, _, rfl, hS, a2, a4⟩
section
variable {P : Program} {w : World} {K : PySem.W.Frag} {mg : Str → Option Value} {base : Heap} {G : Addr}
theorem ok_told (M1 : C8.Met P w K mg base 1 G "sorts" (spRowsOf K P w G fun rs _ _ => rs.map SRow.d) []) (M2 : C8.Met P w K mg base 1 G "makings" (spRowsOf K P w G fun _ ms _ => ms.map MRow.d) []) (M3 : C8.Met P w K mg base 1 G "rules" (spRowsOf K P w G fun _ _ ru => ru.map RRow.d) []) (D : Dd K mg "told_by_name" s_told_by_name P_told_by_name) : C8.Cal P w K mg base 2 "told_by_name" (spTold K P w G) [] := by
  refine D.cal sc_told_by_name (fun vs H Q E h => ?_) (fun f cdv A outer s H vs Q E hr h => ?_)
  · obtain ⟨Z, x, rs, ms, ru, roof, rfl, _⟩ := h
    rfl
  · obtain ⟨Z, x, rs, ms, ru, roof, rfl, go, gf, q⟩ := h
    refine ⟨_, (pss_cons (ps_setDcG (g := gTup K 3 (gCons (gName 4) (gCons (gName 5) (gCons (gName 6) gNil)))) (own := [("sort", 4), ("downs", 5), ("ups", 6)]) (i := 1) (O := fun _ => .dK []) (S := SKt) newOk_dk storeOk_dk rfl sc_told_by_name.nd rfl rfl (swd_true rfl rfl rfl (by decide +kernel)) (pi_list (C8.pe_mt0 M1 hr (by decide) (pv 0))) (blkOk_by (own := [("sort", 4), ("downs", 5), ("ups", 6)]) (N := N_told_by_name) (sc := defScope s_told_by_name) (by decide +kernel)) (fun _ _ _ _ _ => (pg_tup (n := 3) rfl (pgs_cons (pg_name (i := 4) sc_told_by_name.nd rfl (Or.inl rfl) (Or.inr rfl)) (pgs_cons (pg_name (i := 5) sc_told_by_name.nd rfl (Or.inl rfl) (Or.inr rfl)) (pgs_cons (pg_name (i := 6) sc_told_by_name.nd rfl (Or.inl rfl) (Or.inr rfl)) pgs_nil))))) (fun _ _ _ _ _ => pts_nil) (fun _ _ _ _ _ => (pv 4)) (fun _ _ _ _ _ => (pe_tup (pa_cons (pv 5) (pa_cons (pv 6) pa_nil)))))
        (pss_cons (ps_setDcG (g := gTup K 3 (gCons (gName 7) (gCons (gName 4) (gCons (gName 8) gNil)))) (own := [("making", 7), ("sort", 4), ("parts", 8)]) (i := 2) (O := fun _ => .dK []) (S := SKt) newOk_dk storeOk_dk rfl sc_told_by_name.nd rfl rfl (swd_true rfl rfl rfl (by decide +kernel)) (pi_list (C8.pe_mt0 M2 hr (by decide) (pv 0))) (blkOk_by (own := [("making", 7), ("sort", 4), ("parts", 8)]) (N := N_told_by_name) (sc := defScope s_told_by_name) (by decide +kernel)) (fun _ _ _ _ _ => (pg_tup (n := 3) rfl (pgs_cons (pg_name (i := 7) sc_told_by_name.nd rfl (Or.inl rfl) (Or.inr rfl)) (pgs_cons (pg_name (i := 4) sc_told_by_name.nd rfl (Or.inl rfl) (Or.inr rfl)) (pgs_cons (pg_name (i := 8) sc_told_by_name.nd rfl (Or.inl rfl) (Or.inr rfl)) pgs_nil))))) (fun _ _ _ _ _ => pts_nil) (fun _ _ _ _ _ => (pv 7)) (fun _ _ _ _ _ => (pe_tup (pa_cons (pv 4) (pa_cons (pv 8) pa_nil)))))
        (pss_cons (ps_setDcG (g := gTup K 4 (gCons (gName 7) (gCons (gName 9) (gCons (gName 10) (gCons (gName 11) gNil))))) (own := [("making", 7), ("target", 9), ("op", 10), ("operands", 11)]) (i := 3) (O := fun p => dnO P w p []) (S := SN K P w) newOk_dn (storeOk_dn (hu9 (hu65 hr))) rfl sc_told_by_name.nd rfl rfl (swd_true rfl rfl rfl (by decide +kernel)) (pi_list (C8.pe_mt0 M3 hr (by decide) (pv 0))) (blkOk_by (own := [("making", 7), ("target", 9), ("op", 10), ("operands", 11)]) (N := N_told_by_name) (sc := defScope s_told_by_name) (by decide +kernel)) (fun _ _ _ _ _ => (pg_tup (n := 4) rfl (pgs_cons (pg_name (i := 7) sc_told_by_name.nd rfl (Or.inl rfl) (Or.inr rfl)) (pgs_cons (pg_name (i := 9) sc_told_by_name.nd rfl (Or.inl rfl) (Or.inr rfl)) (pgs_cons (pg_name (i := 10) sc_told_by_name.nd rfl (Or.inl rfl) (Or.inr rfl)) (pgs_cons (pg_name (i := 11) sc_told_by_name.nd rfl (Or.inl rfl) (Or.inr rfl)) pgs_nil)))))) (fun _ _ _ _ _ => pts_nil) (fun _ _ _ _ _ => (pe_tup (pa_cons (pv 7) (pa_cons (pv 9) pa_nil)))) (fun _ _ _ _ _ => (pe_tup (pa_cons (pv 10) (pa_cons (pv 11) pa_nil)))))
        (pss_one (ps_ret (pe_tup (pa_cons (pv 1) (pa_cons (pv 2) (pa_cons (pv 3) pa_nil))))))))), ?_⟩
    obtain ⟨dx, _, _, _, _, _, hx, _⟩ := go.ex
    have l1 := gf.so.le
    have l2 := gf.m8
    have l3 := gf.rl
    have nks : ((rs.map sT).map T3.k).Nodup := by
      rw [List.map_map]
      exact gf.so.nd
    have nkm : ((ms.map mT).map T3.k).Nodup := by
      rw [List.map_map]
      exact gf.nd
    have fresh : ∀ {ts : List T3} {i : Nat} {t : T3}, (ts.map T3.k).Nodup → ts[i]? = some t → t.k ∉ (ts.take i).map T3.k := fun {ts i t} hn hi z => by
      have e : ts = ts.take i ++ t :: ts.drop (i + 1) := by
        have h1 := (List.getElem?_eq_some_iff.mp hi).1
        have h2 := List.getElem_cons_drop h1
        rw [← (List.getElem?_eq_some_iff.mp hi).2, h2, List.take_append_drop]
      rw [e, List.map_append, List.map_cons] at hn
      exact (List.nodup_append.mp hn).2.2 t.k z t.k List.mem_cons_self rfl
    -- sorts
    refine ⟨_, rfl, x, dx, _, rfl, hx, by with_unfolding_all rfl, Z, x, rs, ms, ru, roof, rfl, go, l1, l2, l3, fun H1 q1 e1 s1 nq1 hq1 hd1 => ?_⟩
    have hd1 : DpAll K H1 e1 (rs.map SRow.d) := hd1
    have ln1 := dpAll_len hd1
    rw [List.length_map] at ln1
    refine ⟨q1, rfl, ⟨_, SqL.of hq1⟩, fun D1 nD1 => dcG_it (O := fun _ => .dK []) (S := SKt) (walk_list (xs := e1)) (fun i U => Same H1 U ∧ ∃ kvs, U D1 = some (.dK kvs) ∧ Tab K U kvs ((rs.map sT).take i)) ⟨same_upd nD1, [], upd_same, .nil⟩ (fun i U _ h => SqL.of (h.1 _ _ hq1)) ?_ ?_⟩
    · rintro i e U0 U hi ⟨sU, kvs, hD, ht⟩ ⟨rfl, he⟩
      obtain ⟨d, hd, hde⟩ := dpAll_at hd1 he
      rw [sT_d, List.getElem?_map] at hd
      obtain ⟨t, et, rfl⟩ : ∃ t, (rs.map sT)[i]? = some t ∧ d = t.d := by
        cases h : (rs.map sT)[i]? with
        | none => rw [h] at hd; cases hd
        | some t => rw [h] at hd; exact ⟨t, rfl, (Option.some.inj hd).symm⟩
      obtain ⟨q, v1, v2, rfl, hq, a1, a2⟩ := t3_at (dp_same sU hde)
      have tk : (rs.map sT).take (i + 1) = (rs.map sT).take i ++ [t] := by rw [List.take_add_one, et]; rfl
      have lk := ht.len
      rw [List.length_take, List.length_map] at lk
      refine ⟨q, _, rfl, hq, rfl, _, _, rfl, _, _, rfl, _, _, rfl, rfl, ?_⟩
      refine ⟨rfl, yesT ?_⟩
      refine ⟨_, rfl, _, rfl, _, rfl, by show 2 ≤ sizeLine; decide, fun p np => ?_⟩
      have sp := same_upd (o := .tup [v1, v2]) np
      have hp : Dp K (upd U p (.tup [v1, v2])) (.ref p) t.r := .tup (SqT.of upd_same) (.cons (dp_same sp a1) (.cons (dp_same sp a2) .nil))
      have hD' := sp _ _ hD
      have kk : KeepT (upd U p (.tup [v1, v2])) (upd (upd U p (.tup [v1, v2])) D1 (.dK (putK kvs (kS t.k) (.ref p)))) := KeepT.at_ hD' dK_no
      refine ⟨_, ⟨kvs, kS t.k, rfl, hD', small1000 (by omega), rfl⟩, Same.at_ (sU.trans sp) nD1, _, upd_same, ?_⟩
      rw [tk]
      exact ((ht.keep (KeepT.of sp) (fun t h => sT_imms rs t (List.mem_of_mem_take h))).put (fresh nks et) hp).keep kk (fun t h => sT_imms rs t (by
        rcases List.mem_append.mp h with h | h
        · exact List.mem_of_mem_take h
        · rw [List.mem_singleton.mp h]
          exact List.mem_of_getElem? et))
    rintro U1 ⟨sU1, skv, hD1, hT1⟩
    have eq1 : (rs.map sT).take e1.length = rs.map sT := by rw [ln1, ← List.length_map (f := sT), List.take_length]
    rw [eq1] at hT1
    have t1 := s1.trans sU1
    -- makings
    refine ⟨_, rfl, x, dx, _, rfl, t1 _ _ hx, by with_unfolding_all rfl, Z, x, rs, ms, ru, roof, rfl, go.same t1, l1, l2, l3, fun H2 q2 e2 s2 nq2 hq2 hd2 => ?_⟩
    have hd2 : DpAll K H2 e2 (ms.map MRow.d) := hd2
    have ln2 := dpAll_len hd2
    rw [List.length_map] at ln2
    refine ⟨q2, rfl, ⟨_, SqL.of hq2⟩, fun D2 nD2 => dcG_it (O := fun _ => .dK []) (S := SKt) (walk_list (xs := e2)) (fun i U => Same H2 U ∧ ∃ kvs, U D2 = some (.dK kvs) ∧ Tab K U kvs ((ms.map mT).take i)) ⟨same_upd nD2, [], upd_same, .nil⟩ (fun i U _ h => SqL.of (h.1 _ _ hq2)) ?_ ?_⟩
    · rintro i e U0 U hi ⟨sU, kvs, hD, ht⟩ ⟨rfl, he⟩
      obtain ⟨d, hd, hde⟩ := dpAll_at hd2 he
      rw [mT_d, List.getElem?_map] at hd
      obtain ⟨t, et, rfl⟩ : ∃ t, (ms.map mT)[i]? = some t ∧ d = t.d := by
        cases h : (ms.map mT)[i]? with
        | none => rw [h] at hd; cases hd
        | some t => rw [h] at hd; exact ⟨t, rfl, (Option.some.inj hd).symm⟩
      obtain ⟨q, v1, v2, rfl, hq, a1, a2⟩ := t3_at (dp_same sU hde)
      have tk : (ms.map mT).take (i + 1) = (ms.map mT).take i ++ [t] := by rw [List.take_add_one, et]; rfl
      have lk := ht.len
      rw [List.length_take, List.length_map] at lk
      refine ⟨q, _, rfl, hq, rfl, _, _, rfl, _, _, rfl, _, _, rfl, rfl, ?_⟩
      refine ⟨rfl, yesT ?_⟩
      refine ⟨_, rfl, _, rfl, _, rfl, by show 2 ≤ sizeLine; decide, fun p np => ?_⟩
      have sp := same_upd (o := .tup [v1, v2]) np
      have hp : Dp K (upd U p (.tup [v1, v2])) (.ref p) t.r := .tup (SqT.of upd_same) (.cons (dp_same sp a1) (.cons (dp_same sp a2) .nil))
      have hD' := sp _ _ hD
      have kk : KeepT (upd U p (.tup [v1, v2])) (upd (upd U p (.tup [v1, v2])) D2 (.dK (putK kvs (kS t.k) (.ref p)))) := KeepT.at_ hD' dK_no
      refine ⟨_, ⟨kvs, kS t.k, rfl, hD', small1000 (by omega), rfl⟩, Same.at_ (sU.trans sp) nD2, _, upd_same, ?_⟩
      rw [tk]
      exact ((ht.keep (KeepT.of sp) (fun t h => mT_imms ms t (List.mem_of_mem_take h))).put (fresh nkm et) hp).keep kk (fun t h => mT_imms ms t (by
        rcases List.mem_append.mp h with h | h
        · exact List.mem_of_mem_take h
        · rw [List.mem_singleton.mp h]
          exact List.mem_of_getElem? et))
    rintro U2 ⟨sU2, mkv, hD2, hT2⟩
    have eq2 : (ms.map mT).take e2.length = ms.map mT := by rw [ln2, ← List.length_map (f := mT), List.take_length]
    rw [eq2] at hT2
    have t2 := s2.trans sU2
    -- rules
    refine ⟨_, rfl, x, dx, _, rfl, (t1.trans t2) _ _ hx, by with_unfolding_all rfl, Z, x, rs, ms, ru, roof, rfl, go.same (t1.trans t2), l1, l2, l3, fun H3 q3 e3 s3 nq3 hq3 hd3 => ?_⟩
    have hd3 : DpAll K H3 e3 (ru.map RRow.d) := hd3
    have ln3 := dpAll_len hd3
    rw [List.length_map] at ln3
    refine ⟨q3, rfl, ⟨_, SqL.of hq3⟩, fun D3 nD3 => dcG_it (O := fun p => dnO P w p []) (S := SN K P w) (walk_list (xs := e3)) (fun i U => Same H3 U ∧ ∃ nvs, U D3 = some (dnO P w D3 nvs) ∧ RPr K U nvs (ru.take i)) ⟨same_upd nD3, [], upd_same, .nil⟩ (fun i U _ h => SqL.of (h.1 _ _ hq3)) ?_ ?_⟩
    · rintro i e U0 U hi ⟨sU, nvs, hD, ht⟩ ⟨rfl, he⟩
      obtain ⟨d, hd, hde⟩ := dpAll_at hd3 he
      rw [List.getElem?_map] at hd
      obtain ⟨r, er, rfl⟩ : ∃ r, ru[i]? = some r ∧ d = r.d := by
        cases h : ru[i]? with
        | none => rw [h] at hd; cases hd
        | some t => rw [h] at hd; exact ⟨t, rfl, (Option.some.inj hd).symm⟩
      obtain ⟨q, vt, vo, rfl, hq, a1, a2⟩ := row4 (dp_same sU hde)
      have tk : ru.take (i + 1) = ru.take i ++ [r] := by rw [List.take_add_one, er]; rfl
      have lk := paired_len ht
      rw [List.length_take] at lk
      refine ⟨q, _, rfl, hq, rfl, _, _, rfl, _, _, rfl, _, _, rfl, _, _, rfl, rfl, ?_⟩
      refine ⟨rfl, yesT ?_⟩
      refine ⟨_, rfl, _, rfl, by show 2 ≤ sizeLine; decide, fun kp nkp => ?_⟩
      have sk := same_upd (o := .tup [.str (SX.S r.ma), vt]) nkp
      have hkp : Dp K (upd U kp (.tup [.str (SX.S r.ma), vt])) (.ref kp) r.kd := .tup (SqT.of upd_same) (.cons (.str _) (.cons (dp_same sk a1) .nil))
      refine ⟨_, rfl, _, rfl, by show 2 ≤ sizeLine; decide, fun p np => ?_⟩
      have sp := same_upd (o := .tup [.str (SX.S r.op), vo]) np
      have hp : Dp K (upd (upd U kp (.tup [.str (SX.S r.ma), vt])) p (.tup [.str (SX.S r.op), vo])) (.ref p) r.vd := .tup (SqT.of upd_same) (.cons (.str _) (.cons (dp_same (sk.trans sp) a2) .nil))
      have hkp := dp_same sp hkp
      have skp := sk.trans sp
      have hD' := skp _ _ hD
      have ht' := RPr.keep (KeepT.of skp) ht
      show ∃ o, SN K P w (upd (upd U kp (.tup [.str (SX.S r.ma), vt])) p (.tup [.str (SX.S r.op), vo])) D3 (.ref kp) (.ref p) o ∧ _
      have sU' := sU.trans skp
      generalize upd (upd U kp (.tup [.str (SX.S r.ma), vt])) p (.tup [.str (SX.S r.op), vo]) = U4 at hp hkp hD' ht' sU' ⊢
      have hno : valN nvs (keyD r.kd) = none := ht'.none fun r' hr' e1 e2 => by
        have hn := gf.rn
        unfold RuNd at hn
        have e3 : ru = ru.take (i + 1) ++ ru.drop (i + 1) := (List.take_append_drop ..).symm
        rw [e3, tk] at hn
        exact (List.pairwise_append.mp (List.pairwise_append.mp hn).1).2.2 r' hr' r List.mem_cons_self e1 e2
      have est : stN nvs (keyD r.kd) kp (.ref p) = nvs ++ [(keyD r.kd, kp, .ref p)] := by
        unfold stN
        rw [hno]
        rfl
      have kk : KeepT U4 (upd U4 D3 (dnO P w D3 (nvs ++ [(keyD r.kd, kp, .ref p)]))) := KeepT.at_ hD' dn_no
      refine ⟨_, ⟨nvs, kp, r.kd, hD', ht'.keys, ⟨rfl, hkp, r.kd_imm, kd_deep r⟩, by omega, rfl⟩, Same.at_ sU' nD3, _, upd_same, ?_⟩
      rw [tk, est]
      exact RPr.keep kk (paired_snoc ht' ⟨rfl, hkp, hp⟩)
    rintro U3 ⟨sU3, nvs, hD3, hT3⟩
    rw [ln3, List.take_length] at hT3
    have t3 := s3.trans sU3
    refine ⟨_, rfl, _, rfl, _, rfl, by show 3 ≤ sizeLine; decide, fun pp npp => ?_⟩
    have sp := same_upd (o := .tup [.ref D1, .ref D2, .ref D3]) npp
    have s13 := (t2.trans t3).trans sp
    exact q _ pp D1 D2 D3 skv mkv nvs (t1.trans s13) (s1.free nD1) ((t1.trans s2).free nD2) (((t1.trans t2).trans s3).free nD3) (SqT.of upd_same) (s13 _ _ hD1) (hT1.keep (KeepT.of s13) (sT_imms rs)) ((t3.trans sp) _ _ hD2) (hT2.keep (KeepT.of (t3.trans sp)) (mT_imms ms)) (sp _ _ hD3) (RPr.keep (KeepT.of sp) hT3)
end
/-! ### unlike, where no two are -/
abbrev s_unlike : Stmt := top 50
abbrev N_unlike : List Str := ["mine", "theirs", "name"]
abbrev P_unlike : List Str := ["mine", "theirs"]
theorem sc_unlike : FnScope N_unlike P_unlike (defScope s_unlike) := ⟨rfl, rfl, rfl, by decide +kernel, rfl, by decide +kernel, by decide +kernel⟩
def spUnT (K : PySem.W.Frag) : Sp := fun vs H Q _ => ∃ (d1 d2 : Addr) (kv1 kv2 : List (Key × V)) (ts1 ts2 : List T3), vs = [.ref d1, .ref d2] ∧ d1 ≠ d2 ∧ H d1 = some (.dK kv1) ∧ Tab K H kv1 ts1 ∧ H d2 = some (.dK kv2) ∧ Tab K H kv2 ts2 ∧ (ts1.map T3.k).Nodup ∧ (ts2.map T3.k).Nodup ∧ (∀ t ∈ ts1, imm t.r = true) ∧ (∀ t ∈ ts2, imm t.r = true) ∧ (∀ t ∈ ts1, SeqAt.shaped t.r = true) ∧ (∀ t ∈ ts1, ∀ t' ∈ ts2, t.k = t'.k → t.r = t'.r) ∧
  ∀ (H' : Hp) (l : Addr), Same H H' → H l = none → H' l = some (.lst []) → Q (.ref l) H'
def spUnN (K : PySem.W.Frag) (P : Program) (w : World) : Sp := fun vs H Q _ => ∃ (d1 d2 : Addr) (nv1 nv2 : List NE) (ru1 ru2 : List RRow), vs = [.ref d1, .ref d2] ∧ d1 ≠ d2 ∧ H d1 = some (dnO P w d1 nv1) ∧ RPr K H nv1 ru1 ∧ H d2 = some (dnO P w d2 nv2) ∧ RPr K H nv2 ru2 ∧ RuNd ru1 ∧ RuNd ru2 ∧ (∀ r ∈ ru1, SeqAt.shaped r.vd = true) ∧ (∀ r ∈ ru1, ∀ r' ∈ ru2, r.kd = r'.kd → r = r') ∧
  ∀ (H' : Hp) (l : Addr), Same H H' → H l = none → H' l = some (.lst []) → Q (.ref l) H'
theorem tab_some {K : PySem.W.Frag} {H : Hp} {k : List Nat} {v : V} : ∀ {kvs : List (Key × V)} {ts : List T3}, Tab K H kvs ts → valV kvs (kS k) = some v → ∃ t ∈ ts, t.k = k ∧ Dp K H v t.r := fun {kvs ts} h e => by
  by_cases hk : k ∈ ts.map T3.k
  · obtain ⟨t, ht, rfl⟩ := List.mem_map.mp hk
    clear hk
    unfold Tab at h
    revert e ht
    induction h with
    | nil => exact fun ht => nomatch ht
    | @cons kv t' kvs ts a r ih =>
      intro ht e
      have e' : (if kv.1 = kS t.k then some kv.2 else valV kvs (kS t.k)) = some v := by
        rw [← e]
        unfold valV
        rw [List.find?_cons]
        by_cases z : kv.1 = kS t.k
        · rw [if_pos z, decide_eq_true z]
          rfl
        · rw [if_neg z, decide_eq_false z]
      by_cases z : kv.1 = kS t.k
      · rw [if_pos z] at e'
        cases e'
        exact ⟨t', List.mem_cons_self, (kS_inj (a.1.symm.trans z)), a.2⟩
      · rw [if_neg z] at e'
        rcases List.mem_cons.mp ht with rfl | ht
        · exact absurd a.1 z
        · obtain ⟨t2, h1, h2⟩ := ih ht e'
          exact ⟨t2, List.mem_cons_of_mem _ h1, h2⟩
  · rw [h.none hk] at e
    cases e
section
variable {P : Program} {w : World} {K : PySem.W.Frag} {mg : Str → Option Value} {base : Heap} {G : Addr}
theorem ok_unlike (D : Dd K mg "unlike" s_unlike P_unlike) : C8.Cal P w K mg base 1 "unlike" (fun vs H Q E => spUnT K vs H Q E ∨ spUnN K P w vs H Q E) [] := by
  refine D.cal sc_unlike (fun vs H Q E h => ?_) (fun f cdv A outer s H vs Q E hr h => ?_)
  · rcases h with h | h
    · obtain ⟨d1, d2, kv1, kv2, ts1, ts2, rfl, _⟩ := h
      rfl
    · obtain ⟨d1, d2, kv1, kv2, ts1, ts2, rfl, _⟩ := h
      rfl
  · rcases h with h | h
    · obtain ⟨d1, d2, kv1, kv2, ts1, ts2, rfl, nd, h1, t1, h2, t2, n1, n2, i1, i2, sh, ag, q⟩ := h
      refine ⟨_, (pss_one (ps_ret (pe_lock (pe_lc (own := [("name", 2)]) (by exact rfl) sc_unlike.nd (pi_keys (pv 0)) (blkOk_by (own := [("name", 2)]) (N := N_unlike) (sc := defScope s_unlike) (by decide +kernel)) (fun _ _ _ _ _ => pg_name (i := 2) sc_unlike.nd rfl (Or.inl rfl) (Or.inr rfl)) (fun _ _ _ _ _ => (pts_one (PW.pt (pw_and (pt_cmp (pc_din (hu_of hr) (pv 2) (pv 1)) (by with_unfolding_all rfl)) (pw_and1 (pt_cmpR (show OpR _ _ (rNeD K) from op_neD hr.units) (pe_dget (hu_of hr) (pv 0) (pv 2) (fun _ _ => rfl)) (pe_dget (hu_of hr) (pv 1) (pv 2) (fun _ _ => rfl)) (nomark _))))))) (fun _ _ _ _ _ => pv 2))))), ?_⟩
      refine ⟨d1, .dK kv1, h1, trivial, fun od => ?_⟩
      have hz : (upd H d1 (.frz od (.dK kv1))) d1 = some (.frz od (.dK kv1)) := upd_same
      have k1 : KeepT H (upd H d1 (.frz od (.dK kv1))) := KeepT.at_ h1 dK_no
      have h2' : (upd H d1 (.frz od (.dK kv1))) d2 = some (.dK kv2) := by rw [upd_ne nd.symm]; exact h2
      have t1' := t1.keep k1 i1
      have t2' := t2.keep k1 i2
      refine ⟨_, rfl, d1, od, rfl, .inl ⟨kv1, hz, fun DD nD => ?_⟩⟩
      refine lc_it walk_keys (fun i Y => Same (upd H d1 (.frz od (.dK kv1))) Y ∧ Y DD = some (.lst [])) ⟨same_upd nD, upd_same⟩ (fun i Y _ h => h.1 _ _ hz) ?_ ?_
      · rintro i v Y0 Y hi ⟨sY, hD⟩ ⟨rfl, k, v', hk, rfl⟩
        obtain ⟨t, ht, rfl, hv'⟩ : ∃ t, ts1[i]? = some t ∧ k = kS t.k ∧ Dp K (upd H d1 (.frz od (.dK kv1))) v' t.r := by
          obtain ⟨t, e1, e2⟩ := paired_get t1' hk
          exact ⟨t, e1, e2.1, e2.2⟩
        have htm := List.mem_of_getElem? ht
        obtain ⟨vv, hvv, hvd⟩ := t1'.val n1 htm
        refine ⟨rfl, ?_⟩
        refine ⟨_, rfl, _, rfl, d2, _, rfl, DGet.k (sY _ _ h2'), _, rfl, ?_⟩
        cases e : valV kv2 (kS t.k) with
        | none => exact iteF (iteF ⟨sY, hD⟩)
        | some v2 =>
          obtain ⟨t', ht', ek, hv2⟩ := tab_some t2' e
          have er := ag t htm t' ht' ek.symm
          refine iteT ?_
          refine ⟨_, rfl, _, rfl, d1, vv, rfl, by rw [← hvv]; exact .inl ⟨kv1, kS t.k, .inr ⟨od, sY _ _ hz⟩, rfl, rfl⟩, _, rfl, _, rfl, d2, v2, rfl, by rw [← e]; exact DGet.k (sY _ _ h2'), ?_⟩
          have s1 := sh t htm
          refine ⟨t.r, t.r, dp_same sY hvd, by rw [er]; exact dp_same sY hv2, s1, s1, _, rfl, ?_⟩
          rw [SeqAt.eqv_refl _ (SeqAt.canLay_of_shaped s1)]
          exact iteF ⟨sY, hD⟩
      · rintro Y ⟨sY, hD⟩
        refine ⟨sY _ _ hz, q _ DD (unlock_same h1 sY) ?_ ?_⟩
        · by_cases z : DD = d1
          · rw [z, hz] at nD
            cases nD
          · rw [upd_ne z] at nD
            exact nD
        · rw [upd_ne (fun z => by rw [z, hz] at nD; cases nD)]
          exact hD
    · obtain ⟨d1, d2, nv1, nv2, ru1, ru2, rfl, nd, h1, t1, h2, t2, n1, n2, sh, ag, q⟩ := h
      refine ⟨_, (pss_one (ps_ret (pe_lock (pe_lc (own := [("name", 2)]) (by exact rfl) sc_unlike.nd (pi_keysN (pv 0)) (blkOk_by (own := [("name", 2)]) (N := N_unlike) (sc := defScope s_unlike) (by decide +kernel)) (fun _ _ _ _ _ => pg_name (i := 2) sc_unlike.nd rfl (Or.inl rfl) (Or.inr rfl)) (fun _ _ _ _ _ => (pts_one (PW.pt (pw_and (pt_cmpR (show OpR _ _ (rInN K P w) from op_inN (hu9 (hu65 hr))) (pv 2) (pv 1) (by with_unfolding_all rfl)) (pw_and1 (pt_cmpR (show OpR _ _ (rNeD K) from op_neD hr.units) (show PE _ _ (tDGetN K P w (tVar 0) (tVar 2)) from pe_dgetN (hu9 (hu65 hr)) (pv 0) (pv 2) (fun _ _ => rfl)) (show PE _ _ (tDGetN K P w (tVar 1) (tVar 2)) from pe_dgetN (hu9 (hu65 hr)) (pv 1) (pv 2) (fun _ _ => rfl)) (nomark _))))))) (fun _ _ _ _ _ => pv 2))))), ?_⟩
      refine ⟨d1, dnO P w d1 nv1, h1, trivial, fun od => ?_⟩
      have hz : (upd H d1 (.frz od (dnO P w d1 nv1))) d1 = some (.frz od (dnO P w d1 nv1)) := upd_same
      have k1 : KeepT H (upd H d1 (.frz od (dnO P w d1 nv1))) := KeepT.at_ h1 dn_no
      have h2' : (upd H d1 (.frz od (dnO P w d1 nv1))) d2 = some (dnO P w d2 nv2) := by rw [upd_ne nd.symm]; exact h2
      have t1' := RPr.keep k1 t1
      have t2' := RPr.keep k1 t2
      refine ⟨_, rfl, d1, od, nv1, rfl, hz, fun DD nD => ?_⟩
      refine lc_it walk_keysN (fun i Y => Same (upd H d1 (.frz od (dnO P w d1 nv1))) Y ∧ Y DD = some (.lst [])) ⟨same_upd nD, upd_same⟩ (fun i Y _ h => h.1 _ _ hz) ?_ ?_
      · rintro i v Y0 Y hi ⟨sY, hD⟩ ⟨rfl, p, hp, rfl⟩
        obtain ⟨r, hr1, e1, hkd, hvd0⟩ : ∃ r, ru1[i]? = some r ∧ p.1 = keyD r.kd ∧ Dp K (upd H d1 (.frz od (dnO P w d1 nv1))) (.ref p.2.1) r.kd ∧ Dp K (upd H d1 (.frz od (dnO P w d1 nv1))) p.2.2 r.vd := by
          obtain ⟨r, e1, e2⟩ := paired_get t1' hp
          exact ⟨r, e1, e2⟩
        have hrm := List.mem_of_getElem? hr1
        obtain ⟨vv, hvv, hvd⟩ := t1'.val n1 hrm
        have kY := KeepT.of sY
        have hkn : KeyN K Y (.ref p.2.1) p.2.1 r.kd := ⟨rfl, dp_same sY hkd, r.kd_imm, kd_deep r⟩
        refine ⟨rfl, ?_⟩
        refine ⟨_, rfl, _, rfl, d2, p.2.1, nv2, r.kd, rfl, .inl (sY _ _ h2'), t2'.keys.keep kY, hkn, _, rfl, ?_⟩
        cases e : valN nv2 (keyD r.kd) with
        | none => exact iteF (iteF ⟨sY, hD⟩)
        | some v2 =>
          obtain ⟨r', hr', ek⟩ : ∃ r' ∈ ru2, r'.kd = r.kd := by
            apply Classical.byContradiction
            intro hno
            have := t2'.none (ma := r.ma) (e := r.tg) fun r' hr' e1 e2 => hno ⟨r', hr', by unfold RRow.kd; rw [e1, e2]⟩
            have h3 : valN nv2 (keyD r.kd) = none := this
            rw [h3] at e
            cases e
          have er := ag r hrm r' hr' ek.symm
          subst er
          obtain ⟨v3, hv3, hvd3⟩ := t2'.val n2 hr'
          rw [e] at hv3
          cases hv3
          refine iteT ?_
          refine ⟨_, rfl, _, rfl, d1, p.2.1, nv1, r.kd, vv, rfl, .inr ⟨od, sY _ _ hz⟩, t1'.keys.keep kY, hkn, hvv, _, rfl, _, rfl, d2, p.2.1, nv2, r.kd, v2, rfl, .inl (sY _ _ h2'), t2'.keys.keep kY, hkn, e, ?_⟩
          have s1 := sh r hrm
          refine ⟨r.vd, r.vd, dp_same sY hvd, dp_same sY hvd3, s1, s1, _, rfl, ?_⟩
          rw [SeqAt.eqv_refl _ (SeqAt.canLay_of_shaped s1)]
          exact iteF ⟨sY, hD⟩
      · rintro Y ⟨sY, hD⟩
        refine ⟨sY _ _ hz, q _ DD (unlock_same h1 sY) ?_ ?_⟩
        · by_cases z : DD = d1
          · rw [z, hz] at nD
            cases nD
          · rw [upd_ne z] at nD
            exact nD
        · rw [upd_ne (fun z => by rw [z, hz] at nD; cases nD)]
          exact hD
end
/-! ### sorted(data): the very list -/
def rSortD (K : PySem.W.Frag) : List V → Hp → VK → Prop := fun xs H Q => ∃ (a : Addr) (vs : List V) (ds : List PyData), xs = [.ref a] ∧ SqL K H a vs ∧ DpAll K H vs ds ∧ PySem.W.AllAlike ds ∧ PySem.W.Sortable ds ∧ (∀ d ∈ ds, d.depth ≤ 60) ∧
  ∀ (ys : List V) (p : Addr), ys.Perm vs → DpAll K H ys (ds.mergeSort (PySem.W.dataLe false id)) → H p = none → Q (.ref p) (upd H p (.lst ys))
theorem each_of {K : PySem.W.Frag} {H : Hp} : ∀ {vs : List V} {ds : List PyData} {us : List Value}, DpAll K H vs ds → Vals vs us → PySem.W.EachIs (fun (u : Value) (b : V × PyData) => RelV b.1 u) us (vs.zip ds)
  | _, _, _, .nil, r => by cases r; exact .nil
  | _, _, _, .cons h a, r => by
    cases r with
    | cons r1 rr => exact .cons r1 (each_of a rr)
theorem vals_of : ∀ {bs : List (V × PyData)} {us : List Value}, PySem.W.EachIs (fun (u : Value) (b : V × PyData) => RelV b.1 u) us bs → Vals (bs.map (·.1)) us
  | _, _, .nil => .nil
  | _, _, .cons h a => .cons h (vals_of a)
theorem zip_map {K : PySem.W.Frag} {H : Hp} : ∀ {vs : List V} {ds : List PyData}, DpAll K H vs ds → (vs.zip ds).map (·.2) = ds ∧ (vs.zip ds).map (·.1) = vs ∧ ∀ b ∈ vs.zip ds, Dp K H b.1 b.2
  | _, _, .nil => ⟨rfl, rfl, fun b hb => nomatch hb⟩
  | _, _, .cons (v := v) (vs := vs) (d := d) (ds := ds) h a => by
    obtain ⟨h1, h2, h3⟩ := zip_map a
    refine ⟨?_, ?_, fun b hb => ?_⟩
    · show d :: (vs.zip ds).map (·.2) = d :: ds
      rw [h1]
    · show v :: (vs.zip ds).map (·.1) = v :: vs
      rw [h2]
    · rcases List.mem_cons.mp hb with rfl | hb
      · exact h
      · exact h3 b hb
theorem dpAll_each {K : PySem.W.Frag} {H : Hp} : ∀ {bs : List (V × PyData)}, (∀ b ∈ bs, Dp K H b.1 b.2) → DpAll K H (bs.map (·.1)) (bs.map (·.2))
  | [], _ => .nil
  | b :: bs, h => .cons (h b List.mem_cons_self) (dpAll_each fun c hc => h c (List.mem_cons_of_mem _ hc))
theorem cr_sortD {X : Cx} (hu : X.A.units + 65 < cLine) : CallR X (.builtin "sorted") (rSortD X.K) := by
  intro pins s σ H xs us Q I r h
  obtain ⟨a, vs, ds, rfl, hs, hx, hal, hk, hd, q⟩ := h
  obtain ⟨its, rv, hl, hz⟩ := I.list hs
  obtain ⟨u, rfl, ru⟩ := vals1 r
  obtain rfl : u = Value.ref a := ru
  obtain ⟨as, ra⟩ := Dp.readsAll I ds vs its hx rv
  obtain ⟨z1, z2, z3⟩ := zip_map hx
  have hbl : (vs.zip ds).length = vs.length := by rw [← List.length_map (f := fun b : V × PyData => b.1), z2]
  have er : PySem.W.EachIs (fun v (b : V × PyData) => ∃ as, Reads s.heap v b.2 as) its (vs.zip ds) := PySem.W.readsAll_each (enc := fun b : V × PyData => b.2) (by rw [z1]; exact ra)
  refine PySem.W.sorted_data (enc := fun b : V × PyData => b.2) (bs := vs.zip ds) (R := fun (u : Value) (b : V × PyData) => RelV b.1 u) hl.isList (each_of hx rv) er (by rw [z1]; exact hal) (by rw [z1]; exact hk) (by rw [hbl]; exact hz) (fun b hb => ?_) (fun out hol he => ?_)
  · have := hd b.2 (by rw [← z1]; exact List.mem_map_of_mem hb)
    show X.A.units + 2 + b.2.depth < cLine
    omega
  · obtain ⟨n, hn⟩ := PyProof.Rows.sortedAll_at s.heap its out.toArray
    have rv2 := vals_of he
    have hp := List.mergeSort_perm (vs.zip ds) (PySem.W.dataLe false (fun b : V × PyData => b.2))
    have hlen : (((vs.zip ds).mergeSort (PySem.W.dataLe false (fun b : V × PyData => b.2))).map (·.1)).length = vs.length := by rw [List.length_map, hp.length_eq, hbl]
    refine ⟨.ref (s.heap.objs.size + 1), upd H (s.heap.objs.size + 1) (.lst (((vs.zip ds).mergeSort (PySem.W.dataLe false (fun b : V × PyData => b.2))).map (·.1))), I.laid (t' := s.toks) (fun b o e => PyProof.Rows.sortedAll_old e) (Nat.le_succ _) ⟨?_, out, n, rv2, hn⟩, rfl, q _ _ ?_ ?_ (I.hok.fresh (Nat.le_succ _))⟩
    · rw [hlen]
      exact hz
    · have := hp.map (fun b : V × PyData => b.1)
      rw [z2] at this
      exact this
    · have e2 : ((vs.zip ds).mergeSort (PySem.W.dataLe false (fun b : V × PyData => b.2))).map (·.2) = ds.mergeSort (PySem.W.dataLe false id) := by
        have e3 := List.map_mergeSort (r := PySem.W.dataLe false (fun b : V × PyData => b.2)) (s := PySem.W.dataLe false id) (f := fun b : V × PyData => b.2) (l := vs.zip ds) (fun _ _ _ _ => rfl)
        rw [z1] at e3
        exact e3
      rw [← e2]
      exact dpAll_each fun b hb => z3 b (hp.mem_iff.mp hb)
/-! ### clashes, where there are none -/
abbrev s_clashes : Stmt := top 51
abbrev N_clashes : List Str := ["one", "other", "found", "my_sorts", "my_makings", "my_rules", "sorts", "makings", "rules", "sort", "making", "target", "mine", "theirs"]
abbrev P_clashes : List Str := ["one", "other"]
theorem sc_clashes : FnScope N_clashes P_clashes (defScope s_clashes) := ⟨rfl, rfl, rfl, by decide +kernel, rfl, by decide +kernel, by decide +kernel⟩
structure Agree (rs : List SRow) (ms : List MRow) (ru : List RRow) (rs' : List SRow) (ms' : List MRow) (ru' : List RRow) : Prop where
  s : ∀ r ∈ rs, ∀ r' ∈ rs', r.nm = r'.nm → r = r'
  m : ∀ r ∈ ms, ∀ r' ∈ ms', r.nm = r'.nm → r = r'
  u : ∀ r ∈ ru, ∀ r' ∈ ru', r.kd = r'.kd → r = r'
structure Cl55 (mg : Str → Option Value) : Prop where
  sorted : mg "sorted" = none
def spClash (K : PySem.W.Frag) (P : Program) (w : World) (G : Addr) : Sp := fun vs H Q _ => ∃ (Z Z' : Hp) (x y : Addr) (rs : List SRow) (ms : List MRow) (ru : List RRow) (rs' : List SRow) (ms' : List MRow) (ru' : List RRow) (roof : Nat), vs = [.ref x, .ref y] ∧ GrOk K P w G Z H x rs ms ru roof ∧ GFit rs ms ru roof ∧ GrOk K P w G Z' H y rs' ms' ru' roof ∧ GFit rs' ms' ru' roof ∧ Agree rs ms ru rs' ms' ru' ∧
  ∀ (H' : Hp) (l : Addr), Same H H' → H l = none → H' l = some (.lst []) → Q (.ref l) H'
theorem up_shape {rs : List SRow} (so : SortsOk rs) : ∀ t ∈ rs.map sT, SeqAt.shaped t.r = true := fun t ht => by
  obtain ⟨r, hr, rfl⟩ := List.mem_map.mp ht
  have sok := so.ok r hr
  have l1 := nms_lay fun w hw => sok.all w (List.mem_append_left r.up hw)
  have l2 := nms_lay fun w hw => sok.all w (List.mem_append_right r.dn hw)
  have hd : PyData.depth (sT r).r ≤ 64 := by
    have := (srow_tb sok).dp
    have e : PyData.depth r.d = max 0 (max (PyData.depth (.tuple (r.dn.map strD))) (max (PyData.depth (.tuple (r.up.map strD))) 0)) + 1 := rfl
    have e2 : PyData.depth (sT r).r = max (PyData.depth (.tuple (r.dn.map strD))) (max (PyData.depth (.tuple (r.up.map strD))) 0) + 1 := rfl
    omega
  unfold SeqAt.shaped
  rw [show PyData.canLay0 (sT r).r = true from lay_cons l1 (lay_cons l2 rfl), decide_eq_true hd]
  rfl
theorem mak_shape {rs : List SRow} {ms : List MRow} (so : SortsOk rs) (ok : ∀ m ∈ ms, MOk rs m) : ∀ t ∈ ms.map mT, SeqAt.shaped t.r = true := fun t ht => by
  obtain ⟨m, hm, rfl⟩ := List.mem_map.mp ht
  have nk : ∀ k ∈ m.places, NmOk k := fun k hk => by
    obtain ⟨r', hr', e'⟩ := (ok m hm).so k hk
    rw [← e']
    exact (so.ok r' hr').nm
  have hd : PyData.depth (mT m).r ≤ 64 := by
    have := (mrow_tb so (ok m hm)).dp
    have e : PyData.depth m.d = max 0 (max 0 (max (PyData.depth (.tuple (m.pt.map strD))) 0)) + 1 := rfl
    have e2 : PyData.depth (mT m).r = max 0 (max (PyData.depth (.tuple (m.pt.map strD))) 0) + 1 := rfl
    omega
  unfold SeqAt.shaped
  rw [show PyData.canLay0 (mT m).r = true from lay_cons (nm_lay (nk m.so List.mem_cons_self)) (lay_cons (nms_lay fun w hw => nk w (List.mem_cons_of_mem _ hw)) rfl), decide_eq_true hd]
  rfl
theorem vd_shape {rs : List SRow} {ms : List MRow} {ru : List RRow} {roof : Nat} (g : GFit rs ms ru roof) : ∀ r ∈ ru, SeqAt.shaped r.vd = true := fun r hr => by
  have h := rrow_lay g.so g.ok (g.ra r hr)
  have h2 : (PyData.canLay0 (strD r.ma) && (PyData.canLay0 r.tg.d && (PyData.canLay0 (strD r.op) && (PyData.canLay0 (.tuple (r.os.map Od.d)) && true)))) = true := h
  simp only [Bool.and_eq_true] at h2
  have hd : PyData.depth r.vd ≤ 64 := by
    have := (rrow_tb g.so g.ok (g.ra r hr)).dp
    have e : PyData.depth r.d = max 0 (max (PyData.depth r.tg.d) (max 0 (max (PyData.depth (.tuple (r.os.map Od.d))) 0))) + 1 := rfl
    have e2 : PyData.depth r.vd = max 0 (max (PyData.depth (.tuple (r.os.map Od.d))) 0) + 1 := rfl
    omega
  unfold SeqAt.shaped
  rw [show PyData.canLay0 r.vd = true from lay_cons h2.2.2.1 (lay_cons h2.2.2.2.1 rfl), decide_eq_true hd]
  rfl
section
variable {P : Program} {w : World} {K : PySem.W.Frag} {mg : Str → Option Value} {base : Heap} {G : Addr}
theorem ok_clashes (T : Cl55 mg) (MC : C8.Met P w K mg base 1 G "cap" (spCapG K P w G) []) (ctold_by_name : C8.Cal P w K mg base 2 "told_by_name" (spTold K P w G) []) (cunlike : C8.Cal P w K mg base 1 "unlike" (fun vs H Q E => spUnT K vs H Q E ∨ spUnN K P w vs H Q E) []) (D : Dd K mg "clashes" s_clashes P_clashes) : C8.Cal P w K mg base 3 "clashes" (spClash K P w G) [] := by
  refine D.cal sc_clashes (fun vs H Q E h => ?_) (fun f cdv A outer s H vs Q E hr h => ?_)
  · obtain ⟨Z, Z', x, y, rs, ms, ru, rs', ms', ru', roof, rfl, _⟩ := h
    rfl
  · obtain ⟨Z, Z', x, y, rs, ms, ru, rs', ms', ru', roof, rfl, go, gf, go', gf', ag, q⟩ := h
    refine ⟨_, (pss_cons (ps_set (i := 2) sc_clashes.nd rfl (Or.inl rfl) (pe_lst pa_nil))
        (pss_cons (ps_if (pt_cmpR op_ne (C8.pe_mt0 MC hr (by decide) (pv 0)) (C8.pe_mt0 MC hr (by decide) (pv 1)) (nomark _))
          (pss_one ps_never)
          pss_nil)
        (pss_cons (ps_asg (C8.pe_c ctold_by_name hr (by decide) (by rfl) (pa_cons (pv 0) pa_nil)) (pg_tup rfl (pgs_cons (pg_name (i := 3) sc_clashes.nd rfl (Or.inl rfl)) (pgs_cons (pg_name (i := 4) sc_clashes.nd rfl (Or.inl rfl)) (pgs_cons (pg_name (i := 5) sc_clashes.nd rfl (Or.inl rfl)) pgs_nil)))))
        (pss_cons (ps_asg (C8.pe_c ctold_by_name hr (by decide) (by rfl) (pa_cons (pv 1) pa_nil)) (pg_tup rfl (pgs_cons (pg_name (i := 6) sc_clashes.nd rfl (Or.inl rfl)) (pgs_cons (pg_name (i := 7) sc_clashes.nd rfl (Or.inl rfl)) (pgs_cons (pg_name (i := 8) sc_clashes.nd rfl (Or.inl rfl)) pgs_nil)))))
        (pss_cons (ps_for PassesOwn.never rfl (pi_list (C8.pe_c cunlike hr (by decide) (by rfl) (pa_cons (pv 3) (pa_cons (pv 6) pa_nil)))) (pg_name (i := 9) sc_clashes.nd rfl (Or.inl rfl))
          (pss_one ps_never))
        (pss_cons (ps_for PassesOwn.never rfl (pi_list (C8.pe_c cunlike hr (by decide) (by rfl) (pa_cons (pv 4) (pa_cons (pv 7) pa_nil)))) (pg_name (i := 10) sc_clashes.nd rfl (Or.inl rfl))
          (pss_one ps_never))
        (pss_cons (ps_for PassesOwn.never rfl (pi_list (C8.pe_c cunlike hr (by decide) (by rfl) (pa_cons (pv 5) (pa_cons (pv 8) pa_nil)))) (pg_tup rfl (pgs_cons (pg_name (i := 10) sc_clashes.nd rfl (Or.inl rfl)) (pgs_cons (pg_name (i := 11) sc_clashes.nd rfl (Or.inl rfl)) pgs_nil)))
          (pss_cons ps_never
        (pss_one ps_never)))
        (pss_one (ps_ret (pe_callB (r := rSortD K) (cr_sortD (hu65 hr)) (by rfl) T.sorted (by decide +kernel) (pa_cons (pv 2) pa_nil))))))))))), ?_⟩
    obtain ⟨dx, _, _, _, _, _, hx, _⟩ := go.ex
    obtain ⟨dy, _, _, _, _, _, hy, _⟩ := go'.ex
    have lkn : ∀ {a b c d e f : V}, (g6 a b c d e f).lookup (("cap" : String) : Str) = none := fun {a b c d e f} => by with_unfolding_all rfl
    have nk : ∀ {rs : List SRow}, SortsOk rs → ((rs.map sT).map T3.k).Nodup := fun {rs} so => by
      rw [List.map_map]
      exact so.nd
    have nm : ∀ {ms : List MRow}, (ms.map MRow.nm).Nodup → ((ms.map mT).map T3.k).Nodup := fun {ms} h => by
      rw [List.map_map]
      exact h
    refine ⟨by show 0 ≤ sizeLine; decide, fun l nl => ?_⟩
    have s0 := same_upd (o := .lst []) nl
    have hl0 : (upd H l (.lst [])) l = some (.lst []) := upd_same
    generalize upd H l (.lst []) = H0 at s0 hl0 ⊢
    refine ⟨_, rfl, x, dx, _, rfl, s0 _ _ hx, lkn, Z, x, rs, ms, ru, roof, rfl, go.same s0, _, rfl, y, dy, _, rfl, s0 _ _ hy, lkn, Z', y, rs', ms', ru', roof, rfl, go'.same s0, ?_⟩
    refine ⟨rfl, _, rfl, ifF (by simp) ?_⟩
    refine ⟨_, rfl, Z, x, rs, ms, ru, roof, rfl, go.same s0, gf, fun H1 p1 a1 a2 a3 kv1 kv2 nv3 s1 f1 f2 f3 hp1 h1 t1 h2 t2 h3 t3 => ?_⟩
    refine ⟨p1, _, rfl, hp1, rfl, _, _, rfl, _, _, rfl, _, _, rfl, rfl, ?_⟩
    have s01 := s0.trans s1
    refine ⟨_, rfl, Z', y, rs', ms', ru', roof, rfl, go'.same s01, gf', fun H2 p2 b1 b2 b3 kw1 kw2 nw3 s2 g1 g2 g3 hp2 k1 u1 k2 u2 k3 u3 => ?_⟩
    refine ⟨p2, _, rfl, hp2, rfl, _, _, rfl, _, _, rfl, _, _, rfl, rfl, ?_⟩
    have s02 := s01.trans s2
    have n1 : a1 ≠ b1 := fun z => by
      rw [← z, h1] at g1
      cases g1
    have n2 : a2 ≠ b2 := fun z => by
      rw [← z, h2] at g2
      cases g2
    have n3 : a3 ≠ b3 := fun z => by
      rw [← z, h3] at g3
      cases g3
    have h1 := s2 _ _ h1
    have h2 := s2 _ _ h2
    have h3 := s2 _ _ h3
    have t1 := t1.keep (KeepT.of s2) (sT_imms rs)
    have t2 := t2.keep (KeepT.of s2) (mT_imms ms)
    have t3 := RPr.keep (KeepT.of s2) t3
    have agS : ∀ t ∈ rs.map sT, ∀ t' ∈ rs'.map sT, t.k = t'.k → t.r = t'.r := fun t ht t' ht' e => by
      obtain ⟨r, hr, rfl⟩ := List.mem_map.mp ht
      obtain ⟨r', hr', rfl⟩ := List.mem_map.mp ht'
      rw [ag.s r hr r' hr' e]
    have agM : ∀ t ∈ ms.map mT, ∀ t' ∈ ms'.map mT, t.k = t'.k → t.r = t'.r := fun t ht t' ht' e => by
      obtain ⟨r, hr, rfl⟩ := List.mem_map.mp ht
      obtain ⟨r', hr', rfl⟩ := List.mem_map.mp ht'
      rw [ag.m r hr r' hr' e]
    -- nothing is unlike
    refine ⟨_, rfl, _, rfl, .inl ⟨a1, b1, kv1, kw1, _, _, rfl, n1, h1, t1, k1, u1, nk gf.so, nk gf'.so, sT_imms rs, sT_imms rs', up_shape gf.so, agS, fun H3 l1 s3 nl1 hl1 => ?_⟩⟩
    refine ⟨l1, rfl, ⟨_, SqL.of hl1⟩, for_it (walk_list (xs := [])) (fun i σ Y => σ = [some (.ref x), some (.ref y), some (.ref l), some (.ref a1), some (.ref a2), some (.ref a3), some (.ref b1), some (.ref b2), some (.ref b3), none, none, none, none, none] ∧ Y = H3) ⟨rfl, rfl⟩ (fun i σ Y _ h => by rw [h.2]; exact SqL.of hl1) (fun i e σ Y0 Y hi _ _ => absurd hi (Nat.not_lt_zero _)) ?_⟩
    rintro σ Y ⟨rfl, rfl⟩
    have s23 := s3
    refine ⟨_, rfl, _, rfl, .inl ⟨a2, b2, kv2, kw2, _, _, rfl, n2, s3 _ _ h2, t2.keep (KeepT.of s3) (mT_imms ms), s3 _ _ k2, u2.keep (KeepT.of s3) (mT_imms ms'), nm gf.nd, nm gf'.nd, mT_imms ms, mT_imms ms', mak_shape gf.so gf.ok, agM, fun H4 l2 s4 nl2 hl2 => ?_⟩⟩
    refine ⟨l2, rfl, ⟨_, SqL.of hl2⟩, for_it (walk_list (xs := [])) (fun i σ Y => σ = [some (.ref x), some (.ref y), some (.ref l), some (.ref a1), some (.ref a2), some (.ref a3), some (.ref b1), some (.ref b2), some (.ref b3), none, none, none, none, none] ∧ Y = H4) ⟨rfl, rfl⟩ (fun i σ Y _ h => by rw [h.2]; exact SqL.of hl2) (fun i e σ Y0 Y hi _ _ => absurd hi (Nat.not_lt_zero _)) ?_⟩
    rintro σ Y ⟨rfl, rfl⟩
    have s34 := s3.trans s4
    refine ⟨_, rfl, _, rfl, .inr ⟨a3, b3, nv3, nw3, ru, ru', rfl, n3, s34 _ _ h3, RPr.keep (KeepT.of s34) t3, s34 _ _ k3, RPr.keep (KeepT.of s34) u3, gf.rn, gf'.rn, vd_shape gf, ag.u, fun H5 l3 s5 nl3 hl3 => ?_⟩⟩
    refine ⟨l3, rfl, ⟨_, SqL.of hl3⟩, for_it (walk_list (xs := [])) (fun i σ Y => σ = [some (.ref x), some (.ref y), some (.ref l), some (.ref a1), some (.ref a2), some (.ref a3), some (.ref b1), some (.ref b2), some (.ref b3), none, none, none, none, none] ∧ Y = H5) ⟨rfl, rfl⟩ (fun i σ Y _ h => by rw [h.2]; exact SqL.of hl3) (fun i e σ Y0 Y hi _ _ => absurd hi (Nat.not_lt_zero _)) ?_⟩
    rintro σ Y ⟨rfl, rfl⟩
    have sA := (s1.trans s2).trans (s34.trans s5)
    refine ⟨_, rfl, l, [], [], rfl, SqL.of (sA _ _ hl0), .nil, (fun d hd => nomatch hd), .inl (fun d hd => nomatch hd), (fun d hd => nomatch hd), fun ys p hp hys np => ?_⟩
    obtain rfl := List.Perm.eq_nil hp
    exact q _ p ((s0.trans sA).trans (same_upd np)) ((s0.trans sA).free np) upd_same
end
/-! ### rows joined -/
abbrev s_rows_joined : Stmt := top 52
abbrev N_rows_joined : List Str := ["mine", "theirs", "names", "known", "row"]
abbrev P_rows_joined : List Str := ["mine", "theirs", "names"]
theorem sc_rows_joined : FnScope N_rows_joined P_rows_joined (defScope s_rows_joined) := ⟨rfl, rfl, rfl, by decide +kernel, rfl, by decide +kernel, by decide +kernel⟩
noncomputable def rowsJ (kf : PyData → PyData) (ds1 ds2 : List PyData) : List PyData := ds1 ++ ds2.filter fun d => @decide (∀ d' ∈ ds1, keyD (kf d') ≠ keyD (kf d)) (Classical.propDecidable _)
def KeyRow (K : PySem.W.Frag) (k : Int) (kf : PyData → PyData) (d : PyData) : Prop := imm d = true ∧ imm (kf d) = true ∧ (keyD (kf d)).depth ≤ 8 ∧ ∀ (Y : Hp) (v : V), Dp K Y v d → ∃ q xs, v = .ref q ∧ SqT K Y q xs ∧ ∀ (Y' : Hp) (p : Addr), Same Y Y' → SqT K Y' p (cutV xs none (some k)) → Dp K Y' (.ref p) (kf d)
def spRJ (K : PySem.W.Frag) (P : Program) (w : World) : Sp := fun vs H Q _ => ∃ (l1 l2 : Addr) (k : Int) (e1 e2 : List V) (ds1 ds2 : List PyData) (kf : PyData → PyData), vs = [.ref l1, .ref l2, .int k] ∧ H l1 = some (.lst e1) ∧ DpAll K H e1 ds1 ∧ H l2 = some (.lst e2) ∧ DpAll K H e2 ds2 ∧ ds1.length ≤ 300 ∧ ds2.length ≤ 300 ∧ (∀ d ∈ ds1 ++ ds2, KeyRow K k kf d) ∧
  ∀ (H' : Hp) (l : Addr) (es : List V), Same H H' → H l = none → H' l = some (.lst es) → DpAll K H' es (rowsJ kf ds1 ds2) → Q (.ref l) H'
section
variable {P : Program} {w : World} {K : PySem.W.Frag} {mg : Str → Option Value} {base : Heap} {G : Addr}
theorem ok_rows_joined (D : Dd K mg "rows_joined" s_rows_joined P_rows_joined) : C8.Cal P w K mg base 1 "rows_joined" (spRJ K P w) [] := by
  refine D.cal sc_rows_joined (fun vs H Q E h => ?_) (fun f cdv A outer s H vs Q E hr h => ?_)
  · obtain ⟨l1, l2, k, e1, e2, ds1, ds2, kf, rfl, _⟩ := h
    rfl
  · obtain ⟨l1, l2, k, e1, e2, ds1, ds2, kf, rfl, h1, d1, h2, d2, n1, n2, hk, q⟩ := h
    refine ⟨_, (pss_cons (ps_set (i := 3) sc_rows_joined.nd rfl (Or.inr rfl) (pe_dcG (own := [("row", 4)]) (O := fun p => dnO P w p []) (S := SN K P w) newOk_dn (storeOk_dn (hu9 (hu65 hr))) rfl sc_rows_joined.nd (pi_list (pv 0)) (blkOk_by (own := [("row", 4)]) (N := N_rows_joined) (sc := defScope s_rows_joined) (by decide +kernel)) (fun _ _ _ _ _ => (pg_name (i := 4) sc_rows_joined.nd rfl (Or.inl rfl))) (fun _ _ _ _ _ => pts_nil) (fun _ _ _ _ _ => (pe_slice (r := rSlAny K) sl_any (pv 4) po_none (po_some (pv 2)))) (fun _ _ _ _ _ => pe_bl)))
        (pss_one (ps_ret (pe_op op_cat (pv 0) (pe_lc (own := [("row", 4)]) (by exact rfl) sc_rows_joined.nd (pi_list (pv 1)) (blkOk_by (own := [("row", 4)]) (N := N_rows_joined) (sc := defScope s_rows_joined) (by decide +kernel)) (fun _ _ _ _ _ => (pg_name (i := 4) sc_rows_joined.nd rfl (Or.inl rfl))) (fun _ _ _ _ _ => (pts_one (pt_cmpR (show OpR _ _ (rNotInN K P w) from op_notInN (hu9 (hu65 hr))) (pe_slice (r := rSlAny K) sl_any (pv 4) po_none (po_some (pv 2))) (pv 3) (by with_unfolding_all rfl)))) (fun _ _ _ _ _ => (pv 4))))))), ?_⟩
    have ln1 := dpAll_len d1
    have ln2 := dpAll_len d2
    have i1 : immAll ds1 = true := immAll_of fun d hd => (hk d (List.mem_append_left _ hd)).1
    have i2 : immAll ds2 = true := immAll_of fun d hd => (hk d (List.mem_append_right _ hd)).1
    refine ⟨_, rfl, l1, rfl, ⟨_, SqL.of h1⟩, fun D1 nD1 => dcG_it (O := fun p => dnO P w p []) (S := SN K P w) (walk_list (xs := e1)) (fun i U => Same H U ∧ ∃ nvs, U D1 = some (dnO P w D1 nvs) ∧ KeysN K U nvs ∧ nvs.length ≤ i ∧ ∀ x, (valN nvs x).isSome = true ↔ ∃ d' ∈ ds1.take i, keyD (kf d') = x) ⟨same_upd nD1, [], upd_same, KeysN.nil, Nat.le_refl _, fun x => ⟨(fun z => nomatch z), fun z => by
      obtain ⟨d', hd', _⟩ := z
      rw [List.take_zero] at hd'
      cases hd'⟩⟩ (fun i U _ h => SqL.of (h.1 _ _ h1)) ?_ ?_⟩
    · rintro i e U0 U hi ⟨sU, nvs, hD, hkn, hnl, hv⟩ ⟨rfl, he⟩
      obtain ⟨d, hd, hde⟩ := dpAll_at d1 he
      have hdm := List.mem_of_getElem? hd
      obtain ⟨z1, z2, z3, z4⟩ := hk d (List.mem_append_left _ hdm)
      obtain ⟨qq, xs, rfl, hq, hcut⟩ := z4 U e (dp_same sU hde)
      have tk : ds1.take (i + 1) = ds1.take i ++ [d] := by rw [List.take_add_one, hd]; rfl
      refine ⟨rfl, yesT ?_⟩
      refine ⟨_, rfl, _, rfl, k, rfl, qq, xs, rfl, hq, fun U2 p s2 hp => ?_⟩
      have hkd := hcut U2 p s2 hp
      have hD' := s2 _ _ hD
      have hkn' := hkn.keep (KeepT.of s2)
      have hkey : KeyN K U2 (.ref p) p (kf d) := ⟨rfl, hkd, z2, z3⟩
      have kk : KeepT U2 (upd U2 D1 (dnO P w D1 (stN nvs (keyD (kf d)) p (.bl true)))) := KeepT.at_ hD' dn_no
      refine ⟨_, ⟨nvs, p, kf d, hD', hkn', hkey, by omega, rfl⟩, Same.at_ (sU.trans s2) nD1, _, upd_same, (hkn'.st hkey).keep kk, Nat.le_trans (stN_len ..) (Nat.succ_le_succ hnl), fun x => ?_⟩
      rw [valN_st, tk]
      by_cases ex : x = keyD (kf d)
      · rw [if_pos ex]
        exact ⟨fun _ => ⟨d, List.mem_append_right _ List.mem_cons_self, ex.symm⟩, fun _ => rfl⟩
      · rw [if_neg ex, hv x]
        constructor
        · rintro ⟨d', hd', e'⟩
          exact ⟨d', List.mem_append_left _ hd', e'⟩
        · rintro ⟨d', hd', e'⟩
          rcases List.mem_append.mp hd' with hd' | hd'
          · exact ⟨d', hd', e'⟩
          · rw [List.mem_singleton.mp hd'] at e'
            exact absurd e'.symm ex
    rintro U1 ⟨sU1, nvs, hD1, hkn1, hnl1, hv1⟩
    rw [ln1, List.take_length] at hv1
    have h1U := sU1 _ _ h1
    have h2U := sU1 _ _ h2
    refine ⟨_, rfl, _, rfl, l2, rfl, ⟨_, SqL.of h2U⟩, fun DD nD => ?_⟩
    refine lc_it (walk_list (xs := e2)) (fun i U => Same U1 U ∧ ∃ us, U DD = some (.lst us) ∧ us.length ≤ i ∧ DpAll K U us ((ds2.take i).filter fun d => @decide (∀ d' ∈ ds1, keyD (kf d') ≠ keyD (kf d)) (Classical.propDecidable _))) ⟨same_upd nD, [], upd_same, Nat.le_refl _, .nil⟩ (fun i U _ h => SqL.of (h.1 _ _ h2U)) ?_ ?_
    · rintro i e U0 U hi ⟨sU, us, hD, lus, hus⟩ ⟨rfl, he⟩
      obtain ⟨d, hd, hde⟩ := dpAll_at d2 he
      have hdm := List.mem_of_getElem? hd
      have hi2 : i < ds2.length := (List.getElem?_eq_some_iff.mp hd).1
      obtain ⟨z1, z2, z3, z4⟩ := hk d (List.mem_append_right _ hdm)
      have hdU := dp_same (sU1.trans sU) hde
      obtain ⟨qq, xs, rfl, hq, hcut⟩ := z4 U e hdU
      have tk : ds2.take (i + 1) = ds2.take i ++ [d] := by rw [List.take_add_one, hd]; rfl
      refine ⟨rfl, _, rfl, _, rfl, k, rfl, qq, xs, rfl, hq, fun U2 p s2 hp => ?_⟩
      have hkd := hcut U2 p s2 hp
      have sU2 := sU.trans s2
      have hD' := s2 _ _ hD
      have hus' := dpAll_same s2 hus
      refine ⟨_, rfl, D1, p, nvs, kf d, rfl, .inl (sU2 _ _ hD1), hkn1.keep (KeepT.of sU2), ⟨rfl, hkd, z2, z3⟩, _, rfl, ?_⟩
      by_cases hin : ∃ d' ∈ ds1, keyD (kf d') = keyD (kf d)
      · refine ifF (by rw [(hv1 _).mpr hin]; rfl) ⟨sU2, us, hD', by omega, ?_⟩
        have eF : [d].filter (fun d => @decide (∀ d' ∈ ds1, keyD (kf d') ≠ keyD (kf d)) (Classical.propDecidable _)) = [] := List.filter_eq_nil_iff.mpr fun x hx => by
          obtain ⟨d', g1, g2⟩ := hin
          rw [List.mem_singleton.mp hx]
          simp only [decide_eq_true_eq]
          exact fun z => z d' g1 g2
        rw [tk, List.filter_append, eF, List.append_nil]
        exact hus'
      · have hno : (valN nvs (keyD (kf d))).isSome = false := by
          cases e : (valN nvs (keyD (kf d))).isSome with
          | false => rfl
          | true => exact absurd ((hv1 _).mp e) hin
        refine ifT (by rw [hno]; rfl) ?_
        have kk : KeepT U2 (upd U2 DD (.lst (us ++ [.ref qq]))) := KeepT.at_ hD' lst_no
        refine ⟨_, rfl, us, hD', small1000 (by omega), Same.at_ sU2 nD, _, upd_same, by rw [List.length_append]; show us.length + 1 ≤ i + 1; omega, ?_⟩
        have eT : [d].filter (fun d => @decide (∀ d' ∈ ds1, keyD (kf d') ≠ keyD (kf d)) (Classical.propDecidable _)) = [d] := List.filter_eq_self.mpr fun x hx => by
          rw [List.mem_singleton.mp hx]
          simp only [decide_eq_true_eq]
          exact fun d' g1 g2 => hin ⟨d', g1, g2⟩
        rw [tk, List.filter_append, eT]
        have hi3 : immAll ((ds2.take i).filter fun d => @decide (∀ d' ∈ ds1, keyD (kf d') ≠ keyD (kf d)) (Classical.propDecidable _)) = true := immAll_of fun x hx => immAll_mem i2 x (List.mem_of_mem_take (List.mem_filter.mp hx).1)
        exact dpAll_appI (dpAll_imm kk hus' hi3) (.cons (dp_imm kk (dp_same s2 hdU) z1) .nil)
    · rintro U ⟨sU, us, hD, lus, hus⟩
      rw [ln2, List.take_length] at hus
      refine ⟨l1, DD, e1, us, rfl, rfl, sU _ _ h1U, hD, Nat.le_trans (show e1.length + us.length ≤ 600 by omega) (by decide), fun l nl => ?_⟩
      have sl := same_upd (o := .lst (e1 ++ us)) nl
      have sA := (sU1.trans sU).trans sl
      exact q _ l (e1 ++ us) sA ((sU1.trans sU).free nl) upd_same (dpAll_appI (dpAll_same sA d1) (dpAll_same sl hus))
end
/-! ### grammars joined, where nothing clashes -/
abbrev s_joined : Stmt := top 53
abbrev N_joined : List Str := ["one", "other", "found", "sorts", "makings", "rules"]
abbrev P_joined : List Str := ["one", "other"]
theorem sc_joined : FnScope N_joined P_joined (defScope s_joined) := ⟨rfl, rfl, rfl, by decide +kernel, rfl, by decide +kernel, by decide +kernel⟩
def kfT (k : Nat) : PyData → PyData
  | .tuple xs => .tuple (xs.take k)
  | d => d
noncomputable def jS (rs rs' : List SRow) : List SRow := rs ++ rs'.filter fun r => @decide (∀ r0 ∈ rs, r0.nm ≠ r.nm) (Classical.propDecidable _)
noncomputable def jM (ms ms' : List MRow) : List MRow := ms ++ ms'.filter fun r => @decide (∀ r0 ∈ ms, r0.nm ≠ r.nm) (Classical.propDecidable _)
noncomputable def jR (ru ru' : List RRow) : List RRow := ru ++ ru'.filter fun r => @decide (∀ r0 ∈ ru, r0.kd ≠ r.kd) (Classical.propDecidable _)
theorem nm_key {a b : List Nat} : keyD (.tuple [strD a]) = keyD (.tuple [strD b]) ↔ a = b := by
  constructor
  · intro h
    have h : NestedKey.tup [.text (SX.S a)] = NestedKey.tup [.text (SX.S b)] := h
    simp only [NestedKey.tup.injEq, List.cons.injEq, NestedKey.text.injEq, and_true] at h
    exact SX.S_inj h
  · rintro rfl
    rfl
theorem kd_eq {r r' : RRow} : keyD r.kd = keyD r'.kd ↔ r.kd = r'.kd := by
  constructor
  · intro h
    obtain ⟨h1, h2⟩ := kd_inj h
    unfold RRow.kd
    rw [h1, h2]
  · intro h
    rw [h]
theorem rowsJ_map {α : Type} {f : α → PyData} {kf : PyData → PyData} {Rl : α → α → Prop} (h : ∀ a b, keyD (kf (f a)) = keyD (kf (f b)) ↔ Rl a b) (xs ys : List α) : rowsJ kf (xs.map f) (ys.map f) = (xs ++ ys.filter fun y => @decide (∀ x ∈ xs, ¬ Rl x y) (Classical.propDecidable _)).map f := by
  unfold rowsJ
  rw [List.map_append, List.filter_map]
  congr 2
  refine List.filter_congr fun y _ => decide_eq_decide.mpr ?_
  constructor
  · intro z x hx e
    exact z (f x) (List.mem_map_of_mem hx) ((h x y).mpr e)
  · intro z d hd e
    obtain ⟨x, hx, rfl⟩ := List.mem_map.mp hd
    exact z x hx ((h x y).mp e)
theorem jS_map (rs rs' : List SRow) : rowsJ (kfT 1) (rs.map SRow.d) (rs'.map SRow.d) = (jS rs rs').map SRow.d := rowsJ_map (Rl := fun a b => a.nm = b.nm) (fun a b => nm_key) rs rs'
theorem jM_map (rs rs' : List MRow) : rowsJ (kfT 1) (rs.map MRow.d) (rs'.map MRow.d) = (jM rs rs').map MRow.d := rowsJ_map (Rl := fun a b => a.nm = b.nm) (fun a b => nm_key) rs rs'
theorem jR_map (rs rs' : List RRow) : rowsJ (kfT 2) (rs.map RRow.d) (rs'.map RRow.d) = (jR rs rs').map RRow.d := rowsJ_map (Rl := fun a b => a.kd = b.kd) (fun a b => kd_eq) rs rs'
theorem srow_key {K : PySem.W.Frag} (r : SRow) : KeyRow K 1 (kfT 1) r.d := ⟨r.imm, rfl, Nat.le_of_ble_eq_true rfl, fun Y v h => by
  obtain ⟨q, v1, v2, rfl, hq, _, _⟩ := t3_at (t := sT r) h
  exact ⟨q, _, rfl, hq, fun Y' p s hp => .tup (show SqT K Y' p [.str (SX.S r.nm)] from hp) (.cons (.str _) .nil)⟩⟩
theorem mrow_key {K : PySem.W.Frag} (r : MRow) : KeyRow K 1 (kfT 1) r.d := ⟨r.imm, rfl, Nat.le_of_ble_eq_true rfl, fun Y v h => by
  obtain ⟨q, v1, v2, rfl, hq, _, _⟩ := t3_at (t := mT r) h
  exact ⟨q, _, rfl, hq, fun Y' p s hp => .tup (show SqT K Y' p [.str (SX.S r.nm)] from hp) (.cons (.str _) .nil)⟩⟩
theorem rrow_key {K : PySem.W.Frag} (r : RRow) : KeyRow K 2 (kfT 2) r.d := ⟨r.imm, r.kd_imm, kd_deep r, fun Y v h => by
  obtain ⟨q, vt, vo, rfl, hq, a1, a2⟩ := row4 h
  exact ⟨q, _, rfl, hq, fun Y' p s hp => .tup (show SqT K Y' p [.str (SX.S r.ma), vt] from hp) (.cons (.str _) (.cons (dp_same s a1) .nil))⟩⟩
def spJoin (K : PySem.W.Frag) (P : Program) (w : World) (G : Addr) : Sp := fun vs H Q _ => ∃ (Z Z' : Hp) (x y : Addr) (rs : List SRow) (ms : List MRow) (ru : List RRow) (rs' : List SRow) (ms' : List MRow) (ru' : List RRow) (roof : Nat), vs = [.ref x, .ref y] ∧ GrOk K P w G Z H x rs ms ru roof ∧ GFit rs ms ru roof ∧ GrOk K P w G Z' H y rs' ms' ru' roof ∧ GFit rs' ms' ru' roof ∧ Agree rs ms ru rs' ms' ru' ∧ GFit (jS rs rs') (jM ms ms') (jR ru ru') roof ∧
  ∀ (H' : Hp) (x' : Addr), Same H H' → H x' = none → GrOk K P w G H H' x' (jS rs rs') (jM ms ms') (jR ru ru') roof → Risen K G H H' x' (jS rs rs') (jM ms ms') (jR ru ru') roof → Q (.ref x') H'
section
variable {P : Program} {w : World} {K : PySem.W.Frag} {mg : Str → Option Value} {base : Heap} {G : Addr}
theorem ok_joined (GK : GMk P w K mg base G) (MC : C8.Met P w K mg base 1 G "cap" (spCapG K P w G) []) (M1 : C8.Met P w K mg base 1 G "sorts" (spRowsOf K P w G fun rs _ _ => rs.map SRow.d) []) (M2 : C8.Met P w K mg base 1 G "makings" (spRowsOf K P w G fun _ ms _ => ms.map MRow.d) []) (M3 : C8.Met P w K mg base 1 G "rules" (spRowsOf K P w G fun _ _ ru => ru.map RRow.d) [])
    (cclashes : C8.Cal P w K mg base 3 "clashes" (spClash K P w G) []) (crows_joined : C8.Cal P w K mg base 1 "rows_joined" (spRJ K P w) []) (D : Dd K mg "joined" s_joined P_joined) : C8.Cal P w K mg base 8 "joined" (spJoin K P w G) [] := by
  obtain ⟨fG, fdG, FG, GM, gmg, gkb⟩ := GK.ex
  refine D.cal sc_joined (fun vs H Q E h => ?_) (fun f cdv A outer s H vs Q E hr h => ?_)
  · obtain ⟨Z, Z', x, y, rs, ms, ru, rs', ms', ru', roof, rfl, _⟩ := h
    rfl
  · obtain ⟨Z, Z', x, y, rs, ms, ru, rs', ms', ru', roof, rfl, go, gf, go', gf', ag, gj, q⟩ := h
    refine ⟨_, (pss_cons (ps_set (i := 2) sc_joined.nd rfl (Or.inl rfl) (C8.pe_c cclashes hr (by decide) (by rfl) (pa_cons (pv 0) (pa_cons (pv 1) pa_nil))))
        (pss_cons (ps_if (pt_truth (pv 2) (by intro _; rfl))
          (pss_one ps_never)
          pss_nil)
        (pss_cons (ps_set (i := 3) sc_joined.nd rfl (Or.inl rfl) (C8.pe_c crows_joined hr (by decide) (by rfl) (pa_cons (C8.pe_mt0 M1 hr (by decide) (pv 0)) (pa_cons (C8.pe_mt0 M1 hr (by decide) (pv 1)) (pa_cons pe_int pa_nil)))))
        (pss_cons (ps_set (i := 4) sc_joined.nd rfl (Or.inl rfl) (C8.pe_c crows_joined hr (by decide) (by rfl) (pa_cons (C8.pe_mt0 M2 hr (by decide) (pv 0)) (pa_cons (C8.pe_mt0 M2 hr (by decide) (pv 1)) (pa_cons pe_int pa_nil)))))
        (pss_cons (ps_set (i := 5) sc_joined.nd rfl (Or.inl rfl) (C8.pe_c crows_joined hr (by decide) (by rfl) (pa_cons (C8.pe_mt0 M3 hr (by decide) (pv 0)) (pa_cons (C8.pe_mt0 M3 hr (by decide) (pv 1)) (pa_cons pe_int pa_nil)))))
        (pss_one (ps_ret (pe_makeK GM FG (hr.mono (by decide)) (by rfl) gmg gkb pass0 (pa_cons (pv 3) (pa_cons (pv 4) (pa_cons (pv 5) pa_nil))) (pk_cons (C8.pe_mt0 MC hr (by decide) (pv 0)) pk_nil))))))))), ?_⟩
    obtain ⟨dx, _, _, _, _, _, hx, _⟩ := go.ex
    obtain ⟨dy, _, _, _, _, _, hy, _⟩ := go'.ex
    have lk1 : ∀ {a b c d e f : V}, (g6 a b c d e f).lookup (("sorts" : String) : Str) = none := fun {a b c d e f} => by with_unfolding_all rfl
    have lk2 : ∀ {a b c d e f : V}, (g6 a b c d e f).lookup (("makings" : String) : Str) = none := fun {a b c d e f} => by with_unfolding_all rfl
    have lk3 : ∀ {a b c d e f : V}, (g6 a b c d e f).lookup (("rules" : String) : Str) = none := fun {a b c d e f} => by with_unfolding_all rfl
    have lk4 : ∀ {a b c d e f : V}, (g6 a b c d e f).lookup (("cap" : String) : Str) = none := fun {a b c d e f} => by with_unfolding_all rfl
    have l1 := gf.so.le
    have l2 := gf.m8
    have l3 := gf.rl
    have l1' := gf'.so.le
    have l2' := gf'.m8
    have l3' := gf'.rl
    refine ⟨_, rfl, _, rfl, Z, Z', x, y, rs, ms, ru, rs', ms', ru', roof, rfl, go, gf, go', gf', ag, fun H1 l s1 nl hl => ?_⟩
    refine ⟨_, rfl, _, .inl ⟨[], SqL.of hl, rfl⟩, iteF ?_⟩
    -- sorts
    refine ⟨_, rfl, x, dx, _, rfl, s1 _ _ hx, lk1, Z, x, rs, ms, ru, roof, rfl, go.same s1, l1, l2, l3, fun H2 q1 e1 s2 nq1 hq1 hd1 => ?_⟩
    have hd1 : DpAll K H2 e1 (rs.map SRow.d) := hd1
    have s12 := s1.trans s2
    refine ⟨_, rfl, y, dy, _, rfl, s12 _ _ hy, lk1, Z', y, rs', ms', ru', roof, rfl, go'.same s12, l1', l2', l3', fun H3 q2 e2 s3 nq2 hq2 hd2 => ?_⟩
    have hd2 : DpAll K H3 e2 (rs'.map SRow.d) := hd2
    have s13 := s12.trans s3
    refine ⟨q1, q2, 1, e1, e2, rs.map SRow.d, rs'.map SRow.d, kfT 1, rfl, s3 _ _ hq1, dpAll_same s3 hd1, hq2, hd2, by rw [List.length_map]; omega, by rw [List.length_map]; omega, fun d hd => ?_, fun H4 ls es s4 nls hls hes => ?_⟩
    · rcases List.mem_append.mp hd with hd | hd
      · obtain ⟨r, _, rfl⟩ := List.mem_map.mp hd
        exact srow_key r
      · obtain ⟨r, _, rfl⟩ := List.mem_map.mp hd
        exact srow_key r
    rw [jS_map] at hes
    have s14 := s13.trans s4
    -- makings
    refine ⟨_, rfl, x, dx, _, rfl, s14 _ _ hx, lk2, Z, x, rs, ms, ru, roof, rfl, go.same s14, l1, l2, l3, fun H5 q3 e3 s5 nq3 hq3 hd3 => ?_⟩
    have hd3 : DpAll K H5 e3 (ms.map MRow.d) := hd3
    have s15 := s14.trans s5
    refine ⟨_, rfl, y, dy, _, rfl, s15 _ _ hy, lk2, Z', y, rs', ms', ru', roof, rfl, go'.same s15, l1', l2', l3', fun H6 q4 e4 s6 nq4 hq4 hd4 => ?_⟩
    have hd4 : DpAll K H6 e4 (ms'.map MRow.d) := hd4
    have s16 := s15.trans s6
    refine ⟨q3, q4, 1, e3, e4, ms.map MRow.d, ms'.map MRow.d, kfT 1, rfl, s6 _ _ hq3, dpAll_same s6 hd3, hq4, hd4, by rw [List.length_map]; omega, by rw [List.length_map]; omega, fun d hd => ?_, fun H7 lm em s7 nlm hlm hem => ?_⟩
    · rcases List.mem_append.mp hd with hd | hd
      · obtain ⟨r, _, rfl⟩ := List.mem_map.mp hd
        exact mrow_key r
      · obtain ⟨r, _, rfl⟩ := List.mem_map.mp hd
        exact mrow_key r
    rw [jM_map] at hem
    have s17 := s16.trans s7
    -- rules
    refine ⟨_, rfl, x, dx, _, rfl, s17 _ _ hx, lk3, Z, x, rs, ms, ru, roof, rfl, go.same s17, l1, l2, l3, fun H8 q5 e5 s8 nq5 hq5 hd5 => ?_⟩
    have hd5 : DpAll K H8 e5 (ru.map RRow.d) := hd5
    have s18 := s17.trans s8
    refine ⟨_, rfl, y, dy, _, rfl, s18 _ _ hy, lk3, Z', y, rs', ms', ru', roof, rfl, go'.same s18, l1', l2', l3', fun H9 q6 e6 s9 nq6 hq6 hd6 => ?_⟩
    have hd6 : DpAll K H9 e6 (ru'.map RRow.d) := hd6
    have s19 := s18.trans s9
    refine ⟨q5, q6, 2, e5, e6, ru.map RRow.d, ru'.map RRow.d, kfT 2, rfl, s9 _ _ hq5, dpAll_same s9 hd5, hq6, hd6, by rw [List.length_map]; omega, by rw [List.length_map]; omega, fun d hd => ?_, fun H10 lr er s10 nlr hlr her => ?_⟩
    · rcases List.mem_append.mp hd with hd | hd
      · obtain ⟨r, _, rfl⟩ := List.mem_map.mp hd
        exact rrow_key r
      · obtain ⟨r, _, rfl⟩ := List.mem_map.mp hd
        exact rrow_key r
    rw [jR_map] at her
    have s20 := s19.trans s10
    have s4A := ((s5.trans s6).trans s7).trans ((s8.trans s9).trans s10)
    have s7A := (s8.trans s9).trans s10
    -- the new one
    refine ⟨_, rfl, _, rfl, _, rfl, _, rfl, x, dx, _, rfl, s20 _ _ hx, lk4, Z, x, rs, ms, ru, roof, rfl, go.same s20, ?_⟩
    refine ⟨rfl, rfl, fun x' dx' nx ndx ndd => ?_⟩
    have nx2 : (upd H10 dx' (.own x')) x' = none := by
      rw [upd_ne (Ne.symm ndd)]
      exact nx
    have sn := (same_upd (o := .own x') ndx).trans (same_upd (o := .ins G dx' []) nx2)
    have sU := s20.trans sn
    have hx0 := s20.free nx
    refine ⟨x', dx', ls, lm, lr, roof, es, em, er, jS rs rs', jM ms ms', jR ru ru', rfl, upd_same, sn _ _ (s4A _ _ hls), sn _ _ (s7A _ _ hlm), sn _ _ hlr, dpAll_same (s4A.trans sn) hes, dpAll_same (s7A.trans sn) hem, dpAll_same sn her, gj, fun H' bt gr ri => ⟨rfl, q _ x' (fun b o hb => bt b o (ne_of_none hb hx0) (sU b o hb)) hx0 (gr.less sU) (ri.less sU)⟩⟩
end
/-! ### grammars of some of a grammar's rows -/
structure Half (rs : List SRow) (ms : List MRow) (ru : List RRow) (rs' : List SRow) (ms' : List MRow) (ru' : List RRow) : Prop where
  s : ∀ r ∈ rs', r ∈ rs
  sn : (rs'.map SRow.nm).Nodup
  m : ∀ m ∈ ms', m ∈ ms
  mn : (ms'.map MRow.nm).Nodup
  mp : ∀ m ∈ ms', ∀ k ∈ m.places, ∃ r ∈ rs', r.nm = k
  u : ∀ r ∈ ru', r ∈ ru
  un : RuNd ru'
  um : ∀ r ∈ ru', ∃ m ∈ ms', m.nm = r.ma
theorem nd_of_map {α : Type} {f : α → List Nat} {xs : List α} (h : (xs.map f).Nodup) : xs.Nodup := by
  induction xs with
  | nil => exact List.nodup_nil
  | cons x xs ih =>
    rw [List.map_cons, List.nodup_cons] at h
    exact List.nodup_cons.mpr ⟨fun z => h.1 (List.mem_map_of_mem z), ih h.2⟩
theorem ru_nd {ru : List RRow} (h : RuNd ru) : ru.Nodup := List.Pairwise.imp (fun {a b} hab z => by
  subst z
  exact hab rfl rfl) h
theorem few_of {α : Type} {xs ys : List α} (hn : xs.Nodup) (h : ∀ x ∈ xs, x ∈ ys) : xs.length ≤ ys.length := by
  classical
  exact nodup_leA hn h
theorem kept_sub {ru ru' : List RRow} (h : ∀ r ∈ ru', r ∈ ru) {m w : List Nat} (hw : w ∈ keptNames m ru') : w ∈ keptNames m ru := by
  obtain ⟨o, ho, hw⟩ := List.mem_flatMap.mp hw
  obtain ⟨r, hr, ho⟩ := List.mem_flatMap.mp ho
  obtain ⟨h1, h2⟩ := List.mem_filter.mp hr
  exact List.mem_flatMap.mpr ⟨o, List.mem_flatMap.mpr ⟨r, List.mem_filter.mpr ⟨h r h1, h2⟩, ho⟩, hw⟩
section
variable {rs : List SRow} {ms : List MRow} {ru : List RRow} {roof : Nat} {rs' : List SRow} {ms' : List MRow} {ru' : List RRow}
theorem Half.at_ (h : Half rs ms ru rs' ms' ru') (g : GFit rs ms ru roof) {m : MRow} (hm : m ∈ ms') {p : Nat} {w : List Nat} {b : Bool} (a : AtOf rs m p w b) : AtOf rs' m p w b := by
  obtain ⟨k, r, h1, h2, h3, h4⟩ := a
  obtain ⟨r', hr', e⟩ := h.mp m hm k (List.mem_of_getElem? h1)
  obtain rfl : r' = r := by_name g.so.nd r' (h.s r' hr') r h2 (e.trans h3.symm)
  exact ⟨k, r', h1, hr', e, h4⟩
theorem Half.fit (h : Half rs ms ru rs' ms' ru') (g : GFit rs ms ru roof) : GFit rs' ms' ru' roof where
  so := ⟨fun r hr => g.so.ok r (h.s r hr), h.sn, Nat.le_trans (few_of (nd_of_map h.sn) h.s) g.so.le⟩
  nd := h.mn
  ok := fun m hm => ⟨(g.ok m (h.m m hm)).nm, h.mp m hm, (g.ok m (h.m m hm)).p2⟩
  m8 := Nat.le_trans (few_of (nd_of_map h.mn) h.m) g.m8
  ra := fun r hr => by
    obtain ⟨mr, hmr, e, ht, ho⟩ := (g.ra r (h.u r hr)).ex
    obtain ⟨m2, hm2, e2⟩ := h.um r hr
    obtain rfl : m2 = mr := by_name g.nd m2 (h.m m2 hm2) mr hmr (e2.trans e)
    have kp : ∀ {w}, KeptOk rs m2 w → KeptOk rs' m2 w := fun {w} k => ⟨k.1, fun r hr => k.2 r (h.s r hr)⟩
    refine ⟨⟨m2, hm2, e, ?_, fun o hos => ?_⟩, (g.ra r (h.u r hr)).op, (g.ra r (h.u r hr)).ar⟩
    · cases et : r.tg with
      | sp p w => rw [et] at ht; exact h.at_ g hm2 ht
      | kept w => rw [et] at ht; exact kp ht
    · have h2 := ho o hos
      cases o with
      | own => trivial
      | num n => exact h2
      | en b =>
        cases b with
        | sp p w => exact h.at_ g hm2 h2
        | kept w => exact kp h2
  rn := h.un
  rl := Nat.le_trans (few_of (ru_nd h.un) h.u) g.rl
  kf := fun r hr => by
    obtain ⟨ks, h1, h2⟩ := g.kf r (h.u r hr)
    exact ⟨ks, h1, fun w hw => h2 w (kept_sub h.u hw)⟩
  ko := fun m hm => Nat.le_trans (few_of (gotTx_nodup _) fun z hz => by
    obtain ⟨w, hw, rfl⟩ := List.mem_map.mp (gotTx_mem.mp hz)
    exact gotTx_mem.mpr (List.mem_map.mpr ⟨w, kept_sub h.u hw, rfl⟩)) (g.ko m (h.m m hm))
  rf := g.rf
theorem Half.whole (g : GFit rs ms ru roof) : Half rs ms ru rs ms ru where
  s := fun _ h => h
  sn := g.so.nd
  m := fun _ h => h
  mn := g.nd
  mp := fun m hm => (g.ok m hm).so
  u := fun _ h => h
  un := g.rn
  um := fun r hr => by
    obtain ⟨mr, hmr, e, _⟩ := (g.ra r hr).ex
    exact ⟨mr, hmr, e.symm⟩
theorem Half.none : Half rs ms ru [] [] [] where
  s := fun _ h => nomatch h
  sn := List.nodup_nil
  m := fun _ h => nomatch h
  mn := List.nodup_nil
  mp := fun _ h => nomatch h
  u := fun _ h => nomatch h
  un := List.Pairwise.nil
  um := fun _ h => nomatch h
variable {rs2 : List SRow} {ms2 : List MRow} {ru2 : List RRow}
theorem Half.agree (g : GFit rs ms ru roof) (h : Half rs ms ru rs' ms' ru') (h2 : Half rs ms ru rs2 ms2 ru2) : Agree rs' ms' ru' rs2 ms2 ru2 where
  s := fun r hr r' hr' e => by_name g.so.nd r (h.s r hr) r' (h2.s r' hr') e
  m := fun r hr r' hr' e => by_name g.nd r (h.m r hr) r' (h2.m r' hr') e
  u := fun r hr r' hr' e => by
    obtain ⟨e1, e2⟩ := kd_inj (kd_eq.mpr e)
    exact rund_same g.rn r (h.u r hr) r' (h2.u r' hr') e1 e2
theorem jS_mem (g : GFit rs ms ru roof) (h : Half rs ms ru rs' ms' ru') (h2 : Half rs ms ru rs2 ms2 ru2) {r : SRow} : r ∈ jS rs' rs2 ↔ r ∈ rs' ∨ r ∈ rs2 := by
  unfold jS
  rw [List.mem_append, List.mem_filter]
  constructor
  · rintro (h | h)
    · exact .inl h
    · exact .inr h.1
  · rintro (hr | hr)
    · exact .inl hr
    · by_cases hx : ∃ r0 ∈ rs', r0.nm = r.nm
      · obtain ⟨r0, h0, e⟩ := hx
        rw [← (h.agree g h2).s r0 h0 r hr e]
        exact .inl h0
      · exact .inr ⟨hr, by simp only [decide_eq_true_eq]; exact fun r0 h0 e => hx ⟨r0, h0, e⟩⟩
theorem jM_mem (g : GFit rs ms ru roof) (h : Half rs ms ru rs' ms' ru') (h2 : Half rs ms ru rs2 ms2 ru2) {r : MRow} : r ∈ jM ms' ms2 ↔ r ∈ ms' ∨ r ∈ ms2 := by
  unfold jM
  rw [List.mem_append, List.mem_filter]
  constructor
  · rintro (h | h)
    · exact .inl h
    · exact .inr h.1
  · rintro (hr | hr)
    · exact .inl hr
    · by_cases hx : ∃ r0 ∈ ms', r0.nm = r.nm
      · obtain ⟨r0, h0, e⟩ := hx
        rw [← (h.agree g h2).m r0 h0 r hr e]
        exact .inl h0
      · exact .inr ⟨hr, by simp only [decide_eq_true_eq]; exact fun r0 h0 e => hx ⟨r0, h0, e⟩⟩
theorem jR_mem (g : GFit rs ms ru roof) (h : Half rs ms ru rs' ms' ru') (h2 : Half rs ms ru rs2 ms2 ru2) {r : RRow} : r ∈ jR ru' ru2 ↔ r ∈ ru' ∨ r ∈ ru2 := by
  unfold jR
  rw [List.mem_append, List.mem_filter]
  constructor
  · rintro (h | h)
    · exact .inl h
    · exact .inr h.1
  · rintro (hr | hr)
    · exact .inl hr
    · by_cases hx : ∃ r0 ∈ ru', r0.kd = r.kd
      · obtain ⟨r0, h0, e⟩ := hx
        rw [← (h.agree g h2).u r0 h0 r hr e]
        exact .inl h0
      · exact .inr ⟨hr, by simp only [decide_eq_true_eq]; exact fun r0 h0 e => hx ⟨r0, h0, e⟩⟩
theorem nd_join {α : Type} {f : α → List Nat} {xs ys : List α} (hx : (xs.map f).Nodup) (hy : (ys.map f).Nodup) : ((xs ++ ys.filter fun y => @decide (∀ x ∈ xs, f x ≠ f y) (Classical.propDecidable _)).map f).Nodup := by
  rw [List.map_append]
  refine List.nodup_append.mpr ⟨hx, List.Sublist.nodup ((List.filter_sublist (l := ys)).map f) hy, fun a ha b hb e => ?_⟩
  obtain ⟨x, hx', rfl⟩ := List.mem_map.mp ha
  obtain ⟨y, hy', rfl⟩ := List.mem_map.mp hb
  have := (List.mem_filter.mp hy').2
  simp only [decide_eq_true_eq] at this
  exact this x hx' e
theorem Half.join (g : GFit rs ms ru roof) (h : Half rs ms ru rs' ms' ru') (h2 : Half rs ms ru rs2 ms2 ru2) : Half rs ms ru (jS rs' rs2) (jM ms' ms2) (jR ru' ru2) where
  s := fun r hr => ((jS_mem g h h2).mp hr).elim (h.s r) (h2.s r)
  sn := nd_join h.sn h2.sn
  m := fun r hr => ((jM_mem g h h2).mp hr).elim (h.m r) (h2.m r)
  mn := nd_join h.mn h2.mn
  mp := fun m hm k hk => by
    rcases (jM_mem g h h2).mp hm with hm | hm
    · obtain ⟨r, hr, e⟩ := h.mp m hm k hk
      exact ⟨r, (jS_mem g h h2).mpr (.inl hr), e⟩
    · obtain ⟨r, hr, e⟩ := h2.mp m hm k hk
      exact ⟨r, (jS_mem g h h2).mpr (.inr hr), e⟩
  u := fun r hr => ((jR_mem g h h2).mp hr).elim (h.u r) (h2.u r)
  un := by
    unfold RuNd jR
    refine List.pairwise_append.mpr ⟨h.un, List.Pairwise.sublist List.filter_sublist h2.un, fun a ha b hb e1 e2 => ?_⟩
    have := (List.mem_filter.mp hb).2
    simp only [decide_eq_true_eq] at this
    exact this a ha (by unfold RRow.kd; rw [e1, e2])
  um := fun r hr => by
    rcases (jR_mem g h h2).mp hr with hr | hr
    · obtain ⟨m, hm, e⟩ := h.um r hr
      exact ⟨m, (jM_mem g h h2).mpr (.inl hm), e⟩
    · obtain ⟨m, hm, e⟩ := h2.um r hr
      exact ⟨m, (jM_mem g h h2).mpr (.inr hm), e⟩
theorem srtR_perm {ds es : List PyData} (p : ds.Perm es) : srtR ds = srtR es := by
  have e : rowsIn ds = rowsIn es := funext fun x => propext ⟨fun h => ⟨h.1.trans p, h.2⟩, fun h => ⟨h.1.trans p.symm, h.2⟩⟩
  unfold srtR
  rw [e]
/-- the same rows, in whatever order -/
theorem rsd_same (h : Half rs ms ru rs' ms' ru') (h2 : Half rs ms ru rs2 ms2 ru2) (e1 : ∀ r, r ∈ rs' ↔ r ∈ rs2) (e2 : ∀ r, r ∈ ms' ↔ r ∈ ms2) (e3 : ∀ r, r ∈ ru' ↔ r ∈ ru2) : RsD rs' ms' ru' roof = RsD rs2 ms2 ru2 roof := by
  have p1 := (List.perm_ext_iff_of_nodup (nd_of_map h.sn) (nd_of_map h2.sn)).mpr e1
  have p2 := (List.perm_ext_iff_of_nodup (nd_of_map h.mn) (nd_of_map h2.mn)).mpr e2
  have p3 := (List.perm_ext_iff_of_nodup (ru_nd h.un) (ru_nd h2.un)).mpr e3
  unfold RsD
  rw [srtR_perm (p1.map SRow.d), srtR_perm (p2.map MRow.d), srtR_perm (p3.map RRow.d)]
end
/-! ### the law's own joining -/
abbrev s__law_more : Stmt := top 70
abbrev N__law_more : List Str := ["_law_mine", "_law_its", "_law_many", "_law_row", "_law_own"]
abbrev P__law_more : List Str := ["_law_mine", "_law_its", "_law_many"]
theorem sc__law_more : FnScope N__law_more P__law_more (defScope s__law_more) := ⟨rfl, rfl, rfl, by decide +kernel, rfl, by decide +kernel, by decide +kernel⟩
def spMore (K : PySem.W.Frag) : Sp := fun vs H Q _ => ∃ (l1 l2 : Addr) (k : Int) (e1 e2 : List V) (ds1 ds2 : List PyData) (kf : PyData → PyData), vs = [.ref l1, .ref l2, .int k] ∧ H l1 = some (.lst e1) ∧ DpAll K H e1 ds1 ∧ H l2 = some (.lst e2) ∧ DpAll K H e2 ds2 ∧ ds1.length ≤ 300 ∧ ds2.length ≤ 300 ∧ (∀ d ∈ ds1 ++ ds2, KeyRow K k kf d) ∧ (∀ d ∈ ds2, SeqAt.shaped (kf d) = true) ∧ SeqAt.shaped (.list (ds1.map kf)) = true ∧ (∀ d ∈ ds1, ∀ d' ∈ ds2, (PyData.eqv (kf d) (kf d') = true ↔ keyD (kf d) = keyD (kf d'))) ∧
  ∀ (H' : Hp) (l : Addr) (es : List V), Same H H' → H l = none → H' l = some (.lst es) → DpAll K H' es (rowsJ kf ds1 ds2) → Q (.ref l) H'
section
variable {P : Program} {w : World} {K : PySem.W.Frag} {mg : Str → Option Value} {base : Heap} {G : Addr}
theorem ok_more (D : Dd K mg "_law_more" s__law_more P__law_more) : C8.Cal P w K mg base 1 "_law_more" (spMore K) [] := by
  refine D.cal sc__law_more (fun vs H Q E h => ?_) (fun f cdv A outer s H vs Q E hr h => ?_)
  · obtain ⟨l1, l2, k, e1, e2, ds1, ds2, kf, rfl, _⟩ := h
    rfl
  · obtain ⟨l1, l2, k, e1, e2, ds1, ds2, kf, rfl, h1, d1, h2, d2, n1, n2, hk, sh, shl, hev, q⟩ := h
    refine ⟨_, (pss_one (ps_ret (pe_op op_cat (pv 0) (pe_lc (own := [("_law_row", 3)]) (by exact rfl) sc__law_more.nd (pi_list (pv 1)) (blkOk_by (own := [("_law_row", 3)]) (N := N__law_more) (sc := defScope s__law_more) (by decide +kernel)) (fun _ _ _ _ _ => (pg_name (i := 3) sc__law_more.nd rfl (Or.inl rfl))) (fun _ _ _ _ _ => (pts_one (pt_cmpR (show OpR _ _ (rNotInD K) from op_notInD (hu65 hr)) (pe_slice (r := rSlAny K) sl_any (pv 3) po_none (po_some (pv 2))) (show PE _ _ (tLc (iList K (tVar 0)) (gName 4) tYes (tSl (rSlAny K) (tVar 4) tNoPart (tPart (tVar 2))) [4]) from (pe_lc (own := [("_law_own", 4)]) (by exact rfl) sc__law_more.nd (pi_list (pv 0)) (blkOk_by (own := [("_law_own", 4)]) (by rfl)) (fun _ _ _ _ _ => (pg_name (i := 4) sc__law_more.nd rfl (Or.inl rfl))) (fun _ _ _ _ _ => pts_nil) (fun _ _ _ _ _ => (pe_slice (r := rSlAny K) sl_any (pv 4) po_none (po_some (pv 2)))))) (by with_unfolding_all rfl)))) (fun _ _ _ _ _ => (pv 3)))))), ?_⟩
    have ln1 := dpAll_len d1
    have ln2 := dpAll_len d2
    have i2 : immAll ds2 = true := immAll_of fun d hd => (hk d (List.mem_append_right _ hd)).1
    refine ⟨_, rfl, _, rfl, l2, rfl, ⟨_, SqL.of h2⟩, fun DD nD => ?_⟩
    refine lc_it (walk_list (xs := e2)) (fun i U => Same H U ∧ ∃ us, U DD = some (.lst us) ∧ us.length ≤ i ∧ DpAll K U us ((ds2.take i).filter fun d => @decide (∀ d' ∈ ds1, keyD (kf d') ≠ keyD (kf d)) (Classical.propDecidable _))) ⟨same_upd nD, [], upd_same, Nat.le_refl _, .nil⟩ (fun i U _ h => SqL.of (h.1 _ _ h2)) ?_ ?_
    · rintro i e U0 U hi ⟨sU, us, hD, lus, hus⟩ ⟨rfl, he⟩
      obtain ⟨d, hd, hde⟩ := dpAll_at d2 he
      have hdm := List.mem_of_getElem? hd
      have hi2 : i < ds2.length := (List.getElem?_eq_some_iff.mp hd).1
      obtain ⟨z1, z2, z3, z4⟩ := hk d (List.mem_append_right _ hdm)
      have hdU := dp_same sU hde
      obtain ⟨qq, xs, rfl, hq, hcut⟩ := z4 U e hdU
      have tk : ds2.take (i + 1) = ds2.take i ++ [d] := by rw [List.take_add_one, hd]; rfl
      refine ⟨rfl, _, rfl, _, rfl, k, rfl, qq, xs, rfl, hq, fun U2 p s2 hp => ?_⟩
      have hkd := hcut U2 p s2 hp
      have sU2 := sU.trans s2
      -- all keys of the first ones
      refine ⟨_, rfl, l1, rfl, ⟨_, SqL.of (sU2 _ _ h1)⟩, fun D2 nD2 => ?_⟩
      refine lc_it (walk_list (xs := e1)) (fun j W => Same U2 W ∧ ∃ ws, W D2 = some (.lst ws) ∧ ws.length ≤ j ∧ DpAll K W ws ((ds1.take j).map kf)) ⟨same_upd nD2, [], upd_same, Nat.le_refl _, .nil⟩ (fun j W _ h => SqL.of ((sU2.trans h.1) _ _ h1)) ?_ ?_
      · rintro j e' W0 W hj ⟨sW, ws, hD2, lws, hws⟩ ⟨rfl, he'⟩
        obtain ⟨d', hd', hde'⟩ := dpAll_at d1 he'
        have hdm' := List.mem_of_getElem? hd'
        have hj1 : j < ds1.length := (List.getElem?_eq_some_iff.mp hd').1
        obtain ⟨y1, y2, y3, y4⟩ := hk d' (List.mem_append_left _ hdm')
        obtain ⟨q3, xs3, rfl, hq3, hcut3⟩ := y4 W e' (dp_same (sU2.trans sW) hde')
        have tk' : ds1.take (j + 1) = ds1.take j ++ [d'] := by rw [List.take_add_one, hd']; rfl
        refine ⟨rfl, yesT ?_⟩
        refine ⟨_, rfl, _, rfl, k, rfl, q3, xs3, rfl, hq3, fun W2 p3 s3 hp3 => ?_⟩
        have hD3 := s3 _ _ hD2
        have kk : KeepT W2 (upd W2 D2 (.lst (ws ++ [.ref p3]))) := KeepT.at_ hD3 lst_no
        refine ⟨ws, hD3, small1000 (by omega), Same.at_ (sW.trans s3) nD2, _, upd_same, by rw [List.length_append]; show ws.length + 1 ≤ j + 1; omega, ?_⟩
        rw [tk', List.map_append]
        have hi3 : immAll ((ds1.take j).map kf) = true := immAll_of fun x hx => by
          obtain ⟨x0, hx0, rfl⟩ := List.mem_map.mp hx
          exact (hk x0 (List.mem_append_left _ (List.mem_of_mem_take hx0))).2.1
        exact dpAll_appI (dpAll_imm kk (dpAll_same s3 hws) hi3) (.cons (dp_imm kk (hcut3 W2 p3 s3 hp3) y2) .nil)
      rintro W ⟨sW, ws, hD2, lws, hws⟩
      rw [ln1, List.take_length] at hws
      have sUW := sU2.trans sW
      have hDW := (s2.trans sW) _ _ hD
      have husW := dpAll_same (s2.trans sW) hus
      refine ⟨kf d, ds1.map kf, dp_same sW hkd, .lst (SqL.of hD2) hws, sh d hdm, shl, _, rfl, ?_⟩
      by_cases hin : ∃ d' ∈ ds1, keyD (kf d') = keyD (kf d)
      · have ha : ((ds1.map kf).any fun z => PyData.eqv z (kf d)) = true := by
          obtain ⟨d', g1, g2⟩ := hin
          exact List.any_eq_true.mpr ⟨kf d', List.mem_map_of_mem g1, (hev d' g1 d hdm).mpr g2⟩
        refine ifF (by rw [ha]; rfl) ⟨sUW, us, hDW, by omega, ?_⟩
        have eF : [d].filter (fun d => @decide (∀ d' ∈ ds1, keyD (kf d') ≠ keyD (kf d)) (Classical.propDecidable _)) = [] := List.filter_eq_nil_iff.mpr fun x hx => by
          obtain ⟨d', g1, g2⟩ := hin
          rw [List.mem_singleton.mp hx]
          simp only [decide_eq_true_eq]
          exact fun z => z d' g1 g2
        rw [tk, List.filter_append, eF, List.append_nil]
        exact husW
      · have ha : ((ds1.map kf).any fun z => PyData.eqv z (kf d)) = false := by
          cases e : (ds1.map kf).any fun z => PyData.eqv z (kf d) with
          | false => rfl
          | true =>
            obtain ⟨z, hz, ez⟩ := List.any_eq_true.mp e
            obtain ⟨d', g1, rfl⟩ := List.mem_map.mp hz
            exact absurd ⟨d', g1, (hev d' g1 d hdm).mp ez⟩ hin
        refine ifT (by rw [ha]; rfl) ?_
        have kk : KeepT W (upd W DD (.lst (us ++ [.ref qq]))) := KeepT.at_ hDW lst_no
        refine ⟨_, rfl, us, hDW, small1000 (by omega), Same.at_ sUW nD, _, upd_same, by rw [List.length_append]; show us.length + 1 ≤ i + 1; omega, ?_⟩
        have eT : [d].filter (fun d => @decide (∀ d' ∈ ds1, keyD (kf d') ≠ keyD (kf d)) (Classical.propDecidable _)) = [d] := List.filter_eq_self.mpr fun x hx => by
          rw [List.mem_singleton.mp hx]
          simp only [decide_eq_true_eq]
          exact fun d' g1 g2 => hin ⟨d', g1, g2⟩
        rw [tk, List.filter_append, eT]
        have hi3 : immAll ((ds2.take i).filter fun d => @decide (∀ d' ∈ ds1, keyD (kf d') ≠ keyD (kf d)) (Classical.propDecidable _)) = true := immAll_of fun x hx => immAll_mem i2 x (List.mem_of_mem_take (List.mem_filter.mp hx).1)
        exact dpAll_appI (dpAll_imm kk husW hi3) (.cons (dp_imm kk (dp_same (s2.trans sW) hdU) z1) .nil)
    · rintro U ⟨sU, us, hD, lus, hus⟩
      rw [ln2, List.take_length] at hus
      refine ⟨l1, DD, e1, us, rfl, rfl, sU _ _ h1, hD, Nat.le_trans (show e1.length + us.length ≤ 600 by omega) (by decide), fun l nl => ?_⟩
      have sl := same_upd (o := .lst (e1 ++ us)) nl
      have sA := sU.trans sl
      exact q _ l (e1 ++ us) sA (sU.free nl) upd_same (dpAll_appI (dpAll_same sA d1) (dpAll_same sl hus))
end
/-! ### a law's dict of rows, made anew -/
abbrev s__law_dict : Stmt := top 68
abbrev N__law_dict : List Str := ["_law_roof", "_law_kinds", "_law_makings", "_law_rules", "_law_g", "_law_row"]
abbrev P__law_dict : List Str := ["_law_roof", "_law_kinds", "_law_makings", "_law_rules"]
theorem sc__law_dict : FnScope N__law_dict P__law_dict (defScope s__law_dict) := ⟨rfl, rfl, rfl, by decide +kernel, rfl, by decide +kernel, by decide +kernel⟩
structure Di55 (mg : Str → Option Value) : Prop where
  dict : mg "dict" = none
/-- .. with its lists' places -/
def GDat (K : PySem.W.Frag) (Y : Hp) (gd ls lm lr : Addr) (rs : List SRow) (ms : List MRow) (ru : List RRow) (roof : Nat) : Prop := ∃ (kvs : List (Key × V)) (sv mv rv : List V), Y gd = some (.dK kvs) ∧ valV kvs (Sum.inr "cap") = some (.int (roof : Nat)) ∧ valV kvs (Sum.inr "sorts") = some (.ref ls) ∧ valV kvs (Sum.inr "makings") = some (.ref lm) ∧ valV kvs (Sum.inr "rules") = some (.ref lr) ∧
    Y ls = some (.lst sv) ∧ DpAll K Y sv (rs.map SRow.d) ∧ Y lm = some (.lst mv) ∧ DpAll K Y mv (ms.map MRow.d) ∧ Y lr = some (.lst rv) ∧ DpAll K Y rv (ru.map RRow.d)
/-- .. that are not the box -/
structure GDA (K : PySem.W.Frag) (Y : Hp) (a gd : Addr) (rs : List SRow) (ms : List MRow) (ru : List RRow) (roof : Nat) : Prop where
  ex : ∃ ls lm lr, GDat K Y gd ls lm lr rs ms ru roof ∧ ls ≠ a ∧ lm ≠ a ∧ lr ≠ a
theorem GDA.gd {K : PySem.W.Frag} {Y : Hp} {a gd : Addr} {rs : List SRow} {ms : List MRow} {ru : List RRow} {roof : Nat} (h : GDA K Y a gd rs ms ru roof) : GD K Y gd rs ms ru roof := by
  obtain ⟨ls, lm, lr, ⟨kvs, sv, mv, rv, h⟩, _⟩ := h.ex
  exact ⟨ls, lm, lr, kvs, sv, mv, rv, h⟩
theorem GDA.same {K : PySem.W.Frag} {Y Z : Hp} {a gd : Addr} {rs : List SRow} {ms : List MRow} {ru : List RRow} {roof : Nat} (h : GDA K Y a gd rs ms ru roof) (s : Same Y Z) : GDA K Z a gd rs ms ru roof := by
  obtain ⟨ls, lm, lr, ⟨kvs, sv, mv, rv, h1, c1, c2, c3, c4, a1, a2, a3, a4, a5, a6⟩, n⟩ := h.ex
  exact ⟨ls, lm, lr, ⟨kvs, sv, mv, rv, s _ _ h1, c1, c2, c3, c4, s _ _ a1, dpAll_same s a2, s _ _ a3, dpAll_same s a4, s _ _ a5, dpAll_same s a6⟩, n⟩
theorem GDA.but {K : PySem.W.Frag} {Y Z : Hp} {a gd : Addr} {b : List V} {rs : List SRow} {ms : List MRow} {ru : List RRow} {roof : Nat} (h : GDA K Y a gd rs ms ru roof) (hb : Y a = some (.lst b)) (t : But a Y Z) : GDA K Z a gd rs ms ru roof := by
  obtain ⟨ls, lm, lr, ⟨kvs, sv, mv, rv, h1, c1, c2, c3, c4, a1, a2, a3, a4, a5, a6⟩, n1, n2, n3⟩ := h.ex
  have k := KeepT.but hb t
  exact ⟨ls, lm, lr, ⟨kvs, sv, mv, rv, t _ _ (fun z => by rw [z, hb] at h1; cases h1) h1, c1, c2, c3, c4, t _ _ n1 a1, dpAll_imm k a2 (immAll_map SRow.imm rs), t _ _ n2 a3, dpAll_imm k a4 (immAll_map MRow.imm ms), t _ _ n3 a5, dpAll_imm k a6 (immAll_map RRow.imm ru)⟩, n1, n2, n3⟩
theorem GramIn.gda {K : PySem.W.Frag} {Y : Hp} {a gd : Addr} {rs : List SRow} {ms : List MRow} {ru : List RRow} {roof : Nat} (h : GramIn K Y a gd rs ms ru roof) : GDA K Y a gd rs ms ru roof := by
  obtain ⟨ls, lm, lr, of, gkv, gs, _⟩ := h.ex
  obtain ⟨sv, hls, hsv⟩ := gs.hls
  obtain ⟨mv, hlm, hmv⟩ := gs.hlm
  obtain ⟨rv, hlr, hrv⟩ := gs.hlr
  exact ⟨ls, lm, lr, ⟨gkv, sv, mv, rv, gs.hgd, gs.cap, gs.so, gs.mak, gs.rl, hls, hsv, hlm, hmv, hlr, hrv⟩, gs.n1, gs.n2, gs.n3⟩
def spDict (K : PySem.W.Frag) : Sp := fun vs H Q _ => ∃ (lk lm lr : Addr) (sv mv rv : List V) (rs : List SRow) (ms : List MRow) (ru : List RRow) (roof : Nat), vs = [.int (roof : Nat), .ref lk, .ref lm, .ref lr] ∧ H lk = some (.lst sv) ∧ DpAll K H sv (rs.map SRow.d) ∧ H lm = some (.lst mv) ∧ DpAll K H mv (ms.map MRow.d) ∧ H lr = some (.lst rv) ∧ DpAll K H rv (ru.map RRow.d) ∧ rs.length ≤ 300 ∧ ms.length ≤ 300 ∧ ru.length ≤ 300 ∧
  ∀ (H' : Hp) (gd : Addr), Same H H' → H gd = none → GDat K H' gd lk lm lr rs ms ru roof → Q (.ref gd) H'
/-- [(row[0], row[1:]) for row in rows] -/
theorem lc_of6 {K : PySem.W.Frag} {L D : Addr} {vs : List V} {ts : List T3} {x0 x1 x2 x3 x4 x5 : Option V} {Y : Hp} {Qd : Hp → Prop} (hL : Y L = some (.lst vs)) (hv : DpAll K Y vs (ts.map T3.d)) (hi : ∀ t ∈ ts, imm t.r = true) (hl : ts.length ≤ 300) (nD : Y D = none)
    (hd : ∀ (U : Hp) (ps : List Addr), Same Y U → U D = some (.lst (ps.map V.ref)) → Prs K U ps ts → Qd U) :
    ∃ W : Nat → Nat → Hp → Prop, (∃ m, W 0 m (upd Y D (.lst []))) ∧ ∀ i m H, W i m H →
      ((Itl K L).stop i H ∧ Qd H) ∨ ((Itl K L).go i H ∧ ∃ Nx : Hp → Prop, (∀ H', Nx H' → ∃ m', m' < m ∧ W (i + 1) m' H') ∧ ∀ x H', (Itl K L).yld i H x H' → gName 5 x (wipe [x0, x1, x2, x3, x4, x5] [5]) H' fun σ2 H2 => wipe σ2 [5] = wipe [x0, x1, x2, x3, x4, x5] [5] ∧ tYes σ2 H2 fun b H3 =>
        if b = true then tTup (tCons (tOp (rIxT K) (tVar 5) (tC (V.int 0))) (tCons (tSl (rSlAny K) (tVar 5) (tPart (tC (V.int 1))) tNoPart) tNil)) σ2 H3 fun y H4 => ∃ acc, H4 D = some (.lst acc) ∧ acc.length < sizeLine ∧ Nx (upd H4 D (.lst (acc ++ [y]))) else Nx H3) := by
  have lv := dpAll_len hv
  rw [List.length_map] at lv
  refine lc_list (K := K) (a := L) (xs := vs) (fun j U => Same Y U ∧ ∃ ps : List Addr, U D = some (.lst (ps.map V.ref)) ∧ Prs K U ps (ts.take j)) ⟨same_upd nD, [], upd_same, .nil⟩ (fun j U _ h => SqL.of (h.1 _ _ hL)) ?_ ?_
  · rintro j x U hx ⟨sU, ps, hD, hp⟩
    obtain ⟨dd, hdd, hxd⟩ := dpAll_at hv hx
    rw [List.getElem?_map] at hdd
    obtain ⟨t, ht, rfl⟩ : ∃ t, ts[j]? = some t ∧ dd = t.d := by
      cases h : ts[j]? with
      | none => rw [h] at hdd; cases hdd
      | some e => rw [h] at hdd; exact ⟨e, rfl, (Option.some.inj hdd).symm⟩
    have hj : j < ts.length := (List.getElem?_eq_some_iff.mp ht).1
    have tk : ts.take (j + 1) = ts.take j ++ [t] := by rw [List.take_add_one, ht]; rfl
    have lp := paired_len hp
    rw [List.length_take] at lp
    obtain ⟨q, v1, v2, rfl, hq, h1, h2⟩ := t3_at (dp_same sU hxd)
    refine ⟨rfl, yesT ?_⟩
    refine ⟨_, rfl, q, _, 0, .str (SX.S t.k), rfl, rfl, hq, atI_nat (j := 0) rfl, _, rfl, 1, rfl, q, _, rfl, hq, fun U2 t2 s2 ht2 => ?_⟩
    have ht2 : SqT K U2 t2 [v1, v2] := ht2
    refine ⟨by show 2 ≤ sizeLine; decide, fun p3 n3 => ?_⟩
    have s3 := same_upd (o := .tup [.str (SX.S t.k), .ref t2]) n3
    have s23 := s2.trans s3
    have hD3 := s23 _ _ hD
    refine ⟨_, hD3, small1000 (by rw [List.length_map]; omega), ?_, ps ++ [p3], ?_, ?_⟩
    · exact Same.at_ (sU.trans s23) nD
    · rw [List.map_append]
      exact upd_same
    · rw [tk]
      have kk : KeepT (upd U2 p3 (.tup [.str (SX.S t.k), .ref t2])) (upd (upd U2 p3 (.tup [.str (SX.S t.k), .ref t2])) D (.lst (ps.map V.ref ++ [.ref p3]))) := KeepT.at_ hD3 lst_no
      have hit := hi t (List.mem_of_getElem? ht)
      have dv : Dp K U2 (.ref t2) t.r := .tup ht2 (.cons (dp_same s2 h1) (.cons (dp_same s2 h2) .nil))
      exact paired_snoc (prs_keep ((KeepT.of s23).trans kk) (fun t h => hi t (List.mem_of_mem_take h)) hp) ⟨.ref t2, kk.seqT (SqT.of upd_same), dp_imm ((KeepT.of s3).trans kk) dv hit⟩
  · rintro U ⟨sU, ps, hD, hp⟩
    rw [lv, List.take_length] at hp
    exact hd U ps sU hD hp
section
variable {P : Program} {w : World} {K : PySem.W.Frag} {mg : Str → Option Value} {base : Heap} {G : Addr}
theorem ok_dict55 (T : Di55 mg) (D : Dd K mg "_law_dict" s__law_dict P__law_dict) : C8.Cal P w K mg base 1 "_law_dict" (spDict K) [] := by
  refine D.cal sc__law_dict (fun vs H Q E h => ?_) (fun f cdv A outer s H vs Q E hr h => ?_)
  · obtain ⟨lk, lm, lr, sv, mv, rv, rs, ms, ru, roof, rfl, _⟩ := h
    rfl
  · obtain ⟨lk, lm, lr, sv, mv, rv, rs, ms, ru, roof, rfl, hk, dk, hm, dm, hr', dr, n1, n2, n3, q⟩ := h
    refine ⟨_, (pss_cons (ps_set (i := 4) sc__law_dict.nd rfl (Or.inl rfl) (pe_disp (pps_cons pe_str (pv 0) (pps_cons pe_str (pv 1) (pps_cons pe_str (pv 2) (pps_cons pe_str (pv 3) pps_nil)))) (by rfl) (by rfl) (fun z => by cases z) (by decide)))
        (pss_cons (ps_asg (pe_tup (pa_cons (pe_callTy (call_dictP rfl) (by rfl) T.dict (by decide +kernel) (pa_cons (pe_lc (own := [("_law_row", 5)]) (by exact rfl) sc__law_dict.nd (pi_list (pv 1)) (blkOk_by (own := [("_law_row", 5)]) (N := N__law_dict) (sc := defScope s__law_dict) (by decide +kernel)) (fun _ _ _ _ _ => (pg_name (i := 5) sc__law_dict.nd rfl (Or.inl rfl))) (fun _ _ _ _ _ => pts_nil) (fun _ _ _ _ _ => (pe_tup (pa_cons (pe_ix (r := rIxT K) ix_tup (pv 5) pe_int (fun _ _ => rfl)) (pa_cons (pe_slice (r := rSlAny K) sl_any (pv 5) (po_some pe_int) po_none) pa_nil))))) pa_nil)) (pa_cons (pe_callTy (call_dictP rfl) (by rfl) T.dict (by decide +kernel) (pa_cons (pe_lc (own := [("_law_row", 5)]) (by exact rfl) sc__law_dict.nd (pi_list (pv 2)) (blkOk_by (own := [("_law_row", 5)]) (N := N__law_dict) (sc := defScope s__law_dict) (by decide +kernel)) (fun _ _ _ _ _ => (pg_name (i := 5) sc__law_dict.nd rfl (Or.inl rfl))) (fun _ _ _ _ _ => pts_nil) (fun _ _ _ _ _ => (pe_tup (pa_cons (pe_ix (r := rIxT K) ix_tup (pv 5) pe_int (fun _ _ => rfl)) (pa_cons (pe_slice (r := rSlAny K) sl_any (pv 5) (po_some pe_int) po_none) pa_nil))))) pa_nil)) pa_nil))) (pg_tup (n := 2) rfl (pgs_cons (pg_sub (pv 4) pe_str (set_dict (hu_of hr))) (pgs_cons (pg_sub (pv 4) pe_str (set_dict (hu_of hr))) pgs_nil))))
        (pss_cons (ps_dput (hu_of hr) (pv 4) pe_str (pe_callTy (call_dictN (hu65 hr) rfl) (by rfl) T.dict (by decide +kernel) (pa_cons (pe_lc (own := [("_law_row", 5)]) (by exact rfl) sc__law_dict.nd (pi_list (pv 3)) (blkOk_by (own := [("_law_row", 5)]) (N := N__law_dict) (sc := defScope s__law_dict) (by decide +kernel)) (fun _ _ _ _ _ => (pg_name (i := 5) sc__law_dict.nd rfl (Or.inl rfl))) (fun _ _ _ _ _ => pts_nil) (fun _ _ _ _ _ => (pe_tup (pa_cons (pe_slice (r := rSlAny K) sl_any (pv 5) po_none (po_some pe_int)) (pa_cons (pe_slice (r := rSlAny K) sl_any (pv 5) (po_some pe_int) po_none) pa_nil))))) pa_nil)) (by rfl))
        (pss_one (ps_ret (pv 4)))))), ?_⟩
    refine fun gd ngd => ?_
    have g0 := same_upd (o := .dK []) ngd
    refine ⟨_, rfl, _, rfl, _, rfl, _, rfl, upd_same, [(Sum.inr "cap", .int (roof : Nat)), (Sum.inr "sorts", .ref lk), (Sum.inr "makings", .ref lm), (Sum.inr "rules", .ref lr)], rfl, by show 4 ≤ 15; decide, ?_⟩
    have s0 : Same H (upd (upd H gd (.dK [])) gd (.dK (mergeK [] [(Sum.inr "cap", .int (roof : Nat)), (Sum.inr "sorts", .ref lk), (Sum.inr "makings", .ref lm), (Sum.inr "rules", .ref lr)]))) := Same.at_ g0 ngd
    have hg0 : (upd (upd H gd (.dK [])) gd (.dK (mergeK [] [(Sum.inr "cap", .int (roof : Nat)), (Sum.inr "sorts", .ref lk), (Sum.inr "makings", .ref lm), (Sum.inr "rules", .ref lr)]))) gd = some (.dK (mergeK [] [(Sum.inr "cap", .int (roof : Nat)), (Sum.inr "sorts", .ref lk), (Sum.inr "makings", .ref lm), (Sum.inr "rules", .ref lr)])) := upd_same
    have c1 : valV (mergeK [] [(Sum.inr "cap", .int (roof : Nat)), (Sum.inr "sorts", .ref lk), (Sum.inr "makings", .ref lm), (Sum.inr "rules", .ref lr)]) (Sum.inr "cap") = some (.int (roof : Nat)) := rfl
    have c2 : valV (mergeK [] [(Sum.inr "cap", .int (roof : Nat)), (Sum.inr "sorts", .ref lk), (Sum.inr "makings", .ref lm), (Sum.inr "rules", .ref lr)]) (Sum.inr "sorts") = some (.ref lk) := rfl
    have c3 : valV (mergeK [] [(Sum.inr "cap", .int (roof : Nat)), (Sum.inr "sorts", .ref lk), (Sum.inr "makings", .ref lm), (Sum.inr "rules", .ref lr)]) (Sum.inr "makings") = some (.ref lm) := rfl
    have c4 : valV (mergeK [] [(Sum.inr "cap", .int (roof : Nat)), (Sum.inr "sorts", .ref lk), (Sum.inr "makings", .ref lm), (Sum.inr "rules", .ref lr)]) (Sum.inr "rules") = some (.ref lr) := rfl
    have c5 : (mergeK [] [(Sum.inr "cap", V.int (roof : Nat)), (Sum.inr "sorts", .ref lk), (Sum.inr "makings", .ref lm), (Sum.inr "rules", .ref lr)]).length ≤ 4 := Nat.le_of_ble_eq_true rfl
    generalize mergeK [] [(Sum.inr "cap", .int (roof : Nat)), (Sum.inr "sorts", .ref lk), (Sum.inr "makings", .ref lm), (Sum.inr "rules", .ref lr)] = kv0 at s0 hg0 c1 c2 c3 c4 c5 ⊢
    generalize upd (upd H gd (.dK [])) gd (.dK kv0) = H0 at s0 hg0 ⊢
    -- of, by
    refine ⟨_, rfl, lk, rfl, ⟨_, SqL.of (s0 _ _ hk)⟩, fun D1 nD1 => ?_⟩
    refine lc_of6 (ts := rs.map sT) (s0 _ _ hk) (by rw [← sT_d]; exact dpAll_same s0 dk) (sT_imms rs) (by rw [List.length_map]; omega) nD1 fun U1 ps1 sU1 hD1 hp1 => ?_
    obtain ⟨kvs1, k1, _, _⟩ := hp1.kvs
    refine ⟨D1, ps1, kvs1, rfl, SqL.of hD1, k1, fun of nof => ?_⟩
    have s1 := sU1.trans (same_upd (o := .dK (mergeK [] kvs1)) nof)
    generalize upd U1 of (.dK (mergeK [] kvs1)) = H1 at s1 ⊢
    have s01 := s0.trans s1
    refine ⟨_, rfl, lm, rfl, ⟨_, SqL.of (s01 _ _ hm)⟩, fun D2 nD2 => ?_⟩
    refine lc_of6 (ts := ms.map mT) (s01 _ _ hm) (by rw [← mT_d]; exact dpAll_same s01 dm) (mT_imms ms) (by rw [List.length_map]; omega) nD2 fun U2 ps2 sU2 hD2 hp2 => ?_
    obtain ⟨kvs2, k2, _, _⟩ := hp2.kvs
    refine ⟨D2, ps2, kvs2, rfl, SqL.of hD2, k2, fun by_ nby => ?_⟩
    have s2 := sU2.trans (same_upd (o := .dK (mergeK [] kvs2)) nby)
    generalize upd U2 by_ (.dK (mergeK [] kvs2)) = H2 at s2 ⊢
    refine ⟨by show 2 ≤ sizeLine; decide, fun pp npp => ?_⟩
    have s3 := s2.trans (same_upd (o := .tup [.ref of, .ref by_]) npp)
    have hpp : SqT K (upd H2 pp (.tup [.ref of, .ref by_])) pp [.ref of, .ref by_] := SqT.of upd_same
    generalize upd H2 pp (.tup [.ref of, .ref by_]) = H3 at s3 hpp ⊢
    have s03 := s01.trans s3
    have hg3 := (s1.trans s3) _ _ hg0
    refine ⟨pp, _, rfl, hpp, rfl, _, _, rfl, _, rfl, gd, _, rfl, DPut.k (k := Sum.inr "of") hg3 (small1000 (by omega)), _, _, rfl, _, rfl, gd, _, rfl, DPut.k (k := Sum.inr "by") upd_same (small1000 (by have := length_putK kv0 (Sum.inr "of") (V.ref of); omega)), rfl, ?_⟩
    have hv5 : ∀ k : Key, k ≠ (Sum.inr (("of" : String) : Str) : Key) → k ≠ (Sum.inr (("by" : String) : Str) : Key) → valV (putK (putK kv0 (Sum.inr "of") (.ref of)) (Sum.inr "by") (.ref by_)) k = valV kv0 k := fun k e1 e2 => by
      rw [valV_put, if_neg e2, valV_put, if_neg e1]
    have l5 : (putK (putK kv0 (Sum.inr "of") (.ref of)) (Sum.inr "by") (.ref by_)).length ≤ 6 := by
      have h1 := length_putK (putK kv0 (Sum.inr "of") (V.ref of)) (Sum.inr "by") (V.ref by_)
      have h2 := length_putK kv0 (Sum.inr "of") (V.ref of)
      omega
    have s04 : Same H (upd (upd H3 gd (.dK (putK kv0 (Sum.inr "of") (.ref of)))) gd (.dK (putK (putK kv0 (Sum.inr "of") (.ref of)) (Sum.inr "by") (.ref by_)))) := Same.at_ (Same.at_ s03 ngd) ngd
    have hg4 := upd_same (H := upd H3 gd (.dK (putK kv0 (Sum.inr "of") (.ref of)))) (a := gd) (o := .dK (putK (putK kv0 (Sum.inr "of") (.ref of)) (Sum.inr "by") (.ref by_)))
    show tSeq _ _ _ _ _
    generalize putK (putK kv0 (Sum.inr "of") (.ref of)) (Sum.inr "by") (.ref by_) = kv5 at hv5 l5 s04 hg4 ⊢
    generalize upd (upd H3 gd (.dK (putK kv0 (Sum.inr "of") (.ref of)))) gd (.dK kv5) = H4 at s04 hg4 ⊢
    -- has, not followed
    have lrv := dpAll_len dr
    rw [List.length_map] at lrv
    refine ⟨_, rfl, lr, rfl, ⟨_, SqL.of (s04 _ _ hr')⟩, fun D3 nD3 => ?_⟩
    refine lc_list (K := K) (a := lr) (xs := rv) (fun j U => Same H4 U ∧ ∃ (ps : List Addr) (ks : List (Addr × PyData × V)), U D3 = some (.lst (ps.map V.ref)) ∧ Paired (fun p k => SqT K U p [.ref k.1, k.2.2] ∧ Dp K U (.ref k.1) k.2.1 ∧ imm k.2.1 = true ∧ (keyD k.2.1).depth ≤ 8) ps ks ∧ ps.length = j) ⟨same_upd nD3, [], [], upd_same, .nil, rfl⟩ (fun j U _ h => SqL.of ((s04.trans h.1) _ _ hr')) ?_ ?_
    · rintro j x U hx ⟨sU, ps, ks, hD, hp, hpl⟩
      obtain ⟨dd, hdd, hxd⟩ := dpAll_at dr hx
      rw [List.getElem?_map] at hdd
      obtain ⟨r, hr2, rfl⟩ : ∃ r, ru[j]? = some r ∧ dd = r.d := by
        cases h : ru[j]? with
        | none => rw [h] at hdd; cases hdd
        | some e => rw [h] at hdd; exact ⟨e, rfl, (Option.some.inj hdd).symm⟩
      have hj : j < ru.length := (List.getElem?_eq_some_iff.mp hr2).1
      obtain ⟨q0, vt, vo, rfl, hq, h2, h4⟩ := row4 (dp_same (s04.trans sU) hxd)
      refine ⟨rfl, yesT ?_⟩
      refine ⟨_, rfl, 2, rfl, q0, _, rfl, hq, fun U1 t1 s1 ht1 => ?_⟩
      have ht1 : SqT K U1 t1 [.str (SX.S r.ma), vt] := ht1
      refine ⟨_, rfl, 2, rfl, q0, _, rfl, Same.seqT s1 hq, fun U2 t2 s2 ht2 => ?_⟩
      refine ⟨by show 2 ≤ sizeLine; decide, fun p3 n3 => ?_⟩
      have s3 := same_upd (o := .tup [.ref t1, .ref t2]) n3
      have sA := s1.trans (s2.trans s3)
      have hD3 := sA _ _ hD
      have dk : Dp K U1 (.ref t1) r.kd := .tup ht1 (.cons (.str _) (.cons (dp_same s1 h2) .nil))
      have kk : KeepT (upd U2 p3 (.tup [.ref t1, .ref t2])) (upd (upd U2 p3 (.tup [.ref t1, .ref t2])) D3 (.lst (ps.map V.ref ++ [.ref p3]))) := KeepT.at_ hD3 lst_no
      refine ⟨_, hD3, small1000 (by rw [List.length_map]; omega), Same.at_ (sU.trans sA) nD3, ps ++ [p3], ks ++ [(t1, r.kd, .ref t2)], ?_, paired_snoc (paired_mono (fun p k h => ?_) hp) ⟨kk.seqT (SqT.of upd_same), dp_imm ((KeepT.of (s2.trans s3)).trans kk) dk r.kd_imm, r.kd_imm, kd_deep r⟩, by rw [List.length_append]; show ps.length + 1 = j + 1; omega⟩
      · rw [List.map_append]
        exact upd_same
      · obtain ⟨q1, q2, q3, q4⟩ := h
        exact ⟨((KeepT.of sA).trans kk).seqT q1, dp_imm ((KeepT.of sA).trans kk) q2 q3, q3, q4⟩
    · rintro U0 ⟨sU0, ps, ks, hD, hp, hpl⟩
      refine ⟨D3, ps, ks, rfl, SqL.of hD, hp, fun pz npz => ?_⟩
      refine ⟨_, rfl, gd, _, rfl, DPut.k (k := Sum.inr "has") (sU0 _ _ hg4) (small1000 (by omega)), ?_⟩
      refine ⟨_, rfl, q _ gd (Same.at_ (s04.trans sU0) ngd) ngd ?_⟩
      have sF : Same H (upd U0 gd (.dK (putK kv5 (Sum.inr "has") (.ref pz)))) := Same.at_ (s04.trans sU0) ngd
      have hv6 : ∀ k : Key, k ≠ (Sum.inr (("of" : String) : Str) : Key) → k ≠ (Sum.inr (("by" : String) : Str) : Key) → k ≠ (Sum.inr (("has" : String) : Str) : Key) → valV (putK kv5 (Sum.inr "has") (.ref pz)) k = valV kv0 k := fun k e1 e2 e3 => by
        rw [valV_put, if_neg e3, hv5 k e1 e2]
      have dne : ∀ {a b : Str}, decide (a = b) = false → (Sum.inr a : Key) ≠ Sum.inr b := fun {a b} h z => of_decide_eq_false h (Sum.inr.inj z)
      exact ⟨_, sv, mv, rv, upd_same, by rw [hv6 _ (dne (by decide +kernel)) (dne (by decide +kernel)) (dne (by decide +kernel))]; exact c1, by rw [hv6 _ (dne (by decide +kernel)) (dne (by decide +kernel)) (dne (by decide +kernel))]; exact c2, by rw [hv6 _ (dne (by decide +kernel)) (dne (by decide +kernel)) (dne (by decide +kernel))]; exact c3, by rw [hv6 _ (dne (by decide +kernel)) (dne (by decide +kernel)) (dne (by decide +kernel))]; exact c4, sF _ _ hk, dpAll_same sF dk, sF _ _ hm, dpAll_same sF dm, sF _ _ hr', dpAll_same sF dr⟩
end
/-! ### half of a grammar -/
abbrev s__law_half : Stmt := top 69
abbrev N__law_half : List Str := ["_law_box", "_law_g", "_law_often", "_law_kinds", "_law_there", "_law_makings", "_law_made_here", "_law_rules", "_law_row", "_law_kind"]
abbrev P__law_half : List Str := ["_law_box", "_law_g", "_law_often"]
theorem sc__law_half : FnScope N__law_half P__law_half (defScope s__law_half) := ⟨rfl, rfl, rfl, by decide +kernel, rfl, by decide +kernel, by decide +kernel⟩
structure Ha55 (mg : Str → Option Value) : Prop where
  all : mg "all" = none
def spHalf (K : PySem.W.Frag) : Sp := fun vs H Q _ => ∃ (a gd : Addr) (often : Int) (m : Nat) (b : List V) (rs : List SRow) (ms : List MRow) (ru : List RRow) (roof : Nat), vs = [.ref a, .ref gd, .int often] ∧ GDA K H a gd rs ms ru roof ∧ GFit rs ms ru roof ∧ 0 < often ∧ often < 1000 ∧ H a = some (.lst b) ∧ BoxL m b ∧ m + 1000 < 900000 ∧
  ∀ (H' : Hp) (gd' : Addr) (rs' : List SRow) (ms' : List MRow) (ru' : List RRow) (b' : List V), But a H H' → Half rs ms ru rs' ms' ru' → GDA K H' a gd' rs' ms' ru' roof → H' a = some (.lst b') → BoxL (m + 1000) b' → Q (.ref gd') H'
theorem half_of {rs : List SRow} {ms : List MRow} {ru : List RRow} {roof : Nat} (g : GFit rs ms ru roof) {rs1 : List SRow} {ms1 : List MRow} {ru1 : List RRow} (h1 : rs1.Sublist rs) (h2 : ms1.Sublist ms) (h3 : ru1.Sublist ru) (hp : ∀ m ∈ ms1, ∀ k ∈ m.places, ∃ r ∈ rs1, r.nm = k) (hm : ∀ r ∈ ru1, ∃ m ∈ ms1, m.nm = r.ma) : Half rs ms ru rs1 ms1 ru1 where
  s := fun r hr => h1.subset hr
  sn := List.Sublist.nodup (h1.map SRow.nm) g.so.nd
  m := fun r hr => h2.subset hr
  mn := List.Sublist.nodup (h2.map MRow.nm) g.nd
  mp := hp
  u := fun r hr => h3.subset hr
  un := List.Pairwise.sublist h3 g.rn
  um := hm
theorem Half.perm {rs : List SRow} {ms : List MRow} {ru : List RRow} {rs1 : List SRow} {ms1 : List MRow} {ru1 : List RRow} {rs2 : List SRow} {ms2 : List MRow} {ru2 : List RRow} (h : Half rs ms ru rs1 ms1 ru1) (p1 : rs2.Perm rs1) (p2 : ms2.Perm ms1) (p3 : ru2.Perm ru1) : Half rs ms ru rs2 ms2 ru2 where
  s := fun r hr => h.s r (p1.subset hr)
  sn := (p1.map SRow.nm).nodup_iff.mpr h.sn
  m := fun r hr => h.m r (p2.subset hr)
  mn := (p2.map MRow.nm).nodup_iff.mpr h.mn
  mp := fun m hm k hk => by
    obtain ⟨r, hr, e⟩ := h.mp m (p2.subset hm) k hk
    exact ⟨r, p1.symm.subset hr, e⟩
  u := fun r hr => h.u r (p3.subset hr)
  un := (p3.pairwise_iff (fun {a b} hab e1 e2 => hab e1.symm e2.symm)).mpr h.un
  um := fun r hr => by
    obtain ⟨m, hm, e⟩ := h.um r (p3.subset hr)
    exact ⟨m, p2.symm.subset hm, e⟩
/-- rows of data in another order -/
theorem rows_perm {K : PySem.W.Frag} {H : Hp} {α : Type} {f : α → PyData} : ∀ {vs ws : List V} {xs : List α}, ws.Perm vs → DpAll K H vs (xs.map f) → ∃ ys : List α, ys.Perm xs ∧ DpAll K H ws (ys.map f) := by
  intro vs ws xs p
  induction p generalizing xs with
  | nil =>
    intro h
    exact ⟨xs, List.Perm.refl _, h⟩
  | @cons x l1 l2 p ih =>
    intro h
    cases xs with
    | nil => cases h
    | cons y ys =>
      cases h with
      | cons h1 h2 =>
        obtain ⟨zs, q1, q2⟩ := ih h2
        exact ⟨y :: zs, q1.cons y, .cons h1 q2⟩
  | @swap x y l =>
    intro h
    cases xs with
    | nil => cases h
    | cons a xs =>
      cases xs with
      | nil =>
        cases h with
        | cons _ h => cases h
      | cons b xs =>
        cases h with
        | cons h1 h =>
          cases h with
          | cons h2 h => exact ⟨b :: a :: xs, List.Perm.swap .., .cons h2 (.cons h1 h)⟩
  | @trans l1 l2 l3 p q ih1 ih2 =>
    intro h
    obtain ⟨ys, a1, a2⟩ := ih2 h
    obtain ⟨zs, b1, b2⟩ := ih1 a2
    exact ⟨zs, b1.trans a1, b2⟩
theorem get_k {Y : Hp} {d : Addr} {kvs : List (Key × V)} {k : Str} {u : V} (h : Y d = some (.dK kvs)) (e : valV kvs (Sum.inr k) = some u) : DGet Y d (.str k) (some u) := by
  have h := DGet.k (k := Sum.inr k) h
  rw [e] at h
  exact h
section
variable {K : PySem.W.Frag} {H U : Hp} {a D : Addr} {b b' b'' us : List V} {α : Type} {f : α → PyData} {xs : List α}
theorem flt_no (ha : H a = some (.lst b)) (nD : H D = none) (bU : But a H U) (hb : U a = some (.lst b')) (hD : U D = some (.lst us)) (im : ∀ x, imm (f x) = true) (hus : DpAll K U us (xs.map f)) : But a H (upd U a (.lst b'')) ∧ (upd U a (.lst b'')) a = some (.lst b'') ∧ (upd U a (.lst b'')) D = some (.lst us) ∧ DpAll K (upd U a (.lst b'')) us (xs.map f) := by
  have nDa : D ≠ a := fun z => by
    rw [z, ha] at nD
    cases nD
  exact ⟨But.upd bU, upd_same, by rw [upd_ne nDa]; exact hD, dpAll_imm (KeepT.at_ hb lst_no) hus (immAll_map im xs)⟩
theorem flt_yes (ha : H a = some (.lst b)) (nD : H D = none) (bU : But a H U) (hb : U a = some (.lst b')) (hD : U D = some (.lst us)) (im : ∀ x, imm (f x) = true) (hus : DpAll K U us (xs.map f)) {e : V} {x : α} (he : Dp K U e (f x)) : But a H (upd (upd U a (.lst b'')) D (.lst (us ++ [e]))) ∧ (upd (upd U a (.lst b'')) D (.lst (us ++ [e]))) a = some (.lst b'') ∧ DpAll K (upd (upd U a (.lst b'')) D (.lst (us ++ [e]))) (us ++ [e]) ((xs ++ [x]).map f) := by
  have nDa : D ≠ a := fun z => by
    rw [z, ha] at nD
    cases nD
  obtain ⟨h1, h2, h3, h4⟩ := flt_no (b'' := b'') ha nD bU hb hD im hus
  have k1 : KeepT (upd U a (.lst b'')) (upd (upd U a (.lst b'')) D (.lst (us ++ [e]))) := KeepT.at_ h3 lst_no
  refine ⟨fun c o nc hc => ?_, by rw [upd_ne nDa.symm]; exact h2, ?_⟩
  · rw [upd_ne (ne_of_none hc nD)]
    exact h1 c o nc hc
  · rw [List.map_append]
    exact dpAll_appI (dpAll_imm k1 h4 (immAll_map im xs)) (.cons (dp_imm k1 (dp_imm (KeepT.at_ hb lst_no) he (im x)) (im x)) .nil)
end
theorem sub_snoc {α : Type} {xs rs : List α} {i : Nat} {x : α} (h : xs.Sublist (rs.take i)) (hx : rs[i]? = some x) : xs.Sublist (rs.take (i + 1)) ∧ (xs ++ [x]).Sublist (rs.take (i + 1)) := by
  have tk : rs.take (i + 1) = rs.take i ++ [x] := by rw [List.take_add_one, hx]; rfl
  rw [tk]
  exact ⟨h.trans (List.sublist_append_left ..), List.Sublist.append h (List.Sublist.refl _)⟩
section
variable {P : Program} {w : World} {K : PySem.W.Frag} {mg : Str → Option Value} {base : Heap} {G : Addr}
theorem ok_half55 (T : Ha55 mg) (c_law_take : C8.Cal P w K mg base 1 "_law_take" spTake []) (c_law_strewn : C8.Cal P w K mg base 2 "_law_strewn" (spStrewn K) []) (c_law_dict : C8.Cal P w K mg base 1 "_law_dict" (spDict K) []) (D : Dd K mg "_law_half" s__law_half P__law_half) : C8.Cal P w K mg base 3 "_law_half" (spHalf K) [] := by
  refine D.cal sc__law_half (fun vs H Q E h => ?_) (fun f cdv A outer s H vs Q E hr h => ?_)
  · obtain ⟨a, gd, often, m, b, rs, ms, ru, roof, rfl, _⟩ := h
    rfl
  · obtain ⟨a, gd, often, m, b, rs, ms, ru, roof, rfl, gi, gf, ho1, ho2, ha, hB, hm, q⟩ := h
    refine ⟨_, (pss_cons (ps_setLc (i := 3) (own := [("_law_row", 8)]) (by exact rfl) sc__law_half.nd rfl rfl (sw_true rfl rfl rfl (by decide +kernel)) (pi_list (pe_dget (hu_of hr) (pv 1) pe_str (fun _ _ => rfl))) (blkOk_by (own := [("_law_row", 8)]) (N := N__law_half) (sc := defScope s__law_half) (by decide +kernel)) (fun _ _ _ _ _ => (pg_name (i := 8) sc__law_half.nd rfl (Or.inl rfl))) (fun _ _ _ _ _ => (pts_one (pt_cmpR op_gt (C8.pe_c c_law_take hr (by decide) (by rfl) (pa_cons (pv 0) (pa_cons (pv 2) pa_nil))) pe_int (nomark _)))) (fun _ _ _ _ _ => (pv 8)))
        (pss_cons (ps_set (i := 4) sc__law_half.nd rfl (Or.inr rfl) (pe_lc (own := [("_law_row", 8)]) (by exact rfl) sc__law_half.nd (pi_list (pv 3)) (blkOk_by (own := [("_law_row", 8)]) (N := N__law_half) (sc := defScope s__law_half) (by decide +kernel)) (fun _ _ _ _ _ => (pg_name (i := 8) sc__law_half.nd rfl (Or.inl rfl))) (fun _ _ _ _ _ => pts_nil) (fun _ _ _ _ _ => (pe_ix (r := rIxT K) ix_tup (pv 8) pe_int (fun _ _ => rfl)))))
        (pss_cons (ps_setLc (i := 5) (own := [("_law_row", 8)]) (by exact rfl) sc__law_half.nd rfl rfl (sw_true rfl rfl rfl (by decide +kernel)) (pi_list (pe_dget (hu_of hr) (pv 1) pe_str (fun _ _ => rfl))) (blkOk_by (own := [("_law_row", 8)]) (N := N__law_half) (sc := defScope s__law_half) (by decide +kernel)) (fun _ _ _ _ _ => (pg_name (i := 8) sc__law_half.nd rfl (Or.inl rfl))) (fun _ _ _ _ _ => (pts_one (pt_cmpR op_gt (C8.pe_c c_law_take hr (by decide) (by rfl) (pa_cons (pv 0) (pa_cons (pv 2) pa_nil))) pe_int (nomark _)))) (fun _ _ _ _ _ => (pv 8)))
        (pss_cons (ps_setLc (i := 5) (own := [("_law_row", 8)]) (by exact rfl) sc__law_half.nd rfl rfl (sw_true rfl rfl rfl (by decide +kernel)) (pi_list (pv 5)) (blkOk_by (own := [("_law_row", 8)]) (N := N__law_half) (sc := defScope s__law_half) (by decide +kernel)) (fun _ _ _ _ _ => (pg_name (i := 8) sc__law_half.nd rfl (Or.inl rfl))) (fun _ _ _ _ _ => (pts_one (pt_val (show PE _ _ (tCB (rAll K) (tCons (tLc (iTup K (tOp (rCatAny K) (tTup (tCons (tOp (rIxT K) (tVar 8) (tC (.int 1))) tNil)) (tOp (rIxT K) (tVar 8) (tC (.int 2))))) (gName 9) tYes (tOp (rIn K false) (tVar 9) (tVar 4)) [9]) tNil)) from pe_callB (r := rAll K) (cr_all rfl) (by rfl) T.all (by decide +kernel) (pa_cons (pe_lc (own := [("_law_kind", 9)]) (by exact rfl) sc__law_half.nd (pi_tup (pe_op (r := rCatAny K) op_catAny (pe_tup (pa_cons (pe_ix (r := rIxT K) ix_tup (pv 8) pe_int (fun _ _ => rfl)) pa_nil)) (pe_ix (r := rIxT K) ix_tup (pv 8) pe_int (fun _ _ => rfl)))) (blkOk_by (own := [("_law_kind", 9)]) (by rfl)) (fun _ _ _ _ _ => (pg_name (i := 9) sc__law_half.nd rfl (Or.inl rfl))) (fun _ _ _ _ _ => pts_nil) (fun _ _ _ _ _ => (pe_cmpR (r := rIn K false) op_in_seq (pv 9) (pv 4) (by with_unfolding_all rfl)))) pa_nil))))) (fun _ _ _ _ _ => (pv 8)))
        (pss_cons (ps_set (i := 6) sc__law_half.nd rfl (Or.inr rfl) (pe_lc (own := [("_law_row", 8)]) (by exact rfl) sc__law_half.nd (pi_list (pv 5)) (blkOk_by (own := [("_law_row", 8)]) (N := N__law_half) (sc := defScope s__law_half) (by decide +kernel)) (fun _ _ _ _ _ => (pg_name (i := 8) sc__law_half.nd rfl (Or.inl rfl))) (fun _ _ _ _ _ => pts_nil) (fun _ _ _ _ _ => (pe_ix (r := rIxT K) ix_tup (pv 8) pe_int (fun _ _ => rfl)))))
        (pss_cons (ps_setLc (i := 7) (own := [("_law_row", 8)]) (by exact rfl) sc__law_half.nd rfl rfl (sw_true rfl rfl rfl (by decide +kernel)) (pi_list (pe_dget (hu_of hr) (pv 1) pe_str (fun _ _ => rfl))) (blkOk_by (own := [("_law_row", 8)]) (N := N__law_half) (sc := defScope s__law_half) (by decide +kernel)) (fun _ _ _ _ _ => (pg_name (i := 8) sc__law_half.nd rfl (Or.inl rfl))) (fun _ _ _ _ _ => (pts_one (PW.pt (pw_and (pt_cmpR (r := rIn K false) op_in_seq (pe_ix (r := rIxT K) ix_tup (pv 8) pe_int (fun _ _ => rfl)) (pv 6) (by with_unfolding_all rfl)) (pw_and1 (pt_cmpR op_gt (C8.pe_c c_law_take hr (by decide) (by rfl) (pa_cons (pv 0) (pa_cons (pv 2) pa_nil))) pe_int (nomark _))))))) (fun _ _ _ _ _ => (pv 8)))
        (pss_cons (ps_if (pt_cmpR op_eq (C8.pe_c c_law_take hr (by decide) (by rfl) (pa_cons (pv 0) (pa_cons pe_int pa_nil))) pe_int (nomark _))
          (pss_one (ps_par3 rfl sc__law_half.nd (i := 3) (j := 5) (l := 7) rfl rfl rfl (by decide) (by decide) (by decide) rfl rfl rfl (pa_cons (C8.pe_c c_law_strewn hr (by decide) (by rfl) (pa_cons (pv 0) (pa_cons (pv 3) pa_nil))) (pa_cons (C8.pe_c c_law_strewn hr (by decide) (by rfl) (pa_cons (pv 0) (pa_cons (pv 5) pa_nil))) (pa_cons (C8.pe_c c_law_strewn hr (by decide) (by rfl) (pa_cons (pv 0) (pa_cons (pv 7) pa_nil))) pa_nil))) (by rfl)))
          pss_nil)
        (pss_one (ps_ret (C8.pe_c c_law_dict hr (by decide) (by rfl) (pa_cons (pe_dget (hu_of hr) (pv 1) pe_str (fun _ _ => rfl)) (pa_cons (pv 3) (pa_cons (pv 5) (pa_cons (pv 7) pa_nil)))))))))))))), ?_⟩
    obtain ⟨ls, lm, lr, ⟨kvs, sv, mv, rv, hgd, c1, c2, c3, c4, hls, hsv, hlm, hmv, hlr, hrv⟩, n1, n2, n3⟩ := gi.ex
    have l1 := gf.so.le
    have l2 := gf.m8
    have l3 := gf.rl
    have ngd : gd ≠ a := fun z => by
      rw [z, ha] at hgd
      cases hgd
    have lsv := dpAll_len hsv
    have lmv := dpAll_len hmv
    have lrv := dpAll_len hrv
    rw [List.length_map] at lsv lmv lrv
    -- sorts
    refine ⟨_, rfl, gd, .ref ls, rfl, get_k hgd c2, ls, rfl, ⟨_, SqL.of hls⟩, fun D1 nD1 => ?_⟩
    refine lc_it (walk_list (xs := sv)) (fun i U => But a H U ∧ ∃ (b' : List V) (us : List V) (xs : List SRow), U a = some (.lst b') ∧ BoxL (m + i) b' ∧ U D1 = some (.lst us) ∧ us.length ≤ i ∧ xs.Sublist (rs.take i) ∧ DpAll K U us (xs.map SRow.d)) ⟨But.of (same_upd nD1), b, [], [], same_upd nD1 _ _ ha, hB, upd_same, Nat.le_refl _, List.Sublist.refl _, .nil⟩ (fun i U _ h => SqL.of (h.1 _ _ n1 hls)) ?_ ?_
    · rintro i e U0 U hi ⟨bU, b', us, xs, hb', hB', hD, lus, hx, hus⟩ ⟨rfl, he⟩
      have kU := KeepT.but ha bU
      obtain ⟨d, hd, hde⟩ := dpAll_at hsv he
      rw [List.getElem?_map] at hd
      obtain ⟨r, hr2, rfl⟩ : ∃ r, rs[i]? = some r ∧ d = r.d := by
        cases h : rs[i]? with
        | none => rw [h] at hd; cases hd
        | some t => rw [h] at hd; exact ⟨t, rfl, (Option.some.inj hd).symm⟩
      have hi2 : i < rs.length := (List.getElem?_eq_some_iff.mp hr2).1
      obtain ⟨sb1, sb2⟩ := sub_snoc hx hr2
      refine ⟨rfl, ?_⟩
      refine ⟨_, rfl, _, rfl, a, often, m + i, b', rfl, hb', hB', by omega, ho1, by omega, fun r0 b2 g1 g2 hB2 => ?_⟩
      refine ⟨r0, 0, rfl, rfl, _, rfl, ?_⟩
      by_cases hg : 0 < r0
      · refine ifT (decide_eq_true hg) ?_
        obtain ⟨y1, y2, y3, y4⟩ := flt_no (b'' := b2) ha nD1 bU hb' hD SRow.imm hus
        obtain ⟨z1, z2, z3⟩ := flt_yes (b'' := b2) ha nD1 bU hb' hD SRow.imm hus (dp_imm kU hde r.imm)
        exact ⟨_, rfl, us, y3, small1000 (by omega), z1, b2, _, xs ++ [r], z2, hB2, upd_same, by rw [List.length_append]; show us.length + 1 ≤ i + 1; omega, sb2, z3⟩
      · refine ifF (decide_eq_false hg) ?_
        obtain ⟨y1, y2, y3, y4⟩ := flt_no (b'' := b2) ha nD1 bU hb' hD SRow.imm hus
        exact ⟨y1, b2, us, xs, y2, hB2, y3, by omega, sb1, y4⟩
    rintro U1 ⟨bU1, b1, us1, xs1, hb1, hB1, hD1, lus1, hx1, hus1⟩
    rw [lsv] at hB1 hx1
    rw [List.take_length] at hx1
    have lx1 := hx1.length_le
    have lu1 := dpAll_len hus1
    rw [List.length_map] at lu1
    -- their names
    refine ⟨_, rfl, D1, rfl, ⟨_, SqL.of hD1⟩, fun D2 nD2 => ?_⟩
    refine lc_it (walk_list (xs := us1)) (fun i U => Same U1 U ∧ U D2 = some (.lst (nmV ((xs1.take i).map SRow.nm)))) ⟨same_upd nD2, upd_same⟩ (fun i U _ h => SqL.of (h.1 _ _ hD1)) ?_ ?_
    · rintro i e U0 U hi ⟨sU, hD⟩ ⟨rfl, he⟩
      obtain ⟨d, hd, hde⟩ := dpAll_at hus1 he
      rw [List.getElem?_map] at hd
      obtain ⟨r, hr2, rfl⟩ : ∃ r, xs1[i]? = some r ∧ d = r.d := by
        cases h : xs1[i]? with
        | none => rw [h] at hd; cases hd
        | some t => rw [h] at hd; exact ⟨t, rfl, (Option.some.inj hd).symm⟩
      obtain ⟨qq, v1, v2, rfl, hq, _, _⟩ := t3_at (t := sT r) (dp_same sU hde)
      have tk : xs1.take (i + 1) = xs1.take i ++ [r] := by rw [List.take_add_one, hr2]; rfl
      refine ⟨rfl, yesT ⟨_, rfl, qq, _, 0, .str (SX.S r.nm), rfl, rfl, hq, atI_nat (j := 0) rfl, _, hD, ?_, Same.at_ sU nD2, ?_⟩⟩
      · rw [nmV_len, List.length_map, List.length_take]
        exact small1000 (by omega)
      · rw [upd_same, tk]
        unfold nmV
        rw [List.map_append, List.map_append]
        rfl
    rintro U2 ⟨sU2, hD2⟩
    rw [lu1, List.take_length] at hD2
    have bU2 : But a H U2 := bU1.trans (But.of sU2)
    have hb2 := sU2 _ _ hb1
    -- makings
    have hgd2 := bU2 _ _ ngd hgd
    have hlm2 := bU2 _ _ n2 hlm
    have kU2 := KeepT.but ha bU2
    have hmv2 := dpAll_imm kU2 hmv (immAll_map MRow.imm ms)
    refine ⟨_, rfl, gd, .ref lm, rfl, get_k hgd2 c3, lm, rfl, ⟨_, SqL.of hlm2⟩, fun D3 nD3 => ?_⟩
    refine lc_it (walk_list (xs := mv)) (fun i U => But a U2 U ∧ ∃ (b' : List V) (us : List V) (xs : List MRow), U a = some (.lst b') ∧ BoxL (m + 4 + i) b' ∧ U D3 = some (.lst us) ∧ us.length ≤ i ∧ xs.Sublist (ms.take i) ∧ DpAll K U us (xs.map MRow.d)) ⟨But.of (same_upd nD3), b1, [], [], same_upd nD3 _ _ hb2, hB1.mono (by omega), upd_same, Nat.le_refl _, List.Sublist.refl _, .nil⟩ (fun i U _ h => SqL.of (h.1 _ _ n2 hlm2)) ?_ ?_
    · rintro i e U0 U hi ⟨bU, b', us, xs, hb', hB', hD, lus, hx, hus⟩ ⟨rfl, he⟩
      have kU := KeepT.but hb2 bU
      obtain ⟨d, hd, hde⟩ := dpAll_at hmv2 he
      rw [List.getElem?_map] at hd
      obtain ⟨r, hr2, rfl⟩ : ∃ r, ms[i]? = some r ∧ d = r.d := by
        cases h : ms[i]? with
        | none => rw [h] at hd; cases hd
        | some t => rw [h] at hd; exact ⟨t, rfl, (Option.some.inj hd).symm⟩
      have hi2 : i < ms.length := (List.getElem?_eq_some_iff.mp hr2).1
      obtain ⟨sb1, sb2⟩ := sub_snoc hx hr2
      refine ⟨rfl, ?_⟩
      refine ⟨_, rfl, _, rfl, a, often, m + 4 + i, b', rfl, hb', hB', by omega, ho1, by omega, fun r0 b2 g1 g2 hB2 => ?_⟩
      refine ⟨r0, 0, rfl, rfl, _, rfl, ?_⟩
      by_cases hg : 0 < r0
      · refine ifT (decide_eq_true hg) ?_
        obtain ⟨y1, y2, y3, y4⟩ := flt_no (b'' := b2) hb2 nD3 bU hb' hD MRow.imm hus
        obtain ⟨z1, z2, z3⟩ := flt_yes (b'' := b2) hb2 nD3 bU hb' hD MRow.imm hus (dp_imm kU hde r.imm)
        exact ⟨_, rfl, us, y3, small1000 (by omega), z1, b2, _, xs ++ [r], z2, hB2, upd_same, by rw [List.length_append]; show us.length + 1 ≤ i + 1; omega, sb2, z3⟩
      · refine ifF (decide_eq_false hg) ?_
        obtain ⟨y1, y2, y3, y4⟩ := flt_no (b'' := b2) hb2 nD3 bU hb' hD MRow.imm hus
        exact ⟨y1, b2, us, xs, y2, hB2, y3, by omega, sb1, y4⟩
    rintro U3 ⟨bU3, b3, us3, xs3, hb3, hB3, hD3, lus3, hx3, hus3⟩
    rw [lmv] at hB3 hx3
    rw [List.take_length] at hx3
    have lx3 := hx3.length_le
    have lu3 := dpAll_len hus3
    rw [List.length_map] at lu3
    have nD1a : D1 ≠ a := fun z => by
      rw [z, ha] at nD1
      cases nD1
    have nD2a : D2 ≠ a := fun z => by
      rw [z, hb1] at nD2
      cases nD2
    have hD1' := bU3 _ _ nD1a (sU2 _ _ hD1)
    have hD2' := bU3 _ _ nD2a hD2
    have hus1' : DpAll K U3 us1 (xs1.map SRow.d) := dpAll_imm (KeepT.but hb2 bU3) (dpAll_same sU2 hus1) (immAll_map SRow.imm xs1)
    -- makings of these sorts
    refine ⟨_, rfl, D3, rfl, ⟨_, SqL.of hD3⟩, fun D4 nD4 => ?_⟩
    refine lc_it (walk_list (xs := us3)) (fun i U => Same U3 U ∧ ∃ (us : List V) (xs : List MRow), U D4 = some (.lst us) ∧ us.length ≤ i ∧ xs.Sublist (xs3.take i) ∧ (∀ m ∈ xs, ∀ k ∈ m.places, k ∈ xs1.map SRow.nm) ∧ DpAll K U us (xs.map MRow.d)) ⟨same_upd nD4, [], [], upd_same, Nat.le_refl _, List.Sublist.refl _, (fun m hm => nomatch hm), .nil⟩ (fun i U _ h => SqL.of (h.1 _ _ hD3)) ?_ ?_
    · rintro i e U0 U hi ⟨sU, us, xs, hD, lus, hx, hpl, hus⟩ ⟨rfl, he⟩
      obtain ⟨d, hd, hde⟩ := dpAll_at hus3 he
      rw [List.getElem?_map] at hd
      obtain ⟨r, hr2, rfl⟩ : ∃ r, xs3[i]? = some r ∧ d = r.d := by
        cases h : xs3[i]? with
        | none => rw [h] at hd; cases hd
        | some t => rw [h] at hd; exact ⟨t, rfl, (Option.some.inj hd).symm⟩
      have hi2 : i < xs3.length := (List.getElem?_eq_some_iff.mp hr2).1
      obtain ⟨sb1, sb2⟩ := sub_snoc hx hr2
      have hrm : r ∈ ms := hx3.subset (List.mem_of_getElem? hr2)
      have hp2 := (gf.ok r hrm).p2
      obtain ⟨qq, v1, v2, rfl, hq, a1, a2⟩ := t3_at (t := mT r) (dp_same sU hde)
      cases a1
      obtain ⟨tp, rfl, htp⟩ := names_dp (show Dp K U v2 (.tuple (r.pt.map strD)) from a2)
      refine ⟨rfl, ?_⟩
      refine ⟨_, rfl, qq, _, 1, .str (SX.S r.so), rfl, rfl, hq, atI_nat (j := 1) rfl, by show 1 ≤ sizeLine; decide, fun p1 np1 => ?_⟩
      have s1 := same_upd (o := .tup [.str (SX.S r.so)]) np1
      refine ⟨_, rfl, qq, _, 2, .ref tp, rfl, rfl, Same.seqT s1 hq, atI_nat (j := 2) rfl, p1, tp, [.str (SX.S r.so)], nmV r.pt, rfl, rfl, SqT.of upd_same, Same.seqT s1 htp, by rw [nmV_len]; show 1 + r.pt.length ≤ sizeLine; exact Nat.le_trans (show _ ≤ 3 by omega) (by decide), fun U5 p5 s5 hp5 => ?_⟩
      have hp5 : SqT K U5 p5 (nmV r.places) := hp5
      have sU5 := (sU.trans s1).trans s5
      refine ⟨p5, rfl, ⟨_, hp5⟩, fun DD nDD => ?_⟩
      refine lc_it (walk_tup (xs := nmV r.places)) (fun j W => Same U5 W ∧ W DD = some (.lst (((r.places.take j).map fun k => decide (k ∈ xs1.map SRow.nm)).map V.bl))) ⟨same_upd nDD, upd_same⟩ (fun j W _ h => Same.seqT h.1 hp5) ?_ ?_
      · rintro j e W0 W hj ⟨sW, hDD⟩ ⟨rfl, he⟩
        have hj2 : j < r.places.length := by rw [← nmV_len r.places]; exact hj
        obtain ⟨k, hk⟩ : ∃ k, r.places[j]? = some k := ⟨_, List.getElem?_eq_getElem hj2⟩
        have he : (nmV r.places)[j]? = some e := he
        unfold nmV at he
        rw [List.getElem?_map, hk] at he
        cases he
        have tk : r.places.take (j + 1) = r.places.take j ++ [k] := by rw [List.take_add_one, hk]; rfl
        have hl3 : r.places.length ≤ 3 := Nat.succ_le_succ hp2
        refine ⟨rfl, yesT ⟨_, rfl, _, rfl, D2, _, rfl, .inl (SqL.of ((sU5.trans sW) _ _ hD2')), rfl, flat_names _, _, hDD, ?_, Same.at_ sW nDD, ?_⟩⟩
        · rw [List.length_map, List.length_map, List.length_take]
          exact small1000 (by omega)
        · rw [upd_same, tk, List.map_append, List.map_append]
          show some (HO.lst (_ ++ [V.bl (inV (.str (SX.S k)) (nmV (xs1.map SRow.nm)))])) = _
          rw [in_names]
          rfl
      rintro W ⟨sW, hDD⟩
      rw [nmV_len, List.take_length] at hDD
      have sUW := sU5.trans sW
      have sUU := (s1.trans s5).trans sW
      refine ⟨DD, _, rfl, SqL.of hDD, ?_⟩
      by_cases hall : ∀ k ∈ r.places, k ∈ xs1.map SRow.nm
      · have ea : ((r.places.map fun k => decide (k ∈ xs1.map SRow.nm)).all id) = true := List.all_eq_true.mpr fun z hz => by
          obtain ⟨k, hk, rfl⟩ := List.mem_map.mp hz
          exact decide_eq_true (hall k hk)
        rw [ea]
        have hDW := sUU _ _ hD
        have kk : KeepT W (upd W D4 (.lst (us ++ [.ref qq]))) := KeepT.at_ hDW lst_no
        refine ⟨_, rfl, iteT ⟨_, rfl, us, hDW, small1000 (by omega), Same.at_ sUW nD4, _, xs ++ [r], upd_same, by rw [List.length_append]; show us.length + 1 ≤ i + 1; omega, sb2, fun m' hm' => ?_, ?_⟩⟩
        · rcases List.mem_append.mp hm' with hm' | hm'
          · exact hpl m' hm'
          · rw [List.mem_singleton.mp hm']
            exact hall
        · rw [List.map_append]
          exact dpAll_appI (dpAll_imm kk (dpAll_same sUU hus) (immAll_map MRow.imm xs)) (.cons (dp_imm kk (dp_same sUW hde) r.imm) .nil)
      · have ea : ((r.places.map fun k => decide (k ∈ xs1.map SRow.nm)).all id) = false := by
          cases e : ((r.places.map fun k => decide (k ∈ xs1.map SRow.nm)).all id) with
          | false => rfl
          | true => exact absurd (fun k hk => of_decide_eq_true (List.all_eq_true.mp e _ (List.mem_map_of_mem hk))) hall
        rw [ea]
        exact ⟨_, rfl, iteF ⟨sUW, us, xs, sUU _ _ hD, by omega, sb1, hpl, dpAll_same sUU hus⟩⟩
    rintro U4 ⟨sU4, us4, xs4, hD4, lus4, hx4, hpl4, hus4⟩
    rw [lu3, List.take_length] at hx4
    have lx4 := hx4.length_le
    have lu4 := dpAll_len hus4
    rw [List.length_map] at lu4
    have bH4 : But a H U4 := (bU2.trans bU3).trans (But.of sU4)
    have hb4 := sU4 _ _ hb3
    have nD3a : D3 ≠ a := fun z => by
      rw [z, hb2] at nD3
      cases nD3
    have nD4a : D4 ≠ a := fun z => by
      rw [z, hb3] at nD4
      cases nD4
    have hD1'' := sU4 _ _ hD1'
    have hus1'' := dpAll_same sU4 hus1'
    -- their names
    refine ⟨_, rfl, D4, rfl, ⟨_, SqL.of hD4⟩, fun D5 nD5 => ?_⟩
    refine lc_it (walk_list (xs := us4)) (fun i U => Same U4 U ∧ U D5 = some (.lst (nmV ((xs4.take i).map MRow.nm)))) ⟨same_upd nD5, upd_same⟩ (fun i U _ h => SqL.of (h.1 _ _ hD4)) ?_ ?_
    · rintro i e U0 U hi ⟨sU, hD⟩ ⟨rfl, he⟩
      obtain ⟨d, hd, hde⟩ := dpAll_at hus4 he
      rw [List.getElem?_map] at hd
      obtain ⟨r, hr2, rfl⟩ : ∃ r, xs4[i]? = some r ∧ d = r.d := by
        cases h : xs4[i]? with
        | none => rw [h] at hd; cases hd
        | some t => rw [h] at hd; exact ⟨t, rfl, (Option.some.inj hd).symm⟩
      obtain ⟨qq, v1, v2, rfl, hq, _, _⟩ := t3_at (t := mT r) (dp_same sU hde)
      have tk : xs4.take (i + 1) = xs4.take i ++ [r] := by rw [List.take_add_one, hr2]; rfl
      refine ⟨rfl, yesT ⟨_, rfl, qq, _, 0, .str (SX.S r.nm), rfl, rfl, hq, atI_nat (j := 0) rfl, _, hD, ?_, Same.at_ sU nD5, ?_⟩⟩
      · rw [nmV_len, List.length_map, List.length_take]
        exact small1000 (by omega)
      · rw [upd_same, tk]
        unfold nmV
        rw [List.map_append, List.map_append]
        rfl
    rintro U5 ⟨sU5, hD5⟩
    rw [lu4, List.take_length] at hD5
    have bH5 : But a H U5 := bH4.trans (But.of sU5)
    have hb5 := sU5 _ _ hb4
    have nD5a : D5 ≠ a := fun z => by
      rw [z, hb4] at nD5
      cases nD5
    -- rules
    have hgd5 := bH5 _ _ ngd hgd
    have hlr5 := bH5 _ _ n3 hlr
    have hrv5 := dpAll_imm (KeepT.but ha bH5) hrv (immAll_map RRow.imm ru)
    refine ⟨_, rfl, gd, .ref lr, rfl, get_k hgd5 c4, lr, rfl, ⟨_, SqL.of hlr5⟩, fun D6 nD6 => ?_⟩
    refine lc_it (walk_list (xs := rv)) (fun i U => But a U5 U ∧ ∃ (b' : List V) (us : List V) (xs : List RRow), U a = some (.lst b') ∧ BoxL (m + 12 + i) b' ∧ U D6 = some (.lst us) ∧ us.length ≤ i ∧ xs.Sublist (ru.take i) ∧ (∀ r ∈ xs, r.ma ∈ xs4.map MRow.nm) ∧ DpAll K U us (xs.map RRow.d)) ⟨But.of (same_upd nD6), b3, [], [], same_upd nD6 _ _ hb5, hB3.mono (by omega), upd_same, Nat.le_refl _, List.Sublist.refl _, (fun r hr => nomatch hr), .nil⟩ (fun i U _ h => SqL.of (h.1 _ _ n3 hlr5)) ?_ ?_
    · rintro i e U0 U hi ⟨bU, b', us, xs, hb', hB', hD, lus, hx, hma, hus⟩ ⟨rfl, he⟩
      have kU := KeepT.but hb5 bU
      obtain ⟨d, hd, hde⟩ := dpAll_at hrv5 he
      rw [List.getElem?_map] at hd
      obtain ⟨r, hr2, rfl⟩ : ∃ r, ru[i]? = some r ∧ d = r.d := by
        cases h : ru[i]? with
        | none => rw [h] at hd; cases hd
        | some t => rw [h] at hd; exact ⟨t, rfl, (Option.some.inj hd).symm⟩
      have hi2 : i < ru.length := (List.getElem?_eq_some_iff.mp hr2).1
      obtain ⟨sb1, sb2⟩ := sub_snoc hx hr2
      have hdU := dp_imm kU hde r.imm
      obtain ⟨qq, vt, vo, rfl, hq, _, _⟩ := row4 hdU
      refine ⟨rfl, ?_⟩
      refine ⟨_, rfl, qq, _, 0, .str (SX.S r.ma), rfl, rfl, hq, atI_nat (j := 0) rfl, _, rfl, D5, _, rfl, .inl (SqL.of (bU _ _ nD5a hD5)), rfl, flat_names _, _, rfl, ?_⟩
      have ein : inV (.str (SX.S r.ma)) (nmV (xs4.map MRow.nm)) = decide (r.ma ∈ xs4.map MRow.nm) := in_names _ _
      by_cases hin : r.ma ∈ xs4.map MRow.nm
      · refine ifT (by show inV _ _ = true; rw [ein]; exact decide_eq_true hin) ?_
        refine ⟨_, rfl, _, rfl, a, often, m + 12 + i, b', rfl, hb', hB', by omega, ho1, by omega, fun r0 b2 g1 g2 hB2 => ?_⟩
        refine ⟨r0, 0, rfl, rfl, _, rfl, ?_⟩
        by_cases hg : 0 < r0
        · refine ifT (decide_eq_true hg) ?_
          obtain ⟨y1, y2, y3, y4⟩ := flt_no (b'' := b2) hb5 nD6 bU hb' hD RRow.imm hus
          obtain ⟨z1, z2, z3⟩ := flt_yes (b'' := b2) hb5 nD6 bU hb' hD RRow.imm hus hdU
          exact ⟨_, rfl, us, y3, small1000 (by omega), z1, b2, _, xs ++ [r], z2, hB2, upd_same, by rw [List.length_append]; show us.length + 1 ≤ i + 1; omega, sb2, fun r' hr' => by
            rcases List.mem_append.mp hr' with hr' | hr'
            · exact hma r' hr'
            · rw [List.mem_singleton.mp hr']
              exact hin, z3⟩
        · refine ifF (decide_eq_false hg) ?_
          obtain ⟨y1, y2, y3, y4⟩ := flt_no (b'' := b2) hb5 nD6 bU hb' hD RRow.imm hus
          exact ⟨y1, b2, us, xs, y2, hB2, y3, by omega, sb1, hma, y4⟩
      · refine ifF (by show inV _ _ = false; rw [ein]; exact decide_eq_false hin) (iteF ⟨bU, b', us, xs, hb', hB'.mono (by omega), hD, by omega, sb1, hma, hus⟩)
    rintro U6 ⟨bU6, b6, us6, xs6, hb6, hB6, hD6, lus6, hx6, hma6, hus6⟩
    rw [lrv] at hB6 hx6
    rw [List.take_length] at hx6
    have lx6 := hx6.length_le
    have lu6 := dpAll_len hus6
    rw [List.length_map] at lu6
    have bH6 : But a H U6 := bH5.trans bU6
    have k56 := KeepT.but hb5 bU6
    have hD1f := bU6 _ _ nD1a (sU5 _ _ hD1'')
    have hus1f := dpAll_imm k56 (dpAll_same sU5 hus1'') (immAll_map SRow.imm xs1)
    have hD4f := bU6 _ _ nD4a (sU5 _ _ hD4)
    have hus4f := dpAll_imm k56 (dpAll_same sU5 hus4) (immAll_map MRow.imm xs4)
    have nD6a : D6 ≠ a := fun z => by
      rw [z, hb5] at nD6
      cases nD6
    have hh : Half rs ms ru xs1 xs4 xs6 := half_of gf hx1 (hx4.trans hx3) hx6 (fun m' hm' k hk => by
      obtain ⟨r, hr, e⟩ := List.mem_map.mp (hpl4 m' hm' k hk)
      exact ⟨r, hr, e⟩) (fun r hr => by
      obtain ⟨m', hm', e⟩ := List.mem_map.mp (hma6 r hr)
      exact ⟨m', hm', e⟩)
    have few1 := hh.fit gf
    have hcap6 := bH6 _ _ ngd hgd
    -- the dict of it
    have fin : ∀ (R : VK) (U : Hp) (lk lm' lr' : Addr) (sv' mv' rv' : List V) (rs2 : List SRow) (ms2 : List MRow) (ru2 : List RRow) (b9 : List V), (∀ v U, Q v U → R v U) → But a H U → U a = some (.lst b9) → BoxL (m + 1000) b9 → U lk = some (.lst sv') → DpAll K U sv' (rs2.map SRow.d) → U lm' = some (.lst mv') → DpAll K U mv' (ms2.map MRow.d) → U lr' = some (.lst rv') → DpAll K U rv' (ru2.map RRow.d) → lk ≠ a → lm' ≠ a → lr' ≠ a → Half rs ms ru rs2 ms2 ru2 →
        tCall (spDict K) [] C8.E0 (tCons (tDGet (tVar 1) (tC (V.str (Str.ofString "cap")))) (tCons (tVar 3) (tCons (tVar 5) (tCons (tVar 7) tNil)))) [some (.ref a), some (.ref gd), some (.int often), some (.ref lk), some (.ref D2), some (.ref lm'), some (.ref D5), some (.ref lr'), none, none] U R := fun R U lk lm' lr' sv' mv' rv' rs2 ms2 ru2 b9 hR bU hb9 hB9 g1 g2 g3 g4 g5 g6 m1 m2 m3 hf => by
      have hfit := hf.fit gf
      have f1 := hfit.so.le
      have f2 := hfit.m8
      have f3 := hfit.rl
      refine ⟨_, rfl, gd, .int (roof : Nat), rfl, get_k (bU _ _ ngd hgd) c1, _, rfl, _, rfl, _, rfl, lk, lm', lr', sv', mv', rv', rs2, ms2, ru2, roof, rfl, g1, g2, g3, g4, g5, g6, by omega, by omega, by omega, fun H' gd' s' ngd' hg => hR _ _ ?_⟩
      exact q H' gd' rs2 ms2 ru2 b9 (bU.trans (But.of s')) hf ⟨lk, lm', lr', hg, m1, m2, m3⟩ (s' _ _ hb9) hB9
    refine ⟨_, rfl, a, 2, m + 12 + ru.length, b6, rfl, hb6, hB6, by omega, by decide, by decide, fun r0 b7 g1 g2 hB7 => ?_⟩
    have nd_ : ∀ {D : Addr} {xs : List V}, U6 D = some (.lst xs) → D ≠ a → (upd U6 a (.lst b7)) D = some (.lst xs) := fun {D xs} h n => by
      rw [upd_ne n]
      exact h
    have k7 : KeepT U6 (upd U6 a (.lst b7)) := KeepT.at_ hb6 lst_no
    have b7' : But a H (upd U6 a (.lst b7)) := But.upd bH6
    have hb7 : (upd U6 a (.lst b7)) a = some (.lst b7) := upd_same
    have e1 := nd_ hD1f nD1a
    have e4 := nd_ hD4f nD4a
    have e6 := nd_ hD6 nD6a
    have d1 := dpAll_imm k7 hus1f (immAll_map SRow.imm xs1)
    have d4 := dpAll_imm k7 hus4f (immAll_map MRow.imm xs4)
    have d6 := dpAll_imm k7 hus6 (immAll_map RRow.imm xs6)
    generalize upd U6 a (.lst b7) = U7 at b7' hb7 e1 e4 e6 d1 d4 d6 ⊢
    refine ⟨rfl, _, rfl, ?_⟩
    by_cases hg : r0 = 0
    · refine ifT (decide_eq_true (by rw [hg])) ?_
      refine ⟨_, rfl, _, rfl, a, D1, m + 13 + ru.length, b7, us1, rfl, hb7, hB7.mono (by omega), by omega, SqL.of e1, nD1a, by omega, fun V1 k1 ws1 c7 t1 nk1 hk1 pk1 hc1 hBc1 => ?_⟩
      have kV1 := KeepT.but hb7 t1
      obtain ⟨ys1, py1, dy1⟩ := rows_perm pk1 (dpAll_imm kV1 d1 (immAll_map SRow.imm xs1))
      refine ⟨_, rfl, _, rfl, a, D4, m + 20 + ru.length, c7, us4, rfl, hc1, hBc1.mono (by omega), by omega, SqL.of (t1 _ _ nD4a e4), nD4a, by omega, fun V2 k2 ws2 c8 t2 nk2 hk2 pk2 hc2 hBc2 => ?_⟩
      have kV2 := KeepT.but hc1 t2
      obtain ⟨ys4, py4, dy4⟩ := rows_perm pk2 (dpAll_imm kV2 (dpAll_imm kV1 d4 (immAll_map MRow.imm xs4)) (immAll_map MRow.imm xs4))
      refine ⟨_, rfl, _, rfl, a, D6, m + 30 + ru.length, c8, us6, rfl, hc2, hBc2.mono (by omega), by omega, SqL.of (t2 _ _ nD6a (t1 _ _ nD6a e6)), nD6a, by omega, fun V3 k3 ws3 c9 t3 nk3 hk3 pk3 hc3 hBc3 => ?_⟩
      have kV3 := KeepT.but hc2 t3
      obtain ⟨ys6, py6, dy6⟩ := rows_perm pk3 (dpAll_imm kV3 (dpAll_imm kV2 (dpAll_imm kV1 d6 (immAll_map RRow.imm xs6)) (immAll_map RRow.imm xs6)) (immAll_map RRow.imm xs6))
      have nk1a : k1 ≠ a := fun z => by
        rw [z, hb7] at nk1
        cases nk1
      have nk2a : k2 ≠ a := fun z => by
        rw [z, hc1] at nk2
        cases nk2
      have nk3a : k3 ≠ a := fun z => by
        rw [z, hc2] at nk3
        cases nk3
      refine ⟨_, _, _, rfl, ?_⟩
      exact fin _ V3 k1 k2 k3 ws1 ws2 ws3 ys1 ys4 ys6 c9 (fun _ _ h => h) (((b7'.trans t1).trans t2).trans t3) hc3 (hBc3.mono (by omega)) (t3 _ _ nk1a (t2 _ _ nk1a hk1)) (dpAll_imm kV3 (dpAll_imm kV2 dy1 (immAll_map SRow.imm ys1)) (immAll_map SRow.imm ys1)) (t3 _ _ nk2a hk2) (dpAll_imm kV3 dy4 (immAll_map MRow.imm ys4)) hk3 dy6 nk1a nk2a nk3a (hh.perm py1 py4 py6)
    · refine ifF (decide_eq_false (fun z => hg (by injection z))) ?_
      exact fin _ U7 D1 D4 D6 us1 us4 us6 xs1 xs4 xs6 b7 (fun _ _ h => h) b7' hb7 (hB7.mono (by omega)) e1 d1 e4 d4 e6 d6 nD1a nD4a nD6a hh
end
/-! ### the signs of a grammar's text -/
def Lo (z : Str) : Prop := ∀ c ∈ z.cps.toList, c < 1114112
theorem lo_S {w : List Nat} (h : NmSmall w) : Lo (SX.S w) := fun c hc => by
  have : c ∈ w := by simpa using hc
  exact Nat.lt_trans (h c this) (by decide)
theorem lo_of (s : String) : Lo (Str.ofString s) := fun c hc => by
  rw [Str.ofString_eq_toList] at hc
  have hc : c ∈ s.toList.map Char.toNat := by simpa using hc
  obtain ⟨x, _, rfl⟩ := List.mem_map.mp hc
  have : x.toNat < 0xd800 ∨ (0xdfff < x.toNat ∧ x.toNat < 0x110000) := x.valid
  omega
theorem lo_app {a b : Str} (h1 : Lo a) (h2 : Lo b) : Lo (a ++ b) := fun c hc => by
  have hc : c ∈ (a.cps ++ b.cps).toList := hc
  rw [Array.toList_append] at hc
  rcases List.mem_append.mp hc with h | h
  · exact h1 c h
  · exact h2 c h
theorem lo_nil : Lo Str.empty := fun c hc => nomatch hc
theorem lo_join {sep : Str} (hs : Lo sep) : ∀ {ys : List Str}, (∀ y ∈ ys, Lo y) → Lo (Str.join sep ys)
  | [], _ => fun c hc => nomatch hc
  | [x], h => h x List.mem_cons_self
  | x :: z :: r, h => lo_app (lo_app (h x List.mem_cons_self) hs) (lo_join (ys := z :: r) hs fun y hy => h y (List.mem_cons_of_mem _ hy))
theorem lo_words {s : String} {ys : List Str} (h : ∀ y ∈ ys, Lo y) : Lo (Txt.join (Str.ofString s) ys) := by
  rw [TL.join_eq]
  exact lo_join (lo_of s) h
theorem lo_nm {w : List Nat} (h : NmOk w) : Lo (SX.S w) := lo_S (nm_small h)
theorem lo_at {rs : List SRow} {m : MRow} {p : Nat} {w : List Nat} {b : Bool} (so : SortsOk rs) (h : AtOf rs m p w b) : Lo (SX.S w) := by
  obtain ⟨k, r, h1, h2, h3, h4⟩ := h
  exact lo_nm ((so.ok r h2).all w (by
    cases b with
    | true => exact List.mem_append_right _ h4
    | false => exact List.mem_append_left _ h4))
theorem lo_sp {p : Nat} {w : List Nat} (h : Lo (SX.S w)) : Lo (termS (.en (.sp p w))) := lo_app (lo_app (lo_app lo_nil (lo_of _)) (lo_of ".")) h
theorem lo_tg {rs : List SRow} {m : MRow} {e : En} (so : SortsOk rs) (h : TgOk rs m e) : Lo (termS (.en e)) := by
  cases e with
  | sp p w => exact lo_sp (lo_at so h)
  | kept w => exact lo_nm h.1
theorem lo_od {rs : List SRow} {m : MRow} {o : Od} (so : SortsOk rs) (h : OdOk rs m o) : Lo (termS o) := by
  cases o with
  | en e =>
    cases e with
    | sp p w => exact lo_sp (lo_at so h)
    | kept w => exact lo_nm h.1
  | own => exact lo_of "own"
  | num n => exact lo_of _
theorem lo_sort {r : SRow} (h : SOk r) : Lo (sortS r) := lo_words fun y hy => by
  simp only [List.mem_append, List.mem_cons, List.mem_map, List.not_mem_nil, or_false] at hy
  rcases hy with (((rfl | rfl) | ⟨w, hw, rfl⟩) | rfl) | ⟨w, hw, rfl⟩
  · exact lo_of _
  · exact lo_nm h.nm
  · exact lo_nm (h.all w (List.mem_append_left _ hw))
  · exact lo_of _
  · exact lo_nm (h.all w (List.mem_append_right _ hw))
theorem lo_mak {rs : List SRow} {m : MRow} (so : SortsOk rs) (h : MOk rs m) : Lo (makS m) := by
  have nk : ∀ k ∈ m.places, NmOk k := fun k hk => by
    obtain ⟨r, hr, e⟩ := h.so k hk
    rw [← e]
    exact (so.ok r hr).nm
  refine lo_words fun y hy => ?_
  simp only [List.mem_append, List.mem_cons, List.mem_map, List.not_mem_nil, or_false] at hy
  rcases hy with (rfl | rfl | rfl) | ⟨w, hw, rfl⟩
  · exact lo_of _
  · exact lo_nm h.nm
  · exact lo_nm (nk m.so (List.mem_cons_self ..))
  · exact lo_nm (nk w (List.mem_cons_of_mem _ hw))
theorem lo_rule {rs : List SRow} {ms : List MRow} {roof : Nat} {r : RRow} (so : SortsOk rs) (hm : ∀ m ∈ ms, MOk rs m) (h : RuleOk rs ms roof r) : Lo (ruleS r) := by
  obtain ⟨mr, hmr, e, ht, ho⟩ := h.ex
  obtain ⟨o, eo, ea, _⟩ := op_of h.op
  have lop : Lo (SX.S r.op) := by
    rw [eo]
    intro c hc
    have e3 : (SX.S o.w.cps.toList).cps.toList = o.w.cps.toList := rfl
    cases o <;> (revert c; decide +kernel)
  refine lo_words fun y hy => ?_
  simp only [List.mem_append, List.mem_cons, List.mem_map, List.not_mem_nil, or_false] at hy
  rcases hy with (rfl | rfl | rfl | rfl) | ⟨x, hx, rfl⟩
  · exact lo_of _
  · rw [e]
    exact lo_nm (hm mr hmr).nm
  · exact lo_tg so ht
  · exact lop
  · exact lo_od so (ho x hx)
theorem lo_gram {rs : List SRow} {ms : List MRow} {ru : List RRow} {roof : Nat} (g : GFit rs ms ru roof) : Lo (gramS rs ms ru roof) := lo_words fun y hy => by
  simp only [rowsS, List.mem_append, List.mem_map] at hy
  rcases hy with ((hy | ⟨r, hr, rfl⟩) | ⟨m, hm, rfl⟩) | ⟨r, hr, rfl⟩
  · by_cases z : 0 < roof
    · rw [if_pos z] at hy
      rw [List.mem_singleton.mp hy]
      exact lo_app (lo_app lo_nil (lo_of "cap ")) (lo_of _)
    · rw [if_neg z] at hy
      cases hy
  · exact lo_sort (g.so.ok r hr)
  · exact lo_mak g.so (g.ok m hm)
  · exact lo_rule g.so g.ok (g.ra r hr)
theorem gram_len {rs : List SRow} {ms : List MRow} {ru : List RRow} {roof : Nat} (g : GFit rs ms ru roof) : (gramS rs ms ru roof).length ≤ 700000 := by
  obtain ⟨h1, h2⟩ := rows_le g
  have h3 := sum_len2 h1
  have h4 := join_le (Str.ofString "\n") (rowsS rs ms ru roof)
  have e : (Str.ofString "\n").length = 1 := by decide +kernel
  rw [e] at h4
  show (Txt.join (Str.ofString "\n") (rowsS rs ms ru roof)).length ≤ _
  rw [TL.join_eq]
  omega
theorem lo_ok {z : Str} (h : Lo z) : PyData.strOk z = true := by
  unfold PyData.strOk
  rw [Array.all_eq_true']
  intro c hc
  exact decide_eq_true (h c (Array.mem_toList_iff.mpr hc))
theorem gram_lay {rs : List SRow} {ms : List MRow} {ru : List RRow} {roof : Nat} (g : GFit rs ms ru roof) : PyData.canLay0 (.str (gramS rs ms ru roof)) = true := lo_ok (lo_gram g)
/-! ### keys of rows, told alike -/
theorem key1_eqv (a b : List Nat) : PyData.eqv (.tuple [strD a]) (.tuple [strD b]) = true ↔ keyD (.tuple [strD a]) = keyD (.tuple [strD b]) := by
  rw [nm_key, PyData.eqv, PySem.W.eqv_all_cons]
  by_cases h : a = b
  · rw [h, str_eq]
    exact ⟨fun _ => rfl, fun _ => rfl⟩
  · rw [str_ne h]
    exact ⟨fun z => (nomatch z), fun z => absurd z h⟩
theorem key2_eqv (r r' : RRow) : PyData.eqv r.kd r'.kd = true ↔ keyD r.kd = keyD r'.kd := by
  show PyData.eqv (.tuple [strD r.ma, r.tg.d]) (.tuple [strD r'.ma, r'.tg.d]) = true ↔ _
  rw [PyData.eqv, PySem.W.eqv_all_cons, PySem.W.eqv_all_cons, en_eqv]
  constructor
  · intro h
    by_cases e : r.ma = r'.ma
    · by_cases e2 : r.tg = r'.tg
      · unfold RRow.kd
        rw [e, e2]
      · rw [decide_eq_false e2] at h
        simp at h
    · rw [str_ne e] at h
      cases h
  · intro h
    obtain ⟨e1, e2⟩ := kd_inj h
    rw [e1, e2, str_eq, decide_eq_true rfl]
    rfl
theorem sh_of {d : PyData} (h1 : d.canLay0 = true) (h2 : d.depth ≤ 64) : SeqAt.shaped d = true := by
  unfold SeqAt.shaped
  rw [h1, decide_eq_true h2]
  rfl
theorem key1_lay {a : List Nat} (h : NmOk a) : PyData.canLay0 (.tuple [strD a]) = true := lay_cons (nm_lay h) rfl
theorem key1_sh {a : List Nat} (h : NmOk a) : SeqAt.shaped (.tuple [strD a]) = true := sh_of (key1_lay h) (Nat.le_of_ble_eq_true rfl)
theorem key2_lay {rs : List SRow} {ms : List MRow} {roof : Nat} {r : RRow} (so : SortsOk rs) (hm : ∀ m ∈ ms, MOk rs m) (h : RuleOk rs ms roof r) : PyData.canLay0 r.kd = true := by
  obtain ⟨m, hm', e, ht, _⟩ := h.ex
  exact lay_cons (nm_lay (by rw [e]; exact (hm m hm').nm)) (lay_cons (tg_lay so ht) rfl)
theorem kd_dep (r : RRow) : r.kd.depth ≤ 20 := by
  show (PyData.tuple [strD r.ma, r.tg.d]).depth ≤ 20
  cases r.tg <;> exact Nat.le_of_ble_eq_true rfl
theorem keys_sh {α : Type} {f : α → PyData} {xs : List α} (h : ∀ x ∈ xs, PyData.canLay0 (f x) = true) (hd : ∀ x, (f x).depth ≤ 20) : SeqAt.shaped (.list (xs.map f)) = true := by
  refine sh_of ?_ ?_
  · show PyData.canLayAll0 (xs.map f) = true
    exact lay_each fun d hd' => by
      obtain ⟨x, hx, rfl⟩ := List.mem_map.mp hd'
      exact h x hx
  · have := depth_each (n := 20) (ds := xs.map f) fun d hd' => by
      obtain ⟨x, hx, rfl⟩ := List.mem_map.mp hd'
      exact hd x
    simp only [PyData.depth]
    omega
/-! ### the law -/
abbrev s__law_right : Stmt := top 71
abbrev N__law_right : List Str := ["_law_box", "_law_g", "_law_halves", "_law_made_here", "_law_kept", "_law_k", "_law_one", "_law_j", "_law_two", "_law_found", "_law_due", "_law_part"]
abbrev P__law_right : List Str := ["_law_box"]
theorem sc__law_right : FnScope N__law_right P__law_right (defScope s__law_right) := ⟨rfl, rfl, rfl, by decide +kernel, rfl, by decide +kernel, by decide +kernel⟩
abbrev s_law : Stmt := top 72
abbrev N_law : List Str := ["_law_script", "_law_cells", "_law_k"]
abbrev P_law : List Str := ["_law_script"]
theorem sc_law : FnScope N_law P_law (defScope s_law) := ⟨rfl, rfl, rfl, by decide +kernel, rfl, by decide +kernel, by decide +kernel⟩
structure Ri55 (mg : Str → Option Value) : Prop where
  enumerate : mg "enumerate" = none
  int : mg "int" = none
  str : mg "str" = none
  range : mg "range" = none
  all : mg "all" = none
  max : mg "max" = none
  len : mg "len" = none
theorem or3 {a b c : Prop} : (a ∨ b) ∨ c ↔ c ∨ b ∨ a := ⟨fun h => by rcases h with (h | h) | h <;> simp [h], fun h => by rcases h with h | h | h <;> simp [h]⟩
abbrev R3 := List SRow × List MRow × List RRow
def HalfR (W R : R3) : Prop := Half W.1 W.2.1 W.2.2 R.1 R.2.1 R.2.2
noncomputable def jR3 (R R' : R3) : R3 := (jS R.1 R'.1, jM R.2.1 R'.2.1, jR R.2.2 R'.2.2)
def SameR (R R' : R3) : Prop := (∀ r, r ∈ R.1 ↔ r ∈ R'.1) ∧ (∀ r, r ∈ R.2.1 ↔ r ∈ R'.2.1) ∧ ∀ r, r ∈ R.2.2 ↔ r ∈ R'.2.2
structure Gk (K : PySem.W.Frag) (P : Program) (w : World) (G : Addr) (H : Hp) (x : Addr) (R : R3) (roof : Nat) : Prop where
  g : ∃ Z, GrOk K P w G Z H x R.1 R.2.1 R.2.2 roof
  r : ∃ Z, Risen K G Z H x R.1 R.2.1 R.2.2 roof
  f : GFit R.1 R.2.1 R.2.2 roof
section
variable {P : Program} {w : World} {K : PySem.W.Frag} {G : Addr} {H H' : Hp} {x y : Addr} {R R' W : R3} {roof : Nat}
theorem Gk.same (h : Gk K P w G H x R roof) (s : Same H H') : Gk K P w G H' x R roof := by
  obtain ⟨Z, g⟩ := h.g
  obtain ⟨Z', r⟩ := h.r
  exact ⟨⟨Z, g.same s⟩, ⟨Z', r.same s⟩, h.f⟩
theorem Gk.ne_ (h : Gk K P w G H x R roof) (h' : Gk K P w G H y R' roof) (e : RsD R.1 R.2.1 R.2.2 roof = RsD R'.1 R'.2.1 R'.2.2 roof) {Q : VK} (q : ∀ H', Same H H' → Q (.bl false) H') : rEqX G (EqG K G) true (.ref x) (.ref y) H Q := by
  obtain ⟨Z, r⟩ := h.r
  obtain ⟨Z', r'⟩ := h'.r
  obtain ⟨dx, rt, fs, a1, _⟩ := r.dp
  obtain ⟨dy, rt', fs', b1, _⟩ := r'.dp
  refine ⟨x, y, dx, dy, fs, fs', true, rfl, rfl, a1, b1, ⟨Z, Z', _, _, _, roof, _, _, _, roof, r, r', risen_shape h.f, risen_shape h'.f, ?_⟩, fun H' s => q H' s⟩
  rw [e]
  exact (SeqAt.eqv_refl _ (SeqAt.canLay_of_shaped (risen_shape h'.f))).symm
theorem HalfR.rsd (h : HalfR W R) (h' : HalfR W R') (e : SameR R R') : RsD R.1 R.2.1 R.2.2 roof = RsD R'.1 R'.2.1 R'.2.2 roof := rsd_same h h' e.1 e.2.1 e.2.2
variable (g : GFit W.1 W.2.1 W.2.2 roof)
include g
theorem HalfR.join (h : HalfR W R) (h' : HalfR W R') : HalfR W (jR3 R R') := Half.join g h h'
theorem jR3_mem1 (h : HalfR W R) (h' : HalfR W R') (r : SRow) : r ∈ (jR3 R R').1 ↔ r ∈ R.1 ∨ r ∈ R'.1 := jS_mem g h h'
theorem jR3_mem2 (h : HalfR W R) (h' : HalfR W R') (r : MRow) : r ∈ (jR3 R R').2.1 ↔ r ∈ R.2.1 ∨ r ∈ R'.2.1 := jM_mem g h h'
theorem jR3_mem3 (h : HalfR W R) (h' : HalfR W R') (r : RRow) : r ∈ (jR3 R R').2.2 ↔ r ∈ R.2.2 ∨ r ∈ R'.2.2 := jR_mem g h h'
theorem join_swap (h : HalfR W R) (h' : HalfR W R') : SameR (jR3 R R') (jR3 R' R) := by
  refine ⟨fun r => ?_, fun r => ?_, fun r => ?_⟩
  · rw [jR3_mem1 g h h', jR3_mem1 g h' h, or_comm]
  · rw [jR3_mem2 g h h', jR3_mem2 g h' h, or_comm]
  · rw [jR3_mem3 g h h', jR3_mem3 g h' h, or_comm]
theorem join_self (h : HalfR W R) : SameR (jR3 R R) R := by
  refine ⟨fun r => ?_, fun r => ?_, fun r => ?_⟩
  · rw [jR3_mem1 g h h, or_self]
  · rw [jR3_mem2 g h h, or_self]
  · rw [jR3_mem3 g h h, or_self]
theorem join_sub {R0 : R3} (h : HalfR W R) (h' : HalfR W R') (h1 : ∀ r ∈ R.1, r ∈ R0.1) (h2 : ∀ r ∈ R.2.1, r ∈ R0.2.1) (h3 : ∀ r ∈ R.2.2, r ∈ R0.2.2) (e : R' = R0) : SameR (jR3 R R') R0 := by
  subst e
  refine ⟨fun r => ?_, fun r => ?_, fun r => ?_⟩
  · rw [jR3_mem1 g h h']
    exact ⟨fun z => z.elim (h1 r) id, .inr⟩
  · rw [jR3_mem2 g h h']
    exact ⟨fun z => z.elim (h2 r) id, .inr⟩
  · rw [jR3_mem3 g h h']
    exact ⟨fun z => z.elim (h3 r) id, .inr⟩
theorem join_whole (h : HalfR W R) : SameR (jR3 R W) W := join_sub g h (Half.whole g) h.s h.m h.u rfl
theorem join_whole2 (h : HalfR W R) : SameR (jR3 W R) W := by
  have h1 := join_swap g (Half.whole g) h
  have h2 := join_whole g h
  exact ⟨fun r => (h1.1 r).trans (h2.1 r), fun r => (h1.2.1 r).trans (h2.2.1 r), fun r => (h1.2.2 r).trans (h2.2.2 r)⟩
theorem join_three {R2 : R3} (h : HalfR W R) (h' : HalfR W R') (h2 : HalfR W R2) : SameR (jR3 (jR3 R R') R2) (jR3 R2 (jR3 R' R)) := by
  have j := HalfR.join g h h'
  have j' := HalfR.join g h' h
  refine ⟨fun r => ?_, fun r => ?_, fun r => ?_⟩
  · rw [jR3_mem1 g j h2, jR3_mem1 g h2 j', jR3_mem1 g h h', jR3_mem1 g h' h]
    exact or3
  · rw [jR3_mem2 g j h2, jR3_mem2 g h2 j', jR3_mem2 g h h', jR3_mem2 g h' h]
    exact or3
  · rw [jR3_mem3 g j h2, jR3_mem3 g h2 j', jR3_mem3 g h h', jR3_mem3 g h' h]
    exact or3
end
def spRightG : Sp := fun vs H Q _ => ∃ (a : Addr) (b : List V), vs = [.ref a] ∧ H a = some (.lst b) ∧ BoxL 0 b ∧ ∀ H', But a H H' → Q (.bl true) H'
def spLaw (K : PySem.W.Frag) : Sp := fun vs H Q _ => ∃ (a : Addr) (ns : List Int), vs = [.ref a] ∧ SqL K H a (ns.map V.int) ∧ ns.length ≤ 63 ∧ ∀ H', Q (.bl true) H'
/-- a half as the law has it -/
def Hf (K : PySem.W.Frag) (H : Hp) (a : Addr) (W : R3) (roof : Nat) (e : Addr × R3) : Prop := GDA K H a e.1 e.2.1 e.2.2.1 e.2.2.2 roof ∧ HalfR W e.2
theorem Hf.but {K : PySem.W.Frag} {H H' : Hp} {a : Addr} {b : List V} {W : R3} {roof : Nat} {e : Addr × R3} (h : Hf K H a W roof e) (hb : H a = some (.lst b)) (t : But a H H') : Hf K H' a W roof e := ⟨h.1.but hb t, h.2⟩
theorem Hf.same {K : PySem.W.Frag} {H H' : Hp} {a : Addr} {W : R3} {roof : Nat} {e : Addr × R3} (h : Hf K H a W roof e) (t : Same H H') : Hf K H' a W roof e := ⟨h.1.same t, h.2⟩
structure GkZ (K : PySem.W.Frag) (P : Program) (w : World) (G D : Addr) (H : Hp) (x : Addr) (R : R3) (roof : Nat) : Prop where
  g : ∃ Z, Z D ≠ none ∧ GrOk K P w G Z H x R.1 R.2.1 R.2.2 roof ∧ Risen K G Z H x R.1 R.2.1 R.2.2 roof
  f : GFit R.1 R.2.1 R.2.2 roof
theorem GkZ.put {K : PySem.W.Frag} {P : Program} {w : World} {G D x : Addr} {H H' : Hp} {us us' : List V} {R : R3} {roof : Nat} (h : GkZ K P w G D H x R roof) (s : Same H H') (hD : H' D = some (.lst us)) : GkZ K P w G D (upd H' D (.lst us')) x R roof := by
  obtain ⟨Z, z, g, r⟩ := h.g
  refine ⟨⟨Z, z, (g.same s).but z hD (But.upd (But.refl D H')), (r.same s).but ?_ ?_ ?_ z hD (But.upd (But.refl D H'))⟩, h.f⟩ <;>
  exact immAll_of fun d hd => by
    obtain ⟨r, _, rfl⟩ := List.mem_map.mp (srtR_mem hd)
    exact r.imm
theorem GkZ.gk {K : PySem.W.Frag} {P : Program} {w : World} {G D x : Addr} {H : Hp} {R : R3} {roof : Nat} (h : GkZ K P w G D H x R roof) : Gk K P w G H x R roof := by
  obtain ⟨Z, _, g, r⟩ := h.g
  exact ⟨⟨Z, g⟩, ⟨Z, r⟩, h.f⟩
def dueR (R : R3) : List PyData := [.list (R.1.map SRow.d), .list (R.2.1.map MRow.d), .list (R.2.2.map RRow.d)]
theorem dpAll_strs {K : PySem.W.Frag} {H : Hp} {α : Type} {f : α → Str} : ∀ es : List α, DpAll K H (es.map fun e => V.str (f e)) (es.map fun e => PyData.str (f e))
  | [] => .nil
  | e :: es => .cons (.str _) (dpAll_strs es)
theorem two_in (i j : Nat) : inV (.int 2) [.int ((i : Nat) : Int), .int ((j : Nat) : Int)] = decide (i = 2 ∨ j = 2) := by
  have e : ∀ k : Nat, eqV (.int ((k : Nat) : Int)) (.int 2) = decide (k = 2) := fun k => by
    show decide (((k : Nat) : Int) = 2) = _
    exact decide_eq_decide.mpr ⟨fun h => by omega, fun h => by omega⟩
  show (eqV (.int ((i : Nat) : Int)) (.int 2) || (eqV (.int ((j : Nat) : Int)) (.int 2) || false)) = _
  rw [e, e, Bool.or_false, Bool.decide_or]
theorem od_sm1 (n : Nat) (o : Od) : Sm (n + 1) o.d := by
  have two : ∀ {x y : PyData}, (∀ n, Sm n x) → (∀ n, Sm n y) → Sm (n + 1) (.tuple [x, y]) := by
    intro x y hx hy
    refine .tup n (by show 2 ≤ 500; decide) fun d hd => ?_
    simp only [List.mem_cons, List.not_mem_nil, or_false] at hd
    rcases hd with rfl | rfl
    · exact hx n
    · exact hy n
  have one : ∀ s, ∀ n, Sm n (.str s) := fun s n => .str _ _
  cases o with
  | own =>
    refine .tup n (by show 1 ≤ 500; decide) fun d hd => ?_
    obtain rfl := List.mem_singleton.mp hd
    exact .str _ _
  | num n => exact two (one _) (fun n => .int _ _)
  | en x =>
    cases x with
    | sp p q =>
      refine .tup n (by show 3 ≤ 500; decide) fun d hd => ?_
      simp only [List.mem_cons, List.not_mem_nil, or_false] at hd
      rcases hd with rfl | rfl | rfl
      · exact .str _ _
      · exact .int _ _
      · exact .str _ _
    | kept q => exact two (one _) (one _)
theorem same_sm {R : R3} {roof : Nat} (g : GFit R.1 R.2.1 R.2.2 roof) : Sm 5 (.list (dueR R ++ [.int (roof : Nat)])) := by
  have l1 := g.so.le
  have l2 := g.m8
  have l3 := g.rl
  have nms : ∀ {ws : List (List Nat)}, ws.length ≤ 10 → Sm 2 (.tuple (ws.map strD)) := fun {ws} h => .tup 1 (by rw [List.length_map]; omega) fun d hd => by
    obtain ⟨w, _, rfl⟩ := List.mem_map.mp hd
    exact .str _ _
  have od : ∀ o : Od, Sm 1 o.d := od_sm1 0
  refine .lst 4 (by show 4 ≤ 500; decide) fun d hd => ?_
  simp only [dueR, List.cons_append, List.nil_append, List.mem_cons, List.not_mem_nil, or_false] at hd
  rcases hd with rfl | rfl | rfl | rfl
  · refine .lst 3 (by rw [List.length_map]; omega) fun d hd => ?_
    obtain ⟨r, hr, rfl⟩ := List.mem_map.mp hd
    have ok := g.so.ok r hr
    have a1 := ok.d2
    have a2 := ok.u2
    refine .tup 2 (by show 3 ≤ 500; decide) fun d hd => ?_
    simp only [List.mem_cons, List.not_mem_nil, or_false] at hd
    rcases hd with rfl | rfl | rfl
    · exact .str _ _
    · exact nms (by omega)
    · exact nms (by omega)
  · refine .lst 3 (by rw [List.length_map]; omega) fun d hd => ?_
    obtain ⟨r, hr, rfl⟩ := List.mem_map.mp hd
    have a1 := (g.ok r hr).p2
    refine .tup 2 (by show 3 ≤ 500; decide) fun d hd => ?_
    simp only [List.mem_cons, List.not_mem_nil, or_false] at hd
    rcases hd with rfl | rfl | rfl
    · exact .str _ _
    · exact .str _ _
    · exact nms (by omega)
  · refine .lst 3 (by rw [List.length_map]; omega) fun d hd => ?_
    obtain ⟨r, hr, rfl⟩ := List.mem_map.mp hd
    have hol : r.os.length ≤ 3 := by
      have h' := g.ra r hr
      obtain ⟨o', _, h2, _⟩ := op_of h'.op
      rw [h'.ar, h2]
      exact op_n3 o'
    refine .tup 2 (by show 4 ≤ 500; decide) fun d hd => ?_
    simp only [List.mem_cons, List.not_mem_nil, or_false] at hd
    rcases hd with rfl | rfl | rfl | rfl
    · exact .str _ _
    · exact od_sm1 1 (.en r.tg)
    · exact .str _ _
    · refine .tup 1 (by rw [List.length_map]; omega) fun d hd => ?_
      obtain ⟨o, _, rfl⟩ := List.mem_map.mp hd
      exact od o
  · exact .int _ _
section
variable {P : Program} {w : World} {K : PySem.W.Frag} {mg : Str → Option Value} {base : Heap} {G fE fS : Addr} {fdE fdS : FuncData} {psE psS : List Str}
theorem ok_right55 (T : Ri55 mg) (c_law_take : C8.Cal P w K mg base 1 "_law_take" spTake []) (c_law_any : C8.Cal P w K mg base 5 "_law_any" (spAny K) []) (c_law_half : C8.Cal P w K mg base 3 "_law_half" (spHalf K) []) (c_law_dict : C8.Cal P w K mg base 1 "_law_dict" (spDict K) []) (c_law_made : C8.Cal P w K mg base 8 "_law_made" (spMade K P w G) [])
    (cjoined : C8.Cal P w K mg base 8 "joined" (spJoin K P w G) []) (cclashes : C8.Cal P w K mg base 3 "clashes" (spClash K P w G) []) (c_law_more : C8.Cal P w K mg base 1 "_law_more" (spMore K) []) (c_law_same : C8.Cal P w K mg base 6 "_law_same" (spSame K 5) [])
    (M1 : C8.Met P w K mg base 1 G "sorts" (spRowsOf K P w G fun rs _ _ => rs.map SRow.d) []) (M2 : C8.Met P w K mg base 1 G "makings" (spRowsOf K P w G fun _ ms _ => ms.map MRow.d) []) (M3 : C8.Met P w K mg base 1 G "rules" (spRowsOf K P w G fun _ _ ru => ru.map RRow.d) []) (MC : C8.Met P w K mg base 1 G "cap" (spCapG K P w G) [])
    (FS : FnOk P w K mg base CX0 4 fS fdS psS (spGStr K P w G)) (hsS : PySem.W.findIn K (.ref G) "__str__" = some (some (.ref fS))) (hfS : PySem.W.isFn K (.ref fS) = true) (hbS : Binds K fdS psS [])
    (FE : FnOk P w K mg base CX0 1 fE fdE psE (spEqX (EqG K G))) (hsE : PySem.W.findIn K (.ref G) "__eq__" = some (some (.ref fE))) (hfE : PySem.W.isFn K (.ref fE) = true) (hbE : Binds K fdE psE []) (hnE : PySem.W.findIn K (.ref G) "__ne__" = some (some (.builtin "object.__ne__"))) (hmE : PySem.W.mroIn K G (.type "object") = some true)
    (D : Dd K mg "_law_right" s__law_right P__law_right) : C8.Cal P w K mg base 9 "_law_right" spRightG [] := by
  refine D.cal sc__law_right (fun vs H Q E h => ?_) (fun f cdv A outer s H vs Q E hr h => ?_)
  · obtain ⟨a, b, rfl, _⟩ := h
    rfl
  · obtain ⟨a, b, rfl, ha, hB, q⟩ := h
    refine ⟨_, (pss_cons (ps_set (i := 1) sc__law_right.nd rfl (Or.inl rfl) (C8.pe_c c_law_any hr (by decide) (by rfl) (pa_cons (pv 0) pa_nil)))
        (pss_cons (ps_set (i := 2) sc__law_right.nd rfl (Or.inl rfl) (pe_lst (pa_cons (C8.pe_c c_law_half hr (by decide) (by rfl) (pa_cons (pv 0) (pa_cons (pv 1) (pa_cons pe_int pa_nil)))) (pa_cons (C8.pe_c c_law_half hr (by decide) (by rfl) (pa_cons (pv 0) (pa_cons (pv 1) (pa_cons (pe_ix ix_list (pe_lst (pa_cons pe_int (pa_cons pe_int pa_nil))) (C8.pe_c c_law_take hr (by decide) (by rfl) (pa_cons (pv 0) (pa_cons pe_int pa_nil))) (fun _ _ => rfl)) pa_nil)))) (pa_cons (pv 1) (pa_cons (C8.pe_c c_law_dict hr (by decide) (by rfl) (pa_cons (pe_dget (hu_of hr) (pv 1) pe_str (fun _ _ => rfl)) (pa_cons (pe_lst pa_nil) (pa_cons (pe_lst pa_nil) (pa_cons (pe_lst pa_nil) pa_nil))))) pa_nil))))))
        (pss_cons (ps_setLc (i := 3) (own := [("_law_one", 6)]) (by exact rfl) sc__law_right.nd rfl rfl (sw_true rfl rfl rfl (by decide +kernel)) (pi_list (pv 2)) (blkOk_by (own := [("_law_one", 6)]) (N := N__law_right) (sc := defScope s__law_right) (by decide +kernel)) (fun _ _ _ _ _ => (pg_name (i := 6) sc__law_right.nd rfl (Or.inl rfl))) (fun _ _ _ _ _ => pts_nil) (fun _ _ _ _ _ => (C8.pe_c c_law_made hr (by decide) (by rfl) (pa_cons (pv 6) pa_nil))))
        (pss_cons (ps_setLc (i := 4) (own := [("_law_one", 6)]) (by exact rfl) sc__law_right.nd rfl rfl (sw_true rfl rfl rfl (by decide +kernel)) (pi_list (pv 3)) (blkOk_by (own := [("_law_one", 6)]) (N := N__law_right) (sc := defScope s__law_right) (by decide +kernel)) (fun _ _ _ _ _ => (pg_name (i := 6) sc__law_right.nd rfl (Or.inl rfl))) (fun _ _ _ _ _ => pts_nil) (fun _ _ _ _ _ => (pe_callTy (call_strOwn (E := C8.E0) FS hsS hfS hbS pass0 (hr.mono (by decide))) (by rfl) T.str (by decide +kernel) (pa_cons (pv 6) pa_nil))))
        (pss_cons (ps_for PassesOwn.never rfl (pi_enum (by rfl) T.enumerate (pa_cons (pv 2) pa_nil)) (pg_tup rfl (pgs_cons (pg_name (i := 5) sc__law_right.nd rfl (Or.inl rfl)) (pgs_cons (pg_name (i := 6) sc__law_right.nd rfl (Or.inr rfl)) pgs_nil)))
          (pss_one (ps_for PassesOwn.never rfl (pi_enum (by rfl) T.enumerate (pa_cons (pv 2) pa_nil)) (pg_tup rfl (pgs_cons (pg_name (i := 7) sc__law_right.nd rfl (Or.inl rfl)) (pgs_cons (pg_name (i := 8) sc__law_right.nd rfl (Or.inr rfl)) pgs_nil)))
          (pss_cons (ps_set (i := 9) sc__law_right.nd rfl (Or.inl rfl) (C8.pe_c cjoined hr (by decide) (by rfl) (pa_cons (pe_ix ix_list (pv 3) (pv 5) (fun _ _ => rfl)) (pa_cons (pe_ix ix_list (pv 3) (pv 7) (fun _ _ => rfl)) pa_nil))))
        (pss_cons (ps_setLc (i := 10) (own := [("_law_part", 11)]) (by exact rfl) sc__law_right.nd rfl rfl (sw_true rfl rfl rfl (by decide +kernel)) (pi_tup (pe_tup (pa_cons pe_str (pa_cons pe_str (pa_cons pe_str pa_nil))))) (blkOk_by (own := [("_law_part", 11)]) (N := N__law_right) (sc := defScope s__law_right) (by decide +kernel)) (fun _ _ _ _ _ => (pg_name (i := 11) sc__law_right.nd rfl (Or.inl rfl))) (fun _ _ _ _ _ => pts_nil) (fun _ _ _ _ _ => (C8.pe_c c_law_more hr (by decide) (by rfl) (pa_cons (pe_dget (hu_of hr) (pv 6) (pv 11) (fun _ _ => rfl)) (pa_cons (pe_dget (hu_of hr) (pv 8) (pv 11) (fun _ _ => rfl)) (pa_cons (pe_op op_add pe_int (pe_callTy call_int1 (by rfl) T.int (by decide +kernel) (pa_cons (pe_cmpR op_eq (pv 11) pe_str (nomark _)) pa_nil))) pa_nil))))))
        (pss_cons (ps_if (pt_not (pt_val (C8.pe_c c_law_same hr (by decide) (by rfl) (pa_cons (pe_lst (pa_cons (C8.pe_mt0 M1 hr (by decide) (pv 9)) (pa_cons (C8.pe_mt0 M2 hr (by decide) (pv 9)) (pa_cons (C8.pe_mt0 M3 hr (by decide) (pv 9)) (pa_cons (C8.pe_mt0 MC hr (by decide) (pv 9)) pa_nil))))) (pa_cons (pe_op op_cat (pv 10) (pe_lst (pa_cons (pe_dget (hu_of hr) (pv 1) pe_str (fun _ _ => rfl)) pa_nil))) pa_nil)))))
          (pss_one (ps_ret pe_bl))
          pss_nil)
        (pss_cons (ps_if (PW.pt (pw_or (pt_cmpR (r := rEqX G (EqG K G) true) (op_neX FE hsE hfE hnE hmE hbE pass0 (hr.mono (by decide))) (pv 9) (C8.pe_c cjoined hr (by decide) (by rfl) (pa_cons (pe_ix ix_list (pv 3) (pv 7) (fun _ _ => rfl)) (pa_cons (pe_ix ix_list (pv 3) (pv 5) (fun _ _ => rfl)) pa_nil))) (nomark _)) (pw_or1 (pt_cmpR (op_neD hr.units) (C8.pe_c cclashes hr (by decide) (by rfl) (pa_cons (pe_ix ix_list (pv 3) (pv 5) (fun _ _ => rfl)) (pa_cons (pe_ix ix_list (pv 3) (pv 7) (fun _ _ => rfl)) pa_nil))) (pe_lst pa_nil) (nomark _)))))
          (pss_one (ps_ret pe_bl))
          pss_nil)
        (pss_one (ps_if (PW.pt (pw_or (PW.pt (pw_and (pt_cmpR (r := rIn K false) op_in_seq pe_int (pe_tup (pa_cons (pv 5) (pa_cons (pv 7) pa_nil))) (by with_unfolding_all rfl)) (pw_and1 (pt_cmpR (r := rEqX G (EqG K G) true) (op_neX FE hsE hfE hnE hmE hbE pass0 (hr.mono (by decide))) (pv 9) (pe_ix ix_list (pv 3) pe_int (fun _ _ => rfl)) (nomark _))))) (pw_or1 (PW.pt (pw_and (pt_cmpR op_eq (pv 5) (pv 7) (nomark _)) (pw_and1 (pt_cmpR (r := rEqX G (EqG K G) true) (op_neX FE hsE hfE hnE hmE hbE pass0 (hr.mono (by decide))) (pv 9) (pe_ix ix_list (pv 3) (pv 5) (fun _ _ => rfl)) (nomark _))))))))
          (pss_one (ps_ret pe_bl))
          pss_nil)))))))))
        (pss_cons (ps_if (pt_cmpR (r := rEqX G (EqG K G) true) (op_neX FE hsE hfE hnE hmE hbE pass0 (hr.mono (by decide))) (C8.pe_c cjoined hr (by decide) (by rfl) (pa_cons (C8.pe_c cjoined hr (by decide) (by rfl) (pa_cons (pe_ix ix_list (pv 3) pe_int (fun _ _ => rfl)) (pa_cons (pe_ix ix_list (pv 3) pe_int (fun _ _ => rfl)) pa_nil))) (pa_cons (pe_ix ix_list (pv 3) pe_int (fun _ _ => rfl)) pa_nil))) (C8.pe_c cjoined hr (by decide) (by rfl) (pa_cons (pe_ix ix_list (pv 3) pe_int (fun _ _ => rfl)) (pa_cons (C8.pe_c cjoined hr (by decide) (by rfl) (pa_cons (pe_ix ix_list (pv 3) pe_int (fun _ _ => rfl)) (pa_cons (pe_ix ix_list (pv 3) pe_int (fun _ _ => rfl)) pa_nil))) pa_nil))) (nomark _))
          (pss_one (ps_ret pe_bl))
          pss_nil)
        (pss_one (ps_ret (pe_cmpR (op_eqD hr.units) (pe_lc (own := [("_law_one", 6)]) (by exact rfl) sc__law_right.nd (pi_list (pv 3)) (blkOk_by (own := [("_law_one", 6)]) (N := N__law_right) (sc := defScope s__law_right) (by decide +kernel)) (fun _ _ _ _ _ => (pg_name (i := 6) sc__law_right.nd rfl (Or.inl rfl))) (fun _ _ _ _ _ => pts_nil) (fun _ _ _ _ _ => (pe_callTy (call_strOwn (E := C8.E0) FS hsS hfS hbS pass0 (hr.mono (by decide))) (by rfl) T.str (by decide +kernel) (pa_cons (pv 6) pa_nil)))) (pv 4) (nomark _)))))))))), ?_⟩
    refine ⟨_, rfl, a, 0, b, rfl, ha, hB, by decide, fun H1 gd rs ms ru roof b1 bt1 ngd gi go hb1 hB1 => ?_⟩
    have gf := gfit go
    have da1 := gi.gda
    -- the halves
    refine ⟨_, rfl, _, rfl, a, gd, 4, _, b1, rs, ms, ru, roof, rfl, da1, gf, by decide, by decide, hb1, hB1, by decide, fun H2 g1 rs1 ms1 ru1 b2 bt2 hf1 gd1 hb2 hB2 => ?_⟩
    refine ⟨_, rfl, _, rfl, by show 2 ≤ sizeLine; decide, fun l0 nl0 => ?_⟩
    have s20 := same_upd (o := .lst [.int 2, .int 5]) nl0
    refine ⟨_, rfl, a, 2, _, b2, rfl, s20 _ _ hb2, hB2, by decide, by decide, by decide, fun r0 b3 r00 r01 hB3 => ?_⟩
    have n0a : l0 ≠ a := fun z => by
      rw [z, hb2] at nl0
      cases nl0
    have bt3 : But a H2 (upd (upd H2 l0 (.lst [.int 2, .int 5])) a (.lst b3)) := But.upd (But.of s20)
    have hl0 : (upd (upd H2 l0 (.lst [.int 2, .int 5])) a (.lst b3)) l0 = some (.lst [.int 2, .int 5]) := by
      rw [upd_ne n0a]
      exact upd_same
    have hb3 : (upd (upd H2 l0 (.lst [.int 2, .int 5])) a (.lst b3)) a = some (.lst b3) := upd_same
    generalize upd (upd H2 l0 (.lst [.int 2, .int 5])) a (.lst b3) = H3 at bt3 hl0 hb3 ⊢
    obtain ⟨of, hat, o1, o2⟩ : ∃ of : Int, atI [V.int 2, V.int 5] r0 = some (.int of) ∧ 0 < of ∧ of < 1000 := by
      obtain ⟨n, rfl⟩ := Int.eq_ofNat_of_zero_le r00
      rcases n with _ | _ | n
      · exact ⟨2, atI_nat (j := 0) rfl, by decide, by decide⟩
      · exact ⟨5, atI_nat (j := 1) rfl, by decide, by decide⟩
      · omega
    refine ⟨l0, _, _, _, rfl, rfl, SqL.of hl0, hat, ?_⟩
    refine ⟨a, gd, of, _, b3, rs, ms, ru, roof, rfl, (da1.but hb1 bt2).but hb2 bt3, gf, o1, o2, hb3, hB3, by decide, fun H4 g2 rs2 ms2 ru2 b4 bt4 hf2 gd2 hb4 hB4 => ?_⟩
    have da4 := ((da1.but hb1 bt2).but hb2 bt3).but hb3 bt4
    obtain ⟨ls, lm, lr, ⟨kvs, sv, mv, rv, hgd, hcap, _⟩, _⟩ := da4.ex
    refine ⟨_, rfl, _, rfl, gd, .int (roof : Nat), rfl, get_k hgd hcap, ?_⟩
    refine ⟨by show 0 ≤ sizeLine; decide, fun k1 nk1 => ?_⟩
    have t1 := same_upd (o := .lst []) nk1
    refine ⟨by show 0 ≤ sizeLine; decide, fun k2 nk2 => ?_⟩
    have t2 := same_upd (o := .lst []) nk2
    refine ⟨by show 0 ≤ sizeLine; decide, fun k3 nk3 => ?_⟩
    have t3 := same_upd (o := .lst []) nk3
    have t13 := (t1.trans t2).trans t3
    have nk1a : k1 ≠ a := fun z => by
      rw [z, hb4] at nk1
      cases nk1
    have nk2a : k2 ≠ a := fun z => by
      rw [z, t1 _ _ hb4] at nk2
      cases nk2
    have nk3a : k3 ≠ a := fun z => by
      rw [z, (t1.trans t2) _ _ hb4] at nk3
      cases nk3
    refine ⟨k1, k2, k3, [], [], [], [], [], [], roof, rfl, t3 _ _ (t2 _ _ upd_same), .nil, t3 _ _ upd_same, .nil, upd_same, .nil, by decide, by decide, by decide, fun H5 g4 s5 ng4 gd4 => ?_⟩
    have s45 := t13.trans s5
    generalize ees : [(g1, ((rs1, ms1, ru1) : R3)), (g2, (rs2, ms2, ru2)), (gd, (rs, ms, ru)), (g4, ([], [], []))] = es
    have hes : ∀ e ∈ es, Hf K H5 a (rs, ms, ru) roof e := by
      rw [← ees]
      intro e he
      simp only [List.mem_cons, List.not_mem_nil, or_false] at he
      rcases he with rfl | rfl | rfl | rfl
      · exact ⟨((gd1.but hb2 bt3).but hb3 bt4).same s45, hf1⟩
      · exact ⟨gd2.same s45, hf2⟩
      · exact ⟨da4.same s45, Half.whole gf⟩
      · exact ⟨⟨_, _, _, gd4, nk1a, nk2a, nk3a⟩, Half.none⟩
    have les : es.length = 4 := by rw [← ees]; rfl
    refine ⟨by show 4 ≤ sizeLine; decide, fun lh nlh => ?_⟩
    have s6 := same_upd (o := .lst [.ref g1, .ref g2, .ref gd, .ref g4]) nlh
    have hlh : (upd H5 lh (.lst [.ref g1, .ref g2, .ref gd, .ref g4])) lh = some (.lst (es.map fun e => V.ref e.1)) := by
      rw [upd_same, ← ees]
      rfl
    have bt6 : But a H (upd H5 lh (.lst [.ref g1, .ref g2, .ref gd, .ref g4])) := (((bt1.trans bt2).trans bt3).trans bt4).trans (But.of (s45.trans s6))
    replace hes : ∀ e ∈ es, Hf K (upd H5 lh (.lst [.ref g1, .ref g2, .ref gd, .ref g4])) a (rs, ms, ru) roof e := fun e he => (hes e he).same s6
    have s6' := s6
    generalize upd H5 lh (.lst [.ref g1, .ref g2, .ref gd, .ref g4]) = H6 at hlh bt6 hes s6' ⊢
    -- the grammars
    refine ⟨_, rfl, lh, rfl, ⟨_, SqL.of hlh⟩, fun lm' nlm' => ?_⟩
    refine lc_it (walk_list (xs := es.map fun e => V.ref e.1)) (fun i U => Same H6 U ∧ ∃ xs : List Addr, U lm' = some (.lst (xs.map V.ref)) ∧ xs.length = i ∧ ∀ (j : Nat) (e : Addr × R3) (x : Addr), es[j]? = some e → xs[j]? = some x → GkZ K P w G lm' U x e.2 roof) ⟨same_upd nlm', [], upd_same, rfl, fun j e x _ h => by cases h⟩ (fun i U _ h => SqL.of (h.1 _ _ hlh)) ?_ ?_
    · rintro i v U0 U hi ⟨sU, xs, hU, lxs, hxs⟩ ⟨rfl, he⟩
      obtain ⟨e, he2, rfl⟩ : ∃ e, es[i]? = some e ∧ v = .ref e.1 := by
        replace he : (es.map fun e => V.ref e.1)[i]? = some v := he
        rw [List.getElem?_map] at he
        cases h : es[i]? with
        | none => rw [h] at he; cases he
        | some e => rw [h] at he; exact ⟨e, rfl, (Option.some.inj he).symm⟩
      have hfe := hes e (List.mem_of_getElem? he2)
      have hi4 : i < 4 := by rw [← les]; exact (List.getElem?_eq_some_iff.mp he2).1
      refine ⟨rfl, yesT ?_⟩
      refine ⟨_, rfl, e.1, e.2.1, e.2.2.1, e.2.2.2, roof, rfl, (hfe.1.same sU).gd, Half.fit hfe.2 gf, fun U2 x s2 nx gr rn => ?_⟩
      have hU2 := s2 _ _ hU
      refine ⟨_, hU2, by rw [List.length_map, lxs]; exact small1000 (by omega), Same.at_ (sU.trans s2) nlm', xs ++ [x], ?_, by rw [List.length_append, lxs]; rfl, fun j e' x' h1 h2 => ?_⟩
      · rw [upd_same, List.map_append]
        rfl
      · by_cases hj : j < i
        · rw [List.getElem?_append_left (by omega)] at h2
          exact (hxs j e' x' h1 h2).put s2 hU2
        · have hji : j = i := by
            have := (List.getElem?_eq_some_iff.mp h2).1
            rw [List.length_append] at this
            have : j < xs.length + 1 := this
            omega
          subst hji
          rw [he2] at h1
          cases h1
          rw [List.getElem?_append_right (by omega), lxs, Nat.sub_self] at h2
          cases h2
          exact GkZ.put ⟨⟨U, by rw [hU]; simp, gr, rn⟩, Half.fit hfe.2 gf⟩ (Same.refl U2) hU2
    rintro H7 ⟨s67, xs, hlm7, lxs, hxs⟩
    rw [List.length_map] at lxs
    replace hxs : ∀ (j : Nat) (e : Addr × R3) (x : Addr), es[j]? = some e → xs[j]? = some x → Gk K P w G H7 x e.2 roof := fun j e x h1 h2 => (hxs j e x h1 h2).gk
    replace hes : ∀ e ∈ es, Hf K H7 a (rs, ms, ru) roof e := fun e he => (hes e he).same s67
    have hlh7 := s67 _ _ hlh
    have bt7 := bt6.trans (But.of s67)
    -- their texts
    refine ⟨_, rfl, lm', rfl, ⟨_, SqL.of hlm7⟩, fun lt nlt => ?_⟩
    refine lc_it (walk_list (xs := xs.map V.ref)) (fun i U => Same H7 U ∧ U lt = some (.lst ((es.take i).map fun e => V.str (gramS e.2.1 e.2.2.1 e.2.2.2 roof)))) ⟨same_upd nlt, upd_same⟩ (fun i U _ h => SqL.of (h.1 _ _ hlm7)) ?_ ?_
    · rintro i v U0 U hi ⟨sU, hU⟩ ⟨rfl, he⟩
      obtain ⟨x, hx2, rfl⟩ : ∃ x, xs[i]? = some x ∧ v = .ref x := by
        replace he : (xs.map V.ref)[i]? = some v := he
        rw [List.getElem?_map] at he
        cases h : xs[i]? with
        | none => rw [h] at he; cases he
        | some e => rw [h] at he; exact ⟨e, rfl, (Option.some.inj he).symm⟩
      have hix : i < xs.length := (List.getElem?_eq_some_iff.mp hx2).1
      obtain ⟨e, he2⟩ : ∃ e, es[i]? = some e := ⟨_, List.getElem?_eq_getElem (by omega)⟩
      have hg := (hxs i e x he2 hx2).same sU
      obtain ⟨Z, gr⟩ := hg.g
      obtain ⟨dx, _, _, _, _, _, hx, _⟩ := gr.ex
      refine ⟨rfl, yesT ?_⟩
      refine ⟨_, rfl, x, dx, _, rfl, hx, Z, x, _, _, _, roof, rfl, gr, hg.f, fun U2 s2 => ⟨_, rfl, _, s2 _ _ hU, by rw [List.length_map, List.length_take]; exact small1000 (by omega), Same.at_ (sU.trans s2) nlt, ?_⟩⟩
      have tk : es.take (i + 1) = es.take i ++ [e] := by rw [List.take_add_one, he2]; rfl
      rw [upd_same, tk, List.map_append]
      rfl
    rintro H8 ⟨s78, hlt⟩
    rw [List.length_map, lxs, List.take_length] at hlt
    replace hxs : ∀ (j : Nat) (e : Addr × R3) (x : Addr), es[j]? = some e → xs[j]? = some x → Gk K P w G H8 x e.2 roof := fun j e x h1 h2 => (hxs j e x h1 h2).same s78
    replace hes : ∀ e ∈ es, Hf K H8 a (rs, ms, ru) roof e := fun e he => (hes e he).same s78
    have hlh8 := s78 _ _ hlh7
    have hlm8 := s78 _ _ hlm7
    have bt8 := bt7.trans (But.of s78)
    have gat : ∀ {i : Nat} {v : V}, (es.map fun e => V.ref e.1)[i]? = some v → ∃ e x, es[i]? = some e ∧ v = .ref e.1 ∧ xs[i]? = some x ∧ Gk K P w G H8 x e.2 roof ∧ Hf K H8 a (rs, ms, ru) roof e := fun {i v} h => by
      rw [List.getElem?_map] at h
      cases he : es[i]? with
      | none => rw [he] at h; cases h
      | some e =>
        rw [he] at h
        have hi : i < xs.length := by
          have := (List.getElem?_eq_some_iff.mp he).1
          omega
        have hx : xs[i]? = some xs[i] := List.getElem?_eq_getElem hi
        exact ⟨e, xs[i], rfl, (Option.some.inj h).symm, hx, hxs i e _ he hx, hes e (List.mem_of_getElem? he)⟩
    have xat : ∀ {i : Nat} {x : Addr}, xs[i]? = some x → atI (xs.map V.ref) ((i : Nat) : Int) = some (.ref x) := fun {i x} h => atI_nat (by rw [List.getElem?_map, h]; rfl)
    have lk1 : ∀ {a b c d e f : V}, (g6 a b c d e f).lookup (("sorts" : String) : Str) = none := fun {a b c d e f} => by with_unfolding_all rfl
    have lk2 : ∀ {a b c d e f : V}, (g6 a b c d e f).lookup (("makings" : String) : Str) = none := fun {a b c d e f} => by with_unfolding_all rfl
    have lk3 : ∀ {a b c d e f : V}, (g6 a b c d e f).lookup (("rules" : String) : Str) = none := fun {a b c d e f} => by with_unfolding_all rfl
    have lk4 : ∀ {a b c d e f : V}, (g6 a b c d e f).lookup (("cap" : String) : Str) = none := fun {a b c d e f} => by with_unfolding_all rfl
    -- pair by pair
    refine ⟨_, rfl, lh, _, rfl, SqL.of hlh8, ?_⟩
    refine for_it walk_enum (fun i σ Y => ∃ y5 y6 y7 y8 y9 y10, σ = [some (.ref a), some (.ref gd), some (.ref lh), some (.ref lm'), some (.ref lt), y5, y6, y7, y8, y9, y10, none] ∧ Same H8 Y) ⟨_, _, _, _, _, _, rfl, Same.refl H8⟩ (fun i σ Y _ ⟨_, _, _, _, _, _, _, h⟩ => SqL.of (h _ _ hlh8)) ?_ ?_
    · rintro i v σ Y0 Y hi ⟨y5, y6, y7, y8, y9, y10, rfl, sY⟩ ⟨T1, x, y, rfl, nT, rfl, ex, ey⟩
      cases ex
      obtain ⟨e, x1, he, rfl, hx1, gk1, hf1'⟩ := gat ey
      refine ⟨T1, _, rfl, SqT.of upd_same, rfl, _, _, rfl, _, _, rfl, rfl, ?_⟩
      have sT := sY.trans (same_upd (o := .tup [.int ((i : Nat) : Int), .ref e.1]) nT)
      generalize upd Y0 T1 (.tup [.int ((i : Nat) : Int), .ref e.1]) = Y1 at sT ⊢
      refine ⟨_, rfl, lh, _, rfl, SqL.of (sT _ _ hlh8), ?_⟩
      refine for_it walk_enum (fun j σ Y => ∃ y7 y8 y9 y10, σ = [some (.ref a), some (.ref gd), some (.ref lh), some (.ref lm'), some (.ref lt), some (.int ((i : Nat) : Int)), some (.ref e.1), y7, y8, y9, y10, none] ∧ Same H8 Y) ⟨_, _, _, _, rfl, sT⟩ (fun i σ Y _ ⟨_, _, _, _, _, h⟩ => SqL.of (h _ _ hlh8)) ?_ ?_
      · rintro j v σ Z0 Z hj ⟨y7, y8, y9, y10, rfl, sZ⟩ ⟨T2, x, y, rfl, nT2, rfl, ex, ey⟩
        cases ex
        obtain ⟨e2, x2, he2, rfl, hx2, gk2, hf2'⟩ := gat ey
        refine ⟨T2, _, rfl, SqT.of upd_same, rfl, _, _, rfl, _, _, rfl, rfl, ?_⟩
        have sT2 := sZ.trans (same_upd (o := .tup [.int ((j : Nat) : Int), .ref e2.1]) nT2)
        generalize upd Z0 T2 (.tup [.int ((j : Nat) : Int), .ref e2.1]) = V0 at sT2 ⊢
        have h1 := hf1'.2
        have h2 := hf2'.2
        have ag12 : Agree e.2.1 e.2.2.1 e.2.2.2 e2.2.1 e2.2.2.1 e2.2.2.2 := Half.agree gf h1 h2
        have ag21 : Agree e2.2.1 e2.2.2.1 e2.2.2.2 e.2.1 e.2.2.1 e.2.2.2 := Half.agree gf h2 h1
        have j12 := HalfR.join gf h1 h2
        have j21 := HalfR.join gf h2 h1
        obtain ⟨Za, gra⟩ := gk1.g
        obtain ⟨Zb, grb⟩ := gk2.g
        refine ⟨_, rfl, _, rfl, lm', _, _, _, rfl, rfl, SqL.of (sT2 _ _ hlm8), xat hx1, _, rfl, _, rfl, lm', _, _, _, rfl, rfl, SqL.of (sT2 _ _ hlm8), xat hx2, Za, Zb, x1, x2, _, _, _, _, _, _, roof, rfl, gra.same sT2, gk1.f, grb.same sT2, gk2.f, ag12, Half.fit j12 gf, fun V1 xf s1 nxf grf rnf => ?_⟩
        have sV1 := sT2.trans s1
        have gkf : Gk K P w G V1 xf (jR3 e.2 e2.2) roof := ⟨⟨_, grf⟩, ⟨_, rnf⟩, Half.fit j12 gf⟩
        -- due
        refine ⟨by show 3 ≤ sizeLine; decide, fun tp ntp => ?_⟩
        have sV2 := same_upd (o := .tup [.str "sorts", .str "makings", .str "rules"]) ntp
        have htp : (upd V1 tp (.tup [.str "sorts", .str "makings", .str "rules"])) tp = some (.tup [.str "sorts", .str "makings", .str "rules"]) := upd_same
        generalize upd V1 tp (.tup [.str "sorts", .str "makings", .str "rules"]) = V2 at sV2 htp ⊢
        have s82 := sV1.trans sV2
        refine ⟨tp, rfl, ⟨_, SqT.of htp⟩, fun DD nDD => ?_⟩
        refine lc_it (walk_tup (xs := [.str "sorts", .str "makings", .str "rules"])) (fun t W => Same V2 W ∧ ∃ vs : List V, W DD = some (.lst vs) ∧ vs.length = t ∧ DpAll K (del W DD) vs ((dueR (jR3 e.2 e2.2)).take t)) ⟨same_upd nDD, [], upd_same, rfl, .nil⟩ (fun t W _ h => SqT.of (h.1 _ _ htp)) ?_ ?_
        · rintro t v W0 W ht ⟨sW, vs, hDD, lvs, hvs⟩ ⟨rfl, hv⟩
          refine ⟨rfl, yesT ?_⟩
          obtain ⟨ls1, lm1, lr1, ⟨kvs1, sv1, mv1, rv1, hgd1, c11, c12, c13, c14, a11, a12, a13, a14, a15, a16⟩, _⟩ := (hf1'.1.same (s82.trans sW)).ex
          obtain ⟨ls2, lm2, lr2, ⟨kvs2, sv2, mv2, rv2, hgd2, c21, c22, c23, c24, a21, a22, a23, a24, a25, a26⟩, _⟩ := (hf2'.1.same (s82.trans sW)).ex
          have fin : ∀ (R : VK) (k : Int) (kf : PyData → PyData) (ds1 ds2 rows : List PyData) (u1 u2 : List V) (la lb : Addr), W la = some (.lst u1) → DpAll K W u1 ds1 → W lb = some (.lst u2) → DpAll K W u2 ds2 → ds1.length ≤ 300 → ds2.length ≤ 300 → (∀ d ∈ ds1 ++ ds2, KeyRow K k kf d) → (∀ d ∈ ds2, SeqAt.shaped (kf d) = true) → SeqAt.shaped (.list (ds1.map kf)) = true → (∀ d ∈ ds1, ∀ d' ∈ ds2, (PyData.eqv (kf d) (kf d') = true ↔ keyD (kf d) = keyD (kf d'))) → rowsJ kf ds1 ds2 = rows → (dueR (jR3 e.2 e2.2))[t]? = some (.list rows) → immAll rows = true →
              (∀ (U : Hp) (l : Addr), (∃ acc, U DD = some (.lst acc) ∧ acc.length < sizeLine ∧ Same V2 (upd U DD (.lst (acc ++ [.ref l]))) ∧ ∃ vs : List V, (upd U DD (.lst (acc ++ [.ref l]))) DD = some (.lst vs) ∧ vs.length = t + 1 ∧ DpAll K (del (upd U DD (.lst (acc ++ [.ref l]))) DD) vs ((dueR (jR3 e.2 e2.2)).take (t + 1))) → R (.ref l) U) → spMore K [.ref la, .ref lb, .int k] W R C8.E0 := fun R k kf ds1 ds2 rows u1 u2 la lb z1 z2 z3 z4 z5 z6 z7 z8 z9 z10 ej ed im hR => by
            refine ⟨la, lb, k, u1, u2, ds1, ds2, kf, rfl, z1, z2, z3, z4, z5, z6, z7, z8, z9, z10, fun U l us sU nl hl hus => hR U l ⟨vs, sU _ _ hDD, ?_, Same.at_ (sW.trans sU) nDD, vs ++ [.ref l], upd_same, by rw [List.length_append, lvs]; rfl, ?_⟩⟩
            · rw [lvs]
              exact small1000 (by have : t < 3 := ht; omega)
            · have tk : (dueR (jR3 e.2 e2.2)).take (t + 1) = (dueR (jR3 e.2 e2.2)).take t ++ [.list rows] := by rw [List.take_add_one, ed]; rfl
              have bU : But DD W (upd U DD (.lst (vs ++ [.ref l]))) := But.upd (But.of sU)
              have nl2 : l ≠ DD := fun z => by
                rw [z, hDD] at nl
                cases nl
              have hl2 : (del (upd U DD (.lst (vs ++ [.ref l]))) DD) l = some (.lst us) := by
                unfold del
                rw [if_neg nl2, upd_ne nl2]
                exact hl
              rw [tk]
              rw [ej] at hus
              exact dpAll_appI (dpAll_same (del_but bU) hvs) (.cons (.lst (SqL.of hl2) (dpAll_imm ((KeepT.at_ (sU _ _ hDD) lst_no).trans (del_keep upd_same)) hus im)) .nil)
          rcases t with _ | _ | _ | t
          · cases hv
            refine ⟨_, rfl, _, rfl, e.1, _, rfl, get_k hgd1 c12, ?_⟩
            refine ⟨_, rfl, _, rfl, e2.1, _, rfl, get_k hgd2 c22, ?_⟩
            refine ⟨_, rfl, rfl, .inr ⟨_, rfl, _, _, rfl, rfl, ?_⟩⟩
            have e0 : decide (V.str (Str.ofString "sorts") = V.str (Str.ofString "rules")) = false := by decide +kernel
            rw [e0]
            simp only [Bool.false_eq_true, ↓reduceIte, Int.add_zero, Int.reduceAdd]
            unfold tNil
            simp only [List.append_nil]
            refine fin  _ 1 (kfT 1) (e.2.1.map SRow.d) (e2.2.1.map SRow.d) _ sv1 sv2 ls1 ls2 a11 a12 a21 a22 (by rw [List.length_map]; have := gk1.f.so.le; omega) (by rw [List.length_map]; have := gk2.f.so.le; omega) ?_ ?_ ?_ ?_ (jS_map _ _) rfl (immAll_map SRow.imm _) ?_
            · intro d hd
              rcases List.mem_append.mp hd with hd | hd <;>
              · obtain ⟨r, _, rfl⟩ := List.mem_map.mp hd
                exact srow_key r
            · intro d hd
              obtain ⟨r, hr, rfl⟩ := List.mem_map.mp hd
              exact key1_sh (gk2.f.so.ok r hr).nm
            · rw [List.map_map]
              exact keys_sh (f := fun r => .tuple [strD r.nm]) (fun r hr => key1_lay (gk1.f.so.ok r hr).nm) fun r => Nat.le_of_ble_eq_true rfl
            · intro d hd d' hd'
              obtain ⟨r, hr, rfl⟩ := List.mem_map.mp hd
              obtain ⟨r', hr', rfl⟩ := List.mem_map.mp hd'
              exact key1_eqv _ _
            · exact fun U l h => h
          · cases hv
            refine ⟨_, rfl, _, rfl, e.1, _, rfl, get_k hgd1 c13, ?_⟩
            refine ⟨_, rfl, _, rfl, e2.1, _, rfl, get_k hgd2 c23, ?_⟩
            refine ⟨_, rfl, rfl, .inr ⟨_, rfl, _, _, rfl, rfl, ?_⟩⟩
            have e0 : decide (V.str (Str.ofString "makings") = V.str (Str.ofString "rules")) = false := by decide +kernel
            rw [e0]
            simp only [Bool.false_eq_true, ↓reduceIte, Int.add_zero, Int.reduceAdd]
            unfold tNil
            simp only [List.append_nil]
            refine fin  _ 1 (kfT 1) (e.2.2.1.map MRow.d) (e2.2.2.1.map MRow.d) _ mv1 mv2 lm1 lm2 a13 a14 a23 a24 (by rw [List.length_map]; have := gk1.f.m8; omega) (by rw [List.length_map]; have := gk2.f.m8; omega) ?_ ?_ ?_ ?_ (jM_map _ _) rfl (immAll_map MRow.imm _) ?_
            · intro d hd
              rcases List.mem_append.mp hd with hd | hd <;>
              · obtain ⟨r, _, rfl⟩ := List.mem_map.mp hd
                exact mrow_key r
            · intro d hd
              obtain ⟨r, hr, rfl⟩ := List.mem_map.mp hd
              exact key1_sh (gk2.f.ok r hr).nm
            · rw [List.map_map]
              exact keys_sh (f := fun r => .tuple [strD r.nm]) (fun r hr => key1_lay (gk1.f.ok r hr).nm) fun r => Nat.le_of_ble_eq_true rfl
            · intro d hd d' hd'
              obtain ⟨r, hr, rfl⟩ := List.mem_map.mp hd
              obtain ⟨r', hr', rfl⟩ := List.mem_map.mp hd'
              exact key1_eqv _ _
            · exact fun U l h => h
          · cases hv
            refine ⟨_, rfl, _, rfl, e.1, _, rfl, get_k hgd1 c14, ?_⟩
            refine ⟨_, rfl, _, rfl, e2.1, _, rfl, get_k hgd2 c24, ?_⟩
            refine ⟨_, rfl, rfl, .inr ⟨_, rfl, _, _, rfl, rfl, ?_⟩⟩
            have e0 : decide (V.str (Str.ofString "rules") = V.str (Str.ofString "rules")) = true := by decide +kernel
            rw [e0]
            simp only [Bool.false_eq_true, ↓reduceIte, Int.add_zero, Int.reduceAdd]
            unfold tNil
            simp only [List.append_nil]
            refine fin  _ 2 (kfT 2) (e.2.2.2.map RRow.d) (e2.2.2.2.map RRow.d) _ rv1 rv2 lr1 lr2 a15 a16 a25 a26 (by rw [List.length_map]; have := gk1.f.rl; omega) (by rw [List.length_map]; have := gk2.f.rl; omega) ?_ ?_ ?_ ?_ (jR_map _ _) rfl (immAll_map RRow.imm _) ?_
            · intro d hd
              rcases List.mem_append.mp hd with hd | hd <;>
              · obtain ⟨r, _, rfl⟩ := List.mem_map.mp hd
                exact rrow_key r
            · intro d hd
              obtain ⟨r, hr, rfl⟩ := List.mem_map.mp hd
              exact sh_of (key2_lay gk2.f.so gk2.f.ok (gk2.f.ra r hr)) (Nat.le_trans (kd_dep r) (by decide))
            · rw [List.map_map]
              exact keys_sh (f := fun r => r.kd) (fun r hr => key2_lay gk1.f.so gk1.f.ok (gk1.f.ra r hr)) kd_dep
            · intro d hd d' hd'
              obtain ⟨r, hr, rfl⟩ := List.mem_map.mp hd
              obtain ⟨r', hr', rfl⟩ := List.mem_map.mp hd'
              exact key2_eqv _ _
            · exact fun U l h => h
          · cases hv
        rintro W ⟨sW, vs, hDD, lvs, hvs⟩
        replace hvs : DpAll K (del W DD) vs (dueR (jR3 e.2 e2.2)) := hvs
        replace hvs := dpAll_same del_sub hvs
        have s1W := sV2.trans sW
        have gkW := gkf.same s1W
        have s8W := s82.trans sW
        have njf : ∀ {U : Hp}, Same W U → ∃ Z, GrOk K P w G Z U xf (jR3 e.2 e2.2).1 (jR3 e.2 e2.2).2.1 (jR3 e.2 e2.2).2.2 roof := fun s => (gkW.same s).g
        obtain ⟨Zf, grW⟩ := gkW.g
        obtain ⟨dxf, _, _, _, _, _, hxf, _⟩ := grW.ex
        have f1 := gkf.f.so.le
        have f2 := gkf.f.m8
        have f3 := gkf.f.rl
        -- told
        refine ⟨_, rfl, xf, dxf, _, rfl, hxf, lk1, Zf, xf, _, _, _, roof, rfl, grW, f1, f2, f3, fun U1 q1 e1 u1 nq1 hq1 hd1 => ?_⟩
        have w1 := u1
        refine ⟨_, rfl, xf, dxf, _, rfl, w1 _ _ hxf, lk2, Zf, xf, _, _, _, roof, rfl, grW.same w1, f1, f2, f3, fun U2 q2 e2' u2 nq2 hq2 hd2 => ?_⟩
        have w2 := w1.trans u2
        refine ⟨_, rfl, xf, dxf, _, rfl, w2 _ _ hxf, lk3, Zf, xf, _, _, _, roof, rfl, grW.same w2, f1, f2, f3, fun U3 q3 e3 u3 nq3 hq3 hd3 => ?_⟩
        have w3 := w2.trans u3
        refine ⟨_, rfl, xf, dxf, _, rfl, w3 _ _ hxf, lk4, Zf, xf, _, _, _, roof, rfl, grW.same w3, ?_⟩
        refine ⟨by show 4 ≤ sizeLine; decide, fun lp nlp => ?_⟩
        have u4 := same_upd (o := .lst [.ref q1, .ref q2, .ref q3, .int (roof : Nat)]) nlp
        have hlp : (upd U3 lp (.lst [.ref q1, .ref q2, .ref q3, .int (roof : Nat)])) lp = some (.lst [.ref q1, .ref q2, .ref q3, .int (roof : Nat)]) := upd_same
        generalize upd U3 lp (.lst [.ref q1, .ref q2, .ref q3, .int (roof : Nat)]) = U4 at u4 hlp ⊢
        have w4 := w3.trans u4
        have dA : Dp K U4 (.ref lp) (.list [.list ((jR3 e.2 e2.2).1.map SRow.d), .list ((jR3 e.2 e2.2).2.1.map MRow.d), .list ((jR3 e.2 e2.2).2.2.map RRow.d), .int (roof : Nat)]) :=
          .lst (SqL.of hlp) (.cons (.lst (SqL.of (u4 _ _ (u3 _ _ (u2 _ _ hq1)))) (dpAll_same ((u2.trans u3).trans u4) hd1)) (.cons (.lst (SqL.of (u4 _ _ (u3 _ _ hq2))) (dpAll_same (u3.trans u4) hd2)) (.cons (.lst (SqL.of (u4 _ _ hq3)) (dpAll_same u4 hd3)) (.cons (.int _) .nil))))
        have sg4 : Same H4 U4 := ((s45.trans (s6'.trans (s67.trans s78))).trans s8W).trans w4
        refine ⟨_, rfl, _, rfl, gd, .int (roof : Nat), rfl, get_k (sg4 _ _ hgd) hcap, ?_⟩
        refine ⟨by show 1 ≤ sizeLine; decide, fun lc nlc => ?_⟩
        have u5 := same_upd (o := .lst [.int (roof : Nat)]) nlc
        have w5 := w4.trans u5
        refine ⟨DD, lc, vs, [.int (roof : Nat)], rfl, rfl, w5 _ _ hDD, upd_same, Nat.le_trans (show vs.length + 1 ≤ 4 by have : vs.length = 3 := lvs; omega) (by decide), fun lq nlq => ?_⟩
        have u6 := same_upd (o := .lst (vs ++ [.int (roof : Nat)])) nlq
        have w6 := w5.trans u6
        have dB : Dp K (upd (upd U4 lc (.lst [.int (roof : Nat)])) lq (.lst (vs ++ [.int (roof : Nat)]))) (.ref lq) (.list (dueR (jR3 e.2 e2.2) ++ [.int (roof : Nat)])) := .lst (SqL.of upd_same) (dpAll_appI (dpAll_same w6 hvs) (.cons (.int _) .nil))
        refine ⟨_, _, _, rfl, dp_same (u5.trans u6) dA, dB, ?_, fun U7 u7 => ⟨_, rfl, iteF ?_⟩⟩
        · exact same_sm gkf.f
        have w7 := w6.trans u7
        have s87 := s8W.trans w7
        -- the other way about
        refine ⟨_, rfl, _, rfl, _, rfl, lm', _, _, _, rfl, rfl, SqL.of (s87 _ _ hlm8), xat hx2, _, rfl, _, rfl, lm', _, _, _, rfl, rfl, SqL.of (s87 _ _ hlm8), xat hx1, Zb, Za, x2, x1, _, _, _, _, _, _, roof, rfl, grb.same s87, gk2.f, gra.same s87, gk1.f, ag21, Half.fit j21 gf, fun U8 xg u8 nxg grg rng => ?_⟩
        have w8 := w7.trans u8
        have gkg : Gk K P w G U8 xg (jR3 e2.2 e.2) roof := ⟨⟨_, grg⟩, ⟨_, rng⟩, Half.fit j21 gf⟩
        refine Gk.ne_ (gkW.same w8) gkg (HalfR.rsd j12 j21 (join_swap gf h1 h2)) fun U9 u9 => ⟨_, rfl, iteF ?_⟩
        have w9 := w8.trans u9
        have s89 := s8W.trans w9
        refine ⟨_, rfl, _, rfl, lm', _, _, _, rfl, rfl, SqL.of (s89 _ _ hlm8), xat hx1, _, rfl, _, rfl, lm', _, _, _, rfl, rfl, SqL.of (s89 _ _ hlm8), xat hx2, Za, Zb, x1, x2, _, _, _, _, _, _, roof, rfl, gra.same s89, gk1.f, grb.same s89, gk2.f, ag12, fun U10 lz u10 nlz hlz => ?_⟩
        refine ⟨by show 0 ≤ sizeLine; decide, fun lz2 nlz2 => ?_⟩
        have u11 := same_upd (o := .lst []) nlz2
        refine ⟨.list [], .list [], .lst (SqL.of (u11 _ _ hlz)) .nil, .lst (SqL.of upd_same) .nil, by decide +kernel, by decide +kernel, _, rfl, ifF (by decide +kernel) ?_⟩
        have w11 := (w9.trans u10).trans u11
        generalize upd U10 lz2 (.lst []) = U11 at w11 ⊢
        have s8b := s8W.trans w11
        -- the whole, and itself
        have hx3 : ∃ x3, xs[2]? = some x3 := ⟨_, List.getElem?_eq_getElem (by omega)⟩
        obtain ⟨x3, hx3⟩ := hx3
        have gk3 : Gk K P w G H8 x3 (rs, ms, ru) roof := hxs 2 (gd, (rs, ms, ru)) x3 (by rw [← ees]; rfl) hx3
        have fin : ∀ {U : Hp}, Same U11 U → ∃ y7 y8 y9 y10, [some (V.ref a), some (.ref gd), some (.ref lh), some (.ref lm'), some (.ref lt), some (.int ((i : Nat) : Int)), some (.ref e.1), some (.int ((j : Nat) : Int)), some (.ref e2.1), some (.ref xf), some (.ref DD), none] = [some (.ref a), some (.ref gd), some (.ref lh), some (.ref lm'), some (.ref lt), some (.int ((i : Nat) : Int)), some (.ref e.1), y7, y8, y9, y10, none] ∧ Same H8 U := fun s => ⟨_, _, _, _, rfl, s8b.trans s⟩
        refine ⟨_, rfl, _, rfl, by show 2 ≤ sizeLine; decide, fun tq ntq => ?_⟩
        have u12 := same_upd (o := .tup [.int ((i : Nat) : Int), .int ((j : Nat) : Int)]) ntq
        refine ⟨tq, _, rfl, .inr (SqT.of upd_same), rfl, rfl, ?_⟩
        generalize upd U11 tq (.tup [.int ((i : Nat) : Int), .int ((j : Nat) : Int)]) = U12 at u12 ⊢
        have s8c := s8b.trans u12
        have w12 := w11.trans u12
        have ein : inV (.int 2) [.int ((i : Nat) : Int), .int ((j : Nat) : Int)] = decide (i = 2 ∨ j = 2) := two_in i j
        have slf : i = j → SameR (jR3 e.2 e2.2) e.2 := fun ij => by
          subst ij
          rw [he] at he2
          cases he2
          exact join_self gf h1
        refine ⟨_, rfl, ?_⟩
        by_cases hin : i = 2 ∨ j = 2
        · refine ifT (by show inV _ _ = true; rw [ein]; exact decide_eq_true hin) ?_
          refine ⟨_, rfl, _, rfl, lm', _, _, _, rfl, rfl, SqL.of (s8c _ _ hlm8), atI_nat (j := 2) (by rw [List.getElem?_map, hx3]; rfl), ?_⟩
          refine Gk.ne_ (gkW.same w12) (gk3.same s8c) (HalfR.rsd j12 (Half.whole gf) ?_) fun U13 u13 => ⟨_, rfl, iteF ?_⟩
          · rcases hin with rfl | rfl
            · rw [← ees] at he
              cases he
              exact join_whole2 gf h2
            · rw [← ees] at he2
              cases he2
              exact join_whole gf h1
          refine ⟨_, rfl, _, rfl, rfl, _, rfl, ?_⟩
          by_cases hij : i = j
          · refine ifT (decide_eq_true (by rw [hij])) ?_
            refine ⟨_, rfl, _, rfl, _, rfl, lm', _, _, _, rfl, rfl, SqL.of ((s8c.trans u13) _ _ hlm8), xat hx1, ?_⟩
            refine Gk.ne_ (gkW.same (w12.trans u13)) (gk1.same (s8c.trans u13)) (HalfR.rsd j12 h1 (slf hij)) fun U14 u14 => ⟨_, rfl, iteF (fin ((u12.trans u13).trans u14))⟩
          · exact ifF (decide_eq_false (fun z => hij (by injection z with z; omega))) (iteF (fin (u12.trans u13)))
        · refine ifF (by show inV _ _ = false; rw [ein]; exact decide_eq_false hin) ?_
          refine iteF ?_
          refine ⟨_, rfl, _, rfl, rfl, _, rfl, ?_⟩
          by_cases hij : i = j
          · refine ifT (decide_eq_true (by rw [hij])) ?_
            refine ⟨_, rfl, _, rfl, _, rfl, lm', _, _, _, rfl, rfl, SqL.of (s8c _ _ hlm8), xat hx1, ?_⟩
            refine Gk.ne_ (gkW.same w12) (gk1.same s8c) (HalfR.rsd j12 h1 (slf hij)) fun U14 u14 => ⟨_, rfl, iteF (fin (u12.trans u14))⟩
          · exact ifF (decide_eq_false (fun z => hij (by injection z with z; omega))) (iteF (fin u12))
      · rintro σ Y ⟨y7, y8, y9, y10, rfl, sY'⟩
        exact ⟨_, _, _, _, _, _, rfl, sY'⟩
    · rintro σ Y ⟨y5, y6, y7, y8, y9, y10, rfl, sY⟩
      -- all three
      have get4 : ∀ k, k < 4 → ∃ e x, es[k]? = some e ∧ xs[k]? = some x ∧ Gk K P w G H8 x e.2 roof ∧ HalfR (rs, ms, ru) e.2 := fun k hk => by
        have e1 : es[k]? = some es[k] := List.getElem?_eq_getElem (by omega)
        have e2 : xs[k]? = some xs[k] := List.getElem?_eq_getElem (by omega)
        exact ⟨_, _, e1, e2, hxs k _ _ e1 e2, (hes _ (List.mem_of_getElem? e1)).2⟩
      obtain ⟨e0, x0, _, hx0, gk0, h0⟩ := get4 0 (by decide)
      obtain ⟨e1, x1, _, hx1, gk1, h1⟩ := get4 1 (by decide)
      obtain ⟨e3, x3, _, hx3, gk3, h3⟩ := get4 3 (by decide)
      have j01 := HalfR.join gf h0 h1
      have j10 := HalfR.join gf h1 h0
      have jA := HalfR.join gf j01 h3
      have jB := HalfR.join gf h3 j10
      obtain ⟨Z0, gr0⟩ := gk0.g
      obtain ⟨Z1, gr1⟩ := gk1.g
      obtain ⟨Z3, gr3⟩ := gk3.g
      have xi : ∀ {k : Nat} {x : Addr}, xs[k]? = some x → atI (xs.map V.ref) ((k : Nat) : Int) = some (.ref x) := xat
      refine ⟨_, rfl, lm', _, _, _, rfl, rfl, SqL.of (sY _ _ hlm8), xi hx0, _, rfl, lm', _, _, _, rfl, rfl, SqL.of (sY _ _ hlm8), xi hx1, Z0, Z1, x0, x1, _, _, _, _, _, _, roof, rfl, gr0.same sY, gk0.f, gr1.same sY, gk1.f, Half.agree gf h0 h1, Half.fit j01 gf, fun U1 y1 u1 ny1 gry1 rny1 => ?_⟩
      have w1 := sY.trans u1
      refine ⟨_, rfl, lm', _, _, _, rfl, rfl, SqL.of (w1 _ _ hlm8), xi hx3, _, Z3, y1, x3, _, _, _, _, _, _, roof, rfl, gry1, Half.fit j01 gf, gr3.same w1, gk3.f, Half.agree gf j01 h3, Half.fit jA gf, fun U2 y2 u2 ny2 gry2 rny2 => ?_⟩
      have w2 := w1.trans u2
      have gkA : Gk K P w G U2 y2 (jR3 (jR3 e0.2 e1.2) e3.2) roof := ⟨⟨_, gry2⟩, ⟨_, rny2⟩, Half.fit jA gf⟩
      refine ⟨_, rfl, lm', _, _, _, rfl, rfl, SqL.of (w2 _ _ hlm8), xi hx3, _, rfl, lm', _, _, _, rfl, rfl, SqL.of (w2 _ _ hlm8), xi hx1, _, rfl, lm', _, _, _, rfl, rfl, SqL.of (w2 _ _ hlm8), xi hx0, Z1, Z0, x1, x0, _, _, _, _, _, _, roof, rfl, gr1.same w2, gk1.f, gr0.same w2, gk0.f, Half.agree gf h1 h0, Half.fit j10 gf, fun U3 y3 u3 ny3 gry3 rny3 => ?_⟩
      have w3 := w2.trans u3
      refine ⟨Z3, _, x3, y3, _, _, _, _, _, _, roof, rfl, gr3.same w3, gk3.f, gry3, Half.fit j10 gf, Half.agree gf h3 j10, Half.fit jB gf, fun U4 y4 u4 ny4 gry4 rny4 => ?_⟩
      have w4 := w3.trans u4
      have gkB : Gk K P w G U4 y4 (jR3 e3.2 (jR3 e1.2 e0.2)) roof := ⟨⟨_, gry4⟩, ⟨_, rny4⟩, Half.fit jB gf⟩
      refine Gk.ne_ (gkA.same (u3.trans u4)) gkB (HalfR.rsd jA jB (join_three gf h0 h1 h3)) fun U5 u5 => ⟨_, rfl, iteF ?_⟩
      have w5 := w4.trans u5
      -- the texts again
      refine ⟨_, rfl, lm', rfl, ⟨_, SqL.of (w5 _ _ hlm8)⟩, fun lu nlu => ?_⟩
      refine lc_it (walk_list (xs := xs.map V.ref)) (fun i U => Same U5 U ∧ U lu = some (.lst ((es.take i).map fun e => V.str (gramS e.2.1 e.2.2.1 e.2.2.2 roof)))) ⟨same_upd nlu, upd_same⟩ (fun i U _ h => SqL.of ((w5.trans h.1) _ _ hlm8)) ?_ ?_
      · rintro i v U0 U hi ⟨sU, hU⟩ ⟨rfl, he⟩
        obtain ⟨x, hx2, rfl⟩ : ∃ x, xs[i]? = some x ∧ v = .ref x := by
          replace he : (xs.map V.ref)[i]? = some v := he
          rw [List.getElem?_map] at he
          cases h : xs[i]? with
          | none => rw [h] at he; cases he
          | some e => rw [h] at he; exact ⟨e, rfl, (Option.some.inj he).symm⟩
        have hix : i < xs.length := (List.getElem?_eq_some_iff.mp hx2).1
        obtain ⟨e, he2⟩ : ∃ e, es[i]? = some e := ⟨_, List.getElem?_eq_getElem (by omega)⟩
        have hg := (hxs i e x he2 hx2).same (w5.trans sU)
        obtain ⟨Z, gr⟩ := hg.g
        obtain ⟨dx, _, _, _, _, _, hx, _⟩ := gr.ex
        refine ⟨rfl, yesT ?_⟩
        refine ⟨_, rfl, x, dx, _, rfl, hx, Z, x, _, _, _, roof, rfl, gr, hg.f, fun U2 s2 => ⟨_, rfl, _, s2 _ _ hU, by rw [List.length_map, List.length_take]; exact small1000 (by omega), Same.at_ (sU.trans s2) nlu, ?_⟩⟩
        have tk : es.take (i + 1) = es.take i ++ [e] := by rw [List.take_add_one, he2]; rfl
        rw [upd_same, tk, List.map_append]
        rfl
      rintro U6 ⟨u6, hlu⟩
      rw [List.length_map, lxs, List.take_of_length_le (by omega)] at hlu
      have w6 := w5.trans u6
      have tsh : SeqAt.shaped (.list (es.map fun e => PyData.str (gramS e.2.1 e.2.2.1 e.2.2.2 roof))) = true := keys_sh (f := fun e : Addr × R3 => PyData.str (gramS e.2.1 e.2.2.1 e.2.2.2 roof)) (fun e he => gram_lay (Half.fit (hes e he).2 gf)) (fun _ => Nat.le_of_ble_eq_true rfl)
      refine ⟨_, rfl, _, _, .lst (SqL.of hlu) (dpAll_strs es), .lst (SqL.of (w6 _ _ hlt)) (dpAll_strs es), tsh, tsh, ?_⟩
      rw [SeqAt.eqv_refl _ (SeqAt.canLay_of_shaped tsh)]
      exact q _ (bt8.trans (But.of w6))
end
section
variable {P : Program} {w : World} {K : PySem.W.Frag} {mg : Str → Option Value} {base : Heap}
theorem ok_law55 (T : Ri55 mg) (c_law_folded : C8.Cal P w K mg base 1 "_law_folded" (spFold K) []) (c_law_dip : C8.Cal P w K mg base 1 "_law_dip" (spDip K) []) (c_law_right : C8.Cal P w K mg base 9 "_law_right" spRightG [])
    {f : Addr} {fd : FuncData} (F : L2.Fun K "law" "law" s_law f fd) : FnOk P w K mg base CX0 10 f fd ["_law_script"] (spLaw K) := by
  refine F.ok sc_law (fun vs H Q E h => ?_) (fun cdv A outer s H vs Q E hr h => ?_)
  · obtain ⟨a, ns, rfl, _⟩ := h
    rfl
  · obtain ⟨a, ns, rfl, hS, hlen, q⟩ := h
    refine ⟨_, (pss_cons (ps_set (i := 1) sc_law.nd rfl (Or.inr rfl) (C8.pe_c c_law_folded hr (by decide) (by rfl) (pa_cons (pv 0) (pa_cons pe_int pa_nil))))
        (pss_one (ps_ret (pe_callB (cr_all rfl) (by rfl) T.all (by decide +kernel) (pa_cons (pe_lc (own := [("_law_k", 2)]) (by exact rfl) sc_law.nd (pi_range1 rfl T.range (pa_cons (pe_callB (call_max2 rfl) (by rfl) T.max (by decide +kernel) (pa_cons pe_int (pa_cons (pe_callB call_len_seq (by rfl) T.len PySem.boot_len (pa_cons (pv 1) pa_nil)) pa_nil))) pa_nil)) (blkOk_by (own := [("_law_k", 2)]) (N := N_law) (sc := defScope s_law) (by decide +kernel)) (fun _ _ _ _ _ => (pg_name (i := 2) sc_law.nd rfl (Or.inl rfl))) (fun _ _ _ _ _ => pts_nil) (fun _ _ _ _ _ => (C8.pe_c c_law_right hr (by decide) (by rfl) (pa_cons (C8.pe_c c_law_dip hr (by decide) (by rfl) (pa_cons (pv 1) (pa_cons (pv 2) pa_nil))) pa_nil)))) pa_nil))))), ?_⟩
    refine ⟨_, rfl, a, 4, ns, rfl, hS, hlen, by decide, by decide, fun H0 cp ms s1 ncp hcp hml => ?_⟩
    refine ⟨_, rfl, cp, _, rfl, .inl (SqL.of hcp), _, _, rfl, _, rfl, ?_, ?_, fun D nD => ?_⟩
    · rw [List.length_map]
      split <;> omega
    · rw [List.length_map]
      split <;> omega
    have nDc : cp ≠ D := ne_of_none hcp nD
    rw [List.length_map]
    refine lc_range (lo := 0) (fun j H' => H' cp = some (.lst (ms.map V.int)) ∧ H' D = some (.lst ((List.replicate j true).map V.bl))) ⟨same_upd nD _ _ hcp, upd_same⟩ ?_ ?_
    · rintro j H' hj ⟨h1, h2⟩
      rw [Int.zero_add]
      have hj4 : j < 8 := by
        split at hj <;> omega
      refine ⟨rfl, yesT ?_⟩
      refine ⟨_, rfl, _, rfl, cp, j, ms, rfl, SqL.of h1, by omega, fun p b np hB => ?_⟩
      have npc : cp ≠ p := ne_of_none h1 np
      have npD : D ≠ p := ne_of_none h2 np
      refine ⟨p, b, rfl, upd_same, hB, fun H2 bt => ?_⟩
      have g1 := bt _ _ npc (same_upd np _ _ h1)
      have g2 := bt _ _ npD (same_upd np _ _ h2)
      refine ⟨_, g2, by rw [List.length_map, List.length_replicate]; exact small1000 (by omega), by rw [upd_ne nDc]; exact g1, ?_⟩
      rw [upd_same, List.replicate_succ', List.map_append]
      rfl
    · rintro H' ⟨h1, h2⟩
      refine ⟨D, _, rfl, SqL.of h2, ?_⟩
      rw [allTrue]
      exact q _
end
section
variable {w : World} {K : PySem.W.Frag} {h : Heap} {mg : Str → Option Value}
theorem fun_dd {x : Str} {st : Stmt} {ps : List Str} {f : Addr} {oc : Value} {od an : Option Addr} {osl : Array (Option Value)} {kV doc pm cdv ct : Value} (X : K.In h) (G : h.Ns mainGlobals mg) (a : PySem.W.nsIn K mainGlobals x = some (some (.ref f)))
    (l : K.lookup f = some ⟨oc, od, .func (PySem.W.fnOf x x (defArgs st) (defBody st) (defScope st) .none kV doc pm an cdv ct), osl⟩) (c : PySem.W.codeIn K cdv x = true) (k : PySem.W.keepIn K (.ref f) = true)
    (hb : ∀ (kV doc pm : Value) (an : Option Addr) (cdv ct : Value) (us : List Value), us.length = ps.length → bindArgs (PySem.W.fnOf x x (defArgs st) (defBody st) (defScope st) .none kV doc pm an cdv ct) ⟨us, []⟩ = pure (ps.zip us)) : Dd K mg x st ps :=
  ⟨f, _, fun_mk (st := st) l c k, PySem.W.mg_of X G a, (fun_mk (st := st) l c k).binds hb⟩
end
/-! ### from what the top has written: the class Grammar and its words -/
structure GIn (K : PySem.W.Frag) (mg : Str → Option Value) (C : Addr) : Prop where
  ex : ∃ (f : Addr) (fd : FuncData), FunD K "__init__" "Grammar.__init__" (defArgs s_GI) (defBody s_GI) (defScope s_GI) [] [("cap", .int 0)] f fd ∧ Mk K C f
  mg : mg "Grammar" = some (.ref C)
structure GMt (K : PySem.W.Frag) (C : Addr) (m qual : Str) (st : Stmt) (ps : List Str) : Prop where
  ex : ∃ (f : Addr) (fd : FuncData), L2.Fun K m qual st f fd ∧ Meth K C m f ∧ Binds K fd ps []
section
variable {w : World} {K : PySem.W.Frag} {h : Heap} {mg : Str → Option Value}
theorem fun_ddk {x kn : Str} {kv : V} {ku : Value} {st : Stmt} {f kd : Addr} {oc : Value} {od an : Option Addr} {osl : Array (Option Value)} {doc pm cdv ct : Value} (X : K.In h) (G : h.Ns mainGlobals mg) (a : PySem.W.nsIn K mainGlobals x = some (some (.ref f)))
    (l : K.lookup f = some ⟨oc, od, .func (PySem.W.fnOf x x (defArgs st) (defBody st) (defScope st) .none (.ref kd) doc pm an cdv ct), osl⟩) (c : PySem.W.codeIn K cdv x = true) (k : PySem.W.keepIn K (.ref f) = true)
    (d : PySem.W.nsIn K kd kn = some (some ku)) (r : RelV kv ku) : DdK K mg x st [(kn, kv)] :=
  ⟨f, _, ⟨⟨_, _, _, _, _, _, _, _, _, _, rfl, l, c, .inl ⟨rfl, rfl⟩, .inr ⟨kd, rfl, fun q hq => by
    rw [List.mem_singleton.mp hq]
    exact ⟨_, d, r⟩⟩⟩, k⟩, PySem.W.mg_of X G a⟩
def AllOp : List DictEntry → Prop
  | [] => True
  | e :: r => (∃ (o : Op) (t : Tok), e.key = .str o.w t) ∧ AllOp r
theorem parts_at {PD : Addr} {es : Array DictEntry} {n : Nat} (l : K.lookup PD = some ⟨.type "dict", none, .dict es n, #[]⟩) (kl : PySem.W.KeysLit w.params es.toList) (lo : (PD == sysModules) = false)
    (ns : ∀ o : Op, ∃ t, PySem.W.nsIn K PD o.w = some (some (.int (o.n : Nat) t))) : PartsAt K w PD where
  kd := ⟨es, n, l, kl, lo⟩
  ops := fun o => by
    obtain ⟨t, e⟩ := ns o
    exact ⟨⟨es, n, _, l, kl, e, ⟨_, rfl⟩⟩, _, e⟩
theorem ops_of {PD : Addr} {t1 t2 t3 t4 t5 t6 t7 t8 t9 t10 t11 : Tok} (h1 : PySem.W.nsIn K PD "copy" = some (some (.int 1 t1))) (h2 : PySem.W.nsIn K PD "plus" = some (some (.int 2 t2))) (h3 : PySem.W.nsIn K PD "less" = some (some (.int 2 t3))) (h4 : PySem.W.nsIn K PD "times" = some (some (.int 2 t4))) (h5 : PySem.W.nsIn K PD "over" = some (some (.int 2 t5))) (h6 : PySem.W.nsIn K PD "rest" = some (some (.int 2 t6))) (h7 : PySem.W.nsIn K PD "least" = some (some (.int 2 t7))) (h8 : PySem.W.nsIn K PD "most" = some (some (.int 2 t8))) (h9 : PySem.W.nsIn K PD "same" = some (some (.int 2 t9))) (h10 : PySem.W.nsIn K PD "under" = some (some (.int 2 t10))) (h11 : PySem.W.nsIn K PD "pick" = some (some (.int 3 t11))) : ∀ o : Op, ∃ t, PySem.W.nsIn K PD o.w = some (some (.int (o.n : Nat) t)) := fun o => by
  cases o with
  | copy => exact ⟨_, h1⟩
  | plus => exact ⟨_, h2⟩
  | less => exact ⟨_, h3⟩
  | times => exact ⟨_, h4⟩
  | over => exact ⟨_, h5⟩
  | rest => exact ⟨_, h6⟩
  | least => exact ⟨_, h7⟩
  | most => exact ⟨_, h8⟩
  | same => exact ⟨_, h9⟩
  | under => exact ⟨_, h10⟩
  | pick => exact ⟨_, h11⟩
theorem gcls_of {C : Addr} (c1 : PySem.W.plainGet K C Str.empty = true) (c2 : PySem.W.hasDictIn K C = true) (c3 : PySem.W.plainOver K C = true) (c4 : PySem.W.findIn K (.ref C) "__setattr__" = some (some (.builtin "object.__setattr__"))) (n1 : PySem.W.findIn K (.ref C) "top" = some none) (n2 : PySem.W.findIn K (.ref C) "sort_table" = some none) (n3 : PySem.W.findIn K (.ref C) "making_table" = some none) (n4 : PySem.W.findIn K (.ref C) "rule_table" = some none) (n5 : PySem.W.findIn K (.ref C) "kept_table" = some none) (n6 : PySem.W.findIn K (.ref C) "risen" = some none) : GCls K C := ⟨⟨c1, c2, c3, c4⟩, n1, n2, n3, n4, n5, n6⟩
theorem fun_gi {C f kd : Addr} {oc : Value} {od an : Option Addr} {osl : Array (Option Value)} {doc pm cdv ct : Value} {t : Tok} (X : K.In h) (G : h.Ns mainGlobals mg) (a : PySem.W.nsIn K mainGlobals "Grammar" = some (some (.ref C)))
    (m1 : PySem.W.makesIn K C = true) (m2 : PySem.W.findIn K (.ref C) "__init__" = some (some (.ref f))) (m3 : PySem.W.isFn K (.ref f) = true) (m4 : PySem.W.keepIn K (.ref C) = true)
    (l : K.lookup f = some ⟨oc, od, .func (PySem.W.fnOf "__init__" "Grammar.__init__" (defArgs s_GI) (defBody s_GI) (defScope s_GI) .none (.ref kd) doc pm an cdv ct), osl⟩) (c : PySem.W.codeIn K cdv "Grammar.__init__" = true) (k : PySem.W.keepIn K (.ref f) = true)
    (d : PySem.W.nsIn K kd "cap" = some (some (.int 0 t))) : GIn K mg C where
  ex := ⟨f, _, ⟨⟨_, _, _, _, _, _, _, _, _, _, rfl, l, c, .inl ⟨rfl, rfl⟩, .inr ⟨kd, rfl, fun q hq => by
    rw [List.mem_singleton.mp hq]
    exact ⟨_, d, ⟨_, rfl⟩⟩⟩⟩, k⟩, ⟨m1, m2, m3, m4⟩⟩
  mg := PySem.W.mg_of X G a
theorem fun_gm {C f : Addr} {m qual : Str} {st : Stmt} {ps : List Str} {oc : Value} {od an : Option Addr} {osl : Array (Option Value)} {kV doc pm cdv ct : Value} (m1 : PySem.W.findIn K (.ref C) m = some (some (.ref f))) (m2 : PySem.W.isFn K (.ref f) = true) (k : PySem.W.keepIn K (.ref f) = true)
    (l : K.lookup f = some ⟨oc, od, .func (PySem.W.fnOf m qual (defArgs st) (defBody st) (defScope st) .none kV doc pm an cdv ct), osl⟩) (c : PySem.W.codeIn K cdv qual = true)
    (hb : ∀ (kV doc pm : Value) (an : Option Addr) (cdv ct : Value) (us : List Value), us.length = ps.length → bindArgs (PySem.W.fnOf m qual (defArgs st) (defBody st) (defScope st) .none kV doc pm an cdv ct) ⟨us, []⟩ = pure (ps.zip us)) : GMt K C m qual st ps :=
  ⟨f, _, fun_mk (st := st) l c k, ⟨m1, m2, k⟩, (fun_mk (st := st) l c k).binds hb⟩
end
/-! ### what isinstance asks of the class Grammar -/
theorem kit_self {K : PySem.W.Frag} {C : Addr} : PySem.W.kitOne K (.ref C) (.ref C) = some true := by
  have n : (Value.ref C == Value.ref C) = true := by simp
  unfold PySem.W.kitOne
  rw [n]
  rfl
theorem insC_of {K : PySem.W.Frag} {C : Addr} (c : Cls K C) (a7 : PySem.W.findIn K (.ref C) "__class__" = some (some (.builtin "object.__class__"))) (a8 : PySem.W.specialIn K (.builtin "object.__class__") "__get__" = some (some (.builtin "getset_descriptor.__get__")))
    (a9 : PySem.W.takesIn K (.builtin "object.__class__") = some true) (a10 : PySem.W.mroIn K C (.type "object") = some true) : C8.InsC K C := ⟨c, a7, a8, a9, a10, kit_self⟩
theorem all_mk {l : PySem.W.OpenLaw} {w : World} {K : PySem.W.Frag} {h : Heap} {mg : Str → Option Value} {fa  f4 : Addr} (X : K.In h) (G : h.Ns mainGlobals mg) (hfa : mg "law" = some (.ref fa))
    {t0 t1 t2 t3 t4 t5 t6 : Tok} (a10 : PySem.W.nsIn K mainGlobals "BOUND" = some (some (.int 1000000 t0))) (a11 : PySem.W.nsIn K mainGlobals "SIGNS" = some (some (.int 6 t1))) (a12 : PySem.W.nsIn K mainGlobals "LETTERS" = some (some (.str LETS t2))) (a13 : PySem.W.nsIn K mainGlobals "CAP" = some (some (.int 9 t3))) (a14 : PySem.W.nsIn K mainGlobals "SORTS" = some (some (.int 4 t4))) (a15 : PySem.W.nsIn K mainGlobals "MAKINGS" = some (some (.int 8 t5))) (a16 : PySem.W.nsIn K mainGlobals "EACH" = some (some (.int 2 t6)))
    {PD LA GC : Addr} (aP : PySem.W.nsIn K mainGlobals "PARTS" = some (some (.ref PD))) (PA : PartsAt K w PD)
    (aLT : PySem.W.nsIn K mainGlobals "LET" = some (some (.ref LA))) {dL : Option Addr} {itL : Array Value} {nL : Nat} {slL : Array (Option Value)} (lLT : K.lookup LA = some ⟨.type "tuple", dL, .seq itL nL, slL⟩) (vL : Vals [.str "copy", .str "plus", .str "least", .str "most"] itL.toList)
    (DKo : DdK K mg "op_let" s_op_let [("cap", .int 0)]) (GC1 : GCls K GC) (GI1 : GIn K mg GC)
    (GM0 : GMt K GC "sorts" "Grammar.sorts" s_Gs ["self"])
    (GM1 : GMt K GC "makings" "Grammar.makings" s_Gm ["self"])
    (GM2 : GMt K GC "rules" "Grammar.rules" s_Gr ["self"])
    (GM3 : GMt K GC "cap" "Grammar.cap" s_GC N_GC)
    (GM4 : GMt K GC "__str__" "Grammar.__str__" s_GStr N_GC)
    (GM5 : GMt K GC "__eq__" "Grammar.__eq__" s_GEq N_GE)
    (IC : C8.InsC K GC) (hne : PySem.W.findIn K (.ref GC) "__ne__" = some (some (.builtin "object.__ne__"))) (hmo : PySem.W.mroIn K GC (.type "object") = some true)
    (z0 : PySem.W.nsIn K mainGlobals "len" = some none) (z1 : PySem.W.nsIn K mainGlobals "abs" = some none) (z2 : PySem.W.nsIn K mainGlobals "int" = some none) (z3 : PySem.W.nsIn K mainGlobals "list" = some none) (z4 : PySem.W.nsIn K mainGlobals "enumerate" = some none) (z5 : PySem.W.nsIn K mainGlobals "range" = some none) (z6 : PySem.W.nsIn K mainGlobals "tuple" = some none) (z7 : PySem.W.nsIn K mainGlobals "dict" = some none) (z8 : PySem.W.nsIn K mainGlobals "isinstance" = some none) (z9 : PySem.W.nsIn K mainGlobals "bool" = some none) (z10 : PySem.W.nsIn K mainGlobals "str" = some none) (z11 : PySem.W.nsIn K mainGlobals "zip" = some none) (z12 : PySem.W.nsIn K mainGlobals "all" = some none) (z13 : PySem.W.nsIn K mainGlobals "sorted" = some none) (z14 : PySem.W.nsIn K mainGlobals "max" = some none) (z15 : PySem.W.nsIn K mainGlobals "set" = some none)
    (D0 : Dd K mg "is_number" s_is_number P_is_number) (D1 : Dd K mg "is_worth" s_is_worth P_is_worth) (D2 : Dd K mg "is_name" s_is_name P_is_name) (D3 : Dd K mg "is_tuple_of" s_is_tuple_of P_is_tuple_of) (D4 : Dd K mg "is_op" s_is_op P_is_op) (D5 : Dd K mg "parts_of" s_parts_of P_parts_of) (D6 : Dd K mg "rows_of" s_rows_of P_rows_of) (D7 : Dd K mg "cap_in" s_cap_in P_cap_in) (D8 : Dd K mg "are_names" s_are_names P_are_names) (D9 : Dd K mg "sort_stands" s_sort_stands P_sort_stands) (D10 : Dd K mg "sorts_in" s_sorts_in P_sorts_in) (D11 : Dd K mg "making_stands" s_making_stands P_making_stands) (D12 : Dd K mg "makings_in" s_makings_in P_makings_in) (D13 : Dd K mg "worths_at" s_worths_at P_worths_at) (D14 : Dd K mg "is_at" s_is_at P_is_at) (D15 : Dd K mg "is_kept" s_is_kept P_is_kept) (D16 : Dd K mg "is_target" s_is_target P_is_target) (D17 : Dd K mg "is_operand" s_is_operand P_is_operand) (D18 : Dd K mg "kept_by" s_kept_by P_kept_by) (D19 : Dd K mg "rule_is_so" s_rule_is_so P_rule_is_so) (D20 : Dd K mg "rules_in" s_rules_in P_rules_in) (D21 : Dd K mg "_law_made" s__law_made P__law_made) (D22 : Dd K mg "term_text" s_term_text P_term_text) (D23 : Dd K mg "sort_text" s_sort_text P_sort_text) (D24 : Dd K mg "making_text" s_making_text P_making_text) (D25 : Dd K mg "rule_text" s_rule_text P_rule_text) (D26 : Dd K mg "text_rows" s_text_rows P_text_rows) (D27 : Dd K mg "told_by_name" s_told_by_name P_told_by_name) (D28 : Dd K mg "unlike" s_unlike P_unlike) (D29 : Dd K mg "clashes" s_clashes P_clashes) (D30 : Dd K mg "rows_joined" s_rows_joined P_rows_joined) (D31 : Dd K mg "joined" s_joined P_joined) (D32 : Dd K mg "_law_take" s__law_take P__law_take) (D33 : Dd K mg "_law_dip" s__law_dip P__law_dip) (D34 : Dd K mg "_law_folded" s__law_folded P__law_folded) (D35 : Dd K mg "_law_one_of" s__law_one_of P__law_one_of) (D36 : Dd K mg "_law_strewn" s__law_strewn P__law_strewn) (D37 : Dd K mg "_law_named" s__law_named P__law_named) (D38 : Dd K mg "_law_number" s__law_number P__law_number) (D39 : Dd K mg "_law_sort_rows" s__law_sort_rows P__law_sort_rows) (D40 : Dd K mg "_law_rules_for" s__law_rules_for P__law_rules_for) (D41 : Dd K mg "_law_drawn" s__law_drawn P__law_drawn) (D42 : Dd K mg "_law_any" s__law_any P__law_any) (D43 : Dd K mg "_law_same" s__law_same P__law_same) (D44 : Dd K mg "_law_dict" s__law_dict P__law_dict) (D45 : Dd K mg "_law_half" s__law_half P__law_half) (D46 : Dd K mg "_law_more" s__law_more P__law_more) (D47 : Dd K mg "_law_right" s__law_right P__law_right)
    {od4 an4 : Option Addr} {sl4 : Array (Option Value)} {oc4 kV4 dc4 pm4 cd4 ct4 : Value}
    (a4 : PySem.W.nsIn K mainGlobals "law" = some (some (.ref f4))) (l4 : K.lookup f4 = some ⟨oc4, od4, .func (PySem.W.fnOf "law" "law" (defArgs s_law) (defBody s_law) (defScope s_law) .none kV4 dc4 pm4 an4 cd4 ct4), sl4⟩) (c4 : PySem.W.codeIn K cd4 "law" = true) (k4 : PySem.W.keepIn K (.ref f4) = true) :
    ∃ fd : FuncData, (∀ (s : Shared) (v : Value), BindsTo s fd ⟨[v], []⟩ [("_law_script", v)]) ∧ ∀ base : Heap, K.In base → base.Ns mainGlobals mg → FnOk l.prog w K mg base CX0 10 fa fd ["_law_script"] (spLaw K) := by
  have e := hfa.symm.trans (PySem.W.mg_of X G a4)
  cases e
  have F4 := fun_mk (st := s_law) l4 c4 k4
  have m0 := PySem.W.mg_none_of X G z0
  have m1 := PySem.W.mg_none_of X G z1
  have m2 := PySem.W.mg_none_of X G z2
  have m3 := PySem.W.mg_none_of X G z3
  have m4 := PySem.W.mg_none_of X G z4
  have m5 := PySem.W.mg_none_of X G z5
  have m6 := PySem.W.mg_none_of X G z6
  have m7 := PySem.W.mg_none_of X G z7
  have m8 := PySem.W.mg_none_of X G z8
  have m9 := PySem.W.mg_none_of X G z9
  have m10 := PySem.W.mg_none_of X G z10
  have m11 := PySem.W.mg_none_of X G z11
  have m12 := PySem.W.mg_none_of X G z12
  have m13 := PySem.W.mg_none_of X G z13
  have m14 := PySem.W.mg_none_of X G z14
  have m15 := PySem.W.mg_none_of X G z15
  have TB : Bt mg := ⟨m0, m1, m2, m3, m4, m5⟩
  have TSo : So mg := ⟨m5, m6⟩
  have TRu : Ru mg := ⟨m5, m3, m0, m2, m6⟩
  have TDw : Dw mg := ⟨m5, m0, m7, m6, m4⟩
  have TS : Sa mg := ⟨m8, m3, m6, m9, m10, m2, m0, m11, m12, m5⟩
  have TTx : Tx22 mg := ⟨m10⟩
  have TCl : Cl55 mg := ⟨m13⟩
  have TDi : Di55 mg := ⟨m7⟩
  have THa : Ha55 mg := ⟨m12⟩
  have TR : Ri55 mg := ⟨m4, m2, m10, m5, m12, m14, m0⟩
  have TGb : Gb mg := ⟨m8, m2, m9, m10, m6, m3, m0, m12, m15, m13, m4⟩
  have TN : Nu mg := ⟨m8, m2, m9, m6, m0⟩
  refine ⟨PySem.W.fnOf "law" "law" (defArgs s_law) (defBody s_law) (defScope s_law) .none kV4 dc4 pm4 an4 cd4 ct4, fun s v => .of_eq rfl, fun base _ _ => ?_⟩
  have ct := ok_take (P := l.prog) (w := w) (base := base) D32
  have co := ok_one_of TB ct D35
  have cu := ok_number ct D38
  have cn := ok_named TB ct D37
  have cs := ok_strewn TB ct D36
  have cr := ok_sort_rows TSo ct cn cs D39
  have cf := ok_rules_for TRu ct cn cs co cu D40
  have cd := ok_drawn TDw ct cn (ok_strewnT TB ct D36) co cr cf D41
  have ca := ok_any ct cd D42
  
  have hL : ∀ H, SqT K H LA [.str "copy", .str "plus", .str "least", .str "most"] := fun H => .inr ⟨_, itL, nL, lLT, rfl, rfl, by
    have z : itL.toList.length = 4 := by first | exact vL.length | exact vL.length.symm
    have z2 : itL.size = 4 := by
      rw [← Array.length_toList]
      exact z
    rw [z2]
    decide, vL⟩
  have TG : Gg mg PD LA := ⟨⟨_, PySem.W.mg_of X G a10, ⟨_, rfl⟩⟩, ⟨_, PySem.W.mg_of X G a11, ⟨_, rfl⟩⟩, ⟨_, PySem.W.mg_of X G a12, ⟨_, rfl⟩⟩, ⟨_, PySem.W.mg_of X G a13, ⟨_, rfl⟩⟩, ⟨_, PySem.W.mg_of X G a14, ⟨_, rfl⟩⟩, ⟨_, PySem.W.mg_of X G a15, ⟨_, rfl⟩⟩, ⟨_, PySem.W.mg_of X G a16, ⟨_, rfl⟩⟩, PySem.W.mg_of X G aP, PySem.W.mg_of X G aLT⟩
  have gNu := ok_is_number (P := l.prog) (w := w) (base := base) TN D0
  have gWo := ok_is_worth TGb TG gNu D1
  have gNa := ok_is_nameT (P := l.prog) (w := w) (base := base) TGb TG D2
  have gTu := ok_is_tuple_of (P := l.prog) (w := w) (base := base) TGb D3
  have gOp := ok_is_op (P := l.prog) (w := w) (base := base) TGb TG PA D4
  have gPa := ok_parts_of TG PA gOp D5
  have gLe := ok_op_letT TG hL gOp DKo
  have gRo := ok_rows_of (P := l.prog) (w := w) (base := base) TGb D6
  have gCa := ok_cap_in TGb TG gNu D7
  have gAn := ok_are_names TGb TG gNa D8
  have gSs := ok_sort_stands TGb TG gNa gTu gAn D9
  have gSi := ok_sorts_in TGb gRo gSs D10
  have gMs := ok_making_stands TGb TG gNa gTu gAn D11
  have gMi := ok_makings_in TGb gRo gMs D12
  have gWa := ok_worths_at TGb gNu D13
  have gIa := ok_is_at gTu D14
  have gIk := ok_is_kept gTu gNa D15
  have gIt := ok_is_target gIa gIk gWa D16
  have gIo := ok_is_operand gIa gIk gWa gTu gWo D17
  have gKb := ok_kept_by (P := l.prog) (w := w) (base := base) TGb D18
  have gRs := ok_rule_is_so TGb gTu gNa gIt gOp gLe gPa gIo D19
  have gRi := ok_rules_in TGb TG gRo gRs gKb D20
  obtain ⟨fG, fdG, FG, MG⟩ := GI1.ex
  have okG := ok_GI TGb GC1 gCa gSi gMi gRi gKb FG
  have gmk := gmk_of FG okG MG GI1.mg
  have cmade := ok_made TGb gmk D21
  obtain ⟨fs, fds, Fs, ms, bs⟩ := GM0.ex
  have Ms : C8.Met l.prog w K mg base 1 GC "sorts" (spRowsOf K l.prog w GC fun rs _ _ => rs.map SRow.d) [] := ⟨fs, fds, _, [], GC1.c, ms, ok_Gs GC1 Fs, bs, .nil⟩
  obtain ⟨fa, fda, Fa, ma, ba⟩ := GM1.ex
  have Ma : C8.Met l.prog w K mg base 1 GC "makings" (spRowsOf K l.prog w GC fun _ ms _ => ms.map MRow.d) [] := ⟨fa, fda, _, [], GC1.c, ma, ok_Gm GC1 Fa, ba, .nil⟩
  obtain ⟨fr, fdr, Fr, mr, br⟩ := GM2.ex
  have Mr : C8.Met l.prog w K mg base 1 GC "rules" (spRowsOf K l.prog w GC fun _ _ ru => ru.map RRow.d) [] := ⟨fr, fdr, _, [], GC1.c, mr, ok_Gr GC1 Fr, br, .nil⟩
  obtain ⟨fc, fdc, Fc, mc, bc⟩ := GM3.ex
  have Mc : C8.Met l.prog w K mg base 1 GC "cap" (spCapG K l.prog w GC) [] := ⟨fc, fdc, _, [], GC1.c, mc, ok_cap_of GC1 Fc, bc, .nil⟩
  obtain ⟨fT, fdT, FT, mT, bT⟩ := GM4.ex
  obtain ⟨fE, fdE, FE, mE, bE⟩ := GM5.ex
  have gE := ok_geqx (P := l.prog) (w := w) (base := base) m8 GI1.mg IC GC1 FE
  have ctx := ok_term_text (P := l.prog) (w := w) (K := K) (base := base) TTx D22
  have ctr := ok_text_rows Mc Ms Ma Mr (ok_sort_text D23) (ok_making_text D24) (ok_rule_text ctx D25) D26
  have gS := ok_gstr ctr FT
  have ctd := ok_told Ms Ma Mr D27
  have cun := ok_unlike (P := l.prog) (w := w) (base := base) D28
  have ccl := ok_clashes TCl Mc ctd cun D29
  have cjo := ok_joined gmk Mc Ms Ma Mr ccl (ok_rows_joined (P := l.prog) (w := w) (base := base) D30) D31
  have cdi := ok_dict55 (P := l.prog) (w := w) (base := base) TDi D44
  have cha := ok_half55 THa ct cs cdi D45
  have csa := ok_same (P := l.prog) (w := w) (base := base) TS D43 5
  exact ok_law55 TR (ok_folded TB D34) (ok_dip TB D33) (ok_right55 TR ct ca cha cdi cmade cjo ccl (ok_more (P := l.prog) (w := w) (base := base) D46) csa Ms Ma Mr Mc gS mT.at_ mT.fn bT gE mE.at_ mE.fn bE hne hmo D47) F4
end Thr
open PySem PySem.W PyProof.Rows
set_option maxRecDepth 100000 in
set_option maxHeartbeats 0 in
theorem PySem.Challenge.cw_threereckons_k55_grammars_joined_holds : PySem.Challenge.rw_threereckons_k55_grammars_joined.Holds := by
  w_on; o_law; k_head; (case hw => w_witness2)
  k_fill
  refine L2.walk_of (l := PySem.Challenge.rw_threereckons_k55_grammars_joined) (n := 63) (k := 10) (x := "_law_script") (CX := fun _ => L2.CX0) (sp := fun w => Thr.spLaw _) rfl (by decide) rfl ⟨rfl, by decide, by decide⟩ (fun w h Y => PySem.W.kIn_of Y) ?F (fun _ _ a ns hl _ hS => ⟨a, ns, rfl, hS, hl, fun _ => rfl⟩) (fun _ _ _ _ _ h => h)
  case F =>
    intro w mg fa h KX G hmg
    refine' Thr.all_mk KX G hmg
      ?kn0 ?kn1 ?kn2 ?kn3 ?kn4 ?kn5 ?kn6
      ?aP (Thr.parts_at ?lP ?kl ?lo (Thr.ops_of ?p1 ?p2 ?p3 ?p4 ?p5 ?p6 ?p7 ?p8 ?p9 ?p10 ?p11)) ?aLT ?lLT ?vL
      (Thr.fun_ddk KX G ?ko1 ?ko2 ?ko3 ?ko4 ?ko5 ?ko6) (Thr.gcls_of ?gc1 ?gc2 ?gc3 ?gc4 ?gn1 ?gn2 ?gn3 ?gn4 ?gn5 ?gn6) (Thr.fun_gi KX G ?gi1 ?gi2 ?gi3 ?gi4 ?gi5 ?gi6 ?gi7 ?gi8 ?gi9)
      (Thr.fun_gm ?mm0_1 ?mm0_2 ?mm0_3 ?mm0_4 ?mm0_5 ?mm0_6)
      (Thr.fun_gm ?mm1_1 ?mm1_2 ?mm1_3 ?mm1_4 ?mm1_5 ?mm1_6)
      (Thr.fun_gm ?mm2_1 ?mm2_2 ?mm2_3 ?mm2_4 ?mm2_5 ?mm2_6)
      (Thr.fun_gm ?mm3_1 ?mm3_2 ?mm3_3 ?mm3_4 ?mm3_5 ?mm3_6)
      (Thr.fun_gm ?mm4_1 ?mm4_2 ?mm4_3 ?mm4_4 ?mm4_5 ?mm4_6)
      (Thr.fun_gm ?mm5_1 ?mm5_2 ?mm5_3 ?mm5_4 ?mm5_5 ?mm5_6)
      (Thr.insC_of ⟨?ic1, ?ic2, ?ic3, ?ic4⟩ ?ic5 ?ic6 ?ic7 ?ic8) ?hne ?hmo
      ?z0 ?z1 ?z2 ?z3 ?z4 ?z5 ?z6 ?z7 ?z8 ?z9 ?z10 ?z11 ?z12 ?z13 ?z14 ?z15
      (Thr.fun_dd KX G ?x0 ?w0 ?u0 ?t0 ?s0)
      (Thr.fun_dd KX G ?x1 ?w1 ?u1 ?t1 ?s1)
      (Thr.fun_dd KX G ?x2 ?w2 ?u2 ?t2 ?s2)
      (Thr.fun_dd KX G ?x3 ?w3 ?u3 ?t3 ?s3)
      (Thr.fun_dd KX G ?x4 ?w4 ?u4 ?t4 ?s4)
      (Thr.fun_dd KX G ?x5 ?w5 ?u5 ?t5 ?s5)
      (Thr.fun_dd KX G ?x6 ?w6 ?u6 ?t6 ?s6)
      (Thr.fun_dd KX G ?x7 ?w7 ?u7 ?t7 ?s7)
      (Thr.fun_dd KX G ?x8 ?w8 ?u8 ?t8 ?s8)
      (Thr.fun_dd KX G ?x9 ?w9 ?u9 ?t9 ?s9)
      (Thr.fun_dd KX G ?x10 ?w10 ?u10 ?t10 ?s10)
      (Thr.fun_dd KX G ?x11 ?w11 ?u11 ?t11 ?s11)
      (Thr.fun_dd KX G ?x12 ?w12 ?u12 ?t12 ?s12)
      (Thr.fun_dd KX G ?x13 ?w13 ?u13 ?t13 ?s13)
      (Thr.fun_dd KX G ?x14 ?w14 ?u14 ?t14 ?s14)
      (Thr.fun_dd KX G ?x15 ?w15 ?u15 ?t15 ?s15)
      (Thr.fun_dd KX G ?x16 ?w16 ?u16 ?t16 ?s16)
      (Thr.fun_dd KX G ?x17 ?w17 ?u17 ?t17 ?s17)
      (Thr.fun_dd KX G ?x18 ?w18 ?u18 ?t18 ?s18)
      (Thr.fun_dd KX G ?x19 ?w19 ?u19 ?t19 ?s19)
      (Thr.fun_dd KX G ?x20 ?w20 ?u20 ?t20 ?s20)
      (Thr.fun_dd KX G ?x21 ?w21 ?u21 ?t21 ?s21)
      (Thr.fun_dd KX G ?x22 ?w22 ?u22 ?t22 ?s22)
      (Thr.fun_dd KX G ?x23 ?w23 ?u23 ?t23 ?s23)
      (Thr.fun_dd KX G ?x24 ?w24 ?u24 ?t24 ?s24)
      (Thr.fun_dd KX G ?x25 ?w25 ?u25 ?t25 ?s25)
      (Thr.fun_dd KX G ?x26 ?w26 ?u26 ?t26 ?s26)
      (Thr.fun_dd KX G ?x27 ?w27 ?u27 ?t27 ?s27)
      (Thr.fun_dd KX G ?x28 ?w28 ?u28 ?t28 ?s28)
      (Thr.fun_dd KX G ?x29 ?w29 ?u29 ?t29 ?s29)
      (Thr.fun_dd KX G ?x30 ?w30 ?u30 ?t30 ?s30)
      (Thr.fun_dd KX G ?x31 ?w31 ?u31 ?t31 ?s31)
      (Thr.fun_dd KX G ?x32 ?w32 ?u32 ?t32 ?s32)
      (Thr.fun_dd KX G ?x33 ?w33 ?u33 ?t33 ?s33)
      (Thr.fun_dd KX G ?x34 ?w34 ?u34 ?t34 ?s34)
      (Thr.fun_dd KX G ?x35 ?w35 ?u35 ?t35 ?s35)
      (Thr.fun_dd KX G ?x36 ?w36 ?u36 ?t36 ?s36)
      (Thr.fun_dd KX G ?x37 ?w37 ?u37 ?t37 ?s37)
      (Thr.fun_dd KX G ?x38 ?w38 ?u38 ?t38 ?s38)
      (Thr.fun_dd KX G ?x39 ?w39 ?u39 ?t39 ?s39)
      (Thr.fun_dd KX G ?x40 ?w40 ?u40 ?t40 ?s40)
      (Thr.fun_dd KX G ?x41 ?w41 ?u41 ?t41 ?s41)
      (Thr.fun_dd KX G ?x42 ?w42 ?u42 ?t42 ?s42)
      (Thr.fun_dd KX G ?x43 ?w43 ?u43 ?t43 ?s43)
      (Thr.fun_dd KX G ?x44 ?w44 ?u44 ?t44 ?s44)
      (Thr.fun_dd KX G ?x45 ?w45 ?u45 ?t45 ?s45)
      (Thr.fun_dd KX G ?x46 ?w46 ?u46 ?t46 ?s46)
      (Thr.fun_dd KX G ?x47 ?w47 ?u47 ?t47 ?s47)
      ?a4 ?l4 ?c4 ?k4
    (case kn0 => k_is)
    (case kn1 => k_is)
    (case kn2 => k_is)
    (case kn3 => k_is)
    (case kn4 => k_is)
    (case kn5 => k_is)
    (case kn6 => k_is)
    (case aP => k_is)
    (case lP => k_is)
    (case kl => (repeat (first | exact trivial | refine ⟨⟨_, _, rfl, rfl⟩, ?_⟩)))
    (case lo => rfl)
    (case p1 => k_is)
    (case p2 => k_is)
    (case p3 => k_is)
    (case p4 => k_is)
    (case p5 => k_is)
    (case p6 => k_is)
    (case p7 => k_is)
    (case p8 => k_is)
    (case p9 => k_is)
    (case p10 => k_is)
    (case p11 => k_is)
    (case aLT => k_is)
    (case lLT => k_is)
    (case vL => exact .cons ⟨_, rfl⟩ (.cons ⟨_, rfl⟩ (.cons ⟨_, rfl⟩ (.cons ⟨_, rfl⟩ .nil))))
    (case ko1 => k_is)
    (case ko2 => k_is)
    (case ko3 => k_is)
    (case ko4 => k_is)
    (case ko5 => k_is)
    (case ko6 => exact ⟨_, rfl⟩)
    (case gi1 => k_is)
    (case gi2 => k_is)
    (case gi3 => k_is)
    (case gi4 => k_is)
    (case gi5 => k_is)
    (case gi6 => k_is)
    (case gi7 => k_is)
    (case gi8 => k_is)
    (case gi9 => k_is)
    (case gc1 => k_is)
    (case gc2 => k_is)
    (case gc3 => k_is)
    (case gc4 => k_is)
    (case gn1 => k_is)
    (case gn2 => k_is)
    (case gn3 => k_is)
    (case gn4 => k_is)
    (case gn5 => k_is)
    (case gn6 => k_is)
    (case mm0_1 => k_is)
    (case mm0_2 => k_is)
    (case mm0_3 => k_is)
    (case mm0_4 => k_is)
    (case mm0_5 => k_is)
    (case mm0_6 => exact fun _ _ _ _ _ _ us hl => match us, hl with | [_], _ => rfl)
    (case mm1_1 => k_is)
    (case mm1_2 => k_is)
    (case mm1_3 => k_is)
    (case mm1_4 => k_is)
    (case mm1_5 => k_is)
    (case mm1_6 => exact fun _ _ _ _ _ _ us hl => match us, hl with | [_], _ => rfl)
    (case mm2_1 => k_is)
    (case mm2_2 => k_is)
    (case mm2_3 => k_is)
    (case mm2_4 => k_is)
    (case mm2_5 => k_is)
    (case mm2_6 => exact fun _ _ _ _ _ _ us hl => match us, hl with | [_], _ => rfl)
    (case mm3_1 => k_is)
    (case mm3_2 => k_is)
    (case mm3_3 => k_is)
    (case mm3_4 => k_is)
    (case mm3_5 => k_is)
    (case mm3_6 => exact fun _ _ _ _ _ _ us hl => match us, hl with | [_], _ => rfl)
    (case mm4_1 => k_is)
    (case mm4_2 => k_is)
    (case mm4_3 => k_is)
    (case mm4_4 => k_is)
    (case mm4_5 => k_is)
    (case mm4_6 => exact fun _ _ _ _ _ _ us hl => match us, hl with | [_], _ => rfl)
    (case mm5_1 => k_is)
    (case mm5_2 => k_is)
    (case mm5_3 => k_is)
    (case mm5_4 => k_is)
    (case mm5_5 => k_is)
    (case mm5_6 => exact fun _ _ _ _ _ _ us hl => match us, hl with | [_, _], _ => rfl)
    (case ic1 => k_is)
    (case ic2 => k_is)
    (case ic3 => k_is)
    (case ic4 => k_is)
    (case ic5 => k_is)
    (case ic6 => k_is)
    (case ic7 => k_is)
    (case ic8 => k_is)
    (case hne => k_is)
    (case hmo => k_is)
    (case z0 => k_is)
    (case z1 => k_is)
    (case z2 => k_is)
    (case z3 => k_is)
    (case z4 => k_is)
    (case z5 => k_is)
    (case z6 => k_is)
    (case z7 => k_is)
    (case z8 => k_is)
    (case z9 => k_is)
    (case z10 => k_is)
    (case z11 => k_is)
    (case z12 => k_is)
    (case z13 => k_is)
    (case z14 => k_is)
    (case z15 => k_is)
    (case x0 => k_is)
    (case w0 => k_is)
    (case u0 => k_is)
    (case t0 => k_is)
    (case s0 => exact fun _ _ _ _ _ _ us hl => match us, hl with | [_], _ => rfl)
    (case x1 => k_is)
    (case w1 => k_is)
    (case u1 => k_is)
    (case t1 => k_is)
    (case s1 => exact fun _ _ _ _ _ _ us hl => match us, hl with | [_], _ => rfl)
    (case x2 => k_is)
    (case w2 => k_is)
    (case u2 => k_is)
    (case t2 => k_is)
    (case s2 => exact fun _ _ _ _ _ _ us hl => match us, hl with | [_], _ => rfl)
    (case x3 => k_is)
    (case w3 => k_is)
    (case u3 => k_is)
    (case t3 => k_is)
    (case s3 => exact fun _ _ _ _ _ _ us hl => match us, hl with | [_, _], _ => rfl)
    (case x4 => k_is)
    (case w4 => k_is)
    (case u4 => k_is)
    (case t4 => k_is)
    (case s4 => exact fun _ _ _ _ _ _ us hl => match us, hl with | [_], _ => rfl)
    (case x5 => k_is)
    (case w5 => k_is)
    (case u5 => k_is)
    (case t5 => k_is)
    (case s5 => exact fun _ _ _ _ _ _ us hl => match us, hl with | [_], _ => rfl)
    (case x6 => k_is)
    (case w6 => k_is)
    (case u6 => k_is)
    (case t6 => k_is)
    (case s6 => exact fun _ _ _ _ _ _ us hl => match us, hl with | [_, _], _ => rfl)
    (case x7 => k_is)
    (case w7 => k_is)
    (case u7 => k_is)
    (case t7 => k_is)
    (case s7 => exact fun _ _ _ _ _ _ us hl => match us, hl with | [_], _ => rfl)
    (case x8 => k_is)
    (case w8 => k_is)
    (case u8 => k_is)
    (case t8 => k_is)
    (case s8 => exact fun _ _ _ _ _ _ us hl => match us, hl with | [_], _ => rfl)
    (case x9 => k_is)
    (case w9 => k_is)
    (case u9 => k_is)
    (case t9 => k_is)
    (case s9 => exact fun _ _ _ _ _ _ us hl => match us, hl with | [_, _], _ => rfl)
    (case x10 => k_is)
    (case w10 => k_is)
    (case u10 => k_is)
    (case t10 => k_is)
    (case s10 => exact fun _ _ _ _ _ _ us hl => match us, hl with | [_], _ => rfl)
    (case x11 => k_is)
    (case w11 => k_is)
    (case u11 => k_is)
    (case t11 => k_is)
    (case s11 => exact fun _ _ _ _ _ _ us hl => match us, hl with | [_, _, _], _ => rfl)
    (case x12 => k_is)
    (case w12 => k_is)
    (case u12 => k_is)
    (case t12 => k_is)
    (case s12 => exact fun _ _ _ _ _ _ us hl => match us, hl with | [_, _], _ => rfl)
    (case x13 => k_is)
    (case w13 => k_is)
    (case u13 => k_is)
    (case t13 => k_is)
    (case s13 => exact fun _ _ _ _ _ _ us hl => match us, hl with | [_, _, _], _ => rfl)
    (case x14 => k_is)
    (case w14 => k_is)
    (case u14 => k_is)
    (case t14 => k_is)
    (case s14 => exact fun _ _ _ _ _ _ us hl => match us, hl with | [_], _ => rfl)
    (case x15 => k_is)
    (case w15 => k_is)
    (case u15 => k_is)
    (case t15 => k_is)
    (case s15 => exact fun _ _ _ _ _ _ us hl => match us, hl with | [_, _, _], _ => rfl)
    (case x16 => k_is)
    (case w16 => k_is)
    (case u16 => k_is)
    (case t16 => k_is)
    (case s16 => exact fun _ _ _ _ _ _ us hl => match us, hl with | [_, _, _], _ => rfl)
    (case x17 => k_is)
    (case w17 => k_is)
    (case u17 => k_is)
    (case t17 => k_is)
    (case s17 => exact fun _ _ _ _ _ _ us hl => match us, hl with | [_, _, _], _ => rfl)
    (case x18 => k_is)
    (case w18 => k_is)
    (case u18 => k_is)
    (case t18 => k_is)
    (case s18 => exact fun _ _ _ _ _ _ us hl => match us, hl with | [_, _], _ => rfl)
    (case x19 => k_is)
    (case w19 => k_is)
    (case u19 => k_is)
    (case t19 => k_is)
    (case s19 => exact fun _ _ _ _ _ _ us hl => match us, hl with | [_, _, _, _], _ => rfl)
    (case x20 => k_is)
    (case w20 => k_is)
    (case u20 => k_is)
    (case t20 => k_is)
    (case s20 => exact fun _ _ _ _ _ _ us hl => match us, hl with | [_, _, _, _], _ => rfl)
    (case x21 => k_is)
    (case w21 => k_is)
    (case u21 => k_is)
    (case t21 => k_is)
    (case s21 => exact fun _ _ _ _ _ _ us hl => match us, hl with | [_], _ => rfl)
    (case x22 => k_is)
    (case w22 => k_is)
    (case u22 => k_is)
    (case t22 => k_is)
    (case s22 => exact fun _ _ _ _ _ _ us hl => match us, hl with | [_], _ => rfl)
    (case x23 => k_is)
    (case w23 => k_is)
    (case u23 => k_is)
    (case t23 => k_is)
    (case s23 => exact fun _ _ _ _ _ _ us hl => match us, hl with | [_], _ => rfl)
    (case x24 => k_is)
    (case w24 => k_is)
    (case u24 => k_is)
    (case t24 => k_is)
    (case s24 => exact fun _ _ _ _ _ _ us hl => match us, hl with | [_], _ => rfl)
    (case x25 => k_is)
    (case w25 => k_is)
    (case u25 => k_is)
    (case t25 => k_is)
    (case s25 => exact fun _ _ _ _ _ _ us hl => match us, hl with | [_], _ => rfl)
    (case x26 => k_is)
    (case w26 => k_is)
    (case u26 => k_is)
    (case t26 => k_is)
    (case s26 => exact fun _ _ _ _ _ _ us hl => match us, hl with | [_], _ => rfl)
    (case x27 => k_is)
    (case w27 => k_is)
    (case u27 => k_is)
    (case t27 => k_is)
    (case s27 => exact fun _ _ _ _ _ _ us hl => match us, hl with | [_], _ => rfl)
    (case x28 => k_is)
    (case w28 => k_is)
    (case u28 => k_is)
    (case t28 => k_is)
    (case s28 => exact fun _ _ _ _ _ _ us hl => match us, hl with | [_, _], _ => rfl)
    (case x29 => k_is)
    (case w29 => k_is)
    (case u29 => k_is)
    (case t29 => k_is)
    (case s29 => exact fun _ _ _ _ _ _ us hl => match us, hl with | [_, _], _ => rfl)
    (case x30 => k_is)
    (case w30 => k_is)
    (case u30 => k_is)
    (case t30 => k_is)
    (case s30 => exact fun _ _ _ _ _ _ us hl => match us, hl with | [_, _, _], _ => rfl)
    (case x31 => k_is)
    (case w31 => k_is)
    (case u31 => k_is)
    (case t31 => k_is)
    (case s31 => exact fun _ _ _ _ _ _ us hl => match us, hl with | [_, _], _ => rfl)
    (case x32 => k_is)
    (case w32 => k_is)
    (case u32 => k_is)
    (case t32 => k_is)
    (case s32 => exact fun _ _ _ _ _ _ us hl => match us, hl with | [_, _], _ => rfl)
    (case x33 => k_is)
    (case w33 => k_is)
    (case u33 => k_is)
    (case t33 => k_is)
    (case s33 => exact fun _ _ _ _ _ _ us hl => match us, hl with | [_, _], _ => rfl)
    (case x34 => k_is)
    (case w34 => k_is)
    (case u34 => k_is)
    (case t34 => k_is)
    (case s34 => exact fun _ _ _ _ _ _ us hl => match us, hl with | [_, _], _ => rfl)
    (case x35 => k_is)
    (case w35 => k_is)
    (case u35 => k_is)
    (case t35 => k_is)
    (case s35 => exact fun _ _ _ _ _ _ us hl => match us, hl with | [_, _], _ => rfl)
    (case x36 => k_is)
    (case w36 => k_is)
    (case u36 => k_is)
    (case t36 => k_is)
    (case s36 => exact fun _ _ _ _ _ _ us hl => match us, hl with | [_, _], _ => rfl)
    (case x37 => k_is)
    (case w37 => k_is)
    (case u37 => k_is)
    (case t37 => k_is)
    (case s37 => exact fun _ _ _ _ _ _ us hl => match us, hl with | [_, _], _ => rfl)
    (case x38 => k_is)
    (case w38 => k_is)
    (case u38 => k_is)
    (case t38 => k_is)
    (case s38 => exact fun _ _ _ _ _ _ us hl => match us, hl with | [_], _ => rfl)
    (case x39 => k_is)
    (case w39 => k_is)
    (case u39 => k_is)
    (case t39 => k_is)
    (case s39 => exact fun _ _ _ _ _ _ us hl => match us, hl with | [_, _], _ => rfl)
    (case x40 => k_is)
    (case w40 => k_is)
    (case u40 => k_is)
    (case t40 => k_is)
    (case s40 => exact fun _ _ _ _ _ _ us hl => match us, hl with | [_, _, _, _, _], _ => rfl)
    (case x41 => k_is)
    (case w41 => k_is)
    (case u41 => k_is)
    (case t41 => k_is)
    (case s41 => exact fun _ _ _ _ _ _ us hl => match us, hl with | [_, _, _], _ => rfl)
    (case x42 => k_is)
    (case w42 => k_is)
    (case u42 => k_is)
    (case t42 => k_is)
    (case s42 => exact fun _ _ _ _ _ _ us hl => match us, hl with | [_], _ => rfl)
    (case x43 => k_is)
    (case w43 => k_is)
    (case u43 => k_is)
    (case t43 => k_is)
    (case s43 => exact fun _ _ _ _ _ _ us hl => match us, hl with | [_, _], _ => rfl)
    (case x44 => k_is)
    (case w44 => k_is)
    (case u44 => k_is)
    (case t44 => k_is)
    (case s44 => exact fun _ _ _ _ _ _ us hl => match us, hl with | [_, _, _, _], _ => rfl)
    (case x45 => k_is)
    (case w45 => k_is)
    (case u45 => k_is)
    (case t45 => k_is)
    (case s45 => exact fun _ _ _ _ _ _ us hl => match us, hl with | [_, _, _], _ => rfl)
    (case x46 => k_is)
    (case w46 => k_is)
    (case u46 => k_is)
    (case t46 => k_is)
    (case s46 => exact fun _ _ _ _ _ _ us hl => match us, hl with | [_, _, _], _ => rfl)
    (case x47 => k_is)
    (case w47 => k_is)
    (case u47 => k_is)
    (case t47 => k_is)
    (case s47 => exact fun _ _ _ _ _ _ us hl => match us, hl with | [_], _ => rfl)
    (case a4 => k_is)
    (case l4 => k_is)
    (case c4 => k_is)
    (case k4 => k_is)
